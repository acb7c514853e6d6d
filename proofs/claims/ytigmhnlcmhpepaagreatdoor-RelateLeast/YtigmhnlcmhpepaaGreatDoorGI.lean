/-
  Texts put together: ReR, ReLay, ReS.
-/
import Derived.Test.YtigmhnlcmhpepaaGreatDoorReM
import Derived.Test.YtigmhnlcmhpepaaGreatDoorV0
import Derived.Shelf.SlSortCmp.WholeK
namespace Go.Proofs.YtigmhnlcmhpepaaGreatDoor
open Go Go.RowKit Go.Deep Go.Shelf

namespace Re
/-- The cells of a list. -/
def fl {α : Type} (enc : α → List Value) (D : List α) : List Value := D.flatMap enc
section
variable {α : Type} {enc : α → List Value} {k : Nat} (hk : ∀ x, (enc x).length = k)
include hk
theorem fl_len (D : List α) : (fl enc D).length = D.length * k := by
  induction D with
  | nil => simp [fl]
  | cons x D ih => rw [fl, List.flatMap_cons, List.length_append, hk, ← fl, ih, List.length_cons, Nat.add_mul, Nat.one_mul, Nat.add_comm]
theorem fl_at : ∀ {D : List α} {i : Nat} {a : α}, D[i]? = some a → ∀ j, j < k → (fl enc D)[i * k + j]? = (enc a)[j]?
  | [], i, a, h, _, _ => by simp at h
  | b :: D, 0, a, h, j, hj => by
    obtain rfl : b = a := Option.some.inj h
    rw [fl, List.flatMap_cons, List.getElem?_append_left (by rw [hk]; omega)]
    simp
  | b :: D, i + 1, a, h, j, hj => by
    rw [fl, List.flatMap_cons, List.getElem?_append_right (by rw [hk, Nat.add_mul]; omega), ← fl]
    rw [← fl_at (D := D) (i := i) (a := a) (by simpa using h) j hj]
    congr 1
    rw [hk, Nat.add_mul]
    omega
/-- One thing of a list, written. -/
theorem fl_set : ∀ (D : List α) (i : Nat) (x : α), i < D.length → (fl enc D).take (i * k) ++ enc x ++ (fl enc D).drop (i * k + k) = fl enc (D.set i x)
  | [], i, x, h => by simp at h
  | b :: D, 0, x, _ => by
    rw [List.set_cons_zero, fl, fl, List.flatMap_cons, List.flatMap_cons, Nat.zero_mul, List.take_zero, List.nil_append, Nat.zero_add, List.drop_append_of_le_length (by rw [hk]; omega), List.drop_of_length_le (by rw [hk]; omega), List.nil_append]
  | b :: D, i + 1, x, h => by
    have ih := fl_set D i x (by simpa using h)
    rw [List.set_cons_succ, fl, fl, List.flatMap_cons, List.flatMap_cons, ← fl, ← fl, ← ih]
    have e : (i + 1) * k = (enc b).length + i * k := by rw [hk, Nat.add_mul]; omega
    rw [e, List.take_append, List.drop_append]
    have e1 : (enc b).take ((enc b).length + i * k) = enc b := List.take_of_length_le (by omega)
    have e2 : (enc b).drop ((enc b).length + i * k + k) = [] := List.drop_of_length_le (by omega)
    rw [e1, e2, List.nil_append, show (enc b).length + i * k - (enc b).length = i * k by omega, show (enc b).length + i * k + k - (enc b).length = i * k + k by omega]
    simp [List.append_assoc]
end
/-- Cells of a block, written one behind the other. -/
theorem bx_setc {g t : Nat} : ∀ (vs : List Value) (o : Nat) (w : World) (L : List Value), Bx w g t L.toArray → o + vs.length ≤ L.length → Bx (w.setCells g o vs) g t (L.take o ++ vs ++ L.drop (o + vs.length)).toArray
  | [], o, w, L, h, _ => by
    have e : L.take o ++ [] ++ L.drop (o + ([] : List Value).length) = L := by simp
    rw [e]; exact h
  | v :: r, o, w, L, h, hl => by
    simp only [List.length_cons] at hl
    have h1 : Bx (w.setCell ⟨g, o, none⟩ v) g t (L.set o v).toArray := by
      have := h.set o v
      rwa [List.setIfInBounds_toArray] at this
    have h2 := bx_setc r (o + 1) _ (L.set o v) h1 (by rw [List.length_set]; omega)
    have e : (L.set o v).take (o + 1) ++ r ++ (L.set o v).drop (o + 1 + r.length) = L.take o ++ v :: r ++ L.drop (o + (v :: r).length) := by
      have e1 : (L.set o v).take (o + 1) = L.take o ++ [v] := by
        rw [List.take_add_one, List.take_set, List.getElem?_set_self (by omega)]
        rw [List.set_eq_of_length_le (by rw [List.length_take]; omega)]
        rfl
      have e2 : (L.set o v).drop (o + 1 + r.length) = L.drop (o + 1 + r.length) := by
        rw [List.drop_set_of_lt (by omega)]
      rw [e1, e2, List.length_cons, show o + 1 + r.length = o + (r.length + 1) by omega]
      simp [List.append_assoc]
    rw [e] at h2
    exact h2
section
variable {α : Type} {enc : α → List Value} {k : Nat} (hk : ∀ x, (enc x).length = k)
include hk
theorem bx_put {g t i : Nat} {D : List α} {w : World} (h : Bx w g t (fl enc D).toArray) (x : α) (hi : i < D.length) : Bx (w.setCells g (i * k) (enc x)) g t (fl enc (D.set i x)).toArray := by
  have e := fl_len hk D
  have m : i * k + k ≤ D.length * k := by
    have := Nat.mul_le_mul_right k (show i + 1 ≤ D.length from hi)
    rwa [Nat.add_mul, Nat.one_mul] at this
  have := bx_setc (enc x) (i * k) w (fl enc D) h (by rw [hk]; omega)
  rw [hk, fl_set hk D i x hi] at this
  exact this
theorem bx_cell {g t i : Nat} {D : List α} {w : World} {a : α} (h : Bx w g t (fl enc D).toArray) (hi : D[i]? = some a) (j : Nat) (hj : j < k) (v : Value) (hv : (enc a)[j]? = some v) : w.cell? ⟨g, i * k + j, none⟩ = some v :=
  h.cell _ _ (by rw [List.getElem?_toArray, fl_at hk hi j hj]; exact hv)
theorem bx_range {g t i : Nat} {D : List α} {w : World} {a : α} (h : Bx w g t (fl enc D).toArray) (hi : D[i]? = some a) : w.rangeAt g (i * k) (enc a) := fun j v hv =>
  bx_cell hk h hi j (by rw [← hk a]; exact (List.getElem?_eq_some_iff.1 hv).1) v hv
theorem bx_there {g t i : Nat} {D : List α} {w : World} (h : Bx w g t (fl enc D).toArray) (hi : i < D.length) : w.there g (i * k) k := fun c hc => by
  obtain ⟨a, ha⟩ : ∃ a, D[i]? = some a := ⟨_, List.getElem?_eq_getElem hi⟩
  have hv : (enc a)[c]? = some ((enc a)[c]'(by rw [hk]; exact hc)) := List.getElem?_eq_getElem _
  exact ⟨by rw [bx_cell hk h ha c hc _ hv]; rfl, h.free _⟩
end
/-- What makeSlice lays. -/
theorem made_fl {α : Type} {enc : α → List Value} {k : Nat} (hk : ∀ x, (enc x).length = k) (z : α) (k0 : 0 < k) (n : Nat) : madeCells (enc z).toArray (n * k) = (fl enc (List.replicate n z)).toArray := by
  have sz : (enc z).toArray.size = k := by rw [List.size_toArray]; exact hk z
  have l2 := fl_len hk (List.replicate n z)
  rw [List.length_replicate] at l2
  apply Array.ext
  · rw [size_madeCells, List.size_toArray, l2]
  · intro j h1 h2
    rw [size_madeCells] at h1
    have hi : j / k < n := Nat.div_lt_of_lt_mul (by rwa [Nat.mul_comm])
    have hc : j % k < k := Nat.mod_lt _ k0
    have e := fl_at hk (D := List.replicate n z) (i := j / k) (a := z) (by simp [hi]) (j % k) hc
    rw [Nat.div_add_mod'] at e
    have hz : j % k < (enc z).length := by rw [hk]; exact hc
    rw [List.getElem?_eq_getElem (by rw [l2]; exact h1), List.getElem?_eq_getElem hz] at e
    have e3 : (fl enc (List.replicate n z)).toArray[j] = (enc z)[j % k] := Option.some.inj e
    rw [e3]
    simp [madeCells, hk]
    rw [List.getElem?_eq_getElem hz]
    rfl
/-- A row that is filled from its beginning on. -/
def fil {α : Type} (T : List α) (z : α) (i : Nat) : List α := T.take i ++ List.replicate (T.length - i) z
theorem fil_zero {α : Type} (T : List α) (z : α) : fil T z 0 = List.replicate T.length z := by simp [fil]
theorem fil_all {α : Type} (T : List α) (z : α) : fil T z T.length = T := by simp [fil]
theorem fil_len {α : Type} (T : List α) (z : α) {i : Nat} (h : i ≤ T.length) : (fil T z i).length = T.length := by simp [fil]; omega
theorem fil_at {α : Type} (T : List α) (z : α) {i : Nat} (h : i < T.length) : (fil T z i)[i]? = some z := by
  rw [fil, List.getElem?_append_right (by simp; omega), List.length_take, List.getElem?_replicate]
  rw [if_pos (by omega)]
theorem fil_set {α : Type} (T : List α) (z : α) {i : Nat} {x : α} (h : T[i]? = some x) : (fil T z i).set i x = fil T z (i + 1) := by
  have hl : i < T.length := (List.getElem?_eq_some_iff.1 h).1
  unfold fil
  have l1 : (T.take i).length = i := by rw [List.length_take]; omega
  rw [List.set_append_right _ _ (by omega), l1, Nat.sub_self]
  have e : T.length - i = (T.length - (i + 1)) + 1 := by omega
  rw [e, List.replicate_succ, List.set_cons_zero, List.take_add_one, h]
  simp
end Re
end Go.Proofs.YtigmhnlcmhpepaaGreatDoor

namespace Go.Proofs.YtigmhnlcmhpepaaGreatDoor
open Go Go.RowKit Go.Deep Go.Shelf

def sortLays_ren : Go.Shelf.Ren := ⟨fun | 6 => 34 | 14 => 44 | 15 => 45 | 20 => 57 | 21 => 58 | 22 => 59 | 23 => 60 | 24 => 61 | 25 => 62 | 26 => 63 | 27 => 64 | 28 => 65 | 29 => 66 | 46 => 75 | 47 => 76 | 48 => 77 | 49 => 78 | 50 => 79 | 57 => 101 | n => n, fun | 22 => 82 | 23 => 83 | 24 => 66 | 25 => 84 | 27 => 50 | 29 => 95 | 33 => 321 | 37 => 100 | 38 => 101 | 39 => 102 | 42 => 112 | 44 => 117 | 45 => 118 | 46 => 119 | 47 => 120 | 48 => 121 | 49 => 122 | 50 => 85 | 51 => 123 | 52 => 124 | 53 => 125 | 54 => 114 | 55 => 22 | 66 => 147 | 67 => 148 | 68 => 149 | 69 => 150 | 70 => 151 | 71 => 152 | 76 => 174 | 77 => 175 | 78 => 176 | 81 => 192 | 82 => 329 | 83 => 330 | 84 => 331 | 85 => 332 | 86 => 333 | 87 => 47 | 88 => 334 | 89 => 335 | 90 => 336 | 91 => 173 | 92 => 337 | 93 => 338 | 94 => 339 | 95 => 340 | 96 => 248 | n => n, fun | n => n⟩
theorem sortLays : Go.Proofs.SlLaysF0.n6 Tryz.prog sortLays_ren := {
  mixed := by kernel_rfl
  f6 := ⟨ "slices.SortFunc[[]abacus/relate.ticket,abacus/relate.ticket]", by kernel_rfl, Tryz.func34.trans (congrArg some (by kernel_rfl))⟩
  f14 := ⟨ "slices.pdqsortCmpFunc[abacus/relate.ticket]", by kernel_rfl, Tryz.func44.trans (congrArg some (by kernel_rfl))⟩
  f15 := Tryz.func45.trans (congrArg some (by kernel_rfl))
  f20 := ⟨ "slices.insertionSortCmpFunc[abacus/relate.ticket]", by kernel_rfl, Tryz.func57.trans (congrArg some (by kernel_rfl))⟩
  f21 := ⟨ "slices.heapSortCmpFunc[abacus/relate.ticket]", by kernel_rfl, Tryz.func58.trans (congrArg some (by kernel_rfl))⟩
  f22 := ⟨ "slices.breakPatternsCmpFunc[abacus/relate.ticket]", by kernel_rfl, Tryz.func59.trans (congrArg some (by kernel_rfl))⟩
  f23 := ⟨ "slices.choosePivotCmpFunc[abacus/relate.ticket]", by kernel_rfl, Tryz.func60.trans (congrArg some (by kernel_rfl))⟩
  f24 := ⟨ "slices.reverseRangeCmpFunc[abacus/relate.ticket]", by kernel_rfl, Tryz.func61.trans (congrArg some (by kernel_rfl))⟩
  f25 := ⟨ "slices.partialInsertionSortCmpFunc[abacus/relate.ticket]", by kernel_rfl, Tryz.func62.trans (congrArg some (by kernel_rfl))⟩
  f26 := ⟨ "slices.partitionEqualCmpFunc[abacus/relate.ticket]", by kernel_rfl, Tryz.func63.trans (congrArg some (by kernel_rfl))⟩
  f27 := ⟨ "slices.partitionCmpFunc[abacus/relate.ticket]", by kernel_rfl, Tryz.func64.trans (congrArg some (by kernel_rfl))⟩
  f28 := Tryz.func65.trans (congrArg some (by kernel_rfl))
  f29 := Tryz.func66.trans (congrArg some (by kernel_rfl))
  f46 := ⟨ "slices.siftDownCmpFunc[abacus/relate.ticket]", by kernel_rfl, Tryz.func75.trans (congrArg some (by kernel_rfl))⟩
  f47 := Tryz.func76.trans (congrArg some (by kernel_rfl))
  f48 := Tryz.func77.trans (congrArg some (by kernel_rfl))
  f49 := ⟨ "slices.medianAdjacentCmpFunc[abacus/relate.ticket]", by kernel_rfl, Tryz.func78.trans (congrArg some (by kernel_rfl))⟩
  f50 := ⟨ "slices.medianCmpFunc[abacus/relate.ticket]", by kernel_rfl, Tryz.func79.trans (congrArg some (by kernel_rfl))⟩
  f57 := ⟨ "slices.order2CmpFunc[abacus/relate.ticket]", by kernel_rfl, Tryz.func101.trans (congrArg some (by kernel_rfl))⟩
  t0 := Tryz.underlying0
  a0 := Tryz.isAgg0
  z0 := Tryz.sizeOf0
  v0 := Tryz.zeroValue0
  t3 := Tryz.underlying3
  a3 := Tryz.isAgg3
  z3 := Tryz.sizeOf3
  v3 := Tryz.zeroValue3
  t4 := Tryz.underlying4
  a4 := Tryz.isAgg4
  z4 := Tryz.sizeOf4
  v4 := Tryz.zeroValue4
  t5 := Tryz.underlying5
  a5 := Tryz.isAgg5
  z5 := Tryz.sizeOf5
  v5 := Tryz.zeroValue5
  t9 := Tryz.underlying9
  a9 := Tryz.isAgg9
  z9 := Tryz.sizeOf9
  v9 := Tryz.zeroValue9
  t22 := Tryz.underlying82
  a22 := Tryz.isAgg82
  z22 := Tryz.sizeOf82
  v22 := Tryz.zeroValue82
  t25 := Tryz.underlying84
  a25 := Tryz.isAgg84
  z25 := Tryz.sizeOf84
  v25 := Tryz.zeroValue84
  t39 := Tryz.underlying102
  a39 := Tryz.isAgg102
  z39 := Tryz.sizeOf102
  v39 := Tryz.zeroValue102
  t45 := Tryz.underlying118
  a45 := Tryz.isAgg118
  z45 := Tryz.sizeOf118
  v45 := Tryz.zeroValue118
  t46 := Tryz.underlying119
  a46 := Tryz.isAgg119
  z46 := Tryz.sizeOf119
  v46 := Tryz.zeroValue119
  t50 := Tryz.underlying85
  a50 := Tryz.isAgg85
  z50 := Tryz.sizeOf85
  v50 := Tryz.zeroValue85
  t53 := Tryz.underlying125
  a53 := Tryz.isAgg125
  z53 := Tryz.sizeOf125
  v53 := Tryz.zeroValue125
  t55 := Tryz.underlying22
  a55 := Tryz.isAgg22
  z55 := Tryz.sizeOf22
  v55 := Tryz.zeroValue22
  t66 := Tryz.underlying147
  a66 := Tryz.isAgg147
  z66 := Tryz.sizeOf147
  v66 := Tryz.zeroValue147
  t70 := Tryz.underlying151
  a70 := Tryz.isAgg151
  z70 := Tryz.sizeOf151
  v70 := Tryz.zeroValue151
  t76 := Tryz.underlying174
  a76 := Tryz.isAgg174
  z76 := Tryz.sizeOf174
  v76 := Tryz.zeroValue174
  t77 := Tryz.underlying175
  a77 := Tryz.isAgg175
  z77 := Tryz.sizeOf175
  v77 := Tryz.zeroValue175 }
end Go.Proofs.YtigmhnlcmhpepaaGreatDoor

namespace Go.Proofs.YtigmhnlcmhpepaaGreatDoor
open Go Go.RowKit Go.Deep Go.Shelf

namespace Re
/-- A raw value. -/
structure Vl where
  k : Int
  n : Int
  s : ByteArray
  deriving Inhabited
/-- Values that can be read. -/
def LV (w : World) (p : Option Addr) (A : List Vl) : Prop := A = [] ∨ ∃ b off, p = some ⟨b, off, none⟩ ∧ ∀ i a, A[i]? = some a → w.cell? ⟨b, off + i * 3, none⟩ = some (.int .i64 a.k) ∧ w.cell? ⟨b, off + i * 3 + 1, none⟩ = some (.int .u64 a.n) ∧ w.cell? ⟨b, off + i * 3 + 2, none⟩ = some (.string a.s)
theorem LV.on {w w' : World} {p : Option Addr} {A : List Vl} (h : LV w p A) (b : Below w.heap.size w w') : LV w' p A := by
  rcases h with h | ⟨g, o, e, h⟩
  · exact .inl h
  · refine .inr ⟨g, o, e, fun i a hi => ?_⟩
    obtain ⟨c0, c1, c2⟩ := h i a hi
    exact ⟨by rw [b.cell (cell_lt c0)]; exact c0, by rw [b.cell (cell_lt c1)]; exact c1, by rw [b.cell (cell_lt c2)]; exact c2⟩
theorem LV.at {w : World} {p : Option Addr} {A : List Vl} (h : LV w p A) {i : Nat} {a : Vl} (hi : A[i]? = some a) : ∃ b off, p = some ⟨b, off, none⟩ ∧ w.cell? ⟨b, off + i * 3, none⟩ = some (.int .i64 a.k) ∧ w.cell? ⟨b, off + i * 3 + 1, none⟩ = some (.int .u64 a.n) ∧ w.cell? ⟨b, off + i * 3 + 2, none⟩ = some (.string a.s) := by
  rcases h with rfl | ⟨g, o, e, h⟩
  · simp at hi
  · exact ⟨g, o, e, h i a hi⟩
/-- Its tickets. -/
def tks (A : List Vl) : List Tk := A.mapIdx fun i a => ⟨rt a.k a.n a.s, (i : Int)⟩
theorem tks_len (A : List Vl) : (tks A).length = A.length := by simp [tks]
theorem tks_at {A : List Vl} {i : Nat} {a : Vl} (h : A[i]? = some a) : (tks A)[i]? = some ⟨rt a.k a.n a.s, (i : Int)⟩ := by simp [tks, h]
theorem et_len (x : Tk) : (et x).length = 4 := by
  obtain ⟨t, n, s, e⟩ := er_ex x.r
  rw [et, e]; rfl
theorem et_one (x : Tk) : ∀ v ∈ et x, v.oneCell' = true := fun v hv => by
  obtain ⟨t, n, s, e⟩ := er_ex x.r
  rw [et, e] at hv
  simp only [List.mem_append, List.mem_cons, List.not_mem_nil, or_false] at hv
  rcases hv with (rfl | rfl | rfl) | rfl <;> rfl
def zt : Tk := ⟨.nu 0, 0⟩
def ei (x : Int) : List Value := [.int .i64 x]
theorem ei_len (x : Int) : (ei x).length = 1 := rfl
/-- A ticket ahead of another: a strict order. -/
theorem swo : Go.Sort.SWO (ltOf ct) where
  irrefl x := by
    have := ct_anti x x
    simp [ltOf]; omega
  trans x y z h1 h2 := by
    simp only [ltOf, decide_eq_true_eq] at *
    have a := ct_trans (x := x) (y := y) (z := z) (by omega) (by omega)
    have b := ct_b x z
    have c : ct x z ≠ 0 := fun e => by
      have := ct_zero e
      subst this
      have := ct_anti x y
      omega
    omega
  ntrans x y z h1 h2 := by
    simp only [ltOf, decide_eq_false_iff_not] at *
    have e1 := ct_anti x y
    have e2 := ct_anti y z
    have e3 := ct_anti x z
    have a := ct_trans (x := z) (y := y) (z := x) (by omega) (by omega)
    omega
/-- What Sort answers: the numbers of the tickets in their order. -/
def Sorts (A : List Vl) (P : List Int) : Prop := ∃ D : List Tk, D.Perm (tks A) ∧ D.Pairwise (fun x y => ct x y ≤ 0) ∧ P = D.map (·.i)
theorem kp_sorted {w : World} {g m : Nat} {d : Array Tk} {os : Array Obj} : Kp (fun b => b = g) w (sortWorldK et 4 w g 0 m d os) := by
  refine ⟨rfl, rfl, rfl, size_sortWorldK_c et 4 w g 0 m d os, fun b hb hne => ?_⟩
  show ((w.heap.modify g _) ++ os)[b]? = w.heap[b]?
  rw [Array.getElem?_append_left (by simpa using hb), Array.getElem?_modify, if_neg (fun e => hne e.symm)]
theorem holds_row {w : World} {g t : Nat} {d : Array Tk} (h : Bx w g t (fl et d.toList).toArray) : Go.Sort.HoldsK et 4 w g 0 d := by
  intro j hj
  have hs : (Go.Sort.flatK et 4 d).size = d.size * 4 := by simp [Go.Sort.flatK]
  rw [hs] at hj
  have hi : j / 4 < d.size := by omega
  have ha : d.toList[j / 4]? = some d[j / 4]! := by
    rw [Array.getElem?_toList, Array.getElem?_eq_getElem hi, getElem!_pos d (j / 4) hi]
  have hc : j % 4 < 4 := by omega
  have hl : j % 4 < (et d[j / 4]!).length := by rw [et_len]; exact hc
  have := bx_cell et_len h ha (j % 4) hc ((et d[j / 4]!)[j % 4]!) (by rw [getElem!_pos (et d[j / 4]!) (j % 4) hl]; exact List.getElem?_eq_getElem hl)
  have e : j / 4 * 4 + j % 4 = j := by omega
  rw [e] at this
  refine ⟨?_, h.free _⟩
  rw [Nat.zero_add, this]
  congr 1
  have h2 : j < (Go.Sort.flatK et 4 d).size := by rw [hs]; exact hj
  show _ = id (Go.Sort.flatK et 4 d)[j]!
  rw [getElem!_pos (Go.Sort.flatK et 4 d) j h2]
  simp [Go.Sort.flatK]
end Re

theorem sort_call (g : Nat) (d : Array Re.Tk) (w : World) (h : Bx w g 66 (Re.fl Re.et d.toList).toArray) (hsz : d.size < 4611686018427387904) :
    Calls Tryz.prog 34 #[.slice (some ⟨g, 0, none⟩) d.size d.size, .func (.func 28) #[] #[]] w fun e w' => e = .returned (.tuple #[]) ∧ ∃ d' : Array Re.Tk, d'.size = d.size ∧ d'.toList.Perm d.toList ∧ (∀ i j, i < j → j < d.size → Re.ct d'[i]! d'[j]! ≤ 0) ∧ Re.Kp (fun b => b = g) w w' ∧ (∀ i, i < d.size → w'.rangeAt g (i * 4) (Re.et d'[i]!)) := by
  have eg : ∀ args w, (callFunc 28 args).run Tryz.prog w = .ok (.enter 28 args) w := enters_of Tryz.func28 (by kernel_rfl) rfl
  have hH := Re.holds_row h
  have hcon := AnyQ.slices_SortFunc sortLays 4 Tryz.isAgg66 Tryz.sizeOf66 Re.et Re.et_len Re.et_one Re.ct Re.swo 28 #[] g 0 d.size d w eg (fun m os dk _ x y => (against_any x y _).mono (by
    rintro e w' ⟨rfl, os', rfl⟩
    exact ⟨rfl, 0, os', rfl⟩)) hH h.lt hsz
  change Calls Tryz.prog 34 _ _ _ at hcon
  refine hcon.mono ?_
  rintro e w' ⟨rfl, d', m, os, ⟨p1, p2, p3⟩, hs, rfl⟩
  refine ⟨rfl, d', p1, ?_, ?_, Re.kp_sorted, ?_⟩
  · have e1 : d.extract 0 d.size = d := by simp
    have e2 : d'.extract 0 d.size = d' := by rw [← p1]; simp
    rwa [e1, e2] at p3
  · intro i j hij hj
    have := hs i j (Nat.zero_le _) hij hj
    simp only [ltOf, decide_eq_false_iff_not] at this
    have := Re.ct_anti d'[i]! d'[j]!
    omega
  · intro i hi j v hv
    have hd := holdsK_sortWorldK_c Re.et 4 w g 0 d d' m os hH h.lt p1
    have := Go.Proofs.HoldsK.cells hd Re.et_len (i := i) (by rw [p1]; exact hi) j v hv
    rw [Go.WideShapes.add_plain, Nat.zero_add] at this
    exact this
end Go.Proofs.YtigmhnlcmhpepaaGreatDoor
