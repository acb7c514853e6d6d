/-
  Texts put together: ReLay, ReS, ReT, ReV, ReSN, ReTop.
-/
import Derived.Test.YtpmmbaahoegmlaaGreatDoorV0
import Derived.Shelf.SlSortCmp.WholeK
import Derived.Test.YtpmmbaahoegmlaaGreatDoorRD
import Derived.Deep.LoopGhost
import Derived.Laws.IdiomCopy
import Derived.ArgAppend
import Derived.WalkSpells
namespace Go.Proofs.YtpmmbaahoegmlaaGreatDoor
open Go Go.RowKit Go.Deep Go.Shelf

def sortLays_ren : Go.Shelf.Ren := ⟨fun | 6 => 16 | 14 => 31 | 15 => 32 | 20 => 47 | 21 => 48 | 22 => 49 | 23 => 50 | 24 => 51 | 25 => 52 | 26 => 53 | 27 => 54 | 28 => 55 | 29 => 56 | 46 => 68 | 47 => 69 | 48 => 70 | 49 => 71 | 50 => 72 | 57 => 82 | n => n, fun | 22 => 42 | 23 => 48 | 24 => 47 | 25 => 49 | 27 => 29 | 29 => 72 | 33 => 321 | 37 => 68 | 38 => 69 | 39 => 70 | 42 => 110 | 44 => 100 | 45 => 101 | 46 => 102 | 47 => 103 | 48 => 104 | 49 => 105 | 50 => 78 | 51 => 106 | 52 => 107 | 53 => 108 | 54 => 98 | 55 => 24 | 66 => 124 | 67 => 125 | 68 => 126 | 69 => 127 | 70 => 128 | 71 => 129 | 76 => 153 | 77 => 154 | 78 => 155 | 81 => 192 | 82 => 329 | 83 => 330 | 84 => 331 | 85 => 332 | 86 => 333 | 87 => 65 | 88 => 334 | 89 => 335 | 90 => 336 | 91 => 176 | 92 => 337 | 93 => 338 | 94 => 339 | 95 => 340 | 96 => 248 | n => n, fun | n => n⟩
theorem sortLays : Go.Proofs.SlLaysF0.n6 Tryz.prog sortLays_ren := {
  mixed := by kernel_rfl
  f6 := ⟨ "slices.SortFunc[[]abacus/relate.ticket,abacus/relate.ticket]", by kernel_rfl, Tryz.func16.trans (congrArg some (by kernel_rfl))⟩
  f14 := ⟨ "slices.pdqsortCmpFunc[abacus/relate.ticket]", by kernel_rfl, Tryz.func31.trans (congrArg some (by kernel_rfl))⟩
  f15 := Tryz.func32.trans (congrArg some (by kernel_rfl))
  f20 := ⟨ "slices.insertionSortCmpFunc[abacus/relate.ticket]", by kernel_rfl, Tryz.func47.trans (congrArg some (by kernel_rfl))⟩
  f21 := ⟨ "slices.heapSortCmpFunc[abacus/relate.ticket]", by kernel_rfl, Tryz.func48.trans (congrArg some (by kernel_rfl))⟩
  f22 := ⟨ "slices.breakPatternsCmpFunc[abacus/relate.ticket]", by kernel_rfl, Tryz.func49.trans (congrArg some (by kernel_rfl))⟩
  f23 := ⟨ "slices.choosePivotCmpFunc[abacus/relate.ticket]", by kernel_rfl, Tryz.func50.trans (congrArg some (by kernel_rfl))⟩
  f24 := ⟨ "slices.reverseRangeCmpFunc[abacus/relate.ticket]", by kernel_rfl, Tryz.func51.trans (congrArg some (by kernel_rfl))⟩
  f25 := ⟨ "slices.partialInsertionSortCmpFunc[abacus/relate.ticket]", by kernel_rfl, Tryz.func52.trans (congrArg some (by kernel_rfl))⟩
  f26 := ⟨ "slices.partitionEqualCmpFunc[abacus/relate.ticket]", by kernel_rfl, Tryz.func53.trans (congrArg some (by kernel_rfl))⟩
  f27 := ⟨ "slices.partitionCmpFunc[abacus/relate.ticket]", by kernel_rfl, Tryz.func54.trans (congrArg some (by kernel_rfl))⟩
  f28 := Tryz.func55.trans (congrArg some (by kernel_rfl))
  f29 := Tryz.func56.trans (congrArg some (by kernel_rfl))
  f46 := ⟨ "slices.siftDownCmpFunc[abacus/relate.ticket]", by kernel_rfl, Tryz.func68.trans (congrArg some (by kernel_rfl))⟩
  f47 := Tryz.func69.trans (congrArg some (by kernel_rfl))
  f48 := Tryz.func70.trans (congrArg some (by kernel_rfl))
  f49 := ⟨ "slices.medianAdjacentCmpFunc[abacus/relate.ticket]", by kernel_rfl, Tryz.func71.trans (congrArg some (by kernel_rfl))⟩
  f50 := ⟨ "slices.medianCmpFunc[abacus/relate.ticket]", by kernel_rfl, Tryz.func72.trans (congrArg some (by kernel_rfl))⟩
  f57 := ⟨ "slices.order2CmpFunc[abacus/relate.ticket]", by kernel_rfl, Tryz.func82.trans (congrArg some (by kernel_rfl))⟩
  t0 := Tryz.underlying0
  a0 := Tryz.isAgg0
  z0 := Tryz.sizeOf0
  v0 := Tryz.zeroValue0
  t3 := Tryz.underlying3
  a3 := Tryz.isAgg3
  z3 := Tryz.sizeOf3
  v3 := Tryz.zeroValue3
  t4 := Tryz.underlying4
  a4 := Tryz.isAgg4
  z4 := Tryz.sizeOf4
  v4 := Tryz.zeroValue4
  t5 := Tryz.underlying5
  a5 := Tryz.isAgg5
  z5 := Tryz.sizeOf5
  v5 := Tryz.zeroValue5
  t9 := Tryz.underlying9
  a9 := Tryz.isAgg9
  z9 := Tryz.sizeOf9
  v9 := Tryz.zeroValue9
  t22 := Tryz.underlying42
  a22 := Tryz.isAgg42
  z22 := Tryz.sizeOf42
  v22 := Tryz.zeroValue42
  t25 := Tryz.underlying49
  a25 := Tryz.isAgg49
  z25 := Tryz.sizeOf49
  v25 := Tryz.zeroValue49
  t39 := Tryz.underlying70
  a39 := Tryz.isAgg70
  z39 := Tryz.sizeOf70
  v39 := Tryz.zeroValue70
  t45 := Tryz.underlying101
  a45 := Tryz.isAgg101
  z45 := Tryz.sizeOf101
  v45 := Tryz.zeroValue101
  t46 := Tryz.underlying102
  a46 := Tryz.isAgg102
  z46 := Tryz.sizeOf102
  v46 := Tryz.zeroValue102
  t50 := Tryz.underlying78
  a50 := Tryz.isAgg78
  z50 := Tryz.sizeOf78
  v50 := Tryz.zeroValue78
  t53 := Tryz.underlying108
  a53 := Tryz.isAgg108
  z53 := Tryz.sizeOf108
  v53 := Tryz.zeroValue108
  t55 := Tryz.underlying24
  a55 := Tryz.isAgg24
  z55 := Tryz.sizeOf24
  v55 := Tryz.zeroValue24
  t66 := Tryz.underlying124
  a66 := Tryz.isAgg124
  z66 := Tryz.sizeOf124
  v66 := Tryz.zeroValue124
  t70 := Tryz.underlying128
  a70 := Tryz.isAgg128
  z70 := Tryz.sizeOf128
  v70 := Tryz.zeroValue128
  t76 := Tryz.underlying153
  a76 := Tryz.isAgg153
  z76 := Tryz.sizeOf153
  v76 := Tryz.zeroValue153
  t77 := Tryz.underlying154
  a77 := Tryz.isAgg154
  z77 := Tryz.sizeOf154
  v77 := Tryz.zeroValue154 }
end Go.Proofs.YtpmmbaahoegmlaaGreatDoor

namespace Go.Proofs.YtpmmbaahoegmlaaGreatDoor
open Go Go.RowKit Go.Deep Go.Shelf

namespace Re
/-- A raw value. -/
structure Vl where
  k : Int
  n : Int
  s : ByteArray
  deriving Inhabited
/-- Values that can be read. -/
def LV (w : World) (p : Option Addr) (A : List Vl) : Prop := A = [] ∨ ∃ b off, p = some ⟨b, off, none⟩ ∧ ∀ i a, A[i]? = some a → w.cell? ⟨b, off + i * 3, none⟩ = some (.int .i64 a.k) ∧ w.cell? ⟨b, off + i * 3 + 1, none⟩ = some (.int .u64 a.n) ∧ w.cell? ⟨b, off + i * 3 + 2, none⟩ = some (.string a.s)
theorem LV.on {w w' : World} {p : Option Addr} {A : List Vl} (h : LV w p A) (b : Below w.heap.size w w') : LV w' p A := by
  rcases h with h | ⟨g, o, e, h⟩
  · exact .inl h
  · refine .inr ⟨g, o, e, fun i a hi => ?_⟩
    obtain ⟨c0, c1, c2⟩ := h i a hi
    exact ⟨by rw [b.cell (cell_lt c0)]; exact c0, by rw [b.cell (cell_lt c1)]; exact c1, by rw [b.cell (cell_lt c2)]; exact c2⟩
theorem LV.at {w : World} {p : Option Addr} {A : List Vl} (h : LV w p A) {i : Nat} {a : Vl} (hi : A[i]? = some a) : ∃ b off, p = some ⟨b, off, none⟩ ∧ w.cell? ⟨b, off + i * 3, none⟩ = some (.int .i64 a.k) ∧ w.cell? ⟨b, off + i * 3 + 1, none⟩ = some (.int .u64 a.n) ∧ w.cell? ⟨b, off + i * 3 + 2, none⟩ = some (.string a.s) := by
  rcases h with rfl | ⟨g, o, e, h⟩
  · simp at hi
  · exact ⟨g, o, e, h i a hi⟩
/-- Its tickets. -/
def tks (A : List Vl) : List Tk := A.mapIdx fun i a => ⟨rt a.k a.n a.s, (i : Int)⟩
theorem tks_len (A : List Vl) : (tks A).length = A.length := by simp [tks]
theorem tks_at {A : List Vl} {i : Nat} {a : Vl} (h : A[i]? = some a) : (tks A)[i]? = some ⟨rt a.k a.n a.s, (i : Int)⟩ := by simp [tks, h]
theorem et_len (x : Tk) : (et x).length = 4 := by
  obtain ⟨t, n, s, e⟩ := er_ex x.r
  rw [et, e]; rfl
theorem et_one (x : Tk) : ∀ v ∈ et x, v.oneCell' = true := fun v hv => by
  obtain ⟨t, n, s, e⟩ := er_ex x.r
  rw [et, e] at hv
  simp only [List.mem_append, List.mem_cons, List.not_mem_nil, or_false] at hv
  rcases hv with (rfl | rfl | rfl) | rfl <;> rfl
def zt : Tk := ⟨.nu 0, 0⟩
def ei (x : Int) : List Value := [.int .i64 x]
theorem ei_len (x : Int) : (ei x).length = 1 := rfl
/-- A ticket ahead of another: a strict order. -/
theorem swo : Go.Sort.SWO (ltOf ct) where
  irrefl x := by
    have := ct_anti x x
    simp [ltOf]; omega
  trans x y z h1 h2 := by
    simp only [ltOf, decide_eq_true_eq] at *
    have a := ct_trans (x := x) (y := y) (z := z) (by omega) (by omega)
    have b := ct_b x z
    have c : ct x z ≠ 0 := fun e => by
      have := ct_zero e
      subst this
      have := ct_anti x y
      omega
    omega
  ntrans x y z h1 h2 := by
    simp only [ltOf, decide_eq_false_iff_not] at *
    have e1 := ct_anti x y
    have e2 := ct_anti y z
    have e3 := ct_anti x z
    have a := ct_trans (x := z) (y := y) (z := x) (by omega) (by omega)
    omega
/-- What Sort answers: the numbers of the tickets in their order. -/
def Sorts (A : List Vl) (P : List Int) : Prop := ∃ D : List Tk, D.Perm (tks A) ∧ D.Pairwise (fun x y => ct x y ≤ 0) ∧ P = D.map (·.i)
theorem kp_sorted {w : World} {g m : Nat} {d : Array Tk} {os : Array Obj} : Kp (fun b => b = g) w (sortWorldK et 4 w g 0 m d os) := by
  refine ⟨rfl, rfl, rfl, size_sortWorldK_c et 4 w g 0 m d os, fun b hb hne => ?_⟩
  show ((w.heap.modify g _) ++ os)[b]? = w.heap[b]?
  rw [Array.getElem?_append_left (by simpa using hb), Array.getElem?_modify, if_neg (fun e => hne e.symm)]
theorem holds_row {w : World} {g t : Nat} {d : Array Tk} (h : Bx w g t (fl et d.toList).toArray) : Go.Sort.HoldsK et 4 w g 0 d := by
  intro j hj
  have hs : (Go.Sort.flatK et 4 d).size = d.size * 4 := by simp [Go.Sort.flatK]
  rw [hs] at hj
  have hi : j / 4 < d.size := by omega
  have ha : d.toList[j / 4]? = some d[j / 4]! := by
    rw [Array.getElem?_toList, Array.getElem?_eq_getElem hi, getElem!_pos d (j / 4) hi]
  have hc : j % 4 < 4 := by omega
  have hl : j % 4 < (et d[j / 4]!).length := by rw [et_len]; exact hc
  have := bx_cell et_len h ha (j % 4) hc ((et d[j / 4]!)[j % 4]!) (by rw [getElem!_pos (et d[j / 4]!) (j % 4) hl]; exact List.getElem?_eq_getElem hl)
  have e : j / 4 * 4 + j % 4 = j := by omega
  rw [e] at this
  refine ⟨?_, h.free _⟩
  rw [Nat.zero_add, this]
  congr 1
  have h2 : j < (Go.Sort.flatK et 4 d).size := by rw [hs]; exact hj
  show _ = id (Go.Sort.flatK et 4 d)[j]!
  rw [getElem!_pos (Go.Sort.flatK et 4 d) j h2]
  simp [Go.Sort.flatK]
end Re

theorem sort_call (g : Nat) (d : Array Re.Tk) (w : World) (h : Bx w g 47 (Re.fl Re.et d.toList).toArray) (hsz : d.size < 4611686018427387904) :
    Calls Tryz.prog 16 #[.slice (some ⟨g, 0, none⟩) d.size d.size, .func (.func 17) #[] #[]] w fun e w' => e = .returned (.tuple #[]) ∧ ∃ d' : Array Re.Tk, d'.size = d.size ∧ d'.toList.Perm d.toList ∧ (∀ i j, i < j → j < d.size → Re.ct d'[i]! d'[j]! ≤ 0) ∧ Re.Kp (fun b => b = g) w w' ∧ (∀ i, i < d.size → w'.rangeAt g (i * 4) (Re.et d'[i]!)) := by
  have eg : ∀ args w, (callFunc 17 args).run Tryz.prog w = .ok (.enter 17 args) w := enters_of Tryz.func17 (by kernel_rfl) rfl
  have hH := Re.holds_row h
  have hcon := AnyQ.slices_SortFunc sortLays 4 Tryz.isAgg47 Tryz.sizeOf47 Re.et Re.et_len Re.et_one Re.ct Re.swo 17 #[] g 0 d.size d w eg (fun m os dk _ x y => (against_any x y _).mono (by
    rintro e w' ⟨rfl, os', rfl⟩
    exact ⟨rfl, 0, os', rfl⟩)) hH h.lt hsz
  change Calls Tryz.prog 16 _ _ _ at hcon
  refine hcon.mono ?_
  rintro e w' ⟨rfl, d', m, os, ⟨p1, p2, p3⟩, hs, rfl⟩
  refine ⟨rfl, d', p1, ?_, ?_, Re.kp_sorted, ?_⟩
  · have e1 : d.extract 0 d.size = d := by simp
    have e2 : d'.extract 0 d.size = d' := by rw [← p1]; simp
    rwa [e1, e2] at p3
  · intro i j hij hj
    have := hs i j (Nat.zero_le _) hij hj
    simp only [ltOf, decide_eq_false_iff_not] at this
    have := Re.ct_anti d'[i]! d'[j]!
    omega
  · intro i hi j v hv
    have hd := holdsK_sortWorldK_c Re.et 4 w g 0 d d' m os hH h.lt p1
    have := Go.Proofs.HoldsK.cells hd Re.et_len (i := i) (by rw [p1]; exact hi) j v hv
    rw [Go.WideShapes.add_plain, Nat.zero_add] at this
    exact this
end Go.Proofs.YtpmmbaahoegmlaaGreatDoor

namespace Go.Proofs.YtpmmbaahoegmlaaGreatDoor
open Go Go.RowKit Go.Deep Go.Shelf

namespace Re
theorem infoT : (Tryz.prog.info? 47).map (fun i => (i.zero, i.size, i.bytes)) = some (some (.agg #[.bool false, .int .i64 0, .string ⟨#[]⟩, .int .i64 0]), 4, 40) := by kernel_rfl
theorem infoI : (Tryz.prog.info? 3).map (fun i => (i.zero, i.size, i.bytes)) = some (some (.int .i64 0), 1, 8) := by kernel_rfl
theorem make_t (n : Nat) (hn : n ≤ 4398046511104) (W : World) : (Instr.makeSlice 42 (.int .i64 (n : Int)) (.int .i64 (n : Int))).run Tryz.prog W = .ok (.slice (some ⟨W.heap.size, 0, none⟩) n n) (W.alloc (.cells (fl et (List.replicate n zt)).toArray 47)) := by
  obtain ⟨i, hi, hz⟩ := Option.map_eq_some_iff.1 infoT
  simp only [Prod.mk.injEq] at hz
  obtain ⟨z1, z2, z3⟩ := hz
  have := run_make (P := Tryz.prog) W 42 47 i _ Tryz.underlying42 hi z1 .i64 .i64 (n : Int) (n : Int) (by omega) (by omega) (by rw [z3]; omega) (by omega)
  rw [this, z2, Int.toNat_natCast]
  have e := made_fl et_len zt (by omega) n
  rw [← e]
  rfl
theorem make_i (n : Nat) (hn : n ≤ 4398046511104) (W : World) : (Instr.makeSlice 29 (.int .i64 (n : Int)) (.int .i64 (n : Int))).run Tryz.prog W = .ok (.slice (some ⟨W.heap.size, 0, none⟩) n n) (W.alloc (.cells (fl ei (List.replicate n 0)).toArray 3)) := by
  obtain ⟨i, hi, hz⟩ := Option.map_eq_some_iff.1 infoI
  simp only [Prod.mk.injEq] at hz
  obtain ⟨z1, z2, z3⟩ := hz
  have := run_make (P := Tryz.prog) W 29 3 i _ Tryz.underlying29 hi z1 .i64 .i64 (n : Int) (n : Int) (by omega) (by omega) (by rw [z3]; omega) (by omega)
  rw [this, z2, Int.toNat_natCast]
  have e := made_fl ei_len (0 : Int) (by omega) n
  rw [← e]
  rfl
end Re

set_option maxRecDepth 100000 in
set_option maxHeartbeats 8000000 in
theorem sort_any (p : Option Addr) (cap : Nat) (A : List Re.Vl) (w : World) (hv : Re.LV w p A) (hw : ∀ a ∈ A, 0 ≤ a.n ∧ a.n < 18446744073709551616) (hl : A.length ≤ 4398046511104) :
    Calls Tryz.prog 7 #[.slice p A.length cap] w fun e w' => ∃ g P, e = .returned (.slice (some ⟨g, 0, none⟩) A.length A.length) ∧ (w.heap.size ≤ g ∧ Bx w' g 3 (Re.fl Re.ei P).toArray ∧ Re.Sorts A P ∧ P.length = A.length ∧ Below w.heap.size w w') := by
  obtain ⟨n, hn⟩ : ∃ n, A.length = n := ⟨_, rfl⟩
  have HN := hid hn
  have HV := hid hv
  have HW := hid hw
  rw [hn]
  rw [hn] at hl
  have HL := hid hl
  have TL : Hid ((Re.tks A).length = n) := by rw [Hid, Re.tks_len, hn]
  have M1 := Re.make_t n hl
  have M2 := Re.make_i n hl
  have ln : (n : Int) ≤ 4398046511104 := by omega
  have b1 := alloc_b w (.cells (Re.fl Re.et (List.replicate n Re.zt)).toArray 47)
  have x1 := Bx.new w 47 (Re.fl Re.et (List.replicate n Re.zt)).toArray
  have I0 : Hid (Bx (w.alloc (.cells (Re.fl Re.et (List.replicate n Re.zt)).toArray 47)) w.heap.size 47 (Re.fl Re.et (Re.fil (Re.tks A) Re.zt 0)).toArray ∧ Below w.heap.size w (w.alloc (.cells (Re.fl Re.et (List.replicate n Re.zt)).toArray 47))) := ⟨by rw [Re.fil_zero, TL.out]; exact x1, b1⟩
  clear hv hw hl hn b1 x1
  go_enter Tryz.func7, Tryz.ntmps7
  go_wp2_with fail
  generalize w.alloc (.cells (Re.fl Re.et (List.replicate n Re.zt)).toArray 47) = wa at *
  go_loopg [14] n (fun m iv wr => ∃ i : Nat, i + m = n ∧ iv = .int .i64 (i : Int) ∧ Hid (Bx wr w.heap.size 47 (Re.fl Re.et (Re.fil (Re.tks A) Re.zt i)).toArray ∧ Below w.heap.size w wr))
  case atStart => exact ⟨0, by omega, rfl, I0.out⟩
  case round =>
    obtain ⟨i, hi, rfl, I⟩ := hrel
    by_cases hlt : i < n
    · have hli : (i : Int) < (n : Int) := by omega
      obtain ⟨a, ha⟩ : ∃ a, A[i]? = some a := ⟨_, List.getElem?_eq_getElem (by have := HN.out; omega)⟩
      obtain ⟨b, off, rfl, c0, c1, c2⟩ := (HV.out.on I.out.2).at ha
      have am := HW.out a (List.mem_of_getElem? ha)
      have RK := hid (fun W => rankof_any a.k a.n a.s W am.1 am.2)
      obtain ⟨t, q, u, er⟩ := Re.er_ex (Re.rt a.k a.n a.s)
      rw [er] at RK
      have ta := Re.tks_at ha
      have ex : Re.et ⟨Re.rt a.k a.n a.s, (i : Int)⟩ = [.bool t, .int .i64 q, .string u, .int .i64 (i : Int)] := by rw [Re.et, er]; rfl
      have NX : Hid (∀ W : World, Bx W w.heap.size 47 (Re.fl Re.et (Re.fil (Re.tks A) Re.zt i)).toArray ∧ Below w.heap.size w W → Bx ((((W.setCell ⟨w.heap.size, i * 4, none⟩ (.bool t)).setCell ⟨w.heap.size, i * 4 + 1, none⟩ (.int .i64 q)).setCell ⟨w.heap.size, i * 4 + 2, none⟩ (.string u)).setCell ⟨w.heap.size, i * 4 + 3, none⟩ (.int .i64 (i : Int))) w.heap.size 47 (Re.fl Re.et (Re.fil (Re.tks A) Re.zt (i + 1))).toArray ∧ Below w.heap.size w ((((W.setCell ⟨w.heap.size, i * 4, none⟩ (.bool t)).setCell ⟨w.heap.size, i * 4 + 1, none⟩ (.int .i64 q)).setCell ⟨w.heap.size, i * 4 + 2, none⟩ (.string u)).setCell ⟨w.heap.size, i * 4 + 3, none⟩ (.int .i64 (i : Int)))) := fun W z => by
        refine ⟨?_, (((z.2.setCell (p := ⟨w.heap.size, i * 4, none⟩) (Nat.le_refl _) _).setCell (p := ⟨w.heap.size, i * 4 + 1, none⟩) (Nat.le_refl _) _).setCell (p := ⟨w.heap.size, i * 4 + 2, none⟩) (Nat.le_refl _) _).setCell (p := ⟨w.heap.size, i * 4 + 3, none⟩) (Nat.le_refl _) _⟩
        have := Re.bx_put Re.et_len (i := i) z.1 ⟨Re.rt a.k a.n a.s, (i : Int)⟩ (by rw [Re.fil_len _ _ (by have := TL.out; omega)]; have := TL.out; omega)
        rw [ex, Re.fil_set _ _ ta] at this
        exact this
      have OLD : Hid (∀ W : World, Bx W w.heap.size 47 (Re.fl Re.et (Re.fil (Re.tks A) Re.zt i)).toArray → W.cell? ⟨w.heap.size, i * 4, none⟩ = some (.bool false) ∧ W.cell? ⟨w.heap.size, i * 4 + 1, none⟩ = some (.int .i64 0) ∧ W.cell? ⟨w.heap.size, i * 4 + 2, none⟩ = some (.string ⟨#[]⟩) ∧ W.cell? ⟨w.heap.size, i * 4 + 3, none⟩ = some (.int .i64 0)) := fun W z => by
        have hz := Re.fil_at (Re.tks A) Re.zt (i := i) (by have := TL.out; omega)
        exact ⟨Re.bx_cell Re.et_len z hz 0 (by omega) _ rfl, Re.bx_cell Re.et_len z hz 1 (by omega) _ rfl, Re.bx_cell Re.et_len z hz 2 (by omega) _ rfl, Re.bx_cell Re.et_len z hz 3 (by omega) _ rfl⟩
      clear ex ta er am ha I0
      have bb := alloc_b wr (.cells #[.int .i64 a.k, .int .u64 a.n, .string a.s] 26)
      have J : Hid (Bx (wr.alloc (.cells #[.int .i64 a.k, .int .u64 a.n, .string a.s] 26)) w.heap.size 47 (Re.fl Re.et (Re.fil (Re.tks A) Re.zt i)).toArray ∧ Below w.heap.size w (wr.alloc (.cells #[.int .i64 a.k, .int .u64 a.n, .string a.s] 26))) := ⟨I.out.1.on bb, below_on I.out.2 bb⟩
      clear bb
      go_wp2_with fail
      refine (RK.out _).mono ?_
      rintro e w5 ⟨rfl, b5⟩
      have J5 := hid (And.intro (J.out.1.on b5) (below_on J.out.2 b5))
      clear b5 J RK c0 c1 c2
      obtain ⟨d0, d1, d2, d3⟩ := OLD.out _ J5.out.1
      have f0 := J5.out.1.free (i * 4)
      have f1 := J5.out.1.free (i * 4 + 1)
      have f2 := J5.out.1.free (i * 4 + 2)
      have f3 := J5.out.1.free (i * 4 + 3)
      have N5 := hid (NX.out _ J5.out)
      clear OLD NX J5
      go_wp2_with fail
      go_roundg (n - (i + 1))
      case measure => omega
      case rel => exact ⟨i + 1, by omega, by go_num, N5.out⟩
    · have hli : ¬ (i : Int) < (n : Int) := by omega
      have ein : i = n := by omega
      subst ein
      have J := hid (And.intro (show Bx wr w.heap.size 47 (Re.fl Re.et (Re.tks A)).toArray by have := I.out.1; rw [show i = (Re.tks A).length from TL.out.symm, Re.fil_all] at this; exact this) I.out.2)
      clear I I0
      have SC := hid (fun W (z : Bx W w.heap.size 47 (Re.fl Re.et (Re.tks A)).toArray) => sort_call w.heap.size (Re.tks A).toArray W z (by rw [List.size_toArray]; have := TL.out; have := HL.out; omega))
      rw [show (Re.tks A).toArray.size = i by rw [List.size_toArray]; exact TL.out] at SC
      go_wp2_with fail
      refine (SC.out _ J.out.1).mono ?_
      rintro e w3 ⟨rfl, d', hd, pm, so, k3, rg⟩
      have B3 : Below w.heap.size w w3 := J.out.2.trans (k3.below J.out.2.size (fun b e => by rw [e]; exact Nat.le_refl _))
      obtain ⟨P, hP⟩ : ∃ P, d'.toList.map (·.i) = P := ⟨_, rfl⟩
      have SO : Hid (Re.Sorts A P ∧ P.length = i) := by
        refine ⟨⟨d'.toList, pm, ?_, hP.symm⟩, by rw [← hP, List.length_map, Array.length_toList, hd]⟩
        rw [List.pairwise_iff_getElem]
        intro a b ha hb hab
        rw [Array.length_toList] at ha hb
        have := so a b hab (by omega)
        rw [getElem!_pos d' a ha, getElem!_pos d' b hb] at this
        simpa using this
      have PA : Hid (∀ j, j < i → P[j]? = some d'[j]!.i) := fun j hj => by
        rw [← hP, List.getElem?_map, Array.getElem?_toList, Array.getElem?_eq_getElem (by omega), getElem!_pos d' j (by omega)]
        rfl
      have b4 := alloc_b w3 (.cells (Re.fl Re.ei (List.replicate i 0)).toArray 3)
      have I2 : Hid (Bx (w3.alloc (.cells (Re.fl Re.ei (List.replicate i 0)).toArray 3)) w3.heap.size 3 (Re.fl Re.ei (Re.fil P 0 0)).toArray ∧ Below w.heap.size w (w3.alloc (.cells (Re.fl Re.ei (List.replicate i 0)).toArray 3)) ∧ ∀ j, j < i → (w3.alloc (.cells (Re.fl Re.ei (List.replicate i 0)).toArray 3)).rangeAt w.heap.size (j * 4) (Re.et d'[j]!)) := by
        refine ⟨?_, below_on B3 b4, fun j hj c v hv => ?_⟩
        · rw [Re.fil_zero, SO.out.2]; exact Bx.new _ _ _
        · have := rg j hj c v hv
          rw [b4.cell (cell_lt this)]; exact this
      have G2 : Hid (w.heap.size < w3.heap.size) := by
        have h1 := J.out.1.lt
        exact Nat.lt_of_lt_of_le h1 k3.size
      clear hd pm so k3 rg J SC b4 B3 hP M1
      go_wp2_with fail
      generalize w3.alloc (.cells (Re.fl Re.ei (List.replicate i 0)).toArray 3) = wb at *
      go_loopg [34] i (fun m iv wr => ∃ j : Nat, j + m = i ∧ iv = .int .i64 (j : Int) ∧ Hid (Bx wr w3.heap.size 3 (Re.fl Re.ei (Re.fil P 0 j)).toArray ∧ Below w.heap.size w wr ∧ ∀ j, j < i → wr.rangeAt w.heap.size (j * 4) (Re.et d'[j]!)))
      case atStart => exact ⟨0, by omega, rfl, I2.out⟩
      case round =>
        obtain ⟨j, hj, rfl, K⟩ := hrel
        by_cases jl : j < i
        · have jli : (j : Int) < (i : Int) := by omega
          obtain ⟨t, q, u, er⟩ := Re.er_ex d'[j]!.r
          have ex : Re.et d'[j]! = [.bool t, .int .i64 q, .string u, .int .i64 d'[j]!.i] := by rw [Re.et, er]; rfl
          have rr := K.out.2.2 j jl
          rw [ex] at rr
          have c0 := rr 0 _ rfl
          have c1 := rr 1 _ rfl
          have c2 := rr 2 _ rfl
          have c3 := rr 3 _ rfl
          rw [Nat.add_zero] at c0
          have pj := PA.out j jl
          generalize d'[j]!.i = N at *
          have bb := alloc_b wr (.cells #[.bool t, .int .i64 q, .string u, .int .i64 N] 47)
          have pz := Re.fil_at P 0 (i := j) (by have := SO.out.2; omega)
          have K1 : Bx (wr.alloc (.cells #[.bool t, .int .i64 q, .string u, .int .i64 N] 47)) w3.heap.size 3 (Re.fl Re.ei (Re.fil P 0 j)).toArray := K.out.1.on bb
          have z0 := Re.bx_cell Re.ei_len K.out.1 pz 0 (by omega) _ rfl
          rw [Nat.mul_one, Nat.add_zero] at z0
          have z1 := K.out.1.free j
          have NX : Hid (Bx ((wr.setCell ⟨w3.heap.size, j, none⟩ (.int .i64 N)).alloc (.cells #[.bool t, .int .i64 q, .string u, .int .i64 N] 47)) w3.heap.size 3 (Re.fl Re.ei (Re.fil P 0 (j + 1))).toArray ∧ Below w.heap.size w ((wr.setCell ⟨w3.heap.size, j, none⟩ (.int .i64 N)).alloc (.cells #[.bool t, .int .i64 q, .string u, .int .i64 N] 47)) ∧ ∀ j', j' < i → ((wr.setCell ⟨w3.heap.size, j, none⟩ (.int .i64 N)).alloc (.cells #[.bool t, .int .i64 q, .string u, .int .i64 N] 47)).rangeAt w.heap.size (j' * 4) (Re.et d'[j']!)) := by
            have m1 := Re.bx_put Re.ei_len (i := j) K.out.1 N (by rw [Re.fil_len _ _ (by have := SO.out.2; omega)]; have := SO.out.2; omega)
            rw [Re.fil_set _ _ pj, Nat.mul_one] at m1
            have m2 : Below w.heap.size w (wr.setCell ⟨w3.heap.size, j, none⟩ (.int .i64 N)) := K.out.2.1.setCell (p := ⟨w3.heap.size, j, none⟩) (Nat.le_of_lt G2.out) _
            have ba := alloc_b (wr.setCell ⟨w3.heap.size, j, none⟩ (.int .i64 N)) (.cells #[.bool t, .int .i64 q, .string u, .int .i64 N] 47)
            refine ⟨Bx.on m1 ba, below_on m2 ba, fun j' hj' c v hv => ?_⟩
            have h1 := K.out.2.2 j' hj' c v hv
            have h2 : (wr.setCell ⟨w3.heap.size, j, none⟩ (.int .i64 N)).cell? ⟨w.heap.size, j' * 4 + c, none⟩ = some v := by
              rw [World.cell?_setCell_far _ _ _ _ (fun e => by have := G2.out; simp only at e; omega)]; exact h1
            rw [ba.cell (cell_lt h2)]; exact h2
          have gl := K.out.1.lt
          clear er ex rr pj bb pz K1 I2
          go_wp2_with fail
          go_roundg (i - (j + 1))
          case measure => omega
          case rel => exact ⟨j + 1, by omega, by go_num, NX.out⟩
        · have jli : ¬ (j : Int) < (i : Int) := by omega
          have eji : j = i := by omega
          subst eji
          have F : Hid (Bx wr w3.heap.size 3 (Re.fl Re.ei P).toArray ∧ Below w.heap.size w wr) := ⟨by have := K.out.1; rw [show j = P.length from SO.out.2.symm, Re.fil_all] at this; exact this, K.out.2.1⟩
          clear K I2
          go_wp2_with fail
          go_ret
          first
            | exact ⟨_, rfl, P, Nat.le_of_lt G2.out, F.out.1, SO.out.1, SO.out.2, F.out.2⟩
            | exact ⟨_, rfl, Nat.le_of_lt G2.out, P, F.out.1, SO.out.1, SO.out.2, F.out.2⟩
end Go.Proofs.YtpmmbaahoegmlaaGreatDoor

namespace Go.Proofs.YtpmmbaahoegmlaaGreatDoor
open Go Go.RowKit Go.Deep Go.Shelf

/-- copy of things of k cells. -/
theorem run_copy_k {P : Program} (w : World) (dT sT ty elem : TypeId) (k b o dLen dCap : Nat) (a : Addr) (sLen sCap : Nat) (cs : List Value)
    (hu : P.underlying dT = some (.slice elem)) (hs : (P.info? elem).map (·.size) = some k) (hn : cs.length = Nat.min sLen dLen * k)
    (hsrc : ∀ j v, cs[j]? = some v → w.cell? (a.add j) = some v) (hc : ∀ j, j < cs.length → (w.cell? ⟨b, o + j, none⟩).isSome = true) (hf : ∀ j, j < cs.length → w.frozen? ⟨b, o + j, none⟩ = false) (h1 : ∀ v ∈ cs, v.oneCell' = true) :
    (Builtin.copy_ #[dT, sT] ty #[.slice (some ⟨b, o, none⟩) dLen dCap, .slice (some a) sLen sCap]).run P w = .ok (goInt (Nat.min sLen dLen)) (w.setCells b o cs) := by
  have hl := run_loadCells_list (P := P) w a cs hsrc
  have hst := run_storeCells_cells (P := P) b o cs 0 w (by simpa using hc) (by simpa using hf) h1
  cases hq : P.info? elem with
  | none => simp [hq] at hs
  | some i =>
    have hi : i.size = k := by simpa [hq] using hs
    simp [Builtin.copy_, run_underlying hu, Builtin.lenOf, Builtin.firstCells, sizeOf, typeInfo, hq, hi, ← hn, hl, hst]
theorem run_copy_k0 {P : Program} (w : World) (dT sT ty elem : TypeId) (k : Nat) (d a : Option Addr) (dLen dCap sLen sCap : Nat) (hu : P.underlying dT = some (.slice elem)) (hs : (P.info? elem).map (·.size) = some k) (hn : Nat.min sLen dLen = 0) :
    (Builtin.copy_ #[dT, sT] ty #[.slice d dLen dCap, .slice a sLen sCap]).run P w = .ok (goInt 0) w := by
  cases hq : P.info? elem with
  | none => simp [hq] at hs
  | some i =>
    have hl : ∀ (x : Addr), (loadCells x 0).run P w = .ok #[] w := fun x => by simpa using run_loadCells_list (P := P) w x [] (by simp)
    cases d <;> cases a <;> simp [Builtin.copy_, run_underlying hu, Builtin.lenOf, Builtin.firstCells, sizeOf, typeInfo, hq, hn, storeCells, hl]

namespace Re
def ev (a : Vl) : List Value := [.int .i64 a.k, .int .u64 a.n, .string a.s]
theorem ev_len (a : Vl) : (ev a).length = 3 := rfl
def zv : Vl := ⟨0, 0, ⟨#[]⟩⟩
theorem ev_one (A : List Vl) : ∀ v ∈ fl ev A, v.oneCell' = true := fun v hv => by
  obtain ⟨a, _, h⟩ := List.mem_flatMap.1 hv
  simp only [ev, List.mem_cons, List.not_mem_nil, or_false] at h
  rcases h with rfl | rfl | rfl <;> rfl
theorem infoV : (Tryz.prog.info? 26).map (fun i => (i.zero, i.size, i.bytes)) = some (some (.agg #[.int .i64 0, .int .u64 0, .string ⟨#[]⟩]), 3, 32) := by kernel_rfl
theorem sizeV : (Tryz.prog.info? 26).map (·.size) = some 3 := by kernel_rfl
theorem make_v (n : Nat) (hn : n ≤ 4398046511104) (W : World) : (Instr.makeSlice 22 (.int .i64 (n : Int)) (.int .i64 (n : Int))).run Tryz.prog W = .ok (.slice (some ⟨W.heap.size, 0, none⟩) n n) (W.alloc (.cells (fl ev (List.replicate n zv)).toArray 26)) := by
  obtain ⟨i, hi, hz⟩ := Option.map_eq_some_iff.1 infoV
  simp only [Prod.mk.injEq] at hz
  obtain ⟨z1, z2, z3⟩ := hz
  have := run_make (P := Tryz.prog) W 22 26 i _ Tryz.underlying22 hi z1 .i64 .i64 (n : Int) (n : Int) (by omega) (by omega) (by rw [z3]; omega) (by omega)
  rw [this, z2, Int.toNat_natCast]
  have e := made_fl ev_len zv (by omega) n
  rw [← e]
  rfl
theorem LV.src {w : World} {b off : Nat} {A : List Vl} (h : ∀ i a, A[i]? = some a → w.cell? ⟨b, off + i * 3, none⟩ = some (.int .i64 a.k) ∧ w.cell? ⟨b, off + i * 3 + 1, none⟩ = some (.int .u64 a.n) ∧ w.cell? ⟨b, off + i * 3 + 2, none⟩ = some (.string a.s)) :
    ∀ j v, (fl ev A)[j]? = some v → w.cell? ((⟨b, off, none⟩ : Addr).add j) = some v := fun j v hv => by
  have hj : j < A.length * 3 := by rw [← fl_len ev_len A]; exact (List.getElem?_eq_some_iff.1 hv).1
  have hi : j / 3 < A.length := by omega
  obtain ⟨c0, c1, c2⟩ := h (j / 3) A[j / 3] (List.getElem?_eq_getElem hi)
  have e := fl_at ev_len (List.getElem?_eq_getElem hi) (j % 3) (by omega)
  rw [Nat.div_add_mod'] at e
  rw [hv] at e
  rw [Go.WideShapes.add_plain]
  have hm := Nat.div_add_mod' j 3
  rcases (show j % 3 = 0 ∨ j % 3 = 1 ∨ j % 3 = 2 by omega) with r | r | r
  · rw [r] at e hm
    rw [show off + j = off + j / 3 * 3 by omega, c0]
    exact e.symm
  · rw [r] at e hm
    rw [show off + j = off + j / 3 * 3 + 1 by omega, c1]
    exact e.symm
  · rw [r] at e hm
    rw [show off + j = off + j / 3 * 3 + 2 by omega, c2]
    exact e.symm
/-- A block of values can be read. -/
theorem LV.row {w : World} {g : Nat} {A : List Vl} (h : Bx w g 26 (fl ev A).toArray) : LV w (some ⟨g, 0, none⟩) A := by
  refine .inr ⟨g, 0, rfl, fun i a ha => ?_⟩
  rw [Nat.zero_add]
  exact ⟨bx_cell ev_len h ha 0 (by omega) _ rfl, bx_cell ev_len h ha 1 (by omega) _ rfl, bx_cell ev_len h ha 2 (by omega) _ rfl⟩
theorem copy_v (g n : Nat) (p : Option Addr) (cap : Nat) (A : List Vl) (ty : TypeId) (w : World) (hn : A.length = n) (hg : Bx w g 26 (fl ev (List.replicate n zv)).toArray) (hv : LV w p A) :
    ∃ w', (Builtin.copy_ #[22, 22] ty #[.slice (some ⟨g, 0, none⟩) n n, .slice p n cap]).run Tryz.prog w = .ok (.int .i64 (n : Int)) w' ∧ Bx w' g 26 (fl ev A).toArray ∧ Kp (fun b => b = g) w w' := by
  rcases hv with rfl | ⟨b, off, rfl, h⟩
  · obtain rfl : n = 0 := by simpa using hn.symm
    exact ⟨w, run_copy_k0 w 22 22 ty 26 3 _ _ _ _ _ _ Tryz.underlying22 sizeV (by simp), hg, Kp.refl _ _⟩
  · have l1 := fl_len ev_len A
    have l2 := fl_len ev_len (List.replicate n zv)
    rw [List.length_replicate] at l2
    rw [hn] at l1
    have cc : ∀ j, j < (fl ev A).length → (w.cell? ⟨g, 0 + j, none⟩).isSome = true := fun j hj => by
      have := hg.cell (0 + j) _ (show (fl ev (List.replicate n zv)).toArray[0 + j]? = some _ by rw [List.getElem?_toArray]; exact List.getElem?_eq_getElem (by omega))
      rw [this]; rfl
    have r := run_copy_k (P := Tryz.prog) w 22 22 ty 26 3 g 0 n n ⟨b, off, none⟩ n cap (fl ev A) Tryz.underlying22 sizeV (by rw [l1]; simp) (LV.src h) cc (fun j _ => hg.free _) (ev_one A)
    have x := bx_setc (fl ev A) 0 w (fl ev (List.replicate n zv)) hg (by omega)
    rw [List.take_zero, List.nil_append, List.drop_of_length_le (by omega), List.append_nil] at x
    refine ⟨w.setCells g 0 (fl ev A), ?_, x, (Kp.refl (fun b => b = g) w).setcs (.inl rfl) 0 (fl ev A)⟩
    rw [r]
    simp [goInt]
end Re

set_option maxRecDepth 100000 in
set_option maxHeartbeats 2000000 in
theorem values_any (p : Option Addr) (cap : Nat) (A : List Re.Vl) (w : World) (hv : Re.LV w p A) (hl : A.length ≤ 4398046511104) :
    Calls Tryz.prog 6 #[.slice p A.length cap] w fun e w' => ∃ g, e = .returned (.slice (some ⟨g, 0, none⟩) A.length A.length) ∧ w.heap.size ≤ g ∧ Bx w' g 26 (Re.fl Re.ev A).toArray ∧ Below w.heap.size w w' := by
  obtain ⟨n, hn⟩ : ∃ n, A.length = n := ⟨_, rfl⟩
  rw [hn] at hl ⊢
  have M1 := Re.make_v n hl
  have ln : (n : Int) ≤ 4398046511104 := by omega
  have b1 := alloc_b w (.cells (Re.fl Re.ev (List.replicate n Re.zv)).toArray 26)
  obtain ⟨w', CP, x', k'⟩ := Re.copy_v w.heap.size n p cap A 3 _ hn (Bx.new w 26 (Re.fl Re.ev (List.replicate n Re.zv)).toArray) (hv.on b1)
  have R := hid (And.intro x' (show Below w.heap.size w w' from b1.trans (k'.below (by rw [World.size_alloc]; omega) (fun b e => by rw [e]; exact Nat.le_refl _))))
  clear hv hl hn b1 x' k'
  go_enter Tryz.func6, Tryz.ntmps6
  go_wp2_with fail
  go_ret
  exact ⟨_, rfl, Nat.le_refl _, R.out⟩

end Go.Proofs.YtpmmbaahoegmlaaGreatDoor

namespace Go.Proofs.YtpmmbaahoegmlaaGreatDoor
open Go Go.RowKit Go.Deep Go.Shelf

namespace Re
theorem Sorts.uniq {A : List Vl} {P Q : List Int} (h : Sorts A P) (k : Sorts A Q) : P = Q := by
  obtain ⟨D, p, s, rfl⟩ := h
  obtain ⟨E, q, t, rfl⟩ := k
  rw [List.Perm.eq_of_pairwise (le := fun x y => ct x y ≤ 0) (fun a b _ _ h1 h2 => by have := ct_anti a b; exact ct_zero (by omega)) s t (p.trans q.symm)]
theorem tks_i (A : List Vl) : (tks A).map (·.i) = (List.range A.length).map fun i : Nat => (i : Int) := by
  apply List.ext_getElem?
  intro i
  rw [List.getElem?_map, List.getElem?_map]
  by_cases h : i < A.length
  · rw [tks_at (List.getElem?_eq_getElem h), List.getElem?_range h]
    rfl
  · rw [List.getElem?_eq_none (by rw [tks_len]; omega), List.getElem?_eq_none (by rw [List.length_range]; omega)]
    rfl
theorem Sorts.perm {A : List Vl} {P : List Int} (h : Sorts A P) : P.Perm ((List.range A.length).map fun i : Nat => (i : Int)) := by
  obtain ⟨D, p, s, rfl⟩ := h
  have := p.map (·.i)
  rwa [tks_i] at this
theorem Sorts.nodup {A : List Vl} {P : List Int} (h : Sorts A P) : P.Nodup := by
  refine h.perm.symm.nodup ?_
  rw [List.nodup_iff_pairwise_ne, List.pairwise_map]
  refine List.Pairwise.imp (fun {a b} (hab : a < b) => ?_) List.pairwise_lt_range
  omega
theorem tks_mem {A : List Vl} {d : Tk} (h : d ∈ tks A) : ∃ (j : Nat) (a : Vl), j < A.length ∧ A[j]? = some a ∧ d = ⟨rt a.k a.n a.s, (j : Int)⟩ := by
  obtain ⟨j, hj, e⟩ := List.getElem_of_mem h
  have hl : j < A.length := by rwa [tks_len] at hj
  have e2 := tks_at (List.getElem?_eq_getElem hl)
  rw [List.getElem?_eq_getElem hj, e] at e2
  exact ⟨j, A[j], hl, List.getElem?_eq_getElem hl, Option.some.inj e2⟩
/-- The values in the order of the places. -/
def agn (A : List Vl) (P : List Int) : List Vl := P.map fun x => (A[x.toNat]?).getD ⟨0, 0, ⟨#[]⟩⟩
theorem agn_len (A : List Vl) (P : List Int) : (agn A P).length = P.length := by rw [agn, List.length_map]
theorem agn_at {A : List Vl} {P : List Int} {i j : Nat} {a : Vl} (h : P[i]? = some (j : Int)) (k : A[j]? = some a) : (agn A P)[i]? = some a := by
  rw [agn, List.getElem?_map, h]
  simp [k]
theorem Sorts.at {A : List Vl} {P : List Int} (h : Sorts A P) {i : Nat} (hi : i < P.length) : ∃ (j : Nat) (a : Vl), j < A.length ∧ P[i]? = some (j : Int) ∧ A[j]? = some a ∧ (agn A P)[i]? = some a := by
  obtain ⟨D, p, s, e⟩ := h
  have hd : i < D.length := by rw [e, List.length_map] at hi; exact hi
  obtain ⟨j, a, hj, ha, ed⟩ := tks_mem (p.mem_iff.1 (List.getElem_mem hd))
  have hP : P[i]? = some (j : Int) := by rw [e, List.getElem?_map, List.getElem?_eq_getElem hd, ed]; rfl
  exact ⟨j, a, hj, hP, ha, agn_at hP ha⟩
theorem Sorts.next {A : List Vl} {P : List Int} (h : Sorts A P) {i l j k : Nat} {a b : Vl} (hil : i < l) (h1 : P[i]? = some (j : Int)) (h2 : P[l]? = some (k : Int)) (ha : A[j]? = some a) (hb : A[k]? = some b) :
    cm (rt a.k a.n a.s) (rt b.k b.n b.s) < 0 ∨ (cm (rt a.k a.n a.s) (rt b.k b.n b.s) = 0 ∧ (j : Int) ≤ (k : Int)) := by
  obtain ⟨D, p, s, e⟩ := h
  rw [e, List.getElem?_map, Option.map_eq_some_iff] at h1 h2
  obtain ⟨x, hx, x1⟩ := h1
  obtain ⟨y, hy, y1⟩ := h2
  obtain ⟨j', a', _, ha', ex⟩ := tks_mem (p.mem_iff.1 (List.mem_of_getElem? hx))
  obtain ⟨k', b', _, hb', ey⟩ := tks_mem (p.mem_iff.1 (List.mem_of_getElem? hy))
  have jj : j' = j := by rw [ex] at x1; exact Int.ofNat.inj x1
  have kk : k' = k := by rw [ey] at y1; exact Int.ofNat.inj y1
  subst jj kk
  rw [ha] at ha'
  rw [hb] at hb'
  obtain rfl := Option.some.inj ha'
  obtain rfl := Option.some.inj hb'
  rw [List.pairwise_iff_getElem] at s
  have hx' := List.getElem?_eq_some_iff.1 hx
  have hy' := List.getElem?_eq_some_iff.1 hy
  have := s i l hx'.1 hy'.1 hil
  rw [hx'.2, hy'.2, ct_le, ex, ey] at this
  exact this
theorem Sorts.again {A : List Vl} {P Q : List Int} (h : Sorts A P) (k : Sorts (agn A P) Q) : Q = (List.range P.length).map fun i : Nat => (i : Int) := by
  have own : Sorts (agn A P) ((tks (agn A P)).map (·.i)) := by
    refine ⟨tks (agn A P), List.Perm.refl _, ?_, rfl⟩
    rw [List.pairwise_iff_getElem]
    intro i l hi hl hil
    have hi' : i < P.length := by rwa [tks_len, agn_len] at hi
    have hl' : l < P.length := by rwa [tks_len, agn_len] at hl
    obtain ⟨j, a, _, h1, ha, ga⟩ := h.at hi'
    obtain ⟨m, b, _, h2, hb, gb⟩ := h.at hl'
    have e1 := tks_at ga
    have e2 := tks_at gb
    rw [List.getElem?_eq_getElem hi] at e1
    rw [List.getElem?_eq_getElem hl] at e2
    rw [Option.some.inj e1, Option.some.inj e2, ct_le]
    rcases h.next hil h1 h2 ha hb with z | z
    · exact .inl z
    · exact .inr ⟨z.1, by show (i : Int) ≤ (l : Int); omega⟩
  rw [k.uniq own, tks_i, agn_len]
/-- Which places have come. -/
def sn (P : List Int) (n i : Nat) : List Bool := (List.range n).map fun j : Nat => decide ((j : Int) ∈ P.take i)
theorem sn_len (P : List Int) (n i : Nat) : (sn P n i).length = n := by rw [sn, List.length_map, List.length_range]
theorem sn_zero (P : List Int) (n : Nat) : sn P n 0 = List.replicate n false := by
  apply List.ext_getElem?
  intro j
  rw [sn, List.getElem?_map, List.getElem?_replicate]
  by_cases h : j < n
  · rw [List.getElem?_range h, if_pos h]; simp
  · rw [List.getElem?_eq_none (by rw [List.length_range]; omega), if_neg h]; rfl
theorem sn_at {P : List Int} (hP : P.Nodup) {n i j : Nat} (h : P[i]? = some (j : Int)) (hj : j < n) : (sn P n i)[j]? = some false := by
  rw [sn, List.getElem?_map, List.getElem?_range hj]
  simp only [Option.map_some, Option.some.injEq, decide_eq_false_iff_not]
  intro hm
  obtain ⟨m, hm1, hm2⟩ := List.getElem_of_mem hm
  rw [List.length_take] at hm1
  rw [List.getElem_take] at hm2
  obtain ⟨hi, he⟩ := List.getElem?_eq_some_iff.1 h
  rw [List.nodup_iff_pairwise_ne, List.pairwise_iff_getElem] at hP
  exact hP m i (by omega) hi (by omega) (by rw [hm2, he])
theorem sn_set {P : List Int} {n i j : Nat} (h : P[i]? = some (j : Int)) (hj : j < n) : (sn P n i).set j true = sn P n (i + 1) := by
  apply List.ext_getElem?
  intro k
  by_cases hk : k < n
  · rw [sn, sn, List.getElem?_set, List.getElem?_map, List.getElem?_map, List.getElem?_range hk, List.length_map, List.length_range, List.take_add_one, h]
    by_cases e : j = k
    · subst e
      rw [if_pos rfl, if_pos hj]
      simp
    · rw [if_neg e]
      have : ¬ ((k : Int) = (j : Int)) := fun z => e (by omega)
      simp [this]
  · rw [List.getElem?_eq_none (by rw [List.length_set, sn_len]; omega), List.getElem?_eq_none (by rw [sn_len]; omega)]
end Re
end Go.Proofs.YtpmmbaahoegmlaaGreatDoor

namespace Go.Proofs.YtpmmbaahoegmlaaGreatDoor
open Go Go.RowKit Go.Deep Go.Shelf

theorem wpList_append_t {ty : TypeId} {ops : Array Oper} {rest : List Oper} {o : Oper} {a : Act} {Q : Exit → Act → World → Prop} (hgd : o.guard = none) (s x : Operand)
    (ho : o.op = .call { callee := .builtin .append, args := #[s, x], argTypes := #[ty, ty] }) {v y v' : Value} {w w' : World} (hr : (Builtin.append_ #[ty, ty] o.type #[v, y]).run Tryz.prog w = .ok v' w') (hs : a.eval s = v) (hx : a.eval x = y)
    (h : wpList Tryz.prog ops Q rest (a.put o.dst v') w') : wpList Tryz.prog ops Q (o :: rest) a w := by
  refine wpList_plain hgd fun K hK => ?_
  unfold Oper.wp execOp
  simp only [ho, resolve, invoke, builtin, Sem.run_bind, Sem.run_pure, Result.andThen_ok, List.map_toArray, List.map_cons, List.map_nil, hs, hx, hr]
  exact hK _ _ h

namespace Re
theorem next0 (m : Nat) (h : 0 < m) : Builtin.nextslicecap m 0 = m := by
  unfold Builtin.nextslicecap
  simp
  try omega
theorem src_i {w : World} {g m : Nat} {P : List Int} (h : Bx w g 3 (fl ei P).toArray) (hm : m ≤ P.length) : (fl ei (P.take m)).length = m * 1 ∧ (∀ j u, (fl ei (P.take m))[j]? = some u → w.cell? ((⟨g, 0, none⟩ : Addr).add j) = some u) ∧ ∀ u ∈ fl ei (P.take m), u.oneCell' = true := by
  refine ⟨by rw [fl_len ei_len, List.length_take]; omega, fun j u hu => ?_, fun u hu => ?_⟩
  · have hj : j < (P.take m).length * 1 := by rw [← fl_len ei_len (P.take m)]; exact (List.getElem?_eq_some_iff.1 hu).1
    rw [Nat.mul_one] at hj
    have hj2 : j < m ∧ j < P.length := by rw [List.length_take] at hj; omega
    have e := fl_at ei_len (D := P.take m) (List.getElem?_eq_getElem hj) 0 (by omega)
    rw [Nat.mul_one, Nat.add_zero, hu] at e
    have c := bx_cell ei_len h (List.getElem?_eq_getElem hj2.2) 0 (by omega) _ rfl
    rw [Nat.mul_one, Nat.add_zero] at c
    rw [Go.WideShapes.add_plain, Nat.zero_add, c, e, List.getElem_take]
    rfl
  · obtain ⟨a, _, h⟩ := List.mem_flatMap.1 hu
    simp only [ei, List.mem_cons, List.not_mem_nil, or_false] at h
    rw [h]; rfl
/-- append to nothing. -/
theorem app_i {w : World} {g m n b : Nat} {P : List Int} (h : Bx w g 3 (fl ei P).toArray) (hm : m ≤ P.length) (hl : m ≤ 4398046511104) :
    ∃ b' c w', (Builtin.append_ #[29, 29] 29 #[.slice (some ⟨b, 0, none⟩) 0 0, .slice (some ⟨g, 0, none⟩) m n]).run Tryz.prog w = .ok (.slice (some ⟨b', 0, none⟩) m c) w' ∧ (∀ j x, j < m → P[j]? = some x → w'.cell? ⟨b', j, none⟩ = some (.int .i64 x)) ∧ Below w.heap.size w w' := by
  obtain ⟨i, hi, hz⟩ := Option.map_eq_some_iff.1 infoI
  simp only [Prod.mk.injEq] at hz
  obtain ⟨z1, z2, z3⟩ := hz
  obtain ⟨s1, s2, s3⟩ := src_i h hm
  rw [← z2] at s1
  by_cases m0 : m = 0
  · subst m0
    refine ⟨b, 0, w, ?_, fun j x hj => absurd hj (Nat.not_lt_zero _), Below.refl _ _⟩
    rw [List.take_zero] at s1 s2 s3
    exact run_append_room_cells w 29 29 3 i Tryz.underlying29 hi b 0 0 0 ⟨g, 0, none⟩ 0 n [] (by simp) (by simp) (by simp) (by omega) (by simp) (by simp)
  · have r := run_append_grow w 29 29 3 i _ Tryz.underlying29 hi z1 ⟨b, 0, none⟩ 0 0 [] (by simp) (by simp) ⟨g, 0, none⟩ m n _ s1 s2 (by omega) (by omega) (by rw [Nat.zero_add, next0 m (by omega), z3]; omega)
    rw [Nat.zero_add] at r
    refine ⟨_, _, _, r, fun j x hj hx => ?_, below_on (Below.drew (Below.refl _ _)) (alloc_b _ _)⟩
    have e : (fl ei (P.take m))[j]? = some (.int .i64 x) := by
      have hx2 : (P.take m)[j]? = some x := by rw [List.getElem?_take, if_pos hj]; exact hx
      have := fl_at ei_len hx2 0 (by omega)
      rw [Nat.mul_one, Nat.add_zero] at this
      rw [this]; rfl
    have hb := Bx.new w.drew 3 (([] : List Value).toArray ++ (fl ei (P.take m)).toArray ++ Builtin.zeroCells (Value.int .i64 0).cells (grownCap w m 0 3 - m))
    refine hb.cell j _ ?_
    rw [Array.getElem?_append_left (by simpa using (List.getElem?_eq_some_iff.1 e).1)]
    simpa using e
end Re

set_option maxRecDepth 100000 in
set_option maxHeartbeats 2000000 in
theorem iclone_any (g m n : Nat) (P : List Int) (w : World) (h : Bx w g 3 (Re.fl Re.ei P).toArray) (hm : m ≤ P.length) (hl : m ≤ 4398046511104) :
    Calls Tryz.prog 18 #[.slice (some ⟨g, 0, none⟩) m n] w fun e w' => ∃ b c, e = .returned (.slice (some ⟨b, 0, none⟩) m c) ∧ (∀ j x, j < m → P[j]? = some x → w'.cell? ⟨b, j, none⟩ = some (.int .i64 x)) ∧ Below w.heap.size w w' := by
  have b1 := alloc_b w (.cells #[] 3)
  obtain ⟨b', c, w', AP, cc, bb⟩ := Re.app_i (m := m) (n := n) (b := w.heap.size) (h.on b1) hm hl
  have AP := hid AP
  have R := hid (And.intro cc (below_on b1 bb))
  have EN : ∀ W, (binOp .eql 29 (.slice (some ⟨g, 0, none⟩) m n) (.slice none 0 0)).run Tryz.prog W = .ok (.bool false) W := fun W => by
    simp only [binOp]
    simp [Op.equal, Op.maxDepth, Lib.run_equalIn_slice_nil W 9999 29 3 (some ⟨g, 0, none⟩) m n 0 0 Tryz.underlying29]
  clear h hm hl b1 cc bb
  go_enter Tryz.func18, Tryz.ntmps18
  go_wp2_with (at_builtin; refine wpList_append_t rfl _ _ rfl AP.out (by rfl) (by rfl) ?_; clear AP)
  go_ret
  exact ⟨_, _, rfl, R.out⟩

set_option maxRecDepth 100000 in
set_option maxHeartbeats 2000000 in
theorem top_any (p : Option Addr) (cap : Nat) (A : List Re.Vl) (k : Int) (w : World) (hv : Re.LV w p A) (hw : ∀ a ∈ A, 0 ≤ a.n ∧ a.n < 18446744073709551616) (hl : A.length ≤ 4398046511104) (hk : k ≤ 9223372036854775807) :
    Calls Tryz.prog 8 #[.slice p A.length cap, .int .i64 k] w fun e w' => ∃ q m c, e = .returned (.slice q m c) ∧ (m : Int) = min (max k 0) (A.length : Int) ∧ (0 < m → ∃ b, q = some ⟨b, 0, none⟩ ∧ ∀ P, Re.Sorts A P → ∀ j x, j < m → P[j]? = some x → w'.cell? ⟨b, j, none⟩ = some (.int .i64 x)) ∧ Below w.heap.size w w' := by
  have SO := hid (sort_any p cap A w hv hw hl)
  have IC := hid (fun g m n P W h hm hl => iclone_any g m n P W h hm hl)
  obtain ⟨n, hn⟩ : ∃ n, A.length = n := ⟨_, rfl⟩
  have HN := hid hn
  rw [hn] at SO hl ⊢
  clear hv hw hn
  by_cases k1 : k < 1
  · clear SO IC
    have hmn : Hid ((0 : Int) = min (max k 0) (n : Int)) := by rw [Hid]; omega
    go_enter Tryz.func8, Tryz.ntmps8
    go_wp2_with fail
    go_ret
    exact ⟨none, 0, 0, rfl, hmn.out, fun z => absurd z (Nat.lt_irrefl _), Below.refl _ _⟩
  · go_enter Tryz.func8, Tryz.ntmps8
    go_wp2_with fail
    refine SO.out.mono ?_
    rintro e w1 ⟨g, P, rfl, hg, x1, so, pl, b1⟩
    have R1 := hid (And.intro so (And.intro pl (And.intro b1 x1)))
    clear so pl b1 x1 SO hg
    go_wp2_with fail
    refine (IC.out g (min k (n : Int)).toNat n P w1 R1.out.2.2.2 (by have := R1.out.2.1; omega) (by omega)).mono ?_
    rintro e w2 ⟨b, c, rfl, cc, b2⟩
    have hmn : Hid ((((min k (n : Int)).toNat : Nat) : Int) = min (max k 0) (n : Int)) := by rw [Hid]; omega
    have R2 : Hid ((∀ Q, Re.Sorts A Q → ∀ j x, j < (min k (n : Int)).toNat → Q[j]? = some x → w2.cell? ⟨b, j, none⟩ = some (.int .i64 x)) ∧ Below w.heap.size w w2) := ⟨fun Q hQ j x hj hx => cc j x hj (by rw [R1.out.1.uniq hQ]; exact hx), below_on R1.out.2.2.1 b2⟩
    generalize (min k (n : Int)).toNat = m at *
    clear cc b2 R1 IC
    go_wp2_with fail
    go_ret
    exact ⟨_, _, _, rfl, hmn.out, fun _ => ⟨b, rfl, R2.out.1⟩, R2.out.2⟩

end Go.Proofs.YtpmmbaahoegmlaaGreatDoor
