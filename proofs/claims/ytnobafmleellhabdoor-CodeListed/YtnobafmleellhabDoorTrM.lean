/-
  Lists of structs as blocks of cells, in a seat without relate (mktrm.py).
-/
import Derived.Test.YtnobafmleellhabDoorVBx
import Derived.Deep.RegionHeld3
import Derived.Laws.IdiomCopy
import Derived.Laws.OwnMore
import Derived.OwnWalk
import Derived.Deep.LoopGhost
namespace Go.Proofs.YtnobafmleellhabDoor
open Go Go.RowKit Go.Deep

/-- copy of things of k cells. -/
theorem run_copy_k {P : Program} (w : World) (dT sT ty elem : TypeId) (k b o dLen dCap : Nat) (a : Addr) (sLen sCap : Nat) (cs : List Value)
    (hu : P.underlying dT = some (.slice elem)) (hs : (P.info? elem).map (·.size) = some k) (hn : cs.length = Nat.min sLen dLen * k)
    (hsrc : ∀ j v, cs[j]? = some v → w.cell? (a.add j) = some v) (hc : ∀ j, j < cs.length → (w.cell? ⟨b, o + j, none⟩).isSome = true) (hf : ∀ j, j < cs.length → w.frozen? ⟨b, o + j, none⟩ = false) (h1 : ∀ v ∈ cs, v.oneCell' = true) :
    (Builtin.copy_ #[dT, sT] ty #[.slice (some ⟨b, o, none⟩) dLen dCap, .slice (some a) sLen sCap]).run P w = .ok (goInt (Nat.min sLen dLen)) (w.setCells b o cs) := by
  have hl := run_loadCells_list (P := P) w a cs hsrc
  have hst := run_storeCells_cells (P := P) b o cs 0 w (by simpa using hc) (by simpa using hf) h1
  cases hq : P.info? elem with
  | none => simp [hq] at hs
  | some i =>
    have hi : i.size = k := by simpa [hq] using hs
    simp [Builtin.copy_, run_underlying hu, Builtin.lenOf, Builtin.firstCells, sizeOf, typeInfo, hq, hi, ← hn, hl, hst]
theorem run_copy_k0 {P : Program} (w : World) (dT sT ty elem : TypeId) (k : Nat) (d a : Option Addr) (dLen dCap sLen sCap : Nat) (hu : P.underlying dT = some (.slice elem)) (hs : (P.info? elem).map (·.size) = some k) (hn : Nat.min sLen dLen = 0) :
    (Builtin.copy_ #[dT, sT] ty #[.slice d dLen dCap, .slice a sLen sCap]).run P w = .ok (goInt 0) w := by
  cases hq : P.info? elem with
  | none => simp [hq] at hs
  | some i =>
    have hl : ∀ (x : Addr), (loadCells x 0).run P w = .ok #[] w := fun x => by simpa using run_loadCells_list (P := P) w x [] (by simp)
    cases d <;> cases a <;> simp [Builtin.copy_, run_underlying hu, Builtin.lenOf, Builtin.firstCells, sizeOf, typeInfo, hq, hn, storeCells, hl]


namespace Re
/-- What changes is in S or new. -/
structure Kp (S : Nat → Prop) (w w' : World) : Prop where
  os : w'.os = w.os
  tape : w'.tape = w.tape
  output : w'.output = w.output
  size : w.heap.size ≤ w'.heap.size
  block : ∀ b, b < w.heap.size → ¬ S b → w'.heap[b]? = w.heap[b]?
theorem Kp.refl (S : Nat → Prop) (w : World) : Kp S w w := ⟨rfl, rfl, rfl, Nat.le_refl _, fun _ _ _ => rfl⟩
theorem Kp.of {S : Nat → Prop} {w w' : World} (h : Below w.heap.size w w') : Kp S w w' := ⟨h.os, h.tape, h.output, h.size, fun b hb _ => h.block b hb⟩
theorem Kp.trans {S : Nat → Prop} {a b c : World} (h : Kp S a b) (k : Kp S b c) : Kp S a c :=
  ⟨k.os.trans h.os, k.tape.trans h.tape, k.output.trans h.output, Nat.le_trans h.size k.size, fun i hi hs => (k.block i (Nat.lt_of_lt_of_le hi h.size) hs).trans (h.block i hi hs)⟩
theorem Kp.mono {S T : Nat → Prop} {w w' : World} (h : Kp S w w') (q : ∀ b, S b → T b) : Kp T w w' := ⟨h.os, h.tape, h.output, h.size, fun b hb ht => h.block b hb (fun s => ht (q b s))⟩
theorem Kp.set {S : Nat → Prop} {w w' : World} (h : Kp S w w') {b : Nat} (hb : S b) (o : Nat) (v : Value) : Kp S w (w'.setCell ⟨b, o, none⟩ v) :=
  ⟨h.os, h.tape, h.output, by simpa [World.setCell] using h.size, fun i hi hs => by
    rw [Below.heap_setCell _ _ _ _ (fun e => hs (by rw [e]; exact hb))]; exact h.block i hi hs⟩
theorem Kp.below {S : Nat → Prop} {w w' : World} {B : Nat} (h : Kp S w w') (hB : B ≤ w.heap.size) (hs : ∀ b, S b → B ≤ b) : Below B w w' :=
  ⟨h.os, h.tape, h.output, h.size, fun b hb => h.block b (by omega) (fun s => by have := hs b s; omega)⟩
theorem _root_.Go.Proofs.YtnobafmleellhabDoor.Bx.kp {S : Nat → Prop} {w w' : World} {b t : Nat} {c : Array Value} (h : Bx w b t c) (k : Kp S w w') (hs : ¬ S b) : Bx w' b t c := by
  unfold Bx
  rw [k.block b h.lt hs]; exact h

/-- The cells of a list. -/
def fl {α : Type} (enc : α → List Value) (D : List α) : List Value := D.flatMap enc
section
variable {α : Type} {enc : α → List Value} {k : Nat} (hk : ∀ x, (enc x).length = k)
include hk
theorem fl_len (D : List α) : (fl enc D).length = D.length * k := by
  induction D with
  | nil => simp [fl]
  | cons x D ih => rw [fl, List.flatMap_cons, List.length_append, hk, ← fl, ih, List.length_cons, Nat.add_mul, Nat.one_mul, Nat.add_comm]
theorem fl_at : ∀ {D : List α} {i : Nat} {a : α}, D[i]? = some a → ∀ j, j < k → (fl enc D)[i * k + j]? = (enc a)[j]?
  | [], i, a, h, _, _ => by simp at h
  | b :: D, 0, a, h, j, hj => by
    obtain rfl : b = a := Option.some.inj h
    rw [fl, List.flatMap_cons, List.getElem?_append_left (by rw [hk]; omega)]
    simp
  | b :: D, i + 1, a, h, j, hj => by
    rw [fl, List.flatMap_cons, List.getElem?_append_right (by rw [hk, Nat.add_mul]; omega), ← fl]
    rw [← fl_at (D := D) (i := i) (a := a) (by simpa using h) j hj]
    congr 1
    rw [hk, Nat.add_mul]
    omega
/-- One thing of a list, written. -/
theorem fl_set : ∀ (D : List α) (i : Nat) (x : α), i < D.length → (fl enc D).take (i * k) ++ enc x ++ (fl enc D).drop (i * k + k) = fl enc (D.set i x)
  | [], i, x, h => by simp at h
  | b :: D, 0, x, _ => by
    rw [List.set_cons_zero, fl, fl, List.flatMap_cons, List.flatMap_cons, Nat.zero_mul, List.take_zero, List.nil_append, Nat.zero_add, List.drop_append_of_le_length (by rw [hk]; omega), List.drop_of_length_le (by rw [hk]; omega), List.nil_append]
  | b :: D, i + 1, x, h => by
    have ih := fl_set D i x (by simpa using h)
    rw [List.set_cons_succ, fl, fl, List.flatMap_cons, List.flatMap_cons, ← fl, ← fl, ← ih]
    have e : (i + 1) * k = (enc b).length + i * k := by rw [hk, Nat.add_mul]; omega
    rw [e, List.take_append, List.drop_append]
    have e1 : (enc b).take ((enc b).length + i * k) = enc b := List.take_of_length_le (by omega)
    have e2 : (enc b).drop ((enc b).length + i * k + k) = [] := List.drop_of_length_le (by omega)
    rw [e1, e2, List.nil_append, show (enc b).length + i * k - (enc b).length = i * k by omega, show (enc b).length + i * k + k - (enc b).length = i * k + k by omega]
    simp [List.append_assoc]
end
/-- Cells of a block, written one behind the other. -/
theorem bx_setc {g t : Nat} : ∀ (vs : List Value) (o : Nat) (w : World) (L : List Value), Bx w g t L.toArray → o + vs.length ≤ L.length → Bx (w.setCells g o vs) g t (L.take o ++ vs ++ L.drop (o + vs.length)).toArray
  | [], o, w, L, h, _ => by
    have e : L.take o ++ [] ++ L.drop (o + ([] : List Value).length) = L := by simp
    rw [e]; exact h
  | v :: r, o, w, L, h, hl => by
    simp only [List.length_cons] at hl
    have h1 : Bx (w.setCell ⟨g, o, none⟩ v) g t (L.set o v).toArray := by
      have := h.set o v
      rwa [List.setIfInBounds_toArray] at this
    have h2 := bx_setc r (o + 1) _ (L.set o v) h1 (by rw [List.length_set]; omega)
    have e : (L.set o v).take (o + 1) ++ r ++ (L.set o v).drop (o + 1 + r.length) = L.take o ++ v :: r ++ L.drop (o + (v :: r).length) := by
      have e1 : (L.set o v).take (o + 1) = L.take o ++ [v] := by
        rw [List.take_add_one, List.take_set, List.getElem?_set_self (by omega)]
        rw [List.set_eq_of_length_le (by rw [List.length_take]; omega)]
        rfl
      have e2 : (L.set o v).drop (o + 1 + r.length) = L.drop (o + 1 + r.length) := by
        rw [List.drop_set_of_lt (by omega)]
      rw [e1, e2, List.length_cons, show o + 1 + r.length = o + (r.length + 1) by omega]
      simp [List.append_assoc]
    rw [e] at h2
    exact h2
section
variable {α : Type} {enc : α → List Value} {k : Nat} (hk : ∀ x, (enc x).length = k)
include hk
theorem bx_put {g t i : Nat} {D : List α} {w : World} (h : Bx w g t (fl enc D).toArray) (x : α) (hi : i < D.length) : Bx (w.setCells g (i * k) (enc x)) g t (fl enc (D.set i x)).toArray := by
  have e := fl_len hk D
  have m : i * k + k ≤ D.length * k := by
    have := Nat.mul_le_mul_right k (show i + 1 ≤ D.length from hi)
    rwa [Nat.add_mul, Nat.one_mul] at this
  have := bx_setc (enc x) (i * k) w (fl enc D) h (by rw [hk]; omega)
  rw [hk, fl_set hk D i x hi] at this
  exact this
theorem bx_cell {g t i : Nat} {D : List α} {w : World} {a : α} (h : Bx w g t (fl enc D).toArray) (hi : D[i]? = some a) (j : Nat) (hj : j < k) (v : Value) (hv : (enc a)[j]? = some v) : w.cell? ⟨g, i * k + j, none⟩ = some v :=
  h.cell _ _ (by rw [List.getElem?_toArray, fl_at hk hi j hj]; exact hv)
theorem bx_range {g t i : Nat} {D : List α} {w : World} {a : α} (h : Bx w g t (fl enc D).toArray) (hi : D[i]? = some a) : w.rangeAt g (i * k) (enc a) := fun j v hv =>
  bx_cell hk h hi j (by rw [← hk a]; exact (List.getElem?_eq_some_iff.1 hv).1) v hv
theorem bx_there {g t i : Nat} {D : List α} {w : World} (h : Bx w g t (fl enc D).toArray) (hi : i < D.length) : w.there g (i * k) k := fun c hc => by
  obtain ⟨a, ha⟩ : ∃ a, D[i]? = some a := ⟨_, List.getElem?_eq_getElem hi⟩
  have hv : (enc a)[c]? = some ((enc a)[c]'(by rw [hk]; exact hc)) := List.getElem?_eq_getElem _
  exact ⟨by rw [bx_cell hk h ha c hc _ hv]; rfl, h.free _⟩
end
/-- What makeSlice lays. -/
theorem made_fl {α : Type} {enc : α → List Value} {k : Nat} (hk : ∀ x, (enc x).length = k) (z : α) (k0 : 0 < k) (n : Nat) : madeCells (enc z).toArray (n * k) = (fl enc (List.replicate n z)).toArray := by
  have sz : (enc z).toArray.size = k := by rw [List.size_toArray]; exact hk z
  have l2 := fl_len hk (List.replicate n z)
  rw [List.length_replicate] at l2
  apply Array.ext
  · rw [size_madeCells, List.size_toArray, l2]
  · intro j h1 h2
    rw [size_madeCells] at h1
    have hi : j / k < n := Nat.div_lt_of_lt_mul (by rwa [Nat.mul_comm])
    have hc : j % k < k := Nat.mod_lt _ k0
    have e := fl_at hk (D := List.replicate n z) (i := j / k) (a := z) (by simp [hi]) (j % k) hc
    rw [Nat.div_add_mod'] at e
    have hz : j % k < (enc z).length := by rw [hk]; exact hc
    rw [List.getElem?_eq_getElem (by rw [l2]; exact h1), List.getElem?_eq_getElem hz] at e
    have e3 : (fl enc (List.replicate n z)).toArray[j] = (enc z)[j % k] := Option.some.inj e
    rw [e3]
    simp [madeCells, hk]
    rw [List.getElem?_eq_getElem hz]
    rfl

theorem setCells_all (g : Nat) : ∀ (vs : List Value) (o : Nat) (w : World), (w.setCells g o vs).os = w.os ∧ (w.setCells g o vs).tape = w.tape ∧ (w.setCells g o vs).output = w.output ∧ (w.setCells g o vs).heap.size = w.heap.size ∧ ∀ i, i ≠ g → (w.setCells g o vs).heap[i]? = w.heap[i]?
  | [], _, w => ⟨rfl, rfl, rfl, rfl, fun _ _ => rfl⟩
  | v :: r, o, w => by
    obtain ⟨a, b, c, d, e⟩ := setCells_all g r (o + 1) (w.setCell ⟨g, o, none⟩ v)
    exact ⟨a, b, c, d.trans (by simp [World.setCell]), fun i hi => (e i hi).trans (Below.heap_setCell _ _ _ _ hi)⟩
theorem Kp.setcs {S : Nat → Prop} {w W : World} (h : Kp S w W) {g : Nat} (hg : S g ∨ w.heap.size ≤ g) (o : Nat) (vs : List Value) : Kp S w (W.setCells g o vs) := by
  obtain ⟨a, b, c, d, e⟩ := setCells_all g vs o W
  refine ⟨a.trans h.os, b.trans h.tape, c.trans h.output, by rw [d]; exact h.size, fun i hi hs => ?_⟩
  rw [e i (fun q => by subst q; rcases hg with hg | hg; exact hs hg; omega)]
  exact h.block i hi hs
theorem _root_.Go.Proofs.YtnobafmleellhabDoor.Bx.setc {w : World} {b t g o : Nat} {c : Array Value} {vs : List Value} (h : Bx w b t c) (hg : b ≠ g) : Bx (w.setCells g o vs) b t c := by
  induction vs generalizing w o with
  | nil => exact h
  | cons v r ih => exact ih (h.far (fun e => hg e.symm))
/-- A row of our own, of things of k cells. -/
def Ow {α : Type} (enc : α → List Value) (t k base : Nat) (w : World) (mv : Value) (D : List α) : Prop := w.ownsRow base t k mv D.length (fl enc D)
section
variable {α : Type} {enc : α → List Value} {t k base : Nat}
theorem Ow.below {w w' : World} {mv : Value} {D : List α} (h : Ow enc t k base w mv D) (hb : Below w.heap.size w w') : Ow enc t k base w' mv D :=
  World.ownsRow.kept (row := none) h ⟨hb.os, hb.tape, hb.output, hb.size, fun j hj _ => hb.block j hj⟩ (by cases h : Value.ownBlock mv <;> simp)
theorem Ow.kp {S : Nat → Prop} {w w' : World} {mv : Value} {D : List α} (h : Ow enc t k base w mv D) (hb : Kp S w w') (hs : ∀ b, S b → b < base) : Ow enc t k base w' mv D := by
  obtain ⟨h1, h2⟩ := h
  refine ⟨h1, ?_⟩
  rcases h2 with h2 | ⟨g, cap, cur, e1, e2, e3, e4⟩
  · exact .inl h2
  · refine .inr ⟨g, cap, cur, e1, e2, ?_, e4⟩
    have hg : g < w.heap.size := by
      rcases Nat.lt_or_ge g w.heap.size with hl | hl
      · exact hl
      · simp [Array.getElem?_eq_none hl] at e3
    rw [hb.block g hg (fun s => by have := hs g s; omega)]
    exact e3
theorem Ow.nil (w : World) : Ow enc t k base w (.slice none 0 0) [] := World.ownsRow_nil _ _ _ _
theorem Ow.shape {w : World} {mv : Value} {D : List α} (h : Ow enc t k base w mv D) : (∃ cap, mv = .slice none 0 cap ∧ D = []) ∨ ∃ g cap, mv = .slice (some ⟨g, 0, none⟩) D.length cap ∧ base ≤ g ∧ g < w.heap.size ∧ D.length ≤ cap ∧ cap ≤ maxLen := by
  rcases h.2 with ⟨rfl, hn⟩ | ⟨g, cp, cur, rfl, hb, hg, hc, hm, _⟩
  · exact .inl ⟨0, rfl, List.eq_nil_of_length_eq_zero hn⟩
  · refine .inr ⟨g, cp, rfl, hb, ?_, hc, hm⟩
    rcases Nat.lt_or_ge g w.heap.size with hl | hl
    · exact hl
    · simp [Array.getElem?_eq_none hl] at hg
theorem Ow.cell (hk : ∀ x, (enc x).length = k) {w : World} {g n cap : Nat} {D : List α} (h : Ow enc t k base w (.slice (some ⟨g, 0, none⟩) n cap) D) {i : Nat} {a : α} (hi : D[i]? = some a) (j : Nat) (hj : j < k) (v : Value) (hv : (enc a)[j]? = some v) : w.cell? ⟨g, i * k + j, none⟩ = some v := by
  have e := fl_at hk hi j hj
  rw [hv] at e
  have := World.ownsRow.cells h (g := g) rfl (i * k + j) v e
  rwa [Go.WideShapes.add_plain, Nat.zero_add] at this
theorem Ow.take (hk : ∀ x, (enc x).length = k) {w : World} {g n cap : Nat} {D : List α} (h : Ow enc t k base w (.slice (some ⟨g, 0, none⟩) n cap) D) (m : Nat) (hm : m ≤ D.length) : Ow enc t k base w (.slice (some ⟨g, 0, none⟩) m cap) (D.take m) := by
  obtain ⟨h1, h2⟩ := h
  have lk : (D.take m).length = m := by rw [List.length_take]; omega
  have l2 := fl_len hk D
  have l3 := fl_len hk (D.take m)
  rw [lk] at l3
  refine ⟨by rw [lk]; exact l3, ?_⟩
  rcases h2 with ⟨e, _⟩ | ⟨g', cap', cur, e1, e2, e3, e4, e5, e6, e7⟩
  · simp at e
  · simp only [Value.slice.injEq, Option.some.injEq, Addr.mk.injEq] at e1
    obtain ⟨⟨e1, _⟩, _, e1'⟩ := e1
    subst e1 e1'
    refine .inr ⟨g, cap, cur, by rw [lk], e2, e3, by rw [lk]; omega, e5, e6, ?_⟩
    have mk : m * k ≤ D.length * k := Nat.mul_le_mul_right k hm
    have : cur.toList.take (m * k) = (fl enc D).take (m * k) := by rw [← e7, List.take_take]; congr 1; omega
    have q : (fl enc D).take (m * k) = fl enc (D.take m) := by
      have e : fl enc D = fl enc (D.take m) ++ fl enc (D.drop m) := by rw [fl, fl, fl, ← List.flatMap_append, List.take_append_drop]
      rw [e, List.take_append_of_le_length (by omega), List.take_of_length_le (by omega)]
    rw [lk, this, q]
/-- One more thing, put behind; it lies in a block of its own ahead of that. -/
theorem Ow.push (hk : ∀ x, (enc x).length = k) (h1 : ∀ x, ∀ v ∈ enc x, v.oneCell' = true) (k0 : 0 < k) {P : Program} (s : TypeId) (hu : P.underlying s = some (.slice t)) {z : Value} {bytes : Nat} (hinf : (P.info? t).map (fun i => (i.zero, i.size, i.bytes)) = some (some z, k, bytes)) (hby : bytes ≤ 64) (hzc : z.cells.size = k)
    {w : World} {mv : Value} {D : List α} (ho : Ow enc t k base w mv D) (x : α) (hn : D.length ≤ 1000000000000) (hb : base ≤ w.heap.size) :
    ∃ mv' w', (Builtin.append_ #[s, s] s #[mv, .slice (some ⟨w.heap.size, 0, none⟩) 1 1]).run P (w.alloc (.cells (enc x).toArray t)) = .ok mv' w' ∧ Ow enc t k base w' mv' (D ++ [x]) ∧ w.heap.size ≤ w'.heap.size ∧
      Below base w w' ∧ (∀ j, j < w.heap.size → some j ≠ mv.ownBlock → w'.heap[j]? = w.heap[j]?) := by
  obtain ⟨i, hi, hz⟩ := Option.map_eq_some_iff.1 hinf
  simp only [Prod.mk.injEq] at hz
  obtain ⟨z1, z2, z3⟩ := hz
  have bm : Below w.heap.size w (w.alloc (.cells (enc x).toArray t)) := (Below.refl _ _).alloc (Nat.le_refl _) _
  have hs : (w.alloc (.cells (enc x).toArray t)).heap.size = w.heap.size + 1 := World.size_alloc _ _
  have ho' := World.ownsRow.alloc ho (.cells (enc x).toArray t)
  have hcell : ∀ j u, (enc x)[j]? = some u → (w.alloc (.cells (enc x).toArray t)).cell? ⟨w.heap.size, j, none⟩ = some u := by
    intro j u hu
    have h0 : (w.alloc (.cells (enc x).toArray t)).heap[w.heap.size]? = some (.cells (enc x).toArray t (0, 0)) := heap_alloc_new w _
    simp only [World.cell?, h0]
    simpa using hu
  obtain ⟨v', w', hr, h1, h2, _⟩ := run_append_own (P := P) (w.alloc (.cells (enc x).toArray t)) base s s t i _ k bytes hu hi z1 z2 z3 hzc (by omega) mv D.length (fl enc D) ho'
    ⟨w.heap.size, 0, none⟩ 1 1 (enc x) (by rw [hk]; omega) (fun j u hu => by
      rw [Go.WideShapes.add_plain, Nat.zero_add]
      exact hcell j u hu) (fun u hu => h1 x u hu) (by simp only [maxLen]; omega) (by
        have a1 : (D.length + 1) * bytes ≤ (D.length + 1) * 64 := Nat.mul_le_mul_left _ hby
        omega) (by rw [hs]; omega)
  refine ⟨v', w', hr, ?_, by have := h2.size; omega, ?_, fun j hj hne => ?_⟩
  · have e : fl enc (D ++ [x]) = fl enc D ++ enc x := by simp [fl]
    unfold Ow
    rw [e, List.length_append, List.length_singleton]
    exact h1
  · have hb2 : Below base (w.alloc (.cells (enc x).toArray t)) w' := by
      refine ⟨h2.os, h2.tape, h2.output, h2.size, fun j hj => h2.block j (by rw [hs]; omega) ?_⟩
      intro hk
      have := (ho'.lt j hk.symm).1
      omega
    exact (bm.mono hb).trans hb2
  · rw [h2.block j (by rw [hs]; omega) hne]; exact bm.block j hj
end
end Re
end Go.Proofs.YtnobafmleellhabDoor
