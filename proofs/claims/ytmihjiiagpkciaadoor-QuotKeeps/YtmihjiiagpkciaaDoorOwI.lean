/-
  Rows of our own in a seat of nat: lists of things of k cells that grow (TrM's and TrO's, over Keep).
-/
import Derived.Test.YtmihjiiagpkciaaDoorKeepT
import Derived.Laws.AppendOwn
import Derived.Laws.OwnMore
import Derived.OwnWalk
import Derived.Deep.LoopGhost
namespace Go.Proofs.YtmihjiiagpkciaaDoor
open Go Go.RowKit Go.Deep

namespace Re
/-- The cells of a list. -/
def fl {α : Type} (enc : α → List Value) (D : List α) : List Value := D.flatMap enc
section
variable {α : Type} {enc : α → List Value} {k : Nat} (hk : ∀ x, (enc x).length = k)
include hk
theorem fl_len (D : List α) : (fl enc D).length = D.length * k := by
  induction D with
  | nil => simp [fl]
  | cons x D ih => rw [fl, List.flatMap_cons, List.length_append, hk, ← fl, ih, List.length_cons, Nat.add_mul, Nat.one_mul, Nat.add_comm]
theorem fl_at : ∀ {D : List α} {i : Nat} {a : α}, D[i]? = some a → ∀ j, j < k → (fl enc D)[i * k + j]? = (enc a)[j]?
  | [], i, a, h, _, _ => by simp at h
  | b :: D, 0, a, h, j, hj => by
    obtain rfl : b = a := Option.some.inj h
    rw [fl, List.flatMap_cons, List.getElem?_append_left (by rw [hk]; omega)]
    simp
  | b :: D, i + 1, a, h, j, hj => by
    rw [fl, List.flatMap_cons, List.getElem?_append_right (by rw [hk, Nat.add_mul]; omega), ← fl]
    rw [← fl_at (D := D) (i := i) (a := a) (by simpa using h) j hj]
    congr 1
    rw [hk, Nat.add_mul]
    omega
end
/-- A row of our own, of things of k cells. -/
def Ow {α : Type} (enc : α → List Value) (t k base : Nat) (w : World) (mv : Value) (D : List α) : Prop := w.ownsRow base t k mv D.length (fl enc D)
section
variable {α : Type} {enc : α → List Value} {t k base : Nat}
theorem Ow.below {w w' : World} {mv : Value} {D : List α} (h : Ow enc t k base w mv D) (hb : Below w.heap.size w w') : Ow enc t k base w' mv D :=
  World.ownsRow.kept (row := none) h ⟨hb.os, hb.tape, hb.output, hb.size, fun j hj _ => hb.block j hj⟩ (by cases h : Value.ownBlock mv <;> simp)
theorem Ow.keep {S : Nat → Prop} {w w' : World} {mv : Value} {D : List α} (h : Ow enc t k base w mv D) (hb : Keep S w w') (hs : ∀ g, mv.ownBlock = some g → ¬ S g) : Ow enc t k base w' mv D := by
  obtain ⟨h1, h2⟩ := h
  refine ⟨h1, ?_⟩
  rcases h2 with h2 | ⟨g, cap, cur, e1, e2, e3, e4⟩
  · exact .inl h2
  · refine .inr ⟨g, cap, cur, e1, e2, ?_, e4⟩
    have hg : g < w.heap.size := by
      rcases Nat.lt_or_ge g w.heap.size with hl | hl
      · exact hl
      · simp [Array.getElem?_eq_none hl] at e3
    rw [hb.block g hg (hs g (by rw [e1]; rfl))]
    exact e3
theorem Ow.nil (w : World) : Ow enc t k base w (.slice none 0 0) [] := World.ownsRow_nil _ _ _ _
theorem Ow.shape {w : World} {mv : Value} {D : List α} (h : Ow enc t k base w mv D) : (∃ cap, mv = .slice none 0 cap ∧ D = []) ∨ ∃ g cap, mv = .slice (some ⟨g, 0, none⟩) D.length cap ∧ base ≤ g ∧ g < w.heap.size ∧ D.length ≤ cap ∧ cap ≤ maxLen := by
  rcases h.2 with ⟨rfl, hn⟩ | ⟨g, cp, cur, rfl, hb, hg, hc, hm, _⟩
  · exact .inl ⟨0, rfl, List.eq_nil_of_length_eq_zero hn⟩
  · refine .inr ⟨g, cp, rfl, hb, ?_, hc, hm⟩
    rcases Nat.lt_or_ge g w.heap.size with hl | hl
    · exact hl
    · simp [Array.getElem?_eq_none hl] at hg
theorem Ow.cell (hk : ∀ x, (enc x).length = k) {w : World} {g n cap : Nat} {D : List α} (h : Ow enc t k base w (.slice (some ⟨g, 0, none⟩) n cap) D) {i : Nat} {a : α} (hi : D[i]? = some a) (j : Nat) (hj : j < k) (v : Value) (hv : (enc a)[j]? = some v) : w.cell? ⟨g, i * k + j, none⟩ = some v := by
  have e := fl_at hk hi j hj
  rw [hv] at e
  have := World.ownsRow.cells h (g := g) rfl (i * k + j) v e
  rwa [Go.WideShapes.add_plain, Nat.zero_add] at this
theorem Ow.take (hk : ∀ x, (enc x).length = k) {w : World} {g n cap : Nat} {D : List α} (h : Ow enc t k base w (.slice (some ⟨g, 0, none⟩) n cap) D) (m : Nat) (hm : m ≤ D.length) : Ow enc t k base w (.slice (some ⟨g, 0, none⟩) m cap) (D.take m) := by
  obtain ⟨h1, h2⟩ := h
  have lk : (D.take m).length = m := by rw [List.length_take]; omega
  have l2 := fl_len hk D
  have l3 := fl_len hk (D.take m)
  rw [lk] at l3
  refine ⟨by rw [lk]; exact l3, ?_⟩
  rcases h2 with ⟨e, _⟩ | ⟨g', cap', cur, e1, e2, e3, e4, e5, e6, e7⟩
  · simp at e
  · simp only [Value.slice.injEq, Option.some.injEq, Addr.mk.injEq] at e1
    obtain ⟨⟨e1, _⟩, _, e1'⟩ := e1
    subst e1 e1'
    refine .inr ⟨g, cap, cur, by rw [lk], e2, e3, by rw [lk]; omega, e5, e6, ?_⟩
    have mk : m * k ≤ D.length * k := Nat.mul_le_mul_right k hm
    have : cur.toList.take (m * k) = (fl enc D).take (m * k) := by rw [← e7, List.take_take]; congr 1; omega
    have q : (fl enc D).take (m * k) = fl enc (D.take m) := by
      have e : fl enc D = fl enc (D.take m) ++ fl enc (D.drop m) := by rw [fl, fl, fl, ← List.flatMap_append, List.take_append_drop]
      rw [e, List.take_append_of_le_length (by omega), List.take_of_length_le (by omega)]
    rw [lk, this, q]
/-- One more thing, put behind; it lies in a block of its own ahead of that. -/
theorem Ow.push (hk : ∀ x, (enc x).length = k) (h1 : ∀ x, ∀ v ∈ enc x, v.oneCell' = true) (k0 : 0 < k) {P : Program} (s : TypeId) (hu : P.underlying s = some (.slice t)) {z : Value} {bytes : Nat} (hinf : (P.info? t).map (fun i => (i.zero, i.size, i.bytes)) = some (some z, k, bytes)) (hby : bytes ≤ 24) (hzc : z.cells.size = k)
    {w : World} {mv : Value} {D : List α} (ho : Ow enc t k base w mv D) (x : α) (hn : D.length ≤ 4000000000000) (hb : base ≤ w.heap.size) :
    ∃ mv' w', (Builtin.append_ #[s, s] s #[mv, .slice (some ⟨w.heap.size, 0, none⟩) 1 1]).run P (w.alloc (.cells (enc x).toArray t)) = .ok mv' w' ∧ Ow enc t k base w' mv' (D ++ [x]) ∧ w.heap.size ≤ w'.heap.size ∧
      Below base w w' ∧ (∀ j, j < w.heap.size → some j ≠ mv.ownBlock → w'.heap[j]? = w.heap[j]?) := by
  obtain ⟨i, hi, hz⟩ := Option.map_eq_some_iff.1 hinf
  simp only [Prod.mk.injEq] at hz
  obtain ⟨z1, z2, z3⟩ := hz
  have bm : Below w.heap.size w (w.alloc (.cells (enc x).toArray t)) := (Below.refl _ _).alloc (Nat.le_refl _) _
  have hs : (w.alloc (.cells (enc x).toArray t)).heap.size = w.heap.size + 1 := World.size_alloc _ _
  have ho' := World.ownsRow.alloc ho (.cells (enc x).toArray t)
  have hcell : ∀ j u, (enc x)[j]? = some u → (w.alloc (.cells (enc x).toArray t)).cell? ⟨w.heap.size, j, none⟩ = some u := by
    intro j u hu
    have h0 : (w.alloc (.cells (enc x).toArray t)).heap[w.heap.size]? = some (.cells (enc x).toArray t (0, 0)) := heap_alloc_new w _
    simp only [World.cell?, h0]
    simpa using hu
  obtain ⟨v', w', hr, h1, h2, _⟩ := run_append_own (P := P) (w.alloc (.cells (enc x).toArray t)) base s s t i _ k bytes hu hi z1 z2 z3 hzc (by omega) mv D.length (fl enc D) ho'
    ⟨w.heap.size, 0, none⟩ 1 1 (enc x) (by rw [hk]; omega) (fun j u hu => by
      rw [Go.WideShapes.add_plain, Nat.zero_add]
      exact hcell j u hu) (fun u hu => h1 x u hu) (by simp only [maxLen]; omega) (by
        have a1 : (D.length + 1) * bytes ≤ (D.length + 1) * 24 := Nat.mul_le_mul_left _ hby
        omega) (by rw [hs]; omega)
  refine ⟨v', w', hr, ?_, by have := h2.size; omega, ?_, fun j hj hne => ?_⟩
  · have e : fl enc (D ++ [x]) = fl enc D ++ enc x := by simp [fl]
    unfold Ow
    rw [e, List.length_append, List.length_singleton]
    exact h1
  · have hb2 : Below base (w.alloc (.cells (enc x).toArray t)) w' := by
      refine ⟨h2.os, h2.tape, h2.output, h2.size, fun j hj => h2.block j (by rw [hs]; omega) ?_⟩
      intro hk
      have := (ho'.lt j hk.symm).1
      omega
    exact (bm.mono hb).trans hb2
  · rw [h2.block j (by rw [hs]; omega) hne]; exact bm.block j hj
theorem Ow.push2 (hk : ∀ x, (enc x).length = k) (h1 : ∀ x, ∀ v ∈ enc x, v.oneCell' = true) (k0 : 0 < k) {P : Program} (s : TypeId) (hu : P.underlying s = some (.slice t)) {z : Value} {bytes : Nat} (hinf : (P.info? t).map (fun i => (i.zero, i.size, i.bytes)) = some (some z, k, bytes)) (hby : bytes ≤ 24) (hzc : z.cells.size = k)
    {w : World} {mv : Value} {D : List α} (ho : Ow enc t k base w mv D) (x : α) (hn : D.length ≤ 4000000000000) (hb : base ≤ w.heap.size) :
    ∃ mv' w', (Builtin.append_ #[s, s] s #[mv, .slice (some ⟨w.heap.size, 0, none⟩) 1 1]).run P (w.alloc (.cells (enc x).toArray t)) = .ok mv' w' ∧ Ow enc t k base w' mv' (D ++ [x]) ∧ w.heap.size ≤ w'.heap.size ∧
      Below base w w' ∧ (∀ j, j < w.heap.size → some j ≠ mv.ownBlock → w'.heap[j]? = w.heap[j]?) ∧ (∀ g, mv'.ownBlock = some g → mv.ownBlock = some g ∨ w.heap.size ≤ g) := by
  obtain ⟨mv', w', e1, e2, e3, e4, e5⟩ := ho.push hk h1 k0 s hu hinf hby hzc x hn hb
  refine ⟨mv', w', e1, e2, e3, e4, e5, ?_⟩
  intro g hg
  obtain ⟨i, hi, hz⟩ := Option.map_eq_some_iff.1 hinf
  simp only [Prod.mk.injEq] at hz
  obtain ⟨z1, z2, z3⟩ := hz
  have hs : (w.alloc (.cells (enc x).toArray t)).heap.size = w.heap.size + 1 := World.size_alloc _ _
  have hcell : ∀ j u, (enc x)[j]? = some u → (w.alloc (.cells (enc x).toArray t)).cell? ((⟨w.heap.size, 0, none⟩ : Addr).add j) = some u := by
    intro j u hu
    rw [Go.WideShapes.add_plain, Nat.zero_add]
    have h0 : (w.alloc (.cells (enc x).toArray t)).heap[w.heap.size]? = some (.cells (enc x).toArray t (0, 0)) := heap_alloc_new w _
    simp only [World.cell?, h0]
    simpa using hu
  have hby2 : (D.length + 1) * bytes ≤ (D.length + 1) * 24 := Nat.mul_le_mul_left _ hby
  have ho' := World.ownsRow.alloc ho (.cells (enc x).toArray t)
  rcases ho'.2 with ⟨rfl, h0⟩ | ⟨g', cap, cur, rfl, hbg, hgg, hnc, hcm, hcs, htake⟩
  · obtain ⟨v2, w2, r2, o2, _, _⟩ := run_append_own (P := P) (w.alloc (.cells (enc x).toArray t)) w.heap.size s s t i _ k bytes hu hi z1 z2 z3 hzc (by omega) (.slice none 0 0) 0 [] (World.ownsRow_nil _ _ _ _)
      ⟨w.heap.size, 0, none⟩ 1 1 (enc x) (by rw [hk]; omega) hcell (h1 x) (by simp only [maxLen]; omega) (by omega) (by rw [hs]; omega)
    rw [e1] at r2
    obtain ⟨rfl, rfl⟩ : mv' = v2 ∧ w' = w2 := by injection r2 with a b; exact ⟨a, b⟩
    exact .inr (o2.lt g hg).1
  · by_cases hroom : D.length + 1 ≤ cap
    · have hr := run_append_room (P := P) (w.alloc (.cells (enc x).toArray t)) s s t i hu hi g' D.length cap cur hgg ⟨w.heap.size, 0, none⟩ 1 1 (enc x) (by rw [z2, hk]; omega) hcell (h1 x) hroom (by
        rw [z2, hcs, hk]
        have := Nat.mul_le_mul_right k hroom
        rw [Nat.add_mul, Nat.one_mul] at this
        exact this)
      rw [e1] at hr
      injection hr with a b
      rw [a] at hg
      exact .inl hg
    · have hr := run_append_grow (P := P) (w.alloc (.cells (enc x).toArray t)) s s t i _ hu hi z1 ⟨g', 0, none⟩ D.length cap (fl enc D) (by rw [z2]; exact fl_len hk D) (ho'.cells (g := g') rfl) ⟨w.heap.size, 0, none⟩ 1 1 (enc x) (by rw [z2, hk]; omega) hcell (by omega) (by omega) (growslice_fits (by omega) (by rw [z3]; omega))
      rw [e1] at hr
      injection hr with a b
      rw [a] at hg
      simp only [Value.ownBlock, Option.some.injEq] at hg
      right
      omega
end
end Re
end Go.Proofs.YtmihjiiagpkciaaDoor
