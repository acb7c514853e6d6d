/-
  A row of ints of our own, told by naturals.
-/
import Derived.Test.YtgliefdefklfeaaChRow
namespace Go.Proofs.Ytgliefdefklfeaa
open Go Go.RowKit Go.Deep Go.Shelf

def TI (base : Nat) (w : World) (mv : Value) (ps : List Nat) : Prop := w.ownsRow base 3 1 mv ps.length (ps.map fun (p : Nat) => Value.int .i64 (p : Int))
theorem TI.nil (base : Nat) (w : World) : TI base w (.slice none 0 0) [] := World.ownsRow_nil _ _ _ _
theorem info_int : (Try.prog.info? 3).map (fun i => (i.zero, i.size, i.bytes)) = some (some (.int .i64 0), 1, 8) := by kernel_rfl
/-- It can be read: from here on. -/
def RI (w : World) (a : Option Addr) (ps : List Nat) : Prop := ps = [] ∨ ∃ g, a = some ⟨g, 0, none⟩ ∧ ∀ (i p : Nat), ps[i]? = some p → w.cell? ⟨g, i, none⟩ = some (.int .i64 (p : Int))
theorem RI.below {w w' : World} {a : Option Addr} {ps : List Nat} (h : RI w a ps) (b : Below w.heap.size w w') : RI w' a ps := by
  rcases h with h | ⟨g, e, h⟩
  · exact .inl h
  · refine .inr ⟨g, e, fun i p hi => ?_⟩
    have c := h i p hi
    rw [b.cell (cell_lt c)]
    exact c
theorem RI.at {w : World} {a : Option Addr} {ps : List Nat} (h : RI w a ps) (i : Nat) (hi : i < ps.length) : ∃ g, a = some ⟨g, 0, none⟩ ∧ w.cell? ⟨g, i, none⟩ = some (.int .i64 (ps.getD i 0 : Int)) := by
  rcases h with rfl | ⟨g, e, h⟩
  · cases hi
  · exact ⟨g, e, h i _ (by simp [List.getD, List.getElem?_eq_getElem hi])⟩
theorem TI.read {base : Nat} {w : World} {mv : Value} {ps : List Nat} (h : TI base w mv ps) : ∃ a cap, mv = .slice a ps.length cap ∧ ps.length ≤ cap ∧ RI w a ps := by
  rcases h.2 with ⟨rfl, h0⟩ | ⟨g, cap, cur, rfl, hb, hg, hl, hm, hs, ht⟩
  · exact ⟨none, 0, by rw [h0], by omega, .inl (List.eq_nil_of_length_eq_zero h0)⟩
  · refine ⟨_, cap, rfl, hl, .inr ⟨g, rfl, fun i x hi => ?_⟩⟩
    have := World.ownsRow.cells h (g := g) rfl i (.int .i64 (x : Int)) (by rw [List.getElem?_map, hi]; rfl)
    rw [Go.WideShapes.add_plain, Nat.zero_add] at this
    exact this
theorem TI.push {base : Nat} {w : World} {mv : Value} {ps : List Nat} (ho : TI base w mv ps) (p : Nat) (hn : ps.length < 8796093022000) (hb : base ≤ w.heap.size) :
    ∃ mv' w', (Builtin.append_ #[55, 55] 55 #[mv, .slice (some ⟨w.heap.size, 0, none⟩) 1 1]).run Try.prog (w.alloc (.cells #[.int .i64 (p : Int)] 3)) = .ok mv' w' ∧ TI base w' mv' (ps ++ [p]) ∧ w.heap.size ≤ w'.heap.size ∧ Below base w w' := by
  obtain ⟨i, hi, hz⟩ := Option.map_eq_some_iff.1 info_int
  simp only [Prod.mk.injEq] at hz
  obtain ⟨z1, z2, z3⟩ := hz
  have bm : Below w.heap.size w (w.alloc (.cells #[.int .i64 (p : Int)] 3)) := (Below.refl _ _).alloc (Nat.le_refl _) _
  have hs : (w.alloc (.cells #[.int .i64 (p : Int)] 3)).heap.size = w.heap.size + 1 := World.size_alloc _ _
  have ho' := World.ownsRow.alloc ho (.cells #[.int .i64 (p : Int)] 3)
  have hcell : (w.alloc (.cells #[.int .i64 (p : Int)] 3)).cell? ⟨w.heap.size, 0, none⟩ = some (.int .i64 (p : Int)) := by
    have : (w.alloc (.cells #[.int .i64 (p : Int)] 3)).heap[w.heap.size]? = some (.cells #[.int .i64 (p : Int)] 3 (0, 0)) := heap_alloc_new w _
    rw [cell_of_row _ _ _ _ _ _ this]
    rfl
  obtain ⟨v', w', hr, h1, h2, _⟩ := run_append_own (P := Try.prog) (w.alloc (.cells #[.int .i64 (p : Int)] 3)) base 55 55 3 i (.int .i64 0) 1 8 Try.underlying55 hi z1 z2 z3 rfl (by omega) mv ps.length (ps.map fun (p : Nat) => Value.int .i64 (p : Int)) ho'
    ⟨w.heap.size, 0, none⟩ 1 1 [.int .i64 (p : Int)] rfl (fun j u hu => by
      cases j with
      | zero =>
        simp at hu
        subst hu
        rw [Go.WideShapes.add_plain]
        exact hcell
      | succ j => simp at hu) (fun u hu => by simp at hu; subst hu; rfl) (by simp only [maxLen]; omega) (by omega) (by rw [hs]; omega)
  refine ⟨v', w', hr, ?_, by have := h2.size; omega, ?_⟩
  · rw [TI, List.length_append, List.map_append]
    exact h1
  · have hb2 : Below base (w.alloc (.cells #[.int .i64 (p : Int)] 3)) w' := by
      refine ⟨h2.os, h2.tape, h2.output, h2.size, fun j hj => h2.block j (by rw [hs]; omega) ?_⟩
      intro hk
      have := (ho'.lt j hk.symm).1
      omega
    exact (bm.mono hb).trans hb2
end Go.Proofs.Ytgliefdefklfeaa
