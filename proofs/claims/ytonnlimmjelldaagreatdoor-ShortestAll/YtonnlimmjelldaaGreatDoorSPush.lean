/-
  A ROW OF LIMBS THAT GROWS BY APPEND AND IS WRITTEN IN PLACE.
-/
import Derived.Test.YtonnlimmjelldaaGreatDoorNMem
import Derived.Test.YtonnlimmjelldaaGreatDoorMem
import Derived.Laws.AppendOwn
import Derived.Laws.OwnMore
namespace Go.Proofs.YtonnlimmjelldaaGreatDoor
open Go.RowKit Go.Deep

theorem wpList_append_d {ty : TypeId} {ops : Array Oper} {rest : List Oper} {o : Oper} {a : Act} {Q : Exit → Act → World → Prop} (hgd : o.guard = none) (s x : Operand)
    (ho : o.op = .call { callee := .builtin .append, args := #[s, x], argTypes := #[ty, ty] }) {v y v' : Value} {w w' : World} (hr : (Builtin.append_ #[ty, ty] o.type #[v, y]).run Tryz.prog w = .ok v' w') (hs : a.eval s = v) (hx : a.eval x = y)
    (h : wpList Tryz.prog ops Q rest (a.put o.dst v') w') : wpList Tryz.prog ops Q (o :: rest) a w := by
  refine wpList_plain hgd fun K hK => ?_
  unfold Oper.wp execOp
  simp only [ho, resolve, invoke, builtin, Sem.run_bind, Sem.run_pure, Result.andThen_ok, List.map_toArray, List.map_cons, List.map_nil, hs, hx, hr]
  exact hK _ _ h

/-- The limbs, in a block of our own from base on. -/
def Row64 (base : Nat) (w : World) (mv : Value) (xs : List Int) : Prop := w.ownsRow base 26 1 mv xs.length (xs.map (Value.int .u64))

theorem Row64.below {base : Nat} {w w' : World} {mv : Value} {xs : List Int} (h : Row64 base w mv xs) (hb : Below w.heap.size w w') : Row64 base w' mv xs :=
  World.ownsRow.kept (row := none) h ⟨hb.os, hb.tape, hb.output, hb.size, fun j hj _ => hb.block j hj⟩ (by cases h : Value.ownBlock mv <;> simp)

theorem Row64.push {base : Nat} {w : World} {mv : Value} {xs : List Int} (ho : Row64 base w mv xs) (x : Int) (hn : xs.length < 17592186044415) (hb : base ≤ w.heap.size) :
    ∃ mv' w', (Builtin.append_ #[59, 59] 59 #[mv, .slice (some ⟨w.heap.size, 0, none⟩) 1 1]).run Tryz.prog (w.alloc (.cells #[.int .u64 x] 26)) = .ok mv' w' ∧ Row64 base w' mv' (xs ++ [x]) ∧ w.heap.size ≤ w'.heap.size ∧
      Below base w w' ∧ (∀ j, j < w.heap.size → some j ≠ mv.ownBlock → w'.heap[j]? = w.heap[j]?) := by
  obtain ⟨i, hi, hz⟩ := Option.map_eq_some_iff.1 info64
  simp only [Prod.mk.injEq] at hz
  obtain ⟨z1, z2, z3⟩ := hz
  have bm : Below w.heap.size w (w.alloc (.cells #[.int .u64 x] 26)) := (Below.refl _ _).alloc (Nat.le_refl _) _
  have hs : (w.alloc (.cells #[.int .u64 x] 26)).heap.size = w.heap.size + 1 := World.size_alloc _ _
  have ho' := World.ownsRow.alloc ho (.cells #[.int .u64 x] 26)
  have hcell : (w.alloc (.cells #[.int .u64 x] 26)).cell? ⟨w.heap.size, 0, none⟩ = some (.int .u64 x) :=
    (Own.alloc w [x]).cell 0 (by simp)
  obtain ⟨v', w', hr, h1, h2, _⟩ := run_append_own (P := Tryz.prog) (w.alloc (.cells #[.int .u64 x] 26)) base 59 59 26 i (.int .u64 0) 1 8 Tryz.underlying59 hi z1 z2 z3 rfl (by omega) mv xs.length (xs.map (Value.int .u64)) ho'
    ⟨w.heap.size, 0, none⟩ 1 1 [.int .u64 x] rfl (fun j u hu => by
      cases j with
      | zero =>
        simp at hu
        subst hu
        rw [Go.WideShapes.add_plain]
        exact hcell
      | succ j => simp at hu) (fun u hu => by simp at hu; subst hu; rfl) (by simp only [maxLen]; omega) (by omega) (by rw [hs]; omega)
  refine ⟨v', w', hr, by simpa [Row64] using h1, by have := h2.size; omega, ?_, fun j hj hne => ?_⟩
  · have hb2 : Below base (w.alloc (.cells #[.int .u64 x] 26)) w' := by
      refine ⟨h2.os, h2.tape, h2.output, h2.size, fun j hj => h2.block j (by rw [hs]; omega) ?_⟩
      intro hk
      have := (ho'.lt j hk.symm).1
      omega
    exact (bm.mono hb).trans hb2
  · rw [h2.block j (by rw [hs]; omega) hne]
    exact bm.block j hj

/-- The row's shape. -/
theorem Row64.shape {base : Nat} {w : World} {mv : Value} {xs : List Int} (h : Row64 base w mv xs) : ∃ pm cp, mv = .slice pm xs.length cp := by
  rcases h.2 with ⟨rfl, h0⟩ | ⟨g, cp, cur, rfl, _⟩
  · exact ⟨none, 0, by rw [h0]⟩
  · exact ⟨_, cp, rfl⟩

/-- Its cells. -/
theorem Row64.cells {base : Nat} {w : World} {mv : Value} {xs : List Int} (h : Row64 base w mv xs) (h0 : xs ≠ []) : ∃ g cp, mv = .slice (some ⟨g, 0, none⟩) xs.length cp ∧ ∀ i, i < xs.length → w.cell? ⟨g, 0 + i, none⟩ = some (.int .u64 (xs.getD i 0)) := by
  rcases h.2 with ⟨rfl, hn⟩ | ⟨g, cp, cur, rfl, _⟩
  · exact absurd (List.eq_nil_of_length_eq_zero hn) h0
  · refine ⟨g, cp, rfl, fun i hi => ?_⟩
    have := World.ownsRow.cells h (g := g) rfl i (.int .u64 (xs.getD i 0)) (by simp [List.getD, hi])
    rw [Go.WideShapes.add_plain] at this
    exact this

/-- A place is written. -/
theorem Row64.set {base : Nat} {w : World} {g n cap : Nat} {xs : List Int} (h : Row64 base w (.slice (some ⟨g, 0, none⟩) n cap) xs) (i : Nat) (v : Int) : Row64 base (w.setCell ⟨g, i, none⟩ (.int .u64 v)) (.slice (some ⟨g, 0, none⟩) n cap) (xs.set i v) := by
  have hl : xs.length = n := by
    obtain ⟨pm, cp, e⟩ := h.shape
    simp only [Value.slice.injEq] at e
    exact e.2.1.symm
  refine ⟨by simp, ?_⟩
  rcases h.2 with ⟨c, _⟩ | ⟨g', cap', cur, e, h1, h2, h3, h4, h5, h6⟩
  · cases c
  · simp only [Value.slice.injEq, Option.some.injEq] at e
    obtain ⟨e1, e2, e3⟩ := e
    cases e1
    subst e3
    refine .inr ⟨g, cap, cur.set! i (.int .u64 v), by rw [List.length_set, hl], h1, ?_, by rw [List.length_set]; exact h3, h4, by simpa using h5, ?_⟩
    · simp [World.setCell, Array.getElem?_modify, h2]
    · rw [List.length_set, Array.set!, Array.toList_setIfInBounds, List.take_set, h6, List.map_set]

theorem Row64.free {base : Nat} {w : World} {g n cap : Nat} {xs : List Int} (h : Row64 base w (.slice (some ⟨g, 0, none⟩) n cap) xs) (i : Nat) : w.frozen? ⟨g, i, none⟩ = false := by
  rcases h.2 with ⟨c, _⟩ | ⟨g', cap', cur, e, h1, h2, h3⟩
  · cases c
  · simp only [Value.slice.injEq, Option.some.injEq] at e
    obtain ⟨e1, e2, e3⟩ := e
    cases e1
    simp [World.frozen?, h2]
end Go.Proofs.YtonnlimmjelldaaGreatDoor
