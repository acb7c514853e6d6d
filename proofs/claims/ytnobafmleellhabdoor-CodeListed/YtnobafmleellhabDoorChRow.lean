/-
  A row of bytes of our own, told by its bytes.
-/
import Derived.Test.YtnobafmleellhabDoorChMem
import Derived.Lib.AppendStr
import Derived.Lib.UnsafeStr
namespace Go.Proofs.YtnobafmleellhabDoor
open Go Go.RowKit Go.Deep Go.Shelf

theorem byteCells_app (a b : Ch.L8) : Lib.byteCells (a ++ b) = Lib.byteCells a ++ Lib.byteCells b := by simp [Lib.byteCells]
theorem byteCells_len (a : Ch.L8) : (Lib.byteCells a).length = a.length := by simp [Lib.byteCells]
def B8 (base : Nat) (w : World) (mv : Value) (l : Ch.L8) : Prop := w.ownsRow base 5 1 mv l.length (Lib.byteCells l)
theorem B8.below {base : Nat} {w w' : World} {mv : Value} {l : Ch.L8} (h : B8 base w mv l) (hb : Below w.heap.size w w') : B8 base w' mv l :=
  World.ownsRow.kept (row := none) h ⟨hb.os, hb.tape, hb.output, hb.size, fun j hj _ => hb.block j hj⟩ (by cases h : Value.ownBlock mv <;> simp)
theorem B8.nil (base : Nat) (w : World) : B8 base w (.slice none 0 0) [] := World.ownsRow_nil _ _ _ _
theorem info_u8 : (Tryd.prog.info? 5).map (fun i => (i.zero, i.size, i.bytes)) = some (some (.int .u8 0), 1, 1) := by kernel_rfl
theorem B8.push {base : Nat} {w : World} {mv : Value} {l : Ch.L8} (ho : B8 base w mv l) (c : UInt8) (hn : l.length < 140737488351232) (hb : base ≤ w.heap.size) :
    ∃ mv' w', (Builtin.append_ #[42, 42] 42 #[mv, .slice (some ⟨w.heap.size, 0, none⟩) 1 1]).run Tryd.prog (w.alloc (.cells #[.int .u8 (c.toNat : Int)] 5)) = .ok mv' w' ∧ B8 base w' mv' (l ++ [c]) ∧ w.heap.size ≤ w'.heap.size ∧ Below base w w' := by
  obtain ⟨i, hi, hz⟩ := Option.map_eq_some_iff.1 info_u8
  simp only [Prod.mk.injEq] at hz
  obtain ⟨z1, z2, z3⟩ := hz
  have bm : Below w.heap.size w (w.alloc (.cells #[.int .u8 (c.toNat : Int)] 5)) := (Below.refl _ _).alloc (Nat.le_refl _) _
  have hs : (w.alloc (.cells #[.int .u8 (c.toNat : Int)] 5)).heap.size = w.heap.size + 1 := World.size_alloc _ _
  have ho' := World.ownsRow.alloc ho (.cells #[.int .u8 (c.toNat : Int)] 5)
  have hcell : (w.alloc (.cells #[.int .u8 (c.toNat : Int)] 5)).cell? ⟨w.heap.size, 0, none⟩ = some (.int .u8 (c.toNat : Int)) := by
    have : (w.alloc (.cells #[.int .u8 (c.toNat : Int)] 5)).heap[w.heap.size]? = some (.cells #[.int .u8 (c.toNat : Int)] 5 (0, 0)) := heap_alloc_new w _
    rw [cell_of_row _ _ _ _ _ _ this]
    rfl
  obtain ⟨v', w', hr, h1, h2, _⟩ := run_append_own (P := Tryd.prog) (w.alloc (.cells #[.int .u8 (c.toNat : Int)] 5)) base 42 42 5 i (.int .u8 0) 1 1 Tryd.underlying42 hi z1 z2 z3 rfl (by omega) mv l.length (Lib.byteCells l) ho'
    ⟨w.heap.size, 0, none⟩ 1 1 [.int .u8 (c.toNat : Int)] rfl (fun j u hu => by
      cases j with
      | zero =>
        simp at hu
        subst hu
        rw [Go.WideShapes.add_plain]
        exact hcell
      | succ j => simp at hu) (fun u hu => by simp at hu; subst hu; rfl) (by simp only [maxLen]; omega) (by omega) (by rw [hs]; omega)
  refine ⟨v', w', hr, ?_, by have := h2.size; omega, ?_⟩
  · rw [B8, byteCells_app, List.length_append]
    exact h1
  · have hb2 : Below base (w.alloc (.cells #[.int .u8 (c.toNat : Int)] 5)) w' := by
      refine ⟨h2.os, h2.tape, h2.output, h2.size, fun j hj => h2.block j (by rw [hs]; omega) ?_⟩
      intro hk
      have := (ho'.lt j hk.symm).1
      omega
    exact (bm.mono hb).trans hb2
/-- A text's bytes put behind it. -/
theorem B8.cats {base : Nat} {w : World} {mv : Value} {l : Ch.L8} (ho : B8 base w mv l) (s : ByteArray) (hn : l.length + s.size ≤ 140737488351232) (hb : base ≤ w.heap.size) :
    ∃ mv' w', (Builtin.append_ #[42, 9] 42 #[mv, .string s]).run Tryd.prog w = .ok mv' w' ∧ B8 base w' mv' (l ++ s.data.toList) ∧ w.heap.size ≤ w'.heap.size ∧ Below base w w' := by
  obtain ⟨i, hi, hz⟩ := Option.map_eq_some_iff.1 info_u8
  simp only [Prod.mk.injEq] at hz
  obtain ⟨z1, z2, z3⟩ := hz
  obtain ⟨v', w', hr, h1, h2, h3⟩ := Lib.run_append_own_string (P := Tryd.prog) (w := w) base 42 9 42 5 i Tryd.underlying42 Tryd.underlying9 hi z1 z2 z3 mv l.length (Lib.byteCells l) ho s (by simp only [maxLen]; omega) (by omega) hb
  refine ⟨v', w', hr, ?_, h2.size, ?_⟩
  · rw [B8, byteCells_app, List.length_append, Ch.size_len]
    exact h1
  · refine ⟨h2.os, h2.tape, h2.output, h2.size, fun j hj => h2.block j (by omega) ?_⟩
    intro hk
    have := (World.ownsRow.lt ho j hk.symm).1
    omega
theorem B8.conv {base : Nat} {w : World} {mv : Value} {l : Ch.L8} (h : B8 base w mv l) : (convert 42 9 mv).run Tryd.prog w = .ok (.string (Ch.tx l)) w := by
  rcases h.2 with ⟨rfl, h0⟩ | ⟨g, cap, cur, rfl, _⟩
  · rw [List.eq_nil_of_length_eq_zero h0]
    exact run_convert_bytes_nil (P := Tryd.prog) w 42 5 Tryd.underlying42 Tryd.underlying5 0 0 9 Tryd.underlying9
  · refine run_convert_bytes_back (P := Tryd.prog) w 42 9 5 ⟨g, 0, none⟩ cap l Tryd.underlying42 Tryd.underlying5 Tryd.underlying9 fun j hj => ?_
    exact World.ownsRow.cells h (g := g) rfl j (.int .u8 (l[j].toNat : Int)) (by simp [Lib.byteCells, List.getElem?_eq_getElem hj])
theorem wpList_append_d {ty tz : TypeId} {ops : Array Oper} {rest : List Oper} {o : Oper} {a : Act} {Q : Exit → Act → World → Prop} (hgd : o.guard = none) (s x : Operand)
    (ho : o.op = .call { callee := .builtin .append, args := #[s, x], argTypes := #[ty, tz] }) {v y v' : Value} {w w' : World} (hr : (Builtin.append_ #[ty, tz] o.type #[v, y]).run Tryd.prog w = .ok v' w') (hs : a.eval s = v) (hx : a.eval x = y)
    (h : wpList Tryd.prog ops Q rest (a.put o.dst v') w') : wpList Tryd.prog ops Q (o :: rest) a w := by
  refine wpList_plain hgd fun K hK => ?_
  unfold Oper.wp execOp
  simp only [ho, resolve, invoke, builtin, Sem.run_bind, Sem.run_pure, Result.andThen_ok, List.map_toArray, List.map_cons, List.map_nil, hs, hx, hr]
  exact hK _ _ h
end Go.Proofs.YtnobafmleellhabDoor
