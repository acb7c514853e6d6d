/-
  A SLICE OF OUR OWN THAT GROWS WITHIN ITS ROOM, one limb at a time.
-/
import Derived.Test.YtggiioipppbedaaGreatDoorSmall
import Derived.Test.YtggiioipppbedaaGreatDoorRefNum
namespace Go.Proofs.YtggiioipppbedaaGreatDoor
open Go.RowKit Go.Deep

/-- An append whose run is known. -/
theorem wpList_append_row {ty : TypeId} {ops : Array Oper} {rest : List Oper} {o : Oper} {a : Act} {Q : Exit → Act → World → Prop} (hgd : o.guard = none) (s x : Operand)
    (ho : o.op = .call { callee := .builtin .append, args := #[s, x], argTypes := #[ty, ty] }) {v y v' : Value} {w w' : World} (hr : (Builtin.append_ #[ty, ty] o.type #[v, y]).run Tryz.prog w = .ok v' w') (hs : a.eval s = v) (hx : a.eval x = y)
    (h : wpList Tryz.prog ops Q rest (a.put o.dst v') w') : wpList Tryz.prog ops Q (o :: rest) a w := by
  refine wpList_plain hgd fun K hK => ?_
  unfold Oper.wp execOp
  simp only [ho, resolve, invoke, builtin, Sem.run_bind, Sem.run_pure, Result.andThen_ok, List.map_toArray, List.map_cons, List.map_nil, hs, hx, hr]
  exact hK _ _ h

/-- The limbs xs, and room for k more. -/
def Grown (w : World) (g : Nat) (xs : List Int) (k : Nat) : Prop := Own w g (xs ++ List.replicate k 0)

theorem Grown.made (w : World) (c : Nat) : Grown (w.alloc (.cells (madeCells #[.int .u64 0] c) 25)) w.heap.size [] c := by
  rw [made_zero]; exact Own.alloc w _

theorem Grown.below {w w' : World} {B g k : Nat} {xs : List Int} (h : Grown w g xs k) (hb : Below B w w') (hg : g < B) : Grown w' g xs k := Own.below h hb hg

theorem Grown.lies {w : World} {g k : Nat} {xs : List Int} (h : Grown w g xs k) : Lies w (some ⟨g, 0, none⟩) xs := by
  have := (Own.lies h).take xs.length
  rwa [List.take_left'] at this
  rfl

/-- append(l, x), x one limb. -/
theorem push64 (g n k cap : Nat) (xs : List Int) (x : Int) (w : World) (hn : xs.length = n) (hcap : n + (k + 1) = cap) (ho : Grown w g xs (k + 1)) :
    ∃ w', (Builtin.append_ #[28, 28] 28 #[.slice (some ⟨g, 0, none⟩) n cap, .slice (some ⟨w.heap.size, 0, none⟩) 1 1]).run Tryz.prog (w.alloc (.cells #[.int .u64 x] 25)) = .ok (.slice (some ⟨g, 0, none⟩) (n + 1) cap) w' ∧ Grown w' g (xs ++ [x]) k ∧ Below g w w' ∧ w'.heap.size = w.heap.size + 1 := by
  have hg := Own.lt ho
  have bm : Below w.heap.size w (w.alloc (.cells #[.int .u64 x] 25)) := (Below.refl _ _).alloc (Nat.le_refl _) _
  have hl : Lies (w.alloc (.cells #[.int .u64 x] 25)) (some ⟨w.heap.size, 0, none⟩) [x] := (Own.alloc w [x]).lies
  obtain ⟨w', ap, ow, be, sz⟩ := append64 g cap n (xs ++ List.replicate (k + 1) 0) (some ⟨w.heap.size, 0, none⟩) 1 1 [x] 28 _ (by simp; omega) rfl (by omega) (Own.below ho bm hg) hl
  refine ⟨w', ap, ?_, (bm.mono (by omega)).trans be, by rw [sz, World.size_alloc]⟩
  have e : List.take n (xs ++ List.replicate (k + 1) (0 : Int)) ++ [x] ++ List.drop (n + 1) (xs ++ List.replicate (k + 1) 0) = xs ++ [x] ++ List.replicate k 0 := by
    subst hn
    rw [List.take_left', List.drop_append, List.drop_eq_nil_of_le (by omega), show xs.length + 1 - xs.length = 1 by omega]
    · simp [List.replicate]
    · rfl
  rw [e] at ow
  exact ow
end Go.Proofs.YtggiioipppbedaaGreatDoor
