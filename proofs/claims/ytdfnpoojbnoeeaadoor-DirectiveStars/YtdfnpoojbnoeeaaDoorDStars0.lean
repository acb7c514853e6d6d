/-
  abacuslaw13: DirectiveStars (mkdstars.py).
-/
import Derived.Test.YtdfnpoojbnoeeaaDoorDSettle
import Derived.Test.YtdfnpoojbnoeeaaDoorDAwake
namespace Go.Proofs.YtdfnpoojbnoeeaaDoor
open Go Go.RowKit Go.Deep Go.Shelf

theorem or_one (f : Int) (h0 : 0 ≤ f) (h1 : f ≤ 31) : 0 ≤ bits .or .i64 f 1 ∧ bits .or .i64 f 1 ≤ 31 := by
  have key : ∀ t : Fin 32, 0 ≤ bits .or .i64 (t.val : Int) 1 ∧ bits .or .i64 (t.val : Int) 1 ≤ 31 := by decide
  have := key ⟨f.toNat, by omega⟩
  simp only at this
  rw [show ((f.toNat : Nat) : Int) = f by omega] at this
  exact this

/-- A directive without stars, settled. -/
theorem spv_plain (t : List Int) (v F K W PK PR x y : Int) (h : Dr.isR ⟨t, v, F, K, W, PK, PR⟩) (k1 : K ≠ 2) (k2 : PK ≠ 2) : ste ⟨t, v, F, K, W, PK, PR⟩ x y = 0 ∧ spv ⟨t, v, F, K, W, PK, PR⟩ x y = #[.int .u8 v, .int .i64 F, .int .i64 W, .int .i64 (if PK = 0 then -1 else PR)] := by
  have hW : sW ⟨t, v, F, K, W, PK, PR⟩ x = W := if_neg k1
  have hP : sP ⟨t, v, F, K, W, PK, PR⟩ y = if PK = 0 then -1 else PR := by
    unfold sP
    simp only
    split
    · rfl
    · first | rfl | rw [if_neg k2]
  have h' := h
  obtain ⟨_, _, _, _, n1, n2⟩ := h
  have w0 : 0 ≤ W ∧ W ≤ 4096 := by rcases n1 with ⟨_, q⟩ | ⟨_, q, q'⟩ <;> simp only at * <;> omega
  have p0 : (if PK = 0 then -1 else PR) ≤ 4096 := by rcases n2 with ⟨_, q⟩ | ⟨_, q, q'⟩ <;> simp only at * <;> split <;> omega
  have e : ste ⟨t, v, F, K, W, PK, PR⟩ x y = 0 := by
    rw [ste, if_pos h', hW, hP, if_neg (by omega)]
  exact ⟨e, by rw [spv, if_pos e, hW, hP, if_neg (by omega), if_neg (by omega)]⟩

end Go.Proofs.YtdfnpoojbnoeeaaDoor
