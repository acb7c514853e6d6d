/-
  NatOrder, whatever comes in.
-/
import Derived.Test.YtamlindelmfbiabOrder2
namespace Go.Proofs.Ytamlindelmfbiab
open Go.RowKit Go.Deep

theorem cmpI_turn (x y : Int) : cmpI y x = -cmpI x y := by
  unfold cmpI
  rcases Int.lt_trichotomy x y with h | h | h
  · rw [if_neg (by omega), if_neg (by omega), if_pos h]; rfl
  · rw [if_neg (by omega), if_pos h.symm, if_neg (by omega), if_pos h]; rfl
  · rw [if_pos h, if_neg (by omega), if_neg (by omega)]

theorem trim_eq_iff {za zb : List Int} (ha : Nm.Limbs za) (hb : Nm.Limbs zb) : Nm.trim za = Nm.trim zb ↔ Nm.val za = Nm.val zb := by
  constructor
  · intro h
    rw [← Nm.val_trim za, ← Nm.val_trim zb, h]
  · intro h
    exact Nm.canon ha.trim hb.trim (by rw [Nm.trim_trim, Nm.trim_length]) (by rw [Nm.trim_trim, Nm.trim_length]) (by rw [Nm.val_trim, Nm.val_trim, h])

theorem order_any (p q r : Option Addr) (n cap m cap' k cap'' : Nat) (za zb zc : List Int) (w : World) (ha : Arg w p n cap za ∧ cap ≤ 17592186043904) (hb : Arg w q m cap' zb ∧ cap' ≤ 17592186043904) (hc : Arg w r k cap'' zc ∧ cap'' ≤ 17592186043904) :
    Calls Try.prog 4 #[.slice p n cap, .slice q m cap', .slice r k cap''] w fun e w' => e = .returned (.bool true) ∧ Below w.heap.size w w' := by
  have hn : n ≤ 17592186043904 := by have := ha.1.2.1; omega
  have hs : decide (Nm.trim za = Nm.trim zb) = decide (Nm.val za = Nm.val zb) := by
    have := trim_eq_iff ha.1.2.2.2.2 hb.1.2.2.2.2
    simp [this]
  exact order_case _ _ _ _ p q r n cap m cap' k cap'' za zb zc w ha.1 hb.1 hc.1 hn rfl rfl rfl (cmpI_turn _ _) rfl (tri _ _ _ _ hs)
end Go.Proofs.Ytamlindelmfbiab
