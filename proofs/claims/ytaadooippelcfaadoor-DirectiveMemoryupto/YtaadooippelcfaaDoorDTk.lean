/-
  HOW MANY ARGUMENTS a piece takes (of DList).
-/
import Derived.Test.YtaadooippelcfaaDoorDNum
namespace Go.Proofs.YtaadooippelcfaaDoor
namespace Dr
/-- How many arguments a piece takes. -/
def tk (p : Pc) : Int := if p.v = 0 ∨ p.v = 37 then 0 else 1 + (if p.wk = 2 then 1 else 0) + (if p.pk = 2 then 1 else 0)
def wants : List Pc → Int
  | [] => 0
  | p :: l => tk p + wants l
theorem tk_bd (p : Pc) : 0 ≤ tk p ∧ tk p ≤ 3 := by
  unfold tk
  split
  · omega
  · split <;> split <;> omega
theorem wants_app (a b : List Pc) : wants (a ++ b) = wants a + wants b := by
  induction a with
  | nil => simp [wants]
  | cons p l ih => rw [List.cons_append, wants, wants, ih]; omega
theorem wants_bd (l : List Pc) : 0 ≤ wants l ∧ wants l ≤ 3 * l.length := by
  induction l with
  | nil => simp [wants]
  | cons p l ih => have := tk_bd p; rw [wants, List.length_cons]; omega
theorem wants_take {l : List Pc} {i : Nat} (h : i < l.length) : wants (l.take (i + 1)) = wants (l.take i) + tk (l.getD i Pc.no) := by
  rw [List.take_add_one, List.getElem?_eq_getElem h, wants_app, List.getD_eq_getElem?_getD, List.getElem?_eq_getElem h]
  simp [wants]
end Dr
end Go.Proofs.YtaadooippelcfaaDoor
