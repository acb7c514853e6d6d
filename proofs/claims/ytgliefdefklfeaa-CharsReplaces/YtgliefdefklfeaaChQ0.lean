/-
  abacusref20: Replace.
-/
import Derived.Test.YtgliefdefklfeaaChS
import Derived.Test.YtgliefdefklfeaaChR
import Derived.Test.YtgliefdefklfeaaChQN
import Derived.Test.YtgliefdefklfeaaChTI
namespace Go.Proofs.Ytgliefdefklfeaa
open Go Go.RowKit Go.Deep Go.Shelf

namespace Ch
theorem tb_step {l new : L8} {ol a p : Nat} {r : List Nat} (acc : L8) {T : L8} (h : acc ++ tb l new ol a (p :: r) = T) : acc ++ (l.drop a).take (p - a) ++ new ++ tb l new ol (p + ol) r = T := by
  rw [← h, tb]
  simp [List.append_assoc]
theorem drop_at {all : List Nat} {j : Nat} (h : j < all.length) : all.drop j = all.getD j 0 :: all.drop (j + 1) := by
  rw [List.drop_eq_getElem_cons h]
  simp [List.getD, List.getElem?_eq_getElem h]
end Ch
end Go.Proofs.Ytgliefdefklfeaa
