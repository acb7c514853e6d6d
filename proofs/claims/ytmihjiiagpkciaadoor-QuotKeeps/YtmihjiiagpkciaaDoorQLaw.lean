/-
  layer 2's one AND errs, AND WHAT AN ANSWER OF ONE LIMB IS.
-/
import Derived.Test.YtmihjiiagpkciaaDoorQSame
import Derived.Test.YtmihjiiagpkciaaDoorFromW
import Derived.Test.YtmihjiiagpkciaaDoorWalk2a
namespace Go.Proofs.YtmihjiiagpkciaaDoor
open Go.RowKit Go.Deep

theorem one_any (x : Int) (w : World) (h0 : 0 ≤ x) (h1 : x < 18446744073709551616) :
    Calls Tryd.prog 5 #[.int .u64 x] w fun e w' => ∃ r, e = .returned (.slice r 1 1) ∧ Arg w' r 1 1 [x] ∧ Below w.heap.size w w' := by
  have D : Hid (Below w.heap.size w (w.alloc (.cells #[.int .u64 x] 26))) := (Below.refl _ _).alloc (Nat.le_refl _) _
  have A : Hid (Arg (w.alloc (.cells #[.int .u64 x] 26)) (some ⟨w.heap.size, 0, none⟩) 1 1 [x]) := ⟨rfl, Nat.le_refl _, by omega, (Own.alloc w [x]).lies, limb_one ⟨h0, h1⟩⟩
  go_enter Tryd.func5, Tryd.ntmps5
  go_wp2
  go_ret
  exact ⟨some ⟨w.heap.size, 0, none⟩, rfl, A.out, D.out⟩

theorem val_one (x : Int) : Nm.val [x] = x := by simp [Nm.val]

theorem ans_one {B : Nat} {w : World} {p : Option Addr} {os : List Int} {x : Int} (h : Ans B w p os x) (h0 : 0 < x) (h1 : x < 18446744073709551616) : os = [x] :=
  Nm.canon h.2.1 (limb_one ⟨by omega, h1⟩) h.2.2.1 (by simp [Nm.tsize]; omega) (by rw [h.2.2.2.1, val_one])

theorem tsize_one {x : Int} (h : 0 < x) : Nm.tsize [x] = 1 := by simp [Nm.tsize]; omega

/-- Is an answer of one limb the one that is asked for? -/
theorem alike_one {B : Nat} {w : World} {p : Option Addr} {os : List Int} {x : Int} (h : Ans B w p os x) (h0 : 0 < x) (h1 : x < 18446744073709551616) (q : Option Addr) (hq : Arg w q 1 1 [x]) :
    Calls Tryd.prog 9 #[.slice p (List.length os) (List.length os), .slice q 1 1] w fun e w' => e = .returned (.bool true) ∧ Below w.heap.size w w' := by
  have e := ans_one h h0 h1
  exact alike_is true p q _ _ 1 1 os [x] w (h.arg (by simp [e])) hq (by simp [e])

/-- A trimmed answer, held against a trimmed answer of the same number. -/
theorem alike_ans {B B' : Nat} {w : World} {p q : Option Addr} {os us : List Int} {x : Int} (h : Ans B w p os x) (k : Ans B' w q us x) (hs : os.length ≤ 17592186044000) :
    Calls Tryd.prog 9 #[.slice p (List.length os) (List.length os), .slice q (List.length us) (List.length us)] w fun e w' => e = .returned (.bool true) ∧ Below w.heap.size w w' := by
  have e : os = us := Nm.canon h.2.1 k.2.1 h.2.2.1 k.2.2.1 (by rw [h.2.2.2.1, k.2.2.2.1])
  exact alike_is true p q _ _ _ _ os us w (h.arg hs) (k.arg (by rw [← e]; exact hs)) (by simp [e])
end Go.Proofs.YtmihjiiagpkciaaDoor
