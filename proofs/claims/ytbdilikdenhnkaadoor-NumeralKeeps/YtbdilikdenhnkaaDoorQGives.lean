/-
  What a call tells of a number that may be too big; quot's limbs and nat's BitLen, under a name for the answer.
-/
import Derived.Test.YtbdilikdenhnkaaDoorNums
import Derived.Test.YtbdilikdenhnkaaDoorQLimbs
import Derived.Test.YtbdilikdenhnkaaDoorFromW
import Derived.Test.YtbdilikdenhnkaaDoorTrimW
import Derived.Test.YtbdilikdenhnkaaDoorMulOver
import Derived.Test.YtbdilikdenhnkaaDoorBlenIs
namespace Go.Proofs.YtbdilikdenhnkaaDoor
open Go.RowKit Go.Deep

/-- A number, or that it is too big. -/
def Gives (T : Int) (w : World) (e : Ending) (w' : World) : Prop :=
  ((T < Nm.pw 4096 ∧ ∃ r os, e = .returned (.tuple #[.slice r (List.length os) (List.length os), .int .i64 0]) ∧ Ans w.heap.size w' r os T) ∨ (Nm.pw 4096 ≤ T ∧ e = .returned (.tuple #[.slice none 0 0, .int .i64 2]))) ∧ Below w.heap.size w w'

theorem Ans.argT {B : Nat} {w : World} {p : Option Addr} {ys : List Int} {n : Int} (h : Ans B w p ys n) (hn : n < Nm.pw 4096) : Arg w p ys.length ys.length ys :=
  h.arg (by have := h.small hn; omega)

theorem Ans.tsT {B : Nat} {w : World} {p : Option Addr} {ys : List Int} {n : Int} (h : Ans B w p ys n) (hn : n < Nm.pw 4096) : Nm.tsize ys ≤ 4096 := by
  rw [h.2.2.1]
  exact h.small hn

theorem Ans.upT {B B' : Nat} {w : World} {p : Option Addr} {ys : List Int} {n : Int} (h : Ans B w p ys n) (hB : B' ≤ B) : Ans B' w p ys n :=
  ⟨h.1, h.2.1, h.2.2.1, h.2.2.2.1, fun a ha => ⟨Nat.le_trans hB (h.2.2.2.2 a ha).1, (h.2.2.2.2 a ha).2⟩⟩

theorem mul_gives (p q : Option Addr) (n cap m cap' : Nat) (zs ys : List Int) (T : Int) (w : World) (ha : Arg w p n cap zs) (hb : Arg w q m cap' ys) (tz : Nm.tsize zs ≤ 4096) (ty : Nm.tsize ys ≤ 4096) (hT : Nm.val zs * Nm.val ys = T) :
    Calls Tryd.prog 29 #[.slice p n cap, .slice q m cap'] w fun e w' => Gives T w e w' := by
  by_cases h : T < Nm.pw 4096
  · refine (mul_ok p q n cap m cap' zs ys w ha hb tz ty (by rw [hT]; exact h)).mono ?_
    rintro e w' ⟨r, os, rfl, A, hb⟩
    rw [hT] at A
    exact ⟨.inl ⟨h, r, os, rfl, A⟩, hb⟩
  · refine (mul_over p q n cap m cap' zs ys w ha hb tz ty (by rw [hT]; exact Int.not_lt.1 h)).mono ?_
    rintro e w' ⟨rfl, hb⟩
    exact ⟨.inr ⟨Int.not_lt.1 h, rfl⟩, hb⟩

theorem limbs_isT (p : Option Addr) (n cap : Nat) (zs : List Int) (N : Nat) (w : World) (ha : Arg w p n cap zs) (hN : Nm.tsize zs = N) :
    Calls Tryd.prog 27 #[.slice p n cap] w fun e w' => e = .returned (.int .i64 (N : Int)) ∧ w' = w := by
  rw [← hN]
  exact limbs_any p n cap zs w ha

theorem bitLen_isT (L : Nat) (p : Option Addr) (n cap : Nat) (zs : List Int) (w : World) (ha : Arg w p n cap zs) (hb : blen zs = (L : Int)) :
    Calls Tryd.prog 14 #[.slice p n cap] w fun e w' => e = .returned (.int .i64 (L : Int)) ∧ w' = w := by
  rw [← hb]
  exact bitLen_any p n cap zs w ha
end Go.Proofs.YtbdilikdenhnkaaDoor
