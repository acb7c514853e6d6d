import Derived.Test.YtpnjafacoeinnabDoorIWholeA
import Derived.Test.YtpnjafacoeinnabDoorWalk3
import Derived.Deep.CutRange
import Derived.Deep.CutBlock
/-
  IeeeWhole: the numbers (made by mkwhole.py).
-/
namespace Go.Proofs.YtpnjafacoeinnabDoor
open Go Go.RowKit Go.Deep

/-- A list that was answered: it stands there, it is the number v, and is not too big. -/
def At (w : World) (r : Option Addr) (os : List Int) (v : Int) : Prop := Arg w r os.length os.length os ∧ Nm.val os = v ∧ Nm.tsize os ≤ 4096

theorem At.below {w w' : World} {r : Option Addr} {os : List Int} {v : Int} (h : At w r os v) (hb : Below w.heap.size w w') : At w' r os v := ⟨h.1.below hb (Nat.le_refl _), h.2⟩

theorem Ans.at' {B : Nat} {w : World} {r : Option Addr} {os : List Int} {v : Int} (h : Ans B w r os v) (hv : v < Nm.pw 4096) : At w r os v := by
  have l := ans_small h 4096 hv
  exact ⟨h.arg (by omega), h.2.2.2.1, by rw [h.2.2.1]; exact l⟩

theorem roundF (p : Option Addr) (n cap : Nat) (zs : List Int) (w : World) (ha : Arg w p n cap zs) (hT : Tab w) (tz : Nm.tsize zs ≤ 4096) (V e : Int) (more : Bool) (hV : Nm.val zs = V) :
    Calls Tryd.prog 9 #[.bool false, .slice p n cap, .int .i64 e, .bool more] w fun r w' => ∃ x, r = .returned (.tuple #[.int .u64 x, .int .i64 0]) ∧ Ie.Rnd V 1 e more x ∧ Below w.heap.size w w' :=
  (round_any false p n cap zs w ha hT tz V e more hV).mono fun _ _ ⟨x, h1, h2⟩ => ⟨x, h1, h2⟩

namespace Ie
theorem whp_bd (r : Int) (h0 : 0 ≤ r) (h1 : r < 9218868437227405312) : 0 ≤ whp r ∧ whp r < Nm.pw 4096 := by
  have v0 := vl_nn h0
  have mb := man_nn r h0
  have eb : ex r ≤ 2046 := by simp only [ex]; omega
  have e54 : (2 : Int) ^ 54 = 18014398509481984 := by decide
  have a1 : whp r ≤ vl r := Int.ediv_le_self _ v0
  have a0 : 0 ≤ whp r := Int.ediv_nonneg v0 (Int.le_of_lt (Nm.two_pos 1075))
  have a2 : 2 * man r * 2 ^ ex r ≤ 2 ^ 54 * 2 ^ ex r := Int.mul_le_mul_of_nonneg_right (by rw [e54]; omega) (Int.le_of_lt (Nm.two_pos (ex r)))
  rw [← Nm.two_add] at a2
  have a3 : (2 : Int) ^ (54 + ex r) ≤ Nm.pw 4095 := by rw [Nm.pw_two]; exact Nm.two_mono (by omega)
  have a4 : Nm.pw 4095 < Nm.pw 4096 := by have e : Nm.pw 4096 = 18446744073709551616 * Nm.pw 4095 := Nm.pw_succ 4095; have := Nm.pw_pos 4095; omega
  have a5 : vl r = 2 * man r * 2 ^ ex r := rfl
  rw [← a5] at a2
  exact ⟨a0, Int.lt_of_le_of_lt (Int.le_trans a1 (Int.le_trans a2 a3)) a4⟩

theorem blen_ex (W : Int) (h0 : 0 ≤ W) (h1 : W < 18446744073709551616) : ∃ L : Nat, (0 < W → 1 ≤ L ∧ 2 ^ (L - 1) ≤ W) ∧ W < 2 ^ L := by
  obtain ⟨L, _, BL, _, _⟩ := blen_is [W] (Nm.Limbs.mk h0 h1 Nm.Limbs.nil)
  have e : Nm.val [W] = W := by simp [Nm.val]
  rw [e] at BL
  exact ⟨L, BL.2.2, BL.1⟩

/-- A whole number up to 2^53 is rounded to the double that it is. -/
theorem rnd_whole (W X : Int) (h0 : 0 ≤ W) (h1 : W ≤ 9007199254740992) (h : Rnd W 1 0 false X) : vl X = W * 2 ^ 1075 ∧ 0 ≤ X ∧ X < 9218868437227405312 := by
  obtain ⟨L, hL⟩ := blen_ex W h0 (by omega)
  obtain ⟨x, x0, x1, hx⟩ := whole_ex W L h0 hL h1
  have h2 : Rnd W 1 0 false x := rnd_vl W 0 x false 1075 0 (by omega) x0 x1 (by rw [hx, Int.pow_zero, Int.mul_one])
  have e : X = x := h.one (by omega) (by omega) h2 (a := 0) (a' := 0) (by omega) rfl
  rw [e]
  exact ⟨hx, x0, x1⟩

/-- A double that is a whole number is what its whole part is rounded to. -/
theorem rnd_int (r X : Int) (h0 : 0 ≤ r) (h1 : r < 9218868437227405312) (hv : vl r = whp r * 2 ^ 1075) (h : Rnd (whp r) 1 0 false X) : X = r := by
  have h2 : Rnd (whp r) 1 0 false r := rnd_vl (whp r) 0 r false 1075 0 (by omega) h0 h1 (by rw [← hv, Int.pow_zero, Int.mul_one])
  exact h.one (by omega) (by omega) h2 (a := 0) (a' := 0) (by omega) rfl

theorem whp_small (r : Int) (h0 : 0 ≤ r) (hv : ¬ vl r = whp r * 2 ^ 1075) : whp r ≤ 9007199254740991 := by
  have lt : ex r < 1074 := by
    rcases Nat.lt_or_ge (ex r) 1074 with g | g
    · exact g
    · exact absurd (whp_high r (ex r - 1074) (by omega)).2 hv
  rw [whp_low r (1074 - ex r) (by omega)]
  have := (man_nn r h0)
  have := Int.ediv_le_self (2 ^ (1074 - ex r)) this.1
  omega

/-- One that is none lies between its whole part and one more. -/
theorem rnd_nint (r X : Int) (h0 : 0 ≤ r) (hv : ¬ vl r = whp r * 2 ^ 1075) (h : Rnd (whp r) 1 0 false X) : X < r ∧ 0 ≤ X ∧ whp r ≤ 9007199254740991 ∧ ∀ Y, Rnd (whp r + 1) 1 0 false Y → r < Y := by
  have hp := Nm.two_pos 1075
  have v0 := vl_nn h0
  have dm := Int.mul_ediv_add_emod (vl r) (2 ^ 1075)
  have m0 := Int.emod_nonneg (vl r) (Int.ne_of_gt hp)
  have m1 := Int.emod_lt_of_pos (vl r) hp
  have W0 : 0 ≤ whp r := Int.ediv_nonneg v0 (Int.le_of_lt hp)
  have W1 := whp_small r h0 hv
  have dm' : 2 ^ 1075 * whp r + vl r % 2 ^ 1075 = vl r := dm
  obtain ⟨vX, X0, X1⟩ := rnd_whole (whp r) X W0 (by clear dm dm' m0 m1 hp hv; omega) h
  have key : ∀ Y, Rnd (whp r + 1) 1 0 false Y → vl Y = (whp r + 1) * 2 ^ 1075 ∧ 0 ≤ Y := fun Y hY => by
    have := rnd_whole (whp r + 1) Y (by clear dm dm' m0 m1 hp hv vX; omega) (by clear dm dm' m0 m1 hp hv vX; omega) hY
    exact ⟨this.1, this.2.1⟩
  clear dm h
  generalize (2 : Int) ^ 1075 = P at *
  rw [Int.mul_comm] at vX hv
  refine ⟨(vl_lt_iff X0 h0).1 (by omega), X0, W1, fun Y hY => ?_⟩
  obtain ⟨vY, Y0⟩ := key Y hY
  rw [Int.add_mul, Int.one_mul, Int.mul_comm (whp r)] at vY
  exact (vl_lt_iff h0 Y0).1 (by omega)

theorem whp_of (x W : Int) (h : vl x = W * 2 ^ 1075) : whp x = W := by
  rw [whp, h, Int.mul_ediv_cancel _ (by have := Nm.two_pos 1075; omega)]
end Ie

theorem cmp_lt (x y : Int) (w : World) (x0 : 0 ≤ x) (xy : x < y) (y1 : y ≤ 9218868437227405312) :
    Calls Tryd.prog 21 #[.int .u64 x, .int .u64 y] w fun e w' => e = .returned (.tuple #[.int .i64 (-1), .bool true]) ∧ w' = w := by
  have := compare_any x y w x0 (by omega) (by omega) (by omega)
  have o1 : Ie.okd x = true := by rw [Ie.okd, decide_eq_true_iff]; omega
  have o2 : Ie.okd y = true := by rw [Ie.okd, decide_eq_true_iff]; omega
  rw [Ie.cmv, o1, o2, if_pos ⟨rfl, rfl⟩, Ie.rk, Ie.rk, if_pos (by omega), if_pos (by omega), Ie.cm, if_pos xy] at this
  exact this

theorem add_one (r : Option Addr) (os : List Int) (V : Int) (w : World) (A : At w r os V) (hV : V + 1 < Nm.pw 4096) (g : Obj) (hg : g = .cells #[.int .u64 1] 30) :
    Calls Tryd.prog 20 #[.slice r os.length os.length, .slice (some ⟨w.heap.size, 0, none⟩) 1 1] (w.alloc g) fun e w' => ∃ q ys, e = .returned (.tuple #[.slice q (List.length ys) (List.length ys), .int .i64 0]) ∧ At w' q ys (V + 1) ∧ Below w.heap.size w w' := by
  subst hg
  have hB := alloc_below w (.cells #[.int .u64 1] 30)
  have e1 : Nm.val [1] = 1 := by simp [Nm.val]
  have := add_ok r (some ⟨w.heap.size, 0, none⟩) _ _ 1 1 os [1] _ (A.1.below hB (Nat.le_refl _)) (arg_lit (heap_alloc_new w _) (by omega) (by omega)) (by rw [A.2.1, e1]; exact hV)
  rw [A.2.1, e1] at this
  refine this.mono ?_
  rintro e w' ⟨q, ys, rfl, A', hB2⟩
  exact ⟨q, ys, rfl, A'.at' hV, hB.trans (hB2.mono hB.size)⟩

/-- What the first look needs: a small number's double, and back. -/
theorem small_facts (i : Int) (w : World) (hT : Tab w) (h0 : -9007199254740992 ≤ i) (h1 : i ≤ 9007199254740992) :
    ∃ X, Hid (∀ wx, Below w.heap.size w wx → (Calls Tryd.prog 15 #[.int .i64 i] wx fun e w' => e = .returned (.int .u64 X) ∧ Below wx.heap.size wx w') ∧ (Calls Tryd.prog 14 #[.int .u64 X] wx fun e w' => e = .returned (.tuple #[.int .i64 i, .int .i64 0]) ∧ Below wx.heap.size wx w') ∧
      (Calls Tryd.prog 16 #[.int .u64 X] wx fun e w' => e = .returned (.bool true) ∧ Below wx.heap.size wx w')) := by
  rcases (show 0 ≤ i ∨ i < 0 by omega) with hs | hs
  · obtain ⟨L, hL⟩ := Ie.blen_ex i hs (by omega)
    obtain ⟨x, x0, x1, hx⟩ := Ie.whole_ex i L hs hL h1
    have R : Ie.Rnd i 1 0 false x := Ie.rnd_vl i 0 x false 1075 0 (by omega) x0 x1 (by rw [hx, Int.pow_zero, Int.mul_one])
    have hr : x % 9223372036854775808 = x := by omega
    have hw := Ie.whp_of x i hx
    refine ⟨x, fun wx hB => ⟨?_, ?_, ?_⟩⟩
    · refine (fromI_nn i wx (hT.below hB) hs (by omega)).mono ?_
      rintro e w' ⟨y, rfl, R', hB'⟩
      rw [R'.one (by omega) (by omega) R (a := 0) (a' := 0) (by omega) rfl]
      exact ⟨rfl, hB'⟩
    · refine (toInt_fin x wx x0 (by omega) (by omega) false (by rw [decide_eq_false_iff_not]; omega) i (by rw [hr, hw]) hs (by rw [← hw]; exact (Ie.whp_bd x x0 x1).2)).mono ?_
      rintro e w' ⟨j, f, rfl, T, hB'⟩
      rcases T with ⟨_, tj, tf⟩ | ⟨t, _, _⟩
      · rw [tj, tf]; exact ⟨rfl, hB'⟩
      · simp at t; omega
    · have := integral_any x wx (hT.below hB) x0 (by omega)
      have hi : Ie.intg x = true := by rw [Ie.intg, decide_eq_true_iff, hr, hw]; exact ⟨x1, hx⟩
      rw [hi] at this
      exact this
  · obtain ⟨L, hL⟩ := Ie.blen_ex (-i) (by omega) (by omega)
    obtain ⟨x, x0, x1, hx⟩ := Ie.whole_ex (-i) L (by omega) hL (by omega)
    have R : Ie.Rnd (-i) 1 0 false x := Ie.rnd_vl (-i) 0 x false 1075 0 (by omega) x0 x1 (by rw [hx, Int.pow_zero, Int.mul_one])
    have hr : (x + 9223372036854775808) % 9223372036854775808 = x := by omega
    have hw := Ie.whp_of x (-i) hx
    refine ⟨x + 9223372036854775808, fun wx hB => ⟨?_, ?_, ?_⟩⟩
    · refine (fromI_ng i wx (hT.below hB) hs (by omega)).mono ?_
      rintro e w' ⟨y, rfl, R', hB'⟩
      rw [R'.one (by omega) (by omega) R (a := 0) (a' := 0) (by omega) rfl]
      exact ⟨rfl, hB'⟩
    · refine (toInt_fin (x + 9223372036854775808) wx (by omega) (by omega) (by omega) true (by rw [decide_eq_true_iff]; omega) (-i) (by rw [hr, hw]) (by omega) (by rw [← hw]; exact (Ie.whp_bd x x0 x1).2)).mono ?_
      rintro e w' ⟨j, f, rfl, T, hB'⟩
      rcases T with ⟨_, tj, tf⟩ | ⟨t, _, _⟩
      · rw [tj, tf]; exact ⟨by simp, hB'⟩
      · simp at t; omega
    · have := integral_any (x + 9223372036854775808) wx (hT.below hB) (by omega) (by omega)
      have hi : Ie.intg (x + 9223372036854775808) = true := by rw [Ie.intg, decide_eq_true_iff, hr, hw]; exact ⟨x1, hx⟩
      rw [hi] at this
      exact this
end Go.Proofs.YtpnjafacoeinnabDoor
