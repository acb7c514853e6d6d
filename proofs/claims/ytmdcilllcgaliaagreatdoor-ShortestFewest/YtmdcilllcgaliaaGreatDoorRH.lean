/-
  Texts put together: IRatio, KSmall, KTry, LAwake, LLaw, LFewN, NLimb, NSTrim, MulAddW, NNatural.
-/
import Derived.Test.YtmdcilllcgaliaaGreatDoorRG
import Derived.Test.YtmdcilllcgaliaaGreatDoorRA
import Derived.Test.YtmdcilllcgaliaaGreatDoorRC
import Derived.Test.YtmdcilllcgaliaaGreatDoorRF
import Derived.Test.YtmdcilllcgaliaaGreatDoorVStr
import Derived.Deep.LoopGhost
import Derived.Test.YtmdcilllcgaliaaGreatDoorNDigit
import Derived.Test.YtmdcilllcgaliaaGreatDoorRB
import Derived.Test.YtmdcilllcgaliaaGreatDoorNStr
import Derived.Test.YtmdcilllcgaliaaGreatDoorBare
import Derived.BigRegion
import Derived.Deep.CutRange
/-
  ieee: ratio (where the divisor leaves room), Round, RoundRatio.
-/
namespace Go.Proofs.YtmdcilllcgaliaaGreatDoor
open Go Go.RowKit Go.Deep

namespace Ie
/-- What is told of a fraction: the whole part of it moved, how far, and whether there is a rest. -/
def Quo (n d Q sh : Int) (rest : Bool) : Prop := ∀ e x, Rnd Q 1 (e - sh) rest x → Rnd n d e false x

theorem quo_up (V D : Int) (L M s : Nat) (hv : 2 ^ (L - 1) ≤ V) (hl : 1 ≤ L) (d0 : 0 < D) (hd : D < 2 ^ M) (hs : L + s = M + 64) : Quo V D (V * 2 ^ s / D) s (decide (V * 2 ^ s % D ≠ 0)) := by
  intro e x h
  refine Rnd.num s (rnd_floor (V * 2 ^ s) D (e - s) x d0 ?_ h)
  rw [Int.le_ediv_iff_mul_le d0]
  have g1 : (2 : Int) ^ (L - 1 + s) ≤ V * 2 ^ s := by rw [Nm.two_add]; exact Int.mul_le_mul_of_nonneg_right hv (by have := Nm.two_pos s; omega)
  rw [show L - 1 + s = 63 + M by omega, Nm.two_add] at g1
  have e63 : (2 : Int) ^ 63 = 9223372036854775808 := by decide
  rw [e63] at g1
  have := Nm.two_pos M
  omega

theorem quo_down (V D : Int) (L M s : Nat) (v0 : 0 < V) (hv : 2 ^ (L - 1) ≤ V) (hl : 1 ≤ L) (d0 : 0 < D) (hd : D < 2 ^ M) (hs : L = M + 64 + s) : Quo V D (V / 2 ^ s / D) (-(s : Int)) (decide (V % 2 ^ s ≠ 0) || decide (V / 2 ^ s % D ≠ 0)) := by
  have hp := Nm.two_pos s
  have hD : 0 < D * 2 ^ s := Int.mul_pos d0 hp
  have a1 := Int.mul_ediv_add_emod V (2 ^ s)
  have a2 := Int.emod_nonneg V (show (2 : Int) ^ s ≠ 0 by omega)
  have a3 := Int.emod_lt_of_pos V hp
  have b1 := Int.mul_ediv_add_emod (V / 2 ^ s) D
  have b2 := Int.emod_nonneg (V / 2 ^ s) (show D ≠ 0 by omega)
  have b3 := Int.emod_lt_of_pos (V / 2 ^ s) d0
  generalize V % 2 ^ s = r1 at *
  generalize V / 2 ^ s = q1 at *
  generalize q1 % D = r2 at *
  generalize q1 / D = q at *
  have c0 : 0 ≤ 2 ^ s * r2 := Int.mul_nonneg (by omega) b2
  have c1 : 2 ^ s * (r2 + 1) ≤ 2 ^ s * D := Int.mul_le_mul_of_nonneg_left (by omega) (by omega)
  rw [Int.mul_add, Int.mul_one, Int.mul_comm (2 ^ s) D] at c1
  have key : q * (D * 2 ^ s) + (2 ^ s * r2 + r1) = V := by
    rw [← a1, ← b1, Int.mul_add, ← Int.add_assoc]
    congr 2
    ac_rfl
  obtain ⟨k1, k2⟩ := div_is (A := V) (B := D * 2 ^ s) (q := q) (r := 2 ^ s * r2 + r1) (by omega) (by omega) key
  intro e x h
  refine Rnd.den s (rnd_floor V (D * 2 ^ s) (e + s) x hD ?_ ?_)
  · rw [Int.le_ediv_iff_mul_le hD]
    rw [show L - 1 = 63 + (M + s) by omega, Nm.two_add, Nm.two_add] at hv
    have e63 : (2 : Int) ^ 63 = 9223372036854775808 := by decide
    have g : D * 2 ^ s ≤ 2 ^ M * 2 ^ s := Int.mul_le_mul_of_nonneg_right (by omega) (by omega)
    rw [e63] at hv
    omega
  · rw [k1, k2]
    have e1 : decide (2 ^ s * r2 + r1 ≠ 0) = (decide (r1 ≠ 0) || decide (r2 ≠ 0)) := by
      rw [Bool.eq_iff_iff, Bool.or_eq_true, decide_eq_true_iff, decide_eq_true_iff, decide_eq_true_iff]
      rcases (show r2 = 0 ∨ 0 < r2 by omega) with h0 | h0
      · subst h0
        rw [Int.mul_zero]
        omega
      · have := Int.mul_pos hp h0
        omega
    rw [e1]
    rw [show e - -(s : Int) = e + s by omega] at h
    exact h
end Ie

/-- What ratio tells. -/
def RatioTold (V D : Int) (w : World) (e : Ending) (w' : World) : Prop :=
  ∃ r os Q sh rest, e = .returned (.tuple #[.slice r (List.length os) (List.length os), .int .i64 sh, .bool rest]) ∧ Ans w.heap.size w' r os Q ∧ Below w.heap.size w w' ∧ Nm.tsize os ≤ 4096 ∧ (-262144 ≤ sh ∧ sh ≤ 262208) ∧ Ie.Quo V D Q sh rest

theorem pos_len {B : Nat} {w : World} {r : Option Addr} {os : List Int} {v : Int} (h : Ans B w r os v) : decide (0 < os.length) = decide (v ≠ 0) := by
  have h1 := Nm.tsize_zero_iff h.2.1
  rw [h.2.2.1, h.2.2.2.1] at h1
  rw [decide_eq_decide]
  omega

set_option maxRecDepth 100000 in
set_option maxHeartbeats 2000000 in
theorem ratio_up (p q : Option Addr) (n cap m cap' : Nat) (zs ys : List Int) (w : World) (ha : Arg w p n cap zs) (hb : Arg w q m cap' ys) (tz : Nm.tsize zs ≤ 4096) (ty : Nm.tsize ys ≤ 4096) (V D : Int) (L M s : Nat) (hV : Nm.val zs = V) (hD : Nm.val ys = D) (hv : 0 < V) (hd : 0 < D)
    (hL : blen zs = (L : Int)) (hM : blen ys = (M : Int)) (BL : Nm.BLen V L) (BM : Nm.BLen D M) (hM2 : M + 64 ≤ 262144) (hs : L + s = M + 64) :
    Calls Tryz.prog 266 #[.slice p n cap, .slice q m cap'] w fun e w' => RatioTold V D w e w' := by
  have B1 := hid (bitLen_n L p n cap zs w ha hL)
  have B2 := hid (bitLen_n M q m cap' ys w hb hM)
  have hpw : V * 2 ^ s < Nm.pw 4096 := by
    have g1 : V * 2 ^ s < 2 ^ (L + s) := by rw [Nm.two_add]; exact Int.mul_lt_mul_of_pos_right BL.1 (Nm.two_pos s)
    have g2 := Nm.two_mono (show L + s ≤ 64 * 4096 by omega)
    rw [Nm.pw_two]
    omega
  have S := hid (fun (kk : Int) (hkk : kk = (s : Int)) => shl_any p n cap zs kk s w ha tz hkk (by rw [hV]; exact hpw))
  have Q := hid (Ie.quo_up V D L M s (BL.2.2 hv).2 (BL.2.2 hv).1 hd BM.1 hs)
  have HV := hid hV
  have HD := hid hD
  have HP := hid hpw
  have HB := hid hb
  have TY := hid ty
  have v1 : 0 < Nm.tsize ys := by
    rcases Nat.eq_zero_or_pos (Nm.tsize ys) with h | h
    · have := (Nm.tsize_zero_iff hb.2.2.2.2).1 h; omega
    · exact h
  have HY := hid v1
  have l1 : decide (262144 < (M : Int) + 64) = false := by simp; omega
  have l2 : decide ((M : Int) + 64 - (L : Int) < 0) = false := by simp; omega
  have l3 : (L : Int) ≤ 300000 := by omega
  have l4 : (M : Int) ≤ 300000 := by omega
  have ls := hid (show (M : Int) + 64 - (L : Int) = (s : Int) by omega)
  have HS := hid (show (s : Int) ≤ 262208 by omega)
  have vp := hid (show 0 ≤ V * 2 ^ s from Int.mul_nonneg (by omega) (by have := Nm.two_pos s; omega))
  have hdd := hid hd
  clear ha hb tz ty hV hD hv hd hL hM BL BM hM2 hs hpw v1
  go_enter Tryz.func266, Tryz.ntmps266
  go_wp2_with fail
  refine B2.out.mono ?_
  rintro e w' ⟨rfl, rfl⟩
  go_wp2_with fail
  refine B1.out.mono ?_
  rintro e w' ⟨rfl, rfl⟩
  go_wp2_with fail
  refine (S.out _ ls.out).mono ?_
  rintro e w1 ⟨r, os, rfl, A, hB⟩
  rw [HV.out] at A
  have A1 := ans_small A 4096 HP.out
  have hb1 := HB.out.below hB (Nat.le_refl _)
  have DM := divMod_ok r q _ _ m cap' os ys w1 (A.arg (by omega)) hb1 (by rw [A.2.2.1]; exact A1) TY.out HY.out
  rw [A.2.2.2.1, HD.out] at DM
  have DM := hid DM
  have HB1 := hid hB
  clear A A1 hb1 hB S B1 B2 HB
  go_wp2_with fail
  refine DM.out.mono ?_
  rintro e w2 ⟨r1, qs, r2, rs, rfl, A2, A3, hB2⟩
  have P3 := hid (pos_len A3)
  have vq : V * 2 ^ s / D < Nm.pw 4096 := by
    have := Int.ediv_le_self D vp.out
    have := HP.out
    omega
  have ch := HB1.out.trans (hB2.mono HB1.out.size)
  have K : Hid (∀ sh rest, sh = (s : Int) → rest = decide (V * 2 ^ s % D ≠ 0) → RatioTold V D w' (.returned (.tuple #[.slice r1 (List.length qs) (List.length qs), .int .i64 sh, .bool rest])) w2) := by
    intro sh rest hsh hrest
    subst hsh hrest
    have A2' : Ans w'.heap.size w2 r1 qs (V * 2 ^ s / D) := ⟨A2.1, A2.2.1, A2.2.2.1, A2.2.2.2.1, fun a h => by have := A2.2.2.2.2 a h; have := HB1.out.size; omega⟩
    exact ⟨r1, qs, _, _, _, rfl, A2', ch, by rw [A2.2.2.1]; exact ans_small A2 4096 vq, ⟨by have := HS.out; omega, by have := HS.out; omega⟩, Q.out⟩
  clear A2 A3 vq ch hB2 DM HB1 Q HV HD HP TY HY vp hdd
  go_wp2_with fail
  go_ret3
  exact K.out _ _ ls.out P3.out
set_option maxRecDepth 100000 in
set_option maxHeartbeats 2000000 in
theorem ratio_down (p q : Option Addr) (n cap m cap' : Nat) (zs ys : List Int) (w : World) (ha : Arg w p n cap zs) (hb : Arg w q m cap' ys) (tz : Nm.tsize zs ≤ 4096) (ty : Nm.tsize ys ≤ 4096) (V D : Int) (L M s : Nat) (hV : Nm.val zs = V) (hD : Nm.val ys = D) (hv : 0 < V) (hd : 0 < D)
    (hL : blen zs = (L : Int)) (hM : blen ys = (M : Int)) (BL : Nm.BLen V L) (BM : Nm.BLen D M) (hM2 : M + 64 ≤ 262144) (hL2 : L ≤ 262144) (hs : L = M + 64 + s) (hs0 : 0 < s) (hT : Tab w) :
    Calls Tryz.prog 266 #[.slice p n cap, .slice q m cap'] w fun e w' => RatioTold V D w e w' := by
  have B1 := hid (bitLen_n L p n cap zs w ha hL)
  have B2 := hid (bitLen_n M q m cap' ys w hb hM)
  have hp := Nm.two_pos s
  have hpw : V / 2 ^ s < Nm.pw 4096 := by
    have g1 := Int.ediv_le_self (2 ^ s) (show 0 ≤ V by omega)
    have g2 := Nm.two_mono (show L ≤ 64 * 4096 by omega)
    have := BL.1
    rw [Nm.pw_two]
    omega
  have S := hid (fun (kk : Int) (hkk : kk = (s : Int)) => shr_any p n cap zs kk s w ha hT tz hkk)
  have Q := hid (Ie.quo_down V D L M s hv (BL.2.2 hv).2 (BL.2.2 hv).1 hd BM.1 hs)
  have HV := hid hV
  have HD := hid hD
  have HP := hid hpw
  have HB := hid hb
  have TY := hid ty
  have v1 : 0 < Nm.tsize ys := by
    rcases Nat.eq_zero_or_pos (Nm.tsize ys) with h | h
    · have := (Nm.tsize_zero_iff hb.2.2.2.2).1 h; omega
    · exact h
  have HY := hid v1
  have l1 : decide (262144 < (M : Int) + 64) = false := by simp; omega
  have l2 : (M : Int) + 64 - (L : Int) < 0 := by omega
  have l3 : (L : Int) ≤ 300000 := by omega
  have l4 : (M : Int) ≤ 300000 := by omega
  have ls := hid (show (M : Int) + 64 - (L : Int) = -(s : Int) by omega)
  have HS := hid (show (s : Int) ≤ 262144 by omega)
  have vp := hid (show 0 ≤ V / 2 ^ s from Int.ediv_nonneg (by omega) (by omega))
  obtain ⟨lost, hlost⟩ : ∃ lost, decide (V % 2 ^ s ≠ 0) = lost := ⟨_, rfl⟩
  rw [hlost] at Q
  have HLO := hid hlost
  have hdd := hid hd
  clear ha hb tz ty hV hD hv hd hL hM BL BM hM2 hs hs0 hpw v1 hT hL2 hp hlost
  go_enter Tryz.func266, Tryz.ntmps266
  go_wp2_with fail
  refine B2.out.mono ?_
  rintro e w' ⟨rfl, rfl⟩
  go_wp2_with fail
  refine B1.out.mono ?_
  rintro e w' ⟨rfl, rfl⟩
  go_wp2_with fail
  refine (S.out _ (by have := ls.out; omega)).mono ?_
  rintro e w1 ⟨r, os, rfl, A, hB⟩
  rw [HV.out] at A ⊢
  rw [HLO.out]
  have A1 := ans_small A 4096 HP.out
  have hb1 := HB.out.below hB (Nat.le_refl _)
  have DM := divMod_ok r q _ _ m cap' os ys w1 (A.arg (by omega)) hb1 (by rw [A.2.2.1]; exact A1) TY.out HY.out
  rw [A.2.2.2.1, HD.out] at DM
  have DM := hid DM
  have HB1 := hid hB
  clear A A1 hb1 hB S B1 B2 HB
  go_wp2_with fail
  refine DM.out.mono ?_
  rintro e w2 ⟨r1, qs, r2, rs, rfl, A2, A3, hB2⟩
  have P3 := hid (pos_len A3)
  have vq : V / 2 ^ s / D < Nm.pw 4096 := by
    have := Int.ediv_le_self D vp.out
    have := HP.out
    omega
  have ch := HB1.out.trans (hB2.mono HB1.out.size)
  have K : Hid (∀ sh rest, sh = -(s : Int) → rest = (lost || decide (V / 2 ^ s % D ≠ 0)) → RatioTold V D w' (.returned (.tuple #[.slice r1 (List.length qs) (List.length qs), .int .i64 sh, .bool rest])) w2) := by
    intro sh rest hsh hrest
    subst hsh hrest
    have A2' : Ans w'.heap.size w2 r1 qs (V / 2 ^ s / D) := ⟨A2.1, A2.2.1, A2.2.2.1, A2.2.2.2.1, fun a h => by have := A2.2.2.2.2 a h; have := HB1.out.size; omega⟩
    exact ⟨r1, qs, _, _, _, rfl, A2', ch, by rw [A2.2.2.1]; exact ans_small A2 4096 vq, ⟨by have := HS.out; omega, by have := HS.out; omega⟩, Q.out⟩
  clear A2 A3 vq ch hB2 DM HB1 Q HV HD HP TY HY vp hdd
  cases lost
  · go_wp2_with fail
    go_ret3
    exact K.out _ _ ls.out (by rw [Bool.false_or]; exact P3.out)
  · go_wp2_with fail
    go_ret3
    exact K.out _ _ ls.out (by simp)

theorem ratio_any (p q : Option Addr) (n cap m cap' : Nat) (zs ys : List Int) (w : World) (ha : Arg w p n cap zs) (hb : Arg w q m cap' ys) (hT : Tab w) (tz : Nm.tsize zs ≤ 4096) (ty : Nm.tsize ys ≤ 4095) (V D : Int) (hV : Nm.val zs = V) (hD : Nm.val ys = D) (hv : 0 < V) (hd : 0 < D) :
    Calls Tryz.prog 266 #[.slice p n cap, .slice q m cap'] w fun e w' => RatioTold V D w e w' := by
  obtain ⟨L, hL, BL, hl, _⟩ := blen_is zs ha.2.2.2.2
  obtain ⟨M, hM, BM, hm, _⟩ := blen_is ys hb.2.2.2.2
  rw [hV] at BL
  rw [hD] at BM
  rcases Nat.lt_or_ge (M + 64) L with h | h
  · exact ratio_down p q n cap m cap' zs ys w ha hb tz (by omega) V D L M (L - (M + 64)) hV hD hv hd hL hM BL BM (by omega) (by omega) (by omega) (by omega) hT
  · exact ratio_up p q n cap m cap' zs ys w ha hb tz (by omega) V D L M (M + 64 - L) hV hD hv hd hL hM BL BM (by omega) (by omega)

set_option maxRecDepth 100000 in
set_option maxHeartbeats 2000000 in
theorem roundRatio_any (neg : Bool) (p q : Option Addr) (n cap m cap' : Nat) (zs ys : List Int) (w : World) (ha : Arg w p n cap zs) (hb : Arg w q m cap' ys) (hT : Tab w) (tz : Nm.tsize zs ≤ 4096) (ty : Nm.tsize ys ≤ 4095) (V D e : Int) (hV : Nm.val zs = V) (hD : Nm.val ys = D) (hd : 0 < D) :
    Calls Tryz.prog 262 #[.bool neg, .slice p n cap, .slice q m cap', .int .i64 e] w fun r w' => ∃ x, r = .returned (.tuple #[.int .u64 (Ie.sg neg x), .int .i64 0]) ∧ Ie.Rnd V D e false x ∧ Below w.heap.size w w' := by
  obtain ⟨L, hL, BL, hl, _⟩ := blen_is zs ha.2.2.2.2
  obtain ⟨M, hM, BM, hm, _⟩ := blen_is ys hb.2.2.2.2
  rw [hV] at BL
  rw [hD] at BM
  have B1 := hid (bitLen_n L p n cap zs w ha hL)
  have B2 := hid (bitLen_n M q m cap' ys w hb hM)
  have v0 : 0 ≤ V := by rw [← hV]; exact (Nm.val_bd zs ha.2.2.2.2).1
  have l1 : decide (262144 < (L : Int)) = false := by simp; omega
  have l2 : decide (262144 < (M : Int)) = false := by simp; omega
  have m0 : 0 < M := (BM.2.2 hd).1
  have l3 : ((M : Int) == 0) = false := by rw [beq_eq_false_iff_ne]; omega
  rcases (show V = 0 ∨ 0 < V by omega) with hv | hv
  · have hL0 : L = 0 := BL.2.1 hv
    subst hL0
    have R := hid (Ie.rnd_zero D e false hd)
    have SG := hid (signed_any neg 0 w (by omega) (by omega))
    subst hv
    clear ha hb hT tz ty hV hD hd hL hM BL BM hl hm v0 m0
    go_enter Tryz.func262, Tryz.ntmps262
    go_wp2_with fail
    refine B1.out.mono ?_
    rintro e' w' ⟨rfl, rfl⟩
    go_wp2_with fail
    refine B2.out.mono ?_
    rintro e' w' ⟨rfl, rfl⟩
    go_wp2_with fail
    refine B2.out.mono ?_
    rintro e' w' ⟨rfl, rfl⟩
    go_wp2_with fail
    refine B1.out.mono ?_
    rintro e' w' ⟨rfl, rfl⟩
    go_wp2_with fail
    refine SG.out.mono ?_
    rintro e' w' ⟨rfl, rfl⟩
    go_wp2_with fail
    go_ret2
    exact ⟨0, rfl, R.out, Below.refl _ _⟩
  · have RA := hid (ratio_any p q n cap m cap' zs ys w ha hb hT tz ty V D hV hD hv hd)
    have WI := hid (fun (x : Int) => Ie.win_ok (n := V) (d := D) (e := e) (x := x) (more := false) L M v0 BL.1 hd (by have := BM.1; omega) (by omega) (by omega))
    have W0 := hid (fun (wx : World) => within_any e wx)
    obtain ⟨we, hwe⟩ : ∃ we, Ie.win e = we := ⟨_, rfl⟩
    have wb := Ie.win_bd e
    rw [hwe] at wb W0 WI
    obtain ⟨wb1, wb2⟩ := wb
    have l0 : 0 < L := (BL.2.2 hv).1
    have l4 : ((L : Int) == 0) = false := by rw [beq_eq_false_iff_ne]; omega
    have HT := hid hT
    clear ha hb hT tz ty hV hD hd hL hM BL BM hl hm v0 m0 hwe l0 hv
    go_enter Tryz.func262, Tryz.ntmps262
    go_wp2_with fail
    refine B1.out.mono ?_
    rintro e' w' ⟨rfl, rfl⟩
    go_wp2_with fail
    refine B2.out.mono ?_
    rintro e' w' ⟨rfl, rfl⟩
    go_wp2_with fail
    refine B2.out.mono ?_
    rintro e' w' ⟨rfl, rfl⟩
    go_wp2_with fail
    refine B1.out.mono ?_
    rintro e' w' ⟨rfl, rfl⟩
    go_wp2_with fail
    refine RA.out.mono ?_
    rintro e' w1 ⟨r, os, Q, sh, rest, rfl, A, hB, to4, ⟨s1, s2⟩, QU⟩
    have lo : os.length ≤ 4096 := by rw [← A.2.2.1]; exact to4
    have NR := hid (nearest_any r _ _ os w1 (A.arg (by omega)) (HT.out.below hB) to4 Q (we - sh) rest A.2.2.2.1 (by omega) (by omega))
    have HB := hid hB
    have QQ := hid QU
    clear A hB to4 QU lo B1 B2 RA HT
    go_wp2_with fail
    refine (W0.out w1).mono ?_
    rintro e' w' ⟨rfl, rfl⟩
    go_wp2_with fail
    refine NR.out.mono ?_
    rintro e' w2 ⟨x, rfl, R, hB⟩
    have bd := R.bd
    have R1 := hid (WI.out x (QQ.out we x R))
    have SG := hid (signed_any neg x w2 bd.1 (by omega))
    have HB2 := hid (HB.out.trans (hB.mono HB.out.size))
    clear R bd hB
    go_wp2_with fail
    refine SG.out.mono ?_
    rintro e' w3 ⟨rfl, rfl⟩
    go_wp2_with fail
    go_ret2
    exact ⟨x, rfl, R1.out, HB2.out⟩
end Go.Proofs.YtmdcilllcgaliaaGreatDoor

namespace Go.Proofs.YtmdcilllcgaliaaGreatDoor
open Go Go.RowKit Go.Deep

/-- The table of the powers of ten that are doubles. -/
def Tens (w : World) : Prop := ∀ j : Nat, j < 23 → w.cell? ⟨10, j * 2, none⟩ = some (.int .u64 (lo64 (10 ^ j))) ∧ w.cell? ⟨10, j * 2 + 1, none⟩ = some (.int .u64 (hi64 (10 ^ j)))
theorem Tens.below {w w' : World} (h : Tens w) (hb : Below w.heap.size w w') : Tens w' := by
  intro j hj
  have hc := h j hj
  rw [hb.cell (p := ⟨10, j * 2, none⟩) (cell_lt hc.1), hb.cell (p := ⟨10, j * 2 + 1, none⟩) (cell_lt hc.2)]
  exact hc

def SmallTold (v q : Int) (w : World) (e : Ending) (w' : World) : Prop :=
  ((v ≤ 9007199254740992 ∧ -22 ≤ q ∧ q ≤ 22 ∧ ∃ x, e = .returned (.tuple #[.int .u64 x, .bool true]) ∧ Ie.Rnd (v * 10 ^ q.toNat) (10 ^ (-q).toNat) 0 false x) ∨
    ((9007199254740992 < v ∨ q < -22 ∨ 22 < q) ∧ e = .returned (.tuple #[.int .u64 0, .bool false]))) ∧ Below w.heap.size w w'

theorem ten_bd {j : Nat} (h : j < 23) : 0 < (10 : Int) ^ j ∧ (10 : Int) ^ j < 340282366920938463463374607431768211456 := by
  refine ⟨Int.pow_pos (by decide), ?_⟩
  have h1 := Nat.pow_le_pow_right (show 0 < 10 by decide) (show j ≤ 22 by omega)
  have e : ∀ k : Nat, ((10 ^ k : Nat) : Int) = 10 ^ k := by intro k; simp
  have e1 := e j
  have e2 := e 22
  have e3 : (10 : Int) ^ 22 = 10000000000000000000000 := by decide +kernel
  omega

set_option maxRecDepth 100000 in
set_option maxHeartbeats 1000000 in
theorem small_any9 (v q : Int) (w : World) (hT : Tab w) (hX : Tens w) (hv : Bd v) :
    Calls Tryz.prog 287 #[.int .u64 v, .int .i64 q] w fun e w' => SmallTold v q w e w' := by
  by_cases h : v ≤ 9007199254740992 ∧ -22 ≤ q ∧ q ≤ 22
  · by_cases h0 : 0 ≤ q
    · obtain ⟨j, hj⟩ := Int.eq_ofNat_of_zero_le h0
      have tb := ten_bd (show j < 23 by omega)
      have bs := bd_split (P := 10 ^ j) (by omega) tb.2
      have TM := hid (fun wx => ptimes_any v (lo64 (10 ^ j)) (hi64 (10 ^ j)) wx hv bs.1 bs.2)
      rw [n2_split] at TM
      obtain ⟨c0, c1⟩ := hX j (by omega)
      have PR := hid (fun (a b c : Int) (wx : World) (hb : Below w.heap.size w wx) (hh : Bd a ∧ Bd b ∧ Bd c) => pround_any a b c 0 wx (hT.below hb) hh)
      have FF : Hid (∀ x w', Ie.Rnd (v * 10 ^ j) 1 0 false x → Below w.heap.size w w' → SmallTold v q w (.returned (.tuple #[.int .u64 x, .bool true])) w') := fun x w' r b => ⟨.inl ⟨h.1, h.2.1, h.2.2, x, rfl, by rw [show q.toNat = j by omega, show (-q).toNat = 0 by omega]; exact r⟩, b⟩
      have a0 : (j : Int) ≤ 22 := by omega
      have a1 : v ≤ 9007199254740992 := h.1
      have a2 : 0 ≤ v := hv.1
      subst hj
      clear h hT hX hv tb bs h0
      unfold wideV prodV at *
      generalize lo64 (10 ^ j) = x at *
      generalize hi64 (10 ^ j) = y at *
      go_enter Tryz.func287, Tryz.ntmps287
      go_wp2_with fail
      with_reducible refine (TM.out _).mono ?_
      rintro e w1 ⟨a, b, c, rfl, hbd, hn, hB⟩
      have BD := hid hbd
      have NN := hid hn
      have HB := hid hB
      clear hbd hn TM
      go_wp2_with fail
      with_reducible refine (PR.out a b c _ hB BD.out).mono ?_
      rintro e w2 ⟨z, rfl, hR, hB2⟩
      rw [NN.out] at hR
      have F := hid (FF.out z w2 hR (below_on HB.out hB2))
      clear hB hB2 hR FF PR
      go_wp2_with fail
      go_ret2
      exact F.out
    · obtain ⟨j, hj⟩ := Int.eq_ofNat_of_zero_le (show 0 ≤ -q by omega)
      have tb := ten_bd (show j < 23 by omega)
      have bs := bd_split (P := 10 ^ j) (by omega) tb.2
      obtain ⟨c0, c1⟩ := hX j (by omega)
      have RR : Hid (∀ wx, wx = ((w.alloc (.cells #[.int .u64 (lo64 (10 ^ j)), .int .u64 (hi64 (10 ^ j))] 280)).alloc (.cells #[.int .u64 v] 25)) → Calls Tryz.prog 262 #[.bool false, .slice (some ⟨w.heap.size + 1, 0, none⟩) 1 1, .slice (some ⟨w.heap.size, 0, none⟩) 2 2, .int .i64 0] wx fun e w' => ∃ x, e = .returned (.tuple #[.int .u64 x, .int .i64 0]) ∧ Ie.Rnd v (10 ^ j) 0 false x ∧ Below w.heap.size w w') := by
        intro wx hw
        subst hw
        have b2 : Below w.heap.size w ((w.alloc (.cells #[.int .u64 (lo64 (10 ^ j)), .int .u64 (hi64 (10 ^ j))] 280)).alloc (.cells #[.int .u64 v] 25)) := below_on (alloc_b _ _) (alloc_b _ _)
        refine (roundRatio_any false _ _ 1 1 2 2 [v] [lo64 (10 ^ j), hi64 (10 ^ j)] _ (arg_lit9 (heap_alloc2_new _ _ _) hv.1 hv.2) (At2.arg (heap_alloc2_old _ _ _) bs.1.1 bs.1.2 bs.2.1 bs.2.2) (hT.below b2) (Nat.le_trans (Nm.tsize_le _) (by simp)) (Nat.le_trans (Nm.tsize_le _) (by simp)) v (10 ^ j) 0 (by simp [Nm.val]) (by rw [n2_val, n2_split]) tb.1).mono ?_
        rintro e w' ⟨x, rfl, r, hB⟩
        exact ⟨x, by unfold Ie.sg; rfl, r, below_on b2 hB⟩
      have FF : Hid (∀ x w', Ie.Rnd v (10 ^ j) 0 false x → Below w.heap.size w w' → SmallTold v q w (.returned (.tuple #[.int .u64 x, .bool true])) w') := fun x w' r b => ⟨.inl ⟨h.1, h.2.1, h.2.2, x, rfl, by rw [show q.toNat = 0 by omega, show (-q).toNat = j by omega, Int.pow_zero, Int.mul_one]; exact r⟩, b⟩
      have a0 : (j : Int) ≤ 22 := by omega
      have a1 : v ≤ 9007199254740992 := h.1
      have a2 : 0 ≤ v := hv.1
      have a3 : -22 ≤ q := h.2.1
      have a4 : q < 0 := by omega
      clear h hT hX hv tb bs h0
      generalize lo64 (10 ^ j) = x at *
      generalize hi64 (10 ^ j) = y at *
      go_enter Tryz.func287, Tryz.ntmps287
      go_wp2_with fail
      with_reducible refine (RR.out _ rfl).mono ?_
      rintro e w2 ⟨z, rfl, hR, hB2⟩
      have F := hid (FF.out z w2 hR hB2)
      clear hB2 hR FF RR
      go_wp2_with fail
      go_ret2
      exact F.out
  · have F : Hid (SmallTold v q w (.returned (.tuple #[.int .u64 0, .bool false])) w) := ⟨.inr ⟨by omega, rfl⟩, Below.refl _ _⟩
    clear hT hX hv
    by_cases k1 : 9007199254740992 < v
    · clear h
      go_enter Tryz.func287, Tryz.ntmps287
      go_wp2_with fail
      go_ret2
      exact F.out
    · by_cases k2 : q ≤ -23
      · clear h
        go_enter Tryz.func287, Tryz.ntmps287
        go_wp2_with fail
        go_ret2
        exact F.out
      · have k3 : 23 ≤ q := by omega
        clear h
        go_enter Tryz.func287, Tryz.ntmps287
        go_wp2_with fail
        go_ret2
        exact F.out
end Go.Proofs.YtmdcilllcgaliaaGreatDoor

namespace Go.Proofs.YtmdcilllcgaliaaGreatDoor
open Go Go.RowKit Go.Deep

/-- What a row of digits writes. -/
def dw (ds : List Int) : Int := ds.foldl (fun a d => 10 * a + (d - 48)) 0
theorem dw_snoc (ds : List Int) (x : Int) : dw (ds ++ [x]) = 10 * dw ds + (x - 48) := by unfold dw; rw [List.foldl_append]; rfl
def Dig9 (ds : List Int) : Prop := ∀ x ∈ ds, 48 ≤ x ∧ x ≤ 57
theorem take_snoc {ds : List Int} {j : Nat} (h : j < ds.length) : ds.take (j + 1) = ds.take j ++ [ds.getD j 0] := by
  rw [List.take_add_one]
  simp [List.getD, h]
theorem dw_take {ds : List Int} {j : Nat} (h : j < ds.length) : dw (ds.take (j + 1)) = 10 * dw (ds.take j) + (ds.getD j 0 - 48) := by rw [take_snoc h, dw_snoc]
theorem Dig9.at {ds : List Int} (h : Dig9 ds) {j : Nat} (hj : j < ds.length) : 48 ≤ ds.getD j 0 ∧ ds.getD j 0 ≤ 57 := h _ (by simp [List.getD, hj])
theorem dw_bd {ds : List Int} (h : Dig9 ds) : ∀ j, j ≤ ds.length → 0 ≤ dw (ds.take j) ∧ dw (ds.take j) < 10 ^ j
  | 0, _ => by simp [dw]
  | j + 1, hj => by
    have ih := dw_bd h j (by omega)
    have := h.at (show j < ds.length by omega)
    rw [dw_take (by omega), Int.pow_succ]
    omega
theorem ten19 {j : Nat} (h : j ≤ 19) : (10 : Int) ^ j ≤ 10000000000000000000 := by
  have h1 := Nat.pow_le_pow_right (show 0 < 10 by decide) h
  have e : ∀ k : Nat, ((10 ^ k : Nat) : Int) = 10 ^ k := by intro k; simp
  have e1 := e j
  have e2 := e 19
  have e3 : (10 : Int) ^ 19 = 10000000000000000000 := by decide +kernel
  omega

set_option maxRecDepth 100000 in
set_option maxHeartbeats 1000000 in
theorem natural_any9 (s : ByteArray) (xs : List Int) (w : World) (hs : Str s xs) (hd : Dig9 xs) (hn : xs.length ≤ 19) :
    Calls Tryz.prog 286 #[.string s] w fun e w' => e = .returned (.int .u64 (dw xs)) ∧ w' = w := by
  have hsz := hs.size
  have ST : Hid (∀ j, j < xs.length → (∀ ht : j < s.size, ((s[j]'ht).toNat : Int) = xs.getD j 0) ∧ (48 ≤ xs.getD j 0 ∧ xs.getD j 0 ≤ 57) ∧ dw (xs.take (j + 1)) = 10 * dw (xs.take j) + (xs.getD j 0 - 48) ∧ 0 ≤ dw (xs.take j) ∧ dw (xs.take j) < 1000000000000000000) := fun j hj => ⟨hs.at j, hd.at hj, dw_take hj, (dw_bd hd j (by omega)).1, by
    have := (dw_bd hd j (by omega)).2
    have h1 := Nat.pow_le_pow_right (show 0 < 10 by decide) (show j ≤ 18 by omega)
    have e : ∀ k : Nat, ((10 ^ k : Nat) : Int) = 10 ^ k := by intro k; simp
    have e1 := e j
    have e2 := e 18
    have e3 : (10 : Int) ^ 18 = 1000000000000000000 := by decide +kernel
    omega⟩
  have FIN : Hid (∀ j, j ≤ xs.length → ¬ j < xs.length → dw (xs.take j) = dw xs) := fun j h1 h2 => by rw [List.take_of_length_le (by omega)]
  have n1 : (xs.length : Int) ≤ 19 := by omega
  have hz0 : dw (xs.take 0) = 0 := by simp [dw]
  clear hs hd hn
  go_enter Tryz.func286, Tryz.ntmps286
  go_wp2_with fail
  go_loop [3, 7] (fun a i => ∃ (j : Nat) (x : Int), a = .int .u64 x ∧ i = .int .i64 j ∧ Hid (j ≤ xs.length ∧ x = dw (xs.take j))) (fun _ i => xs.length - (intOf i).toNat)
  case atStart => exact ⟨0, 0, rfl, rfl, Nat.zero_le _, hz0.symm⟩
  case round =>
    obtain ⟨j, x, rfl, rfl, I⟩ := hrel
    have hjb : (j : Int) ≤ 19 := by have := I.out.1; omega
    by_cases hj : j < xs.length
    · have hji : (j : Int) < (xs.length : Int) := by omega
      obtain ⟨hx, hd, hst, b0, b1⟩ := ST.out j hj
      have hjs : j < s.size := by omega
      have hxx := I.out.2
      rw [← hxx] at hst b0 b1
      have I2 : Hid (j + 1 ≤ xs.length ∧ 10 * x + (xs.getD j 0 - 48) = dw (xs.take (j + 1))) := ⟨by omega, hst.symm⟩
      clear I hxx hst
      generalize xs.getD j 0 = y at *
      go_wp2_with fail
      go_round
      case rel => exact ⟨j + 1, _, rfl, by go_num, I2.out⟩
      case measure => simp [intOf]; omega
    · have hji : ¬ (j : Int) < (xs.length : Int) := by omega
      have hxx := I.out.2
      rw [FIN.out j I.out.1 hj] at hxx
      subst hxx
      clear I
      go_wp2_with fail
      go_ret
      exact ⟨rfl, rfl⟩

/-- What tell tells of a row of digits. -/
def TellIs (xs : List Int) (e x : Int) (s : Bool) : Prop :=
  (xs.length ≤ 19 ∧ ((dw xs ≤ 9007199254740992 ∧ -22 ≤ e ∧ e ≤ 22 ∧ s = true ∧ Ie.Rnd (dw xs * 10 ^ e.toNat) (10 ^ (-e).toNat) 0 false x) ∨ ((9007199254740992 < dw xs ∨ e < -22 ∨ 22 < e) ∧ Ie.Stq (dw xs) e x s))) ∨
    (19 < xs.length ∧ ∃ x1 s1, Ie.Stq (dw (xs.take 19)) (e + xs.length - 19) x1 s1 ∧ ((s1 = false ∧ x = 0 ∧ s = false) ∨
      (s1 = true ∧ ∃ x2 s2, Ie.Stq (dw (xs.take 19) + 1) (e + xs.length - 19) x2 s2 ∧ ((s2 = true ∧ x2 = x1 ∧ x = x1 ∧ s = true) ∨ (¬ (s2 = true ∧ x2 = x1) ∧ x = 0 ∧ s = false)))))

def TellTold (xs : List Int) (e : Int) (w : World) (r : Ending) (w' : World) : Prop := ∃ x s, r = .returned (.tuple #[.int .u64 x, .bool s]) ∧ TellIs xs e x s ∧ Below w.heap.size w w'

theorem Dig9.take {xs : List Int} (h : Dig9 xs) (k : Nat) : Dig9 (xs.take k) := fun x hx => h x (List.mem_of_mem_take hx)

set_option maxRecDepth 100000 in
set_option maxHeartbeats 1000000 in
theorem tell_any9 (s : ByteArray) (xs : List Int) (e : Int) (w : World) (hT : Tab w) (hX : Tens w) (hs : Str s xs) (hd : Dig9 xs) (hn : xs.length ≤ 281474976710656) (e0 : -1152921504606846976 ≤ e) (e1 : e ≤ 1152921504606846976) :
    Calls Tryz.prog 285 #[.string s, .int .i64 e] w fun r w' => TellTold xs e w r w' := by
  have hsz := hs.size
  by_cases h : xs.length ≤ 19
  · have NA := hid (natural_any9 s xs w hs hd h)
    have bd := dw_bd hd xs.length (Nat.le_refl _)
    rw [List.take_length] at bd
    have t19 := ten19 h
    have BD : Bd (dw xs) := ⟨bd.1, by omega⟩
    have SM := hid (small_any9 (dw xs) e w hT hX BD)
    have SP := hid (fun wx (hb : Below w.heap.size w wx) => step_any9 (dw xs) e wx (hT.below hb) BD)
    have F1 : Hid (∀ x w', Ie.Rnd (dw xs * 10 ^ e.toNat) (10 ^ (-e).toNat) 0 false x → dw xs ≤ 9007199254740992 → -22 ≤ e → e ≤ 22 → Below w.heap.size w w' → TellTold xs e w (.returned (.tuple #[.int .u64 x, .bool true])) w') := fun x w' r a b c k => ⟨x, true, rfl, .inl ⟨h, .inl ⟨a, b, c, rfl, r⟩⟩, k⟩
    have F2 : Hid (∀ x s w', Ie.Stq (dw xs) e x s → (9007199254740992 < dw xs ∨ e < -22 ∨ 22 < e) → Below w.heap.size w w' → TellTold xs e w (.returned (.tuple #[.int .u64 x, .bool s])) w') := fun x s w' r a k => ⟨x, s, rfl, .inl ⟨h, .inr ⟨a, r⟩⟩, k⟩
    have hi : (xs.length : Int) ≤ 19 := by omega
    clear h bd t19 BD hs hd hn hT hX
    go_enter Tryz.func285, Tryz.ntmps285
    go_wp2_with fail
    with_reducible refine NA.out.mono ?_
    rintro r w' ⟨rfl, rfl⟩
    go_wp2_with fail
    with_reducible refine SM.out.mono ?_
    rintro r w1 ⟨⟨a1, a2, a3, x, rfl, R⟩ | ⟨a1, rfl⟩, hB⟩
    · have F := hid (F1.out x w1 R a1 a2 a3 hB)
      clear a1 a2 a3 R hB F1 F2 SM SP NA
      go_wp2_with fail
      go_ret2
      exact F.out
    · have A := hid a1
      have HB := hid hB
      clear a1 F1 SM NA
      go_wp2_with fail
      with_reducible refine (SP.out _ hB).mono ?_
      rintro r w2 ⟨x, sr, rfl, R, hB2⟩
      have F := hid (F2.out x sr w2 R A.out (below_on HB.out hB2))
      clear R hB2 hB F2 SP
      go_wp2_with fail
      go_ret2
      exact F.out
  · have hl : (xs.take 19).length = 19 := by rw [List.length_take]; omega
    have NA := hid (fun (s1 : ByteArray) (hs1 : Str s1 (xs.take 19)) wx => natural_any9 s1 (xs.take 19) wx hs1 (hd.take 19) (by omega))
    have EX := hs.extract 0 19
    have bd := dw_bd hd 19 (by omega)
    have t19 := ten19 (show 19 ≤ 19 by omega)
    have BD : Bd (dw (xs.take 19)) := ⟨bd.1, by omega⟩
    have BD1 : Bd (dw (xs.take 19) + 1) := ⟨by omega, by omega⟩
    have S1 := hid (step_any9 (dw (xs.take 19)) (e + xs.length - 19) w hT BD)
    have S2 := hid (fun wx (hb : Below w.heap.size w wx) => step_any9 (dw (xs.take 19) + 1) (e + xs.length - 19) wx (hT.below hb) BD1)
    obtain ⟨n, hnn⟩ : ∃ n : Nat, xs.length = n := ⟨_, rfl⟩
    have F0 : Hid (∀ x1 w', Ie.Stq (dw (xs.take 19)) (e + xs.length - 19) x1 false → Below w.heap.size w w' → TellTold xs e w (.returned (.tuple #[.int .u64 0, .bool false])) w') := fun x1 w' r k => ⟨0, false, rfl, .inr ⟨by omega, x1, false, r, .inl ⟨rfl, rfl, rfl⟩⟩, k⟩
    have F1 : Hid (∀ x1 w', Ie.Stq (dw (xs.take 19)) (e + xs.length - 19) x1 true → Ie.Stq (dw (xs.take 19) + 1) (e + xs.length - 19) x1 true → Below w.heap.size w w' → TellTold xs e w (.returned (.tuple #[.int .u64 x1, .bool true])) w') := fun x1 w' r r2 k => ⟨x1, true, rfl, .inr ⟨by omega, x1, true, r, .inr ⟨rfl, x1, true, r2, .inl ⟨rfl, rfl, rfl, rfl⟩⟩⟩, k⟩
    have F2 : Hid (∀ x1 x2 s2 w', Ie.Stq (dw (xs.take 19)) (e + xs.length - 19) x1 true → Ie.Stq (dw (xs.take 19) + 1) (e + xs.length - 19) x2 s2 → ¬ (s2 = true ∧ x2 = x1) → Below w.heap.size w w' → TellTold xs e w (.returned (.tuple #[.int .u64 0, .bool false])) w') := fun x1 x2 s2 w' r r2 ne k => ⟨0, false, rfl, .inr ⟨by omega, x1, true, r, .inr ⟨rfl, x2, s2, r2, .inr ⟨ne, rfl, rfl⟩⟩⟩, k⟩
    have hni : 19 < (n : Int) := by omega
    have hnb : (n : Int) ≤ 281474976710656 := by omega
    have hs19 : 19 ≤ s.size := by omega
    have b1 := BD1.1
    have b2 := BD1.2
    have b3 := BD.1
    rw [hnn] at hsz S1 S2 F0 F1 F2
    simp only [List.drop_zero, Nat.sub_zero] at EX
    have N1 := hid (NA.out _ EX)
    clear h hl NA EX bd t19 BD BD1 hs hd hn hT hX hnn
    generalize dw (xs.take 19) = v at *
    obtain ⟨q, hq⟩ : ∃ q, e + (n : Int) - 19 = q := ⟨_, rfl⟩
    rw [hq] at S1 S2 F0 F1 F2
    go_enter Tryz.func285, Tryz.ntmps285
    go_wp2_with fail
    with_reducible refine (N1.out _).mono ?_
    rintro r w' ⟨rfl, rfl⟩
    go_wp2_with fail
    with_reducible refine S1.out.mono ?_
    rintro r w1 ⟨x1, s1, rfl, R1, hB⟩
    cases s1 with
    | false =>
      have F := hid (F0.out x1 w1 R1 hB)
      clear R1 hB F0 F1 F2 S1 S2
      go_wp2_with fail
      go_ret2
      exact F.out
    | true =>
      have HR := hid R1
      have HB := hid hB
      clear R1 S1 F0
      go_wp2_with fail
      with_reducible refine (S2.out _ hB).mono ?_
      rintro r w2 ⟨x2, s2, rfl, R2, hB2⟩
      clear hB
      cases s2 with
      | false =>
        have F := hid (F2.out x1 x2 false w2 HR.out R2 (by simp) (below_on HB.out hB2))
        clear R2 hB2 F1 F2 S2
        go_wp2_with fail
        go_ret2
        exact F.out
      | true =>
        by_cases hx : x2 = x1
        · subst hx
          have F := hid (F1.out x2 w2 HR.out R2 (below_on HB.out hB2))
          clear R2 hB2 F1 F2 S2
          go_wp2_with fail
          go_ret2
          exact F.out
        · have F := hid (F2.out x1 x2 true w2 HR.out R2 (fun c => hx c.2) (below_on HB.out hB2))
          have hne : (x2 == x1) = false := by rw [beq_eq_false_iff_ne]; exact hx
          clear R2 hB2 F1 F2 S2
          go_wp2_with fail
          go_ret2
          exact F.out

/-- A Dec in normal form. -/
def Nml (xs : List Int) (e : Int) : Prop := Sc.IsDec xs e ∧ Sc.nrm false xs e = ⟨false, xs, e⟩

instance (xs : List Int) (e : Int) : Decidable (Nml xs e) := by unfold Nml; infer_instance

theorem nrm_neg (neg : Bool) (xs : List Int) (e : Int) : (Sc.nrm neg xs e).neg = neg ∧ (Sc.nrm neg xs e).ds = (Sc.nrm false xs e).ds ∧ (Sc.nrm neg xs e).e = (Sc.nrm false xs e).e := by
  unfold Sc.nrm; split <;> exact ⟨rfl, rfl, rfl⟩

def TryTold (neg : Bool) (xs : List Int) (e : Int) (w : World) (r : Ending) (w' : World) : Prop :=
  ((¬ Nml xs e ∧ r = .returned (.tuple #[.int .u64 0, .bool false])) ∨ (Nml xs e ∧ ∃ x s, TellIs xs e x s ∧ 0 ≤ x ∧ x ≤ 9218868437227405312 ∧ r = .returned (.tuple #[.int .u64 (if s = true then Ie.sg neg x else x), .bool s]))) ∧ Below w.heap.size w w'

theorem TellIs.bd {xs : List Int} {e x : Int} {s : Bool} (h : TellIs xs e x s) : 0 ≤ x ∧ x ≤ 9218868437227405312 := by
  rcases h with ⟨_, ⟨_, _, _, _, h⟩ | ⟨_, h⟩⟩ | ⟨_, x1, s1, h1, ⟨_, rfl, _⟩ | ⟨_, x2, s2, _, ⟨_, _, rfl, _⟩ | ⟨_, rfl, _⟩⟩⟩
  · exact h.bd
  · exact h.stp.bd
  · decide
  · exact h1.stp.bd
  · decide

theorem eq_dec (a b : Bool) (s t : ByteArray) (e f : Int) (w : World) : (Op.equalIn 10000 28 (.agg #[.bool a, .string s, .int .i64 e]) (.agg #[.bool b, .string t, .int .i64 f])).run Tryz.prog w = .ok (a == b && (s.toList == t.toList) && e == f) w := by
  have u3 := Tryz.underlying3
  have a3 := Tryz.isAgg3
  have z3 := Tryz.sizeOf3
  have u4 := Tryz.underlying4
  have a4 := Tryz.isAgg4
  have z4 := Tryz.sizeOf4
  have u9 := Tryz.underlying9
  have a9 := Tryz.isAgg9
  have z9 := Tryz.sizeOf9
  have hS : Tryz.prog.underlying 28 = some (.struct (Tryz.prog.fieldsOf 28)) := by kernel_rfl
  rw [show (10000 : Nat) = 9999 + 1 from rfl, run_equalIn_struct w 9999 28 _ _ hS (by kernel_rfl)]
  simp only [Program.fieldsOf, Tryz.underlying28]
  go_simp
  by_cases h1 : a = b <;> by_cases h2 : s.toList = t.toList <;> by_cases h3 : e = f <;> simp [h1, h2, h3]

theorem isdec_dig {xs : List Int} {e : Int} (h : Sc.IsDec xs e) : Dig9 xs := fun x hx => by
  have := h.2.2.2.1 x hx
  exact Sc.dg_iff.1 this

theorem nml_eq {neg : Bool} {xs : List Int} {e : Int} {s t : ByteArray} (hs : Str s xs) (ht : Str t (nmd neg xs e).ds) (hd : Sc.IsDec xs e) :
    ((nmd neg xs e).neg == neg && (t.toList == s.toList) && (nmd neg xs e).e == e) = decide (Nml xs e) := by
  rw [ht.eq hs]
  have hm : nmd neg xs e = Sc.nrm neg xs e := by unfold nmd; rw [if_pos hd]
  rw [hm]
  obtain ⟨h1, h2, h3⟩ := nrm_neg neg xs e
  rw [h1, h2, h3, Bool.eq_iff_iff]
  have hk : Nml xs e ↔ (Sc.nrm false xs e).ds = xs ∧ (Sc.nrm false xs e).e = e := by
    unfold Nml
    constructor
    · rintro ⟨_, h⟩; rw [h]; exact ⟨rfl, rfl⟩
    · rintro ⟨g1, g2⟩
      refine ⟨hd, ?_⟩
      have g0 := (nrm_neg false xs e).1
      generalize Sc.nrm false xs e = D at *
      cases D
      simp only at g0 g1 g2
      rw [g0, g1, g2]
  simp [hk]

set_option maxRecDepth 100000 in
set_option maxHeartbeats 1000000 in
theorem try_any9 (neg : Bool) (s : ByteArray) (xs : List Int) (e : Int) (w : World) (hT : Tab w) (hX : Tens w) (hs : Str s xs) (hn : xs.length ≤ 281474976710655) :
    Calls Tryz.prog 284 #[decV neg s e] w fun r w' => TryTold neg xs e w r w' := by
  have NM := hid (fun wx => norm_any neg s xs e wx hs hn)
  have Z := hid (Row3.new w (.bool neg) (.string s) (.int .i64 e))
  have F0 : Hid (¬ Nml xs e → ∀ w', Below w.heap.size w w' → TryTold neg xs e w (.returned (.tuple #[.int .u64 0, .bool false])) w') := fun h w' b => ⟨.inl ⟨h, rfl⟩, b⟩
  have F1 : Hid (Nml xs e → ∀ x w', TellIs xs e x true → Below w.heap.size w w' → TryTold neg xs e w (.returned (.tuple #[.int .u64 (Ie.sg neg x), .bool true])) w') := fun h x w' k b => ⟨.inr ⟨h, x, true, k, k.bd.1, k.bd.2, rfl⟩, b⟩
  have F2 : Hid (Nml xs e → ∀ x w', TellIs xs e x false → Below w.heap.size w w' → TryTold neg xs e w (.returned (.tuple #[.int .u64 x, .bool false])) w') := fun h x w' k b => ⟨.inr ⟨h, x, false, k, k.bd.1, k.bd.2, rfl⟩, b⟩
  have TL : Hid (Nml xs e → ∀ wx, Below w.heap.size w wx → Calls Tryz.prog 285 #[.string s, .int .i64 e] wx fun r w' => TellTold xs e wx r w') := fun h wx b => tell_any9 s xs e wx (hT.below b) (hX.below b) hs (isdec_dig h.1) (by omega) h.1.2.1 h.1.2.2.1
  have NG := hid (fun (x : Int) (wx : World) (h0 : 0 ≤ x) (h1 : x < 18446744073709551616) => neg_any x wx h0 h1)
  have NE : Hid (∀ t, Str t (nmd neg xs e).ds → Sc.IsDec xs e → ∀ wx, (Op.equalIn 10000 28 (.agg #[.bool (nmd neg xs e).neg, .string t, .int .i64 (nmd neg xs e).e]) (.agg #[.bool neg, .string s, .int .i64 e])).run Tryz.prog wx = .ok (decide (Nml xs e)) wx) := fun t ht hd wx => by rw [eq_dec, nml_eq hs ht hd]
  unfold decV at NM ⊢
  clear hs hn hT hX
  go_enter Tryz.func284, Tryz.ntmps284
  go_wp2_with fail
  refine (NM.out _).mono ?_
  rintro r w1 ⟨v, rfl, ⟨t, rfl, ht⟩, hB⟩
  unfold decV
  have Z1 := hid (Z.out.below hB Z.out.lt)
  have B1 := hid (below_on (alloc_b w _) hB)
  by_cases hd : Sc.IsDec xs e
  · have E0 : errOf xs e = 0 := by unfold errOf; rw [if_pos hd]
    have EQ := NE.out t ht hd
    rw [E0]
    obtain ⟨b, hb⟩ : ∃ b, decide (Nml xs e) = b := ⟨_, rfl⟩
    rw [hb] at EQ
    obtain ⟨⟨c0, c1, c2⟩, _⟩ := Z1.out.cells
    have lt1 := Z1.out.lt
    have ne : w1.heap.size ≠ w.heap.size := by omega
    cases b with
    | false =>
      have F := hid (F0.out (of_decide_eq_false hb))
      clear hB ht hd E0 hb NM Z Z1 F0 F1 F2 TL NG NE
      generalize nmd neg xs e = N at *
      go_wp2_with fail
      go_ret2
      exact F.out _ (below_on B1.out (alloc_b _ _))
    | true =>
      have hnm := of_decide_eq_true hb
      have G1 := hid (F1.out hnm)
      have G2 := hid (F2.out hnm)
      have T1 := hid (TL.out hnm)
      have B2 := hid (below_on B1.out (alloc_b w1 (.cells #[.bool (nmd neg xs e).neg, .string t, .int .i64 (nmd neg xs e).e] 28)))
      have Z2 := hid (Z1.out.below (alloc_b w1 (.cells #[.bool (nmd neg xs e).neg, .string t, .int .i64 (nmd neg xs e).e] 28)) lt1)
      clear hB ht hd E0 hb hnm NM Z Z1 F0 F1 F2 TL NE B1
      generalize nmd neg xs e = N at *
      have b2 := B2.out
      go_upto_region 4 with fail
      generalize (w1.alloc (.cells #[.bool N.neg, .string t, .int .i64 N.e] 28)) = w2 at *
      clear c0 c1 c2
      obtain ⟨⟨c0, c1, c2⟩, _⟩ := Z2.out.cells
      go_wp2_with fail
      with_reducible refine (T1.out _ b2).mono ?_
      rintro r w3 ⟨x, sr, rfl, TI, hB3⟩
      have Z3 := hid (Z2.out.below hB3 Z2.out.lt)
      have B3 := hid (below_on b2 hB3)
      have xb := TI.bd
      clear b2 c0 c1 c2 hB3 EQ T1
      obtain ⟨⟨c0, c1, c2⟩, _⟩ := Z3.out.cells
      cases sr with
      | false =>
        have F := hid (G2.out x w3 TI B3.out)
        clear TI G1 G2 NG
        go_wp2_with fail
        go_ret2
        exact F.out
      | true =>
        have F := hid (G1.out x w3 TI B3.out)
        clear TI G1 G2
        cases neg with
        | false =>
          clear NG
          go_wp2_with fail
          go_ret2
          exact F.out
        | true =>
          have N1 := hid (NG.out x w3 xb.1 (by omega))
          rw [show Ie.ng x = Ie.sg true x by unfold Ie.ng Ie.sg; rw [if_pos (by omega), if_pos rfl]] at N1
          clear NG
          go_wp2_with fail
          with_reducible refine N1.out.mono ?_
          rintro r w4 ⟨rfl, rfl⟩
          go_wp2_with fail
          go_ret2
          exact F.out
  · have E0 : errOf xs e = 80 := by unfold errOf; rw [if_neg hd]
    have F := hid (F0.out (fun c => hd c.1))
    rw [E0]
    clear hB ht hd E0 NM Z Z1 F0 F1 F2 TL NG NE
    generalize nmd neg xs e = N at *
    go_wp2_with fail
    go_ret2
    exact F.out _ (below_on B1.out (alloc_b _ _))
end Go.Proofs.YtmdcilllcgaliaaGreatDoor

namespace Go.Proofs.YtmdcilllcgaliaaGreatDoor
open Go Go.RowKit Go.Deep

namespace Sh
theorem zD01 : zD 4591870180066957722 = ⟨false, [49], -1⟩ ∧ zR 4591870180066957722 = 0 := by
  have f : Ie.fnt 4591870180066957722 = true := by decide
  refine ⟨?_, by rw [zR, if_pos f]⟩
  rw [zD, if_pos f, show (4591870180066957722 : Int) % 9223372036854775808 = 4591870180066957722 by decide, dgt01, ddt01]
  rfl
theorem zD25 : zD 4612811918334230528 = ⟨false, [50, 53], -1⟩ ∧ zR 4612811918334230528 = 0 := by
  have f : Ie.fnt 4612811918334230528 = true := by decide
  refine ⟨?_, by rw [zR, if_pos f]⟩
  rw [zD, if_pos f, show (4612811918334230528 : Int) % 9223372036854775808 = 4612811918334230528 by decide, dgt25, dd25]
  rfl
theorem wD13 : wD 4599676419421066581 16 = ⟨false, threes, -16⟩ ∧ wB 4599676419421066581 16 = true := by
  rw [wD, wB, wn13]
  exact ⟨ddt13, rfl⟩
theorem hD01 : hD (dd (A 4591870180066957722)) (dd (B 4591870180066957722)) ⟨false, [49], -1⟩ (decide ((4591870180066957722 : Int) % 2 = 0)) = true := by
  have h := hD_in (a := 4591870180066957722) (U := 10 ^ 1074) (by decide) (Int.le_of_lt (Fx.p_pos 1074))
  rw [ddt01, in01] at h
  exact h
theorem nm01 : Nm ⟨false, [49], -1⟩ := by
  have h := bd_room (U := 10 ^ 1074) (Int.le_of_lt (Fx.p_pos 1074)) (by
    refine Int.lt_of_lt_of_le (b := 10 ^ 1075) ?_ (Fx.p_le (by omega))
    rw [Int.pow_succ 10 1074]
    have := Fx.p_pos 1074
    generalize (10 : Int) ^ 1074 = z at *
    omega)
  rw [ddt01] at h
  exact h
end Sh

set_option maxRecDepth 100000 in
theorem zlaid25 (w : World) : Calls Tryz.prog 37 #[.string ⟨#[50, 53]⟩, .int .i64 1] w fun e w' => e = .returned (.string ⟨#[50, 46, 53]⟩) ∧ Below w.heap.size w w' := by
  have e1 : (⟨#[50, 53]⟩ : ByteArray).size = 2 := rfl
  have e2 : (⟨#[50, 53]⟩ : ByteArray).extract 0 1 ++ ⟨#[46]⟩ ++ (⟨#[50, 53]⟩ : ByteArray).extract 1 2 = ⟨#[50, 46, 53]⟩ := by decide +kernel
  generalize (⟨#[50, 53]⟩ : ByteArray) = s at *
  go_enter Tryz.func37, Tryz.ntmps37
  go_upto_region 5 with fail
  go_quiet (fail)
  go_wp2_with fail
  go_ret
  exact ⟨rfl, below_drewN (Below.refl _ _) _⟩

set_option maxRecDepth 100000 in
theorem ztext25 (w : World) (htab : Tab10 w) : Calls Tryz.prog 12 #[.int .u64 4612811918334230528] w fun e w' => e = .returned (.string ⟨#[50, 46, 53]⟩) ∧ Below w.heap.size w w' := by
  have NG := hid (fun wx : World => znegative_any 4612811918334230528 wx (by decide) (by decide))
  rw [show Sh.ng 4612811918334230528 = false from by decide] at NG
  have CL := hid (fun wx : World => class_any 4612811918334230528 wx (by decide) (by decide))
  rw [show Ie.cls 4612811918334230528 = 2 from by decide] at CL
  have DG := hid (zdig_any 4612811918334230528 w (by decide) (by decide) htab)
  unfold DigTold at DG
  rw [Sh.zD25.1, Sh.zD25.2] at DG
  have LD := hid (fun wx : World => zlaid25 wx)
  clear htab
  go_enter Tryz.func12, Tryz.ntmps12
  go_wp2_with fail
  refine (NG.out _).mono ?_
  rintro e wz ⟨rfl, hz⟩
  subst hz
  go_wp2_with fail
  refine (CL.out _).mono ?_
  rintro e wz ⟨rfl, hz⟩
  subst hz
  go_wp2_with fail
  refine DG.out.mono ?_
  rintro e w1 ⟨t, rfl, ht, hB⟩
  have ht2 : t = ⟨#[50, 53]⟩ := ht.out.inj rfl
  subst ht2
  have e1 : (⟨#[50, 53]⟩ : ByteArray).size = 2 := rfl
  have HB := hid (hB.trans ((alloc_b w1 (.cells #[.bool false, .string ⟨#[50, 53]⟩, .int .i64 (-1)] 28)).mono hB.size))
  clear hB DG ht
  go_wp2_with fail
  refine (LD.out _).mono ?_
  rintro e w2 ⟨rfl, hB⟩
  have K := hid (HB.out.trans (hB.mono HB.out.size))
  clear hB HB
  go_wp2_with fail
  go_ret
  exact ⟨rfl, K.out⟩

set_option maxRecDepth 100000 in
set_option maxHeartbeats 2000000 in
theorem lawake_any (w : World) (htab : Tab10 w) : Calls Tryz.prog 10 #[] w fun e w' => e = .returned (.bool true) ∧ Below w.heap.size w w' := by
  have DG := hid (zdig_any 4591870180066957722 w (by decide) (by decide) htab)
  unfold DigTold at DG
  rw [Sh.zD01.1, Sh.zD01.2] at DG
  have WI : Hid (∀ wx : World, Tab10 wx → Calls Tryz.prog 24 #[.int .u64 4599676419421066581, .int .i64 16] wx fun e w' => ∃ t, e = .returned (.tuple #[.agg #[.bool false, .string t, .int .i64 (-16)], .bool true, .int .i64 0]) ∧ Hid (Str t Sh.threes) ∧ Below wx.heap.size wx w') := by
    intro wx hx
    have h := zwi_any 4599676419421066581 16 wx (by decide) (by decide) (by decide) (by decide) (by decide) hx
    unfold WiTold at h
    rw [show (4599676419421066581 : Int) % 9223372036854775808 = 4599676419421066581 by decide, Sh.wD13.1, Sh.wD13.2, show Sh.ng 4599676419421066581 = false from by decide] at h
    exact h
  have HO := hid (fun wx : World => zhold_pos 4591870180066957722 ⟨#[49]⟩ ⟨false, [49], -1⟩ wx (by decide) (by decide) rfl Sh.nm01 rfl (by decide))
  rw [Sh.hD01] at HO
  have TX := hid (fun (wx : World) (h : Tab10 wx) => ztext25 wx h)
  have Q1 : ∀ wx : World, (Op.equalIn 10000 28 (.agg #[.bool false, .string ⟨#[49]⟩, .int .i64 (-1)]) (.agg #[.bool false, .string ⟨#[49]⟩, .int .i64 (-1)])).run Tryz.prog wx = .ok true wx := fun wx => by rw [eq_dec]; simp
  have Q2 : ∀ wx : World, (Op.equalIn 10000 28 (.agg #[.bool false, .string ⟨#[51, 51, 51, 51, 51, 51, 51, 51, 51, 51, 51, 51, 51, 51, 51, 51]⟩, .int .i64 (-16)]) (.agg #[.bool false, .string ⟨#[51, 51, 51, 51, 51, 51, 51, 51, 51, 51, 51, 51, 51, 51, 51, 51]⟩, .int .i64 (-16)])).run Tryz.prog wx = .ok true wx := fun wx => by rw [eq_dec]; simp
  have TB := hid htab
  clear htab
  go_enter Tryz.func10, Tryz.ntmps10
  go_wp2_with fail
  refine DG.out.mono ?_
  rintro e w1 ⟨t, rfl, ht, hB⟩
  have ht2 : t = ⟨#[49]⟩ := ht.out.inj rfl
  subst ht2
  have HB := hid (hB.trans ((alloc_b w1 (.cells #[.bool false, .string ⟨#[49]⟩, .int .i64 (-1)] 28)).mono hB.size))
  have rX := FR3.new w1 (.bool false) (.string ⟨#[49]⟩) (.int .i64 (-1))
  have W1 := hid (WI.out _ (tab10_below TB.out HB.out))
  have RX := hid rX
  clear hB DG ht WI rX
  go_wp2_with fail
  refine W1.out.mono ?_
  rintro e w2 ⟨t, rfl, ht, hB⟩
  have ht2 : t = ⟨#[51, 51, 51, 51, 51, 51, 51, 51, 51, 51, 51, 51, 51, 51, 51, 51]⟩ := ht.out.inj rfl
  subst ht2
  have aY := alloc_b w2 (.cells #[.bool false, .string ⟨#[51, 51, 51, 51, 51, 51, 51, 51, 51, 51, 51, 51, 51, 51, 51, 51]⟩, .int .i64 (-16)] 28)
  have HB2 := hid (HB.out.trans ((hB.trans (aY.mono hB.size)).mono HB.out.size))
  have RX2 := (RX.out.below (hB.trans (aY.mono hB.size)) RX.out.lt)
  obtain ⟨⟨c0, c1, c2⟩, -⟩ := RX2.cells
  clear hB W1 ht HB aY RX RX2
  go_wp2_with fail
  refine (HO.out _).mono ?_
  rintro e w3 ⟨rfl, hB⟩
  have HB3 := hid (HB2.out.trans (hB.mono HB2.out.size))
  have T3 := hid (TX.out _ (tab10_below TB.out HB3.out))
  clear hB HO HB2 TX c0 c1 c2
  go_wp2_with fail
  refine T3.out.mono ?_
  rintro e w4 ⟨rfl, hB⟩
  have K := hid (HB3.out.trans (hB.mono HB3.out.size))
  clear hB T3 HB3
  go_wp2_with fail
  go_ret
  exact ⟨rfl, K.out⟩
end Go.Proofs.YtmdcilllcgaliaaGreatDoor

namespace Go.Proofs.YtmdcilllcgaliaaGreatDoor
open Go Go.RowKit Go.Deep

set_option maxRecDepth 100000 in
theorem lfinite_any (d : Int) (w : World) (h0 : 0 ≤ d) :
    Calls Tryz.prog 13 #[.int .u64 d] w fun e w' => e = .returned (.bool (decide (d % 9223372036854775808 < 9218868437227405312))) ∧ w' = w := by
  have E : d.tmod 9223372036854775808 = d % 9223372036854775808 := Int.tmod_eq_emod_of_nonneg h0
  go_enter Tryz.func13, Tryz.ntmps13
  go_wp2_with fail
  go_ret
  exact ⟨by first | rfl | rw [E], rfl⟩

/-- What law12's digits tells. -/
def LdTold (xs : List Int) (w : World) (e : Ending) (w' : World) : Prop := ∃ r : Bool, e = .returned (.bool r) ∧ (r = true → Fx.Nml xs) ∧ w' = w

set_option maxRecDepth 100000 in
set_option maxHeartbeats 2000000 in
theorem ldigits_any (s : ByteArray) (xs : List Int) (w : World) (hs : Str s xs) (hn : xs.length ≤ 281474976710656) :
    Calls Tryz.prog 17 #[.string s] w fun e w' => LdTold xs w e w' := by
  have HS := hid hs
  have HN := hid hn
  have hsz := hs.size
  have hnb : (xs.length : Int) ≤ 281474976710656 := by omega
  have NO : Hid (LdTold xs w (.returned (.bool false)) w) := ⟨false, rfl, fun h => absurd h (by decide), rfl⟩
  clear hs hn
  go_enter Tryz.func17, Tryz.ntmps17
  go_wp2_with fail
  go_loop [3] (fun c => ∃ j : Nat, c = .int .i64 j ∧ Hid (j ≤ xs.length ∧ ∀ i, i < j → 48 ≤ Sc.pk xs i ∧ Sc.pk xs i ≤ 57)) (fun c => match c with | .int _ j => xs.length - j.toNat | _ => 0)
  case atStart => exact ⟨0, rfl, Nat.zero_le _, fun i h => by omega⟩
  case round =>
    obtain ⟨j, rfl, I⟩ := hrel
    have hjl : j ≤ xs.length := I.out.1
    have hjb : (j : Int) ≤ 281474976710656 := by have := HN.out; omega
    have hx := HS.out.pk j
    by_cases hj : j < xs.length
    · have hji : (j : Int) < (xs.length : Int) := by omega
      by_cases hd : 48 ≤ Sc.pk xs j ∧ Sc.pk xs j ≤ 57
      · have d1 : ¬ Sc.pk xs j < 48 := by omega
        have d2 : ¬ 57 < Sc.pk xs j := by omega
        have I2 : Hid (j + 1 ≤ xs.length ∧ ∀ i, i < j + 1 → 48 ≤ Sc.pk xs i ∧ Sc.pk xs i ≤ 57) := by
          refine ⟨hj, fun i h => ?_⟩
          rcases (show i < j ∨ i = j by omega) with q | q
          · exact I.out.2 i q
          · rw [q]; exact hd
        clear hd I hjl
        generalize Sc.pk xs j = xj at *
        go_wp2_with fail
        go_round
        case rel => exact ⟨j + 1, by go_num, I2.out⟩
        case measure => simp; omega
      · clear I
        rcases (show Sc.pk xs j < 48 ∨ (¬ Sc.pk xs j < 48 ∧ 57 < Sc.pk xs j) by omega) with q | ⟨q1, q2⟩
        · clear hd
          generalize Sc.pk xs j = xj at *
          go_wp2_with fail
          go_ret
          exact NO.out
        · clear hd
          generalize Sc.pk xs j = xj at *
          go_wp2_with fail
          go_ret
          exact NO.out
    · have hje : j = xs.length := by omega
      have AL : Hid (∀ i, i < xs.length → 48 ≤ Sc.pk xs i ∧ Sc.pk xs i ≤ 57) := by rw [← hje]; exact I.out.2
      have hji : ¬ (j : Int) < (xs.length : Int) := by omega
      rcases Nat.eq_zero_or_pos xs.length with hz | hp
      · have hz' : ¬ (0 : Int) < (xs.length : Int) := by omega
        clear I hx hj hje
        go_wp2_with fail
        go_ret
        exact NO.out
      · have hp' : (0 : Int) < (xs.length : Int) := by omega
        obtain ⟨m, hm⟩ : ∃ m, xs.length = m + 1 := ⟨xs.length - 1, by omega⟩
        have hm1 : (xs.length : Int) - 1 = (m : Int) := by omega
        have hml : (m : Int) < (xs.length : Int) := by omega
        have y0 := HS.out.pk 0
        have ym := HS.out.pk m
        by_cases q0 : Sc.pk xs 0 = 48
        · have b0 : (Sc.pk xs 0 == 48) = true := by simpa using q0
          have b1 : (Sc.pk xs 0 != 48) = false := by simp [q0]
          clear I hx hj hje ym
          generalize Sc.pk xs 0 = x0 at *
          go_wp2_with fail
          go_ret
          exact NO.out
        · have b0 : (Sc.pk xs 0 == 48) = false := by simpa using q0
          have b1 : (Sc.pk xs 0 != 48) = true := by simpa using q0
          have YES : Hid (Sc.pk xs m ≠ 48 → LdTold xs w (.returned (.bool true)) w) := by
            intro qm
            refine ⟨true, rfl, fun _ => ⟨?_, ?_, q0, ?_⟩, rfl⟩
            · intro d hd
              obtain ⟨i, hi, rfl⟩ := List.getElem_of_mem hd
              have := AL.out i hi
              simpa [Sc.pk, List.getD, hi] using this
            · intro c; rw [c] at hp; simp at hp
            · rw [hm, Nat.add_sub_cancel]; exact qm
          by_cases qm : Sc.pk xs m = 48
          · have e0 : (Sc.pk xs m == 48) = true := by simpa using qm
            have e1 : (Sc.pk xs m != 48) = false := by simp [qm]
            clear I hx hj hje qm q0 YES
            generalize Sc.pk xs 0 = x0 at *
            generalize Sc.pk xs m = xm at *
            go_wp2_with fail
            go_ret
            exact NO.out
          · have e0 : (Sc.pk xs m == 48) = false := by simpa using qm
            have e1 : (Sc.pk xs m != 48) = true := by simpa using qm
            have K := hid (YES.out qm)
            clear I hx hj hje qm q0 YES
            generalize Sc.pk xs 0 = x0 at *
            generalize Sc.pk xs m = xm at *
            go_wp2_with fail
            go_ret
            exact K.out
end Go.Proofs.YtmdcilllcgaliaaGreatDoor

namespace Go.Proofs.YtmdcilllcgaliaaGreatDoor
open Go.RowKit Go.Deep
namespace Sh
theorem few {a c : Int} {m s : Nat} (ha : 0 < a) (hm : 1 ≤ m) (hcm : c < 10 ^ m) (hi : inB a (c * 10 ^ s) = true) : (wn a m).isSome = true := by
  rcases Nat.lt_or_ge m (ln (V a)) with hl | hl
  · obtain ⟨p1, p2, p3⟩ := place (V_pos ha)
    have kr := k_room ha hm hl
    have e0 := kr.2.2.2.1
    have q0 := kr.2.2.2.2
    rcases Nat.lt_or_ge s (pl (V a) - m + 1075).toNat with h | h
    · refine wn_of (k := 10 ^ (m - 1)) ha ?_
      have e1 : (10 : Int) ^ (m - 1) * st (V a) m = 10 ^ (pl (V a) + 1074).toNat := by
        rw [e0, ← Int.pow_add]; congr 1; omega
      rw [e1]
      refine inB_dn hi p1 ?_
      have h1 : c * 10 ^ s < 10 ^ m * 10 ^ s := Int.mul_lt_mul_of_pos_right hcm (Fx.p_pos s)
      rw [← Int.pow_add] at h1
      exact Int.le_trans (Int.le_of_lt h1) (Fx.p_le (by omega))
    · refine wn_of (k := c * 10 ^ (s - (pl (V a) - m + 1075).toNat)) ha ?_
      rw [e0, Int.mul_assoc, ← Int.pow_add, show s - (pl (V a) - m + 1075).toNat + (pl (V a) - m + 1075).toNat = s by omega]
      exact hi
  · unfold wn
    rw [if_pos hl]
    rfl
/-- Fewer figures than are told: none reads back. -/
theorem few_none {a c : Int} {m s : Nat} (ha : 0 < a) (hm : 1 ≤ m) (hcm : c < 10 ^ m) (hl : m < (dd (dgt a)).ds.length) : inB a (c * 10 ^ s) = false := by
  cases h : inB a (c * 10 ^ s) with
  | false => rfl
  | true =>
    exfalso
    have f := few ha hm hcm h
    have r := wn_room ha (by omega) (wn_dgt (Int.le_of_lt ha))
    have i := (n0_is a).2.1 (m - 1) (by omega)
    rw [show m - 1 + 1 = m by omega, f] at i
    exact absurd i (by decide)
theorem t324 : (2 : Int) ^ 1075 ≤ 10 ^ 324 := by decide +kernel
/-- What the nearest double tells of the bounds. -/
theorem near_in {a c : Int} {e : Int} (ha : 0 < a) (h1 : a < 9218868437227405312) (hc1 : c < 10 ^ 17) (h : Ie.Rnd (c * 10 ^ e.toNat) (10 ^ (-e).toNat) 0 false a) : -1075 ≤ e ∧ inB a (c * 10 ^ (e + 1075).toNat) = true := by
  have n := h 1075 0 (by decide)
  rw [Int.pow_zero, Int.mul_one] at n
  obtain ⟨_, n1, n2⟩ := n
  have n1 := n1 ha
  have n2 := n2 h1
  have qp := Fx.p_pos (-e).toNat
  have mp := Ie.md_nn (a - 1) (by omega)
  have lo : -1075 ≤ e := by
    rcases (show -1075 ≤ e ∨ e < -1075 by omega) with k | k
    · exact k
    · exfalso
      rw [show e.toNat = 0 by omega, Int.pow_zero, Int.mul_one] at n1
      have a1 : 1 * 10 ^ (-e).toNat ≤ Ie.md (a - 1) * 10 ^ (-e).toNat := Int.mul_le_mul_of_nonneg_right mp (Int.le_of_lt qp)
      have a2 : c * 2 ^ 1075 < 10 ^ 17 * 2 ^ 1075 := Int.mul_lt_mul_of_pos_right hc1 (Nm.two_pos _)
      have a3 : (10 : Int) ^ 17 * 2 ^ 1075 ≤ 10 ^ 17 * 10 ^ 324 := Int.mul_le_mul_of_nonneg_left t324 (Int.le_of_lt (Fx.p_pos 17))
      rw [← Int.pow_add] at a3
      have a4 : (10 : Int) ^ (17 + 324) ≤ 10 ^ (-e).toNat := Fx.p_le (by omega)
      have a5 : (10 : Int) ^ (-e).toNat ≤ c * 2 ^ 1075 := by rcases n1 with q | q <;> omega
      exact absurd (Int.lt_of_le_of_lt a5 a2) (Int.not_lt.2 (Int.le_trans a3 a4))
  refine ⟨lo, ?_⟩
  obtain ⟨U, hU⟩ : ∃ U, c * 10 ^ (e + 1075).toNat = U := ⟨_, rfl⟩
  have key : U * 10 ^ (-e).toNat = c * 10 ^ e.toNat * 2 ^ 1075 * T5 := by
    rw [← hU, Int.mul_assoc, ← Int.pow_add, show (e + 1075).toNat + (-e).toNat = e.toNat + 1075 by omega, Int.pow_add]
    unfold T5
    generalize 1075 = z
    rw [show (10 : Int) ^ z = 2 ^ z * 5 ^ z by rw [← Int.mul_pow]; rfl]
    generalize (2 : Int) ^ z = x1
    generalize (5 : Int) ^ z = x2
    generalize (10 : Int) ^ e.toNat = x3
    ac_rfl
  rw [hU]
  have tp := T5_pos
  have hA : A a = Ie.md (a - 1) * T5 := by rw [A, if_neg (by omega), B]
  have hB : B a = Ie.md a * T5 := rfl
  generalize c * 10 ^ e.toNat * 2 ^ 1075 = P at *
  generalize (10 : Int) ^ (-e).toNat = Q at *
  have f1 : Ie.md (a - 1) * Q < P → A a < U := by
    intro g
    have := Int.mul_lt_mul_of_pos_right g tp
    rw [← key] at this
    rw [hA]
    refine Int.lt_of_mul_lt_mul_right (a := Q) ?_ (Int.le_of_lt qp)
    rw [show Ie.md (a - 1) * T5 * Q = Ie.md (a - 1) * Q * T5 by rw [Int.mul_assoc, Int.mul_comm T5 Q, ← Int.mul_assoc]]
    exact this
  have f2 : P < Ie.md a * Q → U < B a := by
    intro g
    have := Int.mul_lt_mul_of_pos_right g tp
    rw [← key] at this
    rw [hB]
    refine Int.lt_of_mul_lt_mul_right (a := Q) ?_ (Int.le_of_lt qp)
    rw [show Ie.md a * T5 * Q = Ie.md a * Q * T5 by rw [Int.mul_assoc, Int.mul_comm T5 Q, ← Int.mul_assoc]]
    exact this
  have f3 : Ie.md (a - 1) * Q = P → A a = U := by
    intro g
    refine Int.eq_of_mul_eq_mul_right (a := Q) (by omega) ?_
    rw [key, hA, ← g, Int.mul_assoc, Int.mul_comm T5 Q, ← Int.mul_assoc]
  have f4 : P = Ie.md a * Q → U = B a := by
    intro g
    refine Int.eq_of_mul_eq_mul_right (a := Q) (by omega) ?_
    rw [key, hB, g, Int.mul_assoc, Int.mul_comm Q T5, ← Int.mul_assoc]
  have av := A_V ha
  have vb := @V_B a
  apply decide_eq_true
  rcases n1 with n1 | ⟨n1, n1'⟩ <;> rcases n2 with n2 | ⟨n2, n2'⟩
  · exact .inl ⟨f1 n1, f2 n2⟩
  · have := f1 n1; have := f4 n2; exact .inr ⟨by omega, by omega, by omega⟩
  · have g3 := f3 n1
    have g2 := f2 n2
    rcases n1' with q | q
    · exact .inr ⟨q, by omega, by omega⟩
    · exact absurd q (by decide)
  · have g3 := f3 n1
    have g4 := f4 n2
    exact .inr ⟨n2'.1, by omega, by omega⟩
end Sh
end Go.Proofs.YtmdcilllcgaliaaGreatDoor

namespace Go.Proofs.YtmdcilllcgaliaaGreatDoor
open Go.RowKit Go.Deep

theorem bytes_cells {s : ByteArray} {xs : List Int} (hs : Str s xs) (w : World) (cap : Nat) (fr : Nat × Nat) (i : Nat) (hi : i < xs.length) : (w.drew.alloc (.cells (bytesRow s cap) 5 fr)).cell? ⟨w.heap.size, i, none⟩ = some (.int .u8 (xs.getD i 0)) := by
  have h1 := World.cell?_alloc_mark w.drew (bytesRow s cap) 5 fr i
  have hi2 : i < s.data.size := by have := hs.size; have e : s.size = s.data.size := rfl; omega
  rw [show w.drew.heap.size = w.heap.size from rfl, bytesRow_at s cap i hi2] at h1
  rw [h1, ← hs.at i hi2]
  rfl

theorem tv_take_succ (B : Int) (ys : List Int) (j : Nat) (hj : j < ys.length) : Dn.tv B 0 (ys.take (j + 1)) = Dn.tv B 0 (ys.take j) * B + ys.getD j 0 := by
  rw [List.take_add_one, List.getElem?_eq_getElem hj, Dn.tv_append]
  simp [Dn.tv, List.getD, hj]

set_option maxRecDepth 100000 in
set_option maxHeartbeats 1000000 in
theorem limb_any (s : ByteArray) (xs : List Int) (n W : Nat) (B : Int) (w : World) (hs : Str s xs) (hn : xs.length = n) (hnW : n ≤ W) (hW : W ≤ 63) (h2 : 2 ≤ B) (h36 : B ≤ 36) (hBW : B ^ W < 18446744073709551616) (hd : ∀ i, i < xs.length → wv (xs.getD i 0) < B) :
    Calls Tryz.prog 277 #[.string s, .int .u64 B] w fun e w' => e = .returned (.int .u64 (Dn.tv B 0 (xs.map wv))) ∧ Below w.heap.size w w' := by
  have CV := run_bytes_of_string (P := Tryz.prog) w 9 41 5 s Tryz.underlying9 Tryz.underlying41 Tryz.underlying5
  have hsz : s.size = n := by rw [hs.size, hn]
  rw [hsz] at CV
  obtain ⟨cap, hcap⟩ : ∃ cap, grownCap w n 0 5 = cap := ⟨_, rfl⟩
  rw [hcap] at CV
  have CE := hid (fun i hi => bytes_cells hs w cap ((bytesRow s cap).size, (bytesRow s cap).size + 1) i hi)
  have BW : Below w.heap.size w (w.drew.alloc (.cells (bytesRow s cap) 5 ((bytesRow s cap).size, (bytesRow s cap).size + 1))) := (below_drewN (Below.refl _ _) 1).alloc (Nat.le_refl _) _
  obtain ⟨w1, hw1⟩ : ∃ w1, w.drew.alloc (.cells (bytesRow s cap) 5 ((bytesRow s cap).size, (bytesRow s cap).size + 1)) = w1 := ⟨_, rfl⟩
  rw [hw1] at CV CE BW
  have HS := hid hs
  have HN := hid hn
  have HD := hid hd
  have D1 := hid BW
  have HB : ShutG (B ^ W < 18446744073709551616) := ⟨hBW⟩
  clear hs hn hd BW hw1 hcap hBW
  go_enter Tryz.func277, Tryz.ntmps277
  go_wp2_with fail
  go_loop [5, 7, 11] (fun a _ c => ∃ (j : Nat) (A : Int), a = .int .u64 A ∧ c = .int .i64 (j : Int) ∧ j ≤ n ∧ Hid (A = Dn.tv B 0 ((xs.map wv).take j))) (fun _ _ c => n - (intOf c).toNat)
  case atStart => exact ⟨0, 0, rfl, rfl, Nat.zero_le _, by simp [Hid, Dn.tv]⟩
  case round =>
    obtain ⟨j, A, rfl, rfl, hj, I⟩ := hrel
    have hn63 : (n : Int) ≤ 63 := by omega
    by_cases hlt : j < n
    · have hji : (j : Int) < (n : Int) := by omega
      obtain ⟨x, hx, X⟩ : ∃ x, w1.cell? ⟨w.heap.size, j, none⟩ = some (.int .u8 x) ∧ Hid (x = xs.getD j 0) := ⟨_, CE.out j (by have := HN.out; omega), rfl⟩
      have hxb := HS.out.atb j
      rw [← X.out] at hxb
      obtain ⟨v, V⟩ : ∃ v, Hid (wv x = v) := ⟨_, rfl⟩
      have WO := hid (worth_any x w1 hxb.1 hxb.2)
      rw [V.out] at WO
      have hv0 : 0 ≤ v := by have := (wv_bd x).1; have := V.out; omega
      have ST := tv_take_succ B (xs.map wv) j (by have := HN.out; simp; omega)
      have e0 : (xs.map wv).getD j 0 = v := by
        rw [← V.out, X.out]
        have : j < xs.length := by have := HN.out; omega
        simp [List.getD, this]
      rw [e0, ← I.out] at ST
      have dig : ∀ d ∈ (xs.map wv), 0 ≤ d ∧ d < B := by
        intro d hd
        obtain ⟨y, hy, rfl⟩ := List.mem_map.1 hd
        obtain ⟨i, hi, rfl⟩ := List.getElem_of_mem hy
        have := HD.out i hi
        simp only [List.getD, List.getElem?_eq_getElem hi, Option.getD_some] at this
        exact ⟨(wv_bd _).1, this⟩
      have hA0 : 0 ≤ A := by rw [I.out]; exact Dn.tv_nonneg (by omega) 0 _ (by omega) (fun d hd => (dig d (List.mem_of_mem_take hd)).1)
      have hlt2 : A * B + v < 18446744073709551616 := by
        rw [← ST]
        have h1 := Dn.tv_lt (show 0 < B by omega) ((xs.map wv).take (j + 1)) (fun d hd => dig d (List.mem_of_mem_take hd))
        have h3 := Pn.pow_mono (show 1 ≤ B by omega) (show ((xs.map wv).take (j + 1)).length ≤ W by simp; omega)
        have h4 := HB.out
        omega
      have hC0 : 0 ≤ A * B := Int.mul_nonneg hA0 (by omega)
      obtain ⟨C, HC⟩ : ∃ C, Hid (A * B = C) := ⟨_, rfl⟩
      rw [HC.out] at hlt2 hC0 ST
      have q1 : IntKind.u64.wrap (A * B) = C := by rw [HC.out, IntKind.wrap_u64]; omega
      have I2 := hid ST.symm
      clear I ST dig e0 hxb
      go_wp2_with fail
      refine WO.out.mono ?_
      rintro e w' ⟨rfl, rfl⟩
      clear WO
      go_wp2_with fail
      go_round
      case rel => exact ⟨j + 1, C + v, rfl, by go_num, by omega, I2.out⟩
      case measure => simp [intOf]; omega
    · obtain rfl : j = n := by omega
      have F : Hid (A = Dn.tv B 0 (xs.map wv)) := by
        have := I.out
        rw [List.take_of_length_le (by have := HN.out; simp; omega)] at this
        exact this
      clear I
      go_wp2_with fail
      go_ret
      exact ⟨by rw [← F.out]; rfl, D1.out⟩
end Go.Proofs.YtmdcilllcgaliaaGreatDoor



namespace Go.Proofs.YtmdcilllcgaliaaGreatDoor
open Go.RowKit Go.Deep

/-- The limbs of one round. -/
theorem ma_step {x m c p l h s k : Int} (hp : l + 18446744073709551616 * h = p) (hl : 0 ≤ l ∧ l < 18446744073709551616) (hh : 0 ≤ h) (hx : 0 ≤ x ∧ x < 18446744073709551616) (hm : 0 ≤ m ∧ m < 18446744073709551616) (hxm : p = x * m)
    (hc : 0 ≤ c ∧ c < 18446744073709551616) (e1 : s = (l + c + 0) % 18446744073709551616) (e2 : k = (l + c + 0) / 18446744073709551616) :
    (0 ≤ s ∧ s < 18446744073709551616) ∧ (0 ≤ h + k ∧ h + k < 18446744073709551616) ∧ s + 18446744073709551616 * (h + k) = x * m + c := by
  have hb : x * m ≤ 18446744073709551615 * 18446744073709551615 := Int.mul_le_mul (by omega) (by omega) (by omega) (by omega)
  rw [← hxm] at hb ⊢
  clear hxm
  omega

set_option maxRecDepth 100000 in
set_option maxHeartbeats 1000000 in
/-- The loop of MulAdd, whatever the size of the answer. -/
theorem mulAdd_any (p : Option Addr) (n cap : Nat) (zs : List Int) (m c : Int) (w : World) (ha : Arg w p n cap zs) (tz : Nm.tsize zs ≤ 4096) (hm0 : 0 ≤ m) (hm1 : m < 18446744073709551616) (hc0 : 0 ≤ c) (hc1 : c < 18446744073709551616) :
    Calls Tryz.prog 276 #[.slice p n cap, .int .u64 m, .int .u64 c] w fun e w' =>
      (Nm.val zs * m + c < Nm.pw 4096 → ∃ r os, e = .returned (.tuple #[.slice r (List.length os) (List.length os), .int .i64 0]) ∧ Ans w.heap.size w' r os (Nm.val zs * m + c)) ∧
      (Nm.pw 4096 ≤ Nm.val zs * m + c → e = .returned (.tuple #[.slice none 0 0, .int .i64 2])) ∧ Below w.heap.size w w' := by
  obtain ⟨a1, a2, a3, a4, a5⟩ := ha
  obtain ⟨N, HN⟩ : ∃ N, Hid (Nm.tsize zs = N) := ⟨_, rfl⟩
  have T1 := limited_ok p n cap zs w a1 a2 (by omega) a4 tz
  rw [HN.out] at T1
  have hN : N ≤ 4096 := by rw [← HN.out]; exact tz
  have L1 := hid ((Nm.trim_length zs).trans HN.out)
  have hmk := make64 (N + 1) (by omega) w
  have em : ((N + 1 : Nat) : Int) = (N : Int) + 1 := by omega
  rw [em] at hmk
  clear em
  have ho : Own (w.alloc (.cells (madeCells #[.int .u64 0] (N + 1)) 25)) w.heap.size (List.replicate (N + 1) 0) := by
    rw [made_zero]; exact Own.alloc w _
  have hb0 : Below w.heap.size w (w.alloc (.cells (madeCells #[.int .u64 0] (N + 1)) 25)) := (Below.refl _ _).alloc (Nat.le_refl _) _
  obtain ⟨W0, hW0⟩ : ∃ W0, w.alloc (.cells (madeCells #[.int .u64 0] (N + 1)) 25) = W0 := ⟨_, rfl⟩
  have HB0 : Hid (Below w.heap.size w W0) := by rw [← hW0]; exact hb0
  have I0 : MaInv w.heap.size (N + 1) W0 (Nm.val ((Nm.trim zs).take 0) * m + c) 0 c (List.replicate (N + 1) 0) W0 := by
    rw [← hW0]
    exact ⟨⟨ho, by simp, Nm.Limbs.replicate _, by simp [Nm.val_replicate, Nm.val, Nm.pw], Below.refl _ _, rfl⟩, ⟨hc0, hc1⟩, fun i _ => getD_replicate _ _⟩
  have A5 := hid a5.trim
  have A4 := hid a4.trim
  have V := hid (Nm.val_trim zs)
  have HT := hid T1
  clear T1 tz ho hb0 a4 a5
  rw [hW0] at hmk
  clear hW0
  have fin : ∀ (os : List Int) (cc : Int) (wr : World), MaInv w.heap.size (N + 1) W0 (Nm.val (Nm.trim zs) * m + c) N cc os wr → Own (wr.setCell ⟨w.heap.size, N, none⟩ (.int .u64 cc)) w.heap.size (os.set N cc) ∧ (os.set N cc).length = N + 1 ∧ Nm.Limbs (os.set N cc) ∧ Nm.val (os.set N cc) = Nm.val zs * m + c ∧ Below w.heap.size w (wr.setCell ⟨w.heap.size, N, none⟩ (.int .u64 cc)) := by
    intro os cc wr I
    obtain ⟨⟨i1, i2, i3, i4, i5, i6⟩, i7, i8⟩ := I
    refine ⟨i1.set _ _, by simpa using i2, i3.set _ i7.1 i7.2, ?_, HB0.out.trans (i5.setCell (Nat.le_refl _) _)⟩
    rw [Nm.val_set _ _ _ (by omega), i8 N (Nat.le_refl _), Int.sub_zero, i4, V.out]
  have FIN := hid fin
  clear fin
  by_cases h0 : N = 0
  · subst h0
    have hx : Nm.trim zs = [] := List.eq_nil_of_length_eq_zero L1.out
    rw [show (Nm.trim zs).take 0 = Nm.trim zs by rw [hx]; rfl] at I0
    have F := FIN.out _ _ _ I0
    obtain ⟨y, hy⟩ : ∃ y, W0.cell? ⟨w.heap.size, 0, none⟩ = some (.int .u64 y) := ⟨_, I0.1.1.cell 0 (by simp)⟩
    have hfr := I0.1.1.free 0
    have HF := hid F
    clear F I0 hx
    have hmk1 : (Instr.makeSlice 103 (.int .i64 1) (.int .i64 1)).run Tryz.prog w = .ok (.slice (some ⟨w.heap.size, 0, none⟩) 1 1) W0 := hmk
    clear hmk
    go_enter Tryz.func276, Tryz.ntmps276
    go_wp2_with fail
    refine HT.out.mono ?_
    rintro e w' ⟨rfl, rfl⟩
    go_wp2_with fail
    refine wp_loop_rounds 1 ?_
    rw [rounds_succ]
    go_wp2_with fail
    obtain ⟨f1, f2, f3, f4, f5⟩ := HF.out
    by_cases hbig : Nm.val zs * m + c < Nm.pw 4096
    · refine (limited_own w'.heap.size (0 + 1) _ _ f2 (by omega) f1 f3 w'.heap.size (Nat.le_refl _) (by rw [f4]; exact hbig)).mono ?_
      rintro e w3 ⟨r, xs, rfl, hans, rfl⟩
      rw [f4] at hans
      have HA := hid hans
      have HB := hid hbig
      clear hans f1 f2 f3 f4 f5 hbig
      go_wp2_with fail
      go_ret2
      exact ⟨fun _ => ⟨r, xs, rfl, HA.out⟩, fun h => by have := HB.out; omega, HF.out.2.2.2.2⟩
    · refine (limited_own_big w'.heap.size (0 + 1) _ _ f2 (by omega) f1 f3 (by rw [f4]; omega)).mono ?_
      rintro e w3 ⟨rfl, rfl⟩
      have HB := hid hbig
      clear f1 f2 f3 f4 f5 hbig
      go_wp2_with fail
      go_ret2
      exact ⟨fun h => by have := HB.out; omega, fun _ => rfl, HF.out.2.2.2.2⟩
  · obtain ⟨b, off, rfl, hbw, HC⟩ := A4.out.at (by rw [L1.out]; omega)
    go_enter Tryz.func276, Tryz.ntmps276
    go_wp2_with fail
    refine HT.out.mono ?_
    rintro e w' ⟨rfl, rfl⟩
    go_wp2_with fail
    go_loopw [10, 31] (fun a i wr => ∃ (j : Nat) (cc : Int) (os : List Int), j ≤ N ∧ i = .int .i64 j ∧ a = .int .u64 cc ∧ MaInv w'.heap.size (N + 1) W0 (Nm.val ((Nm.trim zs).take j) * m + c) j cc os wr) (fun _ i _ => N - (intOf i).toNat)
    case atStart => exact ⟨0, c, _, Nat.zero_le _, rfl, rfl, I0⟩
    case round =>
      clear I0 hmk
      obtain ⟨j, cc, os, hj, rfl, rfl, I⟩ := hrel
      by_cases hlt : j < N
      · obtain ⟨x, hx, X⟩ : ∃ x, wr.cell? ⟨b, off + j, none⟩ = some (.int .u64 x) ∧ Hid (x = (Nm.trim zs).getD j 0) :=
          ⟨_, ((HB0.out.trans I.1.2.2.2.2.1).cell (p := ⟨b, off + j, none⟩) hbw).trans (HC.out j (by rw [L1.out]; exact hlt)), rfl⟩
        have hx0 := A5.out.at j
        rw [← X.out] at hx0
        obtain ⟨hx0, hx1⟩ := hx0
        obtain ⟨y, hyc⟩ : ∃ y, wr.cell? ⟨w'.heap.size, j, none⟩ = some (.int .u64 y) := ⟨_, I.1.1.cell j (by have := I.1.2.1; omega)⟩
        have hfr := I.1.1.free j
        obtain ⟨hcc0, hcc1⟩ := I.2.1
        go_wp2_with fail
        refine (mul64 x m hx0 hx1 hm0 hm1 _).mono ?_
        rintro e w2 ⟨h, l, rfl, ⟨hh0, hh1, hl0, hl1⟩, P1, _, rfl⟩
        obtain ⟨s1, S1⟩ : ∃ s, Hid (s = (l + cc + 0) % 18446744073709551616) := ⟨_, rfl⟩
        obtain ⟨k1, K1⟩ : ∃ c, Hid (c = (l + cc + 0) / 18446744073709551616) := ⟨_, rfl⟩
        have ST := hid (ma_step P1.out ⟨hl0, hl1⟩ hh0 ⟨hx0, hx1⟩ ⟨hm0, hm1⟩ rfl ⟨hcc0, hcc1⟩ S1.out K1.out)
        have hk1 : 0 ≤ k1 := by have := K1.out; omega
        have hkk : h + k1 < 18446744073709551616 := ST.out.2.1.2
        go_wp2_with (simp only [add64' l cc 0 s1 k1 hl0 hcc0 (Int.le_refl 0) (by decide) S1.out K1.out])
        go_roundw
        case rel =>
          have hst := I.step (by omega) (x := x * m) (s := s1) (c' := h + k1) ST.out.1 ST.out.2.1 ST.out.2.2
          refine ⟨j + 1, h + k1, os.set j s1, by omega, by go_num, rfl, ?_⟩
          have e : Nm.val ((Nm.trim zs).take (j + 1)) * m + c = Nm.val ((Nm.trim zs).take j) * m + c + Nm.pw j * (x * m) := by
            rw [Nm.val_take_succ _ j (by rw [L1.out]; exact hlt), ← X.out, Int.add_mul, Int.mul_assoc]
            omega
          rw [e]
          exact hst
        case measure => simp [intOf]; omega
      · have hjN : j = N := by omega
        subst hjN
        rw [List.take_of_length_le (by rw [L1.out]; omega)] at I
        have F := FIN.out _ _ _ I
        obtain ⟨y, hy⟩ : ∃ y, wr.cell? ⟨w'.heap.size, j, none⟩ = some (.int .u64 y) := ⟨_, I.1.1.cell j (by have := I.1.2.1; omega)⟩
        have hfr := I.1.1.free j
        have HF := hid F
        clear F I
        go_wp2_with fail
        obtain ⟨f1, f2, f3, f4, f5⟩ := HF.out
        by_cases hbig : Nm.val zs * m + c < Nm.pw 4096
        · refine (limited_own w'.heap.size (j + 1) _ _ f2 (by omega) f1 f3 w'.heap.size (Nat.le_refl _) (by rw [f4]; exact hbig)).mono ?_
          rintro e w3 ⟨r, xs, rfl, hans, rfl⟩
          rw [f4] at hans
          have HA := hid hans
          have HB := hid hbig
          clear hans f1 f2 f3 f4 f5 hbig
          go_wp2_with fail
          go_ret2
          exact ⟨fun _ => ⟨r, xs, rfl, HA.out⟩, fun h => by have := HB.out; omega, HF.out.2.2.2.2⟩
        · refine (limited_own_big w'.heap.size (j + 1) _ _ f2 (by omega) f1 f3 (by rw [f4]; omega)).mono ?_
          rintro e w3 ⟨rfl, rfl⟩
          have HB := hid hbig
          clear f1 f2 f3 f4 f5 hbig
          go_wp2_with fail
          go_ret2
          exact ⟨fun h => by have := HB.out; omega, fun _ => rfl, HF.out.2.2.2.2⟩

/-- Of an operand that is too big. -/
theorem mulAdd_big (p : Option Addr) (n cap : Nat) (zs : List Int) (m c : Int) (w : World) (ha : Arg w p n cap zs) (tz : 4096 < Nm.tsize zs) :
    Calls Tryz.prog 276 #[.slice p n cap, .int .u64 m, .int .u64 c] w fun e w' => e = .returned (.tuple #[.slice none 0 0, .int .i64 2]) ∧ w' = w := by
  obtain ⟨a1, a2, a3, a4, a5⟩ := ha
  have HT := hid (limited_big p n cap zs w a1 a2 (by omega) a4 tz)
  go_enter Tryz.func276, Tryz.ntmps276
  go_wp2_with fail
  refine HT.out.mono ?_
  rintro e w' ⟨rfl, rfl⟩
  go_wp2_with fail
  go_ret2
  exact ⟨rfl, rfl⟩
end Go.Proofs.YtmdcilllcgaliaaGreatDoor

namespace Go.Proofs.YtmdcilllcgaliaaGreatDoor
open Go.RowKit Go.Deep

/-- The k-th group lies from at on, up to en. -/
structure Grp (r W k at_ en : Nat) : Prop where
  e : en = r + k * W
  z : k = 0 → at_ = 0
  s : ∀ q, k = q + 1 → at_ = r + q * W

theorem Grp.next {r W k a b : Nat} (h : Grp r W k a b) : Grp r W (k + 1) b (b + W) :=
  ⟨by rw [h.e, Nat.add_mul]; omega, fun c => by omega, fun q hq => by obtain rfl : q = k := by omega
                                                                      exact h.e⟩

theorem Grp.le {r W k a b : Nat} (h : Grp r W k a b) (hr : r ≤ W) : a ≤ b ∧ b - a ≤ W ∧ (0 < k → b = a + W) := by
  cases k with
  | zero => have := h.z rfl; have := h.e; omega
  | succ q =>
    have h1 := h.s q rfl
    have h2 := h.e
    rw [Nat.add_mul] at h2
    omega

theorem Grp.in {r W k a b Q m : Nat} (h : Grp r W k a b) (hm : m = r + Q * W) (ha : a < m) : k ≤ Q ∧ b ≤ m := by
  have hk : k ≤ Q := by
    cases k with
    | zero => omega
    | succ q =>
      have h1 := h.s q rfl
      have : q * W < Q * W := by omega
      have := Nat.lt_of_mul_lt_mul_right this
      omega
  refine ⟨hk, ?_⟩
  have := Nat.mul_le_mul_right W hk
  have := h.e
  omega

theorem tv_group (B : Int) (ys : List Int) (a b : Nat) (hab : a ≤ b) : Dn.tv B 0 (ys.take b) = Dn.tv B 0 (ys.take a) * B ^ ((ys.drop a).take (b - a)).length + Dn.tv B 0 ((ys.drop a).take (b - a)) := by
  have e : ys.take b = ys.take a ++ (ys.drop a).take (b - a) := by
    rw [show b = a + (b - a) by omega, List.take_add]
    simp
  rw [e, Dn.tv_append, Dn.tv_acc]

theorem tv_grows {B : Int} (hB : 1 ≤ B) (ys : List Int) (hd : ∀ d ∈ ys, 0 ≤ d) (k : Nat) : Dn.tv B 0 (ys.take k) ≤ Dn.tv B 0 ys := by
  have e : Dn.tv B 0 ys = Dn.tv B 0 (ys.take k) * B ^ (ys.drop k).length + Dn.tv B 0 (ys.drop k) := by
    conv => lhs; rw [← List.take_append_drop k ys]
    rw [Dn.tv_append, Dn.tv_acc]
  have h0 := Dn.tv_nonneg (B := B) (by omega) 0 (ys.take k) (Int.le_refl _) (fun d h => hd d (List.mem_of_mem_take h))
  have h1 := Dn.tv_nonneg (B := B) (by omega) 0 (ys.drop k) (Int.le_refl _) (fun d h => hd d (List.mem_of_mem_drop h))
  have h2 : 1 ≤ B ^ (ys.drop k).length := by have : 0 < B ^ (ys.drop k).length := Int.pow_pos (by omega); omega
  have h3 := Int.mul_le_mul_of_nonneg_left h2 h0
  rw [Int.mul_one] at h3
  omega

theorem tv_zeros (B : Int) : ∀ (j : Nat) (ys : List Int), j ≤ ys.length → (∀ i, i < j → ys.getD i 0 = 0) → Dn.tv B 0 (ys.drop j) = Dn.tv B 0 ys
  | 0, ys, _, _ => by simp
  | j + 1, [], h, _ => by simp at h
  | j + 1, y :: ys, h, hz => by
    have h0 := hz 0 (by omega)
    simp at h0
    subst h0
    have ih := tv_zeros B j ys (by simpa using h) (fun i hi => by have := hz (i + 1) (by omega); simpa using this)
    simpa [Dn.tv] using ih

theorem getD_map_wv (xs : List Int) (i : Nat) (hi : i < xs.length) : (xs.map wv).getD i 0 = wv (xs.getD i 0) := by simp [List.getD, hi]

theorem digs_mem {xs : List Int} {B : Int} (hd : ∀ i, i < xs.length → wv (xs.getD i 0) < B) : ∀ d ∈ xs.map wv, 0 ≤ d ∧ d < B := by
  intro d hm
  obtain ⟨y, hy, rfl⟩ := List.mem_map.1 hm
  obtain ⟨i, hi, rfl⟩ := List.getElem_of_mem hy
  have := hd i hi
  simp only [List.getD, List.getElem?_eq_getElem hi, Option.getD_some] at this
  exact ⟨(wv_bd _).1, this⟩

set_option maxRecDepth 100000 in
set_option maxHeartbeats 4000000 in
theorem natural_any (s : ByteArray) (xs : List Int) (B : Int) (w : World) (hs : Str s xs) (hn : xs.length ≤ 140737488355328) (h2 : 2 ≤ B) (h36 : B ≤ 36) (hd : ∀ i, i < xs.length → wv (xs.getD i 0) < B) :
    Calls Tryz.prog 270 #[.string s, .int .u64 B] w fun e w' => Gives (Dn.tv B 0 (xs.map wv)) w e w' := by
  have ST := hid (strim_any s xs w hs (by omega))
  have GR := hid (group_any B w h2 h36)
  have HD := hid hd
  have HN := hid hn
  obtain ⟨T, HT0⟩ : ∃ T, ShutG (Dn.tv B 0 (xs.map wv) = T) := ⟨_, ⟨rfl⟩⟩
  rw [HT0.out]
  clear hs hd hn
  go_enter Tryz.func270, Tryz.ntmps270
  go_wp2_with fail
  refine ST.out.mono ?_
  rintro e w' ⟨⟨s', j, rfl, BA, -⟩, rfl⟩
  obtain ⟨ys, hys⟩ : ∃ ys, xs.drop j = ys := ⟨_, rfl⟩
  have SY : Hid (Str s' ys) := by rw [← hys]; exact BA.1
  have TV : Hid (Dn.tv B 0 (xs.map wv) = Dn.tv B 0 (ys.map wv)) := by
    show _ = _
    rw [← hys, List.map_drop, tv_zeros B j (xs.map wv) (by simpa using BA.2.1) (fun i hi => by
      rw [getD_map_wv xs i (by have := BA.2.1; omega), BA.2.2 i hi]
      rfl)]
  have DY : Hid (∀ i, i < ys.length → wv (ys.getD i 0) < B) := by
    intro i hi
    rw [← hys] at hi ⊢
    have := HD.out (j + i) (by simp at hi; omega)
    simpa [List.getD] using this
  obtain ⟨m, HM⟩ : ∃ m, Hid (ys.length = m) := ⟨_, rfl⟩
  have hm47 : (m : Int) ≤ 140737488355328 := by have := HM.out; rw [← hys] at this; have := HN.out; simp at *; omega
  have hsz : s'.size = m := by rw [SY.out.size, HM.out]
  have HT : ShutG (Dn.tv B 0 (ys.map wv) = T) := ⟨TV.out.symm.trans HT0.out⟩
  clear HT0 ST BA hys TV HD HN
  go_wp2_with fail
  refine GR.out.mono ?_
  rintro e w' ⟨⟨W, P, rfl, hP, hW1, hW63, hPl⟩, rfl⟩
  have HP := hid hP
  have HPL := hid hPl
  have hP0 : 0 ≤ P := by rw [hP]; exact Int.le_of_lt (Int.pow_pos (by omega))
  obtain ⟨r, HR⟩ : ∃ r, Hid (m % W = r) := ⟨_, rfl⟩
  obtain ⟨Q, HQ⟩ : ∃ Q, Hid (m / W = Q) := ⟨_, rfl⟩
  have MQ : Hid (m = r + Q * W) := by show _ = _; rw [← HR.out, ← HQ.out]; have := Nat.mod_add_div m W; rw [Nat.mul_comm] at this; omega
  have hrW : Hid (r < W) := by show _ < _; rw [← HR.out]; exact Nat.mod_lt _ (by omega)
  have q1 : (m : Int) % (W : Int) = (r : Int) := by rw [← HR.out]; simp
  have q2 : (m : Int).tmod (W : Int) = (r : Int) := by rw [Int.tmod_eq_emod_of_nonneg (by omega)]; exact q1
  have hW0 : ((W : Int) == 0) = false := by rw [beq_eq_false_iff_ne]; omega
  have hWi : (W : Int) ≤ 63 := by omega
  clear GR hP hPl
  go_upto_region 4 with fail
  go_cut [9, 10] from 19 to 22 (fun a b wx => a = .int .i64 0 ∧ b = .int .i64 (r : Int) ∧ Hid (Below w'.heap.size w' wx))
  case first =>
    go_region
    all_goals (go_wp2_with fail; go_meet; exact ⟨rfl, rfl, below_drewN (Below.refl _ _) _⟩)
  case rest =>
    clear q1 q2 HR HQ
    obtain ⟨rfl, rfl, D0⟩ := hcut
    have G0 : Hid (Grp r W 0 0 r) := ⟨by omega, fun _ => rfl, fun q h => by omega⟩
    have A0 : Hid (Ans w'.heap.size wc none [] (Dn.tv B 0 ((ys.map wv).take 0))) := ⟨Lies.nil _ _, Nm.Limbs.nil, rfl, rfl, fun a h => by cases h⟩
    go_wp2_with fail
    go_loopg [8, 9, 10, 11] (Q + 1) (fun x o a b _ wr => ∃ (k at_ en : Nat) (q : Option Addr) (os : List Int), o = .slice q (List.length os) (List.length os) ∧ a = .int .i64 (at_ : Int) ∧ b = .int .i64 (en : Int) ∧ Hid (x + k = Q + 1 ∧ Grp r W k at_ en ∧ at_ ≤ m) ∧ Hid (Ans w'.heap.size wr q os (Dn.tv B 0 ((ys.map wv).take at_)) ∧ Below w'.heap.size w' wr) ∧ ShutG (Dn.tv B 0 ((ys.map wv).take at_) < Nm.pw 4096))
    case atStart => exact ⟨0, 0, r, none, [], rfl, rfl, rfl, ⟨by omega, G0.out, Nat.zero_le _⟩, ⟨A0.out, D0.out⟩, ⟨by simp only [List.take_zero, Dn.tv]; exact Nm.pw_pos 4096⟩⟩
    case round =>
      clear A0 D0 G0
      obtain ⟨k, at_, en, q, os, rfl, rfl, rfl, GK, I, SM⟩ := hrel
      by_cases hlt : at_ < m
      · have hli : (at_ : Int) < (m : Int) := by omega
        have GI := GK.out.2.1.in MQ.out hlt
        have GL := GK.out.2.1.le (Nat.le_of_lt hrW.out)
        have hae : (at_ : Int) ≤ (en : Int) := by omega
        have hem : (en : Int) ≤ (m : Int) := by omega
        obtain ⟨zs, hzs⟩ : ∃ zs, (ys.drop at_).take (en - at_) = zs := ⟨_, rfl⟩
        have SZ : Str (s'.extract at_ en) zs := by rw [← hzs]; exact SY.out.extract at_ en
        have hzl : zs.length = en - at_ := by rw [← hzs]; have := HM.out; simp; omega
        have hzd : ∀ i, i < zs.length → wv (zs.getD i 0) < B := by
          intro i hi
          have := DY.out (at_ + i) (by have := HM.out; omega)
          rw [← hzs]
          simpa [List.getD, List.getElem?_take, show i < en - at_ by omega] using this
        have LB := hid (limb_any (s'.extract at_ en) zs zs.length W B wr SZ rfl (by omega) hW63 h2 h36 (by rw [← HP.out]; exact HPL.out) hzd)
        obtain ⟨v, HVv⟩ : ∃ v, Hid (Dn.tv B 0 (zs.map wv) = v) := ⟨_, rfl⟩
        rw [HVv.out] at LB
        have zdm := digs_mem hzd
        have hv0 : 0 ≤ v := by rw [← HVv.out]; exact Dn.tv_nonneg (by omega) 0 _ (Int.le_refl _) (fun d h => (zdm d h).1)
        have hv1 : v < 18446744073709551616 := by
          rw [← HVv.out]
          have h1 := Dn.tv_lt (show 0 < B by omega) (zs.map wv) zdm
          have h3 := Pn.pow_mono (show 1 ≤ B by omega) (show (zs.map wv).length ≤ W by simp; omega)
          have h4 := HPL.out
          rw [HP.out] at h4
          omega
        obtain ⟨O, HO⟩ : ∃ O, ShutG (Dn.tv B 0 ((ys.map wv).take at_) = O) := ⟨_, ⟨rfl⟩⟩
        have NX : ShutG (O * P + v = Dn.tv B 0 ((ys.map wv).take en)) := by
          refine ⟨?_⟩
          rw [tv_group B (ys.map wv) at_ en (by omega), HO.out]
          have e1 : ((ys.map wv).drop at_).take (en - at_) = zs.map wv := by rw [← hzs, List.map_take, List.map_drop]
          rw [e1, HVv.out]
          rcases Nat.eq_zero_or_pos k with c | c
          · have h0 := GK.out.2.1.z c
            have : O = 0 := by rw [← HO.out, h0]; rfl
            rw [this, Int.zero_mul, Int.zero_mul]
          · rw [HP.out, show (zs.map wv).length = W by rw [List.length_map, hzl]; have := GL.2.2 c; omega]
        rw [HO.out] at I SM
        have ydm := digs_mem DY.out
        have GROW : ShutG (Dn.tv B 0 ((ys.map wv).take en) ≤ T) := ⟨by rw [← HT.out]; exact tv_grows (by omega) _ (fun d h => (ydm d h).1) _⟩
        have D1 := hid I.out.2
        have AR := hid (I.out.1.argT SM.out)
        have TS := hid (I.out.1.tsT SM.out)
        have VO := hid I.out.1.2.2.2.1
        have GN := hid GK.out.2.1.next
        have hen : en ≤ m := by omega
        have hkQ : Hid (k ≤ Q) := GI.1
        have GKx := hid GK.out.1
        clear SZ hzl hzd zdm ydm hzs I GK GI GL
        go_wp2_with fail
        refine LB.out.mono ?_
        rintro e w1 ⟨rfl, d1⟩
        have MA := hid (mulAdd_any q _ _ os P v w1 (AR.out.below d1 (Nat.le_refl _)) TS.out hP0 HPL.out hv0 hv1)
        rw [VO.out, NX.out] at MA
        have D2 := hid (chain D1.out d1 (Nat.le_refl _))
        clear d1 LB D1 AR TS VO
        go_wp2_with fail
        refine MA.out.mono ?_
        rintro e w2 ⟨m1, m2, d2⟩
        have D3 := hid (chain D2.out d2 (Nat.le_refl _))
        by_cases hbig : Nm.pw 4096 ≤ Dn.tv B 0 ((ys.map wv).take en)
        · have e1 := m2 hbig
          subst e1
          have F : Hid (Gives T w' (.returned (.tuple #[.slice none 0 0, .int .i64 2])) w2) := ⟨.inr ⟨Int.le_trans hbig GROW.out, rfl⟩, D3.out⟩
          clear m1 m2 d2 hbig MA
          go_wp2_with fail
          go_ret2
          exact F.out
        · obtain ⟨q2, os2, he, A2⟩ := m1 (Int.not_le.1 hbig)
          subst he
          have SM2 : ShutG (Dn.tv B 0 ((ys.map wv).take en) < Nm.pw 4096) := ⟨Int.not_le.1 hbig⟩
          have A3 : Hid (Ans w'.heap.size w2 q2 os2 (Dn.tv B 0 ((ys.map wv).take en))) := A2.upT (by have := D2.out.size; exact this)
          clear m1 m2 d2 hbig MA A2
          go_wp2_with fail
          go_roundg (gk - 1)
          case measure => have := GKx.out; have := hkQ.out; omega
          case rel => exact ⟨k + 1, en, en + W, q2, os2, rfl, rfl, by go_num, ⟨by have := GKx.out; have := hkQ.out; omega, GN.out, hen⟩, ⟨A3.out, D3.out⟩, SM2⟩
      · have hle : (m : Int) ≤ (at_ : Int) := by omega
        have e1 : Dn.tv B 0 ((ys.map wv).take at_) = T := by rw [List.take_of_length_le (by have := HM.out; simp; omega), HT.out]
        rw [e1] at I SM
        have F : Hid (Gives T w' (.returned (.tuple #[.slice q (List.length os) (List.length os), .int .i64 0])) wr) := ⟨.inl ⟨SM.out, q, os, rfl, I.out.1⟩, I.out.2⟩
        clear I SM e1 GK
        go_wp2_with fail
        go_ret2
        exact F.out
end Go.Proofs.YtmdcilllcgaliaaGreatDoor
