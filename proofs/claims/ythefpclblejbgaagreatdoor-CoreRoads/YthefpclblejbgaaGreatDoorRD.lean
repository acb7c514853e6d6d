/-
  Texts put together: IRatio, KSmall, VStr, VTrimL, VTrimR, VClone, VDec, VOwn, VDig, VSlim.
-/
import Derived.Test.YthefpclblejbgaaGreatDoorIRoundN
import Derived.Test.YthefpclblejbgaaGreatDoorRC
import Derived.Test.YthefpclblejbgaaGreatDoorV0
import Derived.Test.YthefpclblejbgaaGreatDoorVNum
import Derived.Laws.BytesArg
import Derived.Laws.IdiomStrings
import Derived.Laws.Strings3
import Derived.Laws.DeepStrings4
import Derived.Shelf.Pu.Clone
import Derived.Test.YthefpclblejbgaaGreatDoorVNum2
import Derived.Laws.ResultCell
import Derived.Test.YthefpclblejbgaaGreatDoorVOrd
import Derived.Deep.Cut
import Derived.Deep.RegionHeld3
/-
  ieee: ratio (where the divisor leaves room), Round, RoundRatio.
-/
namespace Go.Proofs.YthefpclblejbgaaGreatDoor
open Go Go.RowKit Go.Deep

namespace Ie
/-- What is told of a fraction: the whole part of it moved, how far, and whether there is a rest. -/
def Quo (n d Q sh : Int) (rest : Bool) : Prop := ∀ e x, Rnd Q 1 (e - sh) rest x → Rnd n d e false x

theorem quo_up (V D : Int) (L M s : Nat) (hv : 2 ^ (L - 1) ≤ V) (hl : 1 ≤ L) (d0 : 0 < D) (hd : D < 2 ^ M) (hs : L + s = M + 64) : Quo V D (V * 2 ^ s / D) s (decide (V * 2 ^ s % D ≠ 0)) := by
  intro e x h
  refine Rnd.num s (rnd_floor (V * 2 ^ s) D (e - s) x d0 ?_ h)
  rw [Int.le_ediv_iff_mul_le d0]
  have g1 : (2 : Int) ^ (L - 1 + s) ≤ V * 2 ^ s := by rw [Nm.two_add]; exact Int.mul_le_mul_of_nonneg_right hv (by have := Nm.two_pos s; omega)
  rw [show L - 1 + s = 63 + M by omega, Nm.two_add] at g1
  have e63 : (2 : Int) ^ 63 = 9223372036854775808 := by decide
  rw [e63] at g1
  have := Nm.two_pos M
  omega

theorem quo_down (V D : Int) (L M s : Nat) (v0 : 0 < V) (hv : 2 ^ (L - 1) ≤ V) (hl : 1 ≤ L) (d0 : 0 < D) (hd : D < 2 ^ M) (hs : L = M + 64 + s) : Quo V D (V / 2 ^ s / D) (-(s : Int)) (decide (V % 2 ^ s ≠ 0) || decide (V / 2 ^ s % D ≠ 0)) := by
  have hp := Nm.two_pos s
  have hD : 0 < D * 2 ^ s := Int.mul_pos d0 hp
  have a1 := Int.mul_ediv_add_emod V (2 ^ s)
  have a2 := Int.emod_nonneg V (show (2 : Int) ^ s ≠ 0 by omega)
  have a3 := Int.emod_lt_of_pos V hp
  have b1 := Int.mul_ediv_add_emod (V / 2 ^ s) D
  have b2 := Int.emod_nonneg (V / 2 ^ s) (show D ≠ 0 by omega)
  have b3 := Int.emod_lt_of_pos (V / 2 ^ s) d0
  generalize V % 2 ^ s = r1 at *
  generalize V / 2 ^ s = q1 at *
  generalize q1 % D = r2 at *
  generalize q1 / D = q at *
  have c0 : 0 ≤ 2 ^ s * r2 := Int.mul_nonneg (by omega) b2
  have c1 : 2 ^ s * (r2 + 1) ≤ 2 ^ s * D := Int.mul_le_mul_of_nonneg_left (by omega) (by omega)
  rw [Int.mul_add, Int.mul_one, Int.mul_comm (2 ^ s) D] at c1
  have key : q * (D * 2 ^ s) + (2 ^ s * r2 + r1) = V := by
    rw [← a1, ← b1, Int.mul_add, ← Int.add_assoc]
    congr 2
    ac_rfl
  obtain ⟨k1, k2⟩ := div_is (A := V) (B := D * 2 ^ s) (q := q) (r := 2 ^ s * r2 + r1) (by omega) (by omega) key
  intro e x h
  refine Rnd.den s (rnd_floor V (D * 2 ^ s) (e + s) x hD ?_ ?_)
  · rw [Int.le_ediv_iff_mul_le hD]
    rw [show L - 1 = 63 + (M + s) by omega, Nm.two_add, Nm.two_add] at hv
    have e63 : (2 : Int) ^ 63 = 9223372036854775808 := by decide
    have g : D * 2 ^ s ≤ 2 ^ M * 2 ^ s := Int.mul_le_mul_of_nonneg_right (by omega) (by omega)
    rw [e63] at hv
    omega
  · rw [k1, k2]
    have e1 : decide (2 ^ s * r2 + r1 ≠ 0) = (decide (r1 ≠ 0) || decide (r2 ≠ 0)) := by
      rw [Bool.eq_iff_iff, Bool.or_eq_true, decide_eq_true_iff, decide_eq_true_iff, decide_eq_true_iff]
      rcases (show r2 = 0 ∨ 0 < r2 by omega) with h0 | h0
      · subst h0
        rw [Int.mul_zero]
        omega
      · have := Int.mul_pos hp h0
        omega
    rw [e1]
    rw [show e - -(s : Int) = e + s by omega] at h
    exact h
end Ie

/-- What ratio tells. -/
def RatioTold (V D : Int) (w : World) (e : Ending) (w' : World) : Prop :=
  ∃ r os Q sh rest, e = .returned (.tuple #[.slice r (List.length os) (List.length os), .int .i64 sh, .bool rest]) ∧ Ans w.heap.size w' r os Q ∧ Below w.heap.size w w' ∧ Nm.tsize os ≤ 4096 ∧ (-262144 ≤ sh ∧ sh ≤ 262208) ∧ Ie.Quo V D Q sh rest

theorem pos_len {B : Nat} {w : World} {r : Option Addr} {os : List Int} {v : Int} (h : Ans B w r os v) : decide (0 < os.length) = decide (v ≠ 0) := by
  have h1 := Nm.tsize_zero_iff h.2.1
  rw [h.2.2.1, h.2.2.2.1] at h1
  rw [decide_eq_decide]
  omega

set_option maxRecDepth 100000 in
set_option maxHeartbeats 2000000 in
theorem ratio_up (p q : Option Addr) (n cap m cap' : Nat) (zs ys : List Int) (w : World) (ha : Arg w p n cap zs) (hb : Arg w q m cap' ys) (tz : Nm.tsize zs ≤ 4096) (ty : Nm.tsize ys ≤ 4096) (V D : Int) (L M s : Nat) (hV : Nm.val zs = V) (hD : Nm.val ys = D) (hv : 0 < V) (hd : 0 < D)
    (hL : blen zs = (L : Int)) (hM : blen ys = (M : Int)) (BL : Nm.BLen V L) (BM : Nm.BLen D M) (hM2 : M + 64 ≤ 262144) (hs : L + s = M + 64) :
    Calls Tryz.prog 95 #[.slice p n cap, .slice q m cap'] w fun e w' => RatioTold V D w e w' := by
  have B1 := hid (bitLen_n L p n cap zs w ha hL)
  have B2 := hid (bitLen_n M q m cap' ys w hb hM)
  have hpw : V * 2 ^ s < Nm.pw 4096 := by
    have g1 : V * 2 ^ s < 2 ^ (L + s) := by rw [Nm.two_add]; exact Int.mul_lt_mul_of_pos_right BL.1 (Nm.two_pos s)
    have g2 := Nm.two_mono (show L + s ≤ 64 * 4096 by omega)
    rw [Nm.pw_two]
    omega
  have S := hid (fun (kk : Int) (hkk : kk = (s : Int)) => shl_any p n cap zs kk s w ha tz hkk (by rw [hV]; exact hpw))
  have Q := hid (Ie.quo_up V D L M s (BL.2.2 hv).2 (BL.2.2 hv).1 hd BM.1 hs)
  have HV := hid hV
  have HD := hid hD
  have HP := hid hpw
  have HB := hid hb
  have TY := hid ty
  have v1 : 0 < Nm.tsize ys := by
    rcases Nat.eq_zero_or_pos (Nm.tsize ys) with h | h
    · have := (Nm.tsize_zero_iff hb.2.2.2.2).1 h; omega
    · exact h
  have HY := hid v1
  have l1 : decide (262144 < (M : Int) + 64) = false := by simp; omega
  have l2 : decide ((M : Int) + 64 - (L : Int) < 0) = false := by simp; omega
  have l3 : (L : Int) ≤ 300000 := by omega
  have l4 : (M : Int) ≤ 300000 := by omega
  have ls := hid (show (M : Int) + 64 - (L : Int) = (s : Int) by omega)
  have HS := hid (show (s : Int) ≤ 262208 by omega)
  have vp := hid (show 0 ≤ V * 2 ^ s from Int.mul_nonneg (by omega) (by have := Nm.two_pos s; omega))
  have hdd := hid hd
  clear ha hb tz ty hV hD hv hd hL hM BL BM hM2 hs hpw v1
  go_enter Tryz.func95, Tryz.ntmps95
  go_wp2_with fail
  refine B2.out.mono ?_
  rintro e w' ⟨rfl, rfl⟩
  go_wp2_with fail
  refine B1.out.mono ?_
  rintro e w' ⟨rfl, rfl⟩
  go_wp2_with fail
  refine (S.out _ ls.out).mono ?_
  rintro e w1 ⟨r, os, rfl, A, hB⟩
  rw [HV.out] at A
  have A1 := ans_small A 4096 HP.out
  have hb1 := HB.out.below hB (Nat.le_refl _)
  have DM := divMod_ok r q _ _ m cap' os ys w1 (A.arg (by omega)) hb1 (by rw [A.2.2.1]; exact A1) TY.out HY.out
  rw [A.2.2.2.1, HD.out] at DM
  have DM := hid DM
  have HB1 := hid hB
  clear A A1 hb1 hB S B1 B2 HB
  go_wp2_with fail
  refine DM.out.mono ?_
  rintro e w2 ⟨r1, qs, r2, rs, rfl, A2, A3, hB2⟩
  have P3 := hid (pos_len A3)
  have vq : V * 2 ^ s / D < Nm.pw 4096 := by
    have := Int.ediv_le_self D vp.out
    have := HP.out
    omega
  have ch := HB1.out.trans (hB2.mono HB1.out.size)
  have K : Hid (∀ sh rest, sh = (s : Int) → rest = decide (V * 2 ^ s % D ≠ 0) → RatioTold V D w' (.returned (.tuple #[.slice r1 (List.length qs) (List.length qs), .int .i64 sh, .bool rest])) w2) := by
    intro sh rest hsh hrest
    subst hsh hrest
    have A2' : Ans w'.heap.size w2 r1 qs (V * 2 ^ s / D) := ⟨A2.1, A2.2.1, A2.2.2.1, A2.2.2.2.1, fun a h => by have := A2.2.2.2.2 a h; have := HB1.out.size; omega⟩
    exact ⟨r1, qs, _, _, _, rfl, A2', ch, by rw [A2.2.2.1]; exact ans_small A2 4096 vq, ⟨by have := HS.out; omega, by have := HS.out; omega⟩, Q.out⟩
  clear A2 A3 vq ch hB2 DM HB1 Q HV HD HP TY HY vp hdd
  go_wp2_with fail
  go_ret3
  exact K.out _ _ ls.out P3.out
set_option maxRecDepth 100000 in
set_option maxHeartbeats 2000000 in
theorem ratio_down (p q : Option Addr) (n cap m cap' : Nat) (zs ys : List Int) (w : World) (ha : Arg w p n cap zs) (hb : Arg w q m cap' ys) (tz : Nm.tsize zs ≤ 4096) (ty : Nm.tsize ys ≤ 4096) (V D : Int) (L M s : Nat) (hV : Nm.val zs = V) (hD : Nm.val ys = D) (hv : 0 < V) (hd : 0 < D)
    (hL : blen zs = (L : Int)) (hM : blen ys = (M : Int)) (BL : Nm.BLen V L) (BM : Nm.BLen D M) (hM2 : M + 64 ≤ 262144) (hL2 : L ≤ 262144) (hs : L = M + 64 + s) (hs0 : 0 < s) (hT : Tab w) :
    Calls Tryz.prog 95 #[.slice p n cap, .slice q m cap'] w fun e w' => RatioTold V D w e w' := by
  have B1 := hid (bitLen_n L p n cap zs w ha hL)
  have B2 := hid (bitLen_n M q m cap' ys w hb hM)
  have hp := Nm.two_pos s
  have hpw : V / 2 ^ s < Nm.pw 4096 := by
    have g1 := Int.ediv_le_self (2 ^ s) (show 0 ≤ V by omega)
    have g2 := Nm.two_mono (show L ≤ 64 * 4096 by omega)
    have := BL.1
    rw [Nm.pw_two]
    omega
  have S := hid (fun (kk : Int) (hkk : kk = (s : Int)) => shr_any p n cap zs kk s w ha hT tz hkk)
  have Q := hid (Ie.quo_down V D L M s hv (BL.2.2 hv).2 (BL.2.2 hv).1 hd BM.1 hs)
  have HV := hid hV
  have HD := hid hD
  have HP := hid hpw
  have HB := hid hb
  have TY := hid ty
  have v1 : 0 < Nm.tsize ys := by
    rcases Nat.eq_zero_or_pos (Nm.tsize ys) with h | h
    · have := (Nm.tsize_zero_iff hb.2.2.2.2).1 h; omega
    · exact h
  have HY := hid v1
  have l1 : decide (262144 < (M : Int) + 64) = false := by simp; omega
  have l2 : (M : Int) + 64 - (L : Int) < 0 := by omega
  have l3 : (L : Int) ≤ 300000 := by omega
  have l4 : (M : Int) ≤ 300000 := by omega
  have ls := hid (show (M : Int) + 64 - (L : Int) = -(s : Int) by omega)
  have HS := hid (show (s : Int) ≤ 262144 by omega)
  have vp := hid (show 0 ≤ V / 2 ^ s from Int.ediv_nonneg (by omega) (by omega))
  obtain ⟨lost, hlost⟩ : ∃ lost, decide (V % 2 ^ s ≠ 0) = lost := ⟨_, rfl⟩
  rw [hlost] at Q
  have HLO := hid hlost
  have hdd := hid hd
  clear ha hb tz ty hV hD hv hd hL hM BL BM hM2 hs hs0 hpw v1 hT hL2 hp hlost
  go_enter Tryz.func95, Tryz.ntmps95
  go_wp2_with fail
  refine B2.out.mono ?_
  rintro e w' ⟨rfl, rfl⟩
  go_wp2_with fail
  refine B1.out.mono ?_
  rintro e w' ⟨rfl, rfl⟩
  go_wp2_with fail
  refine (S.out _ (by have := ls.out; omega)).mono ?_
  rintro e w1 ⟨r, os, rfl, A, hB⟩
  rw [HV.out] at A ⊢
  rw [HLO.out]
  have A1 := ans_small A 4096 HP.out
  have hb1 := HB.out.below hB (Nat.le_refl _)
  have DM := divMod_ok r q _ _ m cap' os ys w1 (A.arg (by omega)) hb1 (by rw [A.2.2.1]; exact A1) TY.out HY.out
  rw [A.2.2.2.1, HD.out] at DM
  have DM := hid DM
  have HB1 := hid hB
  clear A A1 hb1 hB S B1 B2 HB
  go_wp2_with fail
  refine DM.out.mono ?_
  rintro e w2 ⟨r1, qs, r2, rs, rfl, A2, A3, hB2⟩
  have P3 := hid (pos_len A3)
  have vq : V / 2 ^ s / D < Nm.pw 4096 := by
    have := Int.ediv_le_self D vp.out
    have := HP.out
    omega
  have ch := HB1.out.trans (hB2.mono HB1.out.size)
  have K : Hid (∀ sh rest, sh = -(s : Int) → rest = (lost || decide (V / 2 ^ s % D ≠ 0)) → RatioTold V D w' (.returned (.tuple #[.slice r1 (List.length qs) (List.length qs), .int .i64 sh, .bool rest])) w2) := by
    intro sh rest hsh hrest
    subst hsh hrest
    have A2' : Ans w'.heap.size w2 r1 qs (V / 2 ^ s / D) := ⟨A2.1, A2.2.1, A2.2.2.1, A2.2.2.2.1, fun a h => by have := A2.2.2.2.2 a h; have := HB1.out.size; omega⟩
    exact ⟨r1, qs, _, _, _, rfl, A2', ch, by rw [A2.2.2.1]; exact ans_small A2 4096 vq, ⟨by have := HS.out; omega, by have := HS.out; omega⟩, Q.out⟩
  clear A2 A3 vq ch hB2 DM HB1 Q HV HD HP TY HY vp hdd
  cases lost
  · go_wp2_with fail
    go_ret3
    exact K.out _ _ ls.out (by rw [Bool.false_or]; exact P3.out)
  · go_wp2_with fail
    go_ret3
    exact K.out _ _ ls.out (by simp)

theorem ratio_any (p q : Option Addr) (n cap m cap' : Nat) (zs ys : List Int) (w : World) (ha : Arg w p n cap zs) (hb : Arg w q m cap' ys) (hT : Tab w) (tz : Nm.tsize zs ≤ 4096) (ty : Nm.tsize ys ≤ 4095) (V D : Int) (hV : Nm.val zs = V) (hD : Nm.val ys = D) (hv : 0 < V) (hd : 0 < D) :
    Calls Tryz.prog 95 #[.slice p n cap, .slice q m cap'] w fun e w' => RatioTold V D w e w' := by
  obtain ⟨L, hL, BL, hl, _⟩ := blen_is zs ha.2.2.2.2
  obtain ⟨M, hM, BM, hm, _⟩ := blen_is ys hb.2.2.2.2
  rw [hV] at BL
  rw [hD] at BM
  rcases Nat.lt_or_ge (M + 64) L with h | h
  · exact ratio_down p q n cap m cap' zs ys w ha hb tz (by omega) V D L M (L - (M + 64)) hV hD hv hd hL hM BL BM (by omega) (by omega) (by omega) (by omega) hT
  · exact ratio_up p q n cap m cap' zs ys w ha hb tz (by omega) V D L M (M + 64 - L) hV hD hv hd hL hM BL BM (by omega) (by omega)

set_option maxRecDepth 100000 in
set_option maxHeartbeats 2000000 in
theorem roundRatio_any (neg : Bool) (p q : Option Addr) (n cap m cap' : Nat) (zs ys : List Int) (w : World) (ha : Arg w p n cap zs) (hb : Arg w q m cap' ys) (hT : Tab w) (tz : Nm.tsize zs ≤ 4096) (ty : Nm.tsize ys ≤ 4095) (V D e : Int) (hV : Nm.val zs = V) (hD : Nm.val ys = D) (hd : 0 < D) :
    Calls Tryz.prog 65 #[.bool neg, .slice p n cap, .slice q m cap', .int .i64 e] w fun r w' => ∃ x, r = .returned (.tuple #[.int .u64 (Ie.sg neg x), .int .i64 0]) ∧ Ie.Rnd V D e false x ∧ Below w.heap.size w w' := by
  obtain ⟨L, hL, BL, hl, _⟩ := blen_is zs ha.2.2.2.2
  obtain ⟨M, hM, BM, hm, _⟩ := blen_is ys hb.2.2.2.2
  rw [hV] at BL
  rw [hD] at BM
  have B1 := hid (bitLen_n L p n cap zs w ha hL)
  have B2 := hid (bitLen_n M q m cap' ys w hb hM)
  have v0 : 0 ≤ V := by rw [← hV]; exact (Nm.val_bd zs ha.2.2.2.2).1
  have l1 : decide (262144 < (L : Int)) = false := by simp; omega
  have l2 : decide (262144 < (M : Int)) = false := by simp; omega
  have m0 : 0 < M := (BM.2.2 hd).1
  have l3 : ((M : Int) == 0) = false := by rw [beq_eq_false_iff_ne]; omega
  rcases (show V = 0 ∨ 0 < V by omega) with hv | hv
  · have hL0 : L = 0 := BL.2.1 hv
    subst hL0
    have R := hid (Ie.rnd_zero D e false hd)
    have SG := hid (signed_any neg 0 w (by omega) (by omega))
    subst hv
    clear ha hb hT tz ty hV hD hd hL hM BL BM hl hm v0 m0
    go_enter Tryz.func65, Tryz.ntmps65
    go_wp2_with fail
    refine B1.out.mono ?_
    rintro e' w' ⟨rfl, rfl⟩
    go_wp2_with fail
    refine B2.out.mono ?_
    rintro e' w' ⟨rfl, rfl⟩
    go_wp2_with fail
    refine B2.out.mono ?_
    rintro e' w' ⟨rfl, rfl⟩
    go_wp2_with fail
    refine B1.out.mono ?_
    rintro e' w' ⟨rfl, rfl⟩
    go_wp2_with fail
    refine SG.out.mono ?_
    rintro e' w' ⟨rfl, rfl⟩
    go_wp2_with fail
    go_ret2
    exact ⟨0, rfl, R.out, Below.refl _ _⟩
  · have RA := hid (ratio_any p q n cap m cap' zs ys w ha hb hT tz ty V D hV hD hv hd)
    have WI := hid (fun (x : Int) => Ie.win_ok (n := V) (d := D) (e := e) (x := x) (more := false) L M v0 BL.1 hd (by have := BM.1; omega) (by omega) (by omega))
    have W0 := hid (fun (wx : World) => within_any e wx)
    obtain ⟨we, hwe⟩ : ∃ we, Ie.win e = we := ⟨_, rfl⟩
    have wb := Ie.win_bd e
    rw [hwe] at wb W0 WI
    obtain ⟨wb1, wb2⟩ := wb
    have l0 : 0 < L := (BL.2.2 hv).1
    have l4 : ((L : Int) == 0) = false := by rw [beq_eq_false_iff_ne]; omega
    have HT := hid hT
    clear ha hb hT tz ty hV hD hd hL hM BL BM hl hm v0 m0 hwe l0 hv
    go_enter Tryz.func65, Tryz.ntmps65
    go_wp2_with fail
    refine B1.out.mono ?_
    rintro e' w' ⟨rfl, rfl⟩
    go_wp2_with fail
    refine B2.out.mono ?_
    rintro e' w' ⟨rfl, rfl⟩
    go_wp2_with fail
    refine B2.out.mono ?_
    rintro e' w' ⟨rfl, rfl⟩
    go_wp2_with fail
    refine B1.out.mono ?_
    rintro e' w' ⟨rfl, rfl⟩
    go_wp2_with fail
    refine RA.out.mono ?_
    rintro e' w1 ⟨r, os, Q, sh, rest, rfl, A, hB, to4, ⟨s1, s2⟩, QU⟩
    have lo : os.length ≤ 4096 := by rw [← A.2.2.1]; exact to4
    have NR := hid (nearest_any r _ _ os w1 (A.arg (by omega)) (HT.out.below hB) to4 Q (we - sh) rest A.2.2.2.1 (by omega) (by omega))
    have HB := hid hB
    have QQ := hid QU
    clear A hB to4 QU lo B1 B2 RA HT
    go_wp2_with fail
    refine (W0.out w1).mono ?_
    rintro e' w' ⟨rfl, rfl⟩
    go_wp2_with fail
    refine NR.out.mono ?_
    rintro e' w2 ⟨x, rfl, R, hB⟩
    have bd := R.bd
    have R1 := hid (WI.out x (QQ.out we x R))
    have SG := hid (signed_any neg x w2 bd.1 (by omega))
    have HB2 := hid (HB.out.trans (hB.mono HB.out.size))
    clear R bd hB
    go_wp2_with fail
    refine SG.out.mono ?_
    rintro e' w3 ⟨rfl, rfl⟩
    go_wp2_with fail
    go_ret2
    exact ⟨x, rfl, R1.out, HB2.out⟩
end Go.Proofs.YthefpclblejbgaaGreatDoor

namespace Go.Proofs.YthefpclblejbgaaGreatDoor
open Go Go.RowKit Go.Deep

/-- The table of the powers of ten that are doubles. -/
def Tens (w : World) : Prop := ∀ j : Nat, j < 23 → w.cell? ⟨0, j * 2, none⟩ = some (.int .u64 (lo64 (10 ^ j))) ∧ w.cell? ⟨0, j * 2 + 1, none⟩ = some (.int .u64 (hi64 (10 ^ j)))
theorem Tens.below {w w' : World} (h : Tens w) (hb : Below w.heap.size w w') : Tens w' := by
  intro j hj
  have hc := h j hj
  rw [hb.cell (p := ⟨0, j * 2, none⟩) (cell_lt hc.1), hb.cell (p := ⟨0, j * 2 + 1, none⟩) (cell_lt hc.2)]
  exact hc

def SmallTold (v q : Int) (w : World) (e : Ending) (w' : World) : Prop :=
  ((v ≤ 9007199254740992 ∧ -22 ≤ q ∧ q ≤ 22 ∧ ∃ x, e = .returned (.tuple #[.int .u64 x, .bool true]) ∧ Ie.Rnd (v * 10 ^ q.toNat) (10 ^ (-q).toNat) 0 false x) ∨
    ((9007199254740992 < v ∨ q < -22 ∨ 22 < q) ∧ e = .returned (.tuple #[.int .u64 0, .bool false]))) ∧ Below w.heap.size w w'

theorem ten_bd {j : Nat} (h : j < 23) : 0 < (10 : Int) ^ j ∧ (10 : Int) ^ j < 340282366920938463463374607431768211456 := by
  refine ⟨Int.pow_pos (by decide), ?_⟩
  have h1 := Nat.pow_le_pow_right (show 0 < 10 by decide) (show j ≤ 22 by omega)
  have e : ∀ k : Nat, ((10 ^ k : Nat) : Int) = 10 ^ k := by intro k; simp
  have e1 := e j
  have e2 := e 22
  have e3 : (10 : Int) ^ 22 = 10000000000000000000000 := by decide +kernel
  omega

set_option maxRecDepth 100000 in
set_option maxHeartbeats 1000000 in
theorem small_any9 (v q : Int) (w : World) (hT : Tab w) (hX : Tens w) (hv : Bd v) :
    Calls Tryz.prog 49 #[.int .u64 v, .int .i64 q] w fun e w' => SmallTold v q w e w' := by
  by_cases h : v ≤ 9007199254740992 ∧ -22 ≤ q ∧ q ≤ 22
  · by_cases h0 : 0 ≤ q
    · obtain ⟨j, hj⟩ := Int.eq_ofNat_of_zero_le h0
      have tb := ten_bd (show j < 23 by omega)
      have bs := bd_split (P := 10 ^ j) (by omega) tb.2
      have TM := hid (fun wx => ptimes_any v (lo64 (10 ^ j)) (hi64 (10 ^ j)) wx hv bs.1 bs.2)
      rw [n2_split] at TM
      obtain ⟨c0, c1⟩ := hX j (by omega)
      have PR := hid (fun (a b c : Int) (wx : World) (hb : Below w.heap.size w wx) (hh : Bd a ∧ Bd b ∧ Bd c) => pround_any a b c 0 wx (hT.below hb) hh)
      have FF : Hid (∀ x w', Ie.Rnd (v * 10 ^ j) 1 0 false x → Below w.heap.size w w' → SmallTold v q w (.returned (.tuple #[.int .u64 x, .bool true])) w') := fun x w' r b => ⟨.inl ⟨h.1, h.2.1, h.2.2, x, rfl, by rw [show q.toNat = j by omega, show (-q).toNat = 0 by omega]; exact r⟩, b⟩
      have a0 : (j : Int) ≤ 22 := by omega
      have a1 : v ≤ 9007199254740992 := h.1
      have a2 : 0 ≤ v := hv.1
      subst hj
      clear h hT hX hv tb bs h0
      unfold wideV prodV at *
      generalize lo64 (10 ^ j) = x at *
      generalize hi64 (10 ^ j) = y at *
      go_enter Tryz.func49, Tryz.ntmps49
      go_wp2_with fail
      with_reducible refine (TM.out _).mono ?_
      rintro e w1 ⟨a, b, c, rfl, hbd, hn, hB⟩
      have BD := hid hbd
      have NN := hid hn
      have HB := hid hB
      clear hbd hn TM
      go_wp2_with fail
      with_reducible refine (PR.out a b c _ hB BD.out).mono ?_
      rintro e w2 ⟨z, rfl, hR, hB2⟩
      rw [NN.out] at hR
      have F := hid (FF.out z w2 hR (below_on HB.out hB2))
      clear hB hB2 hR FF PR
      go_wp2_with fail
      go_ret2
      exact F.out
    · obtain ⟨j, hj⟩ := Int.eq_ofNat_of_zero_le (show 0 ≤ -q by omega)
      have tb := ten_bd (show j < 23 by omega)
      have bs := bd_split (P := 10 ^ j) (by omega) tb.2
      obtain ⟨c0, c1⟩ := hX j (by omega)
      have RR : Hid (∀ wx, wx = ((w.alloc (.cells #[.int .u64 (lo64 (10 ^ j)), .int .u64 (hi64 (10 ^ j))] 103)).alloc (.cells #[.int .u64 v] 27)) → Calls Tryz.prog 65 #[.bool false, .slice (some ⟨w.heap.size + 1, 0, none⟩) 1 1, .slice (some ⟨w.heap.size, 0, none⟩) 2 2, .int .i64 0] wx fun e w' => ∃ x, e = .returned (.tuple #[.int .u64 x, .int .i64 0]) ∧ Ie.Rnd v (10 ^ j) 0 false x ∧ Below w.heap.size w w') := by
        intro wx hw
        subst hw
        have b2 : Below w.heap.size w ((w.alloc (.cells #[.int .u64 (lo64 (10 ^ j)), .int .u64 (hi64 (10 ^ j))] 103)).alloc (.cells #[.int .u64 v] 27)) := below_on (alloc_b _ _) (alloc_b _ _)
        refine (roundRatio_any false _ _ 1 1 2 2 [v] [lo64 (10 ^ j), hi64 (10 ^ j)] _ (arg_lit9 (heap_alloc2_new _ _ _) hv.1 hv.2) (At2.arg (heap_alloc2_old _ _ _) bs.1.1 bs.1.2 bs.2.1 bs.2.2) (hT.below b2) (Nat.le_trans (Nm.tsize_le _) (by simp)) (Nat.le_trans (Nm.tsize_le _) (by simp)) v (10 ^ j) 0 (by simp [Nm.val]) (by rw [n2_val, n2_split]) tb.1).mono ?_
        rintro e w' ⟨x, rfl, r, hB⟩
        exact ⟨x, by unfold Ie.sg; rfl, r, below_on b2 hB⟩
      have FF : Hid (∀ x w', Ie.Rnd v (10 ^ j) 0 false x → Below w.heap.size w w' → SmallTold v q w (.returned (.tuple #[.int .u64 x, .bool true])) w') := fun x w' r b => ⟨.inl ⟨h.1, h.2.1, h.2.2, x, rfl, by rw [show q.toNat = 0 by omega, show (-q).toNat = j by omega, Int.pow_zero, Int.mul_one]; exact r⟩, b⟩
      have a0 : (j : Int) ≤ 22 := by omega
      have a1 : v ≤ 9007199254740992 := h.1
      have a2 : 0 ≤ v := hv.1
      have a3 : -22 ≤ q := h.2.1
      have a4 : q < 0 := by omega
      clear h hT hX hv tb bs h0
      generalize lo64 (10 ^ j) = x at *
      generalize hi64 (10 ^ j) = y at *
      go_enter Tryz.func49, Tryz.ntmps49
      go_wp2_with fail
      with_reducible refine (RR.out _ rfl).mono ?_
      rintro e w2 ⟨z, rfl, hR, hB2⟩
      have F := hid (FF.out z w2 hR hB2)
      clear hB2 hR FF RR
      go_wp2_with fail
      go_ret2
      exact F.out
  · have F : Hid (SmallTold v q w (.returned (.tuple #[.int .u64 0, .bool false])) w) := ⟨.inr ⟨by omega, rfl⟩, Below.refl _ _⟩
    clear hT hX hv
    by_cases k1 : 9007199254740992 < v
    · clear h
      go_enter Tryz.func49, Tryz.ntmps49
      go_wp2_with fail
      go_ret2
      exact F.out
    · by_cases k2 : q ≤ -23
      · clear h
        go_enter Tryz.func49, Tryz.ntmps49
        go_wp2_with fail
        go_ret2
        exact F.out
      · have k3 : 23 ≤ q := by omega
        clear h
        go_enter Tryz.func49, Tryz.ntmps49
        go_wp2_with fail
        go_ret2
        exact F.out
end Go.Proofs.YthefpclblejbgaaGreatDoor

namespace Go.Proofs.YthefpclblejbgaaGreatDoor
open Go.RowKit Go.Deep

/-- s has just these bytes. -/
def Str (s : ByteArray) (xs : List Int) : Prop := s.data.toList.map (fun b => (b.toNat : Int)) = xs

theorem Str.self (s : ByteArray) : Str s (s.data.toList.map (fun b => (b.toNat : Int))) := rfl

theorem Str.size {s : ByteArray} {xs : List Int} (h : Str s xs) : s.size = xs.length := by
  rw [← h, List.length_map, Array.length_toList]
  rfl

theorem Str.at {s : ByteArray} {xs : List Int} (h : Str s xs) (t : Nat) (ht : t < s.size) : ((s[t]'ht).toNat : Int) = xs.getD t 0 := by
  rw [← h]
  have : t < s.data.toList.length := by rw [Array.length_toList]; exact ht
  simp only [List.getD_eq_getElem?_getD, List.getElem?_map, List.getElem?_eq_getElem this, Option.map_some, Option.getD_some]
  rfl

theorem Str.mem {s : ByteArray} {xs : List Int} (h : Str s xs) {x : Int} (hx : x ∈ xs) : 0 ≤ x ∧ x < 256 := by
  rw [← h] at hx
  obtain ⟨b, _, rfl⟩ := List.mem_map.1 hx
  have := b.toNat_lt
  omega

theorem Str.atb {s : ByteArray} {xs : List Int} (h : Str s xs) (t : Nat) : 0 ≤ xs.getD t 0 ∧ xs.getD t 0 < 256 := by
  by_cases ht : t < xs.length
  · have : xs.getD t 0 = xs[t] := by simp [List.getD, ht]
    rw [this]
    exact h.mem (List.getElem_mem ht)
  · rw [show xs.getD t 0 = 0 by simp [List.getD, List.getElem?_eq_none (show xs.length ≤ t by omega)]]
    omega

theorem Str.extract {s : ByteArray} {xs : List Int} (h : Str s xs) (a b : Nat) : Str (s.extract a b) ((xs.drop a).take (b - a)) := by
  unfold Str at *
  rw [← h, ByteArray.data_extract]
  simp [List.map_drop, List.map_take]

theorem Str.of_nums {xs : List Int} (h : ∀ x ∈ xs, 0 ≤ x ∧ x < 256) : Str (strOfNums xs) xs := by
  unfold Str
  rw [strOfNums_data, List.map_map]
  conv => rhs; rw [← List.map_id xs]
  apply List.map_congr_left
  intro x hx
  have := h x hx
  simp only [Function.comp, id]
  rw [UInt8.toNat_ofNat_of_lt' (by show x.toNat < 256; omega)]
  omega

theorem Str.inj {s t : ByteArray} {xs : List Int} (h : Str s xs) (k : Str t xs) : s = t := by
  unfold Str at h k
  have e : s.data.toList = t.data.toList := by
    rw [← k] at h
    exact List.map_inj_right (fun a b hab => by
      have : a.toNat = b.toNat := by omega
      exact UInt8.toNat_inj.1 this) |>.1 h
  cases s
  cases t
  simp only at e
  rw [Array.toList_inj.1 e]

/-- s == t, asked by the bytes. -/
theorem Str.eq {s t : ByteArray} {xs ys : List Int} (h : Str s xs) (k : Str t ys) : (s.toList == t.toList) = decide (xs = ys) := by
  by_cases e : xs = ys
  · subst e
    rw [h.inj k]
    simp
  · rw [decide_eq_false e, beq_eq_false_iff_ne]
    intro c
    apply e
    rw [ByteArray.toList_eq, ByteArray.toList_eq] at c
    rw [← h, ← k, c]
theorem str_nil0 : Str ⟨#[]⟩ [] := rfl
end Go.Proofs.YthefpclblejbgaaGreatDoor

namespace Go.Proofs.YthefpclblejbgaaGreatDoor
open Go.RowKit Go.Deep

/-- s' is s without some zeros at its head, and opens with none. -/
def Bared (xs : List Int) (s' : ByteArray) (j : Nat) : Prop := Str s' (xs.drop j) ∧ j ≤ xs.length ∧ (∀ i, i < j → xs.getD i 0 = 48)

def STold (xs : List Int) (e : Ending) : Prop := ∃ s' j, e = .returned (.string s') ∧ Bared xs s' j ∧ (j < xs.length → xs.getD j 0 ≠ 48)

set_option maxRecDepth 100000 in
set_option maxHeartbeats 1000000 in
theorem strim1_any (s : ByteArray) (xs : List Int) (w : World) (hs : Str s xs) (hn1 : xs.length ≤ 562949953421312) :
    Calls Tryz.prog 83 #[.string s, .int .u8 48] w fun e w' => STold xs e ∧ w' = w := by
  have HS := hid hs
  have HN := hid hn1
  clear hs hn1
  go_enter Tryz.func83, Tryz.ntmps83
  go_wp2_with fail
  go_loop [0] (fun c => ∃ s' j, c = .string s' ∧ Hid (Bared xs s' j)) (fun c => match c with | .string s' => s'.size | _ => 0)
  case atStart => exact ⟨s, 0, rfl, HS.out, Nat.zero_le _, fun i hi => by omega⟩
  case round =>
    obtain ⟨s', j, rfl, I⟩ := hrel
    obtain ⟨m, HM⟩ : ∃ m, Hid (s'.size = m) := ⟨_, rfl⟩
    have hsz : s'.size = m := HM.out
    have hjm : Hid (j + m = xs.length) := by show _ = _; have := I.out.1.size; have := I.out.2.1; have := HM.out; simp at *; omega
    have hmb : (m : Int) ≤ 562949953421312 := by have := HN.out; have := hjm.out; omega
    by_cases h0 : m = 0
    · subst h0
      have F : Hid (STold xs (.returned (.string s'))) := ⟨s', j, rfl, I.out, fun h => by have := hjm.out; omega⟩
      clear I
      go_wp2_with fail
      go_ret
      exact ⟨F.out, rfl⟩
    · have hm : 0 < m := by omega
      have hmi : (0 : Int) < (m : Int) := by omega
      obtain ⟨x, X⟩ : ∃ x, Hid (xs.getD j 0 = x) := ⟨_, rfl⟩
      have hx : ∀ h : 0 < s'.size, ((s'[0]'h).toNat : Int) = x := fun h => by rw [I.out.1.at 0 h, ← X.out]; simp [List.getD]
      by_cases hd : x = 48
      · subst hd
        have F : Hid (Bared xs (s'.extract 1 s'.size) (j + 1)) := by
          refine ⟨?_, by have := hjm.out; omega, fun i hi => ?_⟩
          · have := I.out.1.extract 1 s'.size
            rw [List.drop_drop, List.take_of_length_le (by have := hjm.out; have := HM.out; simp; omega)] at this
            exact this
          · by_cases e : i = j
            · subst e; exact X.out
            · exact I.out.2.2 i (by omega)
        rw [hsz] at F
        have SZ : Hid ((s'.extract 1 m).size < s'.size) := by
          show _ < _
          have e1 := F.out.1.size
          have e2 := HM.out
          have e3 := hjm.out
          simp only [List.length_drop] at e1
          omega
        clear I
        go_wp2_with fail
        go_round
        case rel => exact ⟨_, _, rfl, F.out⟩
        case measure => exact SZ.out
      · have hd2 : (x == 48) = false := by rw [beq_eq_false_iff_ne]; exact hd
        have F : Hid (STold xs (.returned (.string s'))) := ⟨s', j, rfl, I.out, fun _ => by rw [X.out]; exact hd⟩
        clear I
        go_wp2_with fail
        go_ret
        exact ⟨F.out, rfl⟩

set_option maxRecDepth 100000 in
theorem strim_any (s : ByteArray) (xs : List Int) (w : World) (hs : Str s xs) (hn1 : xs.length ≤ 562949953421312) :
    Calls Tryz.prog 61 #[.string s, .string ⟨#[48]⟩] w fun e w' => STold xs e ∧ w' = w := by
  have T := hid (strim1_any s xs w hs hn1)
  by_cases h : xs = []
  · have F : Hid (STold xs (.returned (.string s))) := ⟨s, 0, rfl, ⟨by simpa using hs, Nat.zero_le _, fun i hi => by omega⟩, fun hlt => by rw [h] at hlt; simp at hlt⟩
    have hs0 : s = ⟨#[]⟩ := hs.inj (by rw [h]; rfl)
    subst hs0
    clear hs hn1 h
    go_enter Tryz.func61, Tryz.ntmps61
    go_wp2_with fail
    go_ret
    exact ⟨F.out, rfl⟩
  · have e0 := hs.eq (t := ⟨#[]⟩) (ys := []) rfl
    rw [decide_eq_false h] at e0
    have e1 : s.toList ≠ [] := by
      intro c
      apply h
      rw [ByteArray.toList_eq] at c
      rw [← hs, c]
      rfl
    have e2 : (s.toList == []) = false := by rw [beq_eq_false_iff_ne]; exact e1
    have e3 : s.toList.isEmpty = false := by rw [List.isEmpty_eq_false_iff]; exact e1
    clear hs hn1 h
    go_enter Tryz.func61, Tryz.ntmps61
    go_wp2_with fail
    refine T.out.mono ?_
    rintro e w' ⟨h1, rfl⟩
    obtain ⟨s', j, rfl, h2⟩ := h1
    have F : Hid (STold xs (.returned (.string s'))) := ⟨s', j, rfl, h2⟩
    clear h2 T
    go_wp2_with fail
    go_ret
    exact ⟨F.out, rfl⟩
end Go.Proofs.YthefpclblejbgaaGreatDoor

namespace Go.Proofs.YthefpclblejbgaaGreatDoor
open Go.RowKit Go.Deep

/-- s' is s without some zeros at its end, and ends with none. -/
def TailTold (xs : List Int) (e : Ending) : Prop := ∃ s' k, e = .returned (.string s') ∧ Str s' (xs.take k) ∧ k ≤ xs.length ∧ (∀ i, k ≤ i → i < xs.length → xs.getD i 0 = 48) ∧ (0 < k → xs.getD (k - 1) 0 ≠ 48)

set_option maxRecDepth 100000 in
set_option maxHeartbeats 1000000 in
theorem rtrim_any (s : ByteArray) (xs : List Int) (w : World) (hs : Str s xs) (hn1 : xs.length ≤ 562949953421312) :
    Calls Tryz.prog 87 #[.string s, .int .u8 48] w fun e w' => TailTold xs e ∧ w' = w := by
  have HS := hid hs
  have HN := hid hn1
  clear hs hn1
  go_enter Tryz.func87, Tryz.ntmps87
  go_wp2_with fail
  go_loop [0] (fun c => ∃ s' m, c = .string s' ∧ Hid (Str s' (xs.take m) ∧ m ≤ xs.length ∧ s'.size = m ∧ (∀ i, m ≤ i → i < xs.length → xs.getD i 0 = 48))) (fun c => match c with | .string s' => s'.size | _ => 0)
  case atStart => exact ⟨s, xs.length, rfl, by rw [List.take_length]; exact HS.out, Nat.le_refl _, HS.out.size, fun i h1 h2 => by omega⟩
  case round =>
    obtain ⟨s', m, rfl, I⟩ := hrel
    have hsz : s'.size = m := I.out.2.2.1
    have hmb : (m : Int) ≤ 562949953421312 := by have := HN.out; have := I.out.2.1; omega
    by_cases h0 : m = 0
    · subst h0
      have F : Hid (TailTold xs (.returned (.string s'))) := ⟨s', 0, rfl, I.out.1, Nat.zero_le _, I.out.2.2.2, fun h => by omega⟩
      clear I
      go_wp2_with fail
      go_ret
      exact ⟨F.out, rfl⟩
    · obtain ⟨u, hu⟩ : ∃ u, m = u + 1 := ⟨m - 1, by omega⟩
      have hmi : (0 : Int) < (m : Int) := by omega
      have hmu : (m : Int) - 1 = (u : Int) := by omega
      have hum : (u : Int) < (m : Int) := by omega
      obtain ⟨x, X⟩ : ∃ x, Hid (xs.getD u 0 = x) := ⟨_, rfl⟩
      have hx : ∀ h : u < s'.size, ((s'[u]'h).toNat : Int) = x := fun h => by
        rw [I.out.1.at u h, ← X.out]
        simp [List.getD, show u < m by omega]
      have HU := hid hu
      by_cases hd : x = 48
      · subst hd
        have F : Hid (Str (s'.extract 0 u) (xs.take u) ∧ u ≤ xs.length ∧ (s'.extract 0 u).size = u ∧ (∀ i, u ≤ i → i < xs.length → xs.getD i 0 = 48)) := by
          have e := I.out.1.extract 0 u
          rw [List.drop_zero, Nat.sub_zero, List.take_take, show min u m = u by omega] at e
          refine ⟨e, by have := I.out.2.1; omega, by rw [e.size]; have := I.out.2.1; simp; omega, fun i h1 h2 => ?_⟩
          by_cases c : i = u
          · subst c; exact X.out
          · exact I.out.2.2.2 i (by omega) h2
        have SZ : Hid ((s'.extract 0 u).size < s'.size) := by show _ < _; rw [F.out.2.2.1, hsz]; omega
        clear I hu h0
        go_wp2_with fail
        go_round
        case rel => exact ⟨_, _, rfl, F.out⟩
        case measure => exact SZ.out
      · have hd2 : (x == 48) = false := by rw [beq_eq_false_iff_ne]; exact hd
        have F : Hid (TailTold xs (.returned (.string s'))) := ⟨s', m, rfl, I.out.1, I.out.2.1, I.out.2.2.2, fun _ => by rw [show m - 1 = u by omega, X.out]; exact hd⟩
        clear I hu h0
        go_wp2_with fail
        go_ret
        exact ⟨F.out, rfl⟩


set_option maxRecDepth 100000 in
theorem rtrim0_any (s : ByteArray) (xs : List Int) (w : World) (hs : Str s xs) (hn1 : xs.length ≤ 562949953421312) :
    Calls Tryz.prog 62 #[.string s, .string ⟨#[48]⟩] w fun e w' => TailTold xs e ∧ w' = w := by
  have T := hid (rtrim_any s xs w hs hn1)
  by_cases h : xs = []
  · have F : Hid (TailTold xs (.returned (.string s))) := ⟨s, 0, rfl, by rw [h] at hs ⊢; exact hs, Nat.zero_le _, fun i _ hi => by rw [h] at hi; simp at hi, fun hlt => by omega⟩
    have hs0 : s = ⟨#[]⟩ := hs.inj (by rw [h]; rfl)
    subst hs0
    clear hs hn1 h
    go_enter Tryz.func62, Tryz.ntmps62
    go_wp2_with fail
    go_ret
    exact ⟨F.out, rfl⟩
  · have e1 : s.toList ≠ [] := by
      intro c
      apply h
      rw [ByteArray.toList_eq] at c
      rw [← hs, c]
      rfl
    have e2 : (s.toList == []) = false := by rw [beq_eq_false_iff_ne]; exact e1
    have e3 : s.toList.isEmpty = false := by rw [List.isEmpty_eq_false_iff]; exact e1
    clear hs hn1 h
    go_enter Tryz.func62, Tryz.ntmps62
    go_wp2_with fail
    refine T.out.mono ?_
    rintro e w' ⟨h1, rfl⟩
    obtain ⟨s', j, rfl, h2⟩ := h1
    have F : Hid (TailTold xs (.returned (.string s'))) := ⟨s', j, rfl, h2⟩
    clear h2 T
    go_wp2_with fail
    go_ret
    exact ⟨F.out, rfl⟩
end Go.Proofs.YthefpclblejbgaaGreatDoor

namespace Go.Proofs.YthefpclblejbgaaGreatDoor
open Go.RowKit Go.Deep Go.Shelf

def cloneRen : Go.Shelf.Ren := ⟨fun _ => 82, fun t => if t = 37 then 23 else if t = 47 then 138 else if t = 5 then 5 else if t = 9 then 9 else if t = 3 then 3 else t, fun g => g⟩
theorem cloneLays : LaysPu.n25 Tryz.prog cloneRen where
  mixed := by kernel_rfl
  f25 := by kernel_rfl
  t0 := by kernel_rfl
  a0 := fun _ => by kernel_rfl
  z0 := fun _ => by kernel_rfl
  v0 := fun _ => by kernel_rfl
  i0 := by kernel_rfl
  t3 := by kernel_rfl
  a3 := fun _ => by kernel_rfl
  z3 := fun _ => by kernel_rfl
  v3 := fun _ => by kernel_rfl
  i3 := by kernel_rfl
  t4 := by kernel_rfl
  a4 := fun _ => by kernel_rfl
  z4 := fun _ => by kernel_rfl
  v4 := fun _ => by kernel_rfl
  i4 := by kernel_rfl
  t5 := by kernel_rfl
  a5 := fun _ => by kernel_rfl
  z5 := fun _ => by kernel_rfl
  v5 := fun _ => by kernel_rfl
  i5 := by kernel_rfl
  t9 := by kernel_rfl
  a9 := fun _ => by kernel_rfl
  z9 := fun _ => by kernel_rfl
  v9 := fun _ => by kernel_rfl
  i9 := by kernel_rfl
  t37 := by kernel_rfl
  a37 := fun _ => by kernel_rfl
  z37 := fun _ => by kernel_rfl
  v37 := fun _ => by kernel_rfl
  i37 := by kernel_rfl
  t47 := by kernel_rfl
  a47 := fun _ => by kernel_rfl
  z47 := fun _ => by kernel_rfl
  v47 := fun _ => by kernel_rfl
  i47 := by kernel_rfl

theorem clone_any (s : ByteArray) (w : World) (hs : s.size ≤ 281474976710656) : Calls Tryz.prog 60 #[.string s] w fun e w' => e = .returned (.string s) ∧ Below w.heap.size w w' := by
  have C : Hid (Calls Tryz.prog 82 #[.string s] w fun e w' => e = .returned (.string s) ∧ Below w.heap.size w w') := AnyPu.stringslite_Clone cloneLays s w (by omega)
  go_enter Tryz.func60, Tryz.ntmps60
  go_wp2_with fail
  refine C.out.mono ?_
  rintro e w1 ⟨rfl, d1⟩
  have D := hid d1
  clear d1
  go_wp2_with fail
  go_ret
  exact ⟨rfl, D.out⟩
end Go.Proofs.YthefpclblejbgaaGreatDoor

namespace Go.Proofs.YthefpclblejbgaaGreatDoor
open Go Go.RowKit Go.Deep

def decV (neg : Bool) (s : ByteArray) (e : Int) : Value := .agg #[.bool neg, .string s, .int .i64 e]
/-- A value is this Dec. -/
def DecIs (v : Value) (d : Sc.D) : Prop := ∃ s, v = decV d.neg s d.e ∧ Str s d.ds

/-- Three cells that may be written. -/
def Row3 (w : World) (b : Nat) (v0 v1 v2 : Value) : Prop := w.heap[b]? = some (.cells #[v0, v1, v2] 35 (0, 0))
theorem Row3.new (w : World) (v0 v1 v2 : Value) : Row3 (w.alloc (.cells #[v0, v1, v2] 35)) w.heap.size v0 v1 v2 := heap_alloc_new w _
theorem Row3.below {B : Nat} {w w' : World} {b : Nat} {v0 v1 v2 : Value} (h : Row3 w b v0 v1 v2) (hB : Below B w w') (hb : b < B) : Row3 w' b v0 v1 v2 := by
  rw [Row3, hB.block b hb]; exact h
theorem Row3.lt {w : World} {b : Nat} {v0 v1 v2 : Value} (h : Row3 w b v0 v1 v2) : b < w.heap.size := by
  rcases Nat.lt_or_ge b w.heap.size with hl | hl
  · exact hl
  · simp [Row3, Array.getElem?_eq_none hl] at h
theorem Row3.cells {w : World} {b : Nat} {v0 v1 v2 : Value} (h : Row3 w b v0 v1 v2) :
    (w.cell? ⟨b, 0, none⟩ = some v0 ∧ w.cell? ⟨b, 1, none⟩ = some v1 ∧ w.cell? ⟨b, 2, none⟩ = some v2) ∧
    (w.frozen? ⟨b, 0, none⟩ = false ∧ w.frozen? ⟨b, 1, none⟩ = false ∧ w.frozen? ⟨b, 2, none⟩ = false) := by
  simp only [Row3] at h
  refine ⟨⟨?_, ?_, ?_⟩, ⟨?_, ?_, ?_⟩⟩ <;> simp [World.cell?, World.frozen?, h]
theorem Row3.put {w : World} {b : Nat} {v0 v1 v2 : Value} (h : Row3 w b v0 v1 v2) (u0 u1 u2 : Value) :
    Row3 (((w.setCell ⟨b, 0, none⟩ u0).setCell ⟨b, 1, none⟩ u1).setCell ⟨b, 2, none⟩ u2) b u0 u1 u2 := by
  have h0 := set1 (o := 0) (v := u0) (c' := #[u0, v1, v2]) h (by simp [Array.setIfInBounds])
  have h1 := set1 (o := 1) (v := u1) (c' := #[u0, u1, v2]) h0 (by simp [Array.setIfInBounds])
  exact set1 (o := 2) (v := u2) (c' := #[u0, u1, u2]) h1 (by simp [Array.setIfInBounds])
theorem Row3.far {w : World} {b c o : Nat} {v v0 v1 v2 : Value} (h : Row3 w b v0 v1 v2) (hc : c ≠ b) : Row3 (w.setCell ⟨c, o, none⟩ v) b v0 v1 v2 := by
  simp only [Row3] at *
  simp only [World.setCell, Array.getElem?_modify]
  rw [if_neg hc]; exact h
theorem set3_below {B : Nat} {w w' : World} {b : Nat} {u0 u1 u2 : Value} (h : Below B w w') (hb : B ≤ b) : Below B w (((w'.setCell ⟨b, 0, none⟩ u0).setCell ⟨b, 1, none⟩ u1).setCell ⟨b, 2, none⟩ u2) :=
  ((h.setCell (p := ⟨b, 0, none⟩) hb u0).setCell (p := ⟨b, 1, none⟩) hb u1).setCell (p := ⟨b, 2, none⟩) hb u2

/-- Two boxes for Decs, new. -/
def Two3 (w w' : World) (v0 v1 v2 u0 u1 u2 : Value) : Prop := Below w.heap.size w w' ∧ Row3 w' w.heap.size v0 v1 v2 ∧ Row3 w' (w.heap.size + 1) u0 u1 u2
theorem Two3.new (w : World) (v0 v1 v2 u0 u1 u2 : Value) : Two3 w ((w.alloc (.cells #[v0, v1, v2] 35)).alloc (.cells #[u0, u1, u2] 35)) v0 v1 v2 u0 u1 u2 :=
  ⟨below_on (alloc_b _ _) (alloc_b _ _), heap_alloc2_old _ _ _, heap_alloc2_new _ _ _⟩
theorem Two3.on {w w' w'' : World} {v0 v1 v2 u0 u1 u2 : Value} (h : Two3 w w' v0 v1 v2 u0 u1 u2) (k : Below w'.heap.size w' w'') : Two3 w w'' v0 v1 v2 u0 u1 u2 :=
  ⟨below_on h.1 k, h.2.1.below k h.2.1.lt, h.2.2.below k h.2.2.lt⟩
theorem Two3.putB {w w' : World} {v0 v1 v2 u0 u1 u2 : Value} (h : Two3 w w' v0 v1 v2 u0 u1 u2) (x0 x1 x2 : Value) : Two3 w (((w'.setCell ⟨w.heap.size + 1, 0, none⟩ x0).setCell ⟨w.heap.size + 1, 1, none⟩ x1).setCell ⟨w.heap.size + 1, 2, none⟩ x2) v0 v1 v2 x0 x1 x2 :=
  ⟨set3_below h.1 (Nat.le_succ _), ((h.2.1.far (by omega)).far (by omega)).far (by omega), h.2.2.put _ _ _⟩
theorem Two3.putA {w w' : World} {v0 v1 v2 u0 u1 u2 : Value} (h : Two3 w w' v0 v1 v2 u0 u1 u2) (x0 x1 x2 : Value) : Two3 w (((w'.setCell ⟨w.heap.size, 0, none⟩ x0).setCell ⟨w.heap.size, 1, none⟩ x1).setCell ⟨w.heap.size, 2, none⟩ x2) x0 x1 x2 u0 u1 u2 :=
  ⟨set3_below h.1 (Nat.le_refl _), h.2.1.put _ _ _, ((h.2.2.far (by omega)).far (by omega)).far (by omega)⟩

theorem str_zero : Str ⟨#[48]⟩ [48] := rfl

theorem dec_ret {v : Value} {d : Sc.D} {w w' : World} (h : DecIs v d) (b : Below w.heap.size w w') : ∃ v', Ending.returned v = .returned v' ∧ DecIs v' d ∧ Below w.heap.size w w' := ⟨v, rfl, h, b⟩

set_option maxRecDepth 100000 in
set_option maxHeartbeats 1000000 in
theorem dtrim_any (neg : Bool) (s : ByteArray) (xs : List Int) (e : Int) (w : World) (hs : Str s xs) (hn : xs.length ≤ 281474976710656) (e0 : -4611686018427387904 ≤ e) (e1 : e ≤ 4611686018427387904) :
    Calls Tryz.prog 47 #[decV neg s e] w fun r w' => ∃ v, r = .returned v ∧ DecIs v (Sc.nrm neg xs e) ∧ Below w.heap.size w w' := by
  have L := hid (fun wx => strim_any s xs wx hs (by omega))
  have HN := hid hn
  clear hs hn
  unfold decV
  go_enter Tryz.func47, Tryz.ntmps47
  go_wp2_with fail
  refine (L.out _).mono ?_
  rintro r w1 ⟨⟨s1, j, rfl, ⟨b1, b2, b3⟩, b4⟩, rfl⟩
  by_cases h : j = xs.length
  · have hs1 : s1 = ⟨#[]⟩ := b1.inj (by rw [List.drop_of_length_le (by omega)]; rfl)
    have F : Hid (Sc.nrm neg xs e = ⟨neg, [48], 0⟩) := Sc.nrm_of_none (fun i hi => b3 i (by omega))
    subst hs1
    clear b1 b2 b3 b4
    go_wp2_with fail
    (try simp only [Exit.inBlock, Exit.then])
    refine bodyPost_ret (results_cell_row rfl _ _ (w.heap.size + 1) 35 _ (0, 0) _ rfl (Two3.new w _ _ _ _ _ _).2.2 Tryz.underlying35 rfl (by kernel_rfl)) rfl ?_
    exact dec_ret (by rw [F.out]; exact ⟨_, rfl, str_zero⟩) (Two3.new w _ _ _ _ _ _).1
  · have hlt : j < xs.length := by omega
    have hne := b4 hlt
    have R := hid (fun wx => rtrim0_any s1 (xs.drop j) wx b1 (by have := HN.out; simp; omega))
    have hsz : s1.size = xs.length - j := by have := b1.size; simpa using this
    have q1 : s1.toList ≠ [] := by
      intro c
      have : s1.size = 0 := by
        rw [ByteArray.toList_eq] at c
        have := congrArg List.length c
        rw [Array.length_toList] at this
        exact this
      omega
    have q2 : (s1.toList == []) = false := by rw [beq_eq_false_iff_ne]; exact q1
    have q3 : s1.toList.isEmpty = false := by rw [List.isEmpty_eq_false_iff]; exact q1
    have N2 : Hid (∀ k, k ≤ (xs.drop j).length → (∀ i, k ≤ i → i < (xs.drop j).length → (xs.drop j).getD i 0 = 48) → (0 < k → (xs.drop j).getD (k - 1) 0 ≠ 48) → Sc.nrm neg xs e = ⟨neg, (xs.drop j).take k, e + (xs.drop j).length - k⟩ ∧ 0 < k) := fun k x1 x2 x3 => Sc.nrm_of_trims hlt b3 hne x1 x2 x3
    have HL : Hid ((xs.drop j).length = xs.length - j) := by show _ = _; simp
    obtain ⟨m, hm⟩ : ∃ m, xs.length - j = m := ⟨_, rfl⟩
    rw [hm] at hsz HL
    have hmb : (m : Int) ≤ 281474976710656 := by have := HN.out; omega
    clear b1 b2 b3 b4 hlt hne hm h
    go_wp2_with fail
    refine (R.out _).mono ?_
    rintro r w2 ⟨⟨s2, k, rfl, c1, c2, c3, c4⟩, rfl⟩
    have NN := hid (N2.out k c2 c3 c4)
    have hk2 : s2.size = k := by have := c1.size; rw [List.length_take] at this; omega
    have hkm : (k : Int) ≤ (m : Int) := by have := HL.out; omega
    have HC := hid c1
    clear c1 c2 c3 c4 R N2 L
    go_wp2_with fail
    (try simp only [Exit.inBlock, Exit.then])
    refine bodyPost_ret (results_cell_row rfl _ _ (w.heap.size + 1) 35 _ (0, 0) _ rfl (Two3.new w _ _ _ _ _ _).2.2 Tryz.underlying35 rfl (by kernel_rfl)) rfl ?_
    exact dec_ret (by rw [NN.out.1, HL.out]; exact ⟨_, rfl, HC.out⟩) (Two3.new w _ _ _ _ _ _).1
end Go.Proofs.YthefpclblejbgaaGreatDoor

namespace Go.Proofs.YthefpclblejbgaaGreatDoor
open Go Go.RowKit Go.Deep

theorem Two3.one {w w' : World} {v0 v1 v2 u0 u1 u2 : Value} (h : Two3 w w' v0 v1 v2 u0 u1 u2) (x : Value) : Two3 w (w'.setCell ⟨w.heap.size, 1, none⟩ x) v0 x v2 u0 u1 u2 :=
  ⟨h.1.setCell (p := ⟨w.heap.size, 1, none⟩) (Nat.le_refl _) x, set1 h.2.1 (by simp [Array.setIfInBounds]), h.2.2.far (by omega)⟩

set_option maxRecDepth 100000 in
theorem own_any (neg : Bool) (s : ByteArray) (e : Int) (w : World) (hs : s.size ≤ 281474976710656) :
    Calls Tryz.prog 46 #[decV neg s e] w fun r w' => r = .returned (decV neg s e) ∧ Below w.heap.size w w' := by
  have C := hid (fun wx => clone_any s wx hs)
  have Z := hid (Two3.new w (.bool neg) (.string s) (.int .i64 e) (.bool false) (.string ⟨#[]⟩) (.int .i64 0))
  unfold decV
  clear hs
  go_enter Tryz.func46, Tryz.ntmps46
  go_wp2_with fail
  refine (C.out _).mono ?_
  rintro r w1 ⟨rfl, hB⟩
  have S := hid (Z.out.on hB)
  obtain ⟨⟨c0, c1, c2⟩, f0, f1, f2⟩ := S.out.2.1.cells
  obtain ⟨⟨d0, d1, d2⟩, g0, g1, g2⟩ := S.out.2.2.cells
  clear hB Z C
  go_wp2_with fail
  (try simp only [Exit.inBlock, Exit.then])
  refine bodyPost_ret (results_cell_row rfl _ _ (w.heap.size + 1) 35 _ (0, 0) _ rfl ((S.out.one _).putB _ _ _).2.2 Tryz.underlying35 rfl (by kernel_rfl)) rfl ?_
  exact ⟨rfl, ((S.out.one _).putB _ _ _).1⟩

theorem nrm_ds_len (neg : Bool) (ds : List Int) (e : Int) (h : ds.length ≤ 281474976710655) : (Sc.nrm neg ds e).ds.length ≤ 281474976710656 := by
  have := Sc.nrm_len neg ds e
  omega
end Go.Proofs.YthefpclblejbgaaGreatDoor

namespace Go.Proofs.YthefpclblejbgaaGreatDoor
open Go Go.RowKit Go.Deep

theorem vret_bool {a b : Bool} (h : a = b) : Ending.returned (.bool a) = .returned (.bool b) := by rw [h]

theorem digit_any (x : Int) (w : World) (h0 : 0 ≤ x) (h1 : x < 256) : Calls Tryz.prog 44 #[.int .u8 x] w fun e w' => e = .returned (.bool (Sc.dg x)) ∧ w' = w := by
  go_enter Tryz.func44, Tryz.ntmps44
  go_wp2
  all_goals (go_ret; refine ⟨vret_bool ?_, rfl⟩)
  all_goals (rw [Bool.eq_iff_iff]; simp [Sc.dg]; omega)

theorem Str.pk {s : ByteArray} {xs : List Int} (h : Str s xs) (t : Nat) : ∀ ht : t < s.size, ((s[t]'ht).toNat : Int) = Sc.pk xs t := fun ht => h.at t ht
end Go.Proofs.YthefpclblejbgaaGreatDoor

namespace Go.Proofs.YthefpclblejbgaaGreatDoor
open Go Go.RowKit Go.Deep

/-- What slim, and Norm, tell of a Dec. -/
def nmd (neg : Bool) (ds : List Int) (e : Int) : Sc.D := if Sc.IsDec ds e then Sc.nrm neg ds e else ⟨false, [], 0⟩
theorem isdec_n {ds : List Int} {e : Int} {neg : Bool} (h1 : ds ≠ []) (h2 : -1152921504606846976 ≤ e) (h3 : e ≤ 1152921504606846976) (h4 : ∀ i, i < ds.length → Sc.dg (Sc.pk ds i) = true) : Sc.IsDec ds e ↔ (Sc.nrm neg ds e).e ≤ 1152921504606846976 := by
  have h4' : ∀ x ∈ ds, Sc.dg x = true := by
    intro x hx
    obtain ⟨i, hi, rfl⟩ := List.mem_iff_getElem.1 hx
    have := h4 i hi
    simpa [Sc.pk, List.getD, hi] using this
  by_cases c : Sc.lz ds = ds.length
  · rw [Sc.nrm_zero c]
    constructor
    · intro _; show (0 : Int) ≤ _; omega
    · intro _; exact ⟨h1, h2, h3, h4', fun h => absurd c h⟩
  · rw [Sc.nrm_pos c]
    constructor
    · intro h; exact h.2.2.2.2 c
    · intro h; exact ⟨h1, h2, h3, h4', fun _ => h⟩

theorem Str.ne {s : ByteArray} {xs : List Int} (h : Str s xs) (hx : xs ≠ []) : s.toList ≠ [] ∧ (s.toList == []) = false ∧ s.toList.isEmpty = false := by
  have e1 : s.toList ≠ [] := by
    intro c
    apply hx
    rw [ByteArray.toList_eq] at c
    rw [← h, c]
    rfl
  exact ⟨e1, by rw [beq_eq_false_iff_ne]; exact e1, by rw [List.isEmpty_eq_false_iff]; exact e1⟩

/-- What slim tells. -/
def SlimTold (neg : Bool) (ds : List Int) (e : Int) (w : World) (r : Ending) (w' : World) : Prop := ∃ v, r = .returned (.tuple #[v, .bool (decide (Sc.IsDec ds e))]) ∧ DecIs v (nmd neg ds e) ∧ Below w.heap.size w w'

theorem Two3.drew {w w' : World} {v0 v1 v2 u0 u1 u2 : Value} (h : Two3 w w' v0 v1 v2 u0 u1 u2) (n : Nat) : Two3 w (w'.drewN n) v0 v1 v2 u0 u1 u2 := ⟨below_drewN h.1 n, h.2.1, h.2.2⟩

set_option maxRecDepth 100000 in
set_option maxHeartbeats 2000000 in
theorem slim_any (neg : Bool) (s : ByteArray) (xs : List Int) (e : Int) (w : World) (hs : Str s xs) (hn : xs.length ≤ 281474976710656) :
    Calls Tryz.prog 31 #[decV neg s e] w fun r w' => SlimTold neg xs e w r w' := by
  have ZF : Hid (¬ Sc.IsDec xs e → ∀ w', Below w.heap.size w w' → SlimTold neg xs e w (.returned (.tuple #[.agg #[.bool false, .string ⟨#[]⟩, .int .i64 0], .bool false])) w') := fun z w' b => ⟨_, by rw [decide_eq_false z], by unfold nmd; rw [if_neg z]; exact ⟨_, rfl, str_nil0⟩, b⟩
  have hsz := hs.size
  by_cases h1 : xs = []
  · have Z2 := hid (ZF.out fun c => c.1 h1)
    have hs0 : s = ⟨#[]⟩ := hs.inj (by rw [h1]; rfl)
    subst hs0
    clear hs h1 ZF hn
    unfold decV
    go_enter Tryz.func31, Tryz.ntmps31
    go_wp2_with fail
    (try simp only [Exit.inBlock, Exit.then])
    refine bodyPost_ret (results_row_tmp rfl _ _ (w.heap.size + 1) 35 _ (0, 0) _ rfl (Two3.new w _ _ _ _ _ _).2.2 Tryz.underlying35 rfl (by kernel_rfl)) rfl ?_
    exact Z2.out _ (Two3.new w _ _ _ _ _ _).1
  · obtain ⟨q1, q2, q3⟩ := hs.ne h1
    by_cases h2 : -1152921504606846976 ≤ e ∧ e ≤ 1152921504606846976
    · obtain ⟨e0, e1⟩ := h2
      have T := hid (fun wx => dtrim_any neg s xs e wx hs hn (by omega) (by omega))
      have ID : Hid ((∀ i, i < xs.length → Sc.dg (Sc.pk xs i) = true) → (Sc.IsDec xs e ↔ (Sc.nrm neg xs e).e ≤ 1152921504606846976)) := isdec_n h1 e0 e1
      have IN : Hid (∀ j, j < xs.length → Sc.dg (Sc.pk xs j) = false → ¬ Sc.IsDec xs e) := fun j hj hd c => by
        have := c.2.2.2.1 (Sc.pk xs j) (by simp [Sc.pk, List.getD, hj])
        rw [hd] at this; exact absurd this (by simp)
      have DG := hid (fun (j : Nat) (wx : World) => digit_any (Sc.pk xs j) wx (hs.atb j).1 (hs.atb j).2)
      have HS := hid hs
      have HN := hid hn
      have NE := hid (Sc.nrm_e neg xs e)
      clear hs hn h1
      unfold decV
      go_enter Tryz.func31, Tryz.ntmps31
      go_wp2_with fail
      go_loop [22] (fun c => ∃ j : Nat, c = .int .i64 j ∧ Hid (j ≤ xs.length ∧ ∀ i, i < j → Sc.dg (Sc.pk xs i) = true)) (fun c => match c with | .int _ j => xs.length - j.toNat | _ => 0)
      case atStart => exact ⟨0, rfl, Nat.zero_le _, fun i hi => by omega⟩
      case round =>
        obtain ⟨j, rfl, I⟩ := hrel
        have hjb : (j : Int) ≤ 281474976710656 := by have := I.out.1; have := HN.out; omega
        by_cases hj : j < xs.length
        · have hji : (j : Int) < (xs.length : Int) := by omega
          have hx := HS.out.pk j
          have D := hid (fun wx => DG.out j wx)
          cases hd : Sc.dg (Sc.pk xs j) with
          | true =>
            rw [hd] at D
            have I2 : Hid (j + 1 ≤ xs.length ∧ ∀ i, i < j + 1 → Sc.dg (Sc.pk xs i) = true) := ⟨by omega, fun i hi => by
              by_cases c : i = j
              · subst c; exact hd
              · exact I.out.2 i (by omega)⟩
            clear hd I
            go_wp2_with fail
            refine (D.out _).mono ?_
            rintro r w1 ⟨rfl, rfl⟩
            go_wp2_with fail
            go_round
            case rel => exact ⟨j + 1, by go_num, I2.out⟩
            case measure => simp; omega
          | false =>
            rw [hd] at D
            have Z2 := hid (ZF.out (IN.out j hj hd))
            clear hd
            go_wp2_with fail
            refine (D.out _).mono ?_
            rintro r w1 ⟨rfl, rfl⟩
            go_wp2_with fail
            (try simp only [Exit.inBlock, Exit.then])
            refine bodyPost_ret (results_row_tmp rfl _ _ (w.heap.size + 1) 35 _ (0, 0) _ rfl (Two3.new w _ _ _ _ _ _).2.2 Tryz.underlying35 rfl (by kernel_rfl)) rfl ?_
            exact Z2.out _ (Two3.new w _ _ _ _ _ _).1
        · have hji : ¬ (j : Int) < (xs.length : Int) := by omega
          have ID2 := hid (ID.out fun i hi => I.out.2 i (by omega))
          have Z := hid (Two3.new w (.bool neg) (.string s) (.int .i64 e) (.bool false) (.string ⟨#[]⟩) (.int .i64 0))
          clear I
          go_wp2_with fail
          refine (T.out _).mono ?_
          rintro r w1 ⟨v, rfl, ⟨t, hv, ht⟩, hB⟩
          unfold decV at hv
          subst hv
          have S := hid ((Z.out.on hB).putA (.bool (Sc.nrm neg xs e).neg) (.string t) (.int .i64 (Sc.nrm neg xs e).e))
          obtain ⟨⟨c0, c1, c2⟩, f0, f1, f2⟩ := (Z.out.on hB).2.1.cells
          obtain ⟨⟨d0, d1, d2⟩, g0, g1, g2⟩ := (Z.out.on hB).2.2.cells
          have HT := hid ht
          clear hB ht Z T
          by_cases hb : (Sc.nrm neg xs e).e ≤ 1152921504606846976
          · have isd := ID2.out.2 hb
            have GG : Hid (∀ w', Below w.heap.size w w' → SlimTold neg xs e w (.returned (.tuple #[.agg #[.bool (Sc.nrm neg xs e).neg, .string t, .int .i64 (Sc.nrm neg xs e).e], .bool true])) w') := fun w' b => ⟨_, by rw [decide_eq_true isd], by unfold nmd; rw [if_pos isd]; exact ⟨t, rfl, HT.out⟩, b⟩
            clear isd ID ID2 IN NE
            generalize Sc.nrm neg xs e = N at *
            go_wp2_with fail
            (try simp only [Exit.inBlock, Exit.then])
            refine bodyPost_ret (results_row_tmp rfl _ _ (w.heap.size + 1) 35 _ (0, 0) _ rfl (S.out.putB _ _ _).2.2 Tryz.underlying35 rfl (by kernel_rfl)) rfl ?_
            exact GG.out _ (S.out.putB _ _ _).1
          · have Z2 := hid (ZF.out fun c => hb (ID2.out.1 c))
            have hb2 : 1152921504606846976 < (Sc.nrm neg xs e).e := by omega
            clear ID ID2 IN NE
            generalize Sc.nrm neg xs e = N at *
            go_wp2_with fail
            (try simp only [Exit.inBlock, Exit.then])
            refine bodyPost_ret (results_row_tmp rfl _ _ (w.heap.size + 1) 35 _ (0, 0) _ rfl (S.out.putB _ _ _).2.2 Tryz.underlying35 rfl (by kernel_rfl)) rfl ?_
            exact Z2.out _ (S.out.putB _ _ _).1
    · have Z2 := hid (ZF.out fun c => h2 ⟨c.2.1, c.2.2.1⟩)
      rcases (show e < -1152921504606846976 ∨ (-1152921504606846976 ≤ e ∧ 1152921504606846976 < e) by omega) with he | ⟨he0, he⟩
      all_goals
        clear hs hn h1 ZF h2
        unfold decV
        go_enter Tryz.func31, Tryz.ntmps31
        go_wp2_with fail
        (try simp only [Exit.inBlock, Exit.then])
        refine bodyPost_ret (results_row_tmp rfl _ _ (w.heap.size + 1) 35 _ (0, 0) _ rfl (Two3.new w _ _ _ _ _ _).2.2 Tryz.underlying35 rfl (by kernel_rfl)) rfl ?_
        exact Z2.out _ (Two3.new w _ _ _ _ _ _).1
end Go.Proofs.YthefpclblejbgaaGreatDoor
