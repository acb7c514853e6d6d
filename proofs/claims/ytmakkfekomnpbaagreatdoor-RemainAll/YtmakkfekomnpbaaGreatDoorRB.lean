/-
  Texts put together: IRatio, IRoomA, IFin, IIntg, MCmp, MRoundT, MTrunc, MRoundB, MFloor, RefNum, ZPush, ZRef1A, ZRef2.
-/
import Derived.Test.YtmakkfekomnpbaaGreatDoorRA
import Derived.Test.YtmakkfekomnpbaaGreatDoorQDivOk
import Derived.Test.YtmakkfekomnpbaaGreatDoorMem
import Derived.Test.YtmakkfekomnpbaaGreatDoorIKinds
import Derived.Test.YtmakkfekomnpbaaGreatDoorFromW
import Derived.Deep.RegionWith
import Derived.BigQuiet
import Derived.Test.YtmakkfekomnpbaaGreatDoorIWalk1B
import Derived.Test.YtmakkfekomnpbaaGreatDoorWalk5a
import Derived.BigRegion
import Derived.Test.YtmakkfekomnpbaaGreatDoorNums
import Derived.Test.YtmakkfekomnpbaaGreatDoorSmall
/-
  ieee: ratio (where the divisor leaves room), Round, RoundRatio.
-/
namespace Go.Proofs.YtmakkfekomnpbaaGreatDoor
open Go Go.RowKit Go.Deep

namespace Ie
/-- What is told of a fraction: the whole part of it moved, how far, and whether there is a rest. -/
def Quo (n d Q sh : Int) (rest : Bool) : Prop := ∀ e x, Rnd Q 1 (e - sh) rest x → Rnd n d e false x

theorem quo_up (V D : Int) (L M s : Nat) (hv : 2 ^ (L - 1) ≤ V) (hl : 1 ≤ L) (d0 : 0 < D) (hd : D < 2 ^ M) (hs : L + s = M + 64) : Quo V D (V * 2 ^ s / D) s (decide (V * 2 ^ s % D ≠ 0)) := by
  intro e x h
  refine Rnd.num s (rnd_floor (V * 2 ^ s) D (e - s) x d0 ?_ h)
  rw [Int.le_ediv_iff_mul_le d0]
  have g1 : (2 : Int) ^ (L - 1 + s) ≤ V * 2 ^ s := by rw [Nm.two_add]; exact Int.mul_le_mul_of_nonneg_right hv (by have := Nm.two_pos s; omega)
  rw [show L - 1 + s = 63 + M by omega, Nm.two_add] at g1
  have e63 : (2 : Int) ^ 63 = 9223372036854775808 := by decide
  rw [e63] at g1
  have := Nm.two_pos M
  omega

theorem quo_down (V D : Int) (L M s : Nat) (v0 : 0 < V) (hv : 2 ^ (L - 1) ≤ V) (hl : 1 ≤ L) (d0 : 0 < D) (hd : D < 2 ^ M) (hs : L = M + 64 + s) : Quo V D (V / 2 ^ s / D) (-(s : Int)) (decide (V % 2 ^ s ≠ 0) || decide (V / 2 ^ s % D ≠ 0)) := by
  have hp := Nm.two_pos s
  have hD : 0 < D * 2 ^ s := Int.mul_pos d0 hp
  have a1 := Int.mul_ediv_add_emod V (2 ^ s)
  have a2 := Int.emod_nonneg V (show (2 : Int) ^ s ≠ 0 by omega)
  have a3 := Int.emod_lt_of_pos V hp
  have b1 := Int.mul_ediv_add_emod (V / 2 ^ s) D
  have b2 := Int.emod_nonneg (V / 2 ^ s) (show D ≠ 0 by omega)
  have b3 := Int.emod_lt_of_pos (V / 2 ^ s) d0
  generalize V % 2 ^ s = r1 at *
  generalize V / 2 ^ s = q1 at *
  generalize q1 % D = r2 at *
  generalize q1 / D = q at *
  have c0 : 0 ≤ 2 ^ s * r2 := Int.mul_nonneg (by omega) b2
  have c1 : 2 ^ s * (r2 + 1) ≤ 2 ^ s * D := Int.mul_le_mul_of_nonneg_left (by omega) (by omega)
  rw [Int.mul_add, Int.mul_one, Int.mul_comm (2 ^ s) D] at c1
  have key : q * (D * 2 ^ s) + (2 ^ s * r2 + r1) = V := by
    rw [← a1, ← b1, Int.mul_add, ← Int.add_assoc]
    congr 2
    ac_rfl
  obtain ⟨k1, k2⟩ := div_is (A := V) (B := D * 2 ^ s) (q := q) (r := 2 ^ s * r2 + r1) (by omega) (by omega) key
  intro e x h
  refine Rnd.den s (rnd_floor V (D * 2 ^ s) (e + s) x hD ?_ ?_)
  · rw [Int.le_ediv_iff_mul_le hD]
    rw [show L - 1 = 63 + (M + s) by omega, Nm.two_add, Nm.two_add] at hv
    have e63 : (2 : Int) ^ 63 = 9223372036854775808 := by decide
    have g : D * 2 ^ s ≤ 2 ^ M * 2 ^ s := Int.mul_le_mul_of_nonneg_right (by omega) (by omega)
    rw [e63] at hv
    omega
  · rw [k1, k2]
    have e1 : decide (2 ^ s * r2 + r1 ≠ 0) = (decide (r1 ≠ 0) || decide (r2 ≠ 0)) := by
      rw [Bool.eq_iff_iff, Bool.or_eq_true, decide_eq_true_iff, decide_eq_true_iff, decide_eq_true_iff]
      rcases (show r2 = 0 ∨ 0 < r2 by omega) with h0 | h0
      · subst h0
        rw [Int.mul_zero]
        omega
      · have := Int.mul_pos hp h0
        omega
    rw [e1]
    rw [show e - -(s : Int) = e + s by omega] at h
    exact h
end Ie

/-- What ratio tells. -/
def RatioTold (V D : Int) (w : World) (e : Ending) (w' : World) : Prop :=
  ∃ r os Q sh rest, e = .returned (.tuple #[.slice r (List.length os) (List.length os), .int .i64 sh, .bool rest]) ∧ Ans w.heap.size w' r os Q ∧ Below w.heap.size w w' ∧ Nm.tsize os ≤ 4096 ∧ (-262144 ≤ sh ∧ sh ≤ 262208) ∧ Ie.Quo V D Q sh rest

theorem pos_len {B : Nat} {w : World} {r : Option Addr} {os : List Int} {v : Int} (h : Ans B w r os v) : decide (0 < os.length) = decide (v ≠ 0) := by
  have h1 := Nm.tsize_zero_iff h.2.1
  rw [h.2.2.1, h.2.2.2.1] at h1
  rw [decide_eq_decide]
  omega

theorem ans_small {B : Nat} {w : World} {r : Option Addr} {os : List Int} {v : Int} (h : Ans B w r os v) (k : Nat) (hv : v < Nm.pw k) : os.length ≤ k := by
  have := (Nm.tsize_le_iff h.2.1 k).2 (by rw [h.2.2.2.1]; exact hv)
  rw [h.2.2.1] at this
  exact this

set_option maxRecDepth 100000 in
set_option maxHeartbeats 2000000 in
theorem ratio_up (p q : Option Addr) (n cap m cap' : Nat) (zs ys : List Int) (w : World) (ha : Arg w p n cap zs) (hb : Arg w q m cap' ys) (tz : Nm.tsize zs ≤ 4096) (ty : Nm.tsize ys ≤ 4096) (V D : Int) (L M s : Nat) (hV : Nm.val zs = V) (hD : Nm.val ys = D) (hv : 0 < V) (hd : 0 < D)
    (hL : blen zs = (L : Int)) (hM : blen ys = (M : Int)) (BL : Nm.BLen V L) (BM : Nm.BLen D M) (hM2 : M + 64 ≤ 262144) (hs : L + s = M + 64) :
    Calls Tryz.prog 114 #[.slice p n cap, .slice q m cap'] w fun e w' => RatioTold V D w e w' := by
  have B1 := hid (bitLen_n L p n cap zs w ha hL)
  have B2 := hid (bitLen_n M q m cap' ys w hb hM)
  have hpw : V * 2 ^ s < Nm.pw 4096 := by
    have g1 : V * 2 ^ s < 2 ^ (L + s) := by rw [Nm.two_add]; exact Int.mul_lt_mul_of_pos_right BL.1 (Nm.two_pos s)
    have g2 := Nm.two_mono (show L + s ≤ 64 * 4096 by omega)
    rw [Nm.pw_two]
    omega
  have S := hid (fun (kk : Int) (hkk : kk = (s : Int)) => shl_any p n cap zs kk s w ha tz hkk (by rw [hV]; exact hpw))
  have Q := hid (Ie.quo_up V D L M s (BL.2.2 hv).2 (BL.2.2 hv).1 hd BM.1 hs)
  have HV := hid hV
  have HD := hid hD
  have HP := hid hpw
  have HB := hid hb
  have TY := hid ty
  have v1 : 0 < Nm.tsize ys := by
    rcases Nat.eq_zero_or_pos (Nm.tsize ys) with h | h
    · have := (Nm.tsize_zero_iff hb.2.2.2.2).1 h; omega
    · exact h
  have HY := hid v1
  have l1 : decide (262144 < (M : Int) + 64) = false := by simp; omega
  have l2 : decide ((M : Int) + 64 - (L : Int) < 0) = false := by simp; omega
  have l3 : (L : Int) ≤ 300000 := by omega
  have l4 : (M : Int) ≤ 300000 := by omega
  have ls := hid (show (M : Int) + 64 - (L : Int) = (s : Int) by omega)
  have HS := hid (show (s : Int) ≤ 262208 by omega)
  have vp := hid (show 0 ≤ V * 2 ^ s from Int.mul_nonneg (by omega) (by have := Nm.two_pos s; omega))
  have hdd := hid hd
  clear ha hb tz ty hV hD hv hd hL hM BL BM hM2 hs hpw v1
  go_enter Tryz.func114, Tryz.ntmps114
  go_wp2_with fail
  refine B2.out.mono ?_
  rintro e w' ⟨rfl, rfl⟩
  go_wp2_with fail
  refine B1.out.mono ?_
  rintro e w' ⟨rfl, rfl⟩
  go_wp2_with fail
  refine (S.out _ ls.out).mono ?_
  rintro e w1 ⟨r, os, rfl, A, hB⟩
  rw [HV.out] at A
  have A1 := ans_small A 4096 HP.out
  have hb1 := HB.out.below hB (Nat.le_refl _)
  have DM := divMod_ok r q _ _ m cap' os ys w1 (A.arg (by omega)) hb1 (by rw [A.2.2.1]; exact A1) TY.out HY.out
  rw [A.2.2.2.1, HD.out] at DM
  have DM := hid DM
  have HB1 := hid hB
  clear A A1 hb1 hB S B1 B2 HB
  go_wp2_with fail
  refine DM.out.mono ?_
  rintro e w2 ⟨r1, qs, r2, rs, rfl, A2, A3, hB2⟩
  have P3 := hid (pos_len A3)
  have vq : V * 2 ^ s / D < Nm.pw 4096 := by
    have := Int.ediv_le_self D vp.out
    have := HP.out
    omega
  have ch := HB1.out.trans (hB2.mono HB1.out.size)
  have K : Hid (∀ sh rest, sh = (s : Int) → rest = decide (V * 2 ^ s % D ≠ 0) → RatioTold V D w' (.returned (.tuple #[.slice r1 (List.length qs) (List.length qs), .int .i64 sh, .bool rest])) w2) := by
    intro sh rest hsh hrest
    subst hsh hrest
    have A2' : Ans w'.heap.size w2 r1 qs (V * 2 ^ s / D) := ⟨A2.1, A2.2.1, A2.2.2.1, A2.2.2.2.1, fun a h => by have := A2.2.2.2.2 a h; have := HB1.out.size; omega⟩
    exact ⟨r1, qs, _, _, _, rfl, A2', ch, by rw [A2.2.2.1]; exact ans_small A2 4096 vq, ⟨by have := HS.out; omega, by have := HS.out; omega⟩, Q.out⟩
  clear A2 A3 vq ch hB2 DM HB1 Q HV HD HP TY HY vp hdd
  go_wp2_with fail
  go_ret3
  exact K.out _ _ ls.out P3.out
set_option maxRecDepth 100000 in
set_option maxHeartbeats 2000000 in
theorem ratio_down (p q : Option Addr) (n cap m cap' : Nat) (zs ys : List Int) (w : World) (ha : Arg w p n cap zs) (hb : Arg w q m cap' ys) (tz : Nm.tsize zs ≤ 4096) (ty : Nm.tsize ys ≤ 4096) (V D : Int) (L M s : Nat) (hV : Nm.val zs = V) (hD : Nm.val ys = D) (hv : 0 < V) (hd : 0 < D)
    (hL : blen zs = (L : Int)) (hM : blen ys = (M : Int)) (BL : Nm.BLen V L) (BM : Nm.BLen D M) (hM2 : M + 64 ≤ 262144) (hL2 : L ≤ 262144) (hs : L = M + 64 + s) (hs0 : 0 < s) (hT : Tab w) :
    Calls Tryz.prog 114 #[.slice p n cap, .slice q m cap'] w fun e w' => RatioTold V D w e w' := by
  have B1 := hid (bitLen_n L p n cap zs w ha hL)
  have B2 := hid (bitLen_n M q m cap' ys w hb hM)
  have hp := Nm.two_pos s
  have hpw : V / 2 ^ s < Nm.pw 4096 := by
    have g1 := Int.ediv_le_self (2 ^ s) (show 0 ≤ V by omega)
    have g2 := Nm.two_mono (show L ≤ 64 * 4096 by omega)
    have := BL.1
    rw [Nm.pw_two]
    omega
  have S := hid (fun (kk : Int) (hkk : kk = (s : Int)) => shr_any p n cap zs kk s w ha hT tz hkk)
  have Q := hid (Ie.quo_down V D L M s hv (BL.2.2 hv).2 (BL.2.2 hv).1 hd BM.1 hs)
  have HV := hid hV
  have HD := hid hD
  have HP := hid hpw
  have HB := hid hb
  have TY := hid ty
  have v1 : 0 < Nm.tsize ys := by
    rcases Nat.eq_zero_or_pos (Nm.tsize ys) with h | h
    · have := (Nm.tsize_zero_iff hb.2.2.2.2).1 h; omega
    · exact h
  have HY := hid v1
  have l1 : decide (262144 < (M : Int) + 64) = false := by simp; omega
  have l2 : (M : Int) + 64 - (L : Int) < 0 := by omega
  have l3 : (L : Int) ≤ 300000 := by omega
  have l4 : (M : Int) ≤ 300000 := by omega
  have ls := hid (show (M : Int) + 64 - (L : Int) = -(s : Int) by omega)
  have HS := hid (show (s : Int) ≤ 262144 by omega)
  have vp := hid (show 0 ≤ V / 2 ^ s from Int.ediv_nonneg (by omega) (by omega))
  obtain ⟨lost, hlost⟩ : ∃ lost, decide (V % 2 ^ s ≠ 0) = lost := ⟨_, rfl⟩
  rw [hlost] at Q
  have HLO := hid hlost
  have hdd := hid hd
  clear ha hb tz ty hV hD hv hd hL hM BL BM hM2 hs hs0 hpw v1 hT hL2 hp hlost
  go_enter Tryz.func114, Tryz.ntmps114
  go_wp2_with fail
  refine B2.out.mono ?_
  rintro e w' ⟨rfl, rfl⟩
  go_wp2_with fail
  refine B1.out.mono ?_
  rintro e w' ⟨rfl, rfl⟩
  go_wp2_with fail
  refine (S.out _ (by have := ls.out; omega)).mono ?_
  rintro e w1 ⟨r, os, rfl, A, hB⟩
  rw [HV.out] at A ⊢
  rw [HLO.out]
  have A1 := ans_small A 4096 HP.out
  have hb1 := HB.out.below hB (Nat.le_refl _)
  have DM := divMod_ok r q _ _ m cap' os ys w1 (A.arg (by omega)) hb1 (by rw [A.2.2.1]; exact A1) TY.out HY.out
  rw [A.2.2.2.1, HD.out] at DM
  have DM := hid DM
  have HB1 := hid hB
  clear A A1 hb1 hB S B1 B2 HB
  go_wp2_with fail
  refine DM.out.mono ?_
  rintro e w2 ⟨r1, qs, r2, rs, rfl, A2, A3, hB2⟩
  have P3 := hid (pos_len A3)
  have vq : V / 2 ^ s / D < Nm.pw 4096 := by
    have := Int.ediv_le_self D vp.out
    have := HP.out
    omega
  have ch := HB1.out.trans (hB2.mono HB1.out.size)
  have K : Hid (∀ sh rest, sh = -(s : Int) → rest = (lost || decide (V / 2 ^ s % D ≠ 0)) → RatioTold V D w' (.returned (.tuple #[.slice r1 (List.length qs) (List.length qs), .int .i64 sh, .bool rest])) w2) := by
    intro sh rest hsh hrest
    subst hsh hrest
    have A2' : Ans w'.heap.size w2 r1 qs (V / 2 ^ s / D) := ⟨A2.1, A2.2.1, A2.2.2.1, A2.2.2.2.1, fun a h => by have := A2.2.2.2.2 a h; have := HB1.out.size; omega⟩
    exact ⟨r1, qs, _, _, _, rfl, A2', ch, by rw [A2.2.2.1]; exact ans_small A2 4096 vq, ⟨by have := HS.out; omega, by have := HS.out; omega⟩, Q.out⟩
  clear A2 A3 vq ch hB2 DM HB1 Q HV HD HP TY HY vp hdd
  cases lost
  · go_wp2_with fail
    go_ret3
    exact K.out _ _ ls.out (by rw [Bool.false_or]; exact P3.out)
  · go_wp2_with fail
    go_ret3
    exact K.out _ _ ls.out (by simp)

theorem ratio_any (p q : Option Addr) (n cap m cap' : Nat) (zs ys : List Int) (w : World) (ha : Arg w p n cap zs) (hb : Arg w q m cap' ys) (hT : Tab w) (tz : Nm.tsize zs ≤ 4096) (ty : Nm.tsize ys ≤ 4095) (V D : Int) (hV : Nm.val zs = V) (hD : Nm.val ys = D) (hv : 0 < V) (hd : 0 < D) :
    Calls Tryz.prog 114 #[.slice p n cap, .slice q m cap'] w fun e w' => RatioTold V D w e w' := by
  obtain ⟨L, hL, BL, hl, _⟩ := blen_is zs ha.2.2.2.2
  obtain ⟨M, hM, BM, hm, _⟩ := blen_is ys hb.2.2.2.2
  rw [hV] at BL
  rw [hD] at BM
  rcases Nat.lt_or_ge (M + 64) L with h | h
  · exact ratio_down p q n cap m cap' zs ys w ha hb tz (by omega) V D L M (L - (M + 64)) hV hD hv hd hL hM BL BM (by omega) (by omega) (by omega) (by omega) hT
  · exact ratio_up p q n cap m cap' zs ys w ha hb tz (by omega) V D L M (M + 64 - L) hV hD hv hd hL hM BL BM (by omega) (by omega)

set_option maxRecDepth 100000 in
set_option maxHeartbeats 2000000 in
theorem roundRatio_any (neg : Bool) (p q : Option Addr) (n cap m cap' : Nat) (zs ys : List Int) (w : World) (ha : Arg w p n cap zs) (hb : Arg w q m cap' ys) (hT : Tab w) (tz : Nm.tsize zs ≤ 4096) (ty : Nm.tsize ys ≤ 4095) (V D e : Int) (hV : Nm.val zs = V) (hD : Nm.val ys = D) (hd : 0 < D) :
    Calls Tryz.prog 83 #[.bool neg, .slice p n cap, .slice q m cap', .int .i64 e] w fun r w' => ∃ x, r = .returned (.tuple #[.int .u64 (Ie.sg neg x), .int .i64 0]) ∧ Ie.Rnd V D e false x ∧ Below w.heap.size w w' := by
  obtain ⟨L, hL, BL, hl, _⟩ := blen_is zs ha.2.2.2.2
  obtain ⟨M, hM, BM, hm, _⟩ := blen_is ys hb.2.2.2.2
  rw [hV] at BL
  rw [hD] at BM
  have B1 := hid (bitLen_n L p n cap zs w ha hL)
  have B2 := hid (bitLen_n M q m cap' ys w hb hM)
  have v0 : 0 ≤ V := by rw [← hV]; exact (Nm.val_bd zs ha.2.2.2.2).1
  have l1 : decide (262144 < (L : Int)) = false := by simp; omega
  have l2 : decide (262144 < (M : Int)) = false := by simp; omega
  have m0 : 0 < M := (BM.2.2 hd).1
  have l3 : ((M : Int) == 0) = false := by rw [beq_eq_false_iff_ne]; omega
  rcases (show V = 0 ∨ 0 < V by omega) with hv | hv
  · have hL0 : L = 0 := BL.2.1 hv
    subst hL0
    have R := hid (Ie.rnd_zero D e false hd)
    have SG := hid (signed_any neg 0 w (by omega) (by omega))
    subst hv
    clear ha hb hT tz ty hV hD hd hL hM BL BM hl hm v0 m0
    go_enter Tryz.func83, Tryz.ntmps83
    go_wp2_with fail
    refine B1.out.mono ?_
    rintro e' w' ⟨rfl, rfl⟩
    go_wp2_with fail
    refine B2.out.mono ?_
    rintro e' w' ⟨rfl, rfl⟩
    go_wp2_with fail
    refine B2.out.mono ?_
    rintro e' w' ⟨rfl, rfl⟩
    go_wp2_with fail
    refine B1.out.mono ?_
    rintro e' w' ⟨rfl, rfl⟩
    go_wp2_with fail
    refine SG.out.mono ?_
    rintro e' w' ⟨rfl, rfl⟩
    go_wp2_with fail
    go_ret2
    exact ⟨0, rfl, R.out, Below.refl _ _⟩
  · have RA := hid (ratio_any p q n cap m cap' zs ys w ha hb hT tz ty V D hV hD hv hd)
    have WI := hid (fun (x : Int) => Ie.win_ok (n := V) (d := D) (e := e) (x := x) (more := false) L M v0 BL.1 hd (by have := BM.1; omega) (by omega) (by omega))
    have W0 := hid (fun (wx : World) => within_any e wx)
    obtain ⟨we, hwe⟩ : ∃ we, Ie.win e = we := ⟨_, rfl⟩
    have wb := Ie.win_bd e
    rw [hwe] at wb W0 WI
    obtain ⟨wb1, wb2⟩ := wb
    have l0 : 0 < L := (BL.2.2 hv).1
    have l4 : ((L : Int) == 0) = false := by rw [beq_eq_false_iff_ne]; omega
    have HT := hid hT
    clear ha hb hT tz ty hV hD hd hL hM BL BM hl hm v0 m0 hwe l0 hv
    go_enter Tryz.func83, Tryz.ntmps83
    go_wp2_with fail
    refine B1.out.mono ?_
    rintro e' w' ⟨rfl, rfl⟩
    go_wp2_with fail
    refine B2.out.mono ?_
    rintro e' w' ⟨rfl, rfl⟩
    go_wp2_with fail
    refine B2.out.mono ?_
    rintro e' w' ⟨rfl, rfl⟩
    go_wp2_with fail
    refine B1.out.mono ?_
    rintro e' w' ⟨rfl, rfl⟩
    go_wp2_with fail
    refine RA.out.mono ?_
    rintro e' w1 ⟨r, os, Q, sh, rest, rfl, A, hB, to4, ⟨s1, s2⟩, QU⟩
    have lo : os.length ≤ 4096 := by rw [← A.2.2.1]; exact to4
    have NR := hid (nearest_any r _ _ os w1 (A.arg (by omega)) (HT.out.below hB) to4 Q (we - sh) rest A.2.2.2.1 (by omega) (by omega))
    have HB := hid hB
    have QQ := hid QU
    clear A hB to4 QU lo B1 B2 RA HT
    go_wp2_with fail
    refine (W0.out w1).mono ?_
    rintro e' w' ⟨rfl, rfl⟩
    go_wp2_with fail
    refine NR.out.mono ?_
    rintro e' w2 ⟨x, rfl, R, hB⟩
    have bd := R.bd
    have R1 := hid (WI.out x (QQ.out we x R))
    have SG := hid (signed_any neg x w2 bd.1 (by omega))
    have HB2 := hid (HB.out.trans (hB.mono HB.out.size))
    clear R bd hB
    go_wp2_with fail
    refine SG.out.mono ?_
    rintro e' w3 ⟨rfl, rfl⟩
    go_wp2_with fail
    go_ret2
    exact ⟨x, rfl, R1.out, HB2.out⟩
end Go.Proofs.YtmakkfekomnpbaaGreatDoor

/-
  Room for products and shifts.
-/
namespace Go.Proofs.YtmakkfekomnpbaaGreatDoor
open Go Go.RowKit Go.Deep

theorem alloc_below (w : World) (A : Obj) : Below w.heap.size w (w.alloc A) := Below.alloc (Below.refl _ _) (Nat.le_refl _) A

theorem lit_small {D m : Int} {L s : Nat} (hD : 0 ≤ D) (h1 : D < Nm.pw L) (m0 : 0 ≤ m) (h2 : m < 18446744073709551616) (hs : 64 * L + 64 + s ≤ 262144) : D * m * 2 ^ s < Nm.pw 4096 ∧ D * m < Nm.pw 4096 := by
  have e64 : (2 : Int) ^ 64 = 18446744073709551616 := by decide
  rw [Nm.pw_two] at h1
  have p0 := Nm.two_pos s
  have g1 : D * m ≤ D * 2 ^ 64 := Int.mul_le_mul_of_nonneg_left (by omega) hD
  have g2 : D * 2 ^ 64 < 2 ^ (64 * L) * 2 ^ 64 := Int.mul_lt_mul_of_pos_right h1 (by omega)
  rw [← Nm.two_add] at g2
  have g3 : D * m < 2 ^ (64 * L + 64) := by omega
  have g4 : D * m * 2 ^ s < 2 ^ (64 * L + 64) * 2 ^ s := Int.mul_lt_mul_of_pos_right g3 p0
  rw [← Nm.two_add] at g4
  rw [Nm.pw_two]
  have g5 := Nm.two_mono (show 64 * L + 64 + s ≤ 64 * 4096 by omega)
  have g6 := Nm.two_mono (show 64 * L + 64 ≤ 64 * 4096 by omega)
  omega

theorem shl_room {V : Int} {L t : Nat} (h1 : V < Nm.pw L) (ht : 64 * L + t ≤ 262144) : V * 2 ^ t < Nm.pw 4096 := by
  rw [Nm.pw_two] at h1
  have g1 : V * 2 ^ t < 2 ^ (64 * L) * 2 ^ t := Int.mul_lt_mul_of_pos_right h1 (Nm.two_pos t)
  rw [← Nm.two_add] at g1
  have g2 := Nm.two_mono (show 64 * L + t ≤ 64 * 4096 by omega)
  rw [Nm.pw_two]
  omega

end Go.Proofs.YtmakkfekomnpbaaGreatDoor

/-
  ieee: finite, FromUint.
-/
namespace Go.Proofs.YtmakkfekomnpbaaGreatDoor
open Go Go.RowKit Go.Deep

set_option maxRecDepth 100000 in
theorem finite_any (d : Int) (w : World) (h0 : 0 ≤ d) (h1 : d < 18446744073709551616) :
    Calls Tryz.prog 101 #[.int .u64 d] w fun e w' => e = .returned (.bool (decide (d % 9223372036854775808 < 9218868437227405312))) ∧ w' = w := by
  have F := hid (field_any d w h0 h1)
  have fe : Ie.fld d = d % 9223372036854775808 / 4503599627370496 := by simp only [Ie.fld]; omega
  obtain ⟨f, hf⟩ : ∃ f, Ie.fld d = f := ⟨_, rfl⟩
  rw [hf] at F
  by_cases hc : f = 2047
  · have E : Hid (decide (d % 9223372036854775808 < 9218868437227405312) = false) := by rw [Hid, decide_eq_false_iff_not]; omega
    subst hc
    clear hf fe
    go_enter Tryz.func101, Tryz.ntmps101
    go_wp2_with fail
    refine F.out.mono ?_
    rintro e w' ⟨rfl, rfl⟩
    go_wp2_with fail
    go_ret
    exact ⟨by rw [E.out]; rfl, rfl⟩
  · have E : Hid (decide (d % 9223372036854775808 < 9218868437227405312) = true) := by rw [Hid, decide_eq_true_iff]; omega
    have hc' : (f == 2047) = false := by rw [beq_eq_false_iff_ne]; exact hc
    clear hf fe
    go_enter Tryz.func101, Tryz.ntmps101
    go_wp2_with fail
    refine F.out.mono ?_
    rintro e w' ⟨rfl, rfl⟩
    go_wp2_with fail
    go_ret
    exact ⟨by rw [E.out]; simp [hc], rfl⟩

set_option maxRecDepth 100000 in
theorem fromU_any (u : Int) (w : World) (hT : Tab w) (h0 : 0 ≤ u) (h1 : u < 18446744073709551616) :
    Calls Tryz.prog 73 #[.int .u64 u] w fun e w' => ∃ x, e = .returned (.int .u64 x) ∧ Ie.Rnd u 1 0 false x ∧ Below w.heap.size w w' := by
  have F := hid (fromUint_any u w h0 h1)
  have HT := hid hT
  have hp : Hid (u < Nm.pw 1) := h1
  clear hT
  go_enter Tryz.func73, Tryz.ntmps73
  go_wp2_with fail
  refine F.out.mono ?_
  rintro e w1 ⟨r, os, rfl, A, hB⟩
  have l1 := ans_small A 1 hp.out
  have N := hid (nearest_any r _ _ os w1 (A.arg (by omega)) (HT.out.below hB) (by rw [A.2.2.1]; omega) u 0 false A.2.2.2.1 (by omega) (by omega))
  have HB := hid hB
  clear A l1 hB F HT
  go_wp2_with fail
  refine N.out.mono ?_
  rintro e w2 ⟨x, rfl, R, hB2⟩
  have RR := hid R
  have HB2 := hid (HB.out.trans (hB2.mono HB.out.size))
  clear R hB2
  go_wp2_with fail
  go_ret
  exact ⟨x, rfl, RR.out, HB2.out⟩

theorem below_drew1 {B : Nat} {w w' : World} (h : Below B w w') : Below B w w'.drew := ⟨h.os, h.tape, h.output, h.size, h.block⟩

end Go.Proofs.YtmakkfekomnpbaaGreatDoor

/-
  ieee: Integral.
-/
namespace Go.Proofs.YtmakkfekomnpbaaGreatDoor
open Go Go.RowKit Go.Deep

theorem tz_is (x : Int) (n : Nat) (w : World) (hx : x = (n : Int)) (h1 : x < 18446744073709551616) (hT : Tab w) :
    Calls Tryz.prog 81 #[.int .u64 x] w fun e w' => e = .returned (.int .i64 (Lib.ctz 64 n)) ∧ w' = w := by
  subst hx
  exact Any7.bits_TrailingZeros64 tzLays n (by omega) w (fun _ => hT)

theorem ctz_int (n q t : Nat) (h : n = 2 ^ t * (2 * q + 1)) : (n : Int) = 2 ^ t * (2 * (q : Int) + 1) := by
  have e : ((2 ^ t * (2 * q + 1) : Nat) : Int) = 2 ^ t * (2 * (q : Int) + 1) := by simp
  rw [← e, ← h]

theorem tab_drewN {w : World} (h : Tab w) (n : Nat) : Tab (w.drewN n) := h.below (below_drewN (Below.refl _ _) n)

namespace Ie
/-- Whether it is a whole number. -/
def intg (d : Int) : Bool := decide (d % 9223372036854775808 < 9218868437227405312 ∧ vl (d % 9223372036854775808) = whp (d % 9223372036854775808) * 2 ^ 1075)

theorem intg_iff (r m q : Int) (t : Nat) (hm : man r = m) (h : m = 2 ^ t * (2 * q + 1)) : (vl r = whp r * 2 ^ 1075) ↔ 0 ≤ (ex r : Int) - 1074 + t := by
  have e1 : vl r = (2 * q + 1) * 2 ^ (t + ex r + 1) := by
    rw [vl, hm, h, Nm.two_succ, Nm.two_add]; ac_rfl
  constructor
  · intro he
    rcases (show 0 ≤ (ex r : Int) - 1074 + t ∨ t + ex r + 1 < 1075 by omega) with g | g
    · exact g
    · exfalso
      obtain ⟨s, hs⟩ : ∃ s, 1075 = (s + 1) + (t + ex r + 1) := ⟨1075 - (t + ex r + 1) - 1, by omega⟩
      rw [e1, hs, Nm.two_add (s + 1), ← Int.mul_assoc] at he
      have := Int.eq_of_mul_eq_mul_right (by have := Nm.two_pos (t + ex r + 1); omega) he
      exact Nm.odd_unique (this.trans (Int.mul_comm _ _))
  · intro g
    obtain ⟨s, hs⟩ : ∃ s, t + ex r + 1 = s + 1075 := ⟨t + ex r + 1 - 1075, by omega⟩
    rw [hs, Nm.two_add, ← Int.mul_assoc] at e1
    rw [whp, e1, Int.mul_ediv_cancel _ (by have := Nm.two_pos 1075; omega)]
end Ie

set_option maxRecDepth 100000 in
set_option maxHeartbeats 4000000 in
theorem integral_inf (d : Int) (w : World) (h0 : 0 ≤ d) (h1 : d < 18446744073709551616) (hr : 9218868437227405312 ≤ d % 9223372036854775808) :
    Calls Tryz.prog 70 #[.int .u64 d] w fun e w' => e = .returned (.bool false) ∧ Below w.heap.size w w' := by
  have F : Hid (∀ wx : World, Calls Tryz.prog 101 #[.int .u64 d] wx fun e w' => e = .returned (.bool false) ∧ w' = wx) := by
    intro wx
    have := finite_any d wx h0 h1
    rw [decide_eq_false (by omega)] at this
    exact this
  have D := hid (decode_any d w h0 h1)
  generalize decide (9223372036854775808 ≤ d) = neg at D
  generalize Ie.cls d = c at D
  generalize Ie.dm d = m at D
  generalize Ie.de d = x at D
  simp only [partsOf] at D
  clear hr
  go_enter Tryz.func70, Tryz.ntmps70
  go_wp2_with fail
  refine D.out.mono ?_
  rintro e w1 ⟨rfl, hB⟩
  have HB := hid hB
  clear hB D
  go_wp2_with fail
  have HB1 := hid (Below.alloc HB.out HB.out.size (.cells #[.bool neg, .int .i64 c, .int .u64 m, .int .i64 x] 40))
  generalize w1.alloc (.cells #[.bool neg, .int .i64 c, .int .u64 m, .int .i64 x] 40) = wA at *
  go_quiet ((go_at_call 101; with_reducible exact Calls.quiet_of_same (F.out _)))
  go_wp2_with fail
  go_ret
  exact ⟨rfl, below_drewN HB1.out _⟩

set_option maxRecDepth 100000 in
set_option maxHeartbeats 4000000 in
theorem integral_fin (d : Int) (w : World) (hT : Tab w) (h0 : 0 ≤ d) (h1 : d < 18446744073709551616) (hr : d % 9223372036854775808 < 9218868437227405312) (t : Nat) (ht : t ≤ 64) (m x : Int) (hm : Ie.dm d = m) (hx : Ie.de d = x) (hxb : -1074 ≤ x ∧ x ≤ 971) (hmb : 0 ≤ m ∧ m < 18446744073709551616) (hct : Lib.ctz 64 m.toNat = t) :
    Calls Tryz.prog 70 #[.int .u64 d] w fun e w' => e = .returned (.bool (decide (0 ≤ x + t))) ∧ Below w.heap.size w w' := by
  have F : Hid (∀ wx : World, Calls Tryz.prog 101 #[.int .u64 d] wx fun e w' => e = .returned (.bool true) ∧ w' = wx) := by
    intro wx
    have := finite_any d wx h0 h1
    rw [decide_eq_true hr] at this
    exact this
  have Z : Hid (∀ wx : World, Tab wx → Calls Tryz.prog 81 #[.int .u64 m] wx fun e w' => e = .returned (.int .i64 (t : Int)) ∧ w' = wx) := by
    intro wx hx
    have := tz_is m m.toNat wx (by omega) hmb.2 hx
    rw [hct] at this
    exact this
  have D := hid (decode_any d w h0 h1)
  rw [hm, hx] at D
  generalize decide (9223372036854775808 ≤ d) = neg at D
  generalize Ie.cls d = c at D
  simp only [partsOf] at D
  obtain ⟨x0, x1⟩ := hxb
  have t1 : (t : Int) ≤ 64 := by omega
  have HT := hid hT
  clear hr hm hx hmb hct hT ht
  go_enter Tryz.func70, Tryz.ntmps70
  go_wp2_with fail
  refine D.out.mono ?_
  rintro e w1 ⟨rfl, hB⟩
  have HB := hid hB
  clear hB D
  go_wp2_with fail
  have HB1 := hid (Below.alloc HB.out HB.out.size (.cells #[.bool neg, .int .i64 c, .int .u64 m, .int .i64 x] 40))
  have hg := heap_alloc_new w1 (.cells #[.bool neg, .int .i64 c, .int .u64 m, .int .i64 x] 40)
  have p2 : (w1.alloc (.cells #[.bool neg, .int .i64 c, .int .u64 m, .int .i64 x] 40)).cell? ⟨w1.heap.size, 2, none⟩ = some (.int .u64 m) := by simp only [World.cell?, hg]; rfl
  have p3 : (w1.alloc (.cells #[.bool neg, .int .i64 c, .int .u64 m, .int .i64 x] 40)).cell? ⟨w1.heap.size, 3, none⟩ = some (.int .i64 x) := by simp only [World.cell?, hg]; rfl
  clear hg
  generalize w1.alloc (.cells #[.bool neg, .int .i64 c, .int .u64 m, .int .i64 x] 40) = wA at *
  have TA := HT.out.below HB1.out
  have ZZ := hid (fun (n : Nat) => Z.out (wA.drewN n) (tab_drewN TA n))
  clear TA
  go_quiet ((first | (go_at_call 101; with_reducible exact Calls.quiet_of_same (F.out _)) | (go_at_call 81; with_reducible exact Calls.quiet_of_same (ZZ.out _))))
  go_wp2_with fail
  go_ret
  exact ⟨by simp, below_drewN HB1.out _⟩

/-- Integral. -/
theorem integral_any (d : Int) (w : World) (hT : Tab w) (h0 : 0 ≤ d) (h1 : d < 18446744073709551616) :
    Calls Tryz.prog 70 #[.int .u64 d] w fun e w' => e = .returned (.bool (Ie.intg d)) ∧ Below w.heap.size w w' := by
  by_cases hf : d % 9223372036854775808 < 9218868437227405312
  · have key : ∀ b : Bool, (b = true ↔ Ie.vl (d % 9223372036854775808) = Ie.whp (d % 9223372036854775808) * 2 ^ 1075) → Ie.intg d = b := by
      intro b hb
      rw [Ie.intg]
      cases b
      · rw [decide_eq_false_iff_not]; intro hh; have := hb.2 hh.2; cases this
      · rw [decide_eq_true_iff]; exact ⟨hf, hb.1 rfl⟩
    rcases Ie.dec_kinds d _ rfl with ⟨c, m, x, k1⟩ | ⟨c, m, x, k1, k2⟩ | ⟨c, m, x, k1, k2⟩ | ⟨c, m, x, k1⟩ | ⟨c, m, x, k1, k2⟩
    · have := integral_fin d w hT h0 h1 hf 64 (by omega) 0 0 m x (by omega) (by omega) rfl
      rw [key true ⟨fun _ => by rw [k1, Ie.vl_zero, Ie.whp_zero, Int.zero_mul], fun _ => rfl⟩]
      exact this
    · have e0 : Ie.ex (d % 9223372036854775808) = 0 := by rw [Ie.ex]; omega
      have m0 : Ie.man (d % 9223372036854775808) = d % 9223372036854775808 := by rw [Ie.man, if_pos k2]
      obtain ⟨n, hn⟩ := Int.eq_ofNat_of_zero_le (show 0 ≤ d % 9223372036854775808 by omega)
      obtain ⟨q, hq, hlt⟩ := Lib.ctzFrom_spec 64 n (by omega) (by simpa using (show n < 18446744073709551616 by omega))
      have hc : Lib.ctz 64 (d % 9223372036854775808).toNat = Lib.ctzFrom 64 n := by rw [hn, Int.toNat_natCast, Lib.ctz, if_neg (by omega)]
      have hi := Ie.intg_iff (d % 9223372036854775808) (d % 9223372036854775808) (q : Int) (Lib.ctzFrom 64 n) m0 (by rw [hn]; exact ctz_int n q _ hq)
      have := integral_fin d w hT h0 h1 hf _ (by omega) _ _ m x (by omega) (by omega) hc
      rw [key (decide (0 ≤ (-1074 : Int) + (Lib.ctzFrom 64 n : Int))) (by rw [hi, e0, decide_eq_true_iff]; omega)]
      exact this
    · have mb := Ie.man_nn (d % 9223372036854775808) (by omega)
      have mp : 0 < Ie.man (d % 9223372036854775808) := by rw [Ie.man, if_neg (by omega)]; omega
      have eb : (Ie.ex (d % 9223372036854775808) : Int) ≤ 2045 := by simp only [Ie.ex]; omega
      obtain ⟨n, hn⟩ := Int.eq_ofNat_of_zero_le mb.1
      obtain ⟨q, hq, hlt⟩ := Lib.ctzFrom_spec 64 n (by omega) (by simpa using (show n < 18446744073709551616 by omega))
      have hc : Lib.ctz 64 (Ie.man (d % 9223372036854775808)).toNat = Lib.ctzFrom 64 n := by rw [hn, Int.toNat_natCast, Lib.ctz, if_neg (by omega)]
      have hi := Ie.intg_iff (d % 9223372036854775808) _ (q : Int) (Lib.ctzFrom 64 n) hn (ctz_int n q _ hq)
      have := integral_fin d w hT h0 h1 hf _ (by omega) _ _ m x (by omega) (by omega) hc
      rw [key (decide (0 ≤ (Ie.ex (d % 9223372036854775808) : Int) - 1074 + (Lib.ctzFrom 64 n : Int))) (by rw [hi, decide_eq_true_iff])]
      exact this
    · omega
    · omega
  · have : Ie.intg d = false := by rw [Ie.intg, decide_eq_false_iff_not]; intro h; exact hf h.1
    rw [this]
    exact integral_inf d w h0 h1 (by omega)
end Go.Proofs.YtmakkfekomnpbaaGreatDoor

/-
  cmp.Compare of two uint64; masks.
-/
namespace Go.Proofs.YtmakkfekomnpbaaGreatDoor
open Go Go.RowKit Go.Deep

set_option maxRecDepth 100000 in
theorem uNaN_any (x : Int) (w : World) : Calls Tryz.prog 102 #[.int .u64 x] w fun e w' => e = .returned (.bool false) ∧ w' = w := by
  go_enter Tryz.func102, Tryz.ntmps102
  go_wp2
  go_ret
  exact ⟨by simp, rfl⟩

set_option maxRecDepth 100000 in
theorem ucmp_any (x y : Int) (w : World) : Calls Tryz.prog 72 #[.int .u64 x, .int .u64 y] w fun e w' => e = .returned (.int .i64 (cmpI x y)) ∧ w' = w := by
  by_cases h1 : x < y
  · have E : Hid (cmpI x y = -1) := by exact cmpI_lt h1
    go_enter Tryz.func72, Tryz.ntmps72
    go_wp2_with fail
    refine (uNaN_any x w).mono ?_
    rintro e w' ⟨rfl, rfl⟩
    go_wp2_with fail
    refine (uNaN_any y _).mono ?_
    rintro e w' ⟨rfl, rfl⟩
    go_wp2_with fail
    go_ret
    exact ⟨i_retI E.out.symm, rfl⟩
  · by_cases h2 : y < x
    · have E : Hid (cmpI x y = 1) := by exact cmpI_gt h2
      go_enter Tryz.func72, Tryz.ntmps72
      go_wp2_with fail
      refine (uNaN_any x w).mono ?_
      rintro e w' ⟨rfl, rfl⟩
      go_wp2_with fail
      refine (uNaN_any y _).mono ?_
      rintro e w' ⟨rfl, rfl⟩
      go_wp2_with fail
      go_ret
      exact ⟨i_retI E.out.symm, rfl⟩
    · have E : Hid (cmpI x y = 0) := by exact cmpI_eq (by omega)
      go_enter Tryz.func72, Tryz.ntmps72
      go_wp2_with fail
      refine (uNaN_any x w).mono ?_
      rintro e w' ⟨rfl, rfl⟩
      go_wp2_with fail
      refine (uNaN_any y _).mono ?_
      rintro e w' ⟨rfl, rfl⟩
      go_wp2_with fail
      go_ret
      exact ⟨i_retI E.out.symm, rfl⟩

namespace Ib
theorem mask_and (d : Int) (j : Nat) (h0 : 0 ≤ d) (h1 : d < 18446744073709551616) (hj : j ≤ 63) : bits .and .u64 d (2 ^ j - 1) = d % 2 ^ j := by
  obtain ⟨a, rfl⟩ := Int.eq_ofNat_of_zero_le h0
  have hp : (2 : Nat) ^ j ≤ 2 ^ 63 := Nat.pow_le_pow_right (by omega) hj
  have hq : 0 < (2 : Nat) ^ j := Nat.pow_pos (by omega)
  have e63 : (2 : Nat) ^ 63 = 9223372036854775808 := by decide
  have h := u64_and_nat a (2 ^ j - 1) (by omega) (by omega)
  have e : (((2 ^ j - 1 : Nat)) : Int) = 2 ^ j - 1 := by
    rw [Int.ofNat_sub (by omega)]; simp
  rw [e] at h
  rw [h, Nat.and_two_pow_sub_one_eq_mod]
  simp

theorem or_zero (d : Int) (h0 : 0 ≤ d) (h1 : d < 18446744073709551616) : bits .or .u64 d 0 = d := by
  obtain ⟨a, rfl⟩ := Int.eq_ofNat_of_zero_le h0
  have h := u64_or_nat a 0 (by omega) (by omega)
  rw [show ((0 : Nat) : Int) = 0 from rfl] at h
  rw [h, Nat.or_zero]
end Ib
end Go.Proofs.YtmakkfekomnpbaaGreatDoor

/-
  remain: rounded.
-/
namespace Go.Proofs.YtmakkfekomnpbaaGreatDoor
open Go Go.RowKit Go.Deep

/-- What a number between two whole ones goes to: W or W + 1. -/
def Ie.wup (W : Int) (up : Bool) : Int := if up = true then W + 1 else W

set_option maxRecDepth 100000 in
set_option maxHeartbeats 4000000 in
theorem rounded_T (up : Bool) (d : Int) (k s : Nat) (w : World) (hT : Tab w) (h0 : 0 ≤ d) (h1 : d < 18446744073709551616) (hf : Ie.fin d) (hi : Ie.intg d = false) (hx : Ie.de d = -(k : Int)) (k1 : 1 ≤ k) (k2 : k ≤ 1074) (hs : min k 63 = s + 1)
    (AW : ∀ wx : World, Below w.heap.size w wx → Calls Tryz.prog 37 #[.bool (Ie.dm d / 2 ^ (s + 1) % 2 == 1), .int .i64 (cmpI (Ie.dm d % 2 ^ (s + 1)) (2 ^ s))] wx fun e w' => e = .returned (.bool up) ∧ w' = wx) :
    Calls Tryz.prog 36 #[.int .u64 d, .func (Fn.func 37) #[] #[]] w fun e w' => ∃ y, e = .returned (.int .u64 (Ie.sg (Ie.ngd d) y)) ∧ Hid (Ie.Rnd (Ie.wup (Ie.dm d / 2 ^ (s + 1)) up) 1 0 false y) ∧ Below w.heap.size w w' := by
  have NN := hid (fun (wx : World) => mnan_any d wx h0 h1)
  have NI := hid (fun (wx : World) => minfinite_any d wx h0 h1)
  rw [(Ie.fin_kinds hf).1] at NN
  rw [(Ie.fin_kinds hf).2] at NI
  have IG := hid (fun (wx : World) (hx : Tab wx) => integral_any d wx hx h0 h1)
  rw [hi] at IG
  have D := hid (fun (wx : World) => decode_any d wx h0 h1)
  rw [← Ie.ngd, hx] at D
  obtain ⟨⟨m0, m1⟩, ⟨e0, e1⟩, -, -⟩ := Ie.dec_f d hf
  have HT := hid hT
  have WK : IntKind.i64.wrap (k : Int) = (k : Int) := by rw [IntKind.wrap_i64]; omega
  have hd : min (k : Int) 63 = ((s + 1 : Nat) : Int) := by omega
  obtain ⟨H, hH⟩ : ∃ H, IntKind.u64.wrap (2 ^ s) = H := ⟨_, rfl⟩
  have HB0 : 1 ≤ H ∧ H ≤ 4611686018427387904 ∧ H = 2 ^ s := by
    have g1 := Nm.two_mono (show s ≤ 62 by omega)
    have g2 := Nm.two_pos s
    have e62 : (2 : Int) ^ 62 = 4611686018427387904 := by decide
    rw [IntKind.wrap_u64, Int.emod_eq_of_lt (by omega) (by omega)] at hH
    exact ⟨by omega, by omega, hH.symm⟩
  obtain ⟨H0, H1, H2⟩ := HB0
  have HH2 := hid H2
  have hR : bits .and .u64 (Ie.dm d) (2 * H - 1) = Ie.dm d % 2 ^ (s + 1) := by
    have e : 2 * H - 1 = 2 ^ (s + 1) - 1 := by rw [H2, Nm.two_succ]
    rw [e]
    exact Ib.mask_and _ (s + 1) m0 (by omega) (by omega)
  rw [← H2] at AW
  obtain ⟨W, hW⟩ : ∃ W, Ie.dm d / 2 ^ (s + 1) = W := ⟨_, rfl⟩
  obtain ⟨R, hR2⟩ : ∃ R, Ie.dm d % 2 ^ (s + 1) = R := ⟨_, rfl⟩
  rw [hW, hR2] at AW
  rw [hR2] at hR
  rw [hW]
  have W0 : 0 ≤ W ∧ W < 9007199254740992 := by
    rw [← hW]
    have := Nm.two_pos (s + 1)
    exact ⟨Int.ediv_nonneg m0 (by omega), by have := Int.ediv_le_self (2 ^ (s + 1)) m0; omega⟩
  obtain ⟨W0, W1⟩ := W0
  have OA := Ib.one_and W W0 (by omega)
  have UC := hid (fun (wx : World) => ucmp_any R H wx)
  have AW := hid AW
  have SA := Ib.sign_and d h0 h1
  have FU : Hid (∀ wx : World, Tab wx → Calls Tryz.prog 73 #[.int .u64 (Ie.wup W up)] wx fun e w' => ∃ x, e = .returned (.int .u64 x) ∧ Ie.Rnd (Ie.wup W up) 1 0 false x ∧ Below wx.heap.size wx w') := by
    intro wx hx
    exact fromU_any _ wx hx (by rw [Ie.wup]; split <;> omega) (by rw [Ie.wup]; split <;> omega)
  have OR : Hid (∀ y : Int, Ie.Rnd (Ie.wup W up) 1 0 false y → bits .or .u64 y (d / 9223372036854775808 * 9223372036854775808) = Ie.sg (Ie.ngd d) y) := by
    intro y hy
    have b := hy.bd
    rcases (show d < 9223372036854775808 ∨ 9223372036854775808 ≤ d by omega) with g | g
    · rw [show d / 9223372036854775808 * 9223372036854775808 = 0 by omega, Ib.or_zero y b.1 (by omega), Ie.ngd, decide_eq_false (by omega)]; rfl
    · rw [show d / 9223372036854775808 * 9223372036854775808 = 9223372036854775808 by omega, Ib.sign_or y b.1 (by omega), Ie.ngd, decide_eq_true (by omega)]; rfl
  clear H2
  clear hT hf e0 e1 hi hx hs hR2
  simp only [partsOf] at D
  generalize Ie.ngd d = neg at *
  generalize Ie.dm d = m at *
  generalize d / 9223372036854775808 * 9223372036854775808 = sv at *
  generalize Ie.cls d = c at *
  go_enter Tryz.func36, Tryz.ntmps36
  go_wp2_with fail
  refine (NN.out _).mono ?_
  rintro e wz ⟨rfl, hz⟩
  replace hz := hz.symm
  subst hz
  go_wp2_with fail
  refine (NI.out _).mono ?_
  rintro e wz ⟨rfl, hz⟩
  replace hz := hz.symm
  subst hz
  go_wp2_with fail
  refine (IG.out _ HT.out).mono ?_
  rintro e w0 ⟨rfl, hB0⟩
  go_wp2_with fail
  refine (D.out _).mono ?_
  rintro e w1 ⟨rfl, hB1⟩
  have HB1 := hid (hB0.trans (hB1.mono hB0.size))
  clear hB0 hB1 NN NI D IG
  go_upto_region 6 with fail
  have hb := HB1.out.trans ((alloc_b w1 (.cells #[.bool neg, .int .i64 c, .int .u64 m, .int .i64 (-(k : Int))] 40)).mono HB1.out.size)
  have P := Row4.new w1 40 (.bool neg) (.int .i64 c) (.int .u64 m) (.int .i64 (-(k : Int)))
  have HT1 := hid (HT.out.below hb)
  have HB2 := hid hb
  obtain ⟨⟨-, -, p2, p3⟩, -⟩ := P.cells
  clear P hb HT HB1
  generalize w1.alloc (.cells #[.bool neg, .int .i64 c, .int .u64 m, .int .i64 (-(k : Int))] 40) = wA at *
  generalize w1.heap.size = b at *
  go_upto_region 8 with fail
  go_region
  have HT2 := hid (HT1.out.below (drew_nil wA))
  have HB3 := hid (HB2.out.trans ((drew_nil wA).mono HB2.out.size))
  clear HT1 HB2 p2 p3 hR hW
  generalize wA.drew = wB at *
  go_wp2_with fail
  refine (UC.out _).mono ?_
  rintro e wz ⟨rfl, hz⟩
  replace hz := hz.symm
  subst hz
  go_wp2_with fail
  refine (AW.out _ HB3.out).mono ?_
  rintro e wz ⟨rfl, hz⟩
  replace hz := hz.symm
  subst hz
  clear AW UC
  cases up
  · simp only [Ie.wup, Bool.false_eq_true, if_false] at FU OR ⊢
    go_wp2_with fail
    refine (FU.out _ HT2.out).mono ?_
    rintro e w5 ⟨y, rfl, hy, hB⟩
    have E := OR.out y hy
    have HY := hid hy
    have HB4 := hid (HB3.out.trans (hB.mono HB3.out.size))
    clear hy hB FU OR HB3
    go_wp2_with fail
    go_ret
    exact ⟨_, rfl, HY.out, HB4.out⟩
  · simp only [Ie.wup, if_true] at FU OR ⊢
    go_wp2_with fail
    refine (FU.out _ HT2.out).mono ?_
    rintro e w5 ⟨y, rfl, hy, hB⟩
    have E := OR.out y hy
    have HY := hid hy
    have HB4 := hid (HB3.out.trans (hB.mono HB3.out.size))
    clear hy hB FU OR HB3
    go_wp2_with fail
    go_ret
    exact ⟨_, rfl, HY.out, HB4.out⟩
end Go.Proofs.YtmakkfekomnpbaaGreatDoor

/-
  remain: rounded where nothing is to be rounded; Trunc.
-/
namespace Go.Proofs.YtmakkfekomnpbaaGreatDoor
open Go Go.RowKit Go.Deep

namespace Ie
theorem intg_iff_un {d : Int} (hf : fin d) : intg d = true ↔ un (ab d) % 2 ^ 1074 = 0 := by
  rw [intg, decide_eq_true_iff, ← intg_un, whp, ab]
  exact ⟨fun h => h.2, fun h => ⟨hf, h⟩⟩

theorem cmpI_iff {a b c d : Int} (h1 : a < b ↔ c < d) (h2 : a = b ↔ c = d) : cmpI a b = cmpI c d := by
  by_cases g1 : a < b
  · rw [cmpI_lt g1, cmpI_lt (h1.1 g1)]
  · by_cases g2 : a = b
    · rw [cmpI_eq g2, cmpI_eq (h2.1 g2)]
    · have k1 : ¬ c < d := fun h => g1 (h1.2 h)
      have k2 : ¬ c = d := fun h => g2 (h2.2 h)
      rw [cmpI_gt (by omega), cmpI_gt (by omega)]

/-- A number that isn't whole has bits behind the point. -/
theorem frac_k {d : Int} (hf : fin d) (hi : intg d = false) : ∃ k s : Nat, de d = -(k : Int) ∧ 1 ≤ k ∧ k ≤ 1074 ∧ min k 63 = s + 1 ∧ dm d / 2 ^ (s + 1) = un (ab d) / 2 ^ 1074 ∧ cmpI (dm d % 2 ^ (s + 1)) (2 ^ s) = cmpI (un (ab d) % 2 ^ 1074) (2 ^ 1073) := by
  obtain ⟨⟨m0, m1⟩, ⟨e0, e1⟩, g, -⟩ := dec_f d hf
  have hn : ¬ un (ab d) % 2 ^ 1074 = 0 := fun h => by rw [(intg_iff_un hf).2 h] at hi; cases hi
  have neg : de d < 0 := by
    rcases (show de d < 0 ∨ 0 ≤ de d by omega) with h | h
    · exact h
    · exfalso
      obtain ⟨j, hj⟩ : ∃ j : Nat, (j : Int) = de d := ⟨(de d).toNat, by omega⟩
      apply hn
      rw [← g (j + 1074) (by omega), Nm.two_add, ← Int.mul_assoc]
      exact Int.mul_emod_left _ _
  obtain ⟨k, hk⟩ : ∃ k : Nat, de d = -(k : Int) := ⟨(-de d).toNat, by omega⟩
  obtain ⟨s, hs⟩ : ∃ s : Nat, min k 63 = s + 1 := ⟨min k 63 - 1, by omega⟩
  obtain ⟨q1, q2, q3⟩ := whole_cut (U := un (ab d)) (k := k) (dr := s + 1) m0 m1 (by omega) (by omega) hs.symm (g (1074 - k) (by omega)).symm
  exact ⟨k, s, hk, by omega, by omega, hs, q1, cmpI_iff q2 q3⟩

/-- One of the two whole numbers beside d. -/
def WIs (d : Int) (up : Bool) (r : Int) : Prop :=
  (isn d = true → r = 9221120237041090560) ∧ (isi d = true → r = d) ∧
  (fin d → ∃ y, r = sg (ngd d) y ∧ 0 ≤ y ∧ y < 9218868437227405312 ∧ (intg d = true → y = ab d) ∧ (intg d = false → un y = wup (un (ab d) / 2 ^ 1074) up * 2 ^ 1074))

theorem sg_ab (d : Int) (h0 : 0 ≤ d) (h1 : d < 18446744073709551616) : d = sg (ngd d) (ab d) := by
  have := sb_ab d h0 h1
  exact this

theorem un_half {d : Int} (hf : fin d) (hi : intg d = false) : 0 ≤ un (ab d) / 2 ^ 1074 ∧ un (ab d) / 2 ^ 1074 + 1 < 9007199254740992 := by
  obtain ⟨⟨m0, m1⟩, -, -, -⟩ := dec_f d hf
  obtain ⟨k, s, -, -, -, -, q, -⟩ := frac_k hf hi
  rw [← q]
  have hp := Nm.two_pos (s + 1)
  refine ⟨Int.ediv_nonneg m0 (by omega), ?_⟩
  have h2 : (2 : Int) ^ (s + 1) = 2 ^ s * 2 := by rw [Nm.two_succ, Int.mul_comm]
  have hs := Nm.two_pos s
  have : dm d / 2 ^ (s + 1) < 4503599627370496 := by
    refine Int.ediv_lt_of_lt_mul hp ?_
    generalize (2 : Int) ^ (s + 1) = A at *
    generalize (2 : Int) ^ s = B at *
    omega
  omega

theorem wup_bd {W : Int} (up : Bool) (h0 : 0 ≤ W) (h1 : W + 1 < 9007199254740992) : 0 ≤ wup W up ∧ wup W up < 9007199254740992 := by
  rw [wup]; split <;> omega

theorem wis_fin {d y : Int} {up : Bool} (hf : fin d) (hi : intg d = false) (h : Rnd (wup (un (ab d) / 2 ^ 1074) up) 1 0 false y) : WIs d up (sg (ngd d) y) := by
  have b := un_half hf hi
  obtain ⟨q, q0, q1⟩ := rnd_rep (c := 1074) (by omega) (wup_bd up b.1 b.2).1 (wup_bd up b.1 b.2).2 (by omega) h
  refine ⟨fun g => ?_, fun g => ?_, fun _ => ⟨y, rfl, q0, q1, fun g => ?_, fun _ => q⟩⟩
  · rw [(fin_kinds hf).1] at g; cases g
  · rw [(fin_kinds hf).2] at g; cases g
  · rw [hi] at g; cases g

theorem wis_stay {d : Int} (up : Bool) (h0 : 0 ≤ d) (h1 : d < 18446744073709551616) (h : isi d = true ∨ (fin d ∧ intg d = true)) : WIs d up d := by
  refine ⟨fun g => ?_, fun _ => rfl, fun hf => ?_⟩
  · rcases h with h | h
    · simp only [isn, isi, decide_eq_true_iff] at h g; omega
    · rw [(fin_kinds h.1).1] at g; cases g
  · rcases h with h | h
    · rw [(fin_kinds hf).2] at h; cases h
    · exact ⟨ab d, sg_ab d h0 h1, (ab_bd d).1, hf, fun _ => rfl, fun g => by rw [h.2] at g; cases g⟩
end Ie

set_option maxRecDepth 100000 in
theorem rounded_stay (fv : Value) (up : Bool) (d : Int) (w : World) (hT : Tab w) (h0 : 0 ≤ d) (h1 : d < 18446744073709551616) (h : Ie.fin d → Ie.intg d = true) :
    Calls Tryz.prog 36 #[.int .u64 d, fv] w fun e w' => ∃ r, e = .returned (.int .u64 r) ∧ Ie.WIs d up r ∧ Below w.heap.size w w' := by
  have NN := hid (fun (wx : World) => mnan_any d wx h0 h1)
  have NI := hid (fun (wx : World) => minfinite_any d wx h0 h1)
  have IG := hid (fun (wx : World) (hx : Tab wx) => integral_any d wx hx h0 h1)
  have HT := hid hT
  rcases Ie.kinds d with g | ⟨g, g', g''⟩ | ⟨g, g', g''⟩
  · have E : Hid (Ie.WIs d up 9221120237041090560) := ⟨fun _ => rfl, fun k => (by simp only [Ie.isn, Ie.isi, decide_eq_true_iff] at g k; omega), fun k => (by simp only [Ie.isn, Ie.fin, decide_eq_true_iff] at g k; omega)⟩
    rw [g] at NN
    clear g h
    go_enter Tryz.func36, Tryz.ntmps36
    go_wp2_with fail
    refine (NN.out _).mono ?_
    rintro e wz ⟨rfl, hz⟩
    replace hz := hz.symm
    subst hz
    go_wp2_with fail
    go_ret
    exact ⟨_, rfl, E.out, Below.refl _ _⟩
  · have E := hid (Ie.wis_stay up h0 h1 (.inl g'))
    rw [g] at NN
    rw [g'] at NI
    clear g g' g'' h
    go_enter Tryz.func36, Tryz.ntmps36
    go_wp2_with fail
    refine (NN.out _).mono ?_
    rintro e wz ⟨rfl, hz⟩
    replace hz := hz.symm
    subst hz
    go_wp2_with fail
    refine (NI.out _).mono ?_
    rintro e wz ⟨rfl, hz⟩
    replace hz := hz.symm
    subst hz
    go_wp2_with fail
    go_ret
    exact ⟨_, rfl, E.out, Below.refl _ _⟩
  · have E := hid (Ie.wis_stay up h0 h1 (.inr ⟨g'', h g''⟩))
    rw [g] at NN
    rw [g'] at NI
    rw [h g''] at IG
    clear g g' g'' h
    go_enter Tryz.func36, Tryz.ntmps36
    go_wp2_with fail
    refine (NN.out _).mono ?_
    rintro e wz ⟨rfl, hz⟩
    replace hz := hz.symm
    subst hz
    go_wp2_with fail
    refine (NI.out _).mono ?_
    rintro e wz ⟨rfl, hz⟩
    replace hz := hz.symm
    subst hz
    go_wp2_with fail
    refine (IG.out _ HT.out).mono ?_
    rintro e w1 ⟨rfl, hB⟩
    have HB := hid hB
    clear hB
    go_wp2_with fail
    go_ret
    exact ⟨_, rfl, E.out, HB.out⟩

set_option maxRecDepth 100000 in
theorem truncRule_any (a b : Value) (w : World) : Calls Tryz.prog 37 #[a, b] w fun e w' => e = .returned (.bool false) ∧ w' = w := by
  go_enter Tryz.func37, Tryz.ntmps37
  go_wp2_with fail
  go_ret
  exact ⟨rfl, rfl⟩

theorem roundedT_any (d : Int) (w : World) (hT : Tab w) (h0 : 0 ≤ d) (h1 : d < 18446744073709551616) :
    Calls Tryz.prog 36 #[.int .u64 d, .func (Fn.func 37) #[] #[]] w fun e w' => ∃ r, e = .returned (.int .u64 r) ∧ Ie.WIs d false r ∧ Below w.heap.size w w' := by
  by_cases hi : Ie.fin d ∧ Ie.intg d = false
  · obtain ⟨hf, hi⟩ := hi
    obtain ⟨k, s, q1, q2, q3, q4, q5, q6⟩ := Ie.frac_k hf hi
    refine (rounded_T false d k s w hT h0 h1 hf hi q1 q2 q3 q4 (fun wx _ => truncRule_any _ _ wx)).mono ?_
    rintro e w' ⟨y, rfl, hy, hB⟩
    rw [q5] at hy
    exact ⟨_, rfl, Ie.wis_fin hf hi hy.out, hB⟩
  · refine rounded_stay _ false d w hT h0 h1 (fun hf => ?_)
    cases g : Ie.intg d
    · exact absurd ⟨hf, g⟩ hi
    · rfl

set_option maxRecDepth 100000 in
theorem trunc_any (d : Int) (w : World) (hT : Tab w) (h0 : 0 ≤ d) (h1 : d < 18446744073709551616) :
    Calls Tryz.prog 11 #[.int .u64 d] w fun e w' => ∃ r, e = .returned (.int .u64 r) ∧ Ie.WIs d false r ∧ Below w.heap.size w w' := by
  have R := hid (roundedT_any d w hT h0 h1)
  clear hT
  go_enter Tryz.func11, Tryz.ntmps11
  go_wp2_with fail
  refine R.out.mono ?_
  rintro e w' ⟨r, rfl, h⟩
  have H := hid h
  clear h
  go_wp2_with fail
  go_ret
  exact ⟨_, rfl, H.out⟩
end Go.Proofs.YtmakkfekomnpbaaGreatDoor

/-
  remain: rounded, by the other three rules.
-/
namespace Go.Proofs.YtmakkfekomnpbaaGreatDoor
open Go Go.RowKit Go.Deep

set_option maxRecDepth 100000 in
set_option maxHeartbeats 4000000 in
theorem rounded_N (up : Bool) (d : Int) (k s : Nat) (w : World) (hT : Tab w) (h0 : 0 ≤ d) (h1 : d < 18446744073709551616) (hf : Ie.fin d) (hi : Ie.intg d = false) (hx : Ie.de d = -(k : Int)) (k1 : 1 ≤ k) (k2 : k ≤ 1074) (hs : min k 63 = s + 1)
    (AW : ∀ wx : World, Below w.heap.size w wx → Calls Tryz.prog 44 #[.bool (Ie.dm d / 2 ^ (s + 1) % 2 == 1), .int .i64 (cmpI (Ie.dm d % 2 ^ (s + 1)) (2 ^ s))] wx fun e w' => e = .returned (.bool up) ∧ w' = wx) :
    Calls Tryz.prog 36 #[.int .u64 d, .func (Fn.func 44) #[] #[]] w fun e w' => ∃ y, e = .returned (.int .u64 (Ie.sg (Ie.ngd d) y)) ∧ Hid (Ie.Rnd (Ie.wup (Ie.dm d / 2 ^ (s + 1)) up) 1 0 false y) ∧ Below w.heap.size w w' := by
  have NN := hid (fun (wx : World) => mnan_any d wx h0 h1)
  have NI := hid (fun (wx : World) => minfinite_any d wx h0 h1)
  rw [(Ie.fin_kinds hf).1] at NN
  rw [(Ie.fin_kinds hf).2] at NI
  have IG := hid (fun (wx : World) (hx : Tab wx) => integral_any d wx hx h0 h1)
  rw [hi] at IG
  have D := hid (fun (wx : World) => decode_any d wx h0 h1)
  rw [← Ie.ngd, hx] at D
  obtain ⟨⟨m0, m1⟩, ⟨e0, e1⟩, -, -⟩ := Ie.dec_f d hf
  have HT := hid hT
  have WK : IntKind.i64.wrap (k : Int) = (k : Int) := by rw [IntKind.wrap_i64]; omega
  have hd : min (k : Int) 63 = ((s + 1 : Nat) : Int) := by omega
  obtain ⟨H, hH⟩ : ∃ H, IntKind.u64.wrap (2 ^ s) = H := ⟨_, rfl⟩
  have HB0 : 1 ≤ H ∧ H ≤ 4611686018427387904 ∧ H = 2 ^ s := by
    have g1 := Nm.two_mono (show s ≤ 62 by omega)
    have g2 := Nm.two_pos s
    have e62 : (2 : Int) ^ 62 = 4611686018427387904 := by decide
    rw [IntKind.wrap_u64, Int.emod_eq_of_lt (by omega) (by omega)] at hH
    exact ⟨by omega, by omega, hH.symm⟩
  obtain ⟨H0, H1, H2⟩ := HB0
  have HH2 := hid H2
  have hR : bits .and .u64 (Ie.dm d) (2 * H - 1) = Ie.dm d % 2 ^ (s + 1) := by
    have e : 2 * H - 1 = 2 ^ (s + 1) - 1 := by rw [H2, Nm.two_succ]
    rw [e]
    exact Ib.mask_and _ (s + 1) m0 (by omega) (by omega)
  rw [← H2] at AW
  obtain ⟨W, hW⟩ : ∃ W, Ie.dm d / 2 ^ (s + 1) = W := ⟨_, rfl⟩
  obtain ⟨R, hR2⟩ : ∃ R, Ie.dm d % 2 ^ (s + 1) = R := ⟨_, rfl⟩
  rw [hW, hR2] at AW
  rw [hR2] at hR
  rw [hW]
  have W0 : 0 ≤ W ∧ W < 9007199254740992 := by
    rw [← hW]
    have := Nm.two_pos (s + 1)
    exact ⟨Int.ediv_nonneg m0 (by omega), by have := Int.ediv_le_self (2 ^ (s + 1)) m0; omega⟩
  obtain ⟨W0, W1⟩ := W0
  have OA := Ib.one_and W W0 (by omega)
  have UC := hid (fun (wx : World) => ucmp_any R H wx)
  have AW := hid AW
  have SA := Ib.sign_and d h0 h1
  have FU : Hid (∀ wx : World, Tab wx → Calls Tryz.prog 73 #[.int .u64 (Ie.wup W up)] wx fun e w' => ∃ x, e = .returned (.int .u64 x) ∧ Ie.Rnd (Ie.wup W up) 1 0 false x ∧ Below wx.heap.size wx w') := by
    intro wx hx
    exact fromU_any _ wx hx (by rw [Ie.wup]; split <;> omega) (by rw [Ie.wup]; split <;> omega)
  have OR : Hid (∀ y : Int, Ie.Rnd (Ie.wup W up) 1 0 false y → bits .or .u64 y (d / 9223372036854775808 * 9223372036854775808) = Ie.sg (Ie.ngd d) y) := by
    intro y hy
    have b := hy.bd
    rcases (show d < 9223372036854775808 ∨ 9223372036854775808 ≤ d by omega) with g | g
    · rw [show d / 9223372036854775808 * 9223372036854775808 = 0 by omega, Ib.or_zero y b.1 (by omega), Ie.ngd, decide_eq_false (by omega)]; rfl
    · rw [show d / 9223372036854775808 * 9223372036854775808 = 9223372036854775808 by omega, Ib.sign_or y b.1 (by omega), Ie.ngd, decide_eq_true (by omega)]; rfl
  clear H2
  clear hT hf e0 e1 hi hx hs hR2
  simp only [partsOf] at D
  generalize Ie.ngd d = neg at *
  generalize Ie.dm d = m at *
  generalize d / 9223372036854775808 * 9223372036854775808 = sv at *
  generalize Ie.cls d = c at *
  go_enter Tryz.func36, Tryz.ntmps36
  go_wp2_with fail
  refine (NN.out _).mono ?_
  rintro e wz ⟨rfl, hz⟩
  replace hz := hz.symm
  subst hz
  go_wp2_with fail
  refine (NI.out _).mono ?_
  rintro e wz ⟨rfl, hz⟩
  replace hz := hz.symm
  subst hz
  go_wp2_with fail
  refine (IG.out _ HT.out).mono ?_
  rintro e w0 ⟨rfl, hB0⟩
  go_wp2_with fail
  refine (D.out _).mono ?_
  rintro e w1 ⟨rfl, hB1⟩
  have HB1 := hid (hB0.trans (hB1.mono hB0.size))
  clear hB0 hB1 NN NI D IG
  go_upto_region 6 with fail
  have hb := HB1.out.trans ((alloc_b w1 (.cells #[.bool neg, .int .i64 c, .int .u64 m, .int .i64 (-(k : Int))] 40)).mono HB1.out.size)
  have P := Row4.new w1 40 (.bool neg) (.int .i64 c) (.int .u64 m) (.int .i64 (-(k : Int)))
  have HT1 := hid (HT.out.below hb)
  have HB2 := hid hb
  obtain ⟨⟨-, -, p2, p3⟩, -⟩ := P.cells
  clear P hb HT HB1
  generalize w1.alloc (.cells #[.bool neg, .int .i64 c, .int .u64 m, .int .i64 (-(k : Int))] 40) = wA at *
  generalize w1.heap.size = b at *
  go_upto_region 8 with fail
  go_region
  have HT2 := hid (HT1.out.below (drew_nil wA))
  have HB3 := hid (HB2.out.trans ((drew_nil wA).mono HB2.out.size))
  clear HT1 HB2 p2 p3 hR hW
  generalize wA.drew = wB at *
  go_wp2_with fail
  refine (UC.out _).mono ?_
  rintro e wz ⟨rfl, hz⟩
  replace hz := hz.symm
  subst hz
  go_wp2_with fail
  refine (AW.out _ HB3.out).mono ?_
  rintro e wz ⟨rfl, hz⟩
  replace hz := hz.symm
  subst hz
  clear AW UC
  cases up
  · simp only [Ie.wup, Bool.false_eq_true, if_false] at FU OR ⊢
    go_wp2_with fail
    refine (FU.out _ HT2.out).mono ?_
    rintro e w5 ⟨y, rfl, hy, hB⟩
    have E := OR.out y hy
    have HY := hid hy
    have HB4 := hid (HB3.out.trans (hB.mono HB3.out.size))
    clear hy hB FU OR HB3
    go_wp2_with fail
    go_ret
    exact ⟨_, rfl, HY.out, HB4.out⟩
  · simp only [Ie.wup, if_true] at FU OR ⊢
    go_wp2_with fail
    refine (FU.out _ HT2.out).mono ?_
    rintro e w5 ⟨y, rfl, hy, hB⟩
    have E := OR.out y hy
    have HY := hid hy
    have HB4 := hid (HB3.out.trans (hB.mono HB3.out.size))
    clear hy hB FU OR HB3
    go_wp2_with fail
    go_ret
    exact ⟨_, rfl, HY.out, HB4.out⟩
set_option maxRecDepth 100000 in
set_option maxHeartbeats 4000000 in
theorem rounded_F (cp : Addr) (up : Bool) (d : Int) (k s : Nat) (w : World) (hT : Tab w) (h0 : 0 ≤ d) (h1 : d < 18446744073709551616) (hf : Ie.fin d) (hi : Ie.intg d = false) (hx : Ie.de d = -(k : Int)) (k1 : 1 ≤ k) (k2 : k ≤ 1074) (hs : min k 63 = s + 1)
    (AW : ∀ wx : World, Below w.heap.size w wx → Calls Tryz.prog 42 #[.bool (Ie.dm d / 2 ^ (s + 1) % 2 == 1), .int .i64 (cmpI (Ie.dm d % 2 ^ (s + 1)) (2 ^ s)), .pointer (some cp)] wx fun e w' => e = .returned (.bool up) ∧ w' = wx) :
    Calls Tryz.prog 36 #[.int .u64 d, .func (Fn.func 42) #[] #[.pointer (some cp)]] w fun e w' => ∃ y, e = .returned (.int .u64 (Ie.sg (Ie.ngd d) y)) ∧ Hid (Ie.Rnd (Ie.wup (Ie.dm d / 2 ^ (s + 1)) up) 1 0 false y) ∧ Below w.heap.size w w' := by
  have NN := hid (fun (wx : World) => mnan_any d wx h0 h1)
  have NI := hid (fun (wx : World) => minfinite_any d wx h0 h1)
  rw [(Ie.fin_kinds hf).1] at NN
  rw [(Ie.fin_kinds hf).2] at NI
  have IG := hid (fun (wx : World) (hx : Tab wx) => integral_any d wx hx h0 h1)
  rw [hi] at IG
  have D := hid (fun (wx : World) => decode_any d wx h0 h1)
  rw [← Ie.ngd, hx] at D
  obtain ⟨⟨m0, m1⟩, ⟨e0, e1⟩, -, -⟩ := Ie.dec_f d hf
  have HT := hid hT
  have WK : IntKind.i64.wrap (k : Int) = (k : Int) := by rw [IntKind.wrap_i64]; omega
  have hd : min (k : Int) 63 = ((s + 1 : Nat) : Int) := by omega
  obtain ⟨H, hH⟩ : ∃ H, IntKind.u64.wrap (2 ^ s) = H := ⟨_, rfl⟩
  have HB0 : 1 ≤ H ∧ H ≤ 4611686018427387904 ∧ H = 2 ^ s := by
    have g1 := Nm.two_mono (show s ≤ 62 by omega)
    have g2 := Nm.two_pos s
    have e62 : (2 : Int) ^ 62 = 4611686018427387904 := by decide
    rw [IntKind.wrap_u64, Int.emod_eq_of_lt (by omega) (by omega)] at hH
    exact ⟨by omega, by omega, hH.symm⟩
  obtain ⟨H0, H1, H2⟩ := HB0
  have HH2 := hid H2
  have hR : bits .and .u64 (Ie.dm d) (2 * H - 1) = Ie.dm d % 2 ^ (s + 1) := by
    have e : 2 * H - 1 = 2 ^ (s + 1) - 1 := by rw [H2, Nm.two_succ]
    rw [e]
    exact Ib.mask_and _ (s + 1) m0 (by omega) (by omega)
  rw [← H2] at AW
  obtain ⟨W, hW⟩ : ∃ W, Ie.dm d / 2 ^ (s + 1) = W := ⟨_, rfl⟩
  obtain ⟨R, hR2⟩ : ∃ R, Ie.dm d % 2 ^ (s + 1) = R := ⟨_, rfl⟩
  rw [hW, hR2] at AW
  rw [hR2] at hR
  rw [hW]
  have W0 : 0 ≤ W ∧ W < 9007199254740992 := by
    rw [← hW]
    have := Nm.two_pos (s + 1)
    exact ⟨Int.ediv_nonneg m0 (by omega), by have := Int.ediv_le_self (2 ^ (s + 1)) m0; omega⟩
  obtain ⟨W0, W1⟩ := W0
  have OA := Ib.one_and W W0 (by omega)
  have UC := hid (fun (wx : World) => ucmp_any R H wx)
  have AW := hid AW
  have SA := Ib.sign_and d h0 h1
  have FU : Hid (∀ wx : World, Tab wx → Calls Tryz.prog 73 #[.int .u64 (Ie.wup W up)] wx fun e w' => ∃ x, e = .returned (.int .u64 x) ∧ Ie.Rnd (Ie.wup W up) 1 0 false x ∧ Below wx.heap.size wx w') := by
    intro wx hx
    exact fromU_any _ wx hx (by rw [Ie.wup]; split <;> omega) (by rw [Ie.wup]; split <;> omega)
  have OR : Hid (∀ y : Int, Ie.Rnd (Ie.wup W up) 1 0 false y → bits .or .u64 y (d / 9223372036854775808 * 9223372036854775808) = Ie.sg (Ie.ngd d) y) := by
    intro y hy
    have b := hy.bd
    rcases (show d < 9223372036854775808 ∨ 9223372036854775808 ≤ d by omega) with g | g
    · rw [show d / 9223372036854775808 * 9223372036854775808 = 0 by omega, Ib.or_zero y b.1 (by omega), Ie.ngd, decide_eq_false (by omega)]; rfl
    · rw [show d / 9223372036854775808 * 9223372036854775808 = 9223372036854775808 by omega, Ib.sign_or y b.1 (by omega), Ie.ngd, decide_eq_true (by omega)]; rfl
  clear H2
  clear hT hf e0 e1 hi hx hs hR2
  simp only [partsOf] at D
  generalize Ie.ngd d = neg at *
  generalize Ie.dm d = m at *
  generalize d / 9223372036854775808 * 9223372036854775808 = sv at *
  generalize Ie.cls d = c at *
  go_enter Tryz.func36, Tryz.ntmps36
  go_wp2_with fail
  refine (NN.out _).mono ?_
  rintro e wz ⟨rfl, hz⟩
  replace hz := hz.symm
  subst hz
  go_wp2_with fail
  refine (NI.out _).mono ?_
  rintro e wz ⟨rfl, hz⟩
  replace hz := hz.symm
  subst hz
  go_wp2_with fail
  refine (IG.out _ HT.out).mono ?_
  rintro e w0 ⟨rfl, hB0⟩
  go_wp2_with fail
  refine (D.out _).mono ?_
  rintro e w1 ⟨rfl, hB1⟩
  have HB1 := hid (hB0.trans (hB1.mono hB0.size))
  clear hB0 hB1 NN NI D IG
  go_upto_region 6 with fail
  have hb := HB1.out.trans ((alloc_b w1 (.cells #[.bool neg, .int .i64 c, .int .u64 m, .int .i64 (-(k : Int))] 40)).mono HB1.out.size)
  have P := Row4.new w1 40 (.bool neg) (.int .i64 c) (.int .u64 m) (.int .i64 (-(k : Int)))
  have HT1 := hid (HT.out.below hb)
  have HB2 := hid hb
  obtain ⟨⟨-, -, p2, p3⟩, -⟩ := P.cells
  clear P hb HT HB1
  generalize w1.alloc (.cells #[.bool neg, .int .i64 c, .int .u64 m, .int .i64 (-(k : Int))] 40) = wA at *
  generalize w1.heap.size = b at *
  go_upto_region 8 with fail
  go_region
  have HT2 := hid (HT1.out.below (drew_nil wA))
  have HB3 := hid (HB2.out.trans ((drew_nil wA).mono HB2.out.size))
  clear HT1 HB2 p2 p3 hR hW
  generalize wA.drew = wB at *
  go_wp2_with fail
  refine (UC.out _).mono ?_
  rintro e wz ⟨rfl, hz⟩
  replace hz := hz.symm
  subst hz
  go_wp2_with fail
  refine (AW.out _ HB3.out).mono ?_
  rintro e wz ⟨rfl, hz⟩
  replace hz := hz.symm
  subst hz
  clear AW UC
  cases up
  · simp only [Ie.wup, Bool.false_eq_true, if_false] at FU OR ⊢
    go_wp2_with fail
    refine (FU.out _ HT2.out).mono ?_
    rintro e w5 ⟨y, rfl, hy, hB⟩
    have E := OR.out y hy
    have HY := hid hy
    have HB4 := hid (HB3.out.trans (hB.mono HB3.out.size))
    clear hy hB FU OR HB3
    go_wp2_with fail
    go_ret
    exact ⟨_, rfl, HY.out, HB4.out⟩
  · simp only [Ie.wup, if_true] at FU OR ⊢
    go_wp2_with fail
    refine (FU.out _ HT2.out).mono ?_
    rintro e w5 ⟨y, rfl, hy, hB⟩
    have E := OR.out y hy
    have HY := hid hy
    have HB4 := hid (HB3.out.trans (hB.mono HB3.out.size))
    clear hy hB FU OR HB3
    go_wp2_with fail
    go_ret
    exact ⟨_, rfl, HY.out, HB4.out⟩
set_option maxRecDepth 100000 in
set_option maxHeartbeats 4000000 in
theorem rounded_C (cp : Addr) (up : Bool) (d : Int) (k s : Nat) (w : World) (hT : Tab w) (h0 : 0 ≤ d) (h1 : d < 18446744073709551616) (hf : Ie.fin d) (hi : Ie.intg d = false) (hx : Ie.de d = -(k : Int)) (k1 : 1 ≤ k) (k2 : k ≤ 1074) (hs : min k 63 = s + 1)
    (AW : ∀ wx : World, Below w.heap.size w wx → Calls Tryz.prog 43 #[.bool (Ie.dm d / 2 ^ (s + 1) % 2 == 1), .int .i64 (cmpI (Ie.dm d % 2 ^ (s + 1)) (2 ^ s)), .pointer (some cp)] wx fun e w' => e = .returned (.bool up) ∧ w' = wx) :
    Calls Tryz.prog 36 #[.int .u64 d, .func (Fn.func 43) #[] #[.pointer (some cp)]] w fun e w' => ∃ y, e = .returned (.int .u64 (Ie.sg (Ie.ngd d) y)) ∧ Hid (Ie.Rnd (Ie.wup (Ie.dm d / 2 ^ (s + 1)) up) 1 0 false y) ∧ Below w.heap.size w w' := by
  have NN := hid (fun (wx : World) => mnan_any d wx h0 h1)
  have NI := hid (fun (wx : World) => minfinite_any d wx h0 h1)
  rw [(Ie.fin_kinds hf).1] at NN
  rw [(Ie.fin_kinds hf).2] at NI
  have IG := hid (fun (wx : World) (hx : Tab wx) => integral_any d wx hx h0 h1)
  rw [hi] at IG
  have D := hid (fun (wx : World) => decode_any d wx h0 h1)
  rw [← Ie.ngd, hx] at D
  obtain ⟨⟨m0, m1⟩, ⟨e0, e1⟩, -, -⟩ := Ie.dec_f d hf
  have HT := hid hT
  have WK : IntKind.i64.wrap (k : Int) = (k : Int) := by rw [IntKind.wrap_i64]; omega
  have hd : min (k : Int) 63 = ((s + 1 : Nat) : Int) := by omega
  obtain ⟨H, hH⟩ : ∃ H, IntKind.u64.wrap (2 ^ s) = H := ⟨_, rfl⟩
  have HB0 : 1 ≤ H ∧ H ≤ 4611686018427387904 ∧ H = 2 ^ s := by
    have g1 := Nm.two_mono (show s ≤ 62 by omega)
    have g2 := Nm.two_pos s
    have e62 : (2 : Int) ^ 62 = 4611686018427387904 := by decide
    rw [IntKind.wrap_u64, Int.emod_eq_of_lt (by omega) (by omega)] at hH
    exact ⟨by omega, by omega, hH.symm⟩
  obtain ⟨H0, H1, H2⟩ := HB0
  have HH2 := hid H2
  have hR : bits .and .u64 (Ie.dm d) (2 * H - 1) = Ie.dm d % 2 ^ (s + 1) := by
    have e : 2 * H - 1 = 2 ^ (s + 1) - 1 := by rw [H2, Nm.two_succ]
    rw [e]
    exact Ib.mask_and _ (s + 1) m0 (by omega) (by omega)
  rw [← H2] at AW
  obtain ⟨W, hW⟩ : ∃ W, Ie.dm d / 2 ^ (s + 1) = W := ⟨_, rfl⟩
  obtain ⟨R, hR2⟩ : ∃ R, Ie.dm d % 2 ^ (s + 1) = R := ⟨_, rfl⟩
  rw [hW, hR2] at AW
  rw [hR2] at hR
  rw [hW]
  have W0 : 0 ≤ W ∧ W < 9007199254740992 := by
    rw [← hW]
    have := Nm.two_pos (s + 1)
    exact ⟨Int.ediv_nonneg m0 (by omega), by have := Int.ediv_le_self (2 ^ (s + 1)) m0; omega⟩
  obtain ⟨W0, W1⟩ := W0
  have OA := Ib.one_and W W0 (by omega)
  have UC := hid (fun (wx : World) => ucmp_any R H wx)
  have AW := hid AW
  have SA := Ib.sign_and d h0 h1
  have FU : Hid (∀ wx : World, Tab wx → Calls Tryz.prog 73 #[.int .u64 (Ie.wup W up)] wx fun e w' => ∃ x, e = .returned (.int .u64 x) ∧ Ie.Rnd (Ie.wup W up) 1 0 false x ∧ Below wx.heap.size wx w') := by
    intro wx hx
    exact fromU_any _ wx hx (by rw [Ie.wup]; split <;> omega) (by rw [Ie.wup]; split <;> omega)
  have OR : Hid (∀ y : Int, Ie.Rnd (Ie.wup W up) 1 0 false y → bits .or .u64 y (d / 9223372036854775808 * 9223372036854775808) = Ie.sg (Ie.ngd d) y) := by
    intro y hy
    have b := hy.bd
    rcases (show d < 9223372036854775808 ∨ 9223372036854775808 ≤ d by omega) with g | g
    · rw [show d / 9223372036854775808 * 9223372036854775808 = 0 by omega, Ib.or_zero y b.1 (by omega), Ie.ngd, decide_eq_false (by omega)]; rfl
    · rw [show d / 9223372036854775808 * 9223372036854775808 = 9223372036854775808 by omega, Ib.sign_or y b.1 (by omega), Ie.ngd, decide_eq_true (by omega)]; rfl
  clear H2
  clear hT hf e0 e1 hi hx hs hR2
  simp only [partsOf] at D
  generalize Ie.ngd d = neg at *
  generalize Ie.dm d = m at *
  generalize d / 9223372036854775808 * 9223372036854775808 = sv at *
  generalize Ie.cls d = c at *
  go_enter Tryz.func36, Tryz.ntmps36
  go_wp2_with fail
  refine (NN.out _).mono ?_
  rintro e wz ⟨rfl, hz⟩
  replace hz := hz.symm
  subst hz
  go_wp2_with fail
  refine (NI.out _).mono ?_
  rintro e wz ⟨rfl, hz⟩
  replace hz := hz.symm
  subst hz
  go_wp2_with fail
  refine (IG.out _ HT.out).mono ?_
  rintro e w0 ⟨rfl, hB0⟩
  go_wp2_with fail
  refine (D.out _).mono ?_
  rintro e w1 ⟨rfl, hB1⟩
  have HB1 := hid (hB0.trans (hB1.mono hB0.size))
  clear hB0 hB1 NN NI D IG
  go_upto_region 6 with fail
  have hb := HB1.out.trans ((alloc_b w1 (.cells #[.bool neg, .int .i64 c, .int .u64 m, .int .i64 (-(k : Int))] 40)).mono HB1.out.size)
  have P := Row4.new w1 40 (.bool neg) (.int .i64 c) (.int .u64 m) (.int .i64 (-(k : Int)))
  have HT1 := hid (HT.out.below hb)
  have HB2 := hid hb
  obtain ⟨⟨-, -, p2, p3⟩, -⟩ := P.cells
  clear P hb HT HB1
  generalize w1.alloc (.cells #[.bool neg, .int .i64 c, .int .u64 m, .int .i64 (-(k : Int))] 40) = wA at *
  generalize w1.heap.size = b at *
  go_upto_region 8 with fail
  go_region
  have HT2 := hid (HT1.out.below (drew_nil wA))
  have HB3 := hid (HB2.out.trans ((drew_nil wA).mono HB2.out.size))
  clear HT1 HB2 p2 p3 hR hW
  generalize wA.drew = wB at *
  go_wp2_with fail
  refine (UC.out _).mono ?_
  rintro e wz ⟨rfl, hz⟩
  replace hz := hz.symm
  subst hz
  go_wp2_with fail
  refine (AW.out _ HB3.out).mono ?_
  rintro e wz ⟨rfl, hz⟩
  replace hz := hz.symm
  subst hz
  clear AW UC
  cases up
  · simp only [Ie.wup, Bool.false_eq_true, if_false] at FU OR ⊢
    go_wp2_with fail
    refine (FU.out _ HT2.out).mono ?_
    rintro e w5 ⟨y, rfl, hy, hB⟩
    have E := OR.out y hy
    have HY := hid hy
    have HB4 := hid (HB3.out.trans (hB.mono HB3.out.size))
    clear hy hB FU OR HB3
    go_wp2_with fail
    go_ret
    exact ⟨_, rfl, HY.out, HB4.out⟩
  · simp only [Ie.wup, if_true] at FU OR ⊢
    go_wp2_with fail
    refine (FU.out _ HT2.out).mono ?_
    rintro e w5 ⟨y, rfl, hy, hB⟩
    have E := OR.out y hy
    have HY := hid hy
    have HB4 := hid (HB3.out.trans (hB.mono HB3.out.size))
    clear hy hB FU OR HB3
    go_wp2_with fail
    go_ret
    exact ⟨_, rfl, HY.out, HB4.out⟩
end Go.Proofs.YtmakkfekomnpbaaGreatDoor

/-
  remain: Floor, Ceil, Near.
-/
namespace Go.Proofs.YtmakkfekomnpbaaGreatDoor
open Go Go.RowKit Go.Deep

/-- Near's turn. -/
def Ie.nrup (U : Int) : Bool := decide (0 < cmpI (U % 2 ^ 1074) (2 ^ 1073) ∨ (cmpI (U % 2 ^ 1074) (2 ^ 1073) = 0 ∧ U / 2 ^ 1074 % 2 = 1))

set_option maxRecDepth 100000 in
theorem nearRule_any (odd : Bool) (c : Int) (w : World) (hc : c = -1 ∨ c = 0 ∨ c = 1) : Calls Tryz.prog 44 #[.bool odd, .int .i64 c] w fun e w' => e = .returned (.bool (decide (0 < c ∨ (c = 0 ∧ odd = true)))) ∧ w' = w := by
  rcases hc with rfl | rfl | rfl
  · go_enter Tryz.func44, Tryz.ntmps44
    go_wp2_with fail
    go_ret
    exact ⟨by cases odd <;> rfl, rfl⟩
  · go_enter Tryz.func44, Tryz.ntmps44
    go_wp2_with fail
    go_ret
    exact ⟨by cases odd <;> rfl, rfl⟩
  · go_enter Tryz.func44, Tryz.ntmps44
    go_wp2_with fail
    go_ret
    exact ⟨by cases odd <;> rfl, rfl⟩

set_option maxRecDepth 100000 in
theorem floorRule_any (a c : Value) (p : Addr) (neg : Bool) (w : World) (h : w.cell? p = some (.bool neg)) : Calls Tryz.prog 42 #[a, c, .pointer (some p)] w fun e w' => e = .returned (.bool neg) ∧ w' = w := by
  go_enter Tryz.func42, Tryz.ntmps42
  go_wp2_with fail
  go_ret
  exact ⟨rfl, rfl⟩

set_option maxRecDepth 100000 in
theorem ceilRule_any (a c : Value) (p : Addr) (neg : Bool) (w : World) (h : w.cell? p = some (.bool neg)) : Calls Tryz.prog 43 #[a, c, .pointer (some p)] w fun e w' => e = .returned (.bool (!neg)) ∧ w' = w := by
  go_enter Tryz.func43, Tryz.ntmps43
  go_wp2_with fail
  go_ret
  exact ⟨rfl, rfl⟩

theorem roundedN_any (d : Int) (w : World) (hT : Tab w) (h0 : 0 ≤ d) (h1 : d < 18446744073709551616) :
    Calls Tryz.prog 36 #[.int .u64 d, .func (Fn.func 44) #[] #[]] w fun e w' => ∃ r, e = .returned (.int .u64 r) ∧ Ie.WIs d (Ie.nrup (Ie.un (Ie.ab d))) r ∧ Below w.heap.size w w' := by
  by_cases hi : Ie.fin d ∧ Ie.intg d = false
  · obtain ⟨hf, hi⟩ := hi
    obtain ⟨k, s, q1, q2, q3, q4, q5, q6⟩ := Ie.frac_k hf hi
    refine (rounded_N (Ie.nrup (Ie.un (Ie.ab d))) d k s w hT h0 h1 hf hi q1 q2 q3 q4 (fun wx _ => ?_)).mono ?_
    · rw [q5, q6]
      have cc : cmpI (Ie.un (Ie.ab d) % 2 ^ 1074) (2 ^ 1073) = -1 ∨ cmpI (Ie.un (Ie.ab d) % 2 ^ 1074) (2 ^ 1073) = 0 ∨ cmpI (Ie.un (Ie.ab d) % 2 ^ 1074) (2 ^ 1073) = 1 := by
        generalize Ie.un (Ie.ab d) % 2 ^ 1074 = A
        generalize (2 : Int) ^ 1073 = B
        rw [cmpI]; split <;> (try split) <;> omega
      have e : decide (0 < cmpI (Ie.un (Ie.ab d) % 2 ^ 1074) (2 ^ 1073) ∨ (cmpI (Ie.un (Ie.ab d) % 2 ^ 1074) (2 ^ 1073) = 0 ∧ (Ie.un (Ie.ab d) / 2 ^ 1074 % 2 == 1) = true)) = Ie.nrup (Ie.un (Ie.ab d)) := by
        rw [Ie.nrup, decide_eq_decide, beq_iff_eq]
      rw [← e]
      exact nearRule_any _ _ wx cc
    · rintro e w' ⟨y, rfl, hy, hB⟩
      rw [q5] at hy
      exact ⟨_, rfl, Ie.wis_fin hf hi hy.out, hB⟩
  · refine rounded_stay _ _ d w hT h0 h1 (fun hf => ?_)
    cases g : Ie.intg d
    · exact absurd ⟨hf, g⟩ hi
    · rfl

theorem roundedF_any (p : Addr) (neg : Bool) (d : Int) (w : World) (hp : w.cell? p = some (.bool neg)) (hT : Tab w) (h0 : 0 ≤ d) (h1 : d < 18446744073709551616) :
    Calls Tryz.prog 36 #[.int .u64 d, .func (Fn.func 42) #[] #[.pointer (some p)]] w fun e w' => ∃ r, e = .returned (.int .u64 r) ∧ Ie.WIs d neg r ∧ Below w.heap.size w w' := by
  by_cases hi : Ie.fin d ∧ Ie.intg d = false
  · obtain ⟨hf, hi⟩ := hi
    obtain ⟨k, s, q1, q2, q3, q4, q5, q6⟩ := Ie.frac_k hf hi
    refine (rounded_F p neg d k s w hT h0 h1 hf hi q1 q2 q3 q4 (fun wx hx => floorRule_any _ _ p neg wx ((hx.cell (cell_lt hp)).trans hp))).mono ?_
    rintro e w' ⟨y, rfl, hy, hB⟩
    rw [q5] at hy
    exact ⟨_, rfl, Ie.wis_fin hf hi hy.out, hB⟩
  · refine rounded_stay _ _ d w hT h0 h1 (fun hf => ?_)
    cases g : Ie.intg d
    · exact absurd ⟨hf, g⟩ hi
    · rfl

theorem roundedC_any (p : Addr) (neg : Bool) (d : Int) (w : World) (hp : w.cell? p = some (.bool neg)) (hT : Tab w) (h0 : 0 ≤ d) (h1 : d < 18446744073709551616) :
    Calls Tryz.prog 36 #[.int .u64 d, .func (Fn.func 43) #[] #[.pointer (some p)]] w fun e w' => ∃ r, e = .returned (.int .u64 r) ∧ Ie.WIs d (!neg) r ∧ Below w.heap.size w w' := by
  by_cases hi : Ie.fin d ∧ Ie.intg d = false
  · obtain ⟨hf, hi⟩ := hi
    obtain ⟨k, s, q1, q2, q3, q4, q5, q6⟩ := Ie.frac_k hf hi
    refine (rounded_C p (!neg) d k s w hT h0 h1 hf hi q1 q2 q3 q4 (fun wx hx => ceilRule_any _ _ p neg wx ((hx.cell (cell_lt hp)).trans hp))).mono ?_
    rintro e w' ⟨y, rfl, hy, hB⟩
    rw [q5] at hy
    exact ⟨_, rfl, Ie.wis_fin hf hi hy.out, hB⟩
  · refine rounded_stay _ _ d w hT h0 h1 (fun hf => ?_)
    cases g : Ie.intg d
    · exact absurd ⟨hf, g⟩ hi
    · rfl

set_option maxRecDepth 100000 in
theorem near6_any (d : Int) (w : World) (hT : Tab w) (h0 : 0 ≤ d) (h1 : d < 18446744073709551616) :
    Calls Tryz.prog 19 #[.int .u64 d] w fun e w' => ∃ r, e = .returned (.int .u64 r) ∧ Ie.WIs d (Ie.nrup (Ie.un (Ie.ab d))) r ∧ Below w.heap.size w w' := by
  have R := hid (roundedN_any d w hT h0 h1)
  clear hT
  go_enter Tryz.func19, Tryz.ntmps19
  go_wp2_with fail
  refine R.out.mono ?_
  rintro e w' ⟨r, rfl, h⟩
  have H := hid h
  clear h
  go_wp2_with fail
  go_ret
  exact ⟨_, rfl, H.out⟩

theorem Ie.sign_ne (d : Int) (h0 : 0 ≤ d) (h1 : d < 18446744073709551616) : (d / 9223372036854775808 * 9223372036854775808 != 0) = Ie.ngd d := by
  rcases (show d < 9223372036854775808 ∨ 9223372036854775808 ≤ d by omega) with g | g
  · rw [show d / 9223372036854775808 * 9223372036854775808 = 0 by omega, Ie.ngd, decide_eq_false (by omega)]; rfl
  · rw [show d / 9223372036854775808 * 9223372036854775808 = 9223372036854775808 by omega, Ie.ngd, decide_eq_true (by omega)]; rfl

set_option maxRecDepth 100000 in
theorem floor_any (d : Int) (w : World) (hT : Tab w) (h0 : 0 ≤ d) (h1 : d < 18446744073709551616) :
    Calls Tryz.prog 15 #[.int .u64 d] w fun e w' => ∃ r, e = .returned (.int .u64 r) ∧ Ie.WIs d (Ie.ngd d) r ∧ Below w.heap.size w w' := by
  have SA := Ib.sign_and d h0 h1
  have SN := Ie.sign_ne d h0 h1
  have R : Hid (Calls Tryz.prog 36 #[.int .u64 d, .func (Fn.func 42) #[] #[.pointer (some ⟨w.heap.size, 0, none⟩)]] (w.alloc (.cells #[.bool (Ie.ngd d)] 4)) fun e w' => ∃ r, e = .returned (.int .u64 r) ∧ Hid (Ie.WIs d (Ie.ngd d) r ∧ Below w.heap.size w w')) := by
    have hb := alloc_b w (.cells #[.bool (Ie.ngd d)] 4)
    refine (roundedF_any ⟨w.heap.size, 0, none⟩ (Ie.ngd d) d _ (by simp) (hT.below hb) h0 h1).mono ?_
    rintro e w' ⟨r, rfl, h, hB⟩
    exact ⟨r, rfl, h, hb.trans (hB.mono hb.size)⟩
  clear hT
  generalize d / 9223372036854775808 * 9223372036854775808 = sv at *
  generalize hN : Ie.ngd d = neg at *
  go_enter Tryz.func15, Tryz.ntmps15
  go_wp2_with fail
  refine R.out.mono ?_
  rintro e w' ⟨r, rfl, h⟩
  go_wp2_with fail
  go_ret
  exact ⟨_, rfl, h.out⟩

set_option maxRecDepth 100000 in
theorem ceil_any (d : Int) (w : World) (hT : Tab w) (h0 : 0 ≤ d) (h1 : d < 18446744073709551616) :
    Calls Tryz.prog 17 #[.int .u64 d] w fun e w' => ∃ r, e = .returned (.int .u64 r) ∧ Ie.WIs d (!Ie.ngd d) r ∧ Below w.heap.size w w' := by
  have SA := Ib.sign_and d h0 h1
  have SN := Ie.sign_ne d h0 h1
  have R : Hid (Calls Tryz.prog 36 #[.int .u64 d, .func (Fn.func 43) #[] #[.pointer (some ⟨w.heap.size, 0, none⟩)]] (w.alloc (.cells #[.bool (Ie.ngd d)] 4)) fun e w' => ∃ r, e = .returned (.int .u64 r) ∧ Hid (Ie.WIs d (!Ie.ngd d) r ∧ Below w.heap.size w w')) := by
    have hb := alloc_b w (.cells #[.bool (Ie.ngd d)] 4)
    refine (roundedC_any ⟨w.heap.size, 0, none⟩ (Ie.ngd d) d _ (by simp) (hT.below hb) h0 h1).mono ?_
    rintro e w' ⟨r, rfl, h, hB⟩
    exact ⟨r, rfl, h, hb.trans (hB.mono hb.size)⟩
  clear hT
  generalize d / 9223372036854775808 * 9223372036854775808 = sv at *
  generalize hN : Ie.ngd d = neg at *
  go_enter Tryz.func17, Tryz.ntmps17
  go_wp2_with fail
  refine R.out.mono ?_
  rintro e w' ⟨r, rfl, h⟩
  go_wp2_with fail
  go_ret
  exact ⟨_, rfl, h.out⟩
end Go.Proofs.YtmakkfekomnpbaaGreatDoor

namespace Go.Proofs.YtmakkfekomnpbaaGreatDoor
namespace Nm

def v32 : List Int → Int
  | [] => 0
  | z :: zs => z + 4294967296 * v32 zs

def p32 : Nat → Int
  | 0 => 1
  | k + 1 => 4294967296 * p32 k

def Halves (zs : List Int) : Prop := ∀ z ∈ zs, 0 ≤ z ∧ z < 4294967296

theorem p32_pos : ∀ k, 0 < p32 k
  | 0 => by decide
  | k + 1 => by have := p32_pos k; simp only [p32]; omega

theorem p32_two : ∀ k, p32 (2 * k) = pw k
  | 0 => rfl
  | k + 1 => by
    rw [show 2 * (k + 1) = 2 * k + 1 + 1 by omega]
    simp only [p32, pw, p32_two k]
    omega

theorem v32_snoc : ∀ (zs : List Int) (x : Int), v32 (zs ++ [x]) = v32 zs + p32 zs.length * x
  | [], x => by simp [v32, p32]
  | z :: zs, x => by
    simp only [List.cons_append, v32, v32_snoc zs x, List.length_cons, p32, Int.mul_add, Int.mul_assoc]
    omega

theorem take_snoc (zs : List Int) (k : Nat) (h : k < zs.length) : zs.take (k + 1) = zs.take k ++ [zs.getD k 0] := by
  rw [List.take_add_one]
  simp [List.getD, h]

theorem v32_take_succ (zs : List Int) (k : Nat) (h : k < zs.length) : v32 (zs.take (k + 1)) = v32 (zs.take k) + p32 k * zs.getD k 0 := by
  rw [take_snoc zs k h, v32_snoc, List.length_take, Nat.min_eq_left (by omega)]

theorem v32_take_of_zero : ∀ (zs : List Int) (k : Nat), (∀ j, k ≤ j → zs.getD j 0 = 0) → v32 (zs.take k) = v32 zs
  | [], k, _ => by simp
  | z :: zs, 0, h => by
    have h0 : z = 0 := by simpa using h 0 (Nat.le_refl _)
    have := v32_take_of_zero zs 0 (fun j _ => by simpa using h (j + 1) (by omega))
    simp only [List.take_zero, v32] at this ⊢
    omega
  | z :: zs, k + 1, h => by
    have := v32_take_of_zero zs k (fun j hj => by simpa using h (j + 1) (by omega))
    simp only [List.take_succ_cons, v32, this]

theorem Halves.nil : Halves [] := by intro z h; simp at h
theorem Halves.snoc {zs : List Int} (h : Halves zs) {x : Int} (h0 : 0 ≤ x) (h1 : x < 4294967296) : Halves (zs ++ [x]) := by
  intro z hz
  rcases List.mem_append.1 hz with a | a
  · exact h z a
  · obtain rfl : z = x := by simpa using a
    exact ⟨h0, h1⟩
theorem Halves.take {zs : List Int} (h : Halves zs) (k : Nat) : Halves (zs.take k) := fun z hz => h z (List.mem_of_mem_take hz)
theorem Halves.limbs {zs : List Int} (h : Halves zs) : Limbs zs := fun z hz => by have := h z hz; omega
theorem Halves.at {zs : List Int} (h : Halves zs) (i : Nat) : 0 ≤ zs.getD i 0 ∧ zs.getD i 0 < 4294967296 := by
  by_cases hi : i < zs.length
  · simp only [List.getD, List.getElem?_eq_getElem hi, Option.getD_some]
    exact h _ (List.getElem_mem hi)
  · simp [List.getD, List.getElem?_eq_none (Nat.le_of_not_lt hi)]

theorem Limbs.snoc {zs : List Int} (h : Limbs zs) {x : Int} (h0 : 0 ≤ x) (h1 : x < 18446744073709551616) : Limbs (zs ++ [x]) := h.append (Limbs.mk h0 h1 Limbs.nil)

theorem val_snoc (zs : List Int) (x : Int) : val (zs ++ [x]) = val zs + pw zs.length * x := by rw [val_append]; simp [val]

theorem p32_mono {a b : Nat} (h : a ≤ b) : p32 a ≤ p32 b := by
  obtain ⟨c, rfl⟩ := Nat.exists_eq_add_of_le h
  induction c with
  | zero => exact Int.le_refl _
  | succ c ih =>
    have := ih (by omega)
    have := p32_pos (a + c)
    rw [← Nat.add_assoc]
    simp only [p32]
    omega

theorem v32_nonneg : ∀ zs : List Int, Halves zs → 0 ≤ v32 zs
  | [], _ => by simp [v32]
  | z :: zs, h => by
    have h1 := v32_nonneg zs (fun x hx => h x (List.mem_cons_of_mem _ hx))
    have h2 := h z List.mem_cons_self
    simp only [v32]
    omega

/-- Digits up to one that is not 0 are no more than the limbs hold. -/
theorem halves_len {hs zs : List Int} {t : Nat} (hh : Halves hs) (hz : Limbs zs) (ht : t < hs.length) (h0 : hs.getD t 0 ≠ 0) (hv : v32 (hs.take (t + 1)) = val zs) : t + 1 ≤ 2 * tsize zs := by
  rcases Nat.lt_or_ge t (2 * tsize zs) with h | h
  · exact h
  · exfalso
    have h1 := val_lt_tsize hz
    rw [← hv, v32_take_succ hs t ht, ← p32_two] at h1
    have h2 := v32_nonneg _ (hh.take t)
    have h3 := p32_mono h
    have h4 := hh.at t
    have h5 := p32_pos t
    have h6 : p32 t * 1 ≤ p32 t * hs.getD t 0 := Int.mul_le_mul_of_nonneg_left (by omega) (by omega)
    omega

/-- A limb's two halves. -/
theorem halves_step {hs zs : List Int} {j : Nat} {x : Int} (hl : hs.length = 2 * j) (hj : j < zs.length) (hx : x = zs.getD j 0) (h : v32 hs = val (zs.take j)) : v32 (hs ++ [x % 4294967296] ++ [x / 4294967296]) = val (zs.take (j + 1)) := by
  rw [v32_snoc, v32_snoc, List.length_append, hl, h, val_take_succ zs j hj, ← hx, show 2 * j + [x % 4294967296].length = 2 * j + 1 from rfl]
  simp only [p32, p32_two]
  have e := Int.emod_add_mul_ediv x 4294967296
  have : pw j * x = pw j * (x % 4294967296) + 4294967296 * pw j * (x / 4294967296) := by
    conv => lhs; rw [← e]
    rw [Int.mul_add, Int.mul_left_comm, Int.mul_assoc]
  omega
end Nm
end Go.Proofs.YtmakkfekomnpbaaGreatDoor

namespace Go.Proofs.YtmakkfekomnpbaaGreatDoor
open Go.RowKit Go.Deep

/-- An append whose run is known. -/
theorem wpList_append_row {ty : TypeId} {ops : Array Oper} {rest : List Oper} {o : Oper} {a : Act} {Q : Exit → Act → World → Prop} (hgd : o.guard = none) (s x : Operand)
    (ho : o.op = .call { callee := .builtin .append, args := #[s, x], argTypes := #[ty, ty] }) {v y v' : Value} {w w' : World} (hr : (Builtin.append_ #[ty, ty] o.type #[v, y]).run Tryz.prog w = .ok v' w') (hs : a.eval s = v) (hx : a.eval x = y)
    (h : wpList Tryz.prog ops Q rest (a.put o.dst v') w') : wpList Tryz.prog ops Q (o :: rest) a w := by
  refine wpList_plain hgd fun K hK => ?_
  unfold Oper.wp execOp
  simp only [ho, resolve, invoke, builtin, Sem.run_bind, Sem.run_pure, Result.andThen_ok, List.map_toArray, List.map_cons, List.map_nil, hs, hx, hr]
  exact hK _ _ h

/-- The limbs xs, and room for k more. -/
def Grown (w : World) (g : Nat) (xs : List Int) (k : Nat) : Prop := Own w g (xs ++ List.replicate k 0)

theorem Grown.made (w : World) (c : Nat) : Grown (w.alloc (.cells (madeCells #[.int .u64 0] c) 26)) w.heap.size [] c := by
  rw [made_zero]; exact Own.alloc w _

theorem Grown.below {w w' : World} {B g k : Nat} {xs : List Int} (h : Grown w g xs k) (hb : Below B w w') (hg : g < B) : Grown w' g xs k := Own.below h hb hg

theorem Grown.lies {w : World} {g k : Nat} {xs : List Int} (h : Grown w g xs k) : Lies w (some ⟨g, 0, none⟩) xs := by
  have := (Own.lies h).take xs.length
  rwa [List.take_left'] at this
  rfl

/-- append(l, x), x one limb. -/
theorem push64 (g n k cap : Nat) (xs : List Int) (x : Int) (w : World) (hn : xs.length = n) (hcap : n + (k + 1) = cap) (ho : Grown w g xs (k + 1)) :
    ∃ w', (Builtin.append_ #[43, 43] 43 #[.slice (some ⟨g, 0, none⟩) n cap, .slice (some ⟨w.heap.size, 0, none⟩) 1 1]).run Tryz.prog (w.alloc (.cells #[.int .u64 x] 26)) = .ok (.slice (some ⟨g, 0, none⟩) (n + 1) cap) w' ∧ Grown w' g (xs ++ [x]) k ∧ Below g w w' ∧ w'.heap.size = w.heap.size + 1 := by
  have hg := Own.lt ho
  have bm : Below w.heap.size w (w.alloc (.cells #[.int .u64 x] 26)) := (Below.refl _ _).alloc (Nat.le_refl _) _
  have hl : Lies (w.alloc (.cells #[.int .u64 x] 26)) (some ⟨w.heap.size, 0, none⟩) [x] := (Own.alloc w [x]).lies
  obtain ⟨w', ap, ow, be, sz⟩ := append64 g cap n (xs ++ List.replicate (k + 1) 0) (some ⟨w.heap.size, 0, none⟩) 1 1 [x] 43 _ (by simp; omega) rfl (by omega) (Own.below ho bm hg) hl
  refine ⟨w', ap, ?_, (bm.mono (by omega)).trans be, by rw [sz, World.size_alloc]⟩
  have e : List.take n (xs ++ List.replicate (k + 1) (0 : Int)) ++ [x] ++ List.drop (n + 1) (xs ++ List.replicate (k + 1) 0) = xs ++ [x] ++ List.replicate k 0 := by
    subst hn
    rw [List.take_left', List.drop_append, List.drop_eq_nil_of_le (by omega), show xs.length + 1 - xs.length = 1 by omega]
    · simp [List.replicate]
    · rfl
  rw [e] at ow
  exact ow
end Go.Proofs.YtmakkfekomnpbaaGreatDoor

namespace Go.Proofs.YtmakkfekomnpbaaGreatDoor
open Go.RowKit Go.Deep

theorem refSize_any (p : Option Addr) (n cap : Nat) (zs : List Int) (w : World) (hn : zs.length = n) (hm : n ≤ 140737488355328) (h : Lies w p zs) :
    Calls Tryz.prog 87 #[.slice p n cap] w fun e w' => e = .returned (.int .i64 (Nm.tsize zs)) ∧ w' = w := by
  rcases h with rfl | ⟨b, off, rfl, hcell⟩
  · have hn0 : n = 0 := by simpa using hn.symm
    subst hn0
    go_enter Tryz.func87, Tryz.ntmps87
    go_wp2
    refine wp_loop_rounds 1 ?_
    rw [rounds_succ]
    go_wp2
    go_ret
    exact ⟨rfl, rfl⟩
  · have H : Hid (zs.length = n) := hn
    have HC : Hid (∀ i, i < zs.length → w.cell? ⟨b, off + i, none⟩ = some (.int .u64 (zs.getD i 0))) := hcell
    clear hn hcell
    go_enter Tryz.func87, Tryz.ntmps87
    go_wp2
    go_loop [3] (fun t => ∃ k : Nat, k ≤ n ∧ t = .int .i64 k ∧ Hid (∀ j, k ≤ j → zs.getD j 0 = 0)) (fun t => (intOf t).toNat)
    case atStart => exact ⟨n, Nat.le_refl _, rfl, fun j hj => by simp [List.getD, List.getElem?_eq_none (show zs.length ≤ j by have := H.out; omega)]⟩
    case round =>
      obtain ⟨k, hk, rfl, hz⟩ := hrel
      by_cases h0 : k = 0
      · subst h0
        go_wp2
        go_ret
        exact ⟨by rw [Nm.tsize_unique zs 0 hz.out (.inl rfl)]; rfl, rfl⟩
      · obtain ⟨j, rfl⟩ : ∃ j, k = j + 1 := ⟨k - 1, by omega⟩
        obtain ⟨x, hx, X⟩ : ∃ x, w.cell? ⟨b, off + j, none⟩ = some (.int .u64 x) ∧ Hid (x = zs.getD j 0) := ⟨_, HC.out j (by have := H.out; omega), rfl⟩
        by_cases hx0 : x = 0
        · subst hx0
          go_wp2
          go_round
          case rel =>
            refine ⟨j, by omega, rfl, fun i hi => ?_⟩
            by_cases e : i = j
            · subst e; exact X.out.symm
            · exact hz.out i (by omega)
          case measure => simp [intOf]
        · go_wp2
          go_ret
          exact ⟨by rw [Nm.tsize_unique zs (j + 1) hz.out (.inr (by rw [Nat.add_sub_cancel, ← X.out]; exact hx0))]; rfl, rfl⟩


theorem refBig_is (s : Bool) (p : Option Addr) (n cap : Nat) (zs : List Int) (w : World) (ha : Arg w p n cap zs) (hs : decide (4096 < Nm.tsize zs) = s) :
    Calls Tryz.prog 63 #[.slice p n cap] w fun e w' => e = .returned (.bool s) ∧ w' = w := by
  obtain ⟨a1, a2, a3, a4, a5⟩ := ha
  have hs' : decide ((4096 : Int) < (Nm.tsize zs : Int)) = s := by rw [← hs]; simp; omega
  have HS := hid hs'
  clear hs hs'
  go_enter Tryz.func63, Tryz.ntmps63
  go_wp2_with (go_at_call 87; refine (refSize_any p n cap zs _ a1 (by omega) a4).mono ?_; rintro e w' ⟨rfl, rfl⟩)
  go_ret
  exact ⟨ret_bool HS.out, rfl⟩

set_option maxRecDepth 100000 in
set_option maxHeartbeats 1000000 in
/-- Trim: the trimmed list in new memory. -/
theorem refTrim_any (p : Option Addr) (n cap : Nat) (zs : List Int) (w : World) (ha : Arg w p n cap zs) :
    Calls Tryz.prog 117 #[.slice p n cap] w fun e w' => ∃ r os, e = .returned (.slice r (List.length os) (List.length os)) ∧ os = Nm.trim zs ∧ Ans w.heap.size w' r os (Nm.val zs) ∧ Below w.heap.size w w' := by
  obtain ⟨a1, a2, a3, a4, a5⟩ := ha
  have tl := Nm.tsize_le zs
  obtain ⟨N, HN⟩ : ∃ N, Hid (Nm.tsize zs = N) := ⟨_, rfl⟩
  have hNn : N ≤ n := by have := HN.out; omega
  have FIN : Hid (∀ w', Grown w' w.heap.size (zs.take N) (N - N) → Below w.heap.size w w' → ∃ r os, Ending.returned (.slice (some ⟨w.heap.size, 0, none⟩) N N) = .returned (.slice r (List.length os) (List.length os)) ∧ os = Nm.trim zs ∧ Ans w.heap.size w' r os (Nm.val zs) ∧ Below w.heap.size w w') := by
    intro w' hg hb
    have e : zs.take N = Nm.trim zs := by rw [← HN.out]; rfl
    rw [e] at hg
    refine ⟨some ⟨w.heap.size, 0, none⟩, Nm.trim zs, ?_, rfl, ⟨hg.lies, a5.trim, ?_, Nm.val_trim zs, fun a h => ?_⟩, hb⟩
    · rw [Nm.trim_length, HN.out]
    · rw [Nm.trim_trim, Nm.trim_length]
    · cases h; exact Nat.le_refl _
  have hmk := make64_room N (by omega) w
  have bm := hid ((Below.refl w.heap.size w).alloc (Nat.le_refl _) (.cells (madeCells #[.int .u64 0] N) 26))
  have gm := hid (Grown.made w N)
  generalize w.alloc (.cells (madeCells #[.int .u64 0] N) 26) = wm at hmk bm gm
  rcases a4 with rfl | ⟨b, off, rfl, hcell⟩
  · have hn0 : n = 0 := by simpa using a1.symm
    subst hn0
    obtain rfl : N = 0 := by omega
    have E := hid (FIN.out wm (by simpa using gm.out) bm.out)
    clear FIN a1 a5 gm
    rw [show ((0 : Nat) : Int) = 0 from rfl] at hmk
    go_enter Tryz.func117, Tryz.ntmps117
    go_wp2
    refine wp_loop_rounds 1 ?_
    rw [rounds_succ]
    go_wp2
    refine wp_loop_rounds 1 ?_
    rw [rounds_succ]
    go_wp2
    go_ret
    exact E.out
  · have H : Hid (zs.length = n) := a1
    have HC : Hid (∀ i, i < zs.length → w.cell? ⟨b, off + i, none⟩ = some (.int .u64 (zs.getD i 0))) := hcell
    have hbw : 0 < N → b < w.heap.size := fun h => cell_lt (hcell 0 (by omega))
    clear a1 hcell a5 tl
    go_enter Tryz.func117, Tryz.ntmps117
    go_wp2
    go_loop [3] (fun t => ∃ k : Nat, k ≤ n ∧ t = .int .i64 k ∧ Hid (∀ j, k ≤ j → zs.getD j 0 = 0)) (fun t => (intOf t).toNat)
    case atStart => exact ⟨n, Nat.le_refl _, rfl, fun j hj => by simp [List.getD, List.getElem?_eq_none (show zs.length ≤ j by have := H.out; omega)]⟩
    case round =>
      obtain ⟨k, hk, rfl, hz⟩ := hrel
      by_cases h0 : k = N
      · subst h0
        by_cases h1 : k = 0
        · subst h1
          rw [show ((0 : Nat) : Int) = 0 from rfl] at hmk
          go_wp2
          refine wp_loop_rounds 1 ?_
          rw [rounds_succ]
          go_wp2
          go_ret
          exact FIN.out wm (by simpa using gm.out) bm.out
        · obtain ⟨t, rfl⟩ : ∃ t, k = t + 1 := ⟨k - 1, by omega⟩
          obtain ⟨x, hx, hx0⟩ : ∃ x, w.cell? ⟨b, off + t, none⟩ = some (.int .u64 x) ∧ x ≠ 0 := by
            refine ⟨_, HC.out t (by have := H.out; omega), ?_⟩
            have := Nm.tsize_top zs (by have := HN.out; omega)
            rw [HN.out] at this
            exact this
          obtain ⟨N, hN, NE⟩ : ∃ N, N ≤ n ∧ Hid (t + 1 = N) := ⟨_, hk, rfl⟩
          have hmk2 : (Instr.makeSlice 43 (.int .i64 0) (.int .i64 ((t : Int) + 1))).run Tryz.prog w = .ok (.slice (some ⟨w.heap.size, 0, none⟩) 0 N) wm := by
            rw [NE.out] at hmk
            have e : (t : Int) + 1 = (N : Int) := by have := NE.out; omega
            rw [e]; exact hmk
          have hmk3 : (Instr.makeSlice 43 (.int .i64 0) (.int .i64 ((t + 1 : Nat) : Int))).run Tryz.prog w = .ok (.slice (some ⟨w.heap.size, 0, none⟩) 0 N) wm := by
            have e := NE.out
            have h := hmk
            rw [e] at h ⊢
            exact h
          have G0 : Hid (Grown wm w.heap.size (zs.take 0) (N - 0)) := by have := gm.out; rw [NE.out] at this; exact this
          have hbb := hbw (by omega)
          have FI : Hid (∀ w', Grown w' w.heap.size (zs.take N) (N - N) → Below w.heap.size w w' → ∃ r os, Ending.returned (.slice (some ⟨w.heap.size, 0, none⟩) N N) = .returned (.slice r (List.length os) (List.length os)) ∧ os = Nm.trim zs ∧ Ans w.heap.size w' r os (Nm.val zs) ∧ Below w.heap.size w w') := by
            have := FIN.out; rw [NE.out] at this; exact this
          have e2 : (t : Int) + 1 = (N : Int) := by have := NE.out; omega
          have E2 := hid e2
          clear hmk hmk3 gm hbw FIN e2 hNn
          go_wp2
          go_loopw [4, 5] (fun a i wr => ∃ j : Nat, j ≤ N ∧ i = .int .i64 j ∧ a = .slice (some ⟨w.heap.size, 0, none⟩) j N ∧ Hid (Grown wr w.heap.size (zs.take j) (N - j)) ∧ Below w.heap.size w wr) (fun _ i _ => N - (intOf i).toNat)
          case atStart => exact ⟨0, Nat.zero_le _, rfl, rfl, G0.out, bm.out⟩
          case round =>
            obtain ⟨j, hj, rfl, rfl, G, hB⟩ := hrel
            by_cases hlt : j < N
            · obtain ⟨y, hy, Y⟩ : ∃ y, wr.cell? ⟨b, off + j, none⟩ = some (.int .u64 y) ∧ Hid (y = zs.getD j 0) := ⟨_, (hB.cell (p := ⟨b, off + j, none⟩) hbb).trans (HC.out j (by have := H.out; omega)), rfl⟩
              have G' := G.out
              rw [show N - j = (N - j - 1) + 1 by omega] at G'
              obtain ⟨w2, ap, gr, be, sz⟩ := push64 w.heap.size j (N - j - 1) N (zs.take j) y wr (by rw [List.length_take]; have := H.out; omega) (by omega) G'
              have AP := hid ap
              have GR := hid gr
              have BE := hid (hB.trans be)
              have hlt' : (j : Int) < (t : Int) + 1 := by have := E2.out; omega
              clear ap gr be sz hB G G'
              go_wp2_with (at_builtin; refine wpList_append_row rfl _ _ rfl AP.out (by rfl) (by rfl) ?_; clear AP)
              go_roundw
              case rel =>
                refine ⟨j + 1, by omega, by go_num, rfl, ?_, BE.out⟩
                have := GR.out
                rw [Y.out, ← Nm.take_snoc zs j (by have := H.out; omega)] at this
                exact this
              case measure => simp [intOf]; omega
            · obtain rfl : j = N := by omega
              have hlt' : ¬ (j : Int) < (t : Int) + 1 := by have := E2.out; omega
              have E := hid (FI.out wr G.out hB)
              clear FI G hB
              go_wp2
              go_ret
              exact E.out
      · obtain ⟨j, rfl⟩ : ∃ j, k = j + 1 := by
          refine ⟨k - 1, ?_⟩
          rcases Nat.eq_zero_or_pos k with hk0 | hk0
          · exfalso
            have := Nm.tsize_unique zs 0 (by rw [← hk0]; exact hz.out) (.inl rfl)
            have := HN.out
            omega
          · omega
        obtain ⟨x, hx, X⟩ : ∃ x, w.cell? ⟨b, off + j, none⟩ = some (.int .u64 x) ∧ Hid (x = zs.getD j 0) := ⟨_, HC.out j (by have := H.out; omega), rfl⟩
        have hx0 : x = 0 := by
          by_cases hx0 : x = 0
          · exact hx0
          · exfalso
            have := Nm.tsize_unique zs (j + 1) hz.out (.inr (by rw [Nat.add_sub_cancel, ← X.out]; exact hx0))
            have := HN.out
            omega
        subst hx0
        go_wp2
        go_round
        case rel =>
          refine ⟨j, by omega, rfl, fun i hi => ?_⟩
          by_cases e : i = j
          · subst e; exact X.out.symm
          · exact hz.out i (by omega)
        case measure => simp [intOf]
end Go.Proofs.YtmakkfekomnpbaaGreatDoor

namespace Go.Proofs.YtmakkfekomnpbaaGreatDoor
open Go.RowKit Go.Deep

theorem r_mask32 (x : Int) (h0 : 0 ≤ x) (h1 : x < 18446744073709551616) : bits .and .u64 x 4294967295 = x % 4294967296 := by
  obtain ⟨n, rfl⟩ := Int.eq_ofNat_of_zero_le h0
  have h := bits_and_u64_nat n 4294967295 (by omega) (by omega)
  have e : n &&& 4294967295 = n % 4294967296 := Nat.and_two_pow_sub_one_eq_mod n 32
  rw [e] at h
  rw [show (4294967295 : Int) = ((4294967295 : Nat) : Int) from rfl, h]
  omega

theorem ret_len {p : Option Addr} {a b c : Nat} (h : a = b) : Ending.returned (.slice p a c) = .returned (.slice p b c) := by rw [h]

/-- What halves answers. -/
def HalvesOf (w w' : World) (n : Nat) (zs : List Int) (e : Ending) : Prop :=
  ∃ hs : List Int, e = .returned (.slice (some ⟨w.heap.size, 0, none⟩) (List.length hs) (2 * n)) ∧ Lies w' (some ⟨w.heap.size, 0, none⟩) hs ∧ Nm.Halves hs ∧ Nm.v32 hs = Nm.val zs ∧ hs.length ≤ 2 * Nm.tsize zs ∧ Below w.heap.size w w'

set_option maxRecDepth 100000 in
set_option maxHeartbeats 2000000 in
theorem halves_any (p : Option Addr) (n cap : Nat) (zs : List Int) (w : World) (ha : Arg w p n cap zs) (hn : n ≤ 17592186044416) :
    Calls Tryz.prog 85 #[.slice p n cap] w fun e w' => HalvesOf w w' n zs e := by
  obtain ⟨a1, a2, a3, a4, a5⟩ := ha
  have hmk := make64_room (2 * n) (by omega) w
  have bm := hid ((Below.refl w.heap.size w).alloc (Nat.le_refl _) (.cells (madeCells #[.int .u64 0] (2 * n)) 26))
  have gm := hid (Grown.made w (2 * n))
  rw [show ((2 * n : Nat) : Int) = 2 * (n : Int) by omega] at hmk
  generalize w.alloc (.cells (madeCells #[.int .u64 0] (2 * n)) 26) = wm at hmk bm gm
  rcases a4 with rfl | ⟨b, off, rfl, hcell⟩
  · have hn0 : n = 0 := by simpa using a1.symm
    subst hn0
    rw [show 2 * ((0 : Nat) : Int) = 0 from rfl] at hmk
    have E : Hid (HalvesOf w wm 0 [] (.returned (.slice (some ⟨w.heap.size, 0, none⟩) 0 0))) := ⟨[], rfl, Lies.nil _ _, Nm.Halves.nil, rfl, by simp, bm.out⟩
    clear a1 a5 gm bm
    go_enter Tryz.func85, Tryz.ntmps85
    go_wp2
    refine wp_loop_rounds 1 ?_
    rw [rounds_succ]
    go_wp2
    refine wp_loop_rounds 1 ?_
    rw [rounds_succ]
    go_wp2
    go_ret
    exact E.out
  · have H : Hid (zs.length = n) := a1
    have HC : Hid (∀ i, i < zs.length → w.cell? ⟨b, off + i, none⟩ = some (.int .u64 (zs.getD i 0))) := hcell
    have hbw : 0 < n → b < w.heap.size := fun h => cell_lt (hcell 0 (by omega))
    have HL := hid a5
    clear a1 hcell a5
    go_enter Tryz.func85, Tryz.ntmps85
    go_wp2
    go_loopw [3, 4] (fun a i wr => ∃ (j : Nat) (hs : List Int), j ≤ n ∧ i = .int .i64 j ∧ a = .slice (some ⟨w.heap.size, 0, none⟩) (2 * j) (2 * n) ∧ Hid (Grown wr w.heap.size hs (2 * n - 2 * j)) ∧ Hid (hs.length = 2 * j) ∧ Hid (Nm.Halves hs) ∧ Hid (Nm.v32 hs = Nm.val (zs.take j)) ∧ Below w.heap.size w wr) (fun _ i _ => n - (intOf i).toNat)
    case atStart => exact ⟨0, [], Nat.zero_le _, rfl, rfl, gm.out, rfl, Nm.Halves.nil, rfl, bm.out⟩
    case round =>
      obtain ⟨j, hs, hj, rfl, rfl, G, L, HH, V, hB⟩ := hrel
      by_cases hlt : j < n
      · have hbb := hbw (by omega)
        obtain ⟨x, hx, X⟩ : ∃ x, wr.cell? ⟨b, off + j, none⟩ = some (.int .u64 x) ∧ Hid (x = zs.getD j 0) := ⟨_, (hB.cell (p := ⟨b, off + j, none⟩) hbb).trans (HC.out j (by have := H.out; omega)), rfl⟩
        have hx0 : 0 ≤ x := by have := HL.out.at j; have := X.out; omega
        have hx1 : x < 18446744073709551616 := by have := HL.out.at j; have := X.out; omega
        obtain ⟨lo, hlo, LO⟩ : ∃ lo, bits .and .u64 x 4294967295 = lo ∧ Hid (lo = x % 4294967296) := ⟨_, r_mask32 x hx0 hx1, rfl⟩
        obtain ⟨hi, hhi, HI⟩ : ∃ hi, x / 4294967296 = hi ∧ Hid (hi = x / 4294967296) := ⟨_, rfl, rfl⟩
        have G' := G.out
        rw [show 2 * n - 2 * j = (2 * n - 2 * j - 1) + 1 by omega] at G'
        obtain ⟨w2, ap, gr, be, sz⟩ := push64 w.heap.size (2 * j) (2 * n - 2 * j - 1) (2 * n) hs lo wr L.out (by omega) G'
        rw [show 2 * n - 2 * j - 1 = (2 * n - 2 * j - 2) + 1 by omega] at gr
        obtain ⟨w3, ap2, gr2, be2, sz2⟩ := push64 w.heap.size (2 * j + 1) (2 * n - 2 * j - 2) (2 * n) (hs ++ [lo]) hi w2 (by simp [L.out]) (by omega) gr
        have hx2 : w2.cell? ⟨b, off + j, none⟩ = some (.int .u64 x) := (be.cell (p := ⟨b, off + j, none⟩) hbb).trans hx
        have AP := hid ap
        have AP2 := hid ap2
        have GR := hid gr2
        have BE := hid ((hB.trans be).trans be2)
        have hlt' : (j : Int) < (n : Int) := by omega
        clear ap ap2 gr gr2 be be2 sz sz2 hB G G'
        go_wp2_with (first | (at_builtin; refine wpList_append_row rfl _ _ rfl AP.out (by rfl) (by rfl) ?_; clear AP) | (at_builtin; refine wpList_append_row rfl _ _ rfl AP2.out (by rfl) (by rfl) ?_; clear AP2))
        go_roundw
        case rel =>
          refine ⟨j + 1, hs ++ [lo] ++ [hi], by omega, by go_num, rfl, ?_, ?_, ?_, ?_, BE.out⟩
          · have := GR.out
            rw [show 2 * n - 2 * j - 2 = 2 * n - 2 * (j + 1) by omega] at this
            exact this
          · have := L.out
            simp only [Hid, List.length_append, List.length_cons, List.length_nil]
            omega
          · have := LO.out
            have := HI.out
            exact (HH.out.snoc (by omega) (by omega)).snoc (by omega) (by omega)
          · rw [Hid, LO.out, HI.out]
            exact Nm.halves_step L.out (by have := H.out; omega) X.out V.out
        case measure => simp [intOf]; omega
      · obtain rfl : j = n := by omega
        have V' : Hid (Nm.v32 hs = Nm.val zs) := by have := V.out; rw [List.take_of_length_le (by have := H.out; omega)] at this; exact this
        have HC2 : Hid (∀ i, i < 2 * j → wr.cell? ⟨w.heap.size, i, none⟩ = some (.int .u64 (hs.getD i 0))) := by
          intro i hi
          have h := Own.cell G.out i (by have := L.out; simp; omega)
          rw [h]
          simp only [List.getD, List.getElem?_append_left (show i < hs.length by have := L.out; omega)]
        have GL := hid G.out.lies
        have HB := hid hB
        clear V G hB hmk gm bm
        go_wp2
        go_loop [5] (fun t => ∃ k : Nat, k ≤ 2 * j ∧ t = .int .i64 k ∧ Hid (∀ i, k ≤ i → hs.getD i 0 = 0)) (fun t => (intOf t).toNat)
        case atStart => exact ⟨2 * j, Nat.le_refl _, by first | rfl | go_num, fun i hi => by simp [List.getD, List.getElem?_eq_none (show hs.length ≤ i by have := L.out; omega)]⟩
        case round =>
          obtain ⟨k, hk, rfl, hz⟩ := hrel
          have FIN : Hid (k ≤ 2 * Nm.tsize zs → HalvesOf w wr j zs (.returned (.slice (some ⟨w.heap.size, 0, none⟩) k (2 * j)))) := by
            intro hkt
            refine ⟨hs.take k, ret_len ?_, GL.out.take k, HH.out.take k, ?_, ?_, HB.out⟩
            · rw [List.length_take]; have := L.out; omega
            · rw [Nm.v32_take_of_zero hs k hz.out]; exact V'.out
            · rw [List.length_take]; omega
          by_cases h0 : k = 0
          · subst h0
            go_wp2
            go_ret
            exact FIN.out (Nat.zero_le _)
          · obtain ⟨t, rfl⟩ : ∃ t, k = t + 1 := ⟨k - 1, by omega⟩
            obtain ⟨x, hx, X⟩ : ∃ x, wr.cell? ⟨w.heap.size, t, none⟩ = some (.int .u64 x) ∧ Hid (x = hs.getD t 0) := ⟨_, HC2.out t (by omega), rfl⟩
            by_cases hx0 : x = 0
            · subst hx0
              clear FIN
              go_wp2
              go_round
              case rel =>
                refine ⟨t, by omega, rfl, fun i hi => ?_⟩
                by_cases e : i = t
                · subst e; exact X.out.symm
                · exact hz.out i (by omega)
              case measure => simp [intOf]
            · have KT := hid (Nm.halves_len HH.out HL.out (by have := L.out; omega) (by rw [← X.out]; exact hx0) ((Nm.v32_take_of_zero hs (t + 1) hz.out).trans V'.out))
              go_wp2
              go_ret
              exact FIN.out KT.out
end Go.Proofs.YtmakkfekomnpbaaGreatDoor
