/-
  THE WALK OF NatShifts.
-/
import Derived.Test.YtamlindelmfbiabDoorShiftAny
import Derived.Test.YtamlindelmfbiabDoorSub
import Derived.Test.YtamlindelmfbiabDoorAwake
namespace Go.Proofs.YtamlindelmfbiabDoor
open Go.RowKit Go.Deep

/-- What the last look tells: the list is empty just if the number is 0. -/
theorem Ans.pos {B : Nat} {w : World} {p : Option Addr} {ys : List Int} {v : Int} (h : Ans B w p ys v) : decide (0 < (ys.length : Int)) = decide (v ≠ 0) := by
  have h1 := Nm.tsize_zero_iff h.2.1
  rw [h.2.2.2.1, h.2.2.1] at h1
  rw [Bool.eq_iff_iff]
  simp only [decide_eq_true_eq]
  omega

theorem blen_le {v : Int} {L k : Nat} (hv : 0 ≤ v) (h : Nm.BLen v L) (hk : v < 2 ^ k) : L ≤ k := by
  by_cases h0 : v = 0
  · have := h.2.1 h0; omega
  · have h1 := h.2.2 (by omega)
    have := two_lt (show (2 : Int) ^ (L - 1) < 2 ^ k by omega)
    omega

set_option maxRecDepth 100000 in
set_option maxHeartbeats 8000000 in
theorem shifts_ok (p : Option Addr) (n cap : Nat) (za : List Int) (kk : Int) (k : Nat) (w : World) (ha : Arg w p n cap za) (hT : Tab w) (tz : Nm.tsize za ≤ 4096) (hkk : kk = (k : Int)) (hk : k ≤ 262144) :
    Calls Tryd.prog 3 #[.slice p n cap, .int .i64 kk] w fun e w' => e = .returned (.bool true) ∧ Below w.heap.size w w' := by
  have HA := hid ha
  have AL := hid ha.1
  have HT := hid hT
  have hn44 : n ≤ 17592186044416 := by have := ha.2.1; have := ha.2.2.1; omega
  have hlim := ha.2.2.2.2
  have v0 := (Nm.val_bd za hlim).1
  have v1 : Nm.val za < Nm.pw 4096 := (Nm.tsize_le_iff hlim 4096).1 tz
  obtain ⟨L, hL, BL, hl1, hl2⟩ := blen_is za hlim
  have HL := hid hL
  have HBL := hid BL
  have hLb : L ≤ 262144 := by omega
  have hP := Nm.two_pos k
  have HK := hid hkk
  have hk0 : ¬ kk < 0 := by omega
  have hk1 : ¬ (262144 : Int) < kk := by omega
  have hkb : kk ≤ 9223372036854775807 := by omega
  have tz' : ¬ (4096 : Int) < (Nm.tsize za : Int) := by omega
  -- down, back, rest
  have q0 : 0 ≤ Nm.val za / 2 ^ k := Int.ediv_nonneg v0 (by omega)
  have q1 : 0 ≤ Nm.val za / 2 ^ k * 2 ^ k := Int.mul_nonneg q0 (by omega)
  have em := Int.emod_add_mul_ediv (Nm.val za) (2 ^ k)
  have e0 := Int.emod_nonneg (Nm.val za) (show (2 : Int) ^ k ≠ 0 by omega)
  have e1 := Int.emod_lt_of_pos (Nm.val za) hP
  rw [Int.mul_comm] at em
  have QS : Hid (Nm.val za / 2 ^ k < Nm.pw 4096) := by
    have : Nm.val za / 2 ^ k ≤ Nm.val za := Int.ediv_le_self _ v0
    show _ < _
    omega
  have QB : Hid (Nm.val za / 2 ^ k * 2 ^ k < Nm.pw 4096) := by show _ < _; omega
  have QL : Hid (Nm.val za / 2 ^ k * 2 ^ k ≤ Nm.val za) := by show _ ≤ _; omega
  have QR : Hid (Nm.val za - Nm.val za / 2 ^ k * 2 ^ k = Nm.val za % 2 ^ k) := by show _ = _; omega
  have RS : Hid (Nm.val za % 2 ^ k < Nm.pw 4096) := by show _ < _; omega
  have R0 := hid e0
  have R1 := hid e1
  have V0 := hid v0
  clear ha hT hkk hL BL hl1 hl2 v0 q0 q1 em e0 e1 hP
  by_cases hbig : 262144 < L + k ∧ 0 < L
  · have hL0 : (0 : Int) < (L : Int) := by omega
    have hLk : (262144 : Int) < (L : Int) + kk := by have := HK.out; omega
    have OV : Hid (Nm.pw 4096 ≤ Nm.val za * 2 ^ k) := by
      have hv : 0 < Nm.val za := by
        rcases (show Nm.val za = 0 ∨ 0 < Nm.val za by have := V0.out; omega) with h | h
        · have := HBL.out.2.1 h; omega
        · exact h
      have h1 := ((BLen.up k HBL.out hv).2.2 (Int.mul_pos hv (Nm.two_pos k))).2
      have h2 := Nm.two_mono (show 262144 ≤ L + k - 1 by omega)
      rw [← pw_4096] at h2
      show _ ≤ _
      omega
    clear hbig
    go_enter Tryd.func3, Tryd.ntmps3
    go_wp2_with fail
    refine (awake_any _).mono ?_
    rintro e w1 ⟨rfl, hb1⟩
    have D1 := hid hb1
    clear hb1
    go_wp2_with fail
    refine (size_any p n cap za _ AL.out (by omega) (HA.out.below D1.out (Nat.le_refl _)).2.2.2.1).mono ?_
    rintro e w2 ⟨rfl, rfl⟩
    go_wp2_with fail
    refine (bitLen_n L p n cap za _ (HA.out.below D1.out (Nat.le_refl _)) HL.out).mono ?_
    rintro e w2 ⟨rfl, rfl⟩
    go_wp2_with fail
    refine (shl_over p n cap za kk k _ (HA.out.below D1.out (Nat.le_refl _)) tz HK.out hkb OV.out).mono ?_
    rintro e w2 ⟨rfl, rfl⟩
    have D5 := hid D1.out
    go_wp2_with fail
    refine (shr_any p n cap za kk k _ (HA.out.below D5.out (Nat.le_refl _)) (HT.out.below D5.out) tz HK.out).mono ?_
    rintro e w6 ⟨r1, o1, rfl, ha1, hb1⟩
    have D6 := hid (chain D5.out hb1 (Nat.le_refl _))
    have A1 := hid ha1
    have l1 := ha1.small QS.out
    have V1 := hid ha1.2.2.2.1
    obtain ⟨lost, LOST⟩ : ∃ b, Hid (decide (Nm.val za % 2 ^ k ≠ 0) = b) := ⟨_, rfl⟩
    rw [LOST.out]
    clear hb1 ha1
    go_wp2_with fail
    refine (shl_any r1 _ _ o1 kk k _ (A1.out.arg (by omega)) (by rw [A1.out.2.2.1]; exact l1) HK.out (by rw [V1.out]; exact QB.out)).mono ?_
    rintro e w7 ⟨r2, o2, rfl, ha2, hb1⟩
    rw [V1.out] at ha2
    have D7 := hid (chain D6.out hb1 (Nat.le_refl _))
    have A2 := hid ha2
    have l2 := ha2.small QB.out
    clear hb1 ha2 A1
    go_wp2_with fail
    refine (sub_ok p r2 n cap _ _ za o2 _ (HA.out.below D7.out (Nat.le_refl _)) (A2.out.arg (by omega)) tz (by rw [A2.out.2.2.2.1]; exact QL.out)).mono ?_
    rintro e w8 ⟨r3, o3, rfl, ha3, hb1⟩
    rw [A2.out.2.2.2.1, QR.out] at ha3
    have D8 := hid (chain D7.out hb1 (Nat.le_refl _))
    have A3 := hid ha3
    have l3 := ha3.small RS.out
    clear hb1 ha3 A2
    go_wp2_with fail
    refine (low_any p n cap za kk k _ (HA.out.below D8.out (Nat.le_refl _)) tz HK.out).mono ?_
    rintro e w9 ⟨r4, o4, rfl, ha4, hb1⟩
    have D9 := hid (chain D8.out hb1 (Nat.le_refl _))
    have A3b := hid (A3.out.below hb1 (Nat.le_refl _))
    have A4 := hid ha4
    have l4 := ha4.small RS.out
    have SM : Hid (decide (o4 = o3) = true) := by
      simp only [Hid, decide_eq_true_eq]
      exact Nm.canon ha4.2.1 A3b.out.2.1 ha4.2.2.1 A3b.out.2.2.1 (by rw [ha4.2.2.2.1, A3b.out.2.2.2.1])
    clear hb1 ha4 A3
    go_wp2_with fail
    refine (same_is true r4 r3 _ _ _ _ o4 o3 _ (A4.out.arg (by omega)) (A3b.out.arg (by omega)) SM.out).mono ?_
    rintro e w10 ⟨rfl, hb1⟩
    have D10 := hid (chain D9.out hb1 (Nat.le_refl _))
    have A3c := hid (A3b.out.below hb1 (Nat.le_refl _))
    clear hb1 A3b A4 SM
    obtain ⟨Lr, hLr, BLr, _, _⟩ := blen_is o3 A3c.out.2.1
    rw [A3c.out.2.2.2.1] at BLr
    have hLrk : (Lr : Int) ≤ kk := by have := blen_le R0.out BLr R1.out; have := HK.out; omega
    have HLR := hid hLr
    clear hLr BLr
    go_wp2_with fail
    refine (bitLen_n Lr r3 _ _ o3 _ (A3c.out.arg (by omega)) HLR.out).mono ?_
    rintro e w11 ⟨rfl, rfl⟩
    have hlast : decide (0 < (o3.length : Int)) = lost := (A3c.out.pos).trans LOST.out
    have hlast2 : decide (0 < o3.length) = lost := by rw [← hlast]; simp
    go_wp2_with fail
    go_ret
    exact ⟨by first | rfl | simp [hlast, hlast2], D10.out⟩
  have US : Hid (Nm.val za * 2 ^ k < Nm.pw 4096) := by
    by_cases h0 : Nm.val za = 0
    · show _ < _
      rw [h0, Int.zero_mul]
      exact Nm.pw_pos _
    · have hv : 0 < Nm.val za := by have := V0.out; omega
      have hLp := (HBL.out.2.2 hv).1
      have h1 := (BLen.up k HBL.out hv).1
      have h2 := Nm.two_mono (show L + k ≤ 262144 by omega)
      rw [← pw_4096] at h2
      show _ < _
      omega
  have UM : Hid (Nm.val za * 2 ^ k % 2 ^ k = 0) := Int.mul_emod_left _ _
  have UD : Hid (Nm.val za * 2 ^ k / 2 ^ k = Nm.val za) := Int.mul_ediv_cancel _ (by have := Nm.two_pos k; omega)
  by_cases hL0 : L = 0
  · have hL0' : ¬ (0 : Int) < (L : Int) := by omega
    clear hbig hL0
    go_enter Tryd.func3, Tryd.ntmps3
    go_wp2_with fail
    refine (awake_any _).mono ?_
    rintro e w1 ⟨rfl, hb1⟩
    have D1 := hid hb1
    clear hb1
    go_wp2_with fail
    refine (size_any p n cap za _ AL.out (by omega) (HA.out.below D1.out (Nat.le_refl _)).2.2.2.1).mono ?_
    rintro e w2 ⟨rfl, rfl⟩
    go_wp2_with fail
    refine (bitLen_n L p n cap za _ (HA.out.below D1.out (Nat.le_refl _)) HL.out).mono ?_
    rintro e w2 ⟨rfl, rfl⟩
    go_wp2_with fail
    refine (shl_any p n cap za kk k _ (HA.out.below D1.out (Nat.le_refl _)) tz HK.out US.out).mono ?_
    rintro e w2 ⟨ru, ou, rfl, hau, hb1⟩
    have D2 := hid (chain D1.out hb1 (Nat.le_refl _))
    have AU := hid hau
    have lu := hau.small US.out
    have VU := hid hau.2.2.2.1
    clear hb1 hau
    go_wp2_with fail
    refine (shr_any ru _ _ ou kk k _ (AU.out.arg (by omega)) (HT.out.below D2.out) (by rw [AU.out.2.2.1]; exact lu) HK.out).mono ?_
    rintro e w3 ⟨rd, od, rfl, had, hb1⟩
    rw [VU.out, UD.out] at had
    have D3 := hid (chain D2.out hb1 (Nat.le_refl _))
    have AU2 := hid (AU.out.below hb1 (Nat.le_refl _))
    have AD := hid had
    have ld : od.length ≤ 4096 := by have := had.len HA.out.2.2.2.2 rfl; omega
    have LO1 : decide (Nm.val ou % 2 ^ k ≠ 0) = false := by rw [VU.out, UM.out]; rfl
    rw [LO1]
    clear hb1 had AU LO1
    go_wp2_with fail
    refine (cmp_is 0 rd p _ _ n cap od za _ (AD.out.arg (by omega)) (HA.out.below D3.out (Nat.le_refl _)) (cmpI_eq AD.out.2.2.2.1)).mono ?_
    rintro e w4 ⟨rfl, hb1⟩
    have D4 := hid (chain D3.out hb1 (Nat.le_refl _))
    have AU3 := hid (AU2.out.below hb1 (Nat.le_refl _))
    clear hb1 AU2 AD
    go_wp2_with fail
    have D5 := hid D4.out
    refine (shr_any p n cap za kk k _ (HA.out.below D5.out (Nat.le_refl _)) (HT.out.below D5.out) tz HK.out).mono ?_
    rintro e w6 ⟨r1, o1, rfl, ha1, hb1⟩
    have D6 := hid (chain D5.out hb1 (Nat.le_refl _))
    have A1 := hid ha1
    have l1 := ha1.small QS.out
    have V1 := hid ha1.2.2.2.1
    obtain ⟨lost, LOST⟩ : ∃ b, Hid (decide (Nm.val za % 2 ^ k ≠ 0) = b) := ⟨_, rfl⟩
    rw [LOST.out]
    clear hb1 ha1
    go_wp2_with fail
    refine (shl_any r1 _ _ o1 kk k _ (A1.out.arg (by omega)) (by rw [A1.out.2.2.1]; exact l1) HK.out (by rw [V1.out]; exact QB.out)).mono ?_
    rintro e w7 ⟨r2, o2, rfl, ha2, hb1⟩
    rw [V1.out] at ha2
    have D7 := hid (chain D6.out hb1 (Nat.le_refl _))
    have A2 := hid ha2
    have l2 := ha2.small QB.out
    clear hb1 ha2 A1
    go_wp2_with fail
    refine (sub_ok p r2 n cap _ _ za o2 _ (HA.out.below D7.out (Nat.le_refl _)) (A2.out.arg (by omega)) tz (by rw [A2.out.2.2.2.1]; exact QL.out)).mono ?_
    rintro e w8 ⟨r3, o3, rfl, ha3, hb1⟩
    rw [A2.out.2.2.2.1, QR.out] at ha3
    have D8 := hid (chain D7.out hb1 (Nat.le_refl _))
    have A3 := hid ha3
    have l3 := ha3.small RS.out
    clear hb1 ha3 A2
    go_wp2_with fail
    refine (low_any p n cap za kk k _ (HA.out.below D8.out (Nat.le_refl _)) tz HK.out).mono ?_
    rintro e w9 ⟨r4, o4, rfl, ha4, hb1⟩
    have D9 := hid (chain D8.out hb1 (Nat.le_refl _))
    have A3b := hid (A3.out.below hb1 (Nat.le_refl _))
    have A4 := hid ha4
    have l4 := ha4.small RS.out
    have SM : Hid (decide (o4 = o3) = true) := by
      simp only [Hid, decide_eq_true_eq]
      exact Nm.canon ha4.2.1 A3b.out.2.1 ha4.2.2.1 A3b.out.2.2.1 (by rw [ha4.2.2.2.1, A3b.out.2.2.2.1])
    clear hb1 ha4 A3
    go_wp2_with fail
    refine (same_is true r4 r3 _ _ _ _ o4 o3 _ (A4.out.arg (by omega)) (A3b.out.arg (by omega)) SM.out).mono ?_
    rintro e w10 ⟨rfl, hb1⟩
    have D10 := hid (chain D9.out hb1 (Nat.le_refl _))
    have A3c := hid (A3b.out.below hb1 (Nat.le_refl _))
    clear hb1 A3b A4 SM
    obtain ⟨Lr, hLr, BLr, _, _⟩ := blen_is o3 A3c.out.2.1
    rw [A3c.out.2.2.2.1] at BLr
    have hLrk : (Lr : Int) ≤ kk := by have := blen_le R0.out BLr R1.out; have := HK.out; omega
    have HLR := hid hLr
    clear hLr BLr
    go_wp2_with fail
    refine (bitLen_n Lr r3 _ _ o3 _ (A3c.out.arg (by omega)) HLR.out).mono ?_
    rintro e w11 ⟨rfl, rfl⟩
    have hlast : decide (0 < (o3.length : Int)) = lost := (A3c.out.pos).trans LOST.out
    have hlast2 : decide (0 < o3.length) = lost := by rw [← hlast]; simp
    go_wp2_with fail
    go_ret
    exact ⟨by first | rfl | simp [hlast, hlast2], D10.out⟩
  · have hL0' : (0 : Int) < (L : Int) := by omega
    have hLk : ¬ (262144 : Int) < (L : Int) + kk := by have := HK.out; omega
    have hv : 0 < Nm.val za := by
      rcases (show Nm.val za = 0 ∨ 0 < Nm.val za by have := V0.out; omega) with h | h
      · have := HBL.out.2.1 h; omega
      · exact h
    have HV := hid hv
    have LB : (L : Int) ≤ 262144 := by omega
    clear hbig hL0 hv
    go_enter Tryd.func3, Tryd.ntmps3
    go_wp2_with fail
    refine (awake_any _).mono ?_
    rintro e w1 ⟨rfl, hb1⟩
    have D1 := hid hb1
    clear hb1
    go_wp2_with fail
    refine (size_any p n cap za _ AL.out (by omega) (HA.out.below D1.out (Nat.le_refl _)).2.2.2.1).mono ?_
    rintro e w2 ⟨rfl, rfl⟩
    go_wp2_with fail
    refine (bitLen_n L p n cap za _ (HA.out.below D1.out (Nat.le_refl _)) HL.out).mono ?_
    rintro e w2 ⟨rfl, rfl⟩
    go_wp2_with fail
    refine (shl_any p n cap za kk k _ (HA.out.below D1.out (Nat.le_refl _)) tz HK.out US.out).mono ?_
    rintro e w2 ⟨ru, ou, rfl, hau, hb1⟩
    have D2 := hid (chain D1.out hb1 (Nat.le_refl _))
    have AU := hid hau
    have lu := hau.small US.out
    have VU := hid hau.2.2.2.1
    clear hb1 hau
    go_wp2_with fail
    refine (shr_any ru _ _ ou kk k _ (AU.out.arg (by omega)) (HT.out.below D2.out) (by rw [AU.out.2.2.1]; exact lu) HK.out).mono ?_
    rintro e w3 ⟨rd, od, rfl, had, hb1⟩
    rw [VU.out, UD.out] at had
    have D3 := hid (chain D2.out hb1 (Nat.le_refl _))
    have AU2 := hid (AU.out.below hb1 (Nat.le_refl _))
    have AD := hid had
    have ld : od.length ≤ 4096 := by have := had.len HA.out.2.2.2.2 rfl; omega
    have LO1 : decide (Nm.val ou % 2 ^ k ≠ 0) = false := by rw [VU.out, UM.out]; rfl
    rw [LO1]
    clear hb1 had AU LO1
    go_wp2_with fail
    refine (cmp_is 0 rd p _ _ n cap od za _ (AD.out.arg (by omega)) (HA.out.below D3.out (Nat.le_refl _)) (cmpI_eq AD.out.2.2.2.1)).mono ?_
    rintro e w4 ⟨rfl, hb1⟩
    have D4 := hid (chain D3.out hb1 (Nat.le_refl _))
    have AU3 := hid (AU2.out.below hb1 (Nat.le_refl _))
    clear hb1 AU2 AD
    go_wp2_with fail
    obtain ⟨Lu, hLu, BLu, _, _⟩ := blen_is ou AU3.out.2.1
    rw [VU.out] at BLu
    have HLU : Hid (blen ou = ((L + k : Nat) : Int)) := by
      rw [Hid, hLu, BLu.unique (Int.le_of_lt (Int.mul_pos HV.out (Nm.two_pos k))) (BLen.up k HBL.out HV.out)]
    clear hLu BLu
    refine (bitLen_n (L + k) ru _ _ ou _ (AU3.out.arg (by omega)) HLU.out).mono ?_
    rintro e w4 ⟨rfl, rfl⟩
    have eLk : ((L + k : Nat) : Int) = (L : Int) + kk := by have := HK.out; omega
    rw [eLk]
    clear eLk
    go_wp2_with fail
    refine (trail_any ru _ _ ou _ (AU3.out.arg (by omega)) (HT.out.below D4.out)).mono ?_
    rintro e w4 ⟨t1, rfl, ht1, rfl⟩
    rw [VU.out] at ht1
    have HT1 := hid ht1
    clear ht1
    go_wp2_with fail
    refine (trail_any p n cap za _ (HA.out.below D4.out (Nat.le_refl _)) (HT.out.below D4.out)).mono ?_
    rintro e w4 ⟨t2, rfl, ht2, rfl⟩
    have et : (t1 : Int) = (t2 : Int) + kk := by
      have := HT1.out.unique (Trl.up k ht2 HV.out)
      have := HK.out
      omega
    rw [et]
    have htb : (t2 : Int) + kk ≤ 9223372036854775807 ∧ (0 : Int) ≤ (t2 : Int) := by
      have h1 : (2 : Int) ^ t2 ≤ Nm.val za := by
        rcases ht2 with ⟨h, _⟩ | ⟨m, hm⟩
        · have := HV.out; omega
        · have hp := Nm.two_pos t2
          have hm0 : 0 ≤ m := by
            rcases (show m < 0 ∨ 0 ≤ m by omega) with h | h
            · exfalso
              have : 2 ^ t2 * (2 * m + 1) ≤ 2 ^ t2 * (-1) := Int.mul_le_mul_of_nonneg_left (by omega) (by omega)
              have := HV.out
              omega
            · exact h
          have : 2 ^ t2 * 1 ≤ 2 ^ t2 * (2 * m + 1) := Int.mul_le_mul_of_nonneg_left (by omega) (by omega)
          omega
      have h2 := HBL.out.1
      have := two_lt (show (2 : Int) ^ t2 < 2 ^ L by omega)
      have := HK.out
      omega
    obtain ⟨htb1, htb2⟩ := htb
    clear ht2 et HT1
    go_wp2_with fail
    have D5 := hid D4.out
    refine (shr_any p n cap za kk k _ (HA.out.below D5.out (Nat.le_refl _)) (HT.out.below D5.out) tz HK.out).mono ?_
    rintro e w6 ⟨r1, o1, rfl, ha1, hb1⟩
    have D6 := hid (chain D5.out hb1 (Nat.le_refl _))
    have A1 := hid ha1
    have l1 := ha1.small QS.out
    have V1 := hid ha1.2.2.2.1
    obtain ⟨lost, LOST⟩ : ∃ b, Hid (decide (Nm.val za % 2 ^ k ≠ 0) = b) := ⟨_, rfl⟩
    rw [LOST.out]
    clear hb1 ha1
    go_wp2_with fail
    refine (shl_any r1 _ _ o1 kk k _ (A1.out.arg (by omega)) (by rw [A1.out.2.2.1]; exact l1) HK.out (by rw [V1.out]; exact QB.out)).mono ?_
    rintro e w7 ⟨r2, o2, rfl, ha2, hb1⟩
    rw [V1.out] at ha2
    have D7 := hid (chain D6.out hb1 (Nat.le_refl _))
    have A2 := hid ha2
    have l2 := ha2.small QB.out
    clear hb1 ha2 A1
    go_wp2_with fail
    refine (sub_ok p r2 n cap _ _ za o2 _ (HA.out.below D7.out (Nat.le_refl _)) (A2.out.arg (by omega)) tz (by rw [A2.out.2.2.2.1]; exact QL.out)).mono ?_
    rintro e w8 ⟨r3, o3, rfl, ha3, hb1⟩
    rw [A2.out.2.2.2.1, QR.out] at ha3
    have D8 := hid (chain D7.out hb1 (Nat.le_refl _))
    have A3 := hid ha3
    have l3 := ha3.small RS.out
    clear hb1 ha3 A2
    go_wp2_with fail
    refine (low_any p n cap za kk k _ (HA.out.below D8.out (Nat.le_refl _)) tz HK.out).mono ?_
    rintro e w9 ⟨r4, o4, rfl, ha4, hb1⟩
    have D9 := hid (chain D8.out hb1 (Nat.le_refl _))
    have A3b := hid (A3.out.below hb1 (Nat.le_refl _))
    have A4 := hid ha4
    have l4 := ha4.small RS.out
    have SM : Hid (decide (o4 = o3) = true) := by
      simp only [Hid, decide_eq_true_eq]
      exact Nm.canon ha4.2.1 A3b.out.2.1 ha4.2.2.1 A3b.out.2.2.1 (by rw [ha4.2.2.2.1, A3b.out.2.2.2.1])
    clear hb1 ha4 A3
    go_wp2_with fail
    refine (same_is true r4 r3 _ _ _ _ o4 o3 _ (A4.out.arg (by omega)) (A3b.out.arg (by omega)) SM.out).mono ?_
    rintro e w10 ⟨rfl, hb1⟩
    have D10 := hid (chain D9.out hb1 (Nat.le_refl _))
    have A3c := hid (A3b.out.below hb1 (Nat.le_refl _))
    clear hb1 A3b A4 SM
    obtain ⟨Lr, hLr, BLr, _, _⟩ := blen_is o3 A3c.out.2.1
    rw [A3c.out.2.2.2.1] at BLr
    have hLrk : (Lr : Int) ≤ kk := by have := blen_le R0.out BLr R1.out; have := HK.out; omega
    have HLR := hid hLr
    clear hLr BLr
    go_wp2_with fail
    refine (bitLen_n Lr r3 _ _ o3 _ (A3c.out.arg (by omega)) HLR.out).mono ?_
    rintro e w11 ⟨rfl, rfl⟩
    have hlast : decide (0 < (o3.length : Int)) = lost := (A3c.out.pos).trans LOST.out
    have hlast2 : decide (0 < o3.length) = lost := by rw [← hlast]; simp
    go_wp2_with fail
    go_ret
    exact ⟨by first | rfl | simp [hlast, hlast2], D10.out⟩

set_option maxRecDepth 100000 in
set_option maxHeartbeats 1000000 in
/-- Nothing is claimed: the number is too long, or the count is out of its range. -/
theorem shifts_out (p : Option Addr) (n cap : Nat) (za : List Int) (kk : Int) (w : World) (ha : Arg w p n cap za) (h : 4096 < Nm.tsize za ∨ Nm.tsize za ≤ 4096 ∧ (kk < 0 ∨ 0 ≤ kk ∧ 262144 < kk)) :
    Calls Tryd.prog 3 #[.slice p n cap, .int .i64 kk] w fun e w' => e = .returned (.bool true) ∧ Below w.heap.size w w' := by
  have HA := hid ha
  have AL := hid ha.1
  have hn44 : n ≤ 17592186044416 := by have := ha.2.1; have := ha.2.2.1; omega
  clear ha
  rcases h with h | ⟨h, h2 | ⟨h2, h3⟩⟩
  · have h' : (4096 : Int) < (Nm.tsize za : Int) := by omega
    go_enter Tryd.func3, Tryd.ntmps3
    go_wp2_with fail
    refine (awake_any _).mono ?_
    rintro e w1 ⟨rfl, hb1⟩
    have D1 := hid hb1
    clear hb1
    go_wp2_with fail
    refine (size_any p n cap za _ AL.out (by omega) (HA.out.below D1.out (Nat.le_refl _)).2.2.2.1).mono ?_
    rintro e w2 ⟨rfl, rfl⟩
    go_wp2_with fail
    go_ret
    exact ⟨rfl, D1.out⟩
  all_goals
    have h' : ¬ (4096 : Int) < (Nm.tsize za : Int) := by omega
    go_enter Tryd.func3, Tryd.ntmps3
    go_wp2_with fail
    refine (awake_any _).mono ?_
    rintro e w1 ⟨rfl, hb1⟩
    have D1 := hid hb1
    clear hb1
    go_wp2_with fail
    refine (size_any p n cap za _ AL.out (by omega) (HA.out.below D1.out (Nat.le_refl _)).2.2.2.1).mono ?_
    rintro e w2 ⟨rfl, rfl⟩
    go_wp2_with fail
    go_ret
    exact ⟨rfl, D1.out⟩

theorem shifts_any (p : Option Addr) (n cap : Nat) (za : List Int) (kk : Int) (w : World) (ha : Arg w p n cap za) (hT : Tab w) :
    Calls Tryd.prog 3 #[.slice p n cap, .int .i64 kk] w fun e w' => e = .returned (.bool true) ∧ Below w.heap.size w w' := by
  by_cases h : Nm.tsize za ≤ 4096 ∧ 0 ≤ kk ∧ kk ≤ 262144
  · exact shifts_ok p n cap za kk kk.toNat w ha hT h.1 (by omega) (by omega)
  · exact shifts_out p n cap za kk w ha (by omega)
end Go.Proofs.YtamlindelmfbiabDoor
