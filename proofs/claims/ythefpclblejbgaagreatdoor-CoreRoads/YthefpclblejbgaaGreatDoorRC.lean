/-
  Texts put together: QDivOk, KRow, KStep, Low, IShift, IAnsS.
-/
import Derived.Test.YthefpclblejbgaaGreatDoorRB
import Derived.Test.YthefpclblejbgaaGreatDoorKWide
import Derived.Test.YthefpclblejbgaaGreatDoorRA
import Derived.Test.YthefpclblejbgaaGreatDoorShr
import Derived.Test.YthefpclblejbgaaGreatDoorV0
import Derived.Test.YthefpclblejbgaaGreatDoorShl
import Derived.Test.YthefpclblejbgaaGreatDoorTrimW
import Derived.Test.YthefpclblejbgaaGreatDoorIShiftA
import Derived.Test.YthefpclblejbgaaGreatDoorMem
namespace Go.Proofs.YthefpclblejbgaaGreatDoor
open Go.RowKit Go.Deep

theorem Ans.up {B B' : Nat} {w : World} {p : Option Addr} {ys : List Int} {n : Int} (h : Ans B w p ys n) (hB : B' ≤ B) : Ans B' w p ys n :=
  ⟨h.1, h.2.1, h.2.2.1, h.2.2.2.1, fun a ha => Nat.le_trans hB (h.2.2.2.2 a ha)⟩

set_option maxRecDepth 100000 in
set_option maxHeartbeats 1000000 in
theorem divMod_one (p q : Option Addr) (n cap m cap' : Nat) (zs ys : List Int) (w : World) (ha : Arg w p n cap zs) (hb : Arg w q m cap' ys) (tz : Nm.tsize zs ≤ 4096) (ty : Nm.tsize ys = 1) :
    Calls Tryz.prog 113 #[.slice p n cap, .slice q m cap'] w fun e w' => Splits (Nm.val zs) (Nm.val ys) w e w' := by
  obtain ⟨b', off', rfl, hbw', HC'⟩ := hb.2.2.2.1.trim.at (by rw [Nm.trim_length]; omega)
  obtain ⟨d, hd, D⟩ : ∃ d, w.cell? ⟨b', off', none⟩ = some (.int .u64 d) ∧ Hid (d = (Nm.trim ys).getD 0 0) := ⟨_, HC'.out 0 (by rw [Nm.trim_length]; omega), rfl⟩
  have hdb := hb.2.2.2.2.trim.at 0
  rw [← D.out] at hdb
  have hdv : Nm.val ys = d := by
    have h1 := Nm.val_trim ys
    have h2 := Nm.trim_length ys
    rw [ty] at h2
    obtain ⟨y, hy⟩ := List.length_eq_one_iff.1 h2
    have h3 := D.out
    rw [hy] at h1 h3
    simp [Nm.val] at h1 h3
    omega
  have hd0 : 0 < d := by
    have := Nm.val_ge_top hb.2.2.2.2 (by omega)
    rw [ty] at this
    simp [Nm.pw] at this
    omega
  obtain ⟨_, hd1⟩ := hdb
  obtain ⟨N, HN⟩ : ∃ N, Hid (Nm.tsize zs = N) := ⟨_, rfl⟩
  obtain ⟨M, HM⟩ : ∃ M, Hid (Nm.tsize ys = M) := ⟨_, rfl⟩
  have h1' : (N : Int) ≤ 4096 := by have := HN.out; omega
  have h2' : (M : Int) ≤ 4096 := by have := HM.out; omega
  have h3' : ((M : Int) == 0) = false := by have := HM.out; simp; omega
  have h5' : ((M : Int) == 1) = true := by have := HM.out; simp; omega
  have h6' : (0 : Int) < (M : Int) := by have := HM.out; omega
  have h2 : (N : Int) ≤ (cap : Int) := by have := ha.tl; have := ha.2.1; have := HN.out; omega
  have h4 : (M : Int) ≤ (cap' : Int) := by have := hb.tl; have := hb.2.1; have := HM.out; omega
  have CU := ha.cut
  rw [HN.out] at CU
  have HCU := hid CU
  have HT : Hid (Nm.tsize (Nm.trim zs) ≤ 4096) := by show _ ≤ _; rw [Nm.trim_trim]; exact tz
  have HA := hid ha
  have HB := hid hb
  have HV := hid hdv
  clear ha hb ty tz CU hbw' HC' D hdv
  go_enter Tryz.func113, Tryz.ntmps113
  go_wp2_with fail
  refine (limbs_is p n cap zs N _ HA.out HN.out).mono ?_
  rintro e w' ⟨rfl, rfl⟩
  go_wp2_with fail
  refine (limbs_is _ m cap' ys M _ HB.out HM.out).mono ?_
  rintro e w' ⟨rfl, rfl⟩
  go_wp2_with fail
  go_quiet ((go_at_call 130; first | exact Calls.quiet_of_same (limbs_is p n cap zs N _ (HA.out.drew _) HN.out) | exact Calls.quiet_of_same (limbs_is _ m cap' ys M _ (HB.out.drew _) HM.out)))
  have hd2 : (w'.drewN nq).cell? ⟨b', off', none⟩ = some (.int .u64 d) := hd
  have HCU2 := hid (HCU.out.drew nq)
  have HB0 : Hid (Below w'.heap.size w' (w'.drewN nq)) := below_drewN (Below.refl _ _) nq
  clear hd HCU
  generalize w'.drewN nq = wq at *
  go_wp2_with fail
  refine (divSmall_ok p N cap (Nm.trim zs) d _ HCU2.out HT.out hd0 hd1).mono ?_
  rintro e w2 ⟨r, os, rest, rfl, A1, ⟨s0, s1⟩, E, hb2⟩
  have HA1 := hid A1
  have HB2 := hid hb2
  have HE := hid (div_is s0 s1 E.out)
  have s2 : rest < 18446744073709551616 := by omega
  clear A1 hb2 E hd2
  go_wp2_with fail
  refine (fromUint_any rest _ s0 s2).mono ?_
  rintro e w3 ⟨r2, os2, rfl, A2, hb3⟩
  have F : Hid (Splits (Nm.val zs) (Nm.val ys) w' (.returned (.tuple #[.slice r (List.length os) (List.length os), .slice r2 (List.length os2) (List.length os2), .int .i64 0])) w3) := by
    have e1 := HE.out
    rw [Nm.val_trim, ← HV.out] at e1
    have z1 := HB0.out.size
    have z2 := HB2.out.size
    refine ⟨r, os, r2, os2, rfl, ?_, ?_, (chain (chain HB0.out HB2.out (Nat.le_refl _)) hb3 (Nat.le_refl _))⟩
    · rw [e1.1]; exact (HA1.out.below hb3 (Nat.le_refl _)).up z1
    · rw [e1.2]; exact A2.up (Nat.le_trans z1 z2)
  clear A2 hb3
  go_wp2_with fail
  go_ret3
  exact F.out

set_option maxRecDepth 100000 in
set_option maxHeartbeats 1000000 in
theorem divMod_less (p q : Option Addr) (n cap m cap' : Nat) (zs ys : List Int) (w : World) (ha : Arg w p n cap zs) (hb : Arg w q m cap' ys) (tz : Nm.tsize zs ≤ 4096) (ty : Nm.tsize ys ≤ 4096) (ty2 : 2 ≤ Nm.tsize ys) (hlt : Nm.val zs < Nm.val ys) :
    Calls Tryz.prog 113 #[.slice p n cap, .slice q m cap'] w fun e w' => Splits (Nm.val zs) (Nm.val ys) w e w' := by
  obtain ⟨N, HN⟩ : ∃ N, Hid (Nm.tsize zs = N) := ⟨_, rfl⟩
  obtain ⟨M, HM⟩ : ∃ M, Hid (Nm.tsize ys = M) := ⟨_, rfl⟩
  have h1' : (N : Int) ≤ 4096 := by have := HN.out; omega
  have h2' : (M : Int) ≤ 4096 := by have := HM.out; omega
  have h3' : ((M : Int) == 0) = false := by have := HM.out; simp; omega
  have h5' : ((M : Int) == 1) = false := by have := HM.out; rw [beq_eq_false_iff_ne]; omega
  have h2 : (N : Int) ≤ (cap : Int) := by have := ha.tl; have := ha.2.1; have := HN.out; omega
  have h4 : (M : Int) ≤ (cap' : Int) := by have := hb.tl; have := hb.2.1; have := HM.out; omega
  have CU := ha.cut
  rw [HN.out] at CU
  have CU' := hb.cut
  rw [HM.out] at CU'
  have HCU := hid CU
  have HCU' := hid CU'
  have HC : Hid (cmpI (Nm.val (Nm.trim zs)) (Nm.val (Nm.trim ys)) = -1) := by show _ = _; rw [Nm.val_trim, Nm.val_trim]; exact cmpI_lt hlt
  have HD : Hid (Nm.val zs / Nm.val ys = 0 ∧ Nm.val zs % Nm.val ys = Nm.val (Nm.trim zs)) := by
    have := (Nm.val_bd zs ha.2.2.2.2).1
    rw [Nm.val_trim]
    exact div_is this hlt (by omega)
  have HA := hid ha
  have HB := hid hb
  clear ha hb ty tz CU CU' ty2 hlt
  go_enter Tryz.func113, Tryz.ntmps113
  go_wp2_with fail
  refine (limbs_is p n cap zs N _ HA.out HN.out).mono ?_
  rintro e w' ⟨rfl, rfl⟩
  go_wp2_with fail
  refine (limbs_is _ m cap' ys M _ HB.out HM.out).mono ?_
  rintro e w' ⟨rfl, rfl⟩
  go_wp2_with fail
  go_quiet ((go_at_call 130; first | exact Calls.quiet_of_same (limbs_is p n cap zs N _ (HA.out.drew _) HN.out) | exact Calls.quiet_of_same (limbs_is _ m cap' ys M _ (HB.out.drew _) HM.out)))
  have HCU2 := hid (HCU.out.drew nq)
  have HCU2' := hid (HCU'.out.drew nq)
  have HB0 : Hid (Below w'.heap.size w' (w'.drewN nq)) := below_drewN (Below.refl _ _) nq
  clear HCU HCU'
  generalize w'.drewN nq = wq at *
  go_wp2_with fail
  refine (cmp_is (-1) p q N cap M cap' (Nm.trim zs) (Nm.trim ys) _ HCU2.out HCU2'.out HC.out).mono ?_
  rintro e w2 ⟨rfl, hb2⟩
  have HB2 := hid (chain HB0.out hb2 (Nat.le_refl _))
  have HCU3 := hid (HCU2.out.below hb2 (Nat.le_refl _))
  clear hb2
  go_wp2_with fail
  refine (trim_any p N cap (Nm.trim zs) _ HCU3.out).mono ?_
  rintro e w3 ⟨r, os, rfl, -, A1, hb3⟩
  have F : Hid (Splits (Nm.val zs) (Nm.val ys) w' (.returned (.tuple #[.slice none 0 0, .slice r (List.length os) (List.length os), .int .i64 0])) w3) := by
    have z1 := HB2.out.size
    refine ⟨none, [], r, os, rfl, ?_, ?_, chain HB2.out hb3 (Nat.le_refl _)⟩
    · rw [HD.out.1]; exact ans_none _ _ _ (fun a h => by cases h)
    · rw [HD.out.2]; exact A1.up z1
  clear A1 hb3
  go_wp2_with fail
  go_ret3
  exact F.out

/-- The quotient of a by b has so many limbs. -/
theorem first_room {zs ys : List Int} (hz : Nm.Limbs zs) (hy : Nm.Limbs ys) {N M K : Nat} (hN : Nm.tsize zs = N) (hM : Nm.tsize ys = M) (hM0 : 0 < M) (hK : N + 1 = K + M) : Nm.val zs < Nm.pw K * Nm.val ys := by
  have h1 := Nm.val_lt_tsize hz
  have h2 := Nm.val_ge_top hy (by omega)
  rw [hN] at h1
  rw [hM] at h2
  have h3 : Nm.pw K * Nm.pw (M - 1) ≤ Nm.pw K * Nm.val ys := Int.mul_le_mul_of_nonneg_left h2 (by have := Nm.pw_pos K; omega)
  rw [← Nm.pw_add, show K + (M - 1) = N by omega] at h3
  omega

set_option maxRecDepth 100000 in
set_option maxHeartbeats 1000000 in
theorem divMod_long (p q : Option Addr) (n cap m cap' : Nat) (zs ys : List Int) (w : World) (ha : Arg w p n cap zs) (hb : Arg w q m cap' ys) (tz : Nm.tsize zs ≤ 4096) (ty : Nm.tsize ys ≤ 4096) (ty2 : 2 ≤ Nm.tsize ys) (hge : Nm.val ys ≤ Nm.val zs) :
    Calls Tryz.prog 113 #[.slice p n cap, .slice q m cap'] w fun e w' => Splits (Nm.val zs) (Nm.val ys) w e w' := by
  obtain ⟨N, HN⟩ : ∃ N, Hid (Nm.tsize zs = N) := ⟨_, rfl⟩
  obtain ⟨M, HM⟩ : ∃ M, Hid (Nm.tsize ys = M) := ⟨_, rfl⟩
  have hNM : M ≤ N := by
    rcases Nat.lt_or_ge N M with h | h
    · have := val_lt_of_tsize ha.2.2.2.2 hb.2.2.2.2 (by rw [HN.out, HM.out]; exact h)
      omega
    · exact h
  obtain ⟨K, HK⟩ : ∃ K, Hid (N + 1 = K + M) := ⟨N + 1 - M, by show _ = _; omega⟩
  have RM := hid (first_room ha.2.2.2.2 hb.2.2.2.2 HN.out HM.out (by have := HM.out; omega) HK.out)
  have h1' : (N : Int) ≤ 4096 := by have := HN.out; omega
  have h2' : (M : Int) ≤ 4096 := by have := HM.out; omega
  have h3' : ((M : Int) == 0) = false := by have := HM.out; simp; omega
  have h5' : ((M : Int) == 1) = false := by have := HM.out; rw [beq_eq_false_iff_ne]; omega
  have h2 : (N : Int) ≤ (cap : Int) := by have := ha.tl; have := ha.2.1; have := HN.out; omega
  have h4 : (M : Int) ≤ (cap' : Int) := by have := hb.tl; have := hb.2.1; have := HM.out; omega
  have CU := ha.cut
  rw [HN.out] at CU
  have CU' := hb.cut
  rw [HM.out] at CU'
  have HCU := hid CU
  have HCU' := hid CU'
  obtain ⟨c, hc0, HC⟩ : ∃ c : Int, 0 ≤ c ∧ Hid (cmpI (Nm.val (Nm.trim zs)) (Nm.val (Nm.trim ys)) = c) := by
    rw [Nm.val_trim, Nm.val_trim]
    rcases (show Nm.val zs = Nm.val ys ∨ Nm.val ys < Nm.val zs by omega) with h | h
    · exact ⟨0, by omega, cmpI_eq h⟩
    · exact ⟨1, by omega, cmpI_gt h⟩
  have HA := hid ha
  have HB := hid hb
  have hM2 : 2 ≤ M := by have := HM.out; omega
  clear ha hb ty tz CU CU' ty2 hge
  go_enter Tryz.func113, Tryz.ntmps113
  go_wp2_with fail
  refine (limbs_is p n cap zs N _ HA.out HN.out).mono ?_
  rintro e w' ⟨rfl, rfl⟩
  go_wp2_with fail
  refine (limbs_is _ m cap' ys M _ HB.out HM.out).mono ?_
  rintro e w' ⟨rfl, rfl⟩
  go_wp2_with fail
  go_quiet ((go_at_call 130; first | exact Calls.quiet_of_same (limbs_is p n cap zs N _ (HA.out.drew _) HN.out) | exact Calls.quiet_of_same (limbs_is _ m cap' ys M _ (HB.out.drew _) HM.out)))
  have HCU2 := hid (HCU.out.drew nq)
  have HCU2' := hid (HCU'.out.drew nq)
  have HB0 : Hid (Below w'.heap.size w' (w'.drewN nq)) := below_drewN (Below.refl _ _) nq
  clear HCU HCU'
  generalize w'.drewN nq = wq at *
  go_wp2_with fail
  refine (cmp_is c p q N cap M cap' (Nm.trim zs) (Nm.trim ys) _ HCU2.out HCU2'.out HC.out).mono ?_
  rintro e w2 ⟨rfl, hb2⟩
  have HB2 := hid (chain HB0.out hb2 (Nat.le_refl _))
  have HCU3 := hid (HCU2.out.below hb2 (Nat.le_refl _))
  have HCU3' := hid (HCU2'.out.below hb2 (Nat.le_refl _))
  clear hb2 HCU2 HCU2' HB0
  have hmk := make64 (N + 1) (by omega) w2
  have em : ((N + 1 : Nat) : Int) = (N : Int) + 1 := by omega
  rw [em] at hmk
  clear em
  have hb0 : Below w2.heap.size w2 (w2.alloc (.cells (madeCells #[.int .u64 0] (N + 1)) 27)) := (Below.refl _ _).alloc (Nat.le_refl _) _
  have ho : Own (w2.alloc (.cells (madeCells #[.int .u64 0] (N + 1)) 27)) w2.heap.size (List.replicate (N + 1) 0) := by
    rw [made_zero]; exact Own.alloc w2 _
  obtain ⟨w3, hcp, ho1, hb1, hz1⟩ := copy64 w2.heap.size (N + 1) (List.replicate (N + 1) 0) p N cap (Nm.trim zs) 3 _ (by simp) (by rw [Nm.trim_length, HN.out]) (by omega) ho (HCU3.out.2.2.2.1.below hb0 (Nat.le_refl _))
  have e1 : List.drop N (List.replicate (N + 1) (0 : Int)) = [0] := by simp
  rw [e1] at ho1
  have HO := hid ho1
  have HB3 := hid (hb0.trans hb1)
  have HW3 : Hid (w2.heap.size < w3.heap.size) := ho1.lt
  clear e1 ho1 hb1 ho hb0 hz1
  have DV := divide_any w2.heap.size (N + 1) K (M - 2) M cap' (Nm.trim zs ++ [0]) q (Nm.trim ys) w3 HO.out (by simp [Nm.trim_length, HN.out]) (by omega) (Nm.Limbs.append HCU3.out.2.2.2.2 (limb_one (by omega))) (by omega) HK.out (by rw [Nm.trim_length, HM.out]) (by omega) (by have := HCU3'.out.2.2.1; omega)
    (HCU3'.out.2.2.2.1.below HB3.out (Nat.le_refl _)) HCU3'.out.2.2.2.2 (HCU3'.out.2.2.2.1.lt (by rw [Nm.trim_length, HM.out]; omega)) (by
      have := Nm.tsize_top (Nm.trim ys) (by rw [Nm.trim_trim, HM.out]; omega)
      rw [Nm.trim_trim, HM.out] at this
      rw [show M - 2 + 1 = M - 1 by omega]
      exact this) (by
      have e : Nm.val (Nm.trim zs ++ [0]) = Nm.val zs := by rw [Nm.val_append, Nm.val_trim]; simp [Nm.val]
      rw [e, Nm.val_trim]
      exact RM.out)
  have HDV := hid DV
  clear DV
  go_wp2_with fail
  refine HDV.out.mono ?_
  rintro e w4 ⟨os, rs, rfl, I⟩
  have bz := (Nm.val_bd rs I.out.lim).1
  have HE : Hid (Nm.val zs / Nm.val ys = Nm.val os ∧ Nm.val zs % Nm.val ys = Nm.val rs) := by
    have h1 := I.out.eq
    have h2 := I.out.lt
    have e : Nm.val (Nm.trim zs ++ [0]) = Nm.val zs := by rw [Nm.val_append, Nm.val_trim]; simp [Nm.val]
    rw [e, Nm.val_trim] at h1
    rw [Nm.val_trim] at h2
    simp only [Nm.pw, Int.one_mul] at h2
    exact div_is bz h2 h1
  have HB4 := hid ((HB2.out.trans (HB3.out.mono HB2.out.size)).trans (I.out.low.mono HB2.out.size))
  have hK64 : K ≤ 17592186044416 := by have := HK.out; omega
  have A1 : Hid (Arg w4 (some ⟨w3.heap.size, 0, none⟩) K K os) := ⟨I.out.len2, Nat.le_refl _, hK64, I.out.own2.lies, I.out.lim2⟩
  have HZ := hid HB2.out.size
  clear bz hmk hcp HDV
  go_wp2_with fail
  refine (trim_any _ K K os _ A1.out).mono ?_
  rintro e w5 ⟨r, os', rfl, -, A2, hb5⟩
  have HB5 := hid (chain HB4.out hb5 (Nat.le_refl _))
  have A3 : Hid (Arg w5 (some ⟨w2.heap.size, 0, none⟩) (N + 1) (N + 1) rs) := ⟨I.out.len, Nat.le_refl _, by omega, (I.out.own.below hb5 I.out.own.lt).lies, I.out.lim⟩
  have HA2 := hid (A2.up (B' := w'.heap.size) (HB4.out.size))
  clear A2 hb5
  go_wp2_with fail
  refine (trim_any _ (N + 1) (N + 1) rs _ A3.out).mono ?_
  rintro e w6 ⟨r2, os2, rfl, -, A4, hb6⟩
  have F : Hid (Splits (Nm.val zs) (Nm.val ys) w' (.returned (.tuple #[.slice r (List.length os') (List.length os'), .slice r2 (List.length os2) (List.length os2), .int .i64 0])) w6) := by
    refine ⟨r, os', r2, os2, rfl, ?_, ?_, chain HB5.out hb6 (Nat.le_refl _)⟩
    · rw [HE.out.1]; exact HA2.out.below hb6 (Nat.le_refl _)
    · rw [HE.out.2]; exact A4.up HB5.out.size
  clear A4 hb6
  go_wp2_with fail
  go_ret3
  exact F.out

/-- DivMod of two naturals that are not too big, the second not zero. -/
theorem divMod_ok (p q : Option Addr) (n cap m cap' : Nat) (zs ys : List Int) (w : World) (ha : Arg w p n cap zs) (hb : Arg w q m cap' ys) (tz : Nm.tsize zs ≤ 4096) (ty : Nm.tsize ys ≤ 4096) (hy : 0 < Nm.tsize ys) :
    Calls Tryz.prog 113 #[.slice p n cap, .slice q m cap'] w fun e w' => Splits (Nm.val zs) (Nm.val ys) w e w' := by
  by_cases h1 : Nm.tsize ys = 1
  · exact divMod_one p q n cap m cap' zs ys w ha hb tz h1
  by_cases h2 : Nm.val zs < Nm.val ys
  · exact divMod_less p q n cap m cap' zs ys w ha hb tz ty (by omega) h2
  · exact divMod_long p q n cap m cap' zs ys w ha hb tz ty (by omega) (by omega)
end Go.Proofs.YthefpclblejbgaaGreatDoor

namespace Go.Proofs.YthefpclblejbgaaGreatDoor
open Go Go.RowKit Go.Deep

def lo64 (P : Int) : Int := P % 18446744073709551616
def hi64 (P : Int) : Int := P / 18446744073709551616
theorem n2_split (P : Int) : n2 (lo64 P) (hi64 P) = P := by unfold n2 lo64 hi64; omega
theorem bd_split {P : Int} (h0 : 0 ≤ P) (h1 : P < 340282366920938463463374607431768211456) : Bd (lo64 P) ∧ Bd (hi64 P) := by unfold Bd lo64 hi64; omega

theorem Ans.two {B : Nat} {w : World} {r : Option Addr} {os : List Int} {P : Int} (h : Ans B w r os P) (h0 : 170141183460469231731687303715884105728 ≤ P) (h1 : P < 340282366920938463463374607431768211456) :
    ∃ b off, os = [lo64 P, hi64 P] ∧ r = some ⟨b, off, none⟩ ∧ w.cell? ⟨b, off, none⟩ = some (.int .u64 (lo64 P)) ∧ w.cell? ⟨b, off + 1, none⟩ = some (.int .u64 (hi64 P)) ∧ B ≤ b ∧ b < w.heap.size := by
  obtain ⟨hl, hz, ht, hv, hb⟩ := h
  have hx : os = [lo64 P, hi64 P] := by
    match os, hz, ht, hv with
    | [], _, _, hv => simp [Nm.val] at hv; omega
    | [x], hz, _, hv =>
      have := hz x (by simp)
      simp [Nm.val] at hv
      omega
    | [x, y], hz, _, hv =>
      have := hz x (by simp)
      have := hz y (by simp)
      simp [Nm.val] at hv
      unfold lo64 hi64
      congr 1
      · omega
      · congr 1; omega
    | x :: y :: z :: l, hz, ht, hv =>
      exfalso
      have k := (Nm.tsize_le_iff hz 2).2 (by rw [hv]; simp [Nm.pw]; omega)
      rw [ht] at k
      simp at k
  subst hx
  rcases hl with hl | ⟨b, off, hp, hc⟩
  · simp at hl
  · have c0 := hc 0 (by simp)
    have c1 := hc 1 (by simp)
    refine ⟨b, off, rfl, hp, c0, c1, hb _ hp, ?_⟩
    exact cell_lt c0

/-- The room for the row. -/
def RR (w wx : World) (x y : Int) : Prop := Below w.heap.size w wx ∧ At2 wx w.heap.size x y
theorem RR.new (w : World) : RR w (w.alloc (.cells #[.int .u64 0, .int .u64 0] 103)) 0 0 := ⟨alloc_b _ _, heap_alloc_new _ _⟩
theorem RR.on {w wx wy : World} {x y : Int} (h : RR w wx x y) (k : Below wx.heap.size wx wy) : RR w wy x y := ⟨below_on h.1 k, h.2.below k h.2.lt⟩
theorem RR.drew {w wx : World} {x y : Int} (h : RR w wx x y) : RR w wx.drew x y := ⟨⟨h.1.1, h.1.2, h.1.3, h.1.4, h.1.5⟩, h.2⟩
theorem RR.put {w wx : World} {x y : Int} (h : RR w wx x y) (u v : Int) : RR w ((wx.setCell ⟨w.heap.size, 0, none⟩ (.int .u64 u)).setCell ⟨w.heap.size, 1, none⟩ (.int .u64 v)) u v := by
  refine ⟨(h.1.setCell (p := ⟨w.heap.size, 0, none⟩) (Nat.le_refl _) _).setCell (p := ⟨w.heap.size, 1, none⟩) (Nat.le_refl _) _, ?_⟩
  have h0 := set1 (o := 0) (v := .int .u64 u) (c' := #[.int .u64 u, .int .u64 y]) h.2 (by simp [Array.setIfInBounds])
  exact set1 (o := 1) (v := .int .u64 v) (c' := #[.int .u64 u, .int .u64 v]) h0 (by simp [Array.setIfInBounds])

def RowTold (q : Int) (w : World) (e : Ending) (w' : World) : Prop := e = .returned (.tuple #[wideV (lo64 (Ie.rowP q)) (hi64 (Ie.rowP q)), .int .i64 (Ie.rowE q)]) ∧ Below w.heap.size w w'

theorem five_pw {n : Nat} (h : n ≤ 342) : (5 : Int) ^ n < Nm.pw 4096 := by
  have g := Ie.five_le h
  have k : (5 : Int) ^ 342 < 2 ^ 800 := by decide +kernel
  have e := Nm.pw_two 4096
  have m := Nm.two_mono (show 800 ≤ 64 * 4096 by decide)
  rw [e]
  generalize (2 : Int) ^ 800 = x at *
  generalize (2 : Int) ^ (64 * 4096) = y at *
  omega

theorem arg_lit9 {w : World} {g : Nat} {x : Int} (h : w.heap[g]? = some (.cells #[.int .u64 x] 27 (0, 0))) (h0 : 0 ≤ x) (h1 : x < 18446744073709551616) : Arg w (some ⟨g, 0, none⟩) 1 1 [x] := by
  refine ⟨rfl, Nat.le_refl _, by omega, .inr ⟨g, 0, rfl, fun i hi => ?_⟩, Nm.Limbs.mk h0 h1 Nm.Limbs.nil⟩
  obtain rfl : i = 0 := by simpa using hi
  simp [World.cell?, h]

theorem two_pw {u : Nat} (h : u < 262144) : (2 : Int) ^ u < Nm.pw 4096 := by
  have g := Nm.two_mono (show u + 1 ≤ 64 * 4096 by omega)
  rw [Nm.pw_two]
  rw [Int.pow_succ] at g
  have := Nm.two_pos u
  generalize (2 : Int) ^ u = x at *
  generalize (2 : Int) ^ (64 * 4096) = y at *
  omega

set_option maxRecDepth 100000 in
set_option maxHeartbeats 2000000 in
theorem rowBelow_any (k : Int) (n : Nat) (w : World) (hk : k = (n : Int)) (n0 : 0 < n) (n1 : n ≤ 342) :
    Calls Tryz.prog 98 #[.int .i64 k] w fun e w' => RowTold (-k) w e w' := by
  have P5 := hid (fun wx => pow5_gives k n wx hk (by omega))
  have f1 := hid (five_pw n1)
  have RE : Hid (Ie.rowE (-k) = -((Ie.bl n : Int) + 127)) := by rw [Hid, Ie.rowE, if_neg (by omega), show (-(-k)).toNat = n by omega]
  have RP : Hid (Ie.rowP (-k) = 2 ^ (Ie.bl n + 127) / 5 ^ n) := by rw [Hid, Ie.rowP, if_neg (by omega), show (-(-k)).toNat = n by omega]
  have RI := hid (Ie.row_is (q := -k) (by omega) (by omega))
  have LB := hid (Ie.row_len n1 (Ie.bl_is n))
  have Z := hid (RR.new w)
  clear hk n0 n1
  go_enter Tryz.func98, Tryz.ntmps98
  go_wp2_with fail
  refine (P5.out _).mono ?_
  rintro e w1 ⟨h | h, hB⟩
  · obtain ⟨h1, r, os, rfl, A⟩ := h
    have Z1 := hid (Z.out.on hB)
    have ag := A.argT f1.out
    have ts := A.tsT f1.out
    obtain ⟨L, hL, BL, _, _⟩ := blen_is os ag.2.2.2.2
    rw [A.2.2.2.1] at BL
    have hLe : L = Ie.bl n := BL.unique (by have := Ie.five_pos n; omega) (Ie.bl_is n)
    have BN := hid (bitLen_n L r os.length os.length os w1 ag hL)
    have lb := LB.out
    rw [← hLe] at lb RE RP
    have l0 : (1 : Int) ≤ L := by omega
    have l1 : (L : Int) ≤ 800 := by omega
    obtain ⟨up, hup⟩ : ∃ up : Nat, up = L + 127 := ⟨_, rfl⟩
    rw [← hup] at RP
    have e1 : (L : Int) + 128 - 1 = (up : Int) := by omega
    have AL : Hid (Arg (w1.alloc (.cells #[.int .u64 1] 27)) (some ⟨w1.heap.size, 0, none⟩) 1 1 [1]) := arg_lit9 (heap_alloc_new _ _) (by omega) (by omega)
    have SL : Hid (Calls Tryz.prog 100 #[.slice (some ⟨w1.heap.size, 0, none⟩) 1 1, .int .i64 (up : Int)] (w1.alloc (.cells #[.int .u64 1] 27)) fun e w' => ∃ r os, e = .returned (.tuple #[.slice r (List.length os) (List.length os), .int .i64 0]) ∧ Ans w1.heap.size w' r os (2 ^ up) ∧ Below w1.heap.size w1 w') := by
      obtain ⟨M, hM, BM, _, _⟩ := blen_is (Nm.trim [1]) AL.out.2.2.2.2.trim
      have hv : Nm.val (Nm.trim [1]) = 1 := by decide
      rw [hv] at BM
      have hm : M ≤ 1 := by
        have := BM.2.2 (by omega)
        rcases (show M ≤ 1 ∨ 2 ≤ M by omega) with g | g
        · exact g
        · have := Nm.two_mono (show 1 ≤ M - 1 by omega)
          omega
      refine (shl_ok _ 1 1 [1] (up : Int) up M _ AL.out (by decide) rfl (by decide) hM (by omega)).mono ?_
      rintro e w' ⟨r, os, rfl, A2, hB2⟩
      rw [show Nm.val [1] = 1 by decide, Int.one_mul] at A2
      exact ⟨r, os, rfl, A2.up (alloc_b _ _).size, below_on (alloc_b _ _) hB2⟩
    have GA := hid ag
    have TS := hid ts
    have AA := hid A
    have tp : Hid ((2 : Int) ^ up < Nm.pw 4096) := two_pw (by omega)
    clear hB h1 ag ts hL BL hLe lb LB A AL P5 hup Z
    go_wp2_with fail
    refine BN.out.mono ?_
    rintro e w' ⟨rfl, rfl⟩
    go_wp2_with fail
    refine SL.out.mono ?_
    rintro e w2 ⟨r2, os2, rfl, A2, hB2⟩
    have Z2 := hid (Z1.out.on hB2)
    have DM := hid (divMod_ok r2 r _ _ _ _ os2 os w2 (A2.argT tp.out) (GA.out.below hB2 (Nat.le_refl _)) (A2.tsT tp.out) TS.out (by
      rcases Nat.eq_zero_or_pos (Nm.tsize os) with g | g
      · have := (Nm.tsize_zero_iff GA.out.2.2.2.2).1 g
        have := AA.out.2.2.2.1
        have := Ie.five_pos n
        omega
      · exact g))
    rw [A2.2.2.2.1, AA.out.2.2.2.1] at DM
    clear A2 hB2 SL BN GA TS AA tp f1 Z1
    go_wp2_with fail
    refine DM.out.mono ?_
    rintro e w3 ⟨r3, os3, r4, os4, rfl, A3, _, hB3⟩
    have Z3 := hid (Z2.out.on hB3)
    rw [← RP.out] at A3
    obtain ⟨b, off, rfl, rfl, c0, c1, b0, b1⟩ := A3.two RI.out.lo RI.out.hi
    obtain ⟨⟨d0, d1⟩, g0, g1⟩ := Z3.out.drew.2.cells
    obtain ⟨⟨d0', d1'⟩, g0', g1'⟩ := Z3.out.2.cells
    have k0 : w3.drew.cell? ⟨b, off, none⟩ = some (.int .u64 (lo64 (Ie.rowP (-k)))) := c0
    have k1 : w3.drew.cell? ⟨b, off + 1, none⟩ = some (.int .u64 (hi64 (Ie.rowP (-k)))) := c1
    have ne : b ≠ w.heap.size := by have := Z2.out.2.lt; omega
    have F : Hid (∀ w', Below w.heap.size w w' → RowTold (-k) w (.returned (.tuple #[.agg #[.int .u64 (lo64 (Ie.rowP (-k))), .int .u64 (hi64 (Ie.rowP (-k)))], .int .i64 (-(up : Int))])) w') := fun w' h => ⟨by rw [RE.out, ← e1, show -((L : Int) + 127) = -((L : Int) + 128 - 1) by omega]; rfl, h⟩
    have u0 : (0 : Int) ≤ up := by omega
    have u1 : (up : Int) ≤ 1000 := by omega
    generalize lo64 (Ie.rowP (-k)) = x at *
    generalize hi64 (Ie.rowP (-k)) = y at *
    clear c0 c1 A3 hB3 DM RI RE RP Z2 b0 b1 e1 l0 l1
    go_upto_region 5 with fail
    go_region
    all_goals go_wp2_with fail
    refine bodyPost_ret (results_row_tmp rfl _ _ w.heap.size 103 _ (0, 0) _ rfl (Z3.out.put _ _).drew.2 Tryz.underlying103 rfl (by kernel_rfl)) rfl ?_
    exact F.out _ (Z3.out.put _ _).drew.1
  · exfalso
    have := f1.out
    have := h.1
    omega
set_option maxRecDepth 100000 in
set_option maxHeartbeats 2000000 in
theorem row_any (q : Int) (w : World) (hT : Tab w) (q0 : -342 ≤ q) (q1 : q ≤ 308) :
    Calls Tryz.prog 67 #[.int .i64 q] w fun e w' => RowTold q w e w' := by
  have Z := hid (RR.new w)
  by_cases hq : q < 0
  · have RB := hid (fun wx => rowBelow_any (-q) (-q).toNat wx (by omega) (by omega) (by omega))
    rw [Int.neg_neg] at RB
    clear q1 hT
    go_enter Tryz.func67, Tryz.ntmps67
    go_wp2_with fail
    refine (RB.out _).mono ?_
    rintro e w3 ⟨rfl, hB⟩
    have Z3 := hid (Z.out.on hB)
    have F : Hid (∀ w', Below w.heap.size w w' → RowTold q w (.returned (.tuple #[.agg #[.int .u64 (lo64 (Ie.rowP q)), .int .u64 (hi64 (Ie.rowP q))], .int .i64 (Ie.rowE q)])) w') := fun w' h => ⟨rfl, h⟩
    unfold wideV
    obtain ⟨⟨d0, d1⟩, g0, g1⟩ := Z3.out.2.cells
    generalize lo64 (Ie.rowP q) = x at *
    generalize hi64 (Ie.rowP q) = y at *
    generalize Ie.rowE q = ee at *
    clear hB RB Z
    go_wp2_with fail
    (try simp only [Exit.inBlock, Exit.then])
    refine bodyPost_ret (results_row_tmp rfl _ _ w.heap.size 103 _ (0, 0) _ rfl (Z3.out.put _ _).2 Tryz.underlying103 rfl (by kernel_rfl)) rfl ?_
    exact F.out _ (Z3.out.put _ _).1
  · obtain ⟨n, hn⟩ := Int.eq_ofNat_of_zero_le (show 0 ≤ q by omega)
    have P5 := hid (fun wx => pow5_gives q n wx hn (by omega))
    have f1 := hid (five_pw (show n ≤ 342 by omega))
    have RE : Hid (Ie.rowE q = (Ie.bl n : Int) - 128) := by rw [Hid, Ie.rowE, if_pos (by omega), show q.toNat = n by omega]
    have RI := hid (Ie.row_is (q := q) (by omega) (by omega))
    have LB := hid (Ie.row_len (show n ≤ 342 by omega) (Ie.bl_is n))
    have R1 : Hid (Ie.bl n < 128 → Ie.rowP q = 5 ^ n * 2 ^ (128 - Ie.bl n)) := fun h => by rw [Ie.rowP, if_pos (by omega), show q.toNat = n by omega, if_pos (by omega)]
    have R2 : Hid (128 ≤ Ie.bl n → Ie.rowP q = 5 ^ n / 2 ^ (Ie.bl n - 128)) := fun h => by
      rw [Ie.rowP, if_pos (by omega), show q.toNat = n by omega]
      split
      · rw [show Ie.bl n - 128 = 0 by omega, show 128 - Ie.bl n = 0 by omega]; simp
      · rfl
    have HT := hid hT
    clear hn hT
    have hq0 : 0 ≤ q := by omega
    go_enter Tryz.func67, Tryz.ntmps67
    go_wp2_with fail
    refine (P5.out _).mono ?_
    rintro e w1 ⟨h | h, hB⟩
    · obtain ⟨h1, r, os, rfl, A⟩ := h
      have Z1 := hid (Z.out.on hB)
      have ag := A.argT f1.out
      have ts := A.tsT f1.out
      obtain ⟨L, hL, BL, hL64, _⟩ := blen_is os ag.2.2.2.2
      have tz : 0 < Nm.tsize os := by
        rcases Nat.eq_zero_or_pos (Nm.tsize os) with g | g
        · have := (Nm.tsize_zero_iff ag.2.2.2.2).1 g
          have := A.2.2.2.1
          have := Ie.five_pos n
          omega
        · exact g
      have hLt : blen (Nm.trim os) = (L : Int) := by
        rw [show Nm.trim os = os by unfold Nm.trim; rw [A.2.2.1, List.take_length]]; exact hL
      have hv := A.2.2.2.1
      rw [hv] at BL
      have hLe : L = Ie.bl n := BL.unique (by have := Ie.five_pos n; omega) (Ie.bl_is n)
      have BN := hid (bitLen_n L r os.length os.length os w1 ag hL)
      have lb := LB.out
      rw [← hLe] at lb RE R1 R2
      have l0 : (1 : Int) ≤ L := by omega
      have l1 : (L : Int) ≤ 800 := by omega
      by_cases h128 : L < 128
      · have RP := hid (R1.out h128)
        obtain ⟨kk, hkk⟩ : ∃ kk : Nat, kk = 128 - L := ⟨_, rfl⟩
        rw [← hkk] at RP
        have e1 : -((L : Int) - 128) = (kk : Int) := by omega
        have e2 : (L : Int) - 128 < 0 := by omega
        have SL : Hid (Calls Tryz.prog 100 #[.slice r (List.length os) (List.length os), .int .i64 (kk : Int)] w1 fun e w' => ∃ r os, e = .returned (.tuple #[.slice r (List.length os) (List.length os), .int .i64 0]) ∧ Ans w1.heap.size w' r os (Ie.rowP q) ∧ Below w1.heap.size w1 w') := by
          refine (shl_ok r _ _ os (kk : Int) kk L w1 ag ts rfl tz hLt (by omega)).mono ?_
          rintro e w' ⟨r, os, rfl, A2, hB2⟩
          rw [hv, ← RP.out] at A2
          exact ⟨r, os, rfl, A2, hB2⟩
        clear hB h1 ag ts hL BL hLe lb LB A P5 Z R1 R2 RP hLt hL64 tz hv f1 HT h128 hkk
        go_wp2_with fail
        refine BN.out.mono ?_
        rintro e w' ⟨rfl, rfl⟩
        go_wp2_with fail
        refine SL.out.mono ?_
        rintro e w3 ⟨r2, os2, rfl, A3, hB3⟩
        have Z3 := hid (Z1.out.on hB3)
        obtain ⟨b, off, rfl, rfl, c0, c1, b0, b1⟩ := A3.two RI.out.lo RI.out.hi
        obtain ⟨⟨d0, d1⟩, g0, g1⟩ := Z3.out.drew.2.cells
        obtain ⟨⟨d0', d1'⟩, g0', g1'⟩ := Z3.out.2.cells
        have k0 : w3.drew.cell? ⟨b, off, none⟩ = some (.int .u64 (lo64 (Ie.rowP q))) := c0
        have k1 : w3.drew.cell? ⟨b, off + 1, none⟩ = some (.int .u64 (hi64 (Ie.rowP q))) := c1
        have ne : b ≠ w.heap.size := by have := Z1.out.2.lt; omega
        have F : Hid (∀ w', Below w.heap.size w w' → RowTold q w (.returned (.tuple #[.agg #[.int .u64 (lo64 (Ie.rowP q)), .int .u64 (hi64 (Ie.rowP q))], .int .i64 ((L : Int) - 128)])) w') := fun w' h => ⟨by rw [RE.out]; rfl, h⟩
        generalize lo64 (Ie.rowP q) = x at *
        generalize hi64 (Ie.rowP q) = y at *
        clear c0 c1 A3 hB3 SL RI RE b0 b1 Z1
        go_upto_region 8 with fail
        go_region
        all_goals go_wp2_with fail
        refine bodyPost_ret (results_row_tmp rfl _ _ w.heap.size 103 _ (0, 0) _ rfl (Z3.out.put _ _).drew.2 Tryz.underlying103 rfl (by kernel_rfl)) rfl ?_
        exact F.out _ (Z3.out.put _ _).drew.1
      · have RP := hid (R2.out (by omega))
        obtain ⟨kk, hkk⟩ : ∃ kk : Nat, kk = L - 128 := ⟨_, rfl⟩
        rw [← hkk] at RP
        have e1 : (L : Int) - 128 = (kk : Int) := by omega
        have e2 : ¬ ((L : Int) - 128 < 0) := by omega
        have e3 : (0 : Int) ≤ kk := by omega
        have SL : Hid (Calls Tryz.prog 101 #[.slice r (List.length os) (List.length os), .int .i64 (kk : Int)] w1 fun e w' => ∃ r os b, e = .returned (.tuple #[.slice r (List.length os) (List.length os), .bool b, .int .i64 0]) ∧ Ans w1.heap.size w' r os (Ie.rowP q) ∧ Below w1.heap.size w1 w') := by
          refine (shr_ok r _ _ os (kk : Int) kk L w1 ag (HT.out.below Z1.out.1) ts rfl hLt hL64 (by omega)).mono ?_
          rintro e w' ⟨r, os, rfl, A2, hB2⟩
          rw [hv, ← RP.out] at A2
          exact ⟨r, os, _, rfl, A2, hB2⟩
        clear hB h1 ag ts hL BL hLe lb LB A P5 Z R1 R2 RP hLt hL64 tz hv f1 HT h128 hkk
        go_wp2_with fail
        refine BN.out.mono ?_
        rintro e w' ⟨rfl, rfl⟩
        go_wp2_with fail
        refine SL.out.mono ?_
        rintro e w3 ⟨r2, os2, bb, rfl, A3, hB3⟩
        have Z3 := hid (Z1.out.on hB3)
        obtain ⟨b, off, rfl, rfl, c0, c1, b0, b1⟩ := A3.two RI.out.lo RI.out.hi
        obtain ⟨⟨d0, d1⟩, g0, g1⟩ := Z3.out.drew.2.cells
        obtain ⟨⟨d0', d1'⟩, g0', g1'⟩ := Z3.out.2.cells
        have k0 : w3.drew.cell? ⟨b, off, none⟩ = some (.int .u64 (lo64 (Ie.rowP q))) := c0
        have k1 : w3.drew.cell? ⟨b, off + 1, none⟩ = some (.int .u64 (hi64 (Ie.rowP q))) := c1
        have ne : b ≠ w.heap.size := by have := Z1.out.2.lt; omega
        have F : Hid (∀ w', Below w.heap.size w w' → RowTold q w (.returned (.tuple #[.agg #[.int .u64 (lo64 (Ie.rowP q)), .int .u64 (hi64 (Ie.rowP q))], .int .i64 (kk : Int)])) w') := fun w' h => ⟨by rw [RE.out, e1]; rfl, h⟩
        generalize lo64 (Ie.rowP q) = x at *
        generalize hi64 (Ie.rowP q) = y at *
        clear c0 c1 A3 hB3 SL RI RE b0 b1 Z1
        go_upto_region 8 with fail
        go_region
        all_goals go_wp2_with fail
        refine bodyPost_ret (results_row_tmp rfl _ _ w.heap.size 103 _ (0, 0) _ rfl (Z3.out.put _ _).drew.2 Tryz.underlying103 rfl (by kernel_rfl)) rfl ?_
        exact F.out _ (Z3.out.put _ _).drew.1
    · exfalso
      have := f1.out
      have := h.1
      omega
end Go.Proofs.YthefpclblejbgaaGreatDoor

namespace Go.Proofs.YthefpclblejbgaaGreatDoor
open Go Go.RowKit Go.Deep

theorem results_tmp4k {fn : Func} {t u v x : Tmp} (h : fn.results = #[.tmp t, .tmp u, .tmp v, .tmp x]) (tmps : Array Value) (P : Program) (w : World) :
    (results fn tmps).run P w = .ok (.tuple #[tmps.getD t undef, tmps.getD u undef, tmps.getD v undef, tmps.getD x undef]) w := by
  simp [results, h]

theorem below_drew {B : Nat} {w w' : World} (h : Below B w w') : Below B w w'.drew := ⟨h.1, h.2, h.3, h.4, h.5⟩

def StepTold (v q : Int) (w : World) (e : Ending) (w' : World) : Prop := ∃ x s, e = .returned (.tuple #[.int .u64 x, .bool s]) ∧ Ie.Stq v q x s ∧ Below w.heap.size w w'

/-- One product in its box. -/
def OP (w wx : World) (g : Nat) (a b c : Int) : Prop := Below w.heap.size w wx ∧ At3 wx g a b c
theorem OP.on {w wx wy : World} {g : Nat} {a b c : Int} (h : OP w wx g a b c) (k : Below wx.heap.size wx wy) : OP w wy g a b c := ⟨below_on h.1 k, h.2.below k h.2.lt⟩
theorem OP.new {w w1 : World} (h : Below w.heap.size w w1) (a b c : Int) : OP w (w1.alloc (.cells #[.int .u64 a, .int .u64 b, .int .u64 c] 100)) w1.heap.size a b c := ⟨below_on h (alloc_b _ _), heap_alloc_new _ _⟩

theorem head_same {a b c x y z v P e A : Int} (ha : Bd a ∧ Bd b ∧ Bd c) (hx : Bd x ∧ Bd y ∧ Bd z) (hn : n3 x y z = n3 a b c + v) (v0 : 0 < v) (hp : n3 a b c = v * P) (hP : 170141183460469231731687303715884105728 ≤ P) (h : a ≠ 0 ∧ b = y ∧ c = z)
    (hr : Ie.Rnd (n3 a b c) 1 e false A) : Ie.Rnd (n3 x y z) 1 e false A := by
  have hm : P ≤ v * P := by have := Int.mul_le_mul_of_nonneg_right (show 1 ≤ v by omega) (show 0 ≤ P by omega); rw [Int.one_mul] at this; exact this
  obtain ⟨h0, rfl, rfl⟩ := h
  unfold Bd at *
  have e1 : n3 a b c = (b + 18446744073709551616 * c) * 18446744073709551616 + a := by unfold n3; omega
  have e2 : n3 x b c = (b + 18446744073709551616 * c) * 18446744073709551616 + x := by unfold n3; omega
  have hxa : x = a + v := by unfold n3 at hn; omega
  have hh : 18014398509481984 ≤ b + 18446744073709551616 * c := by rw [← hp, e1] at hm; omega
  rw [e1] at hr
  rw [e2]
  exact Ie.head_rnd hh (by omega) (by omega) (by omega) (by omega) hr

set_option maxRecDepth 100000 in
set_option maxHeartbeats 1000000 in
theorem step_any9 (v q : Int) (w : World) (hT : Tab w) (hv : Bd v) :
    Calls Tryz.prog 50 #[.int .u64 v, .int .i64 q] w fun e w' => StepTold v q w e w' := by
  by_cases h0 : v = 0
  · subst h0
    have F : Hid (StepTold 0 q w (.returned (.tuple #[.int .u64 0, .bool true])) w) := ⟨0, true, rfl, .inl ⟨rfl, rfl, rfl⟩, Below.refl _ _⟩
    clear hv hT
    go_enter Tryz.func50, Tryz.ntmps50
    go_wp2_with fail
    go_ret2
    exact F.out
  have v0 : (v == 0) = false := by rw [beq_eq_false_iff_ne]; exact h0
  have vp : 0 < v := by have := hv.1; omega
  have I := hid (inTable_any q w)
  by_cases h : -342 ≤ q ∧ q ≤ 308
  · have RW := hid (row_any q w hT h.1 h.2)
    have RI := hid (Ie.row_is h.1 h.2)
    have bs := bd_split (P := Ie.rowP q) (by have := RI.out.lo; omega) RI.out.hi
    have TM := hid (fun wx => ptimes_any v (lo64 (Ie.rowP q)) (hi64 (Ie.rowP q)) wx hv bs.1 bs.2)
    rw [n2_split] at TM
    rw [decide_eq_true h] at I
    have EX := hid (fun wx => exact_any9 q wx)
    have HT := hid hT
    have HV := hid hv
    have VP := hid vp
    have PR := hid (fun (a b c : Int) (wx : World) (hb : Below w.heap.size w wx) (hh : Bd a ∧ Bd b ∧ Bd c) => pround_any a b c (Ie.rowE q + q) wx (hT.below hb) hh)
    have PL := hid (fun (a b c : Int) (wx : World) (hh : Bd a ∧ Bd b ∧ Bd c) hn => pplus_any a b c v wx hh.1 hh.2.1 hh.2.2 hv hn)
    have SD := hid (fun (a b c x y z : Int) (wx : World) => same_any9 a b c x y z wx)
    have eb := RI.out.eb
    have F1 : Hid (∀ A w', 0 ≤ q ∧ q ≤ 55 → Ie.Rnd (v * Ie.rowP q) 1 (Ie.rowE q + q) false A → Below w.heap.size w w' → StepTold v q w (.returned (.tuple #[.int .u64 A, .bool true])) w') := fun A w' g r b => ⟨A, true, rfl, .inr (.inr ⟨vp, h.1, h.2, A, A, r, .inl ⟨g.1, g.2, rfl⟩, .inl ⟨rfl, rfl, rfl⟩⟩), b⟩
    have F2 : Hid (∀ A w', ¬ (0 ≤ q ∧ q ≤ 55) → Ie.Rnd (v * Ie.rowP q) 1 (Ie.rowE q + q) false A → Ie.Rnd (v * (Ie.rowP q + 1)) 1 (Ie.rowE q + q) false A → Below w.heap.size w w' → StepTold v q w (.returned (.tuple #[.int .u64 A, .bool true])) w') := fun A w' g r r2 b => ⟨A, true, rfl, .inr (.inr ⟨vp, h.1, h.2, A, A, r, .inr ⟨by omega, r2⟩, .inl ⟨rfl, rfl, rfl⟩⟩), b⟩
    have F3 : Hid (∀ A B w', ¬ (0 ≤ q ∧ q ≤ 55) → Ie.Rnd (v * Ie.rowP q) 1 (Ie.rowE q + q) false A → Ie.Rnd (v * (Ie.rowP q + 1)) 1 (Ie.rowE q + q) false B → A ≠ B → Below w.heap.size w w' → StepTold v q w (.returned (.tuple #[.int .u64 0, .bool false])) w') := fun A B w' g r r2 ne b => ⟨0, false, rfl, .inr (.inr ⟨vp, h.1, h.2, A, B, r, .inr ⟨by omega, r2⟩, .inr ⟨ne, rfl, rfl⟩⟩), b⟩
    have q0 := h.1
    have q1 := h.2
    have HS : Hid (∀ a b c x y z A, Bd a ∧ Bd b ∧ Bd c → Bd x ∧ Bd y ∧ Bd z → n3 x y z = n3 a b c + v → n3 a b c = v * Ie.rowP q → a ≠ 0 ∧ b = y ∧ c = z → Ie.Rnd (n3 a b c) 1 (Ie.rowE q + q) false A → Ie.Rnd (n3 x y z) 1 (Ie.rowE q + q) false A) := fun a b c x y z A k1 k2 k3 k4 k5 k6 => head_same k1 k2 k3 vp k4 RI.out.lo k5 k6
    have HN : Hid (∀ N : Int, N = v * Ie.rowP q → N + v < 6277101735386680763835789423207666416102355444464034512896 ∧ N + v = v * (Ie.rowP q + 1)) := fun N hN => by
      have hP := RI.out.hi
      have e1 : N + v = v * (Ie.rowP q + 1) := by rw [hN, Int.mul_add, Int.mul_one]
      refine ⟨?_, e1⟩
      rw [e1]
      have g1 : v * (Ie.rowP q + 1) ≤ v * 340282366920938463463374607431768211456 := Int.mul_le_mul_of_nonneg_left (by omega) (by omega)
      have := hv.2
      omega
    clear h hT hv bs RI vp h0
    go_enter Tryz.func50, Tryz.ntmps50
    go_wp2_with fail
    refine I.out.mono ?_
    rintro e w' ⟨rfl, rfl⟩
    go_wp2_with fail
    refine RW.out.mono ?_
    rintro e w1 ⟨rfl, hB1⟩
    generalize Ie.rowE q = ee at *
    generalize Ie.rowP q = P at *
    have HB1 := hid hB1
    unfold wideV at *
    clear RW I hB1
    go_wp2_with fail
    with_reducible refine (TM.out _).mono ?_
    rintro e w2 ⟨a, b, c, rfl, hbd, hn, hB2⟩
    have O2 := hid (OP.new (below_on (below_on HB1.out (alloc_b _ _)) hB2) a b c)
    have BD := hid hbd
    have NN := hid hn
    unfold prodV at *
    clear hB2 hbd hn TM HB1
    go_upto_region 7 with fail
    generalize (w2.alloc (.cells #[.int .u64 a, .int .u64 b, .int .u64 c] 100)) = w3 at *
    obtain ⟨⟨d0, d1, d2⟩, _⟩ := O2.out.2.cells
    go_wp2_with fail
    have ob := O2.out.1
    with_reducible refine (PR.out a b c _ ob BD.out).mono ?_
    rintro e w4 ⟨A, rfl, hA, hB4⟩
    clear ob
    have O4 := hid (O2.out.on hB4)
    rw [NN.out] at hA
    have HA := hid hA
    clear hB4 d0 d1 d2 hA O2
    go_wp2_with fail
    refine (EX.out _).mono ?_
    rintro e w5 ⟨rfl, rfl⟩
    by_cases hx : 0 ≤ q ∧ q ≤ 55
    · rw [decide_eq_true hx]
      have FF := hid (F1.out A w5 hx HA.out O4.out.1)
      clear hx F1 F2 F3
      go_wp2_with fail
      go_ret2
      exact FF.out
    · rw [decide_eq_false hx]
      have HX := hid hx
      obtain ⟨⟨d0, d1, d2⟩, _⟩ := O4.out.2.cells
      clear hx
      go_wp2_with fail
      refine (PL.out a b c _ BD.out (HN.out _ NN.out).1).mono ?_
      rintro e w6 ⟨x, y, z, rfl, hbx, hnx, hB6⟩
      have O6 := hid (O4.out.on hB6)
      have O7 := hid (O6.out.on (alloc_b w6 (.cells #[.int .u64 x, .int .u64 y, .int .u64 z] 100)))
      have P7 := hid (OP.new O6.out.1 x y z)
      have BX := hid hbx
      have NX := hid hnx
      clear hB6 hbx hnx d0 d1 d2 O6 O4
      go_upto_region 11 with fail
      generalize (w6.alloc (.cells #[.int .u64 x, .int .u64 y, .int .u64 z] 100)) = w7 at *
      obtain ⟨⟨d0, d1, d2⟩, _⟩ := O7.out.2.cells
      obtain ⟨⟨p0, p1, p2⟩, _⟩ := P7.out.2.cells
      go_wp2_with fail
      with_reducible refine (SD.out a b c x y z _).mono ?_
      rintro e w8 ⟨rfl, hB8⟩
      have P8 := hid (P7.out.on hB8)
      have S1 : Hid (a ≠ 0 ∧ b = y ∧ c = z → Ie.Rnd (v * (P + 1)) 1 (ee + q) false A) := fun g => by
        have := HS.out a b c x y z A BD.out BX.out NX.out NN.out g (by rw [NN.out]; exact HA.out)
        rw [NX.out, (HN.out _ NN.out).2] at this
        exact this
      clear d0 d1 d2 p0 p1 p2 hB8 O7 P7
      obtain ⟨⟨p0, p1, p2⟩, _⟩ := P8.out.2.cells
      obtain ⟨sb, hsb⟩ : ∃ sb, decide (a ≠ 0 ∧ b = y ∧ c = z) = sb := ⟨_, rfl⟩
      rw [hsb]
      cases sb with
      | true =>
        have FF := hid (F2.out A w8 HX.out HA.out (S1.out (of_decide_eq_true hsb)) P8.out.1)
        clear hsb F1 F2 F3 S1
        go_wp2_with fail
        go_ret2
        exact FF.out
      | false =>
        clear hsb
        go_wp2_with fail
        have ob := P8.out.1
        with_reducible refine (PR.out x y z _ ob BX.out).mono ?_
        rintro e w9 ⟨B, rfl, hR, hB9⟩
        clear ob
        rw [NX.out, (HN.out _ NN.out).2] at hR
        by_cases hAB : B = A
        · subst hAB
          have FF := hid (F2.out B w9 HX.out HA.out hR (below_on P8.out.1 hB9))
          clear hR hB9 F1 F2 F3 S1 p0 p1 p2
          go_wp2_with fail
          go_ret2
          exact FF.out
        · have FF := hid (F3.out A B w9 HX.out HA.out hR (fun g => hAB g.symm) (below_on P8.out.1 hB9))
          have hne : (B == A) = false := by rw [beq_eq_false_iff_ne]; exact hAB
          clear hR hB9 F1 F2 F3 S1 p0 p1 p2
          go_wp2_with fail
          go_ret2
          exact FF.out
  · rw [decide_eq_false h] at I
    have F : Hid (StepTold v q w (.returned (.tuple #[.int .u64 0, .bool false])) w) := ⟨0, false, rfl, .inr (.inl ⟨vp, by omega, rfl, rfl⟩), Below.refl _ _⟩
    clear h hT hv vp
    go_enter Tryz.func50, Tryz.ntmps50
    go_wp2_with fail
    refine I.out.mono ?_
    rintro e w' ⟨rfl, rfl⟩
    go_wp2_with fail
    go_ret2
    exact F.out
end Go.Proofs.YthefpclblejbgaaGreatDoor

namespace Go.Proofs.YthefpclblejbgaaGreatDoor
open Go.RowKit Go.Deep

theorem mask_low (x : Int) (r : Nat) (hr : r ≤ 63) (h0 : 0 ≤ x) (h1 : x < 18446744073709551616) : bits .and .u64 x (2 ^ r - 1) = x % 2 ^ r := by
  obtain ⟨n, rfl⟩ := Int.eq_ofNat_of_zero_le h0
  have hP : ((2 ^ r : Nat) : Int) = (2 : Int) ^ r := by simp
  have hp : 0 < 2 ^ r := Nat.pow_pos (by omega)
  have hm : (2 : Int) ^ r - 1 = ((2 ^ r - 1 : Nat) : Int) := by omega
  have hle : 2 ^ r ≤ 2 ^ 63 := Nat.pow_le_pow_right (by omega) hr
  have e63 : 2 ^ 63 = 9223372036854775808 := by decide
  have h := bits_and_u64_nat n (2 ^ r - 1) (by omega) (by omega)
  rw [hm, h, Nat.and_two_pow_sub_one_eq_mod, ← hP]
  omega

set_option maxRecDepth 100000 in
set_option maxHeartbeats 1000000 in
/-- From the number of its digits on it is the number itself. -/
theorem low_all (p : Option Addr) (n cap : Nat) (zs : List Int) (k : Int) (L : Nat) (w : World) (ha : Arg w p n cap zs) (tz : Nm.tsize zs ≤ 4096) (hk : 0 ≤ k) (hL : blen (Nm.trim zs) = (L : Int)) (hb : (L : Int) ≤ k) :
    Calls Tryz.prog 125 #[.slice p n cap, .int .i64 k] w fun e w' => ∃ r os, e = .returned (.tuple #[.slice r (List.length os) (List.length os), .int .i64 0]) ∧ Ans w.heap.size w' r os (Nm.val zs) ∧ Below w.heap.size w w' := by
  have HT := hid (lshift_ok p n cap zs k w ha tz hk)
  have HB := hid (bitLen_n L p _ _ (Nm.trim zs) w ha.trim' hL)
  have TR := trim_any p _ _ (Nm.trim zs) w ha.trim'
  rw [Nm.val_trim] at TR
  have HTR := hid TR
  clear hL ha TR
  go_enter Tryz.func125, Tryz.ntmps125
  go_wp2_with fail
  refine HT.out.mono ?_
  rintro e w' ⟨rfl, rfl⟩
  go_wp2_with fail
  refine HB.out.mono ?_
  rintro e w' ⟨rfl, rfl⟩
  go_wp2_with fail
  refine HTR.out.mono ?_
  rintro e w1 ⟨r, os, rfl, -, hans, hb1⟩
  have HA := hid hans
  have D1 := hid hb1
  clear hans hb1
  go_wp2_with fail
  go_ret2
  exact ⟨r, os, rfl, HA.out, D1.out⟩

set_option maxRecDepth 100000 in
set_option maxHeartbeats 1000000 in
theorem low_ok (p : Option Addr) (n cap : Nat) (zs : List Int) (kk : Int) (k L : Nat) (w : World) (ha : Arg w p n cap zs) (tz : Nm.tsize zs ≤ 4096) (hkk : kk = (k : Int)) (hL : blen (Nm.trim zs) = (L : Int)) (hLt : L ≤ 64 * Nm.tsize zs) (hb : k < L) :
    Calls Tryz.prog 125 #[.slice p n cap, .int .i64 kk] w fun e w' => ∃ r os, e = .returned (.tuple #[.slice r (List.length os) (List.length os), .int .i64 0]) ∧ Ans w.heap.size w' r os (Nm.val zs % 2 ^ k) ∧ Below w.heap.size w w' := by
  have hk0 : 0 ≤ kk := by omega
  have T1 := lshift_ok p n cap zs kk w ha tz hk0
  have B1 := bitLen_n L p _ _ (Nm.trim zs) w ha.trim' hL
  obtain ⟨N, HN⟩ : ∃ N, Hid (Nm.tsize zs = N) := ⟨_, rfl⟩
  rw [HN.out] at T1 B1 hLt
  have HT := hid T1
  have HB := hid B1
  have hN1 : N ≤ 4096 := by rw [← HN.out]; exact tz
  have hb1 : ¬ (L : Int) ≤ kk := by omega
  obtain ⟨sk, hsk⟩ : ∃ sk, k / 64 = sk := ⟨_, rfl⟩
  obtain ⟨r, hr⟩ : ∃ r, k % 64 = r := ⟨_, rfl⟩
  have r1 : kk / 64 = (sk : Int) := by omega
  have r2 : kk % 64 = (r : Int) := by omega
  have hr63 : r ≤ 63 := by omega
  have hskN : sk < N := by omega
  have hskN' : (sk : Int) < (N : Int) := by omega
  have hkb : kk ≤ 262144 := by omega
  have KE : Hid (k = 64 * sk + r) := by show _ = _; omega
  have L1 := hid ((Nm.trim_length zs).trans HN.out)
  have A5 := hid ha.2.2.2.2.trim
  obtain ⟨b, off, rfl, hbw, HC⟩ := ha.2.2.2.1.trim.at (by rw [L1.out]; omega)
  have V := hid (Nm.val_trim zs)
  have LT := hid (ha.2.2.2.1.trim.take sk)
  have TL : Hid (((Nm.trim zs).take sk).length = sk) := by rw [Hid, List.length_take, L1.out]; omega
  obtain ⟨x, X⟩ : ∃ x, Hid (x = (Nm.trim zs).getD sk 0) := ⟨_, rfl⟩
  have hxc := HC.out sk (by rw [L1.out]; exact hskN)
  rw [← X.out] at hxc
  have HXC := hid hxc
  have hx0 := A5.out.at sk
  rw [← X.out] at hx0
  obtain ⟨hx0, hx1⟩ := hx0
  have hP0 := Nm.two_pos r
  have hP63 : (2 : Int) ^ r ≤ 9223372036854775808 := by
    have := Nm.two_mono (show r ≤ 63 by omega)
    have e : (2 : Int) ^ 63 = 9223372036854775808 := by decide
    omega
  obtain ⟨y, hy⟩ : ∃ y, bits .and .u64 x (2 ^ r - 1) = y := ⟨_, rfl⟩
  have YE := hid ((mask_low x r hr63 hx0 hx1).symm.trans hy)
  have y0 : 0 ≤ y := by rw [← YE.out]; exact Int.emod_nonneg _ (by omega)
  have y1 : y < 2 ^ r := by rw [← YE.out]; exact Int.emod_lt_of_pos _ hP0
  have hw1 : IntKind.u64.wrap (2 ^ r) = 2 ^ r := by rw [Sh.wrap_mod]; omega
  have QE : Hid (Nm.val zs % 2 ^ k = Nm.val ((Nm.trim zs).take sk) + Nm.pw sk * y) := by
    have h1 := Nm.val_drop (Nm.trim zs) sk (by rw [L1.out]; omega)
    have h2 := Nm.val_bd _ (A5.out.take sk)
    rw [TL.out] at h2
    have h3 : Nm.val ((Nm.trim zs).drop sk) = x + 18446744073709551616 * Nm.val ((Nm.trim zs).drop (sk + 1)) := by
      rw [X.out, List.drop_eq_getElem_cons (by rw [L1.out]; exact hskN), Nm.val]
      simp [List.getD, L1.out, hskN]
    have hp := Nm.pw_pos sk
    have c1 := Int.emod_add_mul_ediv x (2 ^ r)
    rw [YE.out] at c1
    have hPQ := Sh.split64 r hr63
    have e1 : Nm.val zs = Nm.val ((Nm.trim zs).take sk) + Nm.pw sk * y + 2 ^ k * (x / 2 ^ r + 2 ^ (64 - r) * Nm.val ((Nm.trim zs).drop (sk + 1))) := by
      rw [KE.out, Nm.two_add, ← Nm.pw_two, Int.mul_assoc, Int.mul_add (2 ^ r), ← Int.mul_assoc (2 ^ r), hPQ, ← V.out, h1, h3]
      have : x + 18446744073709551616 * Nm.val ((Nm.trim zs).drop (sk + 1)) = y + (2 ^ r * (x / 2 ^ r) + 18446744073709551616 * Nm.val ((Nm.trim zs).drop (sk + 1))) := by omega
      rw [this, Int.mul_add]
      omega
    have e2 : 0 ≤ Nm.pw sk * y := Int.mul_nonneg (by omega) y0
    have e3 : Nm.pw sk * (y + 1) ≤ Nm.pw sk * 2 ^ r := Int.mul_le_mul_of_nonneg_left (by omega) (by omega)
    rw [Int.mul_add, Int.mul_one, Nm.pw_two, ← Nm.two_add, ← KE.out, ← Nm.pw_two] at e3
    show _ = _
    rw [e1, Int.add_mul_emod_self_left, Int.emod_eq_of_lt (by omega) (by omega)]
  have Y64 : Hid (0 ≤ y ∧ y < 18446744073709551616) := by show _ ∧ _; omega
  clear T1 B1 ha tz hL hkk hsk hr hLt hb hxc y0 y1
  go_enter Tryz.func125, Tryz.ntmps125
  go_wp2_with fail
  refine HT.out.mono ?_
  rintro e w' ⟨rfl, rfl⟩
  go_wp2_with fail
  refine HB.out.mono ?_
  rintro e w' ⟨rfl, rfl⟩
  go_wp2_with fail
  refine (widened_any _ sk _ 1 1 ((Nm.trim zs).take sk) _ rfl TL.out (by omega) LT.out).mono ?_
  rintro e w1 ⟨rfl, ho, hb2, hz2⟩
  have hxc1 : w1.cell? ⟨b, off + sk, none⟩ = some (.int .u64 x) := (hb2.cell (p := ⟨b, off + sk, none⟩) hbw).trans HXC.out
  obtain ⟨u, hu⟩ : ∃ u, w1.cell? ⟨w'.heap.size, sk, none⟩ = some (.int .u64 u) := ⟨_, ho.cell sk (by rw [List.length_append, TL.out]; simp)⟩
  have hfr := ho.free sk
  have O1 := hid (ho.set sk y)
  have LL : ((Nm.trim zs).take sk ++ List.replicate 1 0).length = sk + 1 := by rw [List.length_append, TL.out, List.length_replicate]
  have O2 : Hid ((((Nm.trim zs).take sk ++ List.replicate 1 0).set sk y).length = sk + 1) := by rw [Hid, List.length_set, LL]
  have O3 := hid (((A5.out.take sk).append (Nm.Limbs.replicate 1)).set sk Y64.out.1 Y64.out.2)
  have O4 : Hid (Nm.val (((Nm.trim zs).take sk ++ List.replicate 1 0).set sk y) = Nm.val zs % 2 ^ k) := by
    have e0 : ((Nm.trim zs).take sk ++ List.replicate 1 0).getD sk 0 = 0 := by
      rw [List.getD, List.getElem?_append_right (by rw [TL.out]; omega), TL.out, Nat.sub_self]
      rfl
    rw [Hid, Nm.val_set _ _ _ (by omega), e0, Int.sub_zero, Nm.val_append, Nm.val_replicate, Int.mul_zero, Int.add_zero, QE.out]
  have O5 := hid (hb2.setCell (p := ⟨w'.heap.size, sk, none⟩) (Nat.le_refl _) (.int .u64 y))
  clear ho hb2 hz2 LL
  go_wp2_with fail
  refine (trimmed_any _ (sk + 1) (sk + 1) (((Nm.trim zs).take sk ++ List.replicate 1 0).set sk y) _ O2.out (Nat.le_refl _) (by omega) O1.out.lies).mono ?_
  rintro e w3 ⟨rfl, rfl⟩
  go_wp2_with fail
  go_ret2
  refine ⟨some ⟨w'.heap.size, 0, none⟩, Nm.trim (((Nm.trim zs).take sk ++ List.replicate 1 0).set sk y), ret_two (Nm.trim_length _).symm, ⟨O1.out.lies.trim, O3.out.trim, ?_, ?_, ?_⟩, O5.out⟩
  · rw [Nm.trim_trim, Nm.trim_length]
  · rw [Nm.val_trim, O4.out]
  · intro a h
    cases h
    exact Nat.le_refl _
end Go.Proofs.YthefpclblejbgaaGreatDoor

/-
  Low, whatever the number of bits.
-/
namespace Go.Proofs.YthefpclblejbgaaGreatDoor
open Go.RowKit Go.Deep

theorem low_any (p : Option Addr) (n cap : Nat) (zs : List Int) (kk : Int) (k : Nat) (w : World) (ha : Arg w p n cap zs) (tz : Nm.tsize zs ≤ 4096) (hkk : kk = (k : Int)) :
    Calls Tryz.prog 125 #[.slice p n cap, .int .i64 kk] w fun e w' => ∃ r os, e = .returned (.tuple #[.slice r (List.length os) (List.length os), .int .i64 0]) ∧ Ans w.heap.size w' r os (Nm.val zs % 2 ^ k) ∧ Below w.heap.size w w' := by
  obtain ⟨L, hL, BL, hl, _⟩ := blen_is zs ha.2.2.2.2
  have hv0 := (Nm.val_bd zs ha.2.2.2.2).1
  rw [← blen_trim_eq] at hL
  by_cases hb : k < L
  · exact low_ok p n cap zs kk k L w ha tz hkk hL hl hb
  · have hlt : Nm.val zs < 2 ^ k := by
      have := BL.1
      have := Nm.two_mono (show L ≤ k by omega)
      omega
    rw [Int.emod_eq_of_lt hv0 hlt]
    exact low_all p n cap zs kk L w ha tz (by omega) hL (by omega)
end Go.Proofs.YthefpclblejbgaaGreatDoor

namespace Go.Proofs.YthefpclblejbgaaGreatDoor
open Go Go.RowKit Go.Deep

theorem ans_small {B : Nat} {w : World} {r : Option Addr} {os : List Int} {v : Int} (h : Ans B w r os v) (k : Nat) (hv : v < Nm.pw k) : os.length ≤ k := by
  have := (Nm.tsize_le_iff h.2.1 k).2 (by rw [h.2.2.2.1]; exact hv)
  rw [h.2.2.1] at this
  exact this
end Go.Proofs.YthefpclblejbgaaGreatDoor
