/-
  Texts put together: QDivOk, NSpread, KRow, KStep, IRatio, KTen.
-/
import Derived.Test.YtjkefcikepnbpaaGreatDoorWAR
import Derived.Test.YtjkefcikepnbpaaGreatDoorWAA
import Derived.Deep.RegionWith
import Derived.Deep.CutRange
import Derived.Deep.DeepFit
import Derived.Test.YtjkefcikepnbpaaGreatDoorWAO
import Derived.Test.YtjkefcikepnbpaaGreatDoorWAL
import Derived.Test.YtjkefcikepnbpaaGreatDoorWAH
namespace Go.Proofs.YtjkefcikepnbpaaGreatDoor
open Go.RowKit Go.Deep

theorem Ans.up {B B' : Nat} {w : World} {p : Option Addr} {ys : List Int} {n : Int} (h : Ans B w p ys n) (hB : B' ≤ B) : Ans B' w p ys n :=
  ⟨h.1, h.2.1, h.2.2.1, h.2.2.2.1, fun a ha => Nat.le_trans hB (h.2.2.2.2 a ha)⟩

set_option maxRecDepth 100000 in
set_option maxHeartbeats 1000000 in
theorem divMod_one (p q : Option Addr) (n cap m cap' : Nat) (zs ys : List Int) (w : World) (ha : Arg w p n cap zs) (hb : Arg w q m cap' ys) (tz : Nm.tsize zs ≤ 4096) (ty : Nm.tsize ys = 1) :
    Calls Tryz.prog 151 #[.slice p n cap, .slice q m cap'] w fun e w' => Splits (Nm.val zs) (Nm.val ys) w e w' := by
  obtain ⟨b', off', rfl, hbw', HC'⟩ := hb.2.2.2.1.trim.at (by rw [Nm.trim_length]; omega)
  obtain ⟨d, hd, D⟩ : ∃ d, w.cell? ⟨b', off', none⟩ = some (.int .u64 d) ∧ Hid (d = (Nm.trim ys).getD 0 0) := ⟨_, HC'.out 0 (by rw [Nm.trim_length]; omega), rfl⟩
  have hdb := hb.2.2.2.2.trim.at 0
  rw [← D.out] at hdb
  have hdv : Nm.val ys = d := by
    have h1 := Nm.val_trim ys
    have h2 := Nm.trim_length ys
    rw [ty] at h2
    obtain ⟨y, hy⟩ := List.length_eq_one_iff.1 h2
    have h3 := D.out
    rw [hy] at h1 h3
    simp [Nm.val] at h1 h3
    omega
  have hd0 : 0 < d := by
    have := Nm.val_ge_top hb.2.2.2.2 (by omega)
    rw [ty] at this
    simp [Nm.pw] at this
    omega
  obtain ⟨_, hd1⟩ := hdb
  obtain ⟨N, HN⟩ : ∃ N, Hid (Nm.tsize zs = N) := ⟨_, rfl⟩
  obtain ⟨M, HM⟩ : ∃ M, Hid (Nm.tsize ys = M) := ⟨_, rfl⟩
  have h1' : (N : Int) ≤ 4096 := by have := HN.out; omega
  have h2' : (M : Int) ≤ 4096 := by have := HM.out; omega
  have h3' : ((M : Int) == 0) = false := by have := HM.out; simp; omega
  have h5' : ((M : Int) == 1) = true := by have := HM.out; simp; omega
  have h6' : (0 : Int) < (M : Int) := by have := HM.out; omega
  have h2 : (N : Int) ≤ (cap : Int) := by have := ha.tl; have := ha.2.1; have := HN.out; omega
  have h4 : (M : Int) ≤ (cap' : Int) := by have := hb.tl; have := hb.2.1; have := HM.out; omega
  have CU := ha.cut
  rw [HN.out] at CU
  have HCU := hid CU
  have HT : Hid (Nm.tsize (Nm.trim zs) ≤ 4096) := by show _ ≤ _; rw [Nm.trim_trim]; exact tz
  have HA := hid ha
  have HB := hid hb
  have HV := hid hdv
  clear ha hb ty tz CU hbw' HC' D hdv
  go_enter Tryz.func151, Tryz.ntmps151
  go_wp2_with fail
  refine (limbs_is p n cap zs N _ HA.out HN.out).mono ?_
  rintro e w' ⟨rfl, rfl⟩
  go_wp2_with fail
  refine (limbs_is _ m cap' ys M _ HB.out HM.out).mono ?_
  rintro e w' ⟨rfl, rfl⟩
  go_wp2_with fail
  go_quiet ((go_at_call 117; first | exact Calls.quiet_of_same (limbs_is p n cap zs N _ (HA.out.drew _) HN.out) | exact Calls.quiet_of_same (limbs_is _ m cap' ys M _ (HB.out.drew _) HM.out)))
  have hd2 : (w'.drewN nq).cell? ⟨b', off', none⟩ = some (.int .u64 d) := hd
  have HCU2 := hid (HCU.out.drew nq)
  have HB0 : Hid (Below w'.heap.size w' (w'.drewN nq)) := below_drewN (Below.refl _ _) nq
  clear hd HCU
  generalize w'.drewN nq = wq at *
  go_wp2_with fail
  refine (divSmall_ok p N cap (Nm.trim zs) d _ HCU2.out HT.out hd0 hd1).mono ?_
  rintro e w2 ⟨r, os, rest, rfl, A1, ⟨s0, s1⟩, E, hb2⟩
  have HA1 := hid A1
  have HB2 := hid hb2
  have HE := hid (div_is s0 s1 E.out)
  have s2 : rest < 18446744073709551616 := by omega
  clear A1 hb2 E hd2
  go_wp2_with fail
  refine (fromUint_any rest _ s0 s2).mono ?_
  rintro e w3 ⟨r2, os2, rfl, A2, hb3⟩
  have F : Hid (Splits (Nm.val zs) (Nm.val ys) w' (.returned (.tuple #[.slice r (List.length os) (List.length os), .slice r2 (List.length os2) (List.length os2), .int .i64 0])) w3) := by
    have e1 := HE.out
    rw [Nm.val_trim, ← HV.out] at e1
    have z1 := HB0.out.size
    have z2 := HB2.out.size
    refine ⟨r, os, r2, os2, rfl, ?_, ?_, (chain (chain HB0.out HB2.out (Nat.le_refl _)) hb3 (Nat.le_refl _))⟩
    · rw [e1.1]; exact (HA1.out.below hb3 (Nat.le_refl _)).up z1
    · rw [e1.2]; exact A2.up (Nat.le_trans z1 z2)
  clear A2 hb3
  go_wp2_with fail
  go_ret3
  exact F.out

set_option maxRecDepth 100000 in
set_option maxHeartbeats 1000000 in
theorem divMod_less (p q : Option Addr) (n cap m cap' : Nat) (zs ys : List Int) (w : World) (ha : Arg w p n cap zs) (hb : Arg w q m cap' ys) (tz : Nm.tsize zs ≤ 4096) (ty : Nm.tsize ys ≤ 4096) (ty2 : 2 ≤ Nm.tsize ys) (hlt : Nm.val zs < Nm.val ys) :
    Calls Tryz.prog 151 #[.slice p n cap, .slice q m cap'] w fun e w' => Splits (Nm.val zs) (Nm.val ys) w e w' := by
  obtain ⟨N, HN⟩ : ∃ N, Hid (Nm.tsize zs = N) := ⟨_, rfl⟩
  obtain ⟨M, HM⟩ : ∃ M, Hid (Nm.tsize ys = M) := ⟨_, rfl⟩
  have h1' : (N : Int) ≤ 4096 := by have := HN.out; omega
  have h2' : (M : Int) ≤ 4096 := by have := HM.out; omega
  have h3' : ((M : Int) == 0) = false := by have := HM.out; simp; omega
  have h5' : ((M : Int) == 1) = false := by have := HM.out; rw [beq_eq_false_iff_ne]; omega
  have h2 : (N : Int) ≤ (cap : Int) := by have := ha.tl; have := ha.2.1; have := HN.out; omega
  have h4 : (M : Int) ≤ (cap' : Int) := by have := hb.tl; have := hb.2.1; have := HM.out; omega
  have CU := ha.cut
  rw [HN.out] at CU
  have CU' := hb.cut
  rw [HM.out] at CU'
  have HCU := hid CU
  have HCU' := hid CU'
  have HC : Hid (cmpI (Nm.val (Nm.trim zs)) (Nm.val (Nm.trim ys)) = -1) := by show _ = _; rw [Nm.val_trim, Nm.val_trim]; exact cmpI_lt hlt
  have HD : Hid (Nm.val zs / Nm.val ys = 0 ∧ Nm.val zs % Nm.val ys = Nm.val (Nm.trim zs)) := by
    have := (Nm.val_bd zs ha.2.2.2.2).1
    rw [Nm.val_trim]
    exact div_is this hlt (by omega)
  have HA := hid ha
  have HB := hid hb
  clear ha hb ty tz CU CU' ty2 hlt
  go_enter Tryz.func151, Tryz.ntmps151
  go_wp2_with fail
  refine (limbs_is p n cap zs N _ HA.out HN.out).mono ?_
  rintro e w' ⟨rfl, rfl⟩
  go_wp2_with fail
  refine (limbs_is _ m cap' ys M _ HB.out HM.out).mono ?_
  rintro e w' ⟨rfl, rfl⟩
  go_wp2_with fail
  go_quiet ((go_at_call 117; first | exact Calls.quiet_of_same (limbs_is p n cap zs N _ (HA.out.drew _) HN.out) | exact Calls.quiet_of_same (limbs_is _ m cap' ys M _ (HB.out.drew _) HM.out)))
  have HCU2 := hid (HCU.out.drew nq)
  have HCU2' := hid (HCU'.out.drew nq)
  have HB0 : Hid (Below w'.heap.size w' (w'.drewN nq)) := below_drewN (Below.refl _ _) nq
  clear HCU HCU'
  generalize w'.drewN nq = wq at *
  go_wp2_with fail
  refine (cmp_is (-1) p q N cap M cap' (Nm.trim zs) (Nm.trim ys) _ HCU2.out HCU2'.out HC.out).mono ?_
  rintro e w2 ⟨rfl, hb2⟩
  have HB2 := hid (chain HB0.out hb2 (Nat.le_refl _))
  have HCU3 := hid (HCU2.out.below hb2 (Nat.le_refl _))
  clear hb2
  go_wp2_with fail
  refine (trim_any p N cap (Nm.trim zs) _ HCU3.out).mono ?_
  rintro e w3 ⟨r, os, rfl, -, A1, hb3⟩
  have F : Hid (Splits (Nm.val zs) (Nm.val ys) w' (.returned (.tuple #[.slice none 0 0, .slice r (List.length os) (List.length os), .int .i64 0])) w3) := by
    have z1 := HB2.out.size
    refine ⟨none, [], r, os, rfl, ?_, ?_, chain HB2.out hb3 (Nat.le_refl _)⟩
    · rw [HD.out.1]; exact ans_none _ _ _ (fun a h => by cases h)
    · rw [HD.out.2]; exact A1.up z1
  clear A1 hb3
  go_wp2_with fail
  go_ret3
  exact F.out

/-- The quotient of a by b has so many limbs. -/
theorem first_room {zs ys : List Int} (hz : Nm.Limbs zs) (hy : Nm.Limbs ys) {N M K : Nat} (hN : Nm.tsize zs = N) (hM : Nm.tsize ys = M) (hM0 : 0 < M) (hK : N + 1 = K + M) : Nm.val zs < Nm.pw K * Nm.val ys := by
  have h1 := Nm.val_lt_tsize hz
  have h2 := Nm.val_ge_top hy (by omega)
  rw [hN] at h1
  rw [hM] at h2
  have h3 : Nm.pw K * Nm.pw (M - 1) ≤ Nm.pw K * Nm.val ys := Int.mul_le_mul_of_nonneg_left h2 (by have := Nm.pw_pos K; omega)
  rw [← Nm.pw_add, show K + (M - 1) = N by omega] at h3
  omega

set_option maxRecDepth 100000 in
set_option maxHeartbeats 1000000 in
theorem divMod_long (p q : Option Addr) (n cap m cap' : Nat) (zs ys : List Int) (w : World) (ha : Arg w p n cap zs) (hb : Arg w q m cap' ys) (tz : Nm.tsize zs ≤ 4096) (ty : Nm.tsize ys ≤ 4096) (ty2 : 2 ≤ Nm.tsize ys) (hge : Nm.val ys ≤ Nm.val zs) :
    Calls Tryz.prog 151 #[.slice p n cap, .slice q m cap'] w fun e w' => Splits (Nm.val zs) (Nm.val ys) w e w' := by
  obtain ⟨N, HN⟩ : ∃ N, Hid (Nm.tsize zs = N) := ⟨_, rfl⟩
  obtain ⟨M, HM⟩ : ∃ M, Hid (Nm.tsize ys = M) := ⟨_, rfl⟩
  have hNM : M ≤ N := by
    rcases Nat.lt_or_ge N M with h | h
    · have := val_lt_of_tsize ha.2.2.2.2 hb.2.2.2.2 (by rw [HN.out, HM.out]; exact h)
      omega
    · exact h
  obtain ⟨K, HK⟩ : ∃ K, Hid (N + 1 = K + M) := ⟨N + 1 - M, by show _ = _; omega⟩
  have RM := hid (first_room ha.2.2.2.2 hb.2.2.2.2 HN.out HM.out (by have := HM.out; omega) HK.out)
  have h1' : (N : Int) ≤ 4096 := by have := HN.out; omega
  have h2' : (M : Int) ≤ 4096 := by have := HM.out; omega
  have h3' : ((M : Int) == 0) = false := by have := HM.out; simp; omega
  have h5' : ((M : Int) == 1) = false := by have := HM.out; rw [beq_eq_false_iff_ne]; omega
  have h2 : (N : Int) ≤ (cap : Int) := by have := ha.tl; have := ha.2.1; have := HN.out; omega
  have h4 : (M : Int) ≤ (cap' : Int) := by have := hb.tl; have := hb.2.1; have := HM.out; omega
  have CU := ha.cut
  rw [HN.out] at CU
  have CU' := hb.cut
  rw [HM.out] at CU'
  have HCU := hid CU
  have HCU' := hid CU'
  obtain ⟨c, hc0, HC⟩ : ∃ c : Int, 0 ≤ c ∧ Hid (cmpI (Nm.val (Nm.trim zs)) (Nm.val (Nm.trim ys)) = c) := by
    rw [Nm.val_trim, Nm.val_trim]
    rcases (show Nm.val zs = Nm.val ys ∨ Nm.val ys < Nm.val zs by omega) with h | h
    · exact ⟨0, by omega, cmpI_eq h⟩
    · exact ⟨1, by omega, cmpI_gt h⟩
  have HA := hid ha
  have HB := hid hb
  have hM2 : 2 ≤ M := by have := HM.out; omega
  clear ha hb ty tz CU CU' ty2 hge
  go_enter Tryz.func151, Tryz.ntmps151
  go_wp2_with fail
  refine (limbs_is p n cap zs N _ HA.out HN.out).mono ?_
  rintro e w' ⟨rfl, rfl⟩
  go_wp2_with fail
  refine (limbs_is _ m cap' ys M _ HB.out HM.out).mono ?_
  rintro e w' ⟨rfl, rfl⟩
  go_wp2_with fail
  go_quiet ((go_at_call 117; first | exact Calls.quiet_of_same (limbs_is p n cap zs N _ (HA.out.drew _) HN.out) | exact Calls.quiet_of_same (limbs_is _ m cap' ys M _ (HB.out.drew _) HM.out)))
  have HCU2 := hid (HCU.out.drew nq)
  have HCU2' := hid (HCU'.out.drew nq)
  have HB0 : Hid (Below w'.heap.size w' (w'.drewN nq)) := below_drewN (Below.refl _ _) nq
  clear HCU HCU'
  generalize w'.drewN nq = wq at *
  go_wp2_with fail
  refine (cmp_is c p q N cap M cap' (Nm.trim zs) (Nm.trim ys) _ HCU2.out HCU2'.out HC.out).mono ?_
  rintro e w2 ⟨rfl, hb2⟩
  have HB2 := hid (chain HB0.out hb2 (Nat.le_refl _))
  have HCU3 := hid (HCU2.out.below hb2 (Nat.le_refl _))
  have HCU3' := hid (HCU2'.out.below hb2 (Nat.le_refl _))
  clear hb2 HCU2 HCU2' HB0
  have hmk := make64 (N + 1) (by omega) w2
  have em : ((N + 1 : Nat) : Int) = (N : Int) + 1 := by omega
  rw [em] at hmk
  clear em
  have hb0 : Below w2.heap.size w2 (w2.alloc (.cells (madeCells #[.int .u64 0] (N + 1)) 22)) := (Below.refl _ _).alloc (Nat.le_refl _) _
  have ho : Own (w2.alloc (.cells (madeCells #[.int .u64 0] (N + 1)) 22)) w2.heap.size (List.replicate (N + 1) 0) := by
    rw [made_zero]; exact Own.alloc w2 _
  obtain ⟨w3, hcp, ho1, hb1, hz1⟩ := copy64 w2.heap.size (N + 1) (List.replicate (N + 1) 0) p N cap (Nm.trim zs) 3 _ (by simp) (by rw [Nm.trim_length, HN.out]) (by omega) ho (HCU3.out.2.2.2.1.below hb0 (Nat.le_refl _))
  have e1 : List.drop N (List.replicate (N + 1) (0 : Int)) = [0] := by simp
  rw [e1] at ho1
  have HO := hid ho1
  have HB3 := hid (hb0.trans hb1)
  have HW3 : Hid (w2.heap.size < w3.heap.size) := ho1.lt
  clear e1 ho1 hb1 ho hb0 hz1
  have DV := divide_any w2.heap.size (N + 1) K (M - 2) M cap' (Nm.trim zs ++ [0]) q (Nm.trim ys) w3 HO.out (by simp [Nm.trim_length, HN.out]) (by omega) (Nm.Limbs.append HCU3.out.2.2.2.2 (limb_one (by omega))) (by omega) HK.out (by rw [Nm.trim_length, HM.out]) (by omega) (by have := HCU3'.out.2.2.1; omega)
    (HCU3'.out.2.2.2.1.below HB3.out (Nat.le_refl _)) HCU3'.out.2.2.2.2 (HCU3'.out.2.2.2.1.lt (by rw [Nm.trim_length, HM.out]; omega)) (by
      have := Nm.tsize_top (Nm.trim ys) (by rw [Nm.trim_trim, HM.out]; omega)
      rw [Nm.trim_trim, HM.out] at this
      rw [show M - 2 + 1 = M - 1 by omega]
      exact this) (by
      have e : Nm.val (Nm.trim zs ++ [0]) = Nm.val zs := by rw [Nm.val_append, Nm.val_trim]; simp [Nm.val]
      rw [e, Nm.val_trim]
      exact RM.out)
  have HDV := hid DV
  clear DV
  go_wp2_with fail
  refine HDV.out.mono ?_
  rintro e w4 ⟨os, rs, rfl, I⟩
  have bz := (Nm.val_bd rs I.out.lim).1
  have HE : Hid (Nm.val zs / Nm.val ys = Nm.val os ∧ Nm.val zs % Nm.val ys = Nm.val rs) := by
    have h1 := I.out.eq
    have h2 := I.out.lt
    have e : Nm.val (Nm.trim zs ++ [0]) = Nm.val zs := by rw [Nm.val_append, Nm.val_trim]; simp [Nm.val]
    rw [e, Nm.val_trim] at h1
    rw [Nm.val_trim] at h2
    simp only [Nm.pw, Int.one_mul] at h2
    exact div_is bz h2 h1
  have HB4 := hid ((HB2.out.trans (HB3.out.mono HB2.out.size)).trans (I.out.low.mono HB2.out.size))
  have hK64 : K ≤ 17592186044416 := by have := HK.out; omega
  have A1 : Hid (Arg w4 (some ⟨w3.heap.size, 0, none⟩) K K os) := ⟨I.out.len2, Nat.le_refl _, hK64, I.out.own2.lies, I.out.lim2⟩
  have HZ := hid HB2.out.size
  clear bz hmk hcp HDV
  go_wp2_with fail
  refine (trim_any _ K K os _ A1.out).mono ?_
  rintro e w5 ⟨r, os', rfl, -, A2, hb5⟩
  have HB5 := hid (chain HB4.out hb5 (Nat.le_refl _))
  have A3 : Hid (Arg w5 (some ⟨w2.heap.size, 0, none⟩) (N + 1) (N + 1) rs) := ⟨I.out.len, Nat.le_refl _, by omega, (I.out.own.below hb5 I.out.own.lt).lies, I.out.lim⟩
  have HA2 := hid (A2.up (B' := w'.heap.size) (HB4.out.size))
  clear A2 hb5
  go_wp2_with fail
  refine (trim_any _ (N + 1) (N + 1) rs _ A3.out).mono ?_
  rintro e w6 ⟨r2, os2, rfl, -, A4, hb6⟩
  have F : Hid (Splits (Nm.val zs) (Nm.val ys) w' (.returned (.tuple #[.slice r (List.length os') (List.length os'), .slice r2 (List.length os2) (List.length os2), .int .i64 0])) w6) := by
    refine ⟨r, os', r2, os2, rfl, ?_, ?_, chain HB5.out hb6 (Nat.le_refl _)⟩
    · rw [HE.out.1]; exact HA2.out.below hb6 (Nat.le_refl _)
    · rw [HE.out.2]; exact A4.up HB5.out.size
  clear A4 hb6
  go_wp2_with fail
  go_ret3
  exact F.out

/-- DivMod of two naturals that are not too big, the second not zero. -/
theorem divMod_ok (p q : Option Addr) (n cap m cap' : Nat) (zs ys : List Int) (w : World) (ha : Arg w p n cap zs) (hb : Arg w q m cap' ys) (tz : Nm.tsize zs ≤ 4096) (ty : Nm.tsize ys ≤ 4096) (hy : 0 < Nm.tsize ys) :
    Calls Tryz.prog 151 #[.slice p n cap, .slice q m cap'] w fun e w' => Splits (Nm.val zs) (Nm.val ys) w e w' := by
  by_cases h1 : Nm.tsize ys = 1
  · exact divMod_one p q n cap m cap' zs ys w ha hb tz h1
  by_cases h2 : Nm.val zs < Nm.val ys
  · exact divMod_less p q n cap m cap' zs ys w ha hb tz ty (by omega) h2
  · exact divMod_long p q n cap m cap' zs ys w ha hb tz ty (by omega) (by omega)
end Go.Proofs.YtjkefcikepnbpaaGreatDoor

namespace Go.Proofs.YtjkefcikepnbpaaGreatDoor
open Go.RowKit Go.Deep

/-- The powers b, b^2, b^4 .., in blocks below g. -/
def Pows (g : Nat) (b : Int) (pm : Option Addr) (K : Nat) (w : World) : Prop :=
  ∀ s, s < K → ∃ gm r us, pm = some ⟨gm, 0, none⟩ ∧ gm < g ∧ w.cell? ⟨gm, s, none⟩ = some (.slice r (List.length us) (List.length us)) ∧ Arg w r us.length us.length us ∧ Nm.val us = b ^ (2 ^ s) ∧ Nm.tsize us ≤ 4096 ∧ ∀ a, r = some a → a.block < g

theorem Pows.only {g : Nat} {b : Int} {pm : Option Addr} {K : Nat} {w w' : World} (h : Pows g b pm K w) (k : Only g w w') : Pows g b pm K w' := by
  intro s hs
  obtain ⟨gm, r, us, h1, h2, h3, h4, h5, h6, h7⟩ := h s hs
  exact ⟨gm, r, us, h1, h2, k.cell h3 (Nat.ne_of_lt h2), h4.only k (fun a ha => Nat.ne_of_lt (h7 a ha)), h5, h6, h7⟩

/-- What spread leaves behind. -/
def Spread (B : Int) (g o L : Nat) (ds : List Int) (V : Int) (w w' : World) : Prop := OwnB w' g (put ds o (Dn.dg B L V)) ∧ Only g w w'

structure ShutN (p : Prop) : Prop where
  out : p

theorem Ans.smallT {B : Nat} {w : World} {p : Option Addr} {ys : List Int} {n : Int} (h : Ans B w p ys n) (hn : n < Nm.pw 4096) : ys.length ≤ 4096 := by
  have h1 := (Nm.tsize_le_iff h.2.1 4096).2 (by rw [h.2.2.2.1]; exact hn)
  have h2 := h.2.2.1
  omega

theorem Ans.tsN {B : Nat} {w : World} {p : Option Addr} {ys : List Int} {n : Int} (h : Ans B w p ys n) (hn : n < Nm.pw 4096) : Nm.tsize ys ≤ 4096 := (Nm.tsize_le_iff h.2.1 4096).2 (by rw [h.2.2.2.1]; exact hn)

theorem below_drew (w : World) : Below w.heap.size w w.drew := (Below.refl _ _).drew

set_option maxRecDepth 100000 in
set_option maxHeartbeats 4000000 in
theorem spread_any (B : Int) (W g K cp : Nat) (pm : Option Addr) (h2 : 2 ≤ B) (h36 : B ≤ 36) (hW1 : 1 ≤ W) (hW : W ≤ 63) (hBW : B ^ W < 18446744073709551616) (hK : K ≤ 18) : ∀ (k : Nat), k ≤ K → k ≤ cp → ∀ (o L cap n c : Nat) (p : Option Addr) (za ds : List Int) (V : Int) (w : World),
    L = W * 2 ^ k → OwnB w g ds → o + L ≤ ds.length → L ≤ cap → cap ≤ 35184372088832 → Arg w p n c za → (∀ a, p = some a → a.block ≠ g) → Nm.val za = V → V < B ^ L → Nm.tsize za ≤ 4096 → Pows g (B ^ W) pm K w →
    Calls Tryz.prog 137 #[.slice (some ⟨g, o, none⟩) L cap, .slice p n c, .slice pm k cp, .int .u64 B] w fun e w' => e = .returned (.tuple #[]) ∧ Spread B g o L ds V w w' := by
  intro k
  induction k with
  | zero =>
    intro _ _ o L cap n c p za ds V w hL hd hol hc hcm ha hp hV hV1 ht hP
    rw [Nat.pow_zero, Nat.mul_one] at hL
    subst hL
    exact spread_zero B L g o cap cp n c p pm za ds V w h2 h36 hW hd hol ha hV (by omega)
  | succ k ih =>
    intro hkK hkc o L cap n c p za ds V w hL hd hol hc hcm ha hp hV hV1 ht hP
    obtain ⟨H, hH⟩ : ∃ H, W * 2 ^ k = H := ⟨_, rfl⟩
    have hLH : L = H + H := by rw [hL, Nat.pow_succ, ← Nat.mul_assoc, hH]; omega
    subst hLH
    have hB1 : 0 < B := by omega
    have hV0 : 0 ≤ V := by rw [← hV]; exact (Nm.val_bd za ha.2.2.2.2).1
    obtain ⟨gm, r, us, e1, e2, hcell, hr, hus, htu, hrb⟩ := hP k (by omega)
    subst e1
    have ePk : Nm.val us = B ^ H := by rw [hus, ← Int.pow_mul, hH]
    have hPk : 0 < B ^ H := Int.pow_pos hB1
    have htu0 : 0 < Nm.tsize us := by
      rcases Nat.eq_zero_or_pos (Nm.tsize us) with c | c
      · have := (Nm.tsize_zero_iff hr.2.2.2.2).1 c
        omega
      · exact c
    have DM := hid (divMod_ok p r n c _ _ za us w ha hr ht htu htu0)
    rw [hV, ePk] at DM
    have vh0 : 0 ≤ V / B ^ H := Int.ediv_nonneg hV0 (Int.le_of_lt hPk)
    have vh : V / B ^ H < B ^ H := Int.ediv_lt_of_lt_mul hPk (by rw [← Int.pow_add]; exact hV1)
    have vl : V % B ^ H < B ^ H := Int.emod_lt_of_pos _ hPk
    have vV : V < Nm.pw 4096 := by rw [← hV]; exact (Nm.tsize_le_iff ha.2.2.2.2 4096).1 ht
    have vhp : V / B ^ H < Nm.pw 4096 := Int.lt_of_le_of_lt (Int.ediv_le_self _ hV0) vV
    have vlp : V % B ^ H < Nm.pw 4096 := by
      have h1 := Int.emod_add_mul_ediv V (B ^ H)
      have h2 := Int.mul_nonneg (Int.le_of_lt hPk) vh0
      exact Int.lt_of_le_of_lt (by omega) vV
    have I1 : ShutN (∀ (w1 : World) (q : Option Addr) (os : List Int), OwnB w1 g ds → Ans w.heap.size w1 q os (V / B ^ H) → Pows g (B ^ W) (some ⟨gm, 0, none⟩) K w1 →
        Calls Tryz.prog 137 #[.slice (some ⟨g, o, none⟩) H cap, .slice q (List.length os) (List.length os), .slice (some ⟨gm, 0, none⟩) k cp, .int .u64 B] w1 fun e w' => e = .returned (.tuple #[]) ∧ Spread B g o H ds (V / B ^ H) w1 w') :=
      ⟨fun w1 q os a1 a2 a3 => ih (by omega) (by omega) o H cap _ _ q os ds _ w1 hH.symm a1 (by omega) (by omega) hcm (a2.arg (by have := a2.smallT vhp; omega)) (fun a ha => by have := a2.2.2.2.2 a ha; have := hd.lt; omega) a2.2.2.2.1 vh (a2.tsN vhp) a3⟩
    have I2 : ShutN (∀ (H2 : Nat) (w1 : World) (q : Option Addr) (os ds1 : List Int), H2 = H → OwnB w1 g ds1 → ds1.length = ds.length → Ans w.heap.size w1 q os (V % B ^ H) → Pows g (B ^ W) (some ⟨gm, 0, none⟩) K w1 →
        Calls Tryz.prog 137 #[.slice (some ⟨g, o + H, none⟩) H2 (cap - H), .slice q (List.length os) (List.length os), .slice (some ⟨gm, 0, none⟩) k cp, .int .u64 B] w1 fun e w' => e = .returned (.tuple #[]) ∧ Spread B g (o + H) H ds1 (V % B ^ H) w1 w') :=
      ⟨fun H2 w1 q os ds1 a0 a1 al a2 a3 => by subst a0; exact ih (by omega) (by omega) (o + H2) H2 (cap - H2) _ _ q os ds1 _ w1 hH.symm a1 (by omega) (by omega) (by omega) (a2.arg (by have := a2.smallT vlp; omega)) (fun a ha => by have := a2.2.2.2.2 a ha; have := hd.lt; omega) a2.2.2.2.1 vl (a2.tsN vlp) a3⟩
    have FIN : ShutN (∀ w1 w2 w3 w4 : World, Below w.heap.size w w1 → Spread B g o H ds (V / B ^ H) w1 w2 → Only g w2 w3 → Spread B g (o + H) H (put ds o (Dn.dg B H (V / B ^ H))) (V % B ^ H) w3 w4 → Spread B g o (H + H) ds V w w4) := by
      refine ⟨fun w1 w2 w3 w4 b1 s1 b2 s2 => ?_⟩
      have e1 := s2.1
      have hl := Dn.dg_length B H (V / B ^ H)
      have hl2 := Dn.dg_length B H (V % B ^ H)
      have e2 := put_two ds o (Dn.dg B H (V / B ^ H)) (Dn.dg B H (V % B ^ H)) (by rw [hl, hl2]; omega)
      rw [hl] at e2
      rw [e2, ← Dn.dg_split hB1] at e1
      exact ⟨e1, ((Only.of_below b1).trans s1.2).trans (b2.trans s2.2)⟩
    have PL : Hid ((put ds o (Dn.dg B H (V / B ^ H))).length = ds.length) := put_length _ _ _ (by rw [Dn.dg_length]; omega)
    obtain ⟨L, HL⟩ : ∃ L, Hid (H + H = L) := ⟨_, rfl⟩
    obtain ⟨K1, HK1⟩ : ∃ K1, Hid (k + 1 = K1) := ⟨_, rfl⟩
    have r1 : ((K1 : Int) == 0) = false := by rw [beq_eq_false_iff_ne]; have := HK1.out; omega
    have r2 : (K1 : Int) - 1 = (k : Int) := by have := HK1.out; omega
    have r3 : (L : Int) / 2 = (H : Int) := by have := HL.out; omega
    have r4 : (L : Int).tdiv 2 = (H : Int) := by have := HL.out; rw [Int.tdiv_eq_ediv_of_nonneg (by omega)]; omega
    have hk1 : (k : Int) < (K1 : Int) := by have := HK1.out; omega
    have hk18 : (k : Int) ≤ 18 := by omega
    have hH1 : 1 ≤ H := by rw [← hH]; exact Nat.mul_pos (by omega) (Nat.pow_pos (by omega))
    have hHc : H ≤ cap := by omega
    have hne : ¬ cap = H := by omega
    have hne2 : ¬ L = H := by have := HL.out; omega
    have hHL : H ≤ L := by have := HL.out; omega
    have hkc2 : k ≤ cp := by omega
    have hLc : L ≤ cap := by have := HL.out; omega
    have OB := hid hd
    have HG := hid hd.lt
    have PW := hid hP
    rw [HL.out] at FIN
    rw [HL.out, HK1.out]
    clear ih hL hd hol hc ha hp hV hV1 ht hP hus hr htu hrb ePk htu0 vh0 vh vl vV vhp vlp e2 hkK hkc hH hBW hV0 hPk
    go_enter Tryz.func137, Tryz.ntmps137
    go_wp2_with fail
    refine DM.out.mono ?_
    rintro e w1 ⟨q1, os1, q2, os2, rfl, A1, A2, d1⟩
    have SA1 := hid A1
    have SA2 := hid A2
    have D1 := hid d1
    have OB1 := hid (OB.out.below d1 OB.out.lt)
    have PW1 := hid (PW.out.only (Only.of_below d1))
    clear A1 A2 d1 DM OB PW hcell
    have C1 := hid (I1.out w1.drew q1 os1 OB1.out (SA1.out.below (below_drew w1) (Nat.le_refl _)) (PW1.out.only (Only.of_below (below_drew w1))))
    go_upto_region 8 with fail
    go_cut [] from 57 to 65 (fun wx => Hid (Spread B g o H ds (V / B ^ H) w1 wx))
    case first =>
      go_region_with (go_at_call 137; refine C1.out.mono ?_; rintro e w2 ⟨rfl, s2⟩; have F : Hid (Spread B g o H ds (V / B ^ H) w1 w2) := ⟨s2.1, (Only.of_below (below_drew w1)).trans s2.2⟩; clear s2)
      all_goals (go_wp2_with fail; go_meet; exact F)
    case rest =>
      have SA3 : Hid (Ans w.heap.size wc q2 os2 (V % B ^ H)) := ⟨SA2.out.1.only hcut.out.2 (fun a ha => by have := SA2.out.2.2.2.2 a ha; have := HG.out; omega), SA2.out.2⟩
      have PW2 := hid (PW1.out.only hcut.out.2)
      have C2 := hid (I2.out (L - H) wc.drew q2 os2 _ (by have := HL.out; omega) hcut.out.1 PL.out (SA3.out.below (below_drew wc) (Nat.le_refl _)) (PW2.out.only (Only.of_below (below_drew wc))))
      clear C1 SA1 SA2 PW1 OB1 SA3 PW2 I1 I2
      go_upto_region 9 with fail
      go_region_with (go_at_call 137; go_must (go_fit C2.out); rintro e w3 ⟨rfl, s3⟩; have F : Hid (Spread B g o L ds V w w3) := FIN.out w1 wc wc.drew w3 D1.out hcut.out (Only.of_below (below_drew wc)) s3; clear s3)
      all_goals (go_wp2_with fail; go_end0; exact ⟨rfl, F.out⟩)
end Go.Proofs.YtjkefcikepnbpaaGreatDoor

namespace Go.Proofs.YtjkefcikepnbpaaGreatDoor
open Go Go.RowKit Go.Deep

def lo64 (P : Int) : Int := P % 18446744073709551616
def hi64 (P : Int) : Int := P / 18446744073709551616
theorem n2_split (P : Int) : n2 (lo64 P) (hi64 P) = P := by unfold n2 lo64 hi64; omega
theorem bd_split {P : Int} (h0 : 0 ≤ P) (h1 : P < 340282366920938463463374607431768211456) : Bd (lo64 P) ∧ Bd (hi64 P) := by unfold Bd lo64 hi64; omega

theorem Ans.two {B : Nat} {w : World} {r : Option Addr} {os : List Int} {P : Int} (h : Ans B w r os P) (h0 : 170141183460469231731687303715884105728 ≤ P) (h1 : P < 340282366920938463463374607431768211456) :
    ∃ b off, os = [lo64 P, hi64 P] ∧ r = some ⟨b, off, none⟩ ∧ w.cell? ⟨b, off, none⟩ = some (.int .u64 (lo64 P)) ∧ w.cell? ⟨b, off + 1, none⟩ = some (.int .u64 (hi64 P)) ∧ B ≤ b ∧ b < w.heap.size := by
  obtain ⟨hl, hz, ht, hv, hb⟩ := h
  have hx : os = [lo64 P, hi64 P] := by
    match os, hz, ht, hv with
    | [], _, _, hv => simp [Nm.val] at hv; omega
    | [x], hz, _, hv =>
      have := hz x (by simp)
      simp [Nm.val] at hv
      omega
    | [x, y], hz, _, hv =>
      have := hz x (by simp)
      have := hz y (by simp)
      simp [Nm.val] at hv
      unfold lo64 hi64
      congr 1
      · omega
      · congr 1; omega
    | x :: y :: z :: l, hz, ht, hv =>
      exfalso
      have k := (Nm.tsize_le_iff hz 2).2 (by rw [hv]; simp [Nm.pw]; omega)
      rw [ht] at k
      simp at k
  subst hx
  rcases hl with hl | ⟨b, off, hp, hc⟩
  · simp at hl
  · have c0 := hc 0 (by simp)
    have c1 := hc 1 (by simp)
    refine ⟨b, off, rfl, hp, c0, c1, hb _ hp, ?_⟩
    exact cell_lt c0

/-- The room for the row. -/
def RR (w wx : World) (x y : Int) : Prop := Below w.heap.size w wx ∧ At2 wx w.heap.size x y
theorem RR.new (w : World) : RR w (w.alloc (.cells #[.int .u64 0, .int .u64 0] 249)) 0 0 := ⟨alloc_b _ _, heap_alloc_new _ _⟩
theorem RR.on {w wx wy : World} {x y : Int} (h : RR w wx x y) (k : Below wx.heap.size wx wy) : RR w wy x y := ⟨below_on h.1 k, h.2.below k h.2.lt⟩
theorem RR.drew {w wx : World} {x y : Int} (h : RR w wx x y) : RR w wx.drew x y := ⟨⟨h.1.1, h.1.2, h.1.3, h.1.4, h.1.5⟩, h.2⟩
theorem RR.put {w wx : World} {x y : Int} (h : RR w wx x y) (u v : Int) : RR w ((wx.setCell ⟨w.heap.size, 0, none⟩ (.int .u64 u)).setCell ⟨w.heap.size, 1, none⟩ (.int .u64 v)) u v := by
  refine ⟨(h.1.setCell (p := ⟨w.heap.size, 0, none⟩) (Nat.le_refl _) _).setCell (p := ⟨w.heap.size, 1, none⟩) (Nat.le_refl _) _, ?_⟩
  have h0 := set1 (o := 0) (v := .int .u64 u) (c' := #[.int .u64 u, .int .u64 y]) h.2 (by simp [Array.setIfInBounds])
  exact set1 (o := 1) (v := .int .u64 v) (c' := #[.int .u64 u, .int .u64 v]) h0 (by simp [Array.setIfInBounds])

def RowTold (q : Int) (w : World) (e : Ending) (w' : World) : Prop := e = .returned (.tuple #[wideV (lo64 (Ie.rowP q)) (hi64 (Ie.rowP q)), .int .i64 (Ie.rowE q)]) ∧ Below w.heap.size w w'

theorem five_pw {n : Nat} (h : n ≤ 342) : (5 : Int) ^ n < Nm.pw 4096 := by
  have g := Ie.five_le h
  have k : (5 : Int) ^ 342 < 2 ^ 800 := by decide +kernel
  have e := Nm.pw_two 4096
  have m := Nm.two_mono (show 800 ≤ 64 * 4096 by decide)
  rw [e]
  generalize (2 : Int) ^ 800 = x at *
  generalize (2 : Int) ^ (64 * 4096) = y at *
  omega

theorem arg_lit9 {w : World} {g : Nat} {x : Int} (h : w.heap[g]? = some (.cells #[.int .u64 x] 22 (0, 0))) (h0 : 0 ≤ x) (h1 : x < 18446744073709551616) : Arg w (some ⟨g, 0, none⟩) 1 1 [x] := by
  refine ⟨rfl, Nat.le_refl _, by omega, .inr ⟨g, 0, rfl, fun i hi => ?_⟩, Nm.Limbs.mk h0 h1 Nm.Limbs.nil⟩
  obtain rfl : i = 0 := by simpa using hi
  simp [World.cell?, h]

theorem two_pw {u : Nat} (h : u < 262144) : (2 : Int) ^ u < Nm.pw 4096 := by
  have g := Nm.two_mono (show u + 1 ≤ 64 * 4096 by omega)
  rw [Nm.pw_two]
  rw [Int.pow_succ] at g
  have := Nm.two_pos u
  generalize (2 : Int) ^ u = x at *
  generalize (2 : Int) ^ (64 * 4096) = y at *
  omega

set_option maxRecDepth 100000 in
set_option maxHeartbeats 2000000 in
theorem rowBelow_any (k : Int) (n : Nat) (w : World) (hk : k = (n : Int)) (n0 : 0 < n) (n1 : n ≤ 342) :
    Calls Tryz.prog 233 #[.int .i64 k] w fun e w' => RowTold (-k) w e w' := by
  have P5 := hid (fun wx => pow5_gives k n wx hk (by omega))
  have f1 := hid (five_pw n1)
  have RE : Hid (Ie.rowE (-k) = -((Ie.bl n : Int) + 127)) := by rw [Hid, Ie.rowE, if_neg (by omega), show (-(-k)).toNat = n by omega]
  have RP : Hid (Ie.rowP (-k) = 2 ^ (Ie.bl n + 127) / 5 ^ n) := by rw [Hid, Ie.rowP, if_neg (by omega), show (-(-k)).toNat = n by omega]
  have RI := hid (Ie.row_is (q := -k) (by omega) (by omega))
  have LB := hid (Ie.row_len n1 (Ie.bl_is n))
  have Z := hid (RR.new w)
  clear hk n0 n1
  go_enter Tryz.func233, Tryz.ntmps233
  go_wp2_with fail
  refine (P5.out _).mono ?_
  rintro e w1 ⟨h | h, hB⟩
  · obtain ⟨h1, r, os, rfl, A⟩ := h
    have Z1 := hid (Z.out.on hB)
    have ag := A.argT f1.out
    have ts := A.tsT f1.out
    obtain ⟨L, hL, BL, _, _⟩ := blen_is os ag.2.2.2.2
    rw [A.2.2.2.1] at BL
    have hLe : L = Ie.bl n := BL.unique (by have := Ie.five_pos n; omega) (Ie.bl_is n)
    have BN := hid (bitLen_n L r os.length os.length os w1 ag hL)
    have lb := LB.out
    rw [← hLe] at lb RE RP
    have l0 : (1 : Int) ≤ L := by omega
    have l1 : (L : Int) ≤ 800 := by omega
    obtain ⟨up, hup⟩ : ∃ up : Nat, up = L + 127 := ⟨_, rfl⟩
    rw [← hup] at RP
    have e1 : (L : Int) + 128 - 1 = (up : Int) := by omega
    have AL : Hid (Arg (w1.alloc (.cells #[.int .u64 1] 22)) (some ⟨w1.heap.size, 0, none⟩) 1 1 [1]) := arg_lit9 (heap_alloc_new _ _) (by omega) (by omega)
    have SL : Hid (Calls Tryz.prog 58 #[.slice (some ⟨w1.heap.size, 0, none⟩) 1 1, .int .i64 (up : Int)] (w1.alloc (.cells #[.int .u64 1] 22)) fun e w' => ∃ r os, e = .returned (.tuple #[.slice r (List.length os) (List.length os), .int .i64 0]) ∧ Ans w1.heap.size w' r os (2 ^ up) ∧ Below w1.heap.size w1 w') := by
      obtain ⟨M, hM, BM, _, _⟩ := blen_is (Nm.trim [1]) AL.out.2.2.2.2.trim
      have hv : Nm.val (Nm.trim [1]) = 1 := by decide
      rw [hv] at BM
      have hm : M ≤ 1 := by
        have := BM.2.2 (by omega)
        rcases (show M ≤ 1 ∨ 2 ≤ M by omega) with g | g
        · exact g
        · have := Nm.two_mono (show 1 ≤ M - 1 by omega)
          omega
      refine (shl_ok _ 1 1 [1] (up : Int) up M _ AL.out (by decide) rfl (by decide) hM (by omega)).mono ?_
      rintro e w' ⟨r, os, rfl, A2, hB2⟩
      rw [show Nm.val [1] = 1 by decide, Int.one_mul] at A2
      exact ⟨r, os, rfl, A2.up (alloc_b _ _).size, below_on (alloc_b _ _) hB2⟩
    have GA := hid ag
    have TS := hid ts
    have AA := hid A
    have tp : Hid ((2 : Int) ^ up < Nm.pw 4096) := two_pw (by omega)
    clear hB h1 ag ts hL BL hLe lb LB A AL P5 hup Z
    go_wp2_with fail
    refine BN.out.mono ?_
    rintro e w' ⟨rfl, rfl⟩
    go_wp2_with fail
    refine SL.out.mono ?_
    rintro e w2 ⟨r2, os2, rfl, A2, hB2⟩
    have Z2 := hid (Z1.out.on hB2)
    have DM := hid (divMod_ok r2 r _ _ _ _ os2 os w2 (A2.argT tp.out) (GA.out.below hB2 (Nat.le_refl _)) (A2.tsT tp.out) TS.out (by
      rcases Nat.eq_zero_or_pos (Nm.tsize os) with g | g
      · have := (Nm.tsize_zero_iff GA.out.2.2.2.2).1 g
        have := AA.out.2.2.2.1
        have := Ie.five_pos n
        omega
      · exact g))
    rw [A2.2.2.2.1, AA.out.2.2.2.1] at DM
    clear A2 hB2 SL BN GA TS AA tp f1 Z1
    go_wp2_with fail
    refine DM.out.mono ?_
    rintro e w3 ⟨r3, os3, r4, os4, rfl, A3, _, hB3⟩
    have Z3 := hid (Z2.out.on hB3)
    rw [← RP.out] at A3
    obtain ⟨b, off, rfl, rfl, c0, c1, b0, b1⟩ := A3.two RI.out.lo RI.out.hi
    obtain ⟨⟨d0, d1⟩, g0, g1⟩ := Z3.out.drew.2.cells
    obtain ⟨⟨d0', d1'⟩, g0', g1'⟩ := Z3.out.2.cells
    have k0 : w3.drew.cell? ⟨b, off, none⟩ = some (.int .u64 (lo64 (Ie.rowP (-k)))) := c0
    have k1 : w3.drew.cell? ⟨b, off + 1, none⟩ = some (.int .u64 (hi64 (Ie.rowP (-k)))) := c1
    have ne : b ≠ w.heap.size := by have := Z2.out.2.lt; omega
    have F : Hid (∀ w', Below w.heap.size w w' → RowTold (-k) w (.returned (.tuple #[.agg #[.int .u64 (lo64 (Ie.rowP (-k))), .int .u64 (hi64 (Ie.rowP (-k)))], .int .i64 (-(up : Int))])) w') := fun w' h => ⟨by rw [RE.out, ← e1, show -((L : Int) + 127) = -((L : Int) + 128 - 1) by omega]; rfl, h⟩
    have u0 : (0 : Int) ≤ up := by omega
    have u1 : (up : Int) ≤ 1000 := by omega
    generalize lo64 (Ie.rowP (-k)) = x at *
    generalize hi64 (Ie.rowP (-k)) = y at *
    clear c0 c1 A3 hB3 DM RI RE RP Z2 b0 b1 e1 l0 l1
    go_upto_region 5 with fail
    go_region
    all_goals go_wp2_with fail
    refine bodyPost_ret (results_row_tmp rfl _ _ w.heap.size 249 _ (0, 0) _ rfl (Z3.out.put _ _).drew.2 Tryz.underlying249 rfl (by kernel_rfl)) rfl ?_
    exact F.out _ (Z3.out.put _ _).drew.1
  · exfalso
    have := f1.out
    have := h.1
    omega
set_option maxRecDepth 100000 in
set_option maxHeartbeats 2000000 in
theorem row_any (q : Int) (w : World) (hT : Tab w) (q0 : -342 ≤ q) (q1 : q ≤ 308) :
    Calls Tryz.prog 229 #[.int .i64 q] w fun e w' => RowTold q w e w' := by
  have Z := hid (RR.new w)
  by_cases hq : q < 0
  · have RB := hid (fun wx => rowBelow_any (-q) (-q).toNat wx (by omega) (by omega) (by omega))
    rw [Int.neg_neg] at RB
    clear q1 hT
    go_enter Tryz.func229, Tryz.ntmps229
    go_wp2_with fail
    refine (RB.out _).mono ?_
    rintro e w3 ⟨rfl, hB⟩
    have Z3 := hid (Z.out.on hB)
    have F : Hid (∀ w', Below w.heap.size w w' → RowTold q w (.returned (.tuple #[.agg #[.int .u64 (lo64 (Ie.rowP q)), .int .u64 (hi64 (Ie.rowP q))], .int .i64 (Ie.rowE q)])) w') := fun w' h => ⟨rfl, h⟩
    unfold wideV
    obtain ⟨⟨d0, d1⟩, g0, g1⟩ := Z3.out.2.cells
    generalize lo64 (Ie.rowP q) = x at *
    generalize hi64 (Ie.rowP q) = y at *
    generalize Ie.rowE q = ee at *
    clear hB RB Z
    go_wp2_with fail
    (try simp only [Exit.inBlock, Exit.then])
    refine bodyPost_ret (results_row_tmp rfl _ _ w.heap.size 249 _ (0, 0) _ rfl (Z3.out.put _ _).2 Tryz.underlying249 rfl (by kernel_rfl)) rfl ?_
    exact F.out _ (Z3.out.put _ _).1
  · obtain ⟨n, hn⟩ := Int.eq_ofNat_of_zero_le (show 0 ≤ q by omega)
    have P5 := hid (fun wx => pow5_gives q n wx hn (by omega))
    have f1 := hid (five_pw (show n ≤ 342 by omega))
    have RE : Hid (Ie.rowE q = (Ie.bl n : Int) - 128) := by rw [Hid, Ie.rowE, if_pos (by omega), show q.toNat = n by omega]
    have RI := hid (Ie.row_is (q := q) (by omega) (by omega))
    have LB := hid (Ie.row_len (show n ≤ 342 by omega) (Ie.bl_is n))
    have R1 : Hid (Ie.bl n < 128 → Ie.rowP q = 5 ^ n * 2 ^ (128 - Ie.bl n)) := fun h => by rw [Ie.rowP, if_pos (by omega), show q.toNat = n by omega, if_pos (by omega)]
    have R2 : Hid (128 ≤ Ie.bl n → Ie.rowP q = 5 ^ n / 2 ^ (Ie.bl n - 128)) := fun h => by
      rw [Ie.rowP, if_pos (by omega), show q.toNat = n by omega]
      split
      · rw [show Ie.bl n - 128 = 0 by omega, show 128 - Ie.bl n = 0 by omega]; simp
      · rfl
    have HT := hid hT
    clear hn hT
    have hq0 : 0 ≤ q := by omega
    go_enter Tryz.func229, Tryz.ntmps229
    go_wp2_with fail
    refine (P5.out _).mono ?_
    rintro e w1 ⟨h | h, hB⟩
    · obtain ⟨h1, r, os, rfl, A⟩ := h
      have Z1 := hid (Z.out.on hB)
      have ag := A.argT f1.out
      have ts := A.tsT f1.out
      obtain ⟨L, hL, BL, hL64, _⟩ := blen_is os ag.2.2.2.2
      have tz : 0 < Nm.tsize os := by
        rcases Nat.eq_zero_or_pos (Nm.tsize os) with g | g
        · have := (Nm.tsize_zero_iff ag.2.2.2.2).1 g
          have := A.2.2.2.1
          have := Ie.five_pos n
          omega
        · exact g
      have hLt : blen (Nm.trim os) = (L : Int) := by
        rw [show Nm.trim os = os by unfold Nm.trim; rw [A.2.2.1, List.take_length]]; exact hL
      have hv := A.2.2.2.1
      rw [hv] at BL
      have hLe : L = Ie.bl n := BL.unique (by have := Ie.five_pos n; omega) (Ie.bl_is n)
      have BN := hid (bitLen_n L r os.length os.length os w1 ag hL)
      have lb := LB.out
      rw [← hLe] at lb RE R1 R2
      have l0 : (1 : Int) ≤ L := by omega
      have l1 : (L : Int) ≤ 800 := by omega
      by_cases h128 : L < 128
      · have RP := hid (R1.out h128)
        obtain ⟨kk, hkk⟩ : ∃ kk : Nat, kk = 128 - L := ⟨_, rfl⟩
        rw [← hkk] at RP
        have e1 : -((L : Int) - 128) = (kk : Int) := by omega
        have e2 : (L : Int) - 128 < 0 := by omega
        have SL : Hid (Calls Tryz.prog 58 #[.slice r (List.length os) (List.length os), .int .i64 (kk : Int)] w1 fun e w' => ∃ r os, e = .returned (.tuple #[.slice r (List.length os) (List.length os), .int .i64 0]) ∧ Ans w1.heap.size w' r os (Ie.rowP q) ∧ Below w1.heap.size w1 w') := by
          refine (shl_ok r _ _ os (kk : Int) kk L w1 ag ts rfl tz hLt (by omega)).mono ?_
          rintro e w' ⟨r, os, rfl, A2, hB2⟩
          rw [hv, ← RP.out] at A2
          exact ⟨r, os, rfl, A2, hB2⟩
        clear hB h1 ag ts hL BL hLe lb LB A P5 Z R1 R2 RP hLt hL64 tz hv f1 HT h128 hkk
        go_wp2_with fail
        refine BN.out.mono ?_
        rintro e w' ⟨rfl, rfl⟩
        go_wp2_with fail
        refine SL.out.mono ?_
        rintro e w3 ⟨r2, os2, rfl, A3, hB3⟩
        have Z3 := hid (Z1.out.on hB3)
        obtain ⟨b, off, rfl, rfl, c0, c1, b0, b1⟩ := A3.two RI.out.lo RI.out.hi
        obtain ⟨⟨d0, d1⟩, g0, g1⟩ := Z3.out.drew.2.cells
        obtain ⟨⟨d0', d1'⟩, g0', g1'⟩ := Z3.out.2.cells
        have k0 : w3.drew.cell? ⟨b, off, none⟩ = some (.int .u64 (lo64 (Ie.rowP q))) := c0
        have k1 : w3.drew.cell? ⟨b, off + 1, none⟩ = some (.int .u64 (hi64 (Ie.rowP q))) := c1
        have ne : b ≠ w.heap.size := by have := Z1.out.2.lt; omega
        have F : Hid (∀ w', Below w.heap.size w w' → RowTold q w (.returned (.tuple #[.agg #[.int .u64 (lo64 (Ie.rowP q)), .int .u64 (hi64 (Ie.rowP q))], .int .i64 ((L : Int) - 128)])) w') := fun w' h => ⟨by rw [RE.out]; rfl, h⟩
        generalize lo64 (Ie.rowP q) = x at *
        generalize hi64 (Ie.rowP q) = y at *
        clear c0 c1 A3 hB3 SL RI RE b0 b1 Z1
        go_upto_region 8 with fail
        go_region
        all_goals go_wp2_with fail
        refine bodyPost_ret (results_row_tmp rfl _ _ w.heap.size 249 _ (0, 0) _ rfl (Z3.out.put _ _).drew.2 Tryz.underlying249 rfl (by kernel_rfl)) rfl ?_
        exact F.out _ (Z3.out.put _ _).drew.1
      · have RP := hid (R2.out (by omega))
        obtain ⟨kk, hkk⟩ : ∃ kk : Nat, kk = L - 128 := ⟨_, rfl⟩
        rw [← hkk] at RP
        have e1 : (L : Int) - 128 = (kk : Int) := by omega
        have e2 : ¬ ((L : Int) - 128 < 0) := by omega
        have e3 : (0 : Int) ≤ kk := by omega
        have SL : Hid (Calls Tryz.prog 209 #[.slice r (List.length os) (List.length os), .int .i64 (kk : Int)] w1 fun e w' => ∃ r os b, e = .returned (.tuple #[.slice r (List.length os) (List.length os), .bool b, .int .i64 0]) ∧ Ans w1.heap.size w' r os (Ie.rowP q) ∧ Below w1.heap.size w1 w') := by
          refine (shr_ok r _ _ os (kk : Int) kk L w1 ag (HT.out.below Z1.out.1) ts rfl hLt hL64 (by omega)).mono ?_
          rintro e w' ⟨r, os, rfl, A2, hB2⟩
          rw [hv, ← RP.out] at A2
          exact ⟨r, os, _, rfl, A2, hB2⟩
        clear hB h1 ag ts hL BL hLe lb LB A P5 Z R1 R2 RP hLt hL64 tz hv f1 HT h128 hkk
        go_wp2_with fail
        refine BN.out.mono ?_
        rintro e w' ⟨rfl, rfl⟩
        go_wp2_with fail
        refine SL.out.mono ?_
        rintro e w3 ⟨r2, os2, bb, rfl, A3, hB3⟩
        have Z3 := hid (Z1.out.on hB3)
        obtain ⟨b, off, rfl, rfl, c0, c1, b0, b1⟩ := A3.two RI.out.lo RI.out.hi
        obtain ⟨⟨d0, d1⟩, g0, g1⟩ := Z3.out.drew.2.cells
        obtain ⟨⟨d0', d1'⟩, g0', g1'⟩ := Z3.out.2.cells
        have k0 : w3.drew.cell? ⟨b, off, none⟩ = some (.int .u64 (lo64 (Ie.rowP q))) := c0
        have k1 : w3.drew.cell? ⟨b, off + 1, none⟩ = some (.int .u64 (hi64 (Ie.rowP q))) := c1
        have ne : b ≠ w.heap.size := by have := Z1.out.2.lt; omega
        have F : Hid (∀ w', Below w.heap.size w w' → RowTold q w (.returned (.tuple #[.agg #[.int .u64 (lo64 (Ie.rowP q)), .int .u64 (hi64 (Ie.rowP q))], .int .i64 (kk : Int)])) w') := fun w' h => ⟨by rw [RE.out, e1]; rfl, h⟩
        generalize lo64 (Ie.rowP q) = x at *
        generalize hi64 (Ie.rowP q) = y at *
        clear c0 c1 A3 hB3 SL RI RE b0 b1 Z1
        go_upto_region 8 with fail
        go_region
        all_goals go_wp2_with fail
        refine bodyPost_ret (results_row_tmp rfl _ _ w.heap.size 249 _ (0, 0) _ rfl (Z3.out.put _ _).drew.2 Tryz.underlying249 rfl (by kernel_rfl)) rfl ?_
        exact F.out _ (Z3.out.put _ _).drew.1
    · exfalso
      have := f1.out
      have := h.1
      omega
end Go.Proofs.YtjkefcikepnbpaaGreatDoor

namespace Go.Proofs.YtjkefcikepnbpaaGreatDoor
open Go Go.RowKit Go.Deep

def StepTold (v q : Int) (w : World) (e : Ending) (w' : World) : Prop := ∃ x s, e = .returned (.tuple #[.int .u64 x, .bool s]) ∧ Ie.Stq v q x s ∧ Below w.heap.size w w'

/-- One product in its box. -/
def OP (w wx : World) (g : Nat) (a b c : Int) : Prop := Below w.heap.size w wx ∧ At3 wx g a b c
theorem OP.on {w wx wy : World} {g : Nat} {a b c : Int} (h : OP w wx g a b c) (k : Below wx.heap.size wx wy) : OP w wy g a b c := ⟨below_on h.1 k, h.2.below k h.2.lt⟩
theorem OP.new {w w1 : World} (h : Below w.heap.size w w1) (a b c : Int) : OP w (w1.alloc (.cells #[.int .u64 a, .int .u64 b, .int .u64 c] 247)) w1.heap.size a b c := ⟨below_on h (alloc_b _ _), heap_alloc_new _ _⟩

theorem head_same {a b c x y z v P e A : Int} (ha : Bd a ∧ Bd b ∧ Bd c) (hx : Bd x ∧ Bd y ∧ Bd z) (hn : n3 x y z = n3 a b c + v) (v0 : 0 < v) (hp : n3 a b c = v * P) (hP : 170141183460469231731687303715884105728 ≤ P) (h : a ≠ 0 ∧ b = y ∧ c = z)
    (hr : Ie.Rnd (n3 a b c) 1 e false A) : Ie.Rnd (n3 x y z) 1 e false A := by
  have hm : P ≤ v * P := by have := Int.mul_le_mul_of_nonneg_right (show 1 ≤ v by omega) (show 0 ≤ P by omega); rw [Int.one_mul] at this; exact this
  obtain ⟨h0, rfl, rfl⟩ := h
  unfold Bd at *
  have e1 : n3 a b c = (b + 18446744073709551616 * c) * 18446744073709551616 + a := by unfold n3; omega
  have e2 : n3 x b c = (b + 18446744073709551616 * c) * 18446744073709551616 + x := by unfold n3; omega
  have hxa : x = a + v := by unfold n3 at hn; omega
  have hh : 18014398509481984 ≤ b + 18446744073709551616 * c := by rw [← hp, e1] at hm; omega
  rw [e1] at hr
  rw [e2]
  exact Ie.head_rnd hh (by omega) (by omega) (by omega) (by omega) hr

set_option maxRecDepth 100000 in
set_option maxHeartbeats 1000000 in
theorem step_any9 (v q : Int) (w : World) (hT : Tab w) (hv : Bd v) :
    Calls Tryz.prog 225 #[.int .u64 v, .int .i64 q] w fun e w' => StepTold v q w e w' := by
  by_cases h0 : v = 0
  · subst h0
    have F : Hid (StepTold 0 q w (.returned (.tuple #[.int .u64 0, .bool true])) w) := ⟨0, true, rfl, .inl ⟨rfl, rfl, rfl⟩, Below.refl _ _⟩
    clear hv hT
    go_enter Tryz.func225, Tryz.ntmps225
    go_wp2_with fail
    go_ret2
    exact F.out
  have v0 : (v == 0) = false := by rw [beq_eq_false_iff_ne]; exact h0
  have vp : 0 < v := by have := hv.1; omega
  have I := hid (inTable_any q w)
  by_cases h : -342 ≤ q ∧ q ≤ 308
  · have RW := hid (row_any q w hT h.1 h.2)
    have RI := hid (Ie.row_is h.1 h.2)
    have bs := bd_split (P := Ie.rowP q) (by have := RI.out.lo; omega) RI.out.hi
    have TM := hid (fun wx => ptimes_any v (lo64 (Ie.rowP q)) (hi64 (Ie.rowP q)) wx hv bs.1 bs.2)
    rw [n2_split] at TM
    rw [decide_eq_true h] at I
    have EX := hid (fun wx => exact_any9 q wx)
    have HT := hid hT
    have HV := hid hv
    have VP := hid vp
    have PR := hid (fun (a b c : Int) (wx : World) (hb : Below w.heap.size w wx) (hh : Bd a ∧ Bd b ∧ Bd c) => pround_any a b c (Ie.rowE q + q) wx (hT.below hb) hh)
    have PL := hid (fun (a b c : Int) (wx : World) (hh : Bd a ∧ Bd b ∧ Bd c) hn => pplus_any a b c v wx hh.1 hh.2.1 hh.2.2 hv hn)
    have SD := hid (fun (a b c x y z : Int) (wx : World) => same_any9 a b c x y z wx)
    have eb := RI.out.eb
    have F1 : Hid (∀ A w', 0 ≤ q ∧ q ≤ 55 → Ie.Rnd (v * Ie.rowP q) 1 (Ie.rowE q + q) false A → Below w.heap.size w w' → StepTold v q w (.returned (.tuple #[.int .u64 A, .bool true])) w') := fun A w' g r b => ⟨A, true, rfl, .inr (.inr ⟨vp, h.1, h.2, A, A, r, .inl ⟨g.1, g.2, rfl⟩, .inl ⟨rfl, rfl, rfl⟩⟩), b⟩
    have F2 : Hid (∀ A w', ¬ (0 ≤ q ∧ q ≤ 55) → Ie.Rnd (v * Ie.rowP q) 1 (Ie.rowE q + q) false A → Ie.Rnd (v * (Ie.rowP q + 1)) 1 (Ie.rowE q + q) false A → Below w.heap.size w w' → StepTold v q w (.returned (.tuple #[.int .u64 A, .bool true])) w') := fun A w' g r r2 b => ⟨A, true, rfl, .inr (.inr ⟨vp, h.1, h.2, A, A, r, .inr ⟨by omega, r2⟩, .inl ⟨rfl, rfl, rfl⟩⟩), b⟩
    have F3 : Hid (∀ A B w', ¬ (0 ≤ q ∧ q ≤ 55) → Ie.Rnd (v * Ie.rowP q) 1 (Ie.rowE q + q) false A → Ie.Rnd (v * (Ie.rowP q + 1)) 1 (Ie.rowE q + q) false B → A ≠ B → Below w.heap.size w w' → StepTold v q w (.returned (.tuple #[.int .u64 0, .bool false])) w') := fun A B w' g r r2 ne b => ⟨0, false, rfl, .inr (.inr ⟨vp, h.1, h.2, A, B, r, .inr ⟨by omega, r2⟩, .inr ⟨ne, rfl, rfl⟩⟩), b⟩
    have q0 := h.1
    have q1 := h.2
    have HS : Hid (∀ a b c x y z A, Bd a ∧ Bd b ∧ Bd c → Bd x ∧ Bd y ∧ Bd z → n3 x y z = n3 a b c + v → n3 a b c = v * Ie.rowP q → a ≠ 0 ∧ b = y ∧ c = z → Ie.Rnd (n3 a b c) 1 (Ie.rowE q + q) false A → Ie.Rnd (n3 x y z) 1 (Ie.rowE q + q) false A) := fun a b c x y z A k1 k2 k3 k4 k5 k6 => head_same k1 k2 k3 vp k4 RI.out.lo k5 k6
    have HN : Hid (∀ N : Int, N = v * Ie.rowP q → N + v < 6277101735386680763835789423207666416102355444464034512896 ∧ N + v = v * (Ie.rowP q + 1)) := fun N hN => by
      have hP := RI.out.hi
      have e1 : N + v = v * (Ie.rowP q + 1) := by rw [hN, Int.mul_add, Int.mul_one]
      refine ⟨?_, e1⟩
      rw [e1]
      have g1 : v * (Ie.rowP q + 1) ≤ v * 340282366920938463463374607431768211456 := Int.mul_le_mul_of_nonneg_left (by omega) (by omega)
      have := hv.2
      omega
    clear h hT hv bs RI vp h0
    go_enter Tryz.func225, Tryz.ntmps225
    go_wp2_with fail
    refine I.out.mono ?_
    rintro e w' ⟨rfl, rfl⟩
    go_wp2_with fail
    refine RW.out.mono ?_
    rintro e w1 ⟨rfl, hB1⟩
    generalize Ie.rowE q = ee at *
    generalize Ie.rowP q = P at *
    have HB1 := hid hB1
    unfold wideV at *
    clear RW I hB1
    go_wp2_with fail
    with_reducible refine (TM.out _).mono ?_
    rintro e w2 ⟨a, b, c, rfl, hbd, hn, hB2⟩
    have O2 := hid (OP.new (below_on (below_on HB1.out (alloc_b _ _)) hB2) a b c)
    have BD := hid hbd
    have NN := hid hn
    unfold prodV at *
    clear hB2 hbd hn TM HB1
    go_upto_region 7 with fail
    generalize (w2.alloc (.cells #[.int .u64 a, .int .u64 b, .int .u64 c] 247)) = w3 at *
    obtain ⟨⟨d0, d1, d2⟩, _⟩ := O2.out.2.cells
    go_wp2_with fail
    have ob := O2.out.1
    with_reducible refine (PR.out a b c _ ob BD.out).mono ?_
    rintro e w4 ⟨A, rfl, hA, hB4⟩
    clear ob
    have O4 := hid (O2.out.on hB4)
    rw [NN.out] at hA
    have HA := hid hA
    clear hB4 d0 d1 d2 hA O2
    go_wp2_with fail
    refine (EX.out _).mono ?_
    rintro e w5 ⟨rfl, rfl⟩
    by_cases hx : 0 ≤ q ∧ q ≤ 55
    · rw [decide_eq_true hx]
      have FF := hid (F1.out A w5 hx HA.out O4.out.1)
      clear hx F1 F2 F3
      go_wp2_with fail
      go_ret2
      exact FF.out
    · rw [decide_eq_false hx]
      have HX := hid hx
      obtain ⟨⟨d0, d1, d2⟩, _⟩ := O4.out.2.cells
      clear hx
      go_wp2_with fail
      refine (PL.out a b c _ BD.out (HN.out _ NN.out).1).mono ?_
      rintro e w6 ⟨x, y, z, rfl, hbx, hnx, hB6⟩
      have O6 := hid (O4.out.on hB6)
      have O7 := hid (O6.out.on (alloc_b w6 (.cells #[.int .u64 x, .int .u64 y, .int .u64 z] 247)))
      have P7 := hid (OP.new O6.out.1 x y z)
      have BX := hid hbx
      have NX := hid hnx
      clear hB6 hbx hnx d0 d1 d2 O6 O4
      go_upto_region 11 with fail
      generalize (w6.alloc (.cells #[.int .u64 x, .int .u64 y, .int .u64 z] 247)) = w7 at *
      obtain ⟨⟨d0, d1, d2⟩, _⟩ := O7.out.2.cells
      obtain ⟨⟨p0, p1, p2⟩, _⟩ := P7.out.2.cells
      go_wp2_with fail
      with_reducible refine (SD.out a b c x y z _).mono ?_
      rintro e w8 ⟨rfl, hB8⟩
      have P8 := hid (P7.out.on hB8)
      have S1 : Hid (a ≠ 0 ∧ b = y ∧ c = z → Ie.Rnd (v * (P + 1)) 1 (ee + q) false A) := fun g => by
        have := HS.out a b c x y z A BD.out BX.out NX.out NN.out g (by rw [NN.out]; exact HA.out)
        rw [NX.out, (HN.out _ NN.out).2] at this
        exact this
      clear d0 d1 d2 p0 p1 p2 hB8 O7 P7
      obtain ⟨⟨p0, p1, p2⟩, _⟩ := P8.out.2.cells
      obtain ⟨sb, hsb⟩ : ∃ sb, decide (a ≠ 0 ∧ b = y ∧ c = z) = sb := ⟨_, rfl⟩
      rw [hsb]
      cases sb with
      | true =>
        have FF := hid (F2.out A w8 HX.out HA.out (S1.out (of_decide_eq_true hsb)) P8.out.1)
        clear hsb F1 F2 F3 S1
        go_wp2_with fail
        go_ret2
        exact FF.out
      | false =>
        clear hsb
        go_wp2_with fail
        have ob := P8.out.1
        with_reducible refine (PR.out x y z _ ob BX.out).mono ?_
        rintro e w9 ⟨B, rfl, hR, hB9⟩
        clear ob
        rw [NX.out, (HN.out _ NN.out).2] at hR
        by_cases hAB : B = A
        · subst hAB
          have FF := hid (F2.out B w9 HX.out HA.out hR (below_on P8.out.1 hB9))
          clear hR hB9 F1 F2 F3 S1 p0 p1 p2
          go_wp2_with fail
          go_ret2
          exact FF.out
        · have FF := hid (F3.out A B w9 HX.out HA.out hR (fun g => hAB g.symm) (below_on P8.out.1 hB9))
          have hne : (B == A) = false := by rw [beq_eq_false_iff_ne]; exact hAB
          clear hR hB9 F1 F2 F3 S1 p0 p1 p2
          go_wp2_with fail
          go_ret2
          exact FF.out
  · rw [decide_eq_false h] at I
    have F : Hid (StepTold v q w (.returned (.tuple #[.int .u64 0, .bool false])) w) := ⟨0, false, rfl, .inr (.inl ⟨vp, by omega, rfl, rfl⟩), Below.refl _ _⟩
    clear h hT hv vp
    go_enter Tryz.func225, Tryz.ntmps225
    go_wp2_with fail
    refine I.out.mono ?_
    rintro e w' ⟨rfl, rfl⟩
    go_wp2_with fail
    go_ret2
    exact F.out
end Go.Proofs.YtjkefcikepnbpaaGreatDoor

/-
  ieee: ratio (where the divisor leaves room), Round, RoundRatio.
-/
namespace Go.Proofs.YtjkefcikepnbpaaGreatDoor
open Go Go.RowKit Go.Deep

namespace Ie
/-- What is told of a fraction: the whole part of it moved, how far, and whether there is a rest. -/
def Quo (n d Q sh : Int) (rest : Bool) : Prop := ∀ e x, Rnd Q 1 (e - sh) rest x → Rnd n d e false x

theorem quo_up (V D : Int) (L M s : Nat) (hv : 2 ^ (L - 1) ≤ V) (hl : 1 ≤ L) (d0 : 0 < D) (hd : D < 2 ^ M) (hs : L + s = M + 64) : Quo V D (V * 2 ^ s / D) s (decide (V * 2 ^ s % D ≠ 0)) := by
  intro e x h
  refine Rnd.num s (rnd_floor (V * 2 ^ s) D (e - s) x d0 ?_ h)
  rw [Int.le_ediv_iff_mul_le d0]
  have g1 : (2 : Int) ^ (L - 1 + s) ≤ V * 2 ^ s := by rw [Nm.two_add]; exact Int.mul_le_mul_of_nonneg_right hv (by have := Nm.two_pos s; omega)
  rw [show L - 1 + s = 63 + M by omega, Nm.two_add] at g1
  have e63 : (2 : Int) ^ 63 = 9223372036854775808 := by decide
  rw [e63] at g1
  have := Nm.two_pos M
  omega

theorem quo_down (V D : Int) (L M s : Nat) (v0 : 0 < V) (hv : 2 ^ (L - 1) ≤ V) (hl : 1 ≤ L) (d0 : 0 < D) (hd : D < 2 ^ M) (hs : L = M + 64 + s) : Quo V D (V / 2 ^ s / D) (-(s : Int)) (decide (V % 2 ^ s ≠ 0) || decide (V / 2 ^ s % D ≠ 0)) := by
  have hp := Nm.two_pos s
  have hD : 0 < D * 2 ^ s := Int.mul_pos d0 hp
  have a1 := Int.mul_ediv_add_emod V (2 ^ s)
  have a2 := Int.emod_nonneg V (show (2 : Int) ^ s ≠ 0 by omega)
  have a3 := Int.emod_lt_of_pos V hp
  have b1 := Int.mul_ediv_add_emod (V / 2 ^ s) D
  have b2 := Int.emod_nonneg (V / 2 ^ s) (show D ≠ 0 by omega)
  have b3 := Int.emod_lt_of_pos (V / 2 ^ s) d0
  generalize V % 2 ^ s = r1 at *
  generalize V / 2 ^ s = q1 at *
  generalize q1 % D = r2 at *
  generalize q1 / D = q at *
  have c0 : 0 ≤ 2 ^ s * r2 := Int.mul_nonneg (by omega) b2
  have c1 : 2 ^ s * (r2 + 1) ≤ 2 ^ s * D := Int.mul_le_mul_of_nonneg_left (by omega) (by omega)
  rw [Int.mul_add, Int.mul_one, Int.mul_comm (2 ^ s) D] at c1
  have key : q * (D * 2 ^ s) + (2 ^ s * r2 + r1) = V := by
    rw [← a1, ← b1, Int.mul_add, ← Int.add_assoc]
    congr 2
    ac_rfl
  obtain ⟨k1, k2⟩ := div_is (A := V) (B := D * 2 ^ s) (q := q) (r := 2 ^ s * r2 + r1) (by omega) (by omega) key
  intro e x h
  refine Rnd.den s (rnd_floor V (D * 2 ^ s) (e + s) x hD ?_ ?_)
  · rw [Int.le_ediv_iff_mul_le hD]
    rw [show L - 1 = 63 + (M + s) by omega, Nm.two_add, Nm.two_add] at hv
    have e63 : (2 : Int) ^ 63 = 9223372036854775808 := by decide
    have g : D * 2 ^ s ≤ 2 ^ M * 2 ^ s := Int.mul_le_mul_of_nonneg_right (by omega) (by omega)
    rw [e63] at hv
    omega
  · rw [k1, k2]
    have e1 : decide (2 ^ s * r2 + r1 ≠ 0) = (decide (r1 ≠ 0) || decide (r2 ≠ 0)) := by
      rw [Bool.eq_iff_iff, Bool.or_eq_true, decide_eq_true_iff, decide_eq_true_iff, decide_eq_true_iff]
      rcases (show r2 = 0 ∨ 0 < r2 by omega) with h0 | h0
      · subst h0
        rw [Int.mul_zero]
        omega
      · have := Int.mul_pos hp h0
        omega
    rw [e1]
    rw [show e - -(s : Int) = e + s by omega] at h
    exact h
end Ie

/-- What ratio tells. -/
def RatioTold (V D : Int) (w : World) (e : Ending) (w' : World) : Prop :=
  ∃ r os Q sh rest, e = .returned (.tuple #[.slice r (List.length os) (List.length os), .int .i64 sh, .bool rest]) ∧ Ans w.heap.size w' r os Q ∧ Below w.heap.size w w' ∧ Nm.tsize os ≤ 4096 ∧ (-262144 ≤ sh ∧ sh ≤ 262208) ∧ Ie.Quo V D Q sh rest

theorem pos_len {B : Nat} {w : World} {r : Option Addr} {os : List Int} {v : Int} (h : Ans B w r os v) : decide (0 < os.length) = decide (v ≠ 0) := by
  have h1 := Nm.tsize_zero_iff h.2.1
  rw [h.2.2.1, h.2.2.2.1] at h1
  rw [decide_eq_decide]
  omega

set_option maxRecDepth 100000 in
set_option maxHeartbeats 2000000 in
theorem ratio_up (p q : Option Addr) (n cap m cap' : Nat) (zs ys : List Int) (w : World) (ha : Arg w p n cap zs) (hb : Arg w q m cap' ys) (tz : Nm.tsize zs ≤ 4096) (ty : Nm.tsize ys ≤ 4096) (V D : Int) (L M s : Nat) (hV : Nm.val zs = V) (hD : Nm.val ys = D) (hv : 0 < V) (hd : 0 < D)
    (hL : blen zs = (L : Int)) (hM : blen ys = (M : Int)) (BL : Nm.BLen V L) (BM : Nm.BLen D M) (hM2 : M + 64 ≤ 262144) (hs : L + s = M + 64) :
    Calls Tryz.prog 203 #[.slice p n cap, .slice q m cap'] w fun e w' => RatioTold V D w e w' := by
  have B1 := hid (bitLen_n L p n cap zs w ha hL)
  have B2 := hid (bitLen_n M q m cap' ys w hb hM)
  have hpw : V * 2 ^ s < Nm.pw 4096 := by
    have g1 : V * 2 ^ s < 2 ^ (L + s) := by rw [Nm.two_add]; exact Int.mul_lt_mul_of_pos_right BL.1 (Nm.two_pos s)
    have g2 := Nm.two_mono (show L + s ≤ 64 * 4096 by omega)
    rw [Nm.pw_two]
    omega
  have S := hid (fun (kk : Int) (hkk : kk = (s : Int)) => shl_any p n cap zs kk s w ha tz hkk (by rw [hV]; exact hpw))
  have Q := hid (Ie.quo_up V D L M s (BL.2.2 hv).2 (BL.2.2 hv).1 hd BM.1 hs)
  have HV := hid hV
  have HD := hid hD
  have HP := hid hpw
  have HB := hid hb
  have TY := hid ty
  have v1 : 0 < Nm.tsize ys := by
    rcases Nat.eq_zero_or_pos (Nm.tsize ys) with h | h
    · have := (Nm.tsize_zero_iff hb.2.2.2.2).1 h; omega
    · exact h
  have HY := hid v1
  have l1 : decide (262144 < (M : Int) + 64) = false := by simp; omega
  have l2 : decide ((M : Int) + 64 - (L : Int) < 0) = false := by simp; omega
  have l3 : (L : Int) ≤ 300000 := by omega
  have l4 : (M : Int) ≤ 300000 := by omega
  have ls := hid (show (M : Int) + 64 - (L : Int) = (s : Int) by omega)
  have HS := hid (show (s : Int) ≤ 262208 by omega)
  have vp := hid (show 0 ≤ V * 2 ^ s from Int.mul_nonneg (by omega) (by have := Nm.two_pos s; omega))
  have hdd := hid hd
  clear ha hb tz ty hV hD hv hd hL hM BL BM hM2 hs hpw v1
  go_enter Tryz.func203, Tryz.ntmps203
  go_wp2_with fail
  refine B2.out.mono ?_
  rintro e w' ⟨rfl, rfl⟩
  go_wp2_with fail
  refine B1.out.mono ?_
  rintro e w' ⟨rfl, rfl⟩
  go_wp2_with fail
  refine (S.out _ ls.out).mono ?_
  rintro e w1 ⟨r, os, rfl, A, hB⟩
  rw [HV.out] at A
  have A1 := ans_small A 4096 HP.out
  have hb1 := HB.out.below hB (Nat.le_refl _)
  have DM := divMod_ok r q _ _ m cap' os ys w1 (A.arg (by omega)) hb1 (by rw [A.2.2.1]; exact A1) TY.out HY.out
  rw [A.2.2.2.1, HD.out] at DM
  have DM := hid DM
  have HB1 := hid hB
  clear A A1 hb1 hB S B1 B2 HB
  go_wp2_with fail
  refine DM.out.mono ?_
  rintro e w2 ⟨r1, qs, r2, rs, rfl, A2, A3, hB2⟩
  have P3 := hid (pos_len A3)
  have vq : V * 2 ^ s / D < Nm.pw 4096 := by
    have := Int.ediv_le_self D vp.out
    have := HP.out
    omega
  have ch := HB1.out.trans (hB2.mono HB1.out.size)
  have K : Hid (∀ sh rest, sh = (s : Int) → rest = decide (V * 2 ^ s % D ≠ 0) → RatioTold V D w' (.returned (.tuple #[.slice r1 (List.length qs) (List.length qs), .int .i64 sh, .bool rest])) w2) := by
    intro sh rest hsh hrest
    subst hsh hrest
    have A2' : Ans w'.heap.size w2 r1 qs (V * 2 ^ s / D) := ⟨A2.1, A2.2.1, A2.2.2.1, A2.2.2.2.1, fun a h => by have := A2.2.2.2.2 a h; have := HB1.out.size; omega⟩
    exact ⟨r1, qs, _, _, _, rfl, A2', ch, by rw [A2.2.2.1]; exact ans_small A2 4096 vq, ⟨by have := HS.out; omega, by have := HS.out; omega⟩, Q.out⟩
  clear A2 A3 vq ch hB2 DM HB1 Q HV HD HP TY HY vp hdd
  go_wp2_with fail
  go_ret3
  exact K.out _ _ ls.out P3.out
set_option maxRecDepth 100000 in
set_option maxHeartbeats 2000000 in
theorem ratio_down (p q : Option Addr) (n cap m cap' : Nat) (zs ys : List Int) (w : World) (ha : Arg w p n cap zs) (hb : Arg w q m cap' ys) (tz : Nm.tsize zs ≤ 4096) (ty : Nm.tsize ys ≤ 4096) (V D : Int) (L M s : Nat) (hV : Nm.val zs = V) (hD : Nm.val ys = D) (hv : 0 < V) (hd : 0 < D)
    (hL : blen zs = (L : Int)) (hM : blen ys = (M : Int)) (BL : Nm.BLen V L) (BM : Nm.BLen D M) (hM2 : M + 64 ≤ 262144) (hL2 : L ≤ 262144) (hs : L = M + 64 + s) (hs0 : 0 < s) (hT : Tab w) :
    Calls Tryz.prog 203 #[.slice p n cap, .slice q m cap'] w fun e w' => RatioTold V D w e w' := by
  have B1 := hid (bitLen_n L p n cap zs w ha hL)
  have B2 := hid (bitLen_n M q m cap' ys w hb hM)
  have hp := Nm.two_pos s
  have hpw : V / 2 ^ s < Nm.pw 4096 := by
    have g1 := Int.ediv_le_self (2 ^ s) (show 0 ≤ V by omega)
    have g2 := Nm.two_mono (show L ≤ 64 * 4096 by omega)
    have := BL.1
    rw [Nm.pw_two]
    omega
  have S := hid (fun (kk : Int) (hkk : kk = (s : Int)) => shr_any p n cap zs kk s w ha hT tz hkk)
  have Q := hid (Ie.quo_down V D L M s hv (BL.2.2 hv).2 (BL.2.2 hv).1 hd BM.1 hs)
  have HV := hid hV
  have HD := hid hD
  have HP := hid hpw
  have HB := hid hb
  have TY := hid ty
  have v1 : 0 < Nm.tsize ys := by
    rcases Nat.eq_zero_or_pos (Nm.tsize ys) with h | h
    · have := (Nm.tsize_zero_iff hb.2.2.2.2).1 h; omega
    · exact h
  have HY := hid v1
  have l1 : decide (262144 < (M : Int) + 64) = false := by simp; omega
  have l2 : (M : Int) + 64 - (L : Int) < 0 := by omega
  have l3 : (L : Int) ≤ 300000 := by omega
  have l4 : (M : Int) ≤ 300000 := by omega
  have ls := hid (show (M : Int) + 64 - (L : Int) = -(s : Int) by omega)
  have HS := hid (show (s : Int) ≤ 262144 by omega)
  have vp := hid (show 0 ≤ V / 2 ^ s from Int.ediv_nonneg (by omega) (by omega))
  obtain ⟨lost, hlost⟩ : ∃ lost, decide (V % 2 ^ s ≠ 0) = lost := ⟨_, rfl⟩
  rw [hlost] at Q
  have HLO := hid hlost
  have hdd := hid hd
  clear ha hb tz ty hV hD hv hd hL hM BL BM hM2 hs hs0 hpw v1 hT hL2 hp hlost
  go_enter Tryz.func203, Tryz.ntmps203
  go_wp2_with fail
  refine B2.out.mono ?_
  rintro e w' ⟨rfl, rfl⟩
  go_wp2_with fail
  refine B1.out.mono ?_
  rintro e w' ⟨rfl, rfl⟩
  go_wp2_with fail
  refine (S.out _ (by have := ls.out; omega)).mono ?_
  rintro e w1 ⟨r, os, rfl, A, hB⟩
  rw [HV.out] at A ⊢
  rw [HLO.out]
  have A1 := ans_small A 4096 HP.out
  have hb1 := HB.out.below hB (Nat.le_refl _)
  have DM := divMod_ok r q _ _ m cap' os ys w1 (A.arg (by omega)) hb1 (by rw [A.2.2.1]; exact A1) TY.out HY.out
  rw [A.2.2.2.1, HD.out] at DM
  have DM := hid DM
  have HB1 := hid hB
  clear A A1 hb1 hB S B1 B2 HB
  go_wp2_with fail
  refine DM.out.mono ?_
  rintro e w2 ⟨r1, qs, r2, rs, rfl, A2, A3, hB2⟩
  have P3 := hid (pos_len A3)
  have vq : V / 2 ^ s / D < Nm.pw 4096 := by
    have := Int.ediv_le_self D vp.out
    have := HP.out
    omega
  have ch := HB1.out.trans (hB2.mono HB1.out.size)
  have K : Hid (∀ sh rest, sh = -(s : Int) → rest = (lost || decide (V / 2 ^ s % D ≠ 0)) → RatioTold V D w' (.returned (.tuple #[.slice r1 (List.length qs) (List.length qs), .int .i64 sh, .bool rest])) w2) := by
    intro sh rest hsh hrest
    subst hsh hrest
    have A2' : Ans w'.heap.size w2 r1 qs (V / 2 ^ s / D) := ⟨A2.1, A2.2.1, A2.2.2.1, A2.2.2.2.1, fun a h => by have := A2.2.2.2.2 a h; have := HB1.out.size; omega⟩
    exact ⟨r1, qs, _, _, _, rfl, A2', ch, by rw [A2.2.2.1]; exact ans_small A2 4096 vq, ⟨by have := HS.out; omega, by have := HS.out; omega⟩, Q.out⟩
  clear A2 A3 vq ch hB2 DM HB1 Q HV HD HP TY HY vp hdd
  cases lost
  · go_wp2_with fail
    go_ret3
    exact K.out _ _ ls.out (by rw [Bool.false_or]; exact P3.out)
  · go_wp2_with fail
    go_ret3
    exact K.out _ _ ls.out (by simp)

theorem ratio_any (p q : Option Addr) (n cap m cap' : Nat) (zs ys : List Int) (w : World) (ha : Arg w p n cap zs) (hb : Arg w q m cap' ys) (hT : Tab w) (tz : Nm.tsize zs ≤ 4096) (ty : Nm.tsize ys ≤ 4095) (V D : Int) (hV : Nm.val zs = V) (hD : Nm.val ys = D) (hv : 0 < V) (hd : 0 < D) :
    Calls Tryz.prog 203 #[.slice p n cap, .slice q m cap'] w fun e w' => RatioTold V D w e w' := by
  obtain ⟨L, hL, BL, hl, _⟩ := blen_is zs ha.2.2.2.2
  obtain ⟨M, hM, BM, hm, _⟩ := blen_is ys hb.2.2.2.2
  rw [hV] at BL
  rw [hD] at BM
  rcases Nat.lt_or_ge (M + 64) L with h | h
  · exact ratio_down p q n cap m cap' zs ys w ha hb tz (by omega) V D L M (L - (M + 64)) hV hD hv hd hL hM BL BM (by omega) (by omega) (by omega) (by omega) hT
  · exact ratio_up p q n cap m cap' zs ys w ha hb tz (by omega) V D L M (M + 64 - L) hV hD hv hd hL hM BL BM (by omega) (by omega)

set_option maxRecDepth 100000 in
set_option maxHeartbeats 2000000 in
theorem roundRatio_any (neg : Bool) (p q : Option Addr) (n cap m cap' : Nat) (zs ys : List Int) (w : World) (ha : Arg w p n cap zs) (hb : Arg w q m cap' ys) (hT : Tab w) (tz : Nm.tsize zs ≤ 4096) (ty : Nm.tsize ys ≤ 4095) (V D e : Int) (hV : Nm.val zs = V) (hD : Nm.val ys = D) (hd : 0 < D) :
    Calls Tryz.prog 199 #[.bool neg, .slice p n cap, .slice q m cap', .int .i64 e] w fun r w' => ∃ x, r = .returned (.tuple #[.int .u64 (Ie.sg neg x), .int .i64 0]) ∧ Ie.Rnd V D e false x ∧ Below w.heap.size w w' := by
  obtain ⟨L, hL, BL, hl, _⟩ := blen_is zs ha.2.2.2.2
  obtain ⟨M, hM, BM, hm, _⟩ := blen_is ys hb.2.2.2.2
  rw [hV] at BL
  rw [hD] at BM
  have B1 := hid (bitLen_n L p n cap zs w ha hL)
  have B2 := hid (bitLen_n M q m cap' ys w hb hM)
  have v0 : 0 ≤ V := by rw [← hV]; exact (Nm.val_bd zs ha.2.2.2.2).1
  have l1 : decide (262144 < (L : Int)) = false := by simp; omega
  have l2 : decide (262144 < (M : Int)) = false := by simp; omega
  have m0 : 0 < M := (BM.2.2 hd).1
  have l3 : ((M : Int) == 0) = false := by rw [beq_eq_false_iff_ne]; omega
  rcases (show V = 0 ∨ 0 < V by omega) with hv | hv
  · have hL0 : L = 0 := BL.2.1 hv
    subst hL0
    have R := hid (Ie.rnd_zero D e false hd)
    have SG := hid (signed_any neg 0 w (by omega) (by omega))
    subst hv
    clear ha hb hT tz ty hV hD hd hL hM BL BM hl hm v0 m0
    go_enter Tryz.func199, Tryz.ntmps199
    go_wp2_with fail
    refine B1.out.mono ?_
    rintro e' w' ⟨rfl, rfl⟩
    go_wp2_with fail
    refine B2.out.mono ?_
    rintro e' w' ⟨rfl, rfl⟩
    go_wp2_with fail
    refine B2.out.mono ?_
    rintro e' w' ⟨rfl, rfl⟩
    go_wp2_with fail
    refine B1.out.mono ?_
    rintro e' w' ⟨rfl, rfl⟩
    go_wp2_with fail
    refine SG.out.mono ?_
    rintro e' w' ⟨rfl, rfl⟩
    go_wp2_with fail
    go_ret2
    exact ⟨0, rfl, R.out, Below.refl _ _⟩
  · have RA := hid (ratio_any p q n cap m cap' zs ys w ha hb hT tz ty V D hV hD hv hd)
    have WI := hid (fun (x : Int) => Ie.win_ok (n := V) (d := D) (e := e) (x := x) (more := false) L M v0 BL.1 hd (by have := BM.1; omega) (by omega) (by omega))
    have W0 := hid (fun (wx : World) => within_any e wx)
    obtain ⟨we, hwe⟩ : ∃ we, Ie.win e = we := ⟨_, rfl⟩
    have wb := Ie.win_bd e
    rw [hwe] at wb W0 WI
    obtain ⟨wb1, wb2⟩ := wb
    have l0 : 0 < L := (BL.2.2 hv).1
    have l4 : ((L : Int) == 0) = false := by rw [beq_eq_false_iff_ne]; omega
    have HT := hid hT
    clear ha hb hT tz ty hV hD hd hL hM BL BM hl hm v0 m0 hwe l0 hv
    go_enter Tryz.func199, Tryz.ntmps199
    go_wp2_with fail
    refine B1.out.mono ?_
    rintro e' w' ⟨rfl, rfl⟩
    go_wp2_with fail
    refine B2.out.mono ?_
    rintro e' w' ⟨rfl, rfl⟩
    go_wp2_with fail
    refine B2.out.mono ?_
    rintro e' w' ⟨rfl, rfl⟩
    go_wp2_with fail
    refine B1.out.mono ?_
    rintro e' w' ⟨rfl, rfl⟩
    go_wp2_with fail
    refine RA.out.mono ?_
    rintro e' w1 ⟨r, os, Q, sh, rest, rfl, A, hB, to4, ⟨s1, s2⟩, QU⟩
    have lo : os.length ≤ 4096 := by rw [← A.2.2.1]; exact to4
    have NR := hid (nearest_any r _ _ os w1 (A.arg (by omega)) (HT.out.below hB) to4 Q (we - sh) rest A.2.2.2.1 (by omega) (by omega))
    have HB := hid hB
    have QQ := hid QU
    clear A hB to4 QU lo B1 B2 RA HT
    go_wp2_with fail
    refine (W0.out w1).mono ?_
    rintro e' w' ⟨rfl, rfl⟩
    go_wp2_with fail
    refine NR.out.mono ?_
    rintro e' w2 ⟨x, rfl, R, hB⟩
    have bd := R.bd
    have R1 := hid (WI.out x (QQ.out we x R))
    have SG := hid (signed_any neg x w2 bd.1 (by omega))
    have HB2 := hid (HB.out.trans (hB.mono HB.out.size))
    clear R bd hB
    go_wp2_with fail
    refine SG.out.mono ?_
    rintro e' w3 ⟨rfl, rfl⟩
    go_wp2_with fail
    go_ret2
    exact ⟨x, rfl, R1.out, HB2.out⟩
end Go.Proofs.YtjkefcikepnbpaaGreatDoor

namespace Go.Proofs.YtjkefcikepnbpaaGreatDoor
open Go Go.RowKit Go.Deep

theorem ten_pw {j : Nat} (h : j ≤ 20000) : (10 : Int) ^ j < Nm.pw 4096 := by
  have h1 := Nat.pow_le_pow_left (show 10 ≤ 2 ^ 4 by decide) j
  rw [← Nat.pow_mul] at h1
  have e1 : ((10 ^ j : Nat) : Int) = 10 ^ j := by simp
  have e2 : ((2 ^ (4 * j) : Nat) : Int) = 2 ^ (4 * j) := by simp
  have h3 := two_pw (u := 4 * j) (by omega)
  omega

end Go.Proofs.YtjkefcikepnbpaaGreatDoor
