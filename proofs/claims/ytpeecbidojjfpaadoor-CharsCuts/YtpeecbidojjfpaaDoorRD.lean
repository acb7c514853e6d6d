/-
  Texts put together: QDivOk, IAnsS, IRatio, IRoomA, IFin, IIntgN.
-/
import Derived.Test.YtpeecbidojjfpaaDoorRC
import Derived.Test.YtpeecbidojjfpaaDoorMem
import Derived.Test.YtpeecbidojjfpaaDoorIRoundN
import Derived.Test.YtpeecbidojjfpaaDoorRA
import Derived.Test.YtpeecbidojjfpaaDoorIKinds
import Derived.Test.YtpeecbidojjfpaaDoorFromW
import Derived.Deep.RegionWith
namespace Go.Proofs.YtpeecbidojjfpaaDoor
open Go.RowKit Go.Deep

theorem Ans.up {B B' : Nat} {w : World} {p : Option Addr} {ys : List Int} {n : Int} (h : Ans B w p ys n) (hB : B' ≤ B) : Ans B' w p ys n :=
  ⟨h.1, h.2.1, h.2.2.1, h.2.2.2.1, fun a ha => Nat.le_trans hB (h.2.2.2.2 a ha)⟩

set_option maxRecDepth 100000 in
set_option maxHeartbeats 1000000 in
theorem divMod_one (p q : Option Addr) (n cap m cap' : Nat) (zs ys : List Int) (w : World) (ha : Arg w p n cap zs) (hb : Arg w q m cap' ys) (tz : Nm.tsize zs ≤ 4096) (ty : Nm.tsize ys = 1) :
    Calls Tryd.prog 59 #[.slice p n cap, .slice q m cap'] w fun e w' => Splits (Nm.val zs) (Nm.val ys) w e w' := by
  obtain ⟨b', off', rfl, hbw', HC'⟩ := hb.2.2.2.1.trim.at (by rw [Nm.trim_length]; omega)
  obtain ⟨d, hd, D⟩ : ∃ d, w.cell? ⟨b', off', none⟩ = some (.int .u64 d) ∧ Hid (d = (Nm.trim ys).getD 0 0) := ⟨_, HC'.out 0 (by rw [Nm.trim_length]; omega), rfl⟩
  have hdb := hb.2.2.2.2.trim.at 0
  rw [← D.out] at hdb
  have hdv : Nm.val ys = d := by
    have h1 := Nm.val_trim ys
    have h2 := Nm.trim_length ys
    rw [ty] at h2
    obtain ⟨y, hy⟩ := List.length_eq_one_iff.1 h2
    have h3 := D.out
    rw [hy] at h1 h3
    simp [Nm.val] at h1 h3
    omega
  have hd0 : 0 < d := by
    have := Nm.val_ge_top hb.2.2.2.2 (by omega)
    rw [ty] at this
    simp [Nm.pw] at this
    omega
  obtain ⟨_, hd1⟩ := hdb
  obtain ⟨N, HN⟩ : ∃ N, Hid (Nm.tsize zs = N) := ⟨_, rfl⟩
  obtain ⟨M, HM⟩ : ∃ M, Hid (Nm.tsize ys = M) := ⟨_, rfl⟩
  have h1' : (N : Int) ≤ 4096 := by have := HN.out; omega
  have h2' : (M : Int) ≤ 4096 := by have := HM.out; omega
  have h3' : ((M : Int) == 0) = false := by have := HM.out; simp; omega
  have h5' : ((M : Int) == 1) = true := by have := HM.out; simp; omega
  have h6' : (0 : Int) < (M : Int) := by have := HM.out; omega
  have h2 : (N : Int) ≤ (cap : Int) := by have := ha.tl; have := ha.2.1; have := HN.out; omega
  have h4 : (M : Int) ≤ (cap' : Int) := by have := hb.tl; have := hb.2.1; have := HM.out; omega
  have CU := ha.cut
  rw [HN.out] at CU
  have HCU := hid CU
  have HT : Hid (Nm.tsize (Nm.trim zs) ≤ 4096) := by show _ ≤ _; rw [Nm.trim_trim]; exact tz
  have HA := hid ha
  have HB := hid hb
  have HV := hid hdv
  clear ha hb ty tz CU hbw' HC' D hdv
  go_enter Tryd.func59, Tryd.ntmps59
  go_wp2_with fail
  refine (limbs_is p n cap zs N _ HA.out HN.out).mono ?_
  rintro e w' ⟨rfl, rfl⟩
  go_wp2_with fail
  refine (limbs_is _ m cap' ys M _ HB.out HM.out).mono ?_
  rintro e w' ⟨rfl, rfl⟩
  go_wp2_with fail
  go_quiet ((go_at_call 28; first | exact Calls.quiet_of_same (limbs_is p n cap zs N _ (HA.out.drew _) HN.out) | exact Calls.quiet_of_same (limbs_is _ m cap' ys M _ (HB.out.drew _) HM.out)))
  have hd2 : (w'.drewN nq).cell? ⟨b', off', none⟩ = some (.int .u64 d) := hd
  have HCU2 := hid (HCU.out.drew nq)
  have HB0 : Hid (Below w'.heap.size w' (w'.drewN nq)) := below_drewN (Below.refl _ _) nq
  clear hd HCU
  generalize w'.drewN nq = wq at *
  go_wp2_with fail
  refine (divSmall_ok p N cap (Nm.trim zs) d _ HCU2.out HT.out hd0 hd1).mono ?_
  rintro e w2 ⟨r, os, rest, rfl, A1, ⟨s0, s1⟩, E, hb2⟩
  have HA1 := hid A1
  have HB2 := hid hb2
  have HE := hid (div_is s0 s1 E.out)
  have s2 : rest < 18446744073709551616 := by omega
  clear A1 hb2 E hd2
  go_wp2_with fail
  refine (fromUint_any rest _ s0 s2).mono ?_
  rintro e w3 ⟨r2, os2, rfl, A2, hb3⟩
  have F : Hid (Splits (Nm.val zs) (Nm.val ys) w' (.returned (.tuple #[.slice r (List.length os) (List.length os), .slice r2 (List.length os2) (List.length os2), .int .i64 0])) w3) := by
    have e1 := HE.out
    rw [Nm.val_trim, ← HV.out] at e1
    have z1 := HB0.out.size
    have z2 := HB2.out.size
    refine ⟨r, os, r2, os2, rfl, ?_, ?_, (chain (chain HB0.out HB2.out (Nat.le_refl _)) hb3 (Nat.le_refl _))⟩
    · rw [e1.1]; exact (HA1.out.below hb3 (Nat.le_refl _)).up z1
    · rw [e1.2]; exact A2.up (Nat.le_trans z1 z2)
  clear A2 hb3
  go_wp2_with fail
  go_ret3
  exact F.out

set_option maxRecDepth 100000 in
set_option maxHeartbeats 1000000 in
theorem divMod_less (p q : Option Addr) (n cap m cap' : Nat) (zs ys : List Int) (w : World) (ha : Arg w p n cap zs) (hb : Arg w q m cap' ys) (tz : Nm.tsize zs ≤ 4096) (ty : Nm.tsize ys ≤ 4096) (ty2 : 2 ≤ Nm.tsize ys) (hlt : Nm.val zs < Nm.val ys) :
    Calls Tryd.prog 59 #[.slice p n cap, .slice q m cap'] w fun e w' => Splits (Nm.val zs) (Nm.val ys) w e w' := by
  obtain ⟨N, HN⟩ : ∃ N, Hid (Nm.tsize zs = N) := ⟨_, rfl⟩
  obtain ⟨M, HM⟩ : ∃ M, Hid (Nm.tsize ys = M) := ⟨_, rfl⟩
  have h1' : (N : Int) ≤ 4096 := by have := HN.out; omega
  have h2' : (M : Int) ≤ 4096 := by have := HM.out; omega
  have h3' : ((M : Int) == 0) = false := by have := HM.out; simp; omega
  have h5' : ((M : Int) == 1) = false := by have := HM.out; rw [beq_eq_false_iff_ne]; omega
  have h2 : (N : Int) ≤ (cap : Int) := by have := ha.tl; have := ha.2.1; have := HN.out; omega
  have h4 : (M : Int) ≤ (cap' : Int) := by have := hb.tl; have := hb.2.1; have := HM.out; omega
  have CU := ha.cut
  rw [HN.out] at CU
  have CU' := hb.cut
  rw [HM.out] at CU'
  have HCU := hid CU
  have HCU' := hid CU'
  have HC : Hid (cmpI (Nm.val (Nm.trim zs)) (Nm.val (Nm.trim ys)) = -1) := by show _ = _; rw [Nm.val_trim, Nm.val_trim]; exact cmpI_lt hlt
  have HD : Hid (Nm.val zs / Nm.val ys = 0 ∧ Nm.val zs % Nm.val ys = Nm.val (Nm.trim zs)) := by
    have := (Nm.val_bd zs ha.2.2.2.2).1
    rw [Nm.val_trim]
    exact div_is this hlt (by omega)
  have HA := hid ha
  have HB := hid hb
  clear ha hb ty tz CU CU' ty2 hlt
  go_enter Tryd.func59, Tryd.ntmps59
  go_wp2_with fail
  refine (limbs_is p n cap zs N _ HA.out HN.out).mono ?_
  rintro e w' ⟨rfl, rfl⟩
  go_wp2_with fail
  refine (limbs_is _ m cap' ys M _ HB.out HM.out).mono ?_
  rintro e w' ⟨rfl, rfl⟩
  go_wp2_with fail
  go_quiet ((go_at_call 28; first | exact Calls.quiet_of_same (limbs_is p n cap zs N _ (HA.out.drew _) HN.out) | exact Calls.quiet_of_same (limbs_is _ m cap' ys M _ (HB.out.drew _) HM.out)))
  have HCU2 := hid (HCU.out.drew nq)
  have HCU2' := hid (HCU'.out.drew nq)
  have HB0 : Hid (Below w'.heap.size w' (w'.drewN nq)) := below_drewN (Below.refl _ _) nq
  clear HCU HCU'
  generalize w'.drewN nq = wq at *
  go_wp2_with fail
  refine (cmp_is (-1) p q N cap M cap' (Nm.trim zs) (Nm.trim ys) _ HCU2.out HCU2'.out HC.out).mono ?_
  rintro e w2 ⟨rfl, hb2⟩
  have HB2 := hid (chain HB0.out hb2 (Nat.le_refl _))
  have HCU3 := hid (HCU2.out.below hb2 (Nat.le_refl _))
  clear hb2
  go_wp2_with fail
  refine (trim_any p N cap (Nm.trim zs) _ HCU3.out).mono ?_
  rintro e w3 ⟨r, os, rfl, -, A1, hb3⟩
  have F : Hid (Splits (Nm.val zs) (Nm.val ys) w' (.returned (.tuple #[.slice none 0 0, .slice r (List.length os) (List.length os), .int .i64 0])) w3) := by
    have z1 := HB2.out.size
    refine ⟨none, [], r, os, rfl, ?_, ?_, chain HB2.out hb3 (Nat.le_refl _)⟩
    · rw [HD.out.1]; exact ans_none _ _ _ (fun a h => by cases h)
    · rw [HD.out.2]; exact A1.up z1
  clear A1 hb3
  go_wp2_with fail
  go_ret3
  exact F.out

/-- The quotient of a by b has so many limbs. -/
theorem first_room {zs ys : List Int} (hz : Nm.Limbs zs) (hy : Nm.Limbs ys) {N M K : Nat} (hN : Nm.tsize zs = N) (hM : Nm.tsize ys = M) (hM0 : 0 < M) (hK : N + 1 = K + M) : Nm.val zs < Nm.pw K * Nm.val ys := by
  have h1 := Nm.val_lt_tsize hz
  have h2 := Nm.val_ge_top hy (by omega)
  rw [hN] at h1
  rw [hM] at h2
  have h3 : Nm.pw K * Nm.pw (M - 1) ≤ Nm.pw K * Nm.val ys := Int.mul_le_mul_of_nonneg_left h2 (by have := Nm.pw_pos K; omega)
  rw [← Nm.pw_add, show K + (M - 1) = N by omega] at h3
  omega

set_option maxRecDepth 100000 in
set_option maxHeartbeats 1000000 in
theorem divMod_long (p q : Option Addr) (n cap m cap' : Nat) (zs ys : List Int) (w : World) (ha : Arg w p n cap zs) (hb : Arg w q m cap' ys) (tz : Nm.tsize zs ≤ 4096) (ty : Nm.tsize ys ≤ 4096) (ty2 : 2 ≤ Nm.tsize ys) (hge : Nm.val ys ≤ Nm.val zs) :
    Calls Tryd.prog 59 #[.slice p n cap, .slice q m cap'] w fun e w' => Splits (Nm.val zs) (Nm.val ys) w e w' := by
  obtain ⟨N, HN⟩ : ∃ N, Hid (Nm.tsize zs = N) := ⟨_, rfl⟩
  obtain ⟨M, HM⟩ : ∃ M, Hid (Nm.tsize ys = M) := ⟨_, rfl⟩
  have hNM : M ≤ N := by
    rcases Nat.lt_or_ge N M with h | h
    · have := val_lt_of_tsize ha.2.2.2.2 hb.2.2.2.2 (by rw [HN.out, HM.out]; exact h)
      omega
    · exact h
  obtain ⟨K, HK⟩ : ∃ K, Hid (N + 1 = K + M) := ⟨N + 1 - M, by show _ = _; omega⟩
  have RM := hid (first_room ha.2.2.2.2 hb.2.2.2.2 HN.out HM.out (by have := HM.out; omega) HK.out)
  have h1' : (N : Int) ≤ 4096 := by have := HN.out; omega
  have h2' : (M : Int) ≤ 4096 := by have := HM.out; omega
  have h3' : ((M : Int) == 0) = false := by have := HM.out; simp; omega
  have h5' : ((M : Int) == 1) = false := by have := HM.out; rw [beq_eq_false_iff_ne]; omega
  have h2 : (N : Int) ≤ (cap : Int) := by have := ha.tl; have := ha.2.1; have := HN.out; omega
  have h4 : (M : Int) ≤ (cap' : Int) := by have := hb.tl; have := hb.2.1; have := HM.out; omega
  have CU := ha.cut
  rw [HN.out] at CU
  have CU' := hb.cut
  rw [HM.out] at CU'
  have HCU := hid CU
  have HCU' := hid CU'
  obtain ⟨c, hc0, HC⟩ : ∃ c : Int, 0 ≤ c ∧ Hid (cmpI (Nm.val (Nm.trim zs)) (Nm.val (Nm.trim ys)) = c) := by
    rw [Nm.val_trim, Nm.val_trim]
    rcases (show Nm.val zs = Nm.val ys ∨ Nm.val ys < Nm.val zs by omega) with h | h
    · exact ⟨0, by omega, cmpI_eq h⟩
    · exact ⟨1, by omega, cmpI_gt h⟩
  have HA := hid ha
  have HB := hid hb
  have hM2 : 2 ≤ M := by have := HM.out; omega
  clear ha hb ty tz CU CU' ty2 hge
  go_enter Tryd.func59, Tryd.ntmps59
  go_wp2_with fail
  refine (limbs_is p n cap zs N _ HA.out HN.out).mono ?_
  rintro e w' ⟨rfl, rfl⟩
  go_wp2_with fail
  refine (limbs_is _ m cap' ys M _ HB.out HM.out).mono ?_
  rintro e w' ⟨rfl, rfl⟩
  go_wp2_with fail
  go_quiet ((go_at_call 28; first | exact Calls.quiet_of_same (limbs_is p n cap zs N _ (HA.out.drew _) HN.out) | exact Calls.quiet_of_same (limbs_is _ m cap' ys M _ (HB.out.drew _) HM.out)))
  have HCU2 := hid (HCU.out.drew nq)
  have HCU2' := hid (HCU'.out.drew nq)
  have HB0 : Hid (Below w'.heap.size w' (w'.drewN nq)) := below_drewN (Below.refl _ _) nq
  clear HCU HCU'
  generalize w'.drewN nq = wq at *
  go_wp2_with fail
  refine (cmp_is c p q N cap M cap' (Nm.trim zs) (Nm.trim ys) _ HCU2.out HCU2'.out HC.out).mono ?_
  rintro e w2 ⟨rfl, hb2⟩
  have HB2 := hid (chain HB0.out hb2 (Nat.le_refl _))
  have HCU3 := hid (HCU2.out.below hb2 (Nat.le_refl _))
  have HCU3' := hid (HCU2'.out.below hb2 (Nat.le_refl _))
  clear hb2 HCU2 HCU2' HB0
  have hmk := make64 (N + 1) (by omega) w2
  have em : ((N + 1 : Nat) : Int) = (N : Int) + 1 := by omega
  rw [em] at hmk
  clear em
  have hb0 : Below w2.heap.size w2 (w2.alloc (.cells (madeCells #[.int .u64 0] (N + 1)) 22)) := (Below.refl _ _).alloc (Nat.le_refl _) _
  have ho : Own (w2.alloc (.cells (madeCells #[.int .u64 0] (N + 1)) 22)) w2.heap.size (List.replicate (N + 1) 0) := by
    rw [made_zero]; exact Own.alloc w2 _
  obtain ⟨w3, hcp, ho1, hb1, hz1⟩ := copy64 w2.heap.size (N + 1) (List.replicate (N + 1) 0) p N cap (Nm.trim zs) 3 _ (by simp) (by rw [Nm.trim_length, HN.out]) (by omega) ho (HCU3.out.2.2.2.1.below hb0 (Nat.le_refl _))
  have e1 : List.drop N (List.replicate (N + 1) (0 : Int)) = [0] := by simp
  rw [e1] at ho1
  have HO := hid ho1
  have HB3 := hid (hb0.trans hb1)
  have HW3 : Hid (w2.heap.size < w3.heap.size) := ho1.lt
  clear e1 ho1 hb1 ho hb0 hz1
  have DV := divide_any w2.heap.size (N + 1) K (M - 2) M cap' (Nm.trim zs ++ [0]) q (Nm.trim ys) w3 HO.out (by simp [Nm.trim_length, HN.out]) (by omega) (Nm.Limbs.append HCU3.out.2.2.2.2 (limb_one (by omega))) (by omega) HK.out (by rw [Nm.trim_length, HM.out]) (by omega) (by have := HCU3'.out.2.2.1; omega)
    (HCU3'.out.2.2.2.1.below HB3.out (Nat.le_refl _)) HCU3'.out.2.2.2.2 (HCU3'.out.2.2.2.1.lt (by rw [Nm.trim_length, HM.out]; omega)) (by
      have := Nm.tsize_top (Nm.trim ys) (by rw [Nm.trim_trim, HM.out]; omega)
      rw [Nm.trim_trim, HM.out] at this
      rw [show M - 2 + 1 = M - 1 by omega]
      exact this) (by
      have e : Nm.val (Nm.trim zs ++ [0]) = Nm.val zs := by rw [Nm.val_append, Nm.val_trim]; simp [Nm.val]
      rw [e, Nm.val_trim]
      exact RM.out)
  have HDV := hid DV
  clear DV
  go_wp2_with fail
  refine HDV.out.mono ?_
  rintro e w4 ⟨os, rs, rfl, I⟩
  have bz := (Nm.val_bd rs I.out.lim).1
  have HE : Hid (Nm.val zs / Nm.val ys = Nm.val os ∧ Nm.val zs % Nm.val ys = Nm.val rs) := by
    have h1 := I.out.eq
    have h2 := I.out.lt
    have e : Nm.val (Nm.trim zs ++ [0]) = Nm.val zs := by rw [Nm.val_append, Nm.val_trim]; simp [Nm.val]
    rw [e, Nm.val_trim] at h1
    rw [Nm.val_trim] at h2
    simp only [Nm.pw, Int.one_mul] at h2
    exact div_is bz h2 h1
  have HB4 := hid ((HB2.out.trans (HB3.out.mono HB2.out.size)).trans (I.out.low.mono HB2.out.size))
  have hK64 : K ≤ 17592186044416 := by have := HK.out; omega
  have A1 : Hid (Arg w4 (some ⟨w3.heap.size, 0, none⟩) K K os) := ⟨I.out.len2, Nat.le_refl _, hK64, I.out.own2.lies, I.out.lim2⟩
  have HZ := hid HB2.out.size
  clear bz hmk hcp HDV
  go_wp2_with fail
  refine (trim_any _ K K os _ A1.out).mono ?_
  rintro e w5 ⟨r, os', rfl, -, A2, hb5⟩
  have HB5 := hid (chain HB4.out hb5 (Nat.le_refl _))
  have A3 : Hid (Arg w5 (some ⟨w2.heap.size, 0, none⟩) (N + 1) (N + 1) rs) := ⟨I.out.len, Nat.le_refl _, by omega, (I.out.own.below hb5 I.out.own.lt).lies, I.out.lim⟩
  have HA2 := hid (A2.up (B' := w'.heap.size) (HB4.out.size))
  clear A2 hb5
  go_wp2_with fail
  refine (trim_any _ (N + 1) (N + 1) rs _ A3.out).mono ?_
  rintro e w6 ⟨r2, os2, rfl, -, A4, hb6⟩
  have F : Hid (Splits (Nm.val zs) (Nm.val ys) w' (.returned (.tuple #[.slice r (List.length os') (List.length os'), .slice r2 (List.length os2) (List.length os2), .int .i64 0])) w6) := by
    refine ⟨r, os', r2, os2, rfl, ?_, ?_, chain HB5.out hb6 (Nat.le_refl _)⟩
    · rw [HE.out.1]; exact HA2.out.below hb6 (Nat.le_refl _)
    · rw [HE.out.2]; exact A4.up HB5.out.size
  clear A4 hb6
  go_wp2_with fail
  go_ret3
  exact F.out

/-- DivMod of two naturals that are not too big, the second not zero. -/
theorem divMod_ok (p q : Option Addr) (n cap m cap' : Nat) (zs ys : List Int) (w : World) (ha : Arg w p n cap zs) (hb : Arg w q m cap' ys) (tz : Nm.tsize zs ≤ 4096) (ty : Nm.tsize ys ≤ 4096) (hy : 0 < Nm.tsize ys) :
    Calls Tryd.prog 59 #[.slice p n cap, .slice q m cap'] w fun e w' => Splits (Nm.val zs) (Nm.val ys) w e w' := by
  by_cases h1 : Nm.tsize ys = 1
  · exact divMod_one p q n cap m cap' zs ys w ha hb tz h1
  by_cases h2 : Nm.val zs < Nm.val ys
  · exact divMod_less p q n cap m cap' zs ys w ha hb tz ty (by omega) h2
  · exact divMod_long p q n cap m cap' zs ys w ha hb tz ty (by omega) (by omega)
end Go.Proofs.YtpeecbidojjfpaaDoor

namespace Go.Proofs.YtpeecbidojjfpaaDoor
open Go Go.RowKit Go.Deep

theorem ans_small {B : Nat} {w : World} {r : Option Addr} {os : List Int} {v : Int} (h : Ans B w r os v) (k : Nat) (hv : v < Nm.pw k) : os.length ≤ k := by
  have := (Nm.tsize_le_iff h.2.1 k).2 (by rw [h.2.2.2.1]; exact hv)
  rw [h.2.2.1] at this
  exact this
end Go.Proofs.YtpeecbidojjfpaaDoor

/-
  ieee: ratio (where the divisor leaves room), Round, RoundRatio.
-/
namespace Go.Proofs.YtpeecbidojjfpaaDoor
open Go Go.RowKit Go.Deep

namespace Ie
/-- What is told of a fraction: the whole part of it moved, how far, and whether there is a rest. -/
def Quo (n d Q sh : Int) (rest : Bool) : Prop := ∀ e x, Rnd Q 1 (e - sh) rest x → Rnd n d e false x

theorem quo_up (V D : Int) (L M s : Nat) (hv : 2 ^ (L - 1) ≤ V) (hl : 1 ≤ L) (d0 : 0 < D) (hd : D < 2 ^ M) (hs : L + s = M + 64) : Quo V D (V * 2 ^ s / D) s (decide (V * 2 ^ s % D ≠ 0)) := by
  intro e x h
  refine Rnd.num s (rnd_floor (V * 2 ^ s) D (e - s) x d0 ?_ h)
  rw [Int.le_ediv_iff_mul_le d0]
  have g1 : (2 : Int) ^ (L - 1 + s) ≤ V * 2 ^ s := by rw [Nm.two_add]; exact Int.mul_le_mul_of_nonneg_right hv (by have := Nm.two_pos s; omega)
  rw [show L - 1 + s = 63 + M by omega, Nm.two_add] at g1
  have e63 : (2 : Int) ^ 63 = 9223372036854775808 := by decide
  rw [e63] at g1
  have := Nm.two_pos M
  omega

theorem quo_down (V D : Int) (L M s : Nat) (v0 : 0 < V) (hv : 2 ^ (L - 1) ≤ V) (hl : 1 ≤ L) (d0 : 0 < D) (hd : D < 2 ^ M) (hs : L = M + 64 + s) : Quo V D (V / 2 ^ s / D) (-(s : Int)) (decide (V % 2 ^ s ≠ 0) || decide (V / 2 ^ s % D ≠ 0)) := by
  have hp := Nm.two_pos s
  have hD : 0 < D * 2 ^ s := Int.mul_pos d0 hp
  have a1 := Int.mul_ediv_add_emod V (2 ^ s)
  have a2 := Int.emod_nonneg V (show (2 : Int) ^ s ≠ 0 by omega)
  have a3 := Int.emod_lt_of_pos V hp
  have b1 := Int.mul_ediv_add_emod (V / 2 ^ s) D
  have b2 := Int.emod_nonneg (V / 2 ^ s) (show D ≠ 0 by omega)
  have b3 := Int.emod_lt_of_pos (V / 2 ^ s) d0
  generalize V % 2 ^ s = r1 at *
  generalize V / 2 ^ s = q1 at *
  generalize q1 % D = r2 at *
  generalize q1 / D = q at *
  have c0 : 0 ≤ 2 ^ s * r2 := Int.mul_nonneg (by omega) b2
  have c1 : 2 ^ s * (r2 + 1) ≤ 2 ^ s * D := Int.mul_le_mul_of_nonneg_left (by omega) (by omega)
  rw [Int.mul_add, Int.mul_one, Int.mul_comm (2 ^ s) D] at c1
  have key : q * (D * 2 ^ s) + (2 ^ s * r2 + r1) = V := by
    rw [← a1, ← b1, Int.mul_add, ← Int.add_assoc]
    congr 2
    ac_rfl
  obtain ⟨k1, k2⟩ := div_is (A := V) (B := D * 2 ^ s) (q := q) (r := 2 ^ s * r2 + r1) (by omega) (by omega) key
  intro e x h
  refine Rnd.den s (rnd_floor V (D * 2 ^ s) (e + s) x hD ?_ ?_)
  · rw [Int.le_ediv_iff_mul_le hD]
    rw [show L - 1 = 63 + (M + s) by omega, Nm.two_add, Nm.two_add] at hv
    have e63 : (2 : Int) ^ 63 = 9223372036854775808 := by decide
    have g : D * 2 ^ s ≤ 2 ^ M * 2 ^ s := Int.mul_le_mul_of_nonneg_right (by omega) (by omega)
    rw [e63] at hv
    omega
  · rw [k1, k2]
    have e1 : decide (2 ^ s * r2 + r1 ≠ 0) = (decide (r1 ≠ 0) || decide (r2 ≠ 0)) := by
      rw [Bool.eq_iff_iff, Bool.or_eq_true, decide_eq_true_iff, decide_eq_true_iff, decide_eq_true_iff]
      rcases (show r2 = 0 ∨ 0 < r2 by omega) with h0 | h0
      · subst h0
        rw [Int.mul_zero]
        omega
      · have := Int.mul_pos hp h0
        omega
    rw [e1]
    rw [show e - -(s : Int) = e + s by omega] at h
    exact h
end Ie

/-- What ratio tells. -/
def RatioTold (V D : Int) (w : World) (e : Ending) (w' : World) : Prop :=
  ∃ r os Q sh rest, e = .returned (.tuple #[.slice r (List.length os) (List.length os), .int .i64 sh, .bool rest]) ∧ Ans w.heap.size w' r os Q ∧ Below w.heap.size w w' ∧ Nm.tsize os ≤ 4096 ∧ (-262144 ≤ sh ∧ sh ≤ 262208) ∧ Ie.Quo V D Q sh rest

theorem pos_len {B : Nat} {w : World} {r : Option Addr} {os : List Int} {v : Int} (h : Ans B w r os v) : decide (0 < os.length) = decide (v ≠ 0) := by
  have h1 := Nm.tsize_zero_iff h.2.1
  rw [h.2.2.1, h.2.2.2.1] at h1
  rw [decide_eq_decide]
  omega

set_option maxRecDepth 100000 in
set_option maxHeartbeats 2000000 in
theorem ratio_up (p q : Option Addr) (n cap m cap' : Nat) (zs ys : List Int) (w : World) (ha : Arg w p n cap zs) (hb : Arg w q m cap' ys) (tz : Nm.tsize zs ≤ 4096) (ty : Nm.tsize ys ≤ 4096) (V D : Int) (L M s : Nat) (hV : Nm.val zs = V) (hD : Nm.val ys = D) (hv : 0 < V) (hd : 0 < D)
    (hL : blen zs = (L : Int)) (hM : blen ys = (M : Int)) (BL : Nm.BLen V L) (BM : Nm.BLen D M) (hM2 : M + 64 ≤ 262144) (hs : L + s = M + 64) :
    Calls Tryd.prog 65 #[.slice p n cap, .slice q m cap'] w fun e w' => RatioTold V D w e w' := by
  have B1 := hid (bitLen_n L p n cap zs w ha hL)
  have B2 := hid (bitLen_n M q m cap' ys w hb hM)
  have hpw : V * 2 ^ s < Nm.pw 4096 := by
    have g1 : V * 2 ^ s < 2 ^ (L + s) := by rw [Nm.two_add]; exact Int.mul_lt_mul_of_pos_right BL.1 (Nm.two_pos s)
    have g2 := Nm.two_mono (show L + s ≤ 64 * 4096 by omega)
    rw [Nm.pw_two]
    omega
  have S := hid (fun (kk : Int) (hkk : kk = (s : Int)) => shl_any p n cap zs kk s w ha tz hkk (by rw [hV]; exact hpw))
  have Q := hid (Ie.quo_up V D L M s (BL.2.2 hv).2 (BL.2.2 hv).1 hd BM.1 hs)
  have HV := hid hV
  have HD := hid hD
  have HP := hid hpw
  have HB := hid hb
  have TY := hid ty
  have v1 : 0 < Nm.tsize ys := by
    rcases Nat.eq_zero_or_pos (Nm.tsize ys) with h | h
    · have := (Nm.tsize_zero_iff hb.2.2.2.2).1 h; omega
    · exact h
  have HY := hid v1
  have l1 : decide (262144 < (M : Int) + 64) = false := by simp; omega
  have l2 : decide ((M : Int) + 64 - (L : Int) < 0) = false := by simp; omega
  have l3 : (L : Int) ≤ 300000 := by omega
  have l4 : (M : Int) ≤ 300000 := by omega
  have ls := hid (show (M : Int) + 64 - (L : Int) = (s : Int) by omega)
  have HS := hid (show (s : Int) ≤ 262208 by omega)
  have vp := hid (show 0 ≤ V * 2 ^ s from Int.mul_nonneg (by omega) (by have := Nm.two_pos s; omega))
  have hdd := hid hd
  clear ha hb tz ty hV hD hv hd hL hM BL BM hM2 hs hpw v1
  go_enter Tryd.func65, Tryd.ntmps65
  go_wp2_with fail
  refine B2.out.mono ?_
  rintro e w' ⟨rfl, rfl⟩
  go_wp2_with fail
  refine B1.out.mono ?_
  rintro e w' ⟨rfl, rfl⟩
  go_wp2_with fail
  refine (S.out _ ls.out).mono ?_
  rintro e w1 ⟨r, os, rfl, A, hB⟩
  rw [HV.out] at A
  have A1 := ans_small A 4096 HP.out
  have hb1 := HB.out.below hB (Nat.le_refl _)
  have DM := divMod_ok r q _ _ m cap' os ys w1 (A.arg (by omega)) hb1 (by rw [A.2.2.1]; exact A1) TY.out HY.out
  rw [A.2.2.2.1, HD.out] at DM
  have DM := hid DM
  have HB1 := hid hB
  clear A A1 hb1 hB S B1 B2 HB
  go_wp2_with fail
  refine DM.out.mono ?_
  rintro e w2 ⟨r1, qs, r2, rs, rfl, A2, A3, hB2⟩
  have P3 := hid (pos_len A3)
  have vq : V * 2 ^ s / D < Nm.pw 4096 := by
    have := Int.ediv_le_self D vp.out
    have := HP.out
    omega
  have ch := HB1.out.trans (hB2.mono HB1.out.size)
  have K : Hid (∀ sh rest, sh = (s : Int) → rest = decide (V * 2 ^ s % D ≠ 0) → RatioTold V D w' (.returned (.tuple #[.slice r1 (List.length qs) (List.length qs), .int .i64 sh, .bool rest])) w2) := by
    intro sh rest hsh hrest
    subst hsh hrest
    have A2' : Ans w'.heap.size w2 r1 qs (V * 2 ^ s / D) := ⟨A2.1, A2.2.1, A2.2.2.1, A2.2.2.2.1, fun a h => by have := A2.2.2.2.2 a h; have := HB1.out.size; omega⟩
    exact ⟨r1, qs, _, _, _, rfl, A2', ch, by rw [A2.2.2.1]; exact ans_small A2 4096 vq, ⟨by have := HS.out; omega, by have := HS.out; omega⟩, Q.out⟩
  clear A2 A3 vq ch hB2 DM HB1 Q HV HD HP TY HY vp hdd
  go_wp2_with fail
  go_ret3
  exact K.out _ _ ls.out P3.out
set_option maxRecDepth 100000 in
set_option maxHeartbeats 2000000 in
theorem ratio_down (p q : Option Addr) (n cap m cap' : Nat) (zs ys : List Int) (w : World) (ha : Arg w p n cap zs) (hb : Arg w q m cap' ys) (tz : Nm.tsize zs ≤ 4096) (ty : Nm.tsize ys ≤ 4096) (V D : Int) (L M s : Nat) (hV : Nm.val zs = V) (hD : Nm.val ys = D) (hv : 0 < V) (hd : 0 < D)
    (hL : blen zs = (L : Int)) (hM : blen ys = (M : Int)) (BL : Nm.BLen V L) (BM : Nm.BLen D M) (hM2 : M + 64 ≤ 262144) (hL2 : L ≤ 262144) (hs : L = M + 64 + s) (hs0 : 0 < s) (hT : Tab w) :
    Calls Tryd.prog 65 #[.slice p n cap, .slice q m cap'] w fun e w' => RatioTold V D w e w' := by
  have B1 := hid (bitLen_n L p n cap zs w ha hL)
  have B2 := hid (bitLen_n M q m cap' ys w hb hM)
  have hp := Nm.two_pos s
  have hpw : V / 2 ^ s < Nm.pw 4096 := by
    have g1 := Int.ediv_le_self (2 ^ s) (show 0 ≤ V by omega)
    have g2 := Nm.two_mono (show L ≤ 64 * 4096 by omega)
    have := BL.1
    rw [Nm.pw_two]
    omega
  have S := hid (fun (kk : Int) (hkk : kk = (s : Int)) => shr_any p n cap zs kk s w ha hT tz hkk)
  have Q := hid (Ie.quo_down V D L M s hv (BL.2.2 hv).2 (BL.2.2 hv).1 hd BM.1 hs)
  have HV := hid hV
  have HD := hid hD
  have HP := hid hpw
  have HB := hid hb
  have TY := hid ty
  have v1 : 0 < Nm.tsize ys := by
    rcases Nat.eq_zero_or_pos (Nm.tsize ys) with h | h
    · have := (Nm.tsize_zero_iff hb.2.2.2.2).1 h; omega
    · exact h
  have HY := hid v1
  have l1 : decide (262144 < (M : Int) + 64) = false := by simp; omega
  have l2 : (M : Int) + 64 - (L : Int) < 0 := by omega
  have l3 : (L : Int) ≤ 300000 := by omega
  have l4 : (M : Int) ≤ 300000 := by omega
  have ls := hid (show (M : Int) + 64 - (L : Int) = -(s : Int) by omega)
  have HS := hid (show (s : Int) ≤ 262144 by omega)
  have vp := hid (show 0 ≤ V / 2 ^ s from Int.ediv_nonneg (by omega) (by omega))
  obtain ⟨lost, hlost⟩ : ∃ lost, decide (V % 2 ^ s ≠ 0) = lost := ⟨_, rfl⟩
  rw [hlost] at Q
  have HLO := hid hlost
  have hdd := hid hd
  clear ha hb tz ty hV hD hv hd hL hM BL BM hM2 hs hs0 hpw v1 hT hL2 hp hlost
  go_enter Tryd.func65, Tryd.ntmps65
  go_wp2_with fail
  refine B2.out.mono ?_
  rintro e w' ⟨rfl, rfl⟩
  go_wp2_with fail
  refine B1.out.mono ?_
  rintro e w' ⟨rfl, rfl⟩
  go_wp2_with fail
  refine (S.out _ (by have := ls.out; omega)).mono ?_
  rintro e w1 ⟨r, os, rfl, A, hB⟩
  rw [HV.out] at A ⊢
  rw [HLO.out]
  have A1 := ans_small A 4096 HP.out
  have hb1 := HB.out.below hB (Nat.le_refl _)
  have DM := divMod_ok r q _ _ m cap' os ys w1 (A.arg (by omega)) hb1 (by rw [A.2.2.1]; exact A1) TY.out HY.out
  rw [A.2.2.2.1, HD.out] at DM
  have DM := hid DM
  have HB1 := hid hB
  clear A A1 hb1 hB S B1 B2 HB
  go_wp2_with fail
  refine DM.out.mono ?_
  rintro e w2 ⟨r1, qs, r2, rs, rfl, A2, A3, hB2⟩
  have P3 := hid (pos_len A3)
  have vq : V / 2 ^ s / D < Nm.pw 4096 := by
    have := Int.ediv_le_self D vp.out
    have := HP.out
    omega
  have ch := HB1.out.trans (hB2.mono HB1.out.size)
  have K : Hid (∀ sh rest, sh = -(s : Int) → rest = (lost || decide (V / 2 ^ s % D ≠ 0)) → RatioTold V D w' (.returned (.tuple #[.slice r1 (List.length qs) (List.length qs), .int .i64 sh, .bool rest])) w2) := by
    intro sh rest hsh hrest
    subst hsh hrest
    have A2' : Ans w'.heap.size w2 r1 qs (V / 2 ^ s / D) := ⟨A2.1, A2.2.1, A2.2.2.1, A2.2.2.2.1, fun a h => by have := A2.2.2.2.2 a h; have := HB1.out.size; omega⟩
    exact ⟨r1, qs, _, _, _, rfl, A2', ch, by rw [A2.2.2.1]; exact ans_small A2 4096 vq, ⟨by have := HS.out; omega, by have := HS.out; omega⟩, Q.out⟩
  clear A2 A3 vq ch hB2 DM HB1 Q HV HD HP TY HY vp hdd
  cases lost
  · go_wp2_with fail
    go_ret3
    exact K.out _ _ ls.out (by rw [Bool.false_or]; exact P3.out)
  · go_wp2_with fail
    go_ret3
    exact K.out _ _ ls.out (by simp)

theorem ratio_any (p q : Option Addr) (n cap m cap' : Nat) (zs ys : List Int) (w : World) (ha : Arg w p n cap zs) (hb : Arg w q m cap' ys) (hT : Tab w) (tz : Nm.tsize zs ≤ 4096) (ty : Nm.tsize ys ≤ 4095) (V D : Int) (hV : Nm.val zs = V) (hD : Nm.val ys = D) (hv : 0 < V) (hd : 0 < D) :
    Calls Tryd.prog 65 #[.slice p n cap, .slice q m cap'] w fun e w' => RatioTold V D w e w' := by
  obtain ⟨L, hL, BL, hl, _⟩ := blen_is zs ha.2.2.2.2
  obtain ⟨M, hM, BM, hm, _⟩ := blen_is ys hb.2.2.2.2
  rw [hV] at BL
  rw [hD] at BM
  rcases Nat.lt_or_ge (M + 64) L with h | h
  · exact ratio_down p q n cap m cap' zs ys w ha hb tz (by omega) V D L M (L - (M + 64)) hV hD hv hd hL hM BL BM (by omega) (by omega) (by omega) (by omega) hT
  · exact ratio_up p q n cap m cap' zs ys w ha hb tz (by omega) V D L M (M + 64 - L) hV hD hv hd hL hM BL BM (by omega) (by omega)

set_option maxRecDepth 100000 in
set_option maxHeartbeats 2000000 in
theorem roundRatio_any (neg : Bool) (p q : Option Addr) (n cap m cap' : Nat) (zs ys : List Int) (w : World) (ha : Arg w p n cap zs) (hb : Arg w q m cap' ys) (hT : Tab w) (tz : Nm.tsize zs ≤ 4096) (ty : Nm.tsize ys ≤ 4095) (V D e : Int) (hV : Nm.val zs = V) (hD : Nm.val ys = D) (hd : 0 < D) :
    Calls Tryd.prog 44 #[.bool neg, .slice p n cap, .slice q m cap', .int .i64 e] w fun r w' => ∃ x, r = .returned (.tuple #[.int .u64 (Ie.sg neg x), .int .i64 0]) ∧ Ie.Rnd V D e false x ∧ Below w.heap.size w w' := by
  obtain ⟨L, hL, BL, hl, _⟩ := blen_is zs ha.2.2.2.2
  obtain ⟨M, hM, BM, hm, _⟩ := blen_is ys hb.2.2.2.2
  rw [hV] at BL
  rw [hD] at BM
  have B1 := hid (bitLen_n L p n cap zs w ha hL)
  have B2 := hid (bitLen_n M q m cap' ys w hb hM)
  have v0 : 0 ≤ V := by rw [← hV]; exact (Nm.val_bd zs ha.2.2.2.2).1
  have l1 : decide (262144 < (L : Int)) = false := by simp; omega
  have l2 : decide (262144 < (M : Int)) = false := by simp; omega
  have m0 : 0 < M := (BM.2.2 hd).1
  have l3 : ((M : Int) == 0) = false := by rw [beq_eq_false_iff_ne]; omega
  rcases (show V = 0 ∨ 0 < V by omega) with hv | hv
  · have hL0 : L = 0 := BL.2.1 hv
    subst hL0
    have R := hid (Ie.rnd_zero D e false hd)
    have SG := hid (signed_any neg 0 w (by omega) (by omega))
    subst hv
    clear ha hb hT tz ty hV hD hd hL hM BL BM hl hm v0 m0
    go_enter Tryd.func44, Tryd.ntmps44
    go_wp2_with fail
    refine B1.out.mono ?_
    rintro e' w' ⟨rfl, rfl⟩
    go_wp2_with fail
    refine B2.out.mono ?_
    rintro e' w' ⟨rfl, rfl⟩
    go_wp2_with fail
    refine B2.out.mono ?_
    rintro e' w' ⟨rfl, rfl⟩
    go_wp2_with fail
    refine B1.out.mono ?_
    rintro e' w' ⟨rfl, rfl⟩
    go_wp2_with fail
    refine SG.out.mono ?_
    rintro e' w' ⟨rfl, rfl⟩
    go_wp2_with fail
    go_ret2
    exact ⟨0, rfl, R.out, Below.refl _ _⟩
  · have RA := hid (ratio_any p q n cap m cap' zs ys w ha hb hT tz ty V D hV hD hv hd)
    have WI := hid (fun (x : Int) => Ie.win_ok (n := V) (d := D) (e := e) (x := x) (more := false) L M v0 BL.1 hd (by have := BM.1; omega) (by omega) (by omega))
    have W0 := hid (fun (wx : World) => within_any e wx)
    obtain ⟨we, hwe⟩ : ∃ we, Ie.win e = we := ⟨_, rfl⟩
    have wb := Ie.win_bd e
    rw [hwe] at wb W0 WI
    obtain ⟨wb1, wb2⟩ := wb
    have l0 : 0 < L := (BL.2.2 hv).1
    have l4 : ((L : Int) == 0) = false := by rw [beq_eq_false_iff_ne]; omega
    have HT := hid hT
    clear ha hb hT tz ty hV hD hd hL hM BL BM hl hm v0 m0 hwe l0 hv
    go_enter Tryd.func44, Tryd.ntmps44
    go_wp2_with fail
    refine B1.out.mono ?_
    rintro e' w' ⟨rfl, rfl⟩
    go_wp2_with fail
    refine B2.out.mono ?_
    rintro e' w' ⟨rfl, rfl⟩
    go_wp2_with fail
    refine B2.out.mono ?_
    rintro e' w' ⟨rfl, rfl⟩
    go_wp2_with fail
    refine B1.out.mono ?_
    rintro e' w' ⟨rfl, rfl⟩
    go_wp2_with fail
    refine RA.out.mono ?_
    rintro e' w1 ⟨r, os, Q, sh, rest, rfl, A, hB, to4, ⟨s1, s2⟩, QU⟩
    have lo : os.length ≤ 4096 := by rw [← A.2.2.1]; exact to4
    have NR := hid (nearest_any r _ _ os w1 (A.arg (by omega)) (HT.out.below hB) to4 Q (we - sh) rest A.2.2.2.1 (by omega) (by omega))
    have HB := hid hB
    have QQ := hid QU
    clear A hB to4 QU lo B1 B2 RA HT
    go_wp2_with fail
    refine (W0.out w1).mono ?_
    rintro e' w' ⟨rfl, rfl⟩
    go_wp2_with fail
    refine NR.out.mono ?_
    rintro e' w2 ⟨x, rfl, R, hB⟩
    have bd := R.bd
    have R1 := hid (WI.out x (QQ.out we x R))
    have SG := hid (signed_any neg x w2 bd.1 (by omega))
    have HB2 := hid (HB.out.trans (hB.mono HB.out.size))
    clear R bd hB
    go_wp2_with fail
    refine SG.out.mono ?_
    rintro e' w3 ⟨rfl, rfl⟩
    go_wp2_with fail
    go_ret2
    exact ⟨x, rfl, R1.out, HB2.out⟩
end Go.Proofs.YtpeecbidojjfpaaDoor

/-
  Room for products and shifts.
-/
namespace Go.Proofs.YtpeecbidojjfpaaDoor
open Go Go.RowKit Go.Deep

theorem alloc_below (w : World) (A : Obj) : Below w.heap.size w (w.alloc A) := Below.alloc (Below.refl _ _) (Nat.le_refl _) A

theorem lit_small {D m : Int} {L s : Nat} (hD : 0 ≤ D) (h1 : D < Nm.pw L) (m0 : 0 ≤ m) (h2 : m < 18446744073709551616) (hs : 64 * L + 64 + s ≤ 262144) : D * m * 2 ^ s < Nm.pw 4096 ∧ D * m < Nm.pw 4096 := by
  have e64 : (2 : Int) ^ 64 = 18446744073709551616 := by decide
  rw [Nm.pw_two] at h1
  have p0 := Nm.two_pos s
  have g1 : D * m ≤ D * 2 ^ 64 := Int.mul_le_mul_of_nonneg_left (by omega) hD
  have g2 : D * 2 ^ 64 < 2 ^ (64 * L) * 2 ^ 64 := Int.mul_lt_mul_of_pos_right h1 (by omega)
  rw [← Nm.two_add] at g2
  have g3 : D * m < 2 ^ (64 * L + 64) := by omega
  have g4 : D * m * 2 ^ s < 2 ^ (64 * L + 64) * 2 ^ s := Int.mul_lt_mul_of_pos_right g3 p0
  rw [← Nm.two_add] at g4
  rw [Nm.pw_two]
  have g5 := Nm.two_mono (show 64 * L + 64 + s ≤ 64 * 4096 by omega)
  have g6 := Nm.two_mono (show 64 * L + 64 ≤ 64 * 4096 by omega)
  omega

theorem shl_room {V : Int} {L t : Nat} (h1 : V < Nm.pw L) (ht : 64 * L + t ≤ 262144) : V * 2 ^ t < Nm.pw 4096 := by
  rw [Nm.pw_two] at h1
  have g1 : V * 2 ^ t < 2 ^ (64 * L) * 2 ^ t := Int.mul_lt_mul_of_pos_right h1 (Nm.two_pos t)
  rw [← Nm.two_add] at g1
  have g2 := Nm.two_mono (show 64 * L + t ≤ 64 * 4096 by omega)
  rw [Nm.pw_two]
  omega

end Go.Proofs.YtpeecbidojjfpaaDoor

/-
  ieee: finite, FromUint.
-/
namespace Go.Proofs.YtpeecbidojjfpaaDoor
open Go Go.RowKit Go.Deep

set_option maxRecDepth 100000 in
theorem finite_any (d : Int) (w : World) (h0 : 0 ≤ d) (h1 : d < 18446744073709551616) :
    Calls Tryd.prog 75 #[.int .u64 d] w fun e w' => e = .returned (.bool (decide (d % 9223372036854775808 < 9218868437227405312))) ∧ w' = w := by
  have F := hid (field_any d w h0 h1)
  have fe : Ie.fld d = d % 9223372036854775808 / 4503599627370496 := by simp only [Ie.fld]; omega
  obtain ⟨f, hf⟩ : ∃ f, Ie.fld d = f := ⟨_, rfl⟩
  rw [hf] at F
  by_cases hc : f = 2047
  · have E : Hid (decide (d % 9223372036854775808 < 9218868437227405312) = false) := by rw [Hid, decide_eq_false_iff_not]; omega
    subst hc
    clear hf fe
    go_enter Tryd.func75, Tryd.ntmps75
    go_wp2_with fail
    refine F.out.mono ?_
    rintro e w' ⟨rfl, rfl⟩
    go_wp2_with fail
    go_ret
    exact ⟨by rw [E.out]; rfl, rfl⟩
  · have E : Hid (decide (d % 9223372036854775808 < 9218868437227405312) = true) := by rw [Hid, decide_eq_true_iff]; omega
    have hc' : (f == 2047) = false := by rw [beq_eq_false_iff_ne]; exact hc
    clear hf fe
    go_enter Tryd.func75, Tryd.ntmps75
    go_wp2_with fail
    refine F.out.mono ?_
    rintro e w' ⟨rfl, rfl⟩
    go_wp2_with fail
    go_ret
    exact ⟨by rw [E.out]; simp [hc], rfl⟩

set_option maxRecDepth 100000 in
theorem fromU_any (u : Int) (w : World) (hT : Tab w) (h0 : 0 ≤ u) (h1 : u < 18446744073709551616) :
    Calls Tryd.prog 51 #[.int .u64 u] w fun e w' => ∃ x, e = .returned (.int .u64 x) ∧ Ie.Rnd u 1 0 false x ∧ Below w.heap.size w w' := by
  have F := hid (fromUint_any u w h0 h1)
  have HT := hid hT
  have hp : Hid (u < Nm.pw 1) := h1
  clear hT
  go_enter Tryd.func51, Tryd.ntmps51
  go_wp2_with fail
  refine F.out.mono ?_
  rintro e w1 ⟨r, os, rfl, A, hB⟩
  have l1 := ans_small A 1 hp.out
  have N := hid (nearest_any r _ _ os w1 (A.arg (by omega)) (HT.out.below hB) (by rw [A.2.2.1]; omega) u 0 false A.2.2.2.1 (by omega) (by omega))
  have HB := hid hB
  clear A l1 hB F HT
  go_wp2_with fail
  refine N.out.mono ?_
  rintro e w2 ⟨x, rfl, R, hB2⟩
  have RR := hid R
  have HB2 := hid (HB.out.trans (hB2.mono HB.out.size))
  clear R hB2
  go_wp2_with fail
  go_ret
  exact ⟨x, rfl, RR.out, HB2.out⟩

theorem below_drew1 {B : Nat} {w w' : World} (h : Below B w w') : Below B w w'.drew := ⟨h.os, h.tape, h.output, h.size, h.block⟩

end Go.Proofs.YtpeecbidojjfpaaDoor

namespace Go.Proofs.YtpeecbidojjfpaaDoor
theorem ctz_int (n q t : Nat) (h : n = 2 ^ t * (2 * q + 1)) : (n : Int) = 2 ^ t * (2 * (q : Int) + 1) := by
  have e : ((2 ^ t * (2 * q + 1) : Nat) : Int) = 2 ^ t * (2 * (q : Int) + 1) := by simp
  rw [← e, ← h]
namespace Ie
/-- Whether it is a whole number. -/
def intg (d : Int) : Bool := decide (d % 9223372036854775808 < 9218868437227405312 ∧ vl (d % 9223372036854775808) = whp (d % 9223372036854775808) * 2 ^ 1075)

theorem intg_iff (r m q : Int) (t : Nat) (hm : man r = m) (h : m = 2 ^ t * (2 * q + 1)) : (vl r = whp r * 2 ^ 1075) ↔ 0 ≤ (ex r : Int) - 1074 + t := by
  have e1 : vl r = (2 * q + 1) * 2 ^ (t + ex r + 1) := by
    rw [vl, hm, h, Nm.two_succ, Nm.two_add]; ac_rfl
  constructor
  · intro he
    rcases (show 0 ≤ (ex r : Int) - 1074 + t ∨ t + ex r + 1 < 1075 by omega) with g | g
    · exact g
    · exfalso
      obtain ⟨s, hs⟩ : ∃ s, 1075 = (s + 1) + (t + ex r + 1) := ⟨1075 - (t + ex r + 1) - 1, by omega⟩
      rw [e1, hs, Nm.two_add (s + 1), ← Int.mul_assoc] at he
      have := Int.eq_of_mul_eq_mul_right (by have := Nm.two_pos (t + ex r + 1); omega) he
      exact Nm.odd_unique (this.trans (Int.mul_comm _ _))
  · intro g
    obtain ⟨s, hs⟩ : ∃ s, t + ex r + 1 = s + 1075 := ⟨t + ex r + 1 - 1075, by omega⟩
    rw [hs, Nm.two_add, ← Int.mul_assoc] at e1
    rw [whp, e1, Int.mul_ediv_cancel _ (by have := Nm.two_pos 1075; omega)]
end Ie
end Go.Proofs.YtpeecbidojjfpaaDoor
