/-
  Texts put together: QDivOk, XTimesO, XDiv, XSpecM, XOneA.
-/
import Derived.Test.YtnldfeojookaeaaDoorRE
import Derived.Test.YtnldfeojookaeaaDoorRD
namespace Go.Proofs.YtnldfeojookaeaaDoor
open Go.RowKit Go.Deep

theorem Ans.up {B B' : Nat} {w : World} {p : Option Addr} {ys : List Int} {n : Int} (h : Ans B w p ys n) (hB : B' ≤ B) : Ans B' w p ys n :=
  ⟨h.1, h.2.1, h.2.2.1, h.2.2.2.1, fun a ha => Nat.le_trans hB (h.2.2.2.2 a ha)⟩

set_option maxRecDepth 100000 in
set_option maxHeartbeats 1000000 in
theorem divMod_one (p q : Option Addr) (n cap m cap' : Nat) (zs ys : List Int) (w : World) (ha : Arg w p n cap zs) (hb : Arg w q m cap' ys) (tz : Nm.tsize zs ≤ 4096) (ty : Nm.tsize ys = 1) :
    Calls Tryd.prog 58 #[.slice p n cap, .slice q m cap'] w fun e w' => Splits (Nm.val zs) (Nm.val ys) w e w' := by
  obtain ⟨b', off', rfl, hbw', HC'⟩ := hb.2.2.2.1.trim.at (by rw [Nm.trim_length]; omega)
  obtain ⟨d, hd, D⟩ : ∃ d, w.cell? ⟨b', off', none⟩ = some (.int .u64 d) ∧ Hid (d = (Nm.trim ys).getD 0 0) := ⟨_, HC'.out 0 (by rw [Nm.trim_length]; omega), rfl⟩
  have hdb := hb.2.2.2.2.trim.at 0
  rw [← D.out] at hdb
  have hdv : Nm.val ys = d := by
    have h1 := Nm.val_trim ys
    have h2 := Nm.trim_length ys
    rw [ty] at h2
    obtain ⟨y, hy⟩ := List.length_eq_one_iff.1 h2
    have h3 := D.out
    rw [hy] at h1 h3
    simp [Nm.val] at h1 h3
    omega
  have hd0 : 0 < d := by
    have := Nm.val_ge_top hb.2.2.2.2 (by omega)
    rw [ty] at this
    simp [Nm.pw] at this
    omega
  obtain ⟨_, hd1⟩ := hdb
  obtain ⟨N, HN⟩ : ∃ N, Hid (Nm.tsize zs = N) := ⟨_, rfl⟩
  obtain ⟨M, HM⟩ : ∃ M, Hid (Nm.tsize ys = M) := ⟨_, rfl⟩
  have h1' : (N : Int) ≤ 4096 := by have := HN.out; omega
  have h2' : (M : Int) ≤ 4096 := by have := HM.out; omega
  have h3' : ((M : Int) == 0) = false := by have := HM.out; simp; omega
  have h5' : ((M : Int) == 1) = true := by have := HM.out; simp; omega
  have h6' : (0 : Int) < (M : Int) := by have := HM.out; omega
  have h2 : (N : Int) ≤ (cap : Int) := by have := ha.tl; have := ha.2.1; have := HN.out; omega
  have h4 : (M : Int) ≤ (cap' : Int) := by have := hb.tl; have := hb.2.1; have := HM.out; omega
  have CU := ha.cut
  rw [HN.out] at CU
  have HCU := hid CU
  have HT : Hid (Nm.tsize (Nm.trim zs) ≤ 4096) := by show _ ≤ _; rw [Nm.trim_trim]; exact tz
  have HA := hid ha
  have HB := hid hb
  have HV := hid hdv
  clear ha hb ty tz CU hbw' HC' D hdv
  go_enter Tryd.func58, Tryd.ntmps58
  go_wp2_with fail
  refine (limbs_is p n cap zs N _ HA.out HN.out).mono ?_
  rintro e w' ⟨rfl, rfl⟩
  go_wp2_with fail
  refine (limbs_is _ m cap' ys M _ HB.out HM.out).mono ?_
  rintro e w' ⟨rfl, rfl⟩
  go_wp2_with fail
  go_quiet ((go_at_call 80; first | exact Calls.quiet_of_same (limbs_is p n cap zs N _ (HA.out.drew _) HN.out) | exact Calls.quiet_of_same (limbs_is _ m cap' ys M _ (HB.out.drew _) HM.out)))
  have hd2 : (w'.drewN nq).cell? ⟨b', off', none⟩ = some (.int .u64 d) := hd
  have HCU2 := hid (HCU.out.drew nq)
  have HB0 : Hid (Below w'.heap.size w' (w'.drewN nq)) := below_drewN (Below.refl _ _) nq
  clear hd HCU
  generalize w'.drewN nq = wq at *
  go_wp2_with fail
  refine (divSmall_ok p N cap (Nm.trim zs) d _ HCU2.out HT.out hd0 hd1).mono ?_
  rintro e w2 ⟨r, os, rest, rfl, A1, ⟨s0, s1⟩, E, hb2⟩
  have HA1 := hid A1
  have HB2 := hid hb2
  have HE := hid (div_is s0 s1 E.out)
  have s2 : rest < 18446744073709551616 := by omega
  clear A1 hb2 E hd2
  go_wp2_with fail
  refine (fromUint_any rest _ s0 s2).mono ?_
  rintro e w3 ⟨r2, os2, rfl, A2, hb3⟩
  have F : Hid (Splits (Nm.val zs) (Nm.val ys) w' (.returned (.tuple #[.slice r (List.length os) (List.length os), .slice r2 (List.length os2) (List.length os2), .int .i64 0])) w3) := by
    have e1 := HE.out
    rw [Nm.val_trim, ← HV.out] at e1
    have z1 := HB0.out.size
    have z2 := HB2.out.size
    refine ⟨r, os, r2, os2, rfl, ?_, ?_, (chain (chain HB0.out HB2.out (Nat.le_refl _)) hb3 (Nat.le_refl _))⟩
    · rw [e1.1]; exact (HA1.out.below hb3 (Nat.le_refl _)).up z1
    · rw [e1.2]; exact A2.up (Nat.le_trans z1 z2)
  clear A2 hb3
  go_wp2_with fail
  go_ret3
  exact F.out

set_option maxRecDepth 100000 in
set_option maxHeartbeats 1000000 in
theorem divMod_less (p q : Option Addr) (n cap m cap' : Nat) (zs ys : List Int) (w : World) (ha : Arg w p n cap zs) (hb : Arg w q m cap' ys) (tz : Nm.tsize zs ≤ 4096) (ty : Nm.tsize ys ≤ 4096) (ty2 : 2 ≤ Nm.tsize ys) (hlt : Nm.val zs < Nm.val ys) :
    Calls Tryd.prog 58 #[.slice p n cap, .slice q m cap'] w fun e w' => Splits (Nm.val zs) (Nm.val ys) w e w' := by
  obtain ⟨N, HN⟩ : ∃ N, Hid (Nm.tsize zs = N) := ⟨_, rfl⟩
  obtain ⟨M, HM⟩ : ∃ M, Hid (Nm.tsize ys = M) := ⟨_, rfl⟩
  have h1' : (N : Int) ≤ 4096 := by have := HN.out; omega
  have h2' : (M : Int) ≤ 4096 := by have := HM.out; omega
  have h3' : ((M : Int) == 0) = false := by have := HM.out; simp; omega
  have h5' : ((M : Int) == 1) = false := by have := HM.out; rw [beq_eq_false_iff_ne]; omega
  have h2 : (N : Int) ≤ (cap : Int) := by have := ha.tl; have := ha.2.1; have := HN.out; omega
  have h4 : (M : Int) ≤ (cap' : Int) := by have := hb.tl; have := hb.2.1; have := HM.out; omega
  have CU := ha.cut
  rw [HN.out] at CU
  have CU' := hb.cut
  rw [HM.out] at CU'
  have HCU := hid CU
  have HCU' := hid CU'
  have HC : Hid (cmpI (Nm.val (Nm.trim zs)) (Nm.val (Nm.trim ys)) = -1) := by show _ = _; rw [Nm.val_trim, Nm.val_trim]; exact cmpI_lt hlt
  have HD : Hid (Nm.val zs / Nm.val ys = 0 ∧ Nm.val zs % Nm.val ys = Nm.val (Nm.trim zs)) := by
    have := (Nm.val_bd zs ha.2.2.2.2).1
    rw [Nm.val_trim]
    exact div_is this hlt (by omega)
  have HA := hid ha
  have HB := hid hb
  clear ha hb ty tz CU CU' ty2 hlt
  go_enter Tryd.func58, Tryd.ntmps58
  go_wp2_with fail
  refine (limbs_is p n cap zs N _ HA.out HN.out).mono ?_
  rintro e w' ⟨rfl, rfl⟩
  go_wp2_with fail
  refine (limbs_is _ m cap' ys M _ HB.out HM.out).mono ?_
  rintro e w' ⟨rfl, rfl⟩
  go_wp2_with fail
  go_quiet ((go_at_call 80; first | exact Calls.quiet_of_same (limbs_is p n cap zs N _ (HA.out.drew _) HN.out) | exact Calls.quiet_of_same (limbs_is _ m cap' ys M _ (HB.out.drew _) HM.out)))
  have HCU2 := hid (HCU.out.drew nq)
  have HCU2' := hid (HCU'.out.drew nq)
  have HB0 : Hid (Below w'.heap.size w' (w'.drewN nq)) := below_drewN (Below.refl _ _) nq
  clear HCU HCU'
  generalize w'.drewN nq = wq at *
  go_wp2_with fail
  refine (cmp_is (-1) p q N cap M cap' (Nm.trim zs) (Nm.trim ys) _ HCU2.out HCU2'.out HC.out).mono ?_
  rintro e w2 ⟨rfl, hb2⟩
  have HB2 := hid (chain HB0.out hb2 (Nat.le_refl _))
  have HCU3 := hid (HCU2.out.below hb2 (Nat.le_refl _))
  clear hb2
  go_wp2_with fail
  refine (trim_any p N cap (Nm.trim zs) _ HCU3.out).mono ?_
  rintro e w3 ⟨r, os, rfl, -, A1, hb3⟩
  have F : Hid (Splits (Nm.val zs) (Nm.val ys) w' (.returned (.tuple #[.slice none 0 0, .slice r (List.length os) (List.length os), .int .i64 0])) w3) := by
    have z1 := HB2.out.size
    refine ⟨none, [], r, os, rfl, ?_, ?_, chain HB2.out hb3 (Nat.le_refl _)⟩
    · rw [HD.out.1]; exact ans_none _ _ _ (fun a h => by cases h)
    · rw [HD.out.2]; exact A1.up z1
  clear A1 hb3
  go_wp2_with fail
  go_ret3
  exact F.out

/-- The quotient of a by b has so many limbs. -/
theorem first_room {zs ys : List Int} (hz : Nm.Limbs zs) (hy : Nm.Limbs ys) {N M K : Nat} (hN : Nm.tsize zs = N) (hM : Nm.tsize ys = M) (hM0 : 0 < M) (hK : N + 1 = K + M) : Nm.val zs < Nm.pw K * Nm.val ys := by
  have h1 := Nm.val_lt_tsize hz
  have h2 := Nm.val_ge_top hy (by omega)
  rw [hN] at h1
  rw [hM] at h2
  have h3 : Nm.pw K * Nm.pw (M - 1) ≤ Nm.pw K * Nm.val ys := Int.mul_le_mul_of_nonneg_left h2 (by have := Nm.pw_pos K; omega)
  rw [← Nm.pw_add, show K + (M - 1) = N by omega] at h3
  omega

set_option maxRecDepth 100000 in
set_option maxHeartbeats 1000000 in
theorem divMod_long (p q : Option Addr) (n cap m cap' : Nat) (zs ys : List Int) (w : World) (ha : Arg w p n cap zs) (hb : Arg w q m cap' ys) (tz : Nm.tsize zs ≤ 4096) (ty : Nm.tsize ys ≤ 4096) (ty2 : 2 ≤ Nm.tsize ys) (hge : Nm.val ys ≤ Nm.val zs) :
    Calls Tryd.prog 58 #[.slice p n cap, .slice q m cap'] w fun e w' => Splits (Nm.val zs) (Nm.val ys) w e w' := by
  obtain ⟨N, HN⟩ : ∃ N, Hid (Nm.tsize zs = N) := ⟨_, rfl⟩
  obtain ⟨M, HM⟩ : ∃ M, Hid (Nm.tsize ys = M) := ⟨_, rfl⟩
  have hNM : M ≤ N := by
    rcases Nat.lt_or_ge N M with h | h
    · have := val_lt_of_tsize ha.2.2.2.2 hb.2.2.2.2 (by rw [HN.out, HM.out]; exact h)
      omega
    · exact h
  obtain ⟨K, HK⟩ : ∃ K, Hid (N + 1 = K + M) := ⟨N + 1 - M, by show _ = _; omega⟩
  have RM := hid (first_room ha.2.2.2.2 hb.2.2.2.2 HN.out HM.out (by have := HM.out; omega) HK.out)
  have h1' : (N : Int) ≤ 4096 := by have := HN.out; omega
  have h2' : (M : Int) ≤ 4096 := by have := HM.out; omega
  have h3' : ((M : Int) == 0) = false := by have := HM.out; simp; omega
  have h5' : ((M : Int) == 1) = false := by have := HM.out; rw [beq_eq_false_iff_ne]; omega
  have h2 : (N : Int) ≤ (cap : Int) := by have := ha.tl; have := ha.2.1; have := HN.out; omega
  have h4 : (M : Int) ≤ (cap' : Int) := by have := hb.tl; have := hb.2.1; have := HM.out; omega
  have CU := ha.cut
  rw [HN.out] at CU
  have CU' := hb.cut
  rw [HM.out] at CU'
  have HCU := hid CU
  have HCU' := hid CU'
  obtain ⟨c, hc0, HC⟩ : ∃ c : Int, 0 ≤ c ∧ Hid (cmpI (Nm.val (Nm.trim zs)) (Nm.val (Nm.trim ys)) = c) := by
    rw [Nm.val_trim, Nm.val_trim]
    rcases (show Nm.val zs = Nm.val ys ∨ Nm.val ys < Nm.val zs by omega) with h | h
    · exact ⟨0, by omega, cmpI_eq h⟩
    · exact ⟨1, by omega, cmpI_gt h⟩
  have HA := hid ha
  have HB := hid hb
  have hM2 : 2 ≤ M := by have := HM.out; omega
  clear ha hb ty tz CU CU' ty2 hge
  go_enter Tryd.func58, Tryd.ntmps58
  go_wp2_with fail
  refine (limbs_is p n cap zs N _ HA.out HN.out).mono ?_
  rintro e w' ⟨rfl, rfl⟩
  go_wp2_with fail
  refine (limbs_is _ m cap' ys M _ HB.out HM.out).mono ?_
  rintro e w' ⟨rfl, rfl⟩
  go_wp2_with fail
  go_quiet ((go_at_call 80; first | exact Calls.quiet_of_same (limbs_is p n cap zs N _ (HA.out.drew _) HN.out) | exact Calls.quiet_of_same (limbs_is _ m cap' ys M _ (HB.out.drew _) HM.out)))
  have HCU2 := hid (HCU.out.drew nq)
  have HCU2' := hid (HCU'.out.drew nq)
  have HB0 : Hid (Below w'.heap.size w' (w'.drewN nq)) := below_drewN (Below.refl _ _) nq
  clear HCU HCU'
  generalize w'.drewN nq = wq at *
  go_wp2_with fail
  refine (cmp_is c p q N cap M cap' (Nm.trim zs) (Nm.trim ys) _ HCU2.out HCU2'.out HC.out).mono ?_
  rintro e w2 ⟨rfl, hb2⟩
  have HB2 := hid (chain HB0.out hb2 (Nat.le_refl _))
  have HCU3 := hid (HCU2.out.below hb2 (Nat.le_refl _))
  have HCU3' := hid (HCU2'.out.below hb2 (Nat.le_refl _))
  clear hb2 HCU2 HCU2' HB0
  have hmk := make64 (N + 1) (by omega) w2
  have em : ((N + 1 : Nat) : Int) = (N : Int) + 1 := by omega
  rw [em] at hmk
  clear em
  have hb0 : Below w2.heap.size w2 (w2.alloc (.cells (madeCells #[.int .u64 0] (N + 1)) 23)) := (Below.refl _ _).alloc (Nat.le_refl _) _
  have ho : Own (w2.alloc (.cells (madeCells #[.int .u64 0] (N + 1)) 23)) w2.heap.size (List.replicate (N + 1) 0) := by
    rw [made_zero]; exact Own.alloc w2 _
  obtain ⟨w3, hcp, ho1, hb1, hz1⟩ := copy64 w2.heap.size (N + 1) (List.replicate (N + 1) 0) p N cap (Nm.trim zs) 3 _ (by simp) (by rw [Nm.trim_length, HN.out]) (by omega) ho (HCU3.out.2.2.2.1.below hb0 (Nat.le_refl _))
  have e1 : List.drop N (List.replicate (N + 1) (0 : Int)) = [0] := by simp
  rw [e1] at ho1
  have HO := hid ho1
  have HB3 := hid (hb0.trans hb1)
  have HW3 : Hid (w2.heap.size < w3.heap.size) := ho1.lt
  clear e1 ho1 hb1 ho hb0 hz1
  have DV := divide_any w2.heap.size (N + 1) K (M - 2) M cap' (Nm.trim zs ++ [0]) q (Nm.trim ys) w3 HO.out (by simp [Nm.trim_length, HN.out]) (by omega) (Nm.Limbs.append HCU3.out.2.2.2.2 (limb_one (by omega))) (by omega) HK.out (by rw [Nm.trim_length, HM.out]) (by omega) (by have := HCU3'.out.2.2.1; omega)
    (HCU3'.out.2.2.2.1.below HB3.out (Nat.le_refl _)) HCU3'.out.2.2.2.2 (HCU3'.out.2.2.2.1.lt (by rw [Nm.trim_length, HM.out]; omega)) (by
      have := Nm.tsize_top (Nm.trim ys) (by rw [Nm.trim_trim, HM.out]; omega)
      rw [Nm.trim_trim, HM.out] at this
      rw [show M - 2 + 1 = M - 1 by omega]
      exact this) (by
      have e : Nm.val (Nm.trim zs ++ [0]) = Nm.val zs := by rw [Nm.val_append, Nm.val_trim]; simp [Nm.val]
      rw [e, Nm.val_trim]
      exact RM.out)
  have HDV := hid DV
  clear DV
  go_wp2_with fail
  refine HDV.out.mono ?_
  rintro e w4 ⟨os, rs, rfl, I⟩
  have bz := (Nm.val_bd rs I.out.lim).1
  have HE : Hid (Nm.val zs / Nm.val ys = Nm.val os ∧ Nm.val zs % Nm.val ys = Nm.val rs) := by
    have h1 := I.out.eq
    have h2 := I.out.lt
    have e : Nm.val (Nm.trim zs ++ [0]) = Nm.val zs := by rw [Nm.val_append, Nm.val_trim]; simp [Nm.val]
    rw [e, Nm.val_trim] at h1
    rw [Nm.val_trim] at h2
    simp only [Nm.pw, Int.one_mul] at h2
    exact div_is bz h2 h1
  have HB4 := hid ((HB2.out.trans (HB3.out.mono HB2.out.size)).trans (I.out.low.mono HB2.out.size))
  have hK64 : K ≤ 17592186044416 := by have := HK.out; omega
  have A1 : Hid (Arg w4 (some ⟨w3.heap.size, 0, none⟩) K K os) := ⟨I.out.len2, Nat.le_refl _, hK64, I.out.own2.lies, I.out.lim2⟩
  have HZ := hid HB2.out.size
  clear bz hmk hcp HDV
  go_wp2_with fail
  refine (trim_any _ K K os _ A1.out).mono ?_
  rintro e w5 ⟨r, os', rfl, -, A2, hb5⟩
  have HB5 := hid (chain HB4.out hb5 (Nat.le_refl _))
  have A3 : Hid (Arg w5 (some ⟨w2.heap.size, 0, none⟩) (N + 1) (N + 1) rs) := ⟨I.out.len, Nat.le_refl _, by omega, (I.out.own.below hb5 I.out.own.lt).lies, I.out.lim⟩
  have HA2 := hid (A2.up (B' := w'.heap.size) (HB4.out.size))
  clear A2 hb5
  go_wp2_with fail
  refine (trim_any _ (N + 1) (N + 1) rs _ A3.out).mono ?_
  rintro e w6 ⟨r2, os2, rfl, -, A4, hb6⟩
  have F : Hid (Splits (Nm.val zs) (Nm.val ys) w' (.returned (.tuple #[.slice r (List.length os') (List.length os'), .slice r2 (List.length os2) (List.length os2), .int .i64 0])) w6) := by
    refine ⟨r, os', r2, os2, rfl, ?_, ?_, chain HB5.out hb6 (Nat.le_refl _)⟩
    · rw [HE.out.1]; exact HA2.out.below hb6 (Nat.le_refl _)
    · rw [HE.out.2]; exact A4.up HB5.out.size
  clear A4 hb6
  go_wp2_with fail
  go_ret3
  exact F.out

/-- DivMod of two naturals that are not too big, the second not zero. -/
theorem divMod_ok (p q : Option Addr) (n cap m cap' : Nat) (zs ys : List Int) (w : World) (ha : Arg w p n cap zs) (hb : Arg w q m cap' ys) (tz : Nm.tsize zs ≤ 4096) (ty : Nm.tsize ys ≤ 4096) (hy : 0 < Nm.tsize ys) :
    Calls Tryd.prog 58 #[.slice p n cap, .slice q m cap'] w fun e w' => Splits (Nm.val zs) (Nm.val ys) w e w' := by
  by_cases h1 : Nm.tsize ys = 1
  · exact divMod_one p q n cap m cap' zs ys w ha hb tz h1
  by_cases h2 : Nm.val zs < Nm.val ys
  · exact divMod_less p q n cap m cap' zs ys w ha hb tz ty (by omega) h2
  · exact divMod_long p q n cap m cap' zs ys w ha hb tz ty (by omega) (by omega)
end Go.Proofs.YtnldfeojookaeaaDoor

/-
  soft: over.
-/
namespace Go.Proofs.YtnldfeojookaeaaDoor
open Go Go.RowKit Go.Deep

set_option maxRecDepth 100000 in
set_option maxHeartbeats 4000000 in
theorem over_xany (n1 n2 m1 m2 : Bool) (p1 p2 : Option Addr) (l1 c1 l2 c2 : Nat) (z1 z2 : List Int) (e1 e2 V1 V2 : Int) (w : World) (a1 : Arg w p1 l1 c1 z1) (a2 : Arg w p2 l2 c2 z2) (hV1 : Nm.val z1 = V1) (hV2 : Nm.val z2 = V2) (b1 : V1 < 2 ^ 60) (b2 : V2 < 2 ^ 60) (d0 : 0 < V2)
    (q1 : -1100 ≤ e1) (q2 : e1 ≤ 1000) (q3 : -1100 ≤ e2) (q4 : e2 ≤ 1000) :
    Calls Tryd.prog 36 #[exactOf n1 p1 l1 c1 e1 m1, exactOf n2 p2 l2 c2 e2 m2] w fun e w' => OverTold n1 V1 e1 n2 V2 e2 w e w' := by
  have v1 : 0 ≤ V1 := by rw [← hV1]; exact (Nm.val_bd z1 a1.2.2.2.2).1
  have e4096 := pw_4096
  have big := Nm.two_mono (show 188 ≤ 262144 by omega)
  have b60 := Nm.two_mono (show 60 ≤ 188 by omega)
  have pr : V1 * 2 ^ 128 < 2 ^ 188 := by
    have h2 : V1 * 2 ^ 128 < 2 ^ 60 * 2 ^ 128 := Int.mul_lt_mul_of_pos_right b1 (Nm.two_pos 128)
    rw [← Nm.two_add] at h2
    exact h2
  have t1 : Nm.tsize z1 ≤ 4096 := (Nm.tsize_le_iff a1.2.2.2.2 4096).2 (by rw [hV1]; omega)
  have t2 : Nm.tsize z2 ≤ 4096 := (Nm.tsize_le_iff a2.2.2.2.2 4096).2 (by rw [hV2]; omega)
  have t3 : 0 < Nm.tsize z2 := tsize_pos a2.2.2.2.2 (by rw [hV2]; exact d0)
  have S1 : Hid (∀ (wx : World), Below w.heap.size w wx → Calls Tryd.prog 50 #[.slice p1 l1 c1, .int .i64 128] wx fun e w' => ∃ r os, e = .returned (.tuple #[.slice r (List.length os) (List.length os), .int .i64 0]) ∧ Ans wx.heap.size w' r os (V1 * 2 ^ 128) ∧ Below wx.heap.size wx w') := by
    intro wx hx
    have := shl_any p1 l1 c1 z1 128 128 wx (a1.below hx (Nat.le_refl _)) t1 (by omega) (by rw [hV1]; omega)
    rw [hV1] at this
    exact this
  have D1 : Hid (∀ (wx : World) (r : Option Addr) (os : List Int) (B : Nat), Below w.heap.size w wx → Ans B wx r os (V1 * 2 ^ 128) → Calls Tryd.prog 58 #[.slice r os.length os.length, .slice p2 l2 c2] wx fun e w' => ∃ (s : Option Addr) (qs : List Int) (t : Option Addr) (rs : List Int), e = .returned (.tuple #[.slice s (List.length qs) (List.length qs), .slice t (List.length rs) (List.length rs), .int .i64 0]) ∧ Ans wx.heap.size w' s qs (V1 * 2 ^ 128 / V2) ∧ decide (0 < List.length rs) = decide (V1 * 2 ^ 128 % V2 ≠ 0) ∧ Below wx.heap.size wx w') := by
    intro wx r os B hx A
    obtain ⟨g1, g2, g3⟩ := A.tl pr (by omega)
    have := divMod_ok r p2 _ _ l2 c2 os z2 wx (A.arg (by omega)) (a2.below hx (Nat.le_refl _)) g1 t2 t3
    rw [A.2.2.2.1, hV2] at this
    refine this.mono ?_
    rintro e w' ⟨s, qs, t, rs, rfl, A1, A2, hB⟩
    refine ⟨s, qs, t, rs, rfl, A1, ?_, hB⟩
    have h1 := Nm.tsize_zero_iff A2.2.1
    rw [A2.2.2.1, A2.2.2.2.1] at h1
    rw [Bool.eq_iff_iff]
    simp only [decide_eq_true_eq]
    omega
  have B0 := Box.new w (.bool n1) (.slice p1 l1 c1) (.int .i64 e1) (.bool m1) (.bool n2) (.slice p2 l2 c2) (.int .i64 e2) (.bool m2)
  have TT : Hid (∀ (e : Ending) (w' : World), (∃ p os, e = .returned (exactOf (n1 != n2) p (List.length os) (List.length os) (e1 - 128 - e2) (decide (V1 * 2 ^ 128 % V2 ≠ 0))) ∧ Ans w.heap.size w' p os (V1 * 2 ^ 128 / V2) ∧ Below w.heap.size w w') → OverTold n1 V1 e1 n2 V2 e2 w e w') := fun _ _ h => h
  clear hV1 hV2 b1 b2 a1 a2 v1 big b60 pr t1 t2 t3 e4096 d0
  generalize decide (V1 * 2 ^ 128 % V2 ≠ 0) = more at *
  generalize V1 * 2 ^ 128 / V2 = Q at *
  generalize V1 * 2 ^ 128 = X at *
  simp only [exactOf]
  go_enter Tryd.func36, Tryd.ntmps36
  go_wp2_with fail
  refine (S1.out _ B0.2.1).mono ?_
  rintro e wa ⟨r1, o1, rfl, A1, hB1⟩
  have Ba := B0.on hB1
  have s0 := B0.2.2
  obtain ⟨⟨cx0, cx1, cx2⟩, ⟨cy0, cy1, cy2⟩, -⟩ := Ba.cells
  have D2 := hid (D1.out wa r1 o1 _ Ba.2.1 A1)
  have BB := hid Ba
  clear A1 hB1 S1 D1 Ba B0 s0
  go_wp2_with fail
  refine D2.out.mono ?_
  rintro e wb ⟨s, qs, t, rs, rfl, A2, hr, hB2⟩
  have Bb := BB.out.on hB2
  have s1 := BB.out.2.2
  have KF := tell4 (u0 := .bool (n1 != n2)) (u2 := .int .i64 (e1 - 128 - e2)) (u3 := .bool more) Bb ⟨A2.1, A2.2.1, A2.2.2.1, A2.2.2.2.1, fun a h => by have := A2.2.2.2.2 a h; omega⟩
  clear cx0 cx1 cx2 cy0 cy1 cy2
  obtain ⟨⟨cx0, cx1, cx2⟩, ⟨cy0, cy1, cy2⟩, ⟨⟨r0, r1', r2', r3⟩, ⟨f0, f1, f2, f3⟩⟩⟩ := Bb.cells
  have RR := hid Bb.1.2.2
  have KK := hid KF
  clear KF A2 hB2 D2 BB Bb s1
  go_wp2_with fail
  (try simp only [Exit.inBlock, Exit.then])
  refine bodyPost_ret (results_cell_row rfl _ _ (w.heap.size + 2) 42 _ (0, 0) _ rfl (Row4.set RR.out) Tryd.underlying42 rfl (by kernel_rfl)) rfl ?_
  exact TT.out _ _ ⟨s, qs, rfl, KK.out⟩
end Go.Proofs.YtnldfeojookaeaaDoor

/-
  soft: div (made by mkmul.py).
-/
namespace Go.Proofs.YtnldfeojookaeaaDoor
open Go Go.RowKit Go.Deep

set_option maxRecDepth 100000 in
set_option maxHeartbeats 4000000 in
theorem div_fin (a b : Int) (w : World) (a0 : 0 ≤ a) (a1 : a < 18446744073709551616) (b0 : 0 ≤ b) (b1 : b < 18446744073709551616) (hT : Tab w) (na : Ie.isn a = false) (ia : Ie.isi a = false) (nb : Ie.isn b = false) (ib : Ie.isi b = false) (zb : Ie.isz b = false) :
    Calls Tryd.prog 15 #[.int .u64 a, .int .u64 b] w fun e w' => Told2 (Ie.DivIs a b) w e w' := by
  have fa := Ie.fin_of na ia
  have fb := Ie.fin_of nb ib
  have FI : Hid (∀ (r f : Int), Ie.Res (Ie.ngd a != Ie.ngd b) (Ie.dm a * 2 ^ 128 / Ie.dm b) (Ie.de a - 128 - Ie.de b) (decide (Ie.dm a * 2 ^ 128 % Ie.dm b ≠ 0)) r f → Ie.DivIs a b r f) := by
    intro r f h2
    rw [Ie.DivIs, na, nb, ia, ib, zb]
    simp only [Bool.false_eq_true, or_self, and_false, if_false]
    exact h2
  have NA := hid (fun (wx : World) => nan_any a wx a0 a1)
  rw [na] at NA
  have NB := hid (fun (wx : World) => nan_any b wx b0 b1)
  rw [nb] at NB
  have IA := hid (fun (wx : World) => infinite_any a wx a0 a1)
  rw [ia] at IA
  have IB := hid (fun (wx : World) => infinite_any b wx b0 b1)
  rw [ib] at IB
  have ZA := hid (fun (wx : World) => zero_any a wx a0 a1)
  have ZB := hid (fun (wx : World) => zero_any b wx b0 b1)
  rw [zb] at ZB
  obtain ⟨⟨da0, da1⟩, ⟨ea0, ea1⟩, -, -⟩ := Ie.dec_f a fa
  obtain ⟨⟨db0, db1⟩, ⟨eb0, eb1⟩, -, dbz⟩ := Ie.dec_f b fb
  have e60 : (2 : Int) ^ 60 = 1152921504606846976 := by decide
  have da2 : Ie.dm a < 2 ^ 60 := by omega
  have db2 : Ie.dm b < 2 ^ 60 := by omega
  have d0 : 0 < Ie.dm b := by
    rw [Ie.isz, decide_eq_false_iff_not] at zb
    omega
  have UA := hid (fun (wx : World) => number_any a wx a0 a1 fa)
  have UB := hid (fun (wx : World) => number_any b wx b0 b1 fb)
  have HT := hid hT
  have RU : Hid (∀ (w2 : World) (pa pb : Option Addr) (oa ob : List Int) (B B' : Nat), Ans B w2 pa oa (Ie.dm a) → Ans B' w2 pb ob (Ie.dm b) → Calls Tryd.prog 36 #[exactOf (Ie.ngd a) pa oa.length oa.length (Ie.de a) false, exactOf (Ie.ngd b) pb ob.length ob.length (Ie.de b) false] w2 fun e w' => ∃ p os, e = .returned (exactOf (Ie.ngd a != Ie.ngd b) p (List.length os) (List.length os) (Ie.de a - 128 - Ie.de b) (decide (Ie.dm a * 2 ^ 128 % Ie.dm b ≠ 0))) ∧ Ans w2.heap.size w' p os (Ie.dm a * 2 ^ 128 / Ie.dm b) ∧ Below w2.heap.size w2 w') := by
    intro w2 pa pb oa ob B B' A1 A2
    exact over_xany _ _ _ _ _ _ _ _ _ _ oa ob _ _ _ _ w2 (A1.arg (by have := A1.tl da2 (show 60 ≤ 262144 by omega); omega)) (A2.arg (by have := A2.tl db2 (show 60 ≤ 262144 by omega); omega)) A1.2.2.2.1 A2.2.2.2.1 da2 db2 d0 (by omega) (by omega) (by omega) (by omega)
  have vb : Ie.dm a * 2 ^ 128 / Ie.dm b < 2 ^ 5000 := by
    have h1 : Ie.dm a * 2 ^ 128 / Ie.dm b ≤ Ie.dm a * 2 ^ 128 := Int.ediv_le_self _ (Int.mul_nonneg da0 (by have := Nm.two_pos 128; omega))
    have h2 : Ie.dm a * 2 ^ 128 < 2 ^ 60 * 2 ^ 128 := Int.mul_lt_mul_of_pos_right da2 (Nm.two_pos 128)
    rw [← Nm.two_add] at h2
    have := Nm.two_mono (show 60 + 128 ≤ 5000 by omega)
    omega
  have RO : Hid (∀ (w3 : World) (p : Option Addr) (os : List Int) (B : Nat), Below w.heap.size w w3 → Ans B w3 p os (Ie.dm a * 2 ^ 128 / Ie.dm b) → Calls Tryd.prog 31 #[exactOf (Ie.ngd a != Ie.ngd b) p os.length os.length (Ie.de a - 128 - Ie.de b) (decide (Ie.dm a * 2 ^ 128 % Ie.dm b ≠ 0))] w3 fun r w' => RoundedTold (Ie.ngd a != Ie.ngd b) (Ie.dm a * 2 ^ 128 / Ie.dm b) (Ie.de a - 128 - Ie.de b) (decide (Ie.dm a * 2 ^ 128 % Ie.dm b ≠ 0)) w3 r w') := by
    intro w3 p os B hB A
    exact rounded_any _ _ p _ _ os _ _ w3 (A.arg (by have := A.tl vb (show 5000 ≤ 262144 by omega); omega)) (HT.out.below hB) A.2.2.2.1 A.len0 vb (by omega) (by omega)
  cases hza : Ie.isz a <;> rw [hza] at ZA
  · clear fa fb na nb ia ib hT da0 da1 ea0 ea1 db0 db1 eb0 eb1 dbz e60 da2 db2 vb HT hza d0 zb
    generalize hV : Ie.dm a * 2 ^ 128 / Ie.dm b = V at *
    generalize hE : Ie.de a - 128 - Ie.de b = E at *
    generalize hM : decide (Ie.dm a * 2 ^ 128 % Ie.dm b ≠ 0) = M at *
    clear hV hE hM
    go_enter Tryd.func15, Tryd.ntmps15
    go_wp2_with fail
    refine (NA.out _).mono ?_
    rintro e wz ⟨rfl, hz⟩
    replace hz := hz.symm
    subst hz
    go_wp2_with fail
    refine (NB.out _).mono ?_
    rintro e wz ⟨rfl, hz⟩
    replace hz := hz.symm
    subst hz
    go_wp2_with fail
    refine (IA.out _).mono ?_
    rintro e wz ⟨rfl, hz⟩
    replace hz := hz.symm
    subst hz
    go_wp2_with fail
    refine (ZA.out _).mono ?_
    rintro e wz ⟨rfl, hz⟩
    replace hz := hz.symm
    subst hz
    go_wp2_with fail
    refine (IA.out _).mono ?_
    rintro e wz ⟨rfl, hz⟩
    replace hz := hz.symm
    subst hz
    go_wp2_with fail
    refine (IB.out _).mono ?_
    rintro e wz ⟨rfl, hz⟩
    replace hz := hz.symm
    subst hz
    go_wp2_with fail
    refine (ZB.out _).mono ?_
    rintro e wz ⟨rfl, hz⟩
    replace hz := hz.symm
    subst hz
    go_wp2_with fail
    refine (UA.out _).mono ?_
    rintro e w1 ⟨pa, oa, rfl, A1, hB1⟩
    have H1 := hid (And.intro A1 hB1)
    clear A1 hB1
    simp only [exactOf]
    go_wp2_with fail
    refine (UB.out _).mono ?_
    rintro e w2 ⟨pb, ob, rfl, A2, hB2⟩
    have A1 := H1.out.1.below hB2 (Nat.le_refl _)
    have Bw := H1.out.2.trans (hB2.mono H1.out.2.size)
    have PL := hid (RU.out w2 pa pb oa ob _ _ A1 A2)
    have HB := hid Bw
    simp only [exactOf] at PL ⊢
    clear A1 A2 hB2 Bw H1 RU
    go_wp2_with fail
    refine PL.out.mono ?_
    rintro e w3 ⟨p, os, rfl, A3, hB3⟩
    have Bw := HB.out.trans (hB3.mono HB.out.size)
    have RR := hid (RO.out w3 p os _ Bw A3)
    have HC := hid Bw
    simp only [exactOf] at RR ⊢
    clear A3 hB3 Bw RO PL HB
    go_wp2_with fail
    refine RR.out.mono ?_
    rintro e w4 ⟨d, t, L, rfl, h1, h2, h3, hB4⟩
    have KK : Hid (Told2 (Ie.DivIs a b) w (.returned (.tuple #[.int .u64 (Ie.sg (Ie.ngd a != Ie.ngd b) d), .int .i64 (Ie.flg V E M (Ie.sg (Ie.ngd a != Ie.ngd b) d) t L)])) w4) :=
      ⟨_, _, rfl, FI.out _ _ ⟨d, t, L, rfl, rfl, h1, h2, h3⟩, HC.out.trans (hB4.mono HC.out.size)⟩
    clear h1 h2 h3 hB4 HC RR FI
    go_wp2_with fail
    go_ret2
    exact KK.out
  · clear fa fb na nb ia ib hT da0 da1 ea0 ea1 db0 db1 eb0 eb1 dbz e60 da2 db2 vb HT hza d0 zb
    generalize hV : Ie.dm a * 2 ^ 128 / Ie.dm b = V at *
    generalize hE : Ie.de a - 128 - Ie.de b = E at *
    generalize hM : decide (Ie.dm a * 2 ^ 128 % Ie.dm b ≠ 0) = M at *
    clear hV hE hM
    go_enter Tryd.func15, Tryd.ntmps15
    go_wp2_with fail
    refine (NA.out _).mono ?_
    rintro e wz ⟨rfl, hz⟩
    replace hz := hz.symm
    subst hz
    go_wp2_with fail
    refine (NB.out _).mono ?_
    rintro e wz ⟨rfl, hz⟩
    replace hz := hz.symm
    subst hz
    go_wp2_with fail
    refine (IA.out _).mono ?_
    rintro e wz ⟨rfl, hz⟩
    replace hz := hz.symm
    subst hz
    go_wp2_with fail
    refine (ZA.out _).mono ?_
    rintro e wz ⟨rfl, hz⟩
    replace hz := hz.symm
    subst hz
    go_wp2_with fail
    refine (ZB.out _).mono ?_
    rintro e wz ⟨rfl, hz⟩
    replace hz := hz.symm
    subst hz
    go_wp2_with fail
    refine (IA.out _).mono ?_
    rintro e wz ⟨rfl, hz⟩
    replace hz := hz.symm
    subst hz
    go_wp2_with fail
    refine (IB.out _).mono ?_
    rintro e wz ⟨rfl, hz⟩
    replace hz := hz.symm
    subst hz
    go_wp2_with fail
    refine (ZB.out _).mono ?_
    rintro e wz ⟨rfl, hz⟩
    replace hz := hz.symm
    subst hz
    go_wp2_with fail
    refine (UA.out _).mono ?_
    rintro e w1 ⟨pa, oa, rfl, A1, hB1⟩
    have H1 := hid (And.intro A1 hB1)
    clear A1 hB1
    simp only [exactOf]
    go_wp2_with fail
    refine (UB.out _).mono ?_
    rintro e w2 ⟨pb, ob, rfl, A2, hB2⟩
    have A1 := H1.out.1.below hB2 (Nat.le_refl _)
    have Bw := H1.out.2.trans (hB2.mono H1.out.2.size)
    have PL := hid (RU.out w2 pa pb oa ob _ _ A1 A2)
    have HB := hid Bw
    simp only [exactOf] at PL ⊢
    clear A1 A2 hB2 Bw H1 RU
    go_wp2_with fail
    refine PL.out.mono ?_
    rintro e w3 ⟨p, os, rfl, A3, hB3⟩
    have Bw := HB.out.trans (hB3.mono HB.out.size)
    have RR := hid (RO.out w3 p os _ Bw A3)
    have HC := hid Bw
    simp only [exactOf] at RR ⊢
    clear A3 hB3 Bw RO PL HB
    go_wp2_with fail
    refine RR.out.mono ?_
    rintro e w4 ⟨d, t, L, rfl, h1, h2, h3, hB4⟩
    have KK : Hid (Told2 (Ie.DivIs a b) w (.returned (.tuple #[.int .u64 (Ie.sg (Ie.ngd a != Ie.ngd b) d), .int .i64 (Ie.flg V E M (Ie.sg (Ie.ngd a != Ie.ngd b) d) t L)])) w4) :=
      ⟨_, _, rfl, FI.out _ _ ⟨d, t, L, rfl, rfl, h1, h2, h3⟩, HC.out.trans (hB4.mono HC.out.size)⟩
    clear h1 h2 h3 hB4 HC RR FI
    go_wp2_with fail
    go_ret2
    exact KK.out

set_option maxRecDepth 100000 in
set_option maxHeartbeats 4000000 in
theorem div_any (a b : Int) (w : World) (a0 : 0 ≤ a) (a1 : a < 18446744073709551616) (b0 : 0 ≤ b) (b1 : b < 18446744073709551616) (hT : Tab w) :
    Calls Tryd.prog 15 #[.int .u64 a, .int .u64 b] w fun e w' => Told2 (Ie.DivIs a b) w e w' := by
  have NA := hid (fun (wx : World) => nan_any a wx a0 a1)
  have NB := hid (fun (wx : World) => nan_any b wx b0 b1)
  have IA := hid (fun (wx : World) => infinite_any a wx a0 a1)
  have IB := hid (fun (wx : World) => infinite_any b wx b0 b1)
  have ZA := hid (fun (wx : World) => zero_any a wx a0 a1)
  have ZB := hid (fun (wx : World) => zero_any b wx b0 b1)
  have SG := hid (fun (wx : World) => softSign_any a b wx a0 a1 b0 b1)
  have OR := Ie.inf_or (Ie.ngd a != Ie.ngd b)
  have KK : Hid (∀ (e : Ending) (r f : Int), e = .returned (.tuple #[.int .u64 r, .int .i64 f]) → Ie.DivIs a b r f → Told2 (Ie.DivIs a b) w e w) := fun e r f h1 h2 => ⟨r, f, h1, h2, Below.refl _ _⟩
  cases na : Ie.isn a
  · cases nb : Ie.isn b
    · cases ia : Ie.isi a
      · cases ib : Ie.isi b
        · skip
          cases za : Ie.isz a
          · skip
            cases zb : Ie.isz b
            · skip
              exact div_fin a b w a0 a1 b0 b1 hT na ia nb ib zb
            · skip
              have SP : Hid (Ie.DivIs a b (Ie.sb (Ie.ngd a != Ie.ngd b) 9218868437227405312) 2) := by rw [Hid, Ie.DivIs, na, nb, ia, ib, za, zb]; simp
              rw [na] at NA
              rw [nb] at NB
              rw [ia] at IA
              rw [ib] at IB
              rw [za] at ZA
              rw [zb] at ZB
              clear na nb ia ib hT za zb
              generalize hI : Ie.sb (Ie.ngd a != Ie.ngd b) 9218868437227405312 = sI at *
              generalize hO : Ie.sb (Ie.ngd a != Ie.ngd b) 0 = sO at *
              clear hI hO
              go_enter Tryd.func15, Tryd.ntmps15
              go_wp2_with fail
              refine (NA.out _).mono ?_
              rintro e wz ⟨rfl, hz⟩
              replace hz := hz.symm
              subst hz
              go_wp2_with fail
              refine (NB.out _).mono ?_
              rintro e wz ⟨rfl, hz⟩
              replace hz := hz.symm
              subst hz
              go_wp2_with fail
              refine (IA.out _).mono ?_
              rintro e wz ⟨rfl, hz⟩
              replace hz := hz.symm
              subst hz
              go_wp2_with fail
              refine (ZA.out _).mono ?_
              rintro e wz ⟨rfl, hz⟩
              replace hz := hz.symm
              subst hz
              go_wp2_with fail
              refine (IA.out _).mono ?_
              rintro e wz ⟨rfl, hz⟩
              replace hz := hz.symm
              subst hz
              go_wp2_with fail
              refine (IB.out _).mono ?_
              rintro e wz ⟨rfl, hz⟩
              replace hz := hz.symm
              subst hz
              go_wp2_with fail
              refine (ZB.out _).mono ?_
              rintro e wz ⟨rfl, hz⟩
              replace hz := hz.symm
              subst hz
              go_wp2_with fail
              refine (SG.out _).mono ?_
              rintro e wz ⟨rfl, hz⟩
              replace hz := hz.symm
              subst hz
              go_wp2_with fail
              go_ret2
              exact KK.out _ _ _ rfl SP.out
          · skip
            cases zb : Ie.isz b
            · skip
              exact div_fin a b w a0 a1 b0 b1 hT na ia nb ib zb
            · skip
              have SP : Hid (Ie.DivIs a b 9221120237041090560 1) := by rw [Hid, Ie.DivIs, na, nb, ia, ib, za, zb]; simp
              rw [na] at NA
              rw [nb] at NB
              rw [ia] at IA
              rw [ib] at IB
              rw [za] at ZA
              rw [zb] at ZB
              clear na nb ia ib hT za zb
              go_enter Tryd.func15, Tryd.ntmps15
              go_wp2_with fail
              refine (NA.out _).mono ?_
              rintro e wz ⟨rfl, hz⟩
              replace hz := hz.symm
              subst hz
              go_wp2_with fail
              refine (NB.out _).mono ?_
              rintro e wz ⟨rfl, hz⟩
              replace hz := hz.symm
              subst hz
              go_wp2_with fail
              refine (IA.out _).mono ?_
              rintro e wz ⟨rfl, hz⟩
              replace hz := hz.symm
              subst hz
              go_wp2_with fail
              refine (ZA.out _).mono ?_
              rintro e wz ⟨rfl, hz⟩
              replace hz := hz.symm
              subst hz
              go_wp2_with fail
              refine (ZB.out _).mono ?_
              rintro e wz ⟨rfl, hz⟩
              replace hz := hz.symm
              subst hz
              go_wp2_with fail
              go_ret2
              exact KK.out _ _ _ rfl SP.out
        · skip
          cases za : Ie.isz a
          · skip
            have zb := Ie.not_iz ib
            have SP : Hid (Ie.DivIs a b (Ie.sb (Ie.ngd a != Ie.ngd b) 0) 0) := by rw [Hid, Ie.DivIs, na, nb, ia, ib, za, zb]; simp
            rw [na] at NA
            rw [nb] at NB
            rw [ia] at IA
            rw [ib] at IB
            rw [za] at ZA
            rw [zb] at ZB
            clear na nb ia ib hT za zb
            generalize hI : Ie.sb (Ie.ngd a != Ie.ngd b) 9218868437227405312 = sI at *
            generalize hO : Ie.sb (Ie.ngd a != Ie.ngd b) 0 = sO at *
            clear hI hO
            go_enter Tryd.func15, Tryd.ntmps15
            go_wp2_with fail
            refine (NA.out _).mono ?_
            rintro e wz ⟨rfl, hz⟩
            replace hz := hz.symm
            subst hz
            go_wp2_with fail
            refine (NB.out _).mono ?_
            rintro e wz ⟨rfl, hz⟩
            replace hz := hz.symm
            subst hz
            go_wp2_with fail
            refine (IA.out _).mono ?_
            rintro e wz ⟨rfl, hz⟩
            replace hz := hz.symm
            subst hz
            go_wp2_with fail
            refine (ZA.out _).mono ?_
            rintro e wz ⟨rfl, hz⟩
            replace hz := hz.symm
            subst hz
            go_wp2_with fail
            refine (IA.out _).mono ?_
            rintro e wz ⟨rfl, hz⟩
            replace hz := hz.symm
            subst hz
            go_wp2_with fail
            refine (IB.out _).mono ?_
            rintro e wz ⟨rfl, hz⟩
            replace hz := hz.symm
            subst hz
            go_wp2_with fail
            refine (SG.out _).mono ?_
            rintro e wz ⟨rfl, hz⟩
            replace hz := hz.symm
            subst hz
            go_wp2_with fail
            go_ret2
            exact KK.out _ _ _ rfl SP.out
          · skip
            have zb := Ie.not_iz ib
            have SP : Hid (Ie.DivIs a b (Ie.sb (Ie.ngd a != Ie.ngd b) 0) 0) := by rw [Hid, Ie.DivIs, na, nb, ia, ib, za, zb]; simp
            rw [na] at NA
            rw [nb] at NB
            rw [ia] at IA
            rw [ib] at IB
            rw [za] at ZA
            rw [zb] at ZB
            clear na nb ia ib hT za zb
            generalize hI : Ie.sb (Ie.ngd a != Ie.ngd b) 9218868437227405312 = sI at *
            generalize hO : Ie.sb (Ie.ngd a != Ie.ngd b) 0 = sO at *
            clear hI hO
            go_enter Tryd.func15, Tryd.ntmps15
            go_wp2_with fail
            refine (NA.out _).mono ?_
            rintro e wz ⟨rfl, hz⟩
            replace hz := hz.symm
            subst hz
            go_wp2_with fail
            refine (NB.out _).mono ?_
            rintro e wz ⟨rfl, hz⟩
            replace hz := hz.symm
            subst hz
            go_wp2_with fail
            refine (IA.out _).mono ?_
            rintro e wz ⟨rfl, hz⟩
            replace hz := hz.symm
            subst hz
            go_wp2_with fail
            refine (ZA.out _).mono ?_
            rintro e wz ⟨rfl, hz⟩
            replace hz := hz.symm
            subst hz
            go_wp2_with fail
            refine (ZB.out _).mono ?_
            rintro e wz ⟨rfl, hz⟩
            replace hz := hz.symm
            subst hz
            go_wp2_with fail
            refine (IA.out _).mono ?_
            rintro e wz ⟨rfl, hz⟩
            replace hz := hz.symm
            subst hz
            go_wp2_with fail
            refine (IB.out _).mono ?_
            rintro e wz ⟨rfl, hz⟩
            replace hz := hz.symm
            subst hz
            go_wp2_with fail
            refine (SG.out _).mono ?_
            rintro e wz ⟨rfl, hz⟩
            replace hz := hz.symm
            subst hz
            go_wp2_with fail
            go_ret2
            exact KK.out _ _ _ rfl SP.out
      · cases ib : Ie.isi b
        · skip
          have za := Ie.not_iz ia
          cases zb : Ie.isz b
          · skip
            have SP : Hid (Ie.DivIs a b (Ie.sb (Ie.ngd a != Ie.ngd b) 9218868437227405312) 0) := by rw [Hid, Ie.DivIs, na, nb, ia, ib, za, zb]; simp
            rw [na] at NA
            rw [nb] at NB
            rw [ia] at IA
            rw [ib] at IB
            rw [za] at ZA
            rw [zb] at ZB
            clear na nb ia ib hT za zb
            generalize hI : Ie.sb (Ie.ngd a != Ie.ngd b) 9218868437227405312 = sI at *
            generalize hO : Ie.sb (Ie.ngd a != Ie.ngd b) 0 = sO at *
            clear hI hO
            go_enter Tryd.func15, Tryd.ntmps15
            go_wp2_with fail
            refine (NA.out _).mono ?_
            rintro e wz ⟨rfl, hz⟩
            replace hz := hz.symm
            subst hz
            go_wp2_with fail
            refine (NB.out _).mono ?_
            rintro e wz ⟨rfl, hz⟩
            replace hz := hz.symm
            subst hz
            go_wp2_with fail
            refine (IA.out _).mono ?_
            rintro e wz ⟨rfl, hz⟩
            replace hz := hz.symm
            subst hz
            go_wp2_with fail
            refine (IB.out _).mono ?_
            rintro e wz ⟨rfl, hz⟩
            replace hz := hz.symm
            subst hz
            go_wp2_with fail
            refine (ZA.out _).mono ?_
            rintro e wz ⟨rfl, hz⟩
            replace hz := hz.symm
            subst hz
            go_wp2_with fail
            refine (IA.out _).mono ?_
            rintro e wz ⟨rfl, hz⟩
            replace hz := hz.symm
            subst hz
            go_wp2_with fail
            refine (SG.out _).mono ?_
            rintro e wz ⟨rfl, hz⟩
            replace hz := hz.symm
            subst hz
            go_wp2_with fail
            go_ret2
            exact KK.out _ _ _ rfl SP.out
          · skip
            have SP : Hid (Ie.DivIs a b (Ie.sb (Ie.ngd a != Ie.ngd b) 9218868437227405312) 0) := by rw [Hid, Ie.DivIs, na, nb, ia, ib, za, zb]; simp
            rw [na] at NA
            rw [nb] at NB
            rw [ia] at IA
            rw [ib] at IB
            rw [za] at ZA
            rw [zb] at ZB
            clear na nb ia ib hT za zb
            generalize hI : Ie.sb (Ie.ngd a != Ie.ngd b) 9218868437227405312 = sI at *
            generalize hO : Ie.sb (Ie.ngd a != Ie.ngd b) 0 = sO at *
            clear hI hO
            go_enter Tryd.func15, Tryd.ntmps15
            go_wp2_with fail
            refine (NA.out _).mono ?_
            rintro e wz ⟨rfl, hz⟩
            replace hz := hz.symm
            subst hz
            go_wp2_with fail
            refine (NB.out _).mono ?_
            rintro e wz ⟨rfl, hz⟩
            replace hz := hz.symm
            subst hz
            go_wp2_with fail
            refine (IA.out _).mono ?_
            rintro e wz ⟨rfl, hz⟩
            replace hz := hz.symm
            subst hz
            go_wp2_with fail
            refine (IB.out _).mono ?_
            rintro e wz ⟨rfl, hz⟩
            replace hz := hz.symm
            subst hz
            go_wp2_with fail
            refine (ZA.out _).mono ?_
            rintro e wz ⟨rfl, hz⟩
            replace hz := hz.symm
            subst hz
            go_wp2_with fail
            refine (IA.out _).mono ?_
            rintro e wz ⟨rfl, hz⟩
            replace hz := hz.symm
            subst hz
            go_wp2_with fail
            refine (SG.out _).mono ?_
            rintro e wz ⟨rfl, hz⟩
            replace hz := hz.symm
            subst hz
            go_wp2_with fail
            go_ret2
            exact KK.out _ _ _ rfl SP.out
        · skip
          have za := Ie.not_iz ia
          have zb := Ie.not_iz ib
          have SP : Hid (Ie.DivIs a b 9221120237041090560 1) := by rw [Hid, Ie.DivIs, na, nb, ia, ib, za, zb]; simp
          rw [na] at NA
          rw [nb] at NB
          rw [ia] at IA
          rw [ib] at IB
          rw [za] at ZA
          rw [zb] at ZB
          clear na nb ia ib hT za zb
          go_enter Tryd.func15, Tryd.ntmps15
          go_wp2_with fail
          refine (NA.out _).mono ?_
          rintro e wz ⟨rfl, hz⟩
          replace hz := hz.symm
          subst hz
          go_wp2_with fail
          refine (NB.out _).mono ?_
          rintro e wz ⟨rfl, hz⟩
          replace hz := hz.symm
          subst hz
          go_wp2_with fail
          refine (IA.out _).mono ?_
          rintro e wz ⟨rfl, hz⟩
          replace hz := hz.symm
          subst hz
          go_wp2_with fail
          refine (IB.out _).mono ?_
          rintro e wz ⟨rfl, hz⟩
          replace hz := hz.symm
          subst hz
          go_wp2_with fail
          go_ret2
          exact KK.out _ _ _ rfl SP.out
    · have SP : Hid (Ie.DivIs a b 9221120237041090560 0) := by rw [Hid, Ie.DivIs, na, nb]; simp
      rw [na] at NA
      rw [nb] at NB
      clear na nb hT
      go_enter Tryd.func15, Tryd.ntmps15
      go_wp2_with fail
      refine (NA.out _).mono ?_
      rintro e wz ⟨rfl, hz⟩
      replace hz := hz.symm
      subst hz
      go_wp2_with fail
      refine (NB.out _).mono ?_
      rintro e wz ⟨rfl, hz⟩
      replace hz := hz.symm
      subst hz
      go_wp2_with fail
      go_ret2
      exact KK.out _ _ _ rfl SP.out
  · have SP : Hid (Ie.DivIs a b 9221120237041090560 0) := by rw [Hid, Ie.DivIs, na]; simp
    rw [na] at NA
    clear na hT
    go_enter Tryd.func15, Tryd.ntmps15
    go_wp2_with fail
    refine (NA.out _).mono ?_
    rintro e wz ⟨rfl, hz⟩
    replace hz := hz.symm
    subst hz
    go_wp2_with fail
    go_ret2
    exact KK.out _ _ _ rfl SP.out

set_option maxRecDepth 100000 in
set_option maxHeartbeats 4000000 in
theorem softDiv_any (a b : Int) (w : World) (a0 : 0 ≤ a) (a1 : a < 18446744073709551616) (b0 : 0 ≤ b) (b1 : b < 18446744073709551616) (hT : Tab w) :
    Calls Tryd.prog 7 #[.int .u64 a, .int .u64 b] w fun e w' => Told1 (Ie.DivIs a b) w e w' := by
  have AD := hid (div_any a b w a0 a1 b0 b1 hT)
  clear hT
  go_enter Tryd.func7, Tryd.ntmps7
  go_wp2_with fail
  refine AD.out.mono ?_
  rintro e w1 ⟨r, f, rfl, h, hB⟩
  have KK : Hid (Told1 (Ie.DivIs a b) w (.returned (.int .u64 r)) w1) := ⟨r, f, rfl, h, hB⟩
  clear h hB AD
  go_wp2_with fail
  go_ret
  exact KK.out

end Go.Proofs.YtnldfeojookaeaaDoor

/-
  Rounded signed fractions: div.
-/
namespace Go.Proofs.YtnldfeojookaeaaDoor
namespace Ie


theorem DivIs.get {a b r f : Int} (fa : fin a) (fb : fin b) (hb : ab b ≠ 0) (h : DivIs a b r f) : Res (ngd a != ngd b) (dm a * 2 ^ 128 / dm b) (de a - 128 - de b) (decide (dm a * 2 ^ 128 % dm b ≠ 0)) r f := by
  have zb : isz b = false := by rw [isz, decide_eq_false_iff_not]; exact hb
  rw [DivIs, (fin_not fa).1, (fin_not fa).2, (fin_not fb).1, (fin_not fb).2, zb] at h
  simp only [Bool.false_eq_true, or_self, and_false, if_false] at h
  exact h

theorem near_zero (Q : Int) (hQ : 0 < Q) : Near 0 Q false 0 := by
  refine ⟨⟨by omega, by omega⟩, fun h => absurd h (by omega), fun _ => .inl ?_⟩
  rw [md_zero, Int.one_mul]; exact hQ

/-- A quotient cut at 128 bits and marked is rounded as the fraction. -/
theorem div_near {a b x : Int} (fa : fin a) (fb : fin b) (hb : ab b ≠ 0) (hR : Rnd (dm a * 2 ^ 128 / dm b) 1 (de a - 128 - de b) (decide (dm a * 2 ^ 128 % dm b ≠ 0)) x) : Near (2 * (un (ab a) * 2 ^ 1074)) (un (ab b)) false x := by
  obtain ⟨⟨da0, da1⟩, ⟨ea0, ea1⟩, ga, za⟩ := dec_f a fa
  obtain ⟨⟨db0, db1⟩, ⟨eb0, eb1⟩, gb, zb⟩ := dec_f b fb
  have bp := un_pos (x := ab b) (by have := (ab_bd b).1; omega)
  have dp : 0 < dm b := by omega
  rcases (show dm a = 0 ∨ 0 < dm a by omega) with h | h
  · rw [h, Int.zero_mul, Int.zero_ediv, Int.zero_emod] at hR
    have : x = 0 := hR.one (by omega) (by omega) (rnd_zero 1 (de a - 128 - de b) _ (by omega)) (a := 0) (a' := 0) (by omega) rfl
    subst this
    rw [za.1 h, un_zero, Int.zero_mul]
    exact near_zero _ bp
  · have hq : 18014398509481984 ≤ dm a * 2 ^ 128 / dm b := by
      rw [Int.le_ediv_iff_mul_le dp]
      have h1 : 1 * 2 ^ 128 ≤ dm a * 2 ^ 128 := Int.mul_le_mul_of_nonneg_right (by omega) (by have := Nm.two_pos 128; omega)
      have h2 : (2 : Int) ^ 128 = 340282366920938463463374607431768211456 := by decide
      omega
    have hF := rnd_floor (dm a * 2 ^ 128) (dm b) _ x dp hq hR
    obtain ⟨ka, hka⟩ : ∃ k : Nat, (k : Int) = de a + 1074 := ⟨(de a + 1074).toNat, by omega⟩
    obtain ⟨kb, hkb⟩ : ∃ k : Nat, (k : Int) = de b + 1074 := ⟨(de b + 1074).toNat, by omega⟩
    have hN := hF (ka + 947) kb (by omega)
    rw [gb kb hkb] at hN
    have e : dm a * 2 ^ 128 * 2 ^ (ka + 947) = 2 * (un (ab a) * 2 ^ 1074) := by
      have l : dm a * 2 ^ 128 * 2 ^ (ka + 947) = dm a * 2 ^ (ka + 1075) := by rw [Int.mul_assoc, ← Nm.two_add, show 128 + (ka + 947) = ka + 1075 by omega]
      have r : dm a * 2 ^ (ka + 1075) = 2 * (dm a * 2 ^ ka * 2 ^ 1074) := by
        rw [show ka + 1075 = (ka + 1074) + 1 by omega, Nm.two_succ, Nm.two_add]
        generalize (2 : Int) ^ 1074 = P
        generalize (2 : Int) ^ ka = R
        ac_rfl
      rw [l, r, ga ka hka]
    rw [e] at hN
    exact hN

theorem DivIs.rs {a b r f : Int} (fa : fin a) (fb : fin b) (hb : ab b ≠ 0) (h : DivIs a b r f) : RS (sn (ngd a != ngd b) (un (ab a) * 2 ^ 1074)) (un (ab b)) (ngd a != ngd b) r := by
  obtain ⟨x, t, L, rfl, -, hR, -, -⟩ := h.get fa fb hb
  exact ⟨_, _, x, rfl, rfl, Int.mul_nonneg (un_nn (ab_bd a).1) (by have := Nm.two_pos 1074; omega), div_near fa fb hb hR, fun _ => rfl⟩

end Ie
end Go.Proofs.YtnldfeojookaeaaDoor

/-
  What add, mul and div answer is one double (without fma).
-/
namespace Go.Proofs.YtnldfeojookaeaaDoor
open Go Go.RowKit Go.Deep

namespace Ie
theorem kindk (d : Int) : isn d = true ∨ (isn d = false ∧ isi d = true) ∨ (isn d = false ∧ isi d = false ∧ fin d) := by
  cases h : isn d
  · cases k : isi d
    · exact .inr (.inr ⟨rfl, rfl, fin_of h k⟩)
    · exact .inr (.inl ⟨rfl, rfl⟩)
  · exact .inl rfl

theorem AddIs.uniq {a b r r' f f' : Int} (h : AddIs a b r f) (k : AddIs a b r' f') : r' = r := by
  rcases kindk a with ha | ⟨ha, ia⟩ | ⟨ha, ia, fa⟩ <;> rcases kindk b with hb | ⟨hb, ib⟩ | ⟨hb, ib, fb⟩
  case inr.inr.inr.inr => exact (k.rs fa fb).one (by omega) (by omega) (h.rs fa fb) rfl
  case inr.inl.inr.inl =>
    rw [AddIs, ha, hb, ia, ib] at h k
    by_cases e : a = b
    · simp only [e, Bool.false_eq_true, or_self, if_false, ne_eq, not_true_eq_false, and_false, if_true] at h k; omega
    · simp only [e, Bool.false_eq_true, or_self, if_false, ne_eq, not_false_eq_true, and_self, if_true] at h k; omega
  all_goals
    rw [AddIs] at h k
    simp_all
    try omega

theorem Res.uniq {neg more : Bool} {V e r r' f f' : Int} (h : Res neg V e more r f) (k : Res neg V e more r' f') : r' = r := by
  obtain ⟨x, t, L, rfl, _, hR, _⟩ := h
  obtain ⟨y, t', L', rfl, _, hR', _⟩ := k
  obtain ⟨a, b, hab, hN⟩ := hR.at
  have hp : (0 : Int) < 1 * 2 ^ b := by have := Nm.two_pos b; omega
  rw [(hR' a b hab).one hp hp hN rfl]

theorem MulIs.uniq {a b r r' f f' : Int} (h : MulIs a b r f) (k : MulIs a b r' f') : r' = r := by
  unfold MulIs at h k
  split at h
  · rename_i g; rw [if_pos g] at k; rw [h.1, k.1]
  rename_i g; rw [if_neg g] at k
  split at h
  · rename_i g; rw [if_pos g] at k; rw [h.1, k.1]
  rename_i g; rw [if_neg g] at k
  split at h
  · rename_i g; rw [if_pos g] at k; rw [h.1, k.1]
  rename_i g; rw [if_neg g] at k
  exact h.uniq k

theorem DivIs.uniq {a b r r' f f' : Int} (h : DivIs a b r f) (k : DivIs a b r' f') : r' = r := by
  unfold DivIs at h k
  split at h
  · rename_i g; rw [if_pos g] at k; rw [h.1, k.1]
  rename_i g; rw [if_neg g] at k
  split at h
  · rename_i g; rw [if_pos g] at k; rw [h.1, k.1]
  rename_i g; rw [if_neg g] at k
  split at h
  · rename_i g; rw [if_pos g] at k; rw [h.1, k.1]
  rename_i g; rw [if_neg g] at k
  split at h
  · rename_i g; rw [if_pos g] at k; rw [h.1, k.1]
  rename_i g; rw [if_neg g] at k
  split at h
  · rename_i g; rw [if_pos g] at k; rw [h.1, k.1]
  rename_i g; rw [if_neg g] at k
  exact h.uniq k
end Ie
end Go.Proofs.YtnldfeojookaeaaDoor
