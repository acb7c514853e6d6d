/-
  THE WALK OF NatSums.
-/
import Derived.Test.YtamlindelmfbiaaAwake
import Derived.Test.YtamlindelmfbiaaSub
namespace Go.Proofs.Ytamlindelmfbiaa
open Go.RowKit Go.Deep

set_option maxRecDepth 100000 in
set_option maxHeartbeats 8000000 in
/-- The three ways in which two numbers can lie: c is what Cmp tells; (u, v) what the two differences' errors are. -/
theorem sums_ok (c u v : Int) (p q : Option Addr) (n cap m cap' : Nat) (za zb : List Int) (w : World) (ha : Arg w p n cap za) (hb : Arg w q m cap' zb) (ta : Nm.tsize za < 4096) (tb : Nm.tsize zb < 4096)
    (hcase : (c = -1 ∧ u = 10 ∧ v = 0 ∧ Nm.val za < Nm.val zb) ∨ (c = 0 ∧ u = 0 ∧ v = 0 ∧ Nm.val za = Nm.val zb) ∨ (c = 1 ∧ u = 0 ∧ v = 10 ∧ Nm.val zb < Nm.val za)) :
    Calls Try.prog 4 #[.slice p n cap, .slice q m cap'] w fun e w' => e = .returned (.bool true) ∧ Below w.heap.size w w' := by
  have x0 := (Nm.val_bd za ha.2.2.2.2).1
  have y0 := (Nm.val_bd zb hb.2.2.2.2).1
  have x1 := (Nm.tsize_le_iff ha.2.2.2.2 4095).1 (by omega)
  have y1 := (Nm.tsize_le_iff hb.2.2.2.2 4095).1 (by omega)
  have s1 : Nm.val za + Nm.val zb < Nm.pw (4095 + 1) := by rw [Nm.pw_succ]; have := Nm.pw_pos 4095; omega
  have B1 : Hid (Nm.val za + Nm.val zb < Nm.pw 4096) := s1
  have B2 : Hid (Nm.val zb + Nm.val za < Nm.pw 4096) := by rw [Hid, Int.add_comm]; exact s1
  obtain ⟨c1, C1⟩ : ∃ c1, Hid (cmpI (Nm.val za + Nm.val zb) (Nm.val za) = c1) := ⟨_, rfl⟩
  obtain ⟨c2, C2⟩ : ∃ c2, Hid (cmpI (Nm.val za + Nm.val zb) (Nm.val zb) = c2) := ⟨_, rfl⟩
  have hc1 : ¬ c1 < 0 := by rw [← C1.out]; unfold cmpI; rw [if_neg (by omega)]; split <;> omega
  have hc2 : ¬ c2 < 0 := by rw [← C2.out]; unfold cmpI; rw [if_neg (by omega)]; split <;> omega
  have LE1 : Hid (Nm.val za ≤ Nm.val za + Nm.val zb) := by show _ ≤ _; omega
  have LE2 : Hid (Nm.val zb ≤ Nm.val za + Nm.val zb) := by show _ ≤ _; omega
  have HA := hid ha
  have HB := hid hb
  have AL := hid ha.1
  have BL := hid hb.1
  have hn44 : n ≤ 17592186044416 := by have := ha.2.1; have := ha.2.2.1; omega
  have hm44 : m ≤ 17592186044416 := by have := hb.2.1; have := hb.2.2.1; omega
  have ta' : ¬ (4096 : Int) ≤ (Nm.tsize za : Int) := by omega
  have tb' : ¬ (4096 : Int) ≤ (Nm.tsize zb : Int) := by omega
  clear x0 y0 x1 y1 s1 ha hb
  rcases hcase with ⟨rfl, rfl, rfl, hv⟩ | ⟨rfl, rfl, rfl, hv⟩ | ⟨rfl, rfl, rfl, hv⟩
  all_goals
    have HV := hid hv
    clear hv
    go_enter Try.func4, Try.ntmps4
    go_wp2_with fail
    refine (awake_any _).mono ?_
    rintro e w1 ⟨rfl, hb1⟩
    have D1 := hid hb1
    clear hb1
    go_wp2_with fail
    refine (size_any p n cap za _ AL.out (by omega) (HA.out.below D1.out (Nat.le_refl _)).2.2.2.1).mono ?_
    rintro e w2 ⟨rfl, rfl⟩
    go_wp2_with fail
    refine (size_any q m cap' zb _ BL.out (by omega) (HB.out.below D1.out (Nat.le_refl _)).2.2.2.1).mono ?_
    rintro e w2 ⟨rfl, rfl⟩
    go_wp2_with fail
    refine (add_ok p q n cap m cap' za zb _ (HA.out.below D1.out (Nat.le_refl _)) (HB.out.below D1.out (Nat.le_refl _)) B1.out).mono ?_
    rintro e w3 ⟨r1, o1, rfl, ha1, hb1⟩
    have D3 := hid (chain D1.out hb1 (Nat.le_refl _))
    have A1 := hid ha1
    have l1 := ha1.small B1.out
    clear hb1 ha1
    go_wp2_with fail
    refine (add_ok q p m cap' n cap zb za _ (HB.out.below D3.out (Nat.le_refl _)) (HA.out.below D3.out (Nat.le_refl _)) B2.out).mono ?_
    rintro e w4 ⟨r2, o2, rfl, ha2, hb1⟩
    have D4 := hid (chain D3.out hb1 (Nat.le_refl _))
    have A1b := hid (A1.out.below hb1 (Nat.le_refl _))
    have A2 := hid ha2
    have l2 := ha2.small B2.out
    have S1 : Hid (decide (o1 = o2) = true) := by
      simp only [Hid, decide_eq_true_eq]
      exact Nm.canon A1b.out.2.1 ha2.2.1 A1b.out.2.2.1 ha2.2.2.1 (by rw [A1b.out.2.2.2.1, ha2.2.2.2.1, Int.add_comm])
    clear hb1 ha2 A1
    go_wp2_with fail
    refine (same_is true r1 r2 _ _ _ _ o1 o2 _ (A1b.out.arg (by omega)) (A2.out.arg (by omega)) S1.out).mono ?_
    rintro e w5 ⟨rfl, hb1⟩
    have D5 := hid (chain D4.out hb1 (Nat.le_refl _))
    have A1c := hid (A1b.out.below hb1 (Nat.le_refl _))
    clear hb1 A1b A2 S1
    go_wp2_with fail
    refine (cmp_is c1 r1 p _ _ n cap o1 za _ (A1c.out.arg (by omega)) (HA.out.below D5.out (Nat.le_refl _)) ((congrArg (fun v => cmpI v (Nm.val za)) A1c.out.2.2.2.1).trans C1.out)).mono ?_
    rintro e w6 ⟨rfl, hb1⟩
    have D6 := hid (chain D5.out hb1 (Nat.le_refl _))
    have A1d := hid (A1c.out.below hb1 (Nat.le_refl _))
    clear hb1 A1c
    go_wp2_with fail
    refine (cmp_is c2 r1 q _ _ m cap' o1 zb _ (A1d.out.arg (by omega)) (HB.out.below D6.out (Nat.le_refl _)) ((congrArg (fun v => cmpI v (Nm.val zb)) A1d.out.2.2.2.1).trans C2.out)).mono ?_
    rintro e w7 ⟨rfl, hb1⟩
    have D7 := hid (chain D6.out hb1 (Nat.le_refl _))
    have A1e := hid (A1d.out.below hb1 (Nat.le_refl _))
    clear hb1 A1d
    go_wp2_with fail
    refine (sub_ok r1 p _ _ n cap o1 za _ (A1e.out.arg (by omega)) (HA.out.below D7.out (Nat.le_refl _)) (by rw [A1e.out.2.2.1]; exact l1) (by rw [A1e.out.2.2.2.1]; exact LE1.out)).mono ?_
    rintro e w8 ⟨r3, o3, rfl, ha3, hb1⟩
    rw [A1e.out.2.2.2.1] at ha3
    have D8 := hid (chain D7.out hb1 (Nat.le_refl _))
    have A1f := hid (A1e.out.below hb1 (Nat.le_refl _))
    have V3 : Hid (Nm.val o3 = Nm.val zb) := by rw [Hid, ha3.2.2.2.1]; omega
    have l3 : o3.length ≤ 4096 := by have := ha3.len HB.out.2.2.2.2 (by omega); omega
    have A3 := hid ha3
    clear hb1 ha3 A1e
    go_wp2_with fail
    refine (sub_ok r1 q _ _ m cap' o1 zb _ (A1f.out.arg (by omega)) (HB.out.below D8.out (Nat.le_refl _)) (by rw [A1f.out.2.2.1]; exact l1) (by rw [A1f.out.2.2.2.1]; exact LE2.out)).mono ?_
    rintro e w9 ⟨r4, o4, rfl, ha4, hb1⟩
    rw [A1f.out.2.2.2.1] at ha4
    have D9 := hid (chain D8.out hb1 (Nat.le_refl _))
    have A3b := hid (A3.out.below hb1 (Nat.le_refl _))
    have V4 : Hid (Nm.val o4 = Nm.val za) := by rw [Hid, ha4.2.2.2.1]; omega
    have l4 : o4.length ≤ 4096 := by have := ha4.len HA.out.2.2.2.2 (by omega); omega
    have A4 := hid ha4
    clear hb1 ha4 A1f A3
    go_wp2_with fail
    refine (cmp_is 0 r3 q _ _ m cap' o3 zb _ (A3b.out.arg (by omega)) (HB.out.below D9.out (Nat.le_refl _)) (cmpI_eq V3.out)).mono ?_
    rintro e w10 ⟨rfl, hb1⟩
    have D10 := hid (chain D9.out hb1 (Nat.le_refl _))
    have A4b := hid (A4.out.below hb1 (Nat.le_refl _))
    clear hb1 A3b A4
    go_wp2_with fail
    refine (cmp_is 0 r4 p _ _ n cap o4 za _ (A4b.out.arg (by omega)) (HA.out.below D10.out (Nat.le_refl _)) (cmpI_eq V4.out)).mono ?_
    rintro e w11 ⟨rfl, hb1⟩
    have D11 := hid (chain D10.out hb1 (Nat.le_refl _))
    clear hb1 A4b
    go_wp2_with fail
    refine (cmp_is _ p q n cap m cap' za zb _ (HA.out.below D11.out (Nat.le_refl _)) (HB.out.below D11.out (Nat.le_refl _)) (by first | exact cmpI_lt HV.out | exact cmpI_eq HV.out | exact cmpI_gt HV.out)).mono ?_
    rintro e w12 ⟨rfl, hb1⟩
    have D12 := hid (chain D11.out hb1 (Nat.le_refl _))
    clear hb1
    go_wp2_with fail
    first
      | (refine (sub_below p q n cap m cap' za zb _ (HA.out.below D12.out (Nat.le_refl _)) (HB.out.below D12.out (Nat.le_refl _)) (by omega) (by omega) HV.out).mono ?_; rintro e w13 ⟨rfl, hb1⟩)
      | (refine (sub_ok p q n cap m cap' za zb _ (HA.out.below D12.out (Nat.le_refl _)) (HB.out.below D12.out (Nat.le_refl _)) (by omega) (by have := HV.out; omega)).mono ?_; rintro e w13 ⟨r5, o5, rfl, -, hb1⟩)
    have D13 := hid (chain D12.out hb1 (Nat.le_refl _))
    clear hb1
    go_wp2_with fail
    first
      | (refine (sub_below q p m cap' n cap zb za _ (HB.out.below D13.out (Nat.le_refl _)) (HA.out.below D13.out (Nat.le_refl _)) (by omega) (by omega) HV.out).mono ?_; rintro e w14 ⟨rfl, hb1⟩)
      | (refine (sub_ok q p m cap' n cap zb za _ (HB.out.below D13.out (Nat.le_refl _)) (HA.out.below D13.out (Nat.le_refl _)) (by omega) (by have := HV.out; omega)).mono ?_; rintro e w14 ⟨r6, o6, rfl, -, hb1⟩)
    have D14 := hid (chain D13.out hb1 (Nat.le_refl _))
    clear hb1
    go_wp2_with fail
    go_ret
    exact ⟨rfl, D14.out⟩
end Go.Proofs.Ytamlindelmfbiaa
