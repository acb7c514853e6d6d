/-
  THE WALK OF NatRing.
-/
import Derived.Test.YtamlindelmfbiaaAwake
import Derived.Test.YtamlindelmfbiaaSmall
namespace Go.Proofs.Ytamlindelmfbiaa
open Go.RowKit Go.Deep

theorem mul_lt_pw {x y : Int} {a b : Nat} (hx : 0 ≤ x) (hx1 : x < Nm.pw a) (hy : 0 ≤ y) (hy1 : y < Nm.pw b) : 0 ≤ x * y ∧ x * y < Nm.pw (a + b) := by
  refine ⟨Int.mul_nonneg hx hy, ?_⟩
  rw [Nm.pw_add]
  have h1 : x * y ≤ x * Nm.pw b := Int.mul_le_mul_of_nonneg_left (by omega) hx
  have h2 : x * Nm.pw b < Nm.pw a * Nm.pw b := Int.mul_lt_mul_of_pos_right hx1 (Nm.pw_pos b)
  omega

theorem pw_le {a b : Nat} {x : Int} (h : x < Nm.pw a) (hab : a ≤ b) : x < Nm.pw b := by
  have := Nm.pw_mono hab
  omega

set_option maxRecDepth 100000 in
set_option maxHeartbeats 4000000 in
theorem ring_ok (p q r : Option Addr) (n cap m cap' k cap'' : Nat) (za zb zc : List Int) (w : World) (ha : Arg w p n cap za) (hb : Arg w q m cap' zb) (hc : Arg w r k cap'' zc) (ta : Nm.tsize za ≤ 1000) (tb : Nm.tsize zb ≤ 1000) (tc : Nm.tsize zc ≤ 1000) :
    Calls Try.prog 5 #[.slice p n cap, .slice q m cap', .slice r k cap''] w fun e w' => e = .returned (.bool true) ∧ Below w.heap.size w w' := by
  have x0 := (Nm.val_bd za ha.2.2.2.2).1
  have y0 := (Nm.val_bd zb hb.2.2.2.2).1
  have z0 := (Nm.val_bd zc hc.2.2.2.2).1
  have x1 := (Nm.tsize_le_iff ha.2.2.2.2 1000).1 ta
  have y1 := (Nm.tsize_le_iff hb.2.2.2.2 1000).1 tb
  have z1 := (Nm.tsize_le_iff hc.2.2.2.2 1000).1 tc
  have yz1 : Nm.val zb + Nm.val zc < Nm.pw 1001 := by rw [Nm.pw_succ]; have := Nm.pw_pos 1000; omega
  have L := mul_lt_pw x0 x1 (show 0 ≤ Nm.val zb + Nm.val zc by omega) yz1
  have AB := mul_lt_pw x0 x1 y0 y1
  have AC := mul_lt_pw z0 z1 x0 x1
  have BC := mul_lt_pw y0 y1 z0 z1
  have ABC := mul_lt_pw AB.1 AB.2 z0 z1
  have BCA := mul_lt_pw BC.1 BC.2 x0 x1
  have RR : Nm.val za * Nm.val zb + Nm.val zc * Nm.val za < Nm.pw (1000 + 1000 + 1) := by
    rw [Nm.pw_succ]
    have := Nm.pw_pos (1000 + 1000)
    omega
  have EQ1 : Hid (Nm.val za * (Nm.val zb + Nm.val zc) = Nm.val za * Nm.val zb + Nm.val zc * Nm.val za) := by rw [Hid, Int.mul_add, Int.mul_comm (Nm.val zc)]
  have EQ2 : Hid (Nm.val za * Nm.val zb * Nm.val zc = Nm.val zb * Nm.val zc * Nm.val za) := by rw [Hid, Int.mul_comm (Nm.val zb * Nm.val zc), Int.mul_assoc]
  have B1 := hid (pw_le yz1 (show 1001 ≤ 4096 by omega))
  have B2 := hid (pw_le L.2 (show 1000 + 1001 ≤ 4096 by omega))
  have B3 := hid (pw_le AB.2 (show 1000 + 1000 ≤ 4096 by omega))
  have B4 := hid (pw_le AC.2 (show 1000 + 1000 ≤ 4096 by omega))
  have B5 := hid (pw_le RR (show 1000 + 1000 + 1 ≤ 4096 by omega))
  have B6 := hid (pw_le ABC.2 (show 1000 + 1000 + 1000 ≤ 4096 by omega))
  have B7 := hid (pw_le BC.2 (show 1000 + 1000 ≤ 4096 by omega))
  have B8 := hid (pw_le BCA.2 (show 1000 + 1000 + 1000 ≤ 4096 by omega))
  have HA := hid ha
  have HB := hid hb
  have HC := hid hc
  have AL := hid ha.1
  have BL := hid hb.1
  have CL := hid hc.1
  have hn44 : n ≤ 17592186044416 := by have := ha.2.1; have := ha.2.2.1; omega
  have hm44 : m ≤ 17592186044416 := by have := hb.2.1; have := hb.2.2.1; omega
  have hk44 : k ≤ 17592186044416 := by have := hc.2.1; have := hc.2.2.1; omega
  have ta' : ¬ (1000 : Int) < (Nm.tsize za : Int) := by omega
  have tb' : ¬ (1000 : Int) < (Nm.tsize zb : Int) := by omega
  have tc' : ¬ (1000 : Int) < (Nm.tsize zc : Int) := by omega
  clear x0 y0 z0 x1 y1 z1 yz1 L AB AC BC ABC BCA RR ha hb hc
  go_enter Try.func5, Try.ntmps5
  go_wp2_with fail
  refine (awake_any _).mono ?_
  rintro e w1 ⟨rfl, hb1⟩
  have D1 := hid hb1
  clear hb1
  go_wp2_with fail
  refine (size_any p n cap za _ AL.out (by omega) (HA.out.below D1.out (Nat.le_refl _)).2.2.2.1).mono ?_
  rintro e w2 ⟨rfl, rfl⟩
  go_wp2_with fail
  refine (size_any q m cap' zb _ BL.out (by omega) (HB.out.below D1.out (Nat.le_refl _)).2.2.2.1).mono ?_
  rintro e w2 ⟨rfl, rfl⟩
  go_wp2_with fail
  refine (size_any r k cap'' zc _ CL.out (by omega) (HC.out.below D1.out (Nat.le_refl _)).2.2.2.1).mono ?_
  rintro e w2 ⟨rfl, rfl⟩
  go_wp2_with fail
  -- bc
  refine (add_ok q r m cap' k cap'' zb zc _ (HB.out.below D1.out (Nat.le_refl _)) (HC.out.below D1.out (Nat.le_refl _)) B1.out).mono ?_
  rintro e w3 ⟨r1, o1, rfl, ha1, hb1⟩
  have D3 := hid (chain D1.out hb1 (Nat.le_refl _))
  have A1 := hid ha1
  have l1 := ha1.small B1.out
  clear hb1 ha1
  go_wp2_with fail
  -- left
  refine (mul_ok p r1 n cap _ _ za o1 _ (HA.out.below D3.out (Nat.le_refl _)) (A1.out.arg (by omega)) (by omega) (by rw [A1.out.2.2.1]; exact l1) (by rw [A1.out.2.2.2.1]; exact B2.out)).mono ?_
  rintro e w4 ⟨r2, o2, rfl, ha2, hb1⟩
  rw [A1.out.2.2.2.1] at ha2
  have D4 := hid (chain D3.out hb1 (Nat.le_refl _))
  have A2 := hid ha2
  have l2 := ha2.small B2.out
  clear hb1 ha2 A1
  go_wp2_with fail
  -- ab
  refine (mul_ok p q n cap m cap' za zb _ (HA.out.below D4.out (Nat.le_refl _)) (HB.out.below D4.out (Nat.le_refl _)) (by omega) (by omega) B3.out).mono ?_
  rintro e w5 ⟨r3, o3, rfl, ha3, hb1⟩
  have D5 := hid (chain D4.out hb1 (Nat.le_refl _))
  have A2b := hid (A2.out.below hb1 (Nat.le_refl _))
  have A3 := hid ha3
  have l3 := ha3.small B3.out
  clear hb1 ha3 A2
  go_wp2_with fail
  -- ac
  refine (mul_ok r p k cap'' n cap zc za _ (HC.out.below D5.out (Nat.le_refl _)) (HA.out.below D5.out (Nat.le_refl _)) (by omega) (by omega) B4.out).mono ?_
  rintro e w6 ⟨r4, o4, rfl, ha4, hb1⟩
  have D6 := hid (chain D5.out hb1 (Nat.le_refl _))
  have A2c := hid (A2b.out.below hb1 (Nat.le_refl _))
  have A3b := hid (A3.out.below hb1 (Nat.le_refl _))
  have A4 := hid ha4
  have l4 := ha4.small B4.out
  clear hb1 ha4 A2b A3
  go_wp2_with fail
  -- right
  refine (add_ok r3 r4 _ _ _ _ o3 o4 _ (A3b.out.arg (by omega)) (A4.out.arg (by omega)) (by rw [A3b.out.2.2.2.1, A4.out.2.2.2.1]; exact B5.out)).mono ?_
  rintro e w7 ⟨r5, o5, rfl, ha5, hb1⟩
  rw [A3b.out.2.2.2.1, A4.out.2.2.2.1] at ha5
  have D7 := hid (chain D6.out hb1 (Nat.le_refl _))
  have A2d := hid (A2c.out.below hb1 (Nat.le_refl _))
  have A3c := hid (A3b.out.below hb1 (Nat.le_refl _))
  have A5 := hid ha5
  have l5 := ha5.small B5.out
  have S1 : Hid (decide (o2 = o5) = true) := by
    simp only [Hid, decide_eq_true_eq]
    exact Nm.canon A2d.out.2.1 ha5.2.1 A2d.out.2.2.1 ha5.2.2.1 (by rw [A2d.out.2.2.2.1, ha5.2.2.2.1]; exact EQ1.out)
  clear hb1 ha5 A2c A3b A4
  go_wp2_with fail
  refine (same_is true r2 r5 _ _ _ _ o2 o5 _ (A2d.out.arg (by omega)) (A5.out.arg (by omega)) S1.out).mono ?_
  rintro e w8 ⟨rfl, hb1⟩
  have D8 := hid (chain D7.out hb1 (Nat.le_refl _))
  have A3d := hid (A3c.out.below hb1 (Nat.le_refl _))
  clear hb1 A2d A3c A5 S1
  go_wp2_with fail
  -- p
  refine (mul_ok r3 r _ _ k cap'' o3 zc _ (A3d.out.arg (by omega)) (HC.out.below D8.out (Nat.le_refl _)) (by rw [A3d.out.2.2.1]; exact l3) (by omega) (by rw [A3d.out.2.2.2.1]; exact B6.out)).mono ?_
  rintro e w9 ⟨r6, o6, rfl, ha6, hb1⟩
  rw [A3d.out.2.2.2.1] at ha6
  have D9 := hid (chain D8.out hb1 (Nat.le_refl _))
  have A6 := hid ha6
  have l6 := ha6.small B6.out
  clear hb1 ha6 A3d
  go_wp2_with fail
  -- q
  refine (mul_ok q r m cap' k cap'' zb zc _ (HB.out.below D9.out (Nat.le_refl _)) (HC.out.below D9.out (Nat.le_refl _)) (by omega) (by omega) B7.out).mono ?_
  rintro e w10 ⟨r7, o7, rfl, ha7, hb1⟩
  have D10 := hid (chain D9.out hb1 (Nat.le_refl _))
  have A6b := hid (A6.out.below hb1 (Nat.le_refl _))
  have A7 := hid ha7
  have l7 := ha7.small B7.out
  clear hb1 ha7 A6
  go_wp2_with fail
  -- r
  refine (mul_ok r7 p _ _ n cap o7 za _ (A7.out.arg (by omega)) (HA.out.below D10.out (Nat.le_refl _)) (by rw [A7.out.2.2.1]; exact l7) (by omega) (by rw [A7.out.2.2.2.1]; exact B8.out)).mono ?_
  rintro e w11 ⟨r8, o8, rfl, ha8, hb1⟩
  rw [A7.out.2.2.2.1] at ha8
  have D11 := hid (chain D10.out hb1 (Nat.le_refl _))
  have A6c := hid (A6b.out.below hb1 (Nat.le_refl _))
  have A8 := hid ha8
  have l8 := ha8.small B8.out
  have S2 : Hid (decide (o6 = o8) = true) := by
    simp only [Hid, decide_eq_true_eq]
    exact Nm.canon A6c.out.2.1 ha8.2.1 A6c.out.2.2.1 ha8.2.2.1 (by rw [A6c.out.2.2.2.1, ha8.2.2.2.1]; exact EQ2.out)
  clear hb1 ha8 A6b A7
  go_wp2_with fail
  refine (same_is true r6 r8 _ _ _ _ o6 o8 _ (A6c.out.arg (by omega)) (A8.out.arg (by omega)) S2.out).mono ?_
  rintro e w12 ⟨rfl, hb1⟩
  have D12 := hid (chain D11.out hb1 (Nat.le_refl _))
  clear hb1
  go_wp2_with fail
  go_ret
  exact ⟨rfl, D12.out⟩

set_option maxRecDepth 100000 in
set_option maxHeartbeats 1000000 in
/-- One of the three is too long: nothing is claimed. -/
theorem ring_long (p q r : Option Addr) (n cap m cap' k cap'' : Nat) (za zb zc : List Int) (w : World) (ha : Arg w p n cap za) (hb : Arg w q m cap' zb) (hc : Arg w r k cap'' zc)
    (h : 1000 < Nm.tsize za ∨ Nm.tsize za ≤ 1000 ∧ (1000 < Nm.tsize zb ∨ Nm.tsize zb ≤ 1000 ∧ 1000 < Nm.tsize zc)) :
    Calls Try.prog 5 #[.slice p n cap, .slice q m cap', .slice r k cap''] w fun e w' => e = .returned (.bool true) ∧ Below w.heap.size w w' := by
  have HA := hid ha
  have HB := hid hb
  have HC := hid hc
  have AL := hid ha.1
  have BL := hid hb.1
  have CL := hid hc.1
  have hn44 : n ≤ 17592186044416 := by have := ha.2.1; have := ha.2.2.1; omega
  have hm44 : m ≤ 17592186044416 := by have := hb.2.1; have := hb.2.2.1; omega
  have hk44 : k ≤ 17592186044416 := by have := hc.2.1; have := hc.2.2.1; omega
  clear ha hb hc
  rcases h with ta | ⟨ta, h⟩
  · have ta' : (1000 : Int) < (Nm.tsize za : Int) := by omega
    go_enter Try.func5, Try.ntmps5
    go_wp2_with fail
    refine (awake_any _).mono ?_
    rintro e w1 ⟨rfl, hb1⟩
    have D1 := hid hb1
    clear hb1
    go_wp2_with fail
    refine (size_any p n cap za _ AL.out (by omega) (HA.out.below D1.out (Nat.le_refl _)).2.2.2.1).mono ?_
    rintro e w2 ⟨rfl, rfl⟩
    go_wp2_with fail
    go_ret
    exact ⟨rfl, D1.out⟩
  have ta' : ¬ (1000 : Int) < (Nm.tsize za : Int) := by omega
  rcases h with tb | ⟨tb, tc⟩
  · have tb' : (1000 : Int) < (Nm.tsize zb : Int) := by omega
    go_enter Try.func5, Try.ntmps5
    go_wp2_with fail
    refine (awake_any _).mono ?_
    rintro e w1 ⟨rfl, hb1⟩
    have D1 := hid hb1
    clear hb1
    go_wp2_with fail
    refine (size_any p n cap za _ AL.out (by omega) (HA.out.below D1.out (Nat.le_refl _)).2.2.2.1).mono ?_
    rintro e w2 ⟨rfl, rfl⟩
    go_wp2_with fail
    refine (size_any q m cap' zb _ BL.out (by omega) (HB.out.below D1.out (Nat.le_refl _)).2.2.2.1).mono ?_
    rintro e w2 ⟨rfl, rfl⟩
    go_wp2_with fail
    go_ret
    exact ⟨rfl, D1.out⟩
  · have tb' : ¬ (1000 : Int) < (Nm.tsize zb : Int) := by omega
    have tc' : (1000 : Int) < (Nm.tsize zc : Int) := by omega
    go_enter Try.func5, Try.ntmps5
    go_wp2_with fail
    refine (awake_any _).mono ?_
    rintro e w1 ⟨rfl, hb1⟩
    have D1 := hid hb1
    clear hb1
    go_wp2_with fail
    refine (size_any p n cap za _ AL.out (by omega) (HA.out.below D1.out (Nat.le_refl _)).2.2.2.1).mono ?_
    rintro e w2 ⟨rfl, rfl⟩
    go_wp2_with fail
    refine (size_any q m cap' zb _ BL.out (by omega) (HB.out.below D1.out (Nat.le_refl _)).2.2.2.1).mono ?_
    rintro e w2 ⟨rfl, rfl⟩
    go_wp2_with fail
    refine (size_any r k cap'' zc _ CL.out (by omega) (HC.out.below D1.out (Nat.le_refl _)).2.2.2.1).mono ?_
    rintro e w2 ⟨rfl, rfl⟩
    go_wp2_with fail
    go_ret
    exact ⟨rfl, D1.out⟩

theorem ring_any (p q r : Option Addr) (n cap m cap' k cap'' : Nat) (za zb zc : List Int) (w : World) (ha : Arg w p n cap za) (hb : Arg w q m cap' zb) (hc : Arg w r k cap'' zc) :
    Calls Try.prog 5 #[.slice p n cap, .slice q m cap', .slice r k cap''] w fun e w' => e = .returned (.bool true) ∧ Below w.heap.size w w' := by
  by_cases h : Nm.tsize za ≤ 1000 ∧ Nm.tsize zb ≤ 1000 ∧ Nm.tsize zc ≤ 1000
  · exact ring_ok p q r n cap m cap' k cap'' za zb zc w ha hb hc h.1 h.2.1 h.2.2
  · exact ring_long p q r n cap m cap' k cap'' za zb zc w ha hb hc (by omega)
end Go.Proofs.Ytamlindelmfbiaa
