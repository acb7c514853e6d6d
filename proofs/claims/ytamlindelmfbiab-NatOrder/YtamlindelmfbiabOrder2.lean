/-
  THE WALK OF NatOrder: the law itself, way by way.
-/
import Derived.Test.YtamlindelmfbiabOrder
namespace Go.Proofs.Ytamlindelmfbiab
open Go.RowKit Go.Deep

set_option maxRecDepth 100000 in
set_option maxHeartbeats 16000000 in
theorem order_case (c1 c2 c3 : Int) (s : Bool) (p q r : Option Addr) (n cap m cap' k cap'' : Nat) (za zb zc : List Int) (w : World) (ha : Arg w p n cap za) (hb : Arg w q m cap' zb) (hc : Arg w r k cap'' zc) (hn : n ≤ 17592186043904)
    (e1 : cmpI (Nm.val za) (Nm.val zb) = c1) (e2 : cmpI (Nm.val zb) (Nm.val zc) = c2) (e3 : cmpI (Nm.val za) (Nm.val zc) = c3) (e4 : cmpI (Nm.val zb) (Nm.val za) = -c1) (e5 : decide (Nm.trim za = Nm.trim zb) = s) (hcase : Tri c1 c2 c3 s) :
    Calls Try.prog 4 #[.slice p n cap, .slice q m cap', .slice r k cap''] w fun e w' => e = .returned (.bool true) ∧ Below w.heap.size w w' := by
  have E1 := hid e1
  have E2 := hid e2
  have E3 := hid e3
  have E4 := hid e4
  have E5 := hid e5
  have HA := hid ha
  have HB := hid hb
  have HC := hid hc
  have hal := ha.1
  have HAL := hid hal
  have htl : Nm.tsize za ≤ n := by have := Nm.tsize_le za; omega
  have htl' : Nm.tsize zb ≤ m := by have := Nm.tsize_le zb; have := hb.1; omega
  have hm44 : m ≤ 17592186044416 := by have := hb.2.1; have := hb.2.2.1; omega
  clear e1 e2 e3 e4 e5 ha hb hc hal
  unfold Tri at hcase
  rcases hcase with h | h | h | h | h | h | h | h | h | h | h | h | h
  all_goals
    obtain ⟨rfl, rfl, rfl, rfl⟩ := h
    go_enter Try.func4, Try.ntmps4
    go_wp2_with fail
    refine (awake_any _).mono ?_
    rintro e w1 ⟨rfl, hb1⟩
    have D1 := hid hb1
    clear hb1
    go_wp2_with fail
    refine (cmp_is _ p q n cap m cap' za zb _ (HA.out.below D1.out (Nat.le_refl _)) (HB.out.below D1.out (Nat.le_refl _)) E1.out).mono ?_
    rintro e w2 ⟨rfl, hb1⟩
    have D2 := hid (chain D1.out hb1 (Nat.le_refl _))
    clear hb1
    go_wp2_with fail
    refine (cmp_is _ q r m cap' k cap'' zb zc _ (HB.out.below D2.out (Nat.le_refl _)) (HC.out.below D2.out (Nat.le_refl _)) E2.out).mono ?_
    rintro e w3 ⟨rfl, hb1⟩
    have D3 := hid (chain D2.out hb1 (Nat.le_refl _))
    clear hb1
    go_wp2_with fail
    refine (cmp_is _ p r n cap k cap'' za zc _ (HA.out.below D3.out (Nat.le_refl _)) (HC.out.below D3.out (Nat.le_refl _)) E3.out).mono ?_
    rintro e w4 ⟨rfl, hb1⟩
    have D4 := hid (chain D3.out hb1 (Nat.le_refl _))
    clear hb1
    go_wp2_with fail
    refine (cmp_is _ q p m cap' n cap zb za _ (HB.out.below D4.out (Nat.le_refl _)) (HA.out.below D4.out (Nat.le_refl _)) E4.out).mono ?_
    rintro e w5 ⟨rfl, hb1⟩
    have D5 := hid (chain D4.out hb1 (Nat.le_refl _))
    clear hb1
    go_wp2_with fail
    refine (trim_any p n cap za _ (HA.out.below D5.out (Nat.le_refl _))).mono ?_
    rintro e w6 ⟨r1, o1, rfl, ho1, ha1, hb1⟩
    have O1 := hid ho1
    have A1 := hid ha1
    have D6 := hid (chain D5.out hb1 (Nat.le_refl _))
    clear hb1 ho1 ha1
    go_wp2_with fail
    refine (trim_any q m cap' zb _ (HB.out.below D6.out (Nat.le_refl _))).mono ?_
    rintro e w7 ⟨r2, o2, rfl, ho2, ha2, hb1⟩
    have O2 := hid ho2
    have A2 := hid ha2
    have A1' := hid (A1.out.below hb1 (Nat.le_refl _))
    have D7 := hid (chain D6.out hb1 (Nat.le_refl _))
    clear hb1 ho2 ha2 A1
    go_wp2_with fail
    have E6 := E5.out
    rw [← O1.out, ← O2.out] at E6
    have H6 := hid E6
    clear E6
    refine (same_is _ r1 r2 _ _ _ _ o1 o2 _ (A1'.out.arg (by rw [O1.out, Nm.trim_length]; omega)) (A2.out.arg (by rw [O2.out, Nm.trim_length]; omega)) H6.out).mono ?_
    rintro e w8 ⟨rfl, hb1⟩
    have D8 := hid (chain D7.out hb1 (Nat.le_refl _))
    clear hb1 A1' A2 O1 O2 H6
    have hmk := make64_room (n + 3) (by omega) w8
    have em : ((n + 3 : Nat) : Int) = (n : Int) + 3 := by omega
    rw [em] at hmk
    clear em
    obtain ⟨w9, w10, w11, ap1, ap2, ap3, ow3, be3⟩ := padded w8 p n cap za HAL.out (HA.out.below D8.out (Nat.le_refl _)).2.2.2.1
    have D11 := hid (chain D8.out be3 (Nat.le_refl _))
    have OW := hid ow3
    have AP1 := hid ap1
    have AP2 := hid ap2
    have AP3 := hid ap3
    clear ap1 ap2 ap3 ow3 be3
    go_wp2_with (first | (at_builtin; refine wpList_append_eq rfl _ _ rfl AP1.out (by rfl) (by rfl) ?_; clear AP1) | (at_builtin; refine wpList_append_eq rfl _ _ rfl AP2.out (by rfl) (by rfl) ?_; clear AP2) | (at_builtin; refine wpList_append_eq rfl _ _ rfl AP3.out (by rfl) (by rfl) ?_; clear AP3))
    have LA := hid (arg_pad OW.out HAL.out hn HA.out.2.2.2.2)
    refine (trim_any _ (n + 2) (n + 3) (za ++ List.replicate 2 0) _ LA.out).mono ?_
    rintro e w12 ⟨r3, o3, rfl, ho3, ha3, hb1⟩
    have D12 := hid (chain D11.out hb1 (Nat.le_refl _))
    have LA2 := hid (LA.out.below hb1 (Nat.le_refl _))
    have A3 := hid ha3
    have hl3 : o3.length = Nm.tsize za := by rw [ho3, Nm.trim_length, tsize_pad]
    have V3 : Hid (Nm.val o3 = Nm.val za) := by rw [Hid, ha3.2.2.2.1, val_pad]
    clear hb1 ho3 ha3 LA OW
    go_wp2_with fail
    refine (cmp_is _ _ q (n + 2) (n + 3) m cap' (za ++ List.replicate 2 0) zb _ LA2.out (HB.out.below D12.out (Nat.le_refl _)) ((congrArg (fun v => cmpI v (Nm.val zb)) (val_pad za 2)).trans E1.out)).mono ?_
    rintro e w13 ⟨rfl, hb1⟩
    have D13 := hid (chain D12.out hb1 (Nat.le_refl _))
    have LA3 := hid (LA2.out.below hb1 (Nat.le_refl _))
    have A3' := hid (A3.out.below hb1 (Nat.le_refl _))
    clear hb1 LA2 A3
    go_wp2_with fail
    have A3a := hid (A3'.out.arg (by omega))
    rw [hl3] at A3a
    refine (cmp_is 0 r3 p _ _ n cap o3 za _ A3a.out (HA.out.below D13.out (Nat.le_refl _)) (cmpI_eq V3.out)).mono ?_
    rintro e w14 ⟨rfl, hb1⟩
    have D14 := hid (chain D13.out hb1 (Nat.le_refl _))
    have LA4 := hid (LA3.out.below hb1 (Nat.le_refl _))
    clear hb1 LA3 A3' A3a
    go_wp2_with fail
    refine (size_any p n cap za _ HAL.out (by omega) (HA.out.below D14.out (Nat.le_refl _)).2.2.2.1).mono ?_
    rintro e w15 ⟨rfl, rfl⟩
    obtain ⟨bl, BL⟩ : ∃ bl, Hid (blen za = bl) := ⟨_, rfl⟩
    go_wp2_with fail
    refine (bitLen_is bl _ (n + 2) (n + 3) (za ++ List.replicate 2 0) _ LA4.out ((blen_pad za 2).trans BL.out)).mono ?_
    rintro e w16 ⟨rfl, rfl⟩
    go_wp2_with fail
    refine (bitLen_is bl p n cap za _ (HA.out.below D14.out (Nat.le_refl _)) BL.out).mono ?_
    rintro e w17 ⟨rfl, rfl⟩
    go_wp2_with fail
    go_ret
    exact ⟨rfl, D14.out⟩
end Go.Proofs.Ytamlindelmfbiab
