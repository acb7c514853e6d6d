/-
  THE WALK OF NatResidues.
-/
import Derived.Test.YtamlindelmfbiaaAwake
import Derived.Test.YtamlindelmfbiaaWalk6
import Derived.Test.YtamlindelmfbiaaSmall
import Derived.Deep.QuietTactic
import Derived.BigQuiet
namespace Go.Proofs.Ytamlindelmfbiaa
open Go.RowKit Go.Deep

theorem emod_of {v q d r : Int} (h : q * d + r = v) (h0 : 0 ≤ r) (h1 : r < d) : v % d = r := by
  rw [← h, Int.add_comm, Int.add_mul_emod_self_right, Int.emod_eq_of_lt h0 h1]

theorem prod_mod {a b d x y z : Int} (ha : a % d = x) (hb : b % d = y) (hz : a * b % d = z) : x * y % d = z := by
  rw [← ha, ← hb, ← hz, ← Int.mul_emod]

theorem sum_mod {a m c d x w : Int} (ha : a % d = x) (hw : (a * m + c) % d = w) : (x * m % d + c % d) % d = w := by
  have e : x * m % d = a * m % d := by rw [← ha, Int.mul_emod, Int.emod_emod, ← Int.mul_emod]
  rw [← hw, e, ← Int.add_emod]

theorem small_prod {x y : Int} (h0 : 0 ≤ x) (h : x < 4294967296) (g0 : 0 ≤ y) (g : y < 4294967296) : 0 ≤ x * y ∧ x * y ≤ 18446744065119617025 :=
  ⟨Int.mul_nonneg h0 g0, Int.mul_le_mul (a := x) (b := y) (c := 4294967295) (d := 4294967295) (by omega) (by omega) (by omega) (by omega)⟩

theorem mul_lt_pw' {x y : Int} {a b : Nat} (hx : 0 ≤ x) (hx1 : x < Nm.pw a) (hy : 0 ≤ y) (hy1 : y < Nm.pw b) : 0 ≤ x * y ∧ x * y < Nm.pw (a + b) := by
  refine ⟨Int.mul_nonneg hx hy, ?_⟩
  rw [Nm.pw_add]
  have h1 : x * y ≤ x * Nm.pw b := Int.mul_le_mul_of_nonneg_left (by omega) hx
  have h2 : x * Nm.pw b < Nm.pw a * Nm.pw b := Int.mul_lt_mul_of_pos_right hx1 (Nm.pw_pos b)
  omega

/-- The world with the argument laid into a variable. -/
def boxed (w : World) (kd : Int) (p : Option Addr) (n cap : Nat) (q : Option Addr) (m cap' : Nat) (M C N : Int) : World :=
  w.alloc (.cells #[.int .i64 kd, .slice p n cap, .slice q m cap', .int .u64 M, .int .u64 C, .int .i64 N] 37)

set_option maxRecDepth 100000 in
set_option maxHeartbeats 4000000 in
theorem residues_any (kd M C N : Int) (p q : Option Addr) (n cap m cap' : Nat) (za zb : List Int) (w : World) (ha : Arg w p n cap za) (hb : Arg w q m cap' zb) (hM0 : 0 ≤ M) (hM1 : M < 18446744073709551616) (hC0 : 0 ≤ C) (hC1 : C < 18446744073709551616) :
    Calls Try.prog 6 #[.agg #[.int .i64 kd, .slice p n cap, .slice q m cap', .int .u64 M, .int .u64 C, .int .i64 N]] w fun e w' => e = .returned (.bool true) ∧ Below w.heap.size w w' := by
  have hbx : Below w.heap.size w (boxed w kd p n cap q m cap' M C N) := (Below.refl _ _).alloc (Nat.le_refl _) _
  have D0 := hid hbx
  have hsz0 : (boxed w kd p n cap q m cap' M C N).heap.size = w.heap.size + 1 := World.size_alloc _ _
  have HA := hid ha
  have HB := hid hb
  have AL := hid ha.1
  have BL := hid hb.1
  have htl := ha.tl
  have htl' := hb.tl
  have hn44 : n ≤ 17592186044416 := by have := ha.2.1; have := ha.2.2.1; omega
  have hm44 : m ≤ 17592186044416 := by have := hb.2.1; have := hb.2.2.1; omega
  obtain ⟨d, hd⟩ : ∃ d, M % 4294967296 = d := ⟨_, rfl⟩
  have hd0 : 0 ≤ d := by omega
  have hd1 : d < 4294967296 := by omega
  have AW := hid (awake_any (boxed w kd p n cap q m cap' M C N))
  have cells : ∀ (w1 : World), Below (boxed w kd p n cap q m cap' M C N).heap.size (boxed w kd p n cap q m cap' M C N) w1 →
      w1.cell? ⟨w.heap.size, 1, none⟩ = some (.slice p n cap) ∧ w1.cell? ⟨w.heap.size, 2, none⟩ = some (.slice q m cap') ∧ w1.cell? ⟨w.heap.size, 3, none⟩ = some (.int .u64 M) ∧ w1.cell? ⟨w.heap.size, 4, none⟩ = some (.int .u64 C) := by
    intro w1 h
    rw [hsz0] at h
    refine ⟨?_, ?_, ?_, ?_⟩
    · rw [h.cell (p := ⟨w.heap.size, 1, none⟩) (by simp)]; exact World.cell?_alloc_new _ _ _ _
    · rw [h.cell (p := ⟨w.heap.size, 2, none⟩) (by simp)]; exact World.cell?_alloc_new _ _ _ _
    · rw [h.cell (p := ⟨w.heap.size, 3, none⟩) (by simp)]; exact World.cell?_alloc_new _ _ _ _
    · rw [h.cell (p := ⟨w.heap.size, 4, none⟩) (by simp)]; exact World.cell?_alloc_new _ _ _ _
  have CE := hid cells
  clear cells hbx hsz0 ha hb
  unfold boxed at AW D0 CE
  by_cases hbig : 4096 < Nm.tsize za + Nm.tsize zb
  · have hbig' : (4096 : Int) < (Nm.tsize za : Int) + (Nm.tsize zb : Int) := by omega
    go_enter Try.func6, Try.ntmps6
    go_wp2_with fail
    refine AW.out.mono ?_
    rintro e w1 ⟨rfl, hb1⟩
    obtain ⟨g1, g2, g3, g4⟩ := CE.out w1 hb1
    have D1 := hid (chain D0.out hb1 (Nat.le_refl _))
    clear hb1 CE AW
    go_wp2_with fail
    refine (size_any p n cap za _ AL.out (by omega) (HA.out.below D1.out (Nat.le_refl _)).2.2.2.1).mono ?_
    rintro e w2 ⟨rfl, rfl⟩
    go_wp2_with fail
    refine (size_any q m cap' zb _ BL.out (by omega) (HB.out.below D1.out (Nat.le_refl _)).2.2.2.1).mono ?_
    rintro e w2 ⟨rfl, rfl⟩
    go_wp2_with fail
    go_ret
    exact ⟨rfl, D1.out⟩
  have hbig' : (Nm.tsize za : Int) + (Nm.tsize zb : Int) ≤ 4096 := by omega
  by_cases hz : d = 0
  · have hz' : (d == 0) = true := by simp [hz]
    clear hz
    go_enter Try.func6, Try.ntmps6
    go_wp2_with fail
    refine AW.out.mono ?_
    rintro e w1 ⟨rfl, hb1⟩
    obtain ⟨g1, g2, g3, g4⟩ := CE.out w1 hb1
    have D1 := hid (chain D0.out hb1 (Nat.le_refl _))
    clear hb1 CE AW
    go_wp2_with fail
    refine (size_any p n cap za _ AL.out (by omega) (HA.out.below D1.out (Nat.le_refl _)).2.2.2.1).mono ?_
    rintro e w2 ⟨rfl, rfl⟩
    go_wp2_with fail
    refine (size_any q m cap' zb _ BL.out (by omega) (HB.out.below D1.out (Nat.le_refl _)).2.2.2.1).mono ?_
    rintro e w2 ⟨rfl, rfl⟩
    go_wp2_with fail
    go_ret
    exact ⟨rfl, D1.out⟩
  have hz' : (d == 0) = false := by rw [beq_eq_false_iff_ne]; exact hz
  have x0 := (Nm.val_bd za HA.out.2.2.2.2).1
  have y0 := (Nm.val_bd zb HB.out.2.2.2.2).1
  have x1 := Nm.val_lt_tsize HA.out.2.2.2.2
  have y1 := Nm.val_lt_tsize HB.out.2.2.2.2
  have PR := mul_lt_pw' x0 x1 y0 y1
  have B1 : Hid (Nm.val za * Nm.val zb < Nm.pw 4096) := by
    have := Nm.pw_mono (show Nm.tsize za + Nm.tsize zb ≤ 4096 by omega)
    show _ < _
    omega
  have B2 : Hid (Nm.tsize za ≤ 4095 → Nm.val za * (d - 1) + C < Nm.pw 4096) := by
    intro h
    have h1 : Nm.val za < Nm.pw 4095 := (Nm.tsize_le_iff HA.out.2.2.2.2 4095).1 h
    have h2 : Nm.val za * (d - 1) ≤ Nm.val za * 4294967295 := Int.mul_le_mul_of_nonneg_left (by omega) x0
    have h3 := Nm.pw_succ 4095
    have h4 := Nm.pw_mono (show 1 ≤ 4095 by omega)
    have h5 : Nm.pw 1 = 18446744073709551616 := rfl
    show _ < Nm.pw (4095 + 1)
    omega
  clear x0 y0 x1 y1 PR
  by_cases hl : Nm.tsize za = 4096
  · have hl' : ((Nm.tsize za : Int) == 4096) = true := by simp [hl]
    clear hl
    go_enter Try.func6, Try.ntmps6
    go_wp2_with fail
    refine AW.out.mono ?_
    rintro e w1 ⟨rfl, hb1⟩
    obtain ⟨g1, g2, g3, g4⟩ := CE.out w1 hb1
    have D1 := hid (chain D0.out hb1 (Nat.le_refl _))
    clear hb1 CE AW
    go_wp2_with fail
    refine (size_any p n cap za _ AL.out (by omega) (HA.out.below D1.out (Nat.le_refl _)).2.2.2.1).mono ?_
    rintro e w2 ⟨rfl, rfl⟩
    go_wp2_with fail
    refine (size_any q m cap' zb _ BL.out (by omega) (HB.out.below D1.out (Nat.le_refl _)).2.2.2.1).mono ?_
    rintro e w2 ⟨rfl, rfl⟩
    go_wp2_with fail
    refine (mul_ok p q n cap m cap' za zb _ (HA.out.below D1.out (Nat.le_refl _)) (HB.out.below D1.out (Nat.le_refl _)) (by omega) (by omega) B1.out).mono ?_
    rintro e w3 ⟨r1, o1, rfl, ha1, hb1⟩
    have D3 := hid (chain D1.out hb1 (Nat.le_refl _))
    have A1 := hid ha1
    have l1 := ha1.small B1.out
    clear hb1 ha1 g1 g2 g3 g4
    go_wp2_with fail
    refine (divSmall_ok p n cap za d _ (HA.out.below D3.out (Nat.le_refl _)) (by omega) (by omega) (by omega)).mono ?_
    rintro e w4 ⟨r2, o2, x, rfl, -, ⟨hx0, hx1⟩, EX, hb1⟩
    have D4 := hid (chain D3.out hb1 (Nat.le_refl _))
    have A1b := hid (A1.out.below hb1 (Nat.le_refl _))
    clear hb1 A1
    go_wp2_with fail
    refine (divSmall_ok q m cap' zb d _ (HB.out.below D4.out (Nat.le_refl _)) (by omega) (by omega) (by omega)).mono ?_
    rintro e w5 ⟨r3, o3, y, rfl, -, ⟨hy0, hy1⟩, EY, hb1⟩
    have D5 := hid (chain D4.out hb1 (Nat.le_refl _))
    have A1c := hid (A1b.out.below hb1 (Nat.le_refl _))
    clear hb1 A1b
    go_wp2_with fail
    refine (divSmall_ok r1 _ _ o1 d _ (A1c.out.arg (by omega)) (by rw [A1c.out.2.2.1]; exact l1) (by omega) (by omega)).mono ?_
    rintro e w6 ⟨r4, o4, z, rfl, -, ⟨hz0, hz1⟩, EZ, hb1⟩
    have D6 := hid (chain D5.out hb1 (Nat.le_refl _))
    have RX := emod_of EX.out hx0 hx1
    have RY := emod_of EY.out hy0 hy1
    have RZ := emod_of EZ.out hz0 hz1
    rw [A1c.out.2.2.2.1] at RZ
    have hzz := prod_mod RX RY RZ
    obtain ⟨k0, k1⟩ := small_prod hx0 (by omega) hy0 (by omega)
    clear hb1 RX RY RZ
    go_wp2_with fail
    refine (size_any p n cap za _ AL.out (by omega) (HA.out.below D6.out (Nat.le_refl _)).2.2.2.1).mono ?_
    rintro e w7 ⟨rfl, rfl⟩
    go_wp2_with fail
    go_ret
    exact ⟨rfl, D6.out⟩
  · have hl' : ((Nm.tsize za : Int) == 4096) = false := by rw [beq_eq_false_iff_ne]; omega
    have B3 := hid (B2.out (by omega))
    clear B2
    obtain ⟨d1, hd1e⟩ : ∃ d1, d - 1 = d1 := ⟨_, rfl⟩
    rw [hd1e] at B3
    have hd10 : 0 ≤ d1 := by omega
    have hd11 : d1 < 4294967296 := by omega
    go_enter Try.func6, Try.ntmps6
    go_wp2_with fail
    refine AW.out.mono ?_
    rintro e w1 ⟨rfl, hb1⟩
    obtain ⟨g1, g2, g3, g4⟩ := CE.out w1 hb1
    have D1 := hid (chain D0.out hb1 (Nat.le_refl _))
    clear hb1 CE AW
    go_wp2_with fail
    refine (size_any p n cap za _ AL.out (by omega) (HA.out.below D1.out (Nat.le_refl _)).2.2.2.1).mono ?_
    rintro e w2 ⟨rfl, rfl⟩
    go_wp2_with fail
    refine (size_any q m cap' zb _ BL.out (by omega) (HB.out.below D1.out (Nat.le_refl _)).2.2.2.1).mono ?_
    rintro e w2 ⟨rfl, rfl⟩
    go_wp2_with fail
    refine (mul_ok p q n cap m cap' za zb _ (HA.out.below D1.out (Nat.le_refl _)) (HB.out.below D1.out (Nat.le_refl _)) (by omega) (by omega) B1.out).mono ?_
    rintro e w3 ⟨r1, o1, rfl, ha1, hb1⟩
    have D3 := hid (chain D1.out hb1 (Nat.le_refl _))
    have A1 := hid ha1
    have l1 := ha1.small B1.out
    clear hb1 ha1 g1 g2 g3 g4
    go_wp2_with fail
    refine (divSmall_ok p n cap za d _ (HA.out.below D3.out (Nat.le_refl _)) (by omega) (by omega) (by omega)).mono ?_
    rintro e w4 ⟨r2, o2, x, rfl, -, ⟨hx0, hx1⟩, EX, hb1⟩
    have D4 := hid (chain D3.out hb1 (Nat.le_refl _))
    have A1b := hid (A1.out.below hb1 (Nat.le_refl _))
    clear hb1 A1
    go_wp2_with fail
    refine (divSmall_ok q m cap' zb d _ (HB.out.below D4.out (Nat.le_refl _)) (by omega) (by omega) (by omega)).mono ?_
    rintro e w5 ⟨r3, o3, y, rfl, -, ⟨hy0, hy1⟩, EY, hb1⟩
    have D5 := hid (chain D4.out hb1 (Nat.le_refl _))
    have A1c := hid (A1b.out.below hb1 (Nat.le_refl _))
    clear hb1 A1b
    go_wp2_with fail
    refine (divSmall_ok r1 _ _ o1 d _ (A1c.out.arg (by omega)) (by rw [A1c.out.2.2.1]; exact l1) (by omega) (by omega)).mono ?_
    rintro e w6 ⟨r4, o4, z, rfl, -, ⟨hz0, hz1⟩, EZ, hb1⟩
    have D6 := hid (chain D5.out hb1 (Nat.le_refl _))
    have RX := emod_of EX.out hx0 hx1
    have RXH := hid RX
    have RY := emod_of EY.out hy0 hy1
    have RZ := emod_of EZ.out hz0 hz1
    rw [A1c.out.2.2.2.1] at RZ
    have hzz := prod_mod RX RY RZ
    obtain ⟨k0, k1⟩ := small_prod hx0 (by omega) hy0 (by omega)
    clear hb1 RX RY RZ
    go_wp2_with fail
    refine (size_any p n cap za _ AL.out (by omega) (HA.out.below D6.out (Nat.le_refl _)).2.2.2.1).mono ?_
    rintro e w7 ⟨rfl, rfl⟩
    clear hzz k0 k1
    go_wp2_with fail
    refine (mulAdd_any p n cap za d1 C _ (HA.out.below D6.out (Nat.le_refl _)) (by omega) hd10 (by omega) hC0 hC1).mono ?_
    rintro e w8 ⟨h1, -, hb1⟩
    obtain ⟨r5, o5, rfl, ha5⟩ := h1 B3.out
    have D8 := hid (chain D6.out hb1 (Nat.le_refl _))
    have A5 := hid ha5
    have l5 := ha5.small B3.out
    clear h1 hb1 ha5
    go_wp2_with fail
    refine (divSmall_ok r5 _ _ o5 d _ (A5.out.arg (by omega)) (by rw [A5.out.2.2.1]; exact l5) (by omega) (by omega)).mono ?_
    rintro e w9 ⟨r6, o6, ww, rfl, -, ⟨hw0, hw1⟩, EW, hb1⟩
    have D9 := hid (chain D8.out hb1 (Nat.le_refl _))
    have RW := emod_of EW.out hw0 hw1
    rw [A5.out.2.2.2.1] at RW
    have hww := sum_mod RXH.out RW
    obtain ⟨k0, k1⟩ := small_prod hx0 (by omega) hd10 hd11
    have j0 := Int.emod_nonneg (x * d1) (show d ≠ 0 by omega)
    have j1 := Int.emod_lt_of_pos (x * d1) (show 0 < d by omega)
    have j2 := Int.emod_nonneg C (show d ≠ 0 by omega)
    have j3 := Int.emod_lt_of_pos C (show 0 < d by omega)
    clear hb1 RW
    go_wp2_with fail
    go_quiet (fail)
    go_wp2
    go_ret
    exact ⟨rfl, below_drewN D9.out _⟩
end Go.Proofs.Ytamlindelmfbiaa
