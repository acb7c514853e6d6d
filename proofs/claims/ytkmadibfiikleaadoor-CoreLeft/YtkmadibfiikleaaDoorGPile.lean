/-
  THE WALK OF pile.add.
-/
import Derived.Test.YtkmadibfiikleaaDoorGOnly
import Derived.Test.YtkmadibfiikleaaDoorBitsA
import Derived.Test.YtkmadibfiikleaaDoorShA
namespace Go.Proofs.YtkmadibfiikleaaDoor
open Go.RowKit Go.Deep

theorem PInv.drew {g t : Nat} {A C : List Value} {w : World} {T : Int} {j : Nat} {c : Int} {os : List Int} {wr : World} (h : PInv g t A C w T j c os wr) : PInv g t A C w T j c os wr.drew := by
  obtain ⟨h1, h2, h3, h4, h5, h6⟩ := h
  exact ⟨h1, h2, h3, h4, ⟨h5.os, h5.tape, h5.output, h5.size, h5.block⟩, h6⟩

/-- What is known of the limb that is added to: its cell, free, and what it yields. -/
theorem PInv.at {g t o : Nat} {A C : List Value} {w : World} {T : Int} {j : Nat} {c : Int} {os : List Int} {wr : World} (h : PInv g t A C w T j c os wr) (hA : A.length = o) (hj : j < 67) (x : Int) (x0 : 0 ≤ x) (x1 : x < 18446744073709551616) (c0 : 0 ≤ c) (c1 : c ≤ 1) :
    ∃ y s c' W, wr.cell? ⟨g, o + j, none⟩ = some (.int .u64 y) ∧ wr.frozen? ⟨g, o + j, none⟩ = false ∧ (0 ≤ c' ∧ c' ≤ 1) ∧
      (∀ wx : World, (callFunc 80 #[.int .u64 y, .int .u64 x, .int .u64 c]).run Tryd.prog wx = .ok (.value (.tuple #[.int .u64 s, .int .u64 c'])) wx) ∧
      (wr.setCell ⟨g, o + j, none⟩ (.int .u64 s)).drew = W ∧ Hid (PInv g t A C w (T + Nm.pw j * x) (j + 1) c' (os.set j s) W) := by
  have hy := h.2.2.1.at j
  exact ⟨os.getD j 0, _, _, _, h.1.cell (lb_at A C os o j hA (by have := h.2.1; omega)), h.1.free _, ⟨by omega, by omega⟩, fun wx => add64' _ _ _ _ _ hy.1 x0 c0 c1 rfl rfl wx, rfl, (h.step hA hj rfl rfl).drew⟩

set_option maxRecDepth 100000 in
set_option maxHeartbeats 1000000 in
theorem pileAdd_any (g t o : Nat) (A C : List Value) (zs : List Int) (w : World) (hA : A.length = o) (hB : Blk w g t (A ++ lb zs ++ C)) (hl : zs.length = 67) (hz : Nm.Limbs zs) (hi lo pl : Int) (h0 : 0 ≤ hi) (h1 : hi < 18446744073709551616) (l0 : 0 ≤ lo) (l1 : lo < 18446744073709551616)
    (p : Nat) (hp : pl = (p : Int)) (hpb : p ≤ 4095) (T : Int) (hT : Nm.val zs + (hi * 18446744073709551616 + lo) * 2 ^ p = T) (hTb : T < Nm.pw 67) :
    Calls Tryd.prog 56 #[.pointer (some ⟨g, o, none⟩), .int .u64 hi, .int .u64 lo, .int .i64 pl] w fun e w' => e = .returned (.tuple #[]) ∧ Piled g t A C T w w' := by
  obtain ⟨sk, hsk⟩ : ∃ sk, p / 64 = sk := ⟨_, rfl⟩
  obtain ⟨r, hr⟩ : ∃ r, p % 64 = r := ⟨_, rfl⟩
  have r1 : pl / 64 = (sk : Int) := by omega
  have r2 : pl % 64 = (r : Int) := by omega
  have p0 : 0 ≤ pl := by omega
  have hr63 : r ≤ 63 := by omega
  have hskb : sk ≤ 63 := by omega
  have I0 : PInv g t A C w (Nm.val zs) sk 0 zs w := ⟨hB, hl, hz, by omega, Only.refl _ _, rfl⟩
  obtain ⟨a0, s0, sp1, u1, u2, u3, us, usp, E1⟩ := Sh.up lo 0 r hr63 l0 l1 (Int.le_refl 0) (Nm.two_pos r)
  obtain ⟨a1, s1, sp2, v1, v2, v3, vs, vsp, E2⟩ := Sh.up hi sp1 r hr63 h0 h1 usp.1 usp.2
  have e0 : s0 = a0 := by
    have := Sh.wrap_mod (lo * 2 ^ r)
    have := E1.out
    omega
  subst e0
  clear u2
  have P64 : (2 : Int) ^ r ≤ 18446744073709551616 := by rw [← Nm.two_64]; exact Nm.two_mono (by omega)
  obtain ⟨y0, z0, c1, W1, hy0, hf0, cb1, AD0, hW1, I1⟩ := I0.at hA (by omega) s0 us.1 us.2 (Int.le_refl 0) (by omega)
  obtain ⟨y1, z1, c2, W2, hy1, hf1, cb2, AD1, hW2, I2⟩ := I1.out.at hA (by omega) s1 vs.1 vs.2 cb1.1 cb1.2
  obtain ⟨y2, z2, c3, W3, hy2, hf2, cb3, AD2, hW3, I3⟩ := I2.out.at hA (by omega) sp2 vsp.1 (by omega) cb2.1 cb2.2
  have TE : Nm.val zs + Nm.pw sk * s0 + Nm.pw (sk + 1) * s1 + Nm.pw (sk + 1 + 1) * sp2 = T := by
    have e1 := E1.out
    have e2 := E2.out
    have hE : s0 + 18446744073709551616 * (s1 + 18446744073709551616 * sp2) = (hi * 18446744073709551616 + lo) * 2 ^ r := by
      rw [e2, Int.add_mul, Int.mul_right_comm]
      omega
    rw [← hT, show p = 64 * sk + r by omega, Nm.two_add, ← Nm.pw_two, Int.mul_left_comm, ← hE, Nm.pw_succ (sk + 1), Nm.pw_succ sk]
    have aux : ∀ X a b c : Int, X * a + 18446744073709551616 * X * b + 18446744073709551616 * (18446744073709551616 * X) * c = X * (a + 18446744073709551616 * (b + 18446744073709551616 * c)) := by
      intro X a b c
      simp only [Int.mul_add, Int.mul_comm, Int.mul_left_comm, Int.add_assoc]
    rw [← aux]
    simp only [Int.add_assoc]
  rw [TE] at I3
  have k0 : (sk : Int) < 67 := by omega
  have k1 : (sk : Int) + 1 < 67 := by omega
  have k2 : (sk : Int) + 2 < 67 := by omega
  have HT := hid hTb
  have HA := hid hA
  clear I0 I1 I2 hB hl hz hpb hp hT us vs usp vsp P64 E1 E2 hsk hr TE hTb hA cb1 cb2 h0 h1 l0 l1
  go_enter Tryd.func56, Tryd.ntmps56
  go_wp2
  go_region
  try rw [hW1]
  clear hW1 hy0 hf0 AD0 u1
  go_wp2
  go_region
  try rw [hW2]
  clear hW2 hy1 hf1 AD1 v1 v2 u3
  go_wp2
  go_region
  try rw [hW3]
  clear hW3 hy2 hf2 AD2 v3
  go_wp2
  go_loopw [10, 8] (fun c i wr => ∃ (j : Nat) (cc : Int) (os : List Int), i = .int .i64 j ∧ c = .int .u64 cc ∧ (0 ≤ cc ∧ cc ≤ 1) ∧ j ≤ 67 ∧ PInv g t A C w T j cc os wr) (fun _ i _ => 67 - (intOf i).toNat)
  case atStart => exact ⟨sk + 1 + 1 + 1, c3, _, by go_num, rfl, cb3, by omega, I3.out⟩
  case round =>
    clear I3 cb3
    obtain ⟨j, cc, os, rfl, rfl, cb, hj, I⟩ := hrel
    obtain ⟨q0, q1⟩ := cb
    by_cases hz : cc = 0
    · subst hz
      have E : Piled g t A C T w wr := ⟨os, I.1, I.2.1, I.2.2.1, by have := I.2.2.2.1; omega, I.2.2.2.2.1, I.2.2.2.2.2⟩
      clear I
      go_wp2
      go_end0
      exact ⟨rfl, E⟩
    · have hj' := I.end HT.out (by omega)
      have hjk : (j : Int) < 67 := by omega
      have hcc : 0 < cc := by omega
      obtain ⟨y, z, c', W, hy, hf, cb', AD, hW, I'⟩ := I.at HA.out hj' 0 (Int.le_refl 0) (by omega) q0 q1
      rw [Int.mul_zero, Int.add_zero] at I'
      clear I hz
      go_wp2
      go_region
      try rw [hW]
      clear hW hy hf AD
      go_wp2
      go_roundw
      case rel => exact ⟨j + 1, c', _, by go_num, rfl, cb', by omega, I'.out⟩
      case measure => simp [intOf]; omega
end Go.Proofs.YtkmadibfiikleaaDoor
