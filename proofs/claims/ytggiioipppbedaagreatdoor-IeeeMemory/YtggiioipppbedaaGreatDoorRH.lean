/-
  Texts put together: Walk4, IRatio2, ZRatio2, IRound, EAny, OpenList, OpenOps4, IMemG.
-/
import Derived.Test.YtggiioipppbedaaGreatDoorWalk2a
import Derived.Test.YtggiioipppbedaaGreatDoorRG
import Derived.Test.YtggiioipppbedaaGreatDoorRB
import Derived.Test.YtggiioipppbedaaGreatDoorRA
import Derived.Test.YtggiioipppbedaaGreatDoorSmall
import Derived.Test.YtggiioipppbedaaGreatDoorRF
import Derived.Test.YtggiioipppbedaaGreatDoorIRoundN
import Derived.Test.YtggiioipppbedaaGreatDoorRD
import Derived.Test.YtggiioipppbedaaGreatDoorRE
import Derived.Test.YtggiioipppbedaaGreatDoorMem
import Derived.SizedLaws
import Derived.ProofKit
import Derived.Test.YtggiioipppbedaaGreatDoorRC
namespace Go.Proofs.YtggiioipppbedaaGreatDoor
open Go.RowKit Go.Deep

/-- Behind j limbs of a: the block holds the product of these and b. -/
def ProdInv (g k : Nat) (w : World) (ls bs : List Int) (j : Nat) (os : List Int) (wr : World) : Prop :=
  Own wr g os ∧ os.length = k ∧ Nm.Limbs os ∧ Nm.val os = Nm.val (ls.take j) * Nm.val bs ∧ Below g w wr

theorem ProdInv.step {g k : Nat} {w : World} {ls bs : List Int} {j : Nat} {os : List Int} {wr w' : World} {n : Nat} (hn : bs.length = n) (ha : Nm.Limbs ls) (hb : Nm.Limbs bs) (h : ProdInv g k w ls bs j os wr) (hj : j < ls.length) (hk : j + n < k) {c x : Int} {us : List Int}
    (hx : x = ls.getD j 0) (hm : MulInv g k (j + n) wr os (Nm.val os + Nm.pw j * (Nm.val bs * x)) (j + n) c us w') :
    ProdInv g k w ls bs (j + 1) (us.set (j + n) c) (w'.setCell ⟨g, j + n, none⟩ (.int .u64 c)) := by
  subst hn
  obtain ⟨h1, h2, h3, h4, h5⟩ := h
  obtain ⟨⟨m1, m2, m3, m4, m5, m6⟩, m7, m8⟩ := hm
  have hv : Nm.val os < Nm.pw (j + bs.length) := by
    rw [h4, Nm.pw_add]
    have e1 := Nm.val_bd _ (ha.take j)
    rw [List.length_take, Nat.min_eq_left (by omega)] at e1
    have e2 := Nm.val_bd _ hb
    have e3 : Nm.val (ls.take j) * Nm.val bs ≤ Nm.pw j * Nm.val bs := Int.mul_le_mul_of_nonneg_right (by omega) e2.1
    have e4 : Nm.pw j * (Nm.val bs + 1) ≤ Nm.pw j * Nm.pw bs.length := Int.mul_le_mul_of_nonneg_left (by omega) (by have := Nm.pw_pos j; omega)
    have e5 := Nm.pw_pos j
    rw [Int.mul_add, Int.mul_one] at e4
    omega
  have h0 : us.getD (j + bs.length) 0 = 0 := by rw [m8 _ (Nat.le_refl _)]; exact Nm.zero_of_lt h3 hv _ (Nat.le_refl _)
  refine ⟨m1.set _ _, by simpa using m2, m3.set _ m7.1 m7.2, ?_, h5.trans (m5.setCell (Nat.le_refl _) _)⟩
  rw [Nm.val_set _ _ _ (by omega), h0, Int.sub_zero, m4, h4, hx, Nm.val_take_succ ls j hj, Int.add_mul, Int.mul_assoc, Int.mul_comm (ls.getD j 0)]

theorem prod_bound {zs ys : List Int} (hz : Nm.Limbs zs) (hy : Nm.Limbs ys) (h : Nm.val zs * Nm.val ys < Nm.pw 4096) (h1 : 0 < Nm.tsize zs) (h2 : 0 < Nm.tsize ys) : Nm.tsize zs + Nm.tsize ys ≤ 4097 := by
  have e1 := Nm.val_ge_top hz h1
  have e2 := Nm.val_ge_top hy h2
  have e3 : Nm.pw (Nm.tsize zs - 1) * Nm.pw (Nm.tsize ys - 1) ≤ Nm.val zs * Nm.val ys := Int.mul_le_mul e1 e2 (Int.le_of_lt (Nm.pw_pos _)) (by have := (Nm.val_bd zs hz).1; omega)
  rw [← Nm.pw_add] at e3
  rcases Nat.lt_or_ge (Nm.tsize zs - 1 + (Nm.tsize ys - 1)) 4096 with e | e
  · omega
  · have := Nm.pw_mono e
    omega

set_option maxRecDepth 100000 in
set_option maxHeartbeats 1000000 in
theorem mul_ok (p q : Option Addr) (n cap m cap' : Nat) (zs ys : List Int) (w : World) (ha : Arg w p n cap zs) (hb : Arg w q m cap' ys) (tz : Nm.tsize zs ≤ 4096) (ty : Nm.tsize ys ≤ 4096) (hs : Nm.val zs * Nm.val ys < Nm.pw 4096) :
    Calls Tryz.prog 88 #[.slice p n cap, .slice q m cap'] w fun e w' => ∃ r os, e = .returned (.tuple #[.slice r (List.length os) (List.length os), .int .i64 0]) ∧ Ans w.heap.size w' r os (Nm.val zs * Nm.val ys) ∧ Below w.heap.size w w' := by
  obtain ⟨a1, a2, a3, a4, a5⟩ := ha
  obtain ⟨b1, b2, b3, b4, b5⟩ := hb
  have HS : Hid (Nm.val zs * Nm.val ys < Nm.pw 4096) := hs
  clear hs
  have nil : Nm.val zs * Nm.val ys = 0 → Ans w.heap.size w none [] (Nm.val zs * Nm.val ys) := fun h => ⟨Lies.nil _ _, Nm.Limbs.nil, rfl, by simp [Nm.val, h], fun a h => by cases h⟩
  by_cases h1 : Nm.tsize zs = 0
  · have h1' : ((Nm.tsize zs : Int) == 0) = true := by simp [h1]
    have NIL := hid (nil (by rw [(Nm.tsize_zero_iff a5).1 h1, Int.zero_mul]))
    clear nil h1
    go_enter Tryz.func88, Tryz.ntmps88
    go_wp2_with fail
    refine (pair_ok p q n cap m cap' zs ys _ a1 a2 (by omega) a4 tz b1 b2 (by omega) b4 ty).mono ?_
    rintro e w' ⟨rfl, rfl⟩
    go_wp2_with fail
    go_ret2
    exact ⟨none, [], rfl, NIL.out, Below.refl _ _⟩
  have h1' : ((Nm.tsize zs : Int) == 0) = false := by simp [h1]
  by_cases h2 : Nm.tsize ys = 0
  · have h2' : ((Nm.tsize ys : Int) == 0) = true := by simp [h2]
    have NIL := hid (nil (by rw [(Nm.tsize_zero_iff b5).1 h2, Int.mul_zero]))
    clear nil h1 h2
    go_enter Tryz.func88, Tryz.ntmps88
    go_wp2_with fail
    refine (pair_ok p q n cap m cap' zs ys _ a1 a2 (by omega) a4 tz b1 b2 (by omega) b4 ty).mono ?_
    rintro e w' ⟨rfl, rfl⟩
    go_wp2_with fail
    go_ret2
    exact ⟨none, [], rfl, NIL.out, Below.refl _ _⟩
  have h2' : ((Nm.tsize ys : Int) == 0) = false := by simp [h2]
  clear nil
  have hsum := prod_bound a5 b5 HS.out (by omega) (by omega)
  have hsum' : (Nm.tsize zs : Int) + (Nm.tsize ys : Int) ≤ 4097 := by omega
  have hmk := make64 (Nm.tsize zs + Nm.tsize ys) (by omega) w
  have em : ((Nm.tsize zs + Nm.tsize ys : Nat) : Int) = (Nm.tsize zs : Int) + (Nm.tsize ys : Int) := by omega
  rw [em] at hmk
  clear em
  have ho : Own (w.alloc (.cells (madeCells #[.int .u64 0] (Nm.tsize zs + Nm.tsize ys)) 25)) w.heap.size (List.replicate (Nm.tsize zs + Nm.tsize ys) 0) := by
    rw [made_zero]; exact Own.alloc w _
  have hb0 : Below w.heap.size w (w.alloc (.cells (madeCells #[.int .u64 0] (Nm.tsize zs + Nm.tsize ys)) 25)) := (Below.refl _ _).alloc (Nat.le_refl _) _
  have I0 : ProdInv w.heap.size (Nm.tsize zs + Nm.tsize ys) w (Nm.trim zs) (Nm.trim ys) 0 (List.replicate (Nm.tsize zs + Nm.tsize ys) 0) (w.alloc (.cells (madeCells #[.int .u64 0] (Nm.tsize zs + Nm.tsize ys)) 25)) :=
    ⟨ho, by simp, Nm.Limbs.replicate _, by simp [Nm.val_replicate, Nm.val], hb0⟩
  clear ho hb0
  have hsum2 : decide (4096 < (Nm.tsize zs : Int) + (Nm.tsize ys : Int) - 1) = false := by simp; omega
  have A4 := hid a4.trim
  have B4 := hid b4.trim
  obtain ⟨b, off, rfl, hcell⟩ : ∃ b off, p = some ⟨b, off, none⟩ ∧ Hid (∀ i, i < Nm.tsize zs → w.cell? ⟨b, off + i, none⟩ = some (.int .u64 ((Nm.trim zs).getD i 0))) := by
    have hlen := Nm.trim_length zs
    rcases A4.out with h | ⟨b, off, hp, h⟩
    · exfalso
      rw [h] at hlen
      simp at hlen
      omega
    · exact ⟨b, off, hp, fun i hi => h i (by rw [hlen]; exact hi)⟩
  have hbg : b < w.heap.size := cell_lt (hcell.out 0 (by omega))
  have A5 := hid a5.trim
  have B5 := hid b5.trim
  go_enter Tryz.func88, Tryz.ntmps88
  go_wp2_with fail
  refine (pair_ok (some ⟨b, off, none⟩) q n cap m cap' zs ys _ a1 a2 (by omega) a4 tz b1 b2 (by omega) b4 ty).mono ?_
  rintro e w' ⟨rfl, rfl⟩
  clear a4 b4
  go_wp2_with fail
  go_loopw [43] (fun i wr => ∃ (j : Nat) (os : List Int), j ≤ Nm.tsize zs ∧ i = .int .i64 j ∧ ProdInv w'.heap.size (Nm.tsize zs + Nm.tsize ys) w' (Nm.trim zs) (Nm.trim ys) j os wr) (fun i _ => Nm.tsize zs - (intOf i).toNat)
  case atStart => exact ⟨0, _, Nat.zero_le _, rfl, I0⟩
  case round =>
    clear I0 hmk
    obtain ⟨j, os, hj, rfl, I⟩ := hrel
    by_cases hlt : j < Nm.tsize zs
    · obtain ⟨x, hx, X⟩ : ∃ x, wr.cell? ⟨b, off + j, none⟩ = some (.int .u64 x) ∧ Hid (x = (Nm.trim zs).getD j 0) := ⟨_, (I.2.2.2.2.cell (p := ⟨b, off + j, none⟩) hbg).trans (hcell.out j hlt), rfl⟩
      have hx0 := A5.out.at j
      rw [show (Nm.trim zs).getD j 0 = x from X.out.symm] at hx0
      obtain ⟨hx0, hx1⟩ := hx0
      go_wp2_with fail
      refine (addTimes_any w'.heap.size (Nm.tsize zs + Nm.tsize ys) j (Nm.tsize ys) _ os q _ (Nm.trim ys) x _ I.2.1 (by omega) I.1 I.2.2.1 (Nm.trim_length ys) (by omega) (B4.out.below I.2.2.2.2 (Nat.le_refl _)) B5.out (fun h0 => B4.out.lt h0) hx0 hx1).mono ?_
      rintro e w2 ⟨c, us, rfl, M⟩
      have I2 := I.step (Nm.trim_length ys) A5.out B5.out (by rw [Nm.trim_length]; exact hlt) (by omega) X.out M
      obtain ⟨y, hy⟩ : ∃ y, w2.cell? ⟨w'.heap.size, j + Nm.tsize ys, none⟩ = some (.int .u64 y) := ⟨_, M.1.1.cell _ (by have := M.1.2.1; omega)⟩
      have hfr := M.1.1.free (j + Nm.tsize ys)
      clear M
      go_wp2
      go_roundw
      case rel => exact ⟨j + 1, _, by omega, by go_num, I2⟩
      case measure => simp [intOf]; omega
    · have hjn : j = Nm.tsize zs := by omega
      subst hjn
      have E := I.2.2.2.1
      rw [List.take_of_length_le (by rw [Nm.trim_length]; omega), Nm.val_trim, Nm.val_trim] at E
      have EE := hid E
      clear E
      go_wp2_with fail
      refine (limited_own w'.heap.size (Nm.tsize zs + Nm.tsize ys) os _ I.2.1 (by omega) I.1 I.2.2.1 w'.heap.size (Nat.le_refl _) (by rw [EE.out]; exact HS.out)).mono ?_
      rintro e w3 ⟨r, xs, rfl, hans, rfl⟩
      rw [EE.out] at hans
      have HA := hid hans
      clear hans
      have HB := hid I.2.2.2.2
      clear I
      go_wp2_with fail
      go_ret2
      exact ⟨r, xs, rfl, HA.out, HB.out⟩
end Go.Proofs.YtggiioipppbedaaGreatDoor

/-
  ieee: longest, ratio whatever the divisor; the errors of Round and RoundRatio.
-/
namespace Go.Proofs.YtggiioipppbedaaGreatDoor
open Go Go.RowKit Go.Deep

namespace Ie
/-- The lowest limb of the divisor left out, and the quotient mended. -/
theorem long_div (n D high low q r : Int) (hD : D = high * 18446744073709551616 + low) (l0 : 0 ≤ low) (l1 : low < 18446744073709551616) (hn : n = q * high + r) (r0 : 0 ≤ r) (r1 : r < high) (ql : q * low < D) (q0 : 0 ≤ q) :
    (q * low ≤ r * 18446744073709551616 → n * 18446744073709551616 / D = q ∧ n * 18446744073709551616 % D = r * 18446744073709551616 - q * low) ∧
    (r * 18446744073709551616 < q * low → n * 18446744073709551616 / D = q - 1 ∧ n * 18446744073709551616 % D = D + (r * 18446744073709551616 - q * low)) := by
  have key : n * 18446744073709551616 = q * D + (r * 18446744073709551616 - q * low) := by
    rw [hn, hD, Int.add_mul, Int.mul_add, Int.mul_assoc q high]
    omega
  have ql0 : 0 ≤ q * low := Int.mul_nonneg q0 l0
  constructor
  · intro h
    exact div_is (by omega) (by omega) key.symm
  · intro h
    refine div_is (q := q - 1) (by omega) (by omega) ?_
    rw [key, Int.sub_mul, Int.one_mul]
    omega

theorem quo_long (V D Q s : Int) (k : Nat) (hs : s = (k : Int)) (d0 : 0 < D) (hq : V * 2 ^ k / D = Q) (hb : 18014398509481984 ≤ Q) (rest : Bool) (hr : rest = decide (V * 2 ^ k % D ≠ 0)) : Quo V D Q s rest := by
  intro e x h
  subst hs hr
  rw [← hq] at h hb
  exact Rnd.num k (rnd_floor (V * 2 ^ k) D (e - k) x d0 hb h)
end Ie

/-- A list that stands there, new since w: the number v, not too big. -/
def Held (w wx : World) (r : Option Addr) (os : List Int) (v : Int) : Prop := Ans w.heap.size wx r os v ∧ os.length ≤ 4096 ∧ Below w.heap.size w wx

theorem Held.below {w wx wy : World} {r : Option Addr} {os : List Int} {v : Int} (h : Held w wx r os v) (hb : Below wx.heap.size wx wy) : Held w wy r os v :=
  ⟨h.1.below hb (Nat.le_refl _), h.2.1, h.2.2.trans (hb.mono h.2.2.size)⟩
theorem Held.arg {w wx : World} {r : Option Addr} {os : List Int} {v : Int} (h : Held w wx r os v) : Arg wx r os.length os.length os := h.1.arg (by have := h.2.1; omega)
theorem Held.ts {w wx : World} {r : Option Addr} {os : List Int} {v : Int} (h : Held w wx r os v) : Nm.tsize os ≤ 4096 := by rw [h.1.2.2.1]; exact h.2.1
theorem Held.mk' {w wx wy : World} {r : Option Addr} {os : List Int} {v : Int} (hx : Below w.heap.size w wx) (A : Ans wx.heap.size wy r os v) (hb : Below wx.heap.size wx wy) (hv : v < Nm.pw 4096) : Held w wy r os v := by
  refine ⟨⟨A.1, A.2.1, A.2.2.1, A.2.2.2.1, fun a h => ?_⟩, ans_small A 4096 hv, hx.trans (hb.mono hx.size)⟩
  have q := A.2.2.2.2 a h
  have := hx.size
  exact ⟨by have := q.1; omega, q.2⟩

set_option maxRecDepth 100000 in
set_option maxHeartbeats 8000000 in
theorem longest_any (p q : Option Addr) (n cap m cap' : Nat) (zs ys : List Int) (w : World) (ha : Arg w p n cap zs) (hb : Arg w q m cap' ys) (hT : Tab w) (tz : Nm.tsize zs ≤ 4096) (ty : Nm.tsize ys ≤ 4096) (V D : Int) (L M s : Nat) (hV : Nm.val zs = V) (hD : Nm.val ys = D) (hv : 0 < V)
    (hL : blen zs = (L : Int)) (BL : Nm.BLen V L) (BM : Nm.BLen D M) (hM2 : 262080 < M) (hs : L + s = 262144) :
    Calls Tryz.prog 76 #[.slice p n cap, .slice q m cap'] w fun e w' => RatioTold V D w e w' := by
  have d0 : 0 < D := by
    rcases (show D = 0 ∨ 0 < D ∨ D < 0 by omega) with h | h | h
    · have := BM.2.1 h; omega
    · exact h
    · have := (Nm.val_bd ys hb.2.2.2.2).1; omega
  have B1 := hid (bitLen_n L p n cap zs w ha hL)
  -- the numbers
  obtain ⟨N, hN⟩ : ∃ N, V * 2 ^ s = N := ⟨_, rfl⟩
  obtain ⟨H, hH⟩ : ∃ H, D / 2 ^ 64 = H := ⟨_, rfl⟩
  obtain ⟨lo, hlo⟩ : ∃ lo, D % 2 ^ 64 = lo := ⟨_, rfl⟩
  have e64 : (2 : Int) ^ 64 = 18446744073709551616 := by decide
  have lo0 : 0 ≤ lo ∧ lo < 18446744073709551616 := by rw [← hlo, e64]; omega
  have hDH : D = H * 18446744073709551616 + lo := by rw [← hH, ← hlo, e64]; omega
  have Dlt : D < Nm.pw 4096 := by rw [← hD]; exact (Nm.tsize_le_iff hb.2.2.2.2 4096).1 ty
  have Nlt : N < Nm.pw 4096 := by
    rw [← hN, Nm.pw_two]
    have g1 : V * 2 ^ s < 2 ^ (L + s) := by rw [Nm.two_add]; exact Int.mul_lt_mul_of_pos_right BL.1 (Nm.two_pos s)
    have g2 := Nm.two_mono (show L + s ≤ 64 * 4096 by omega)
    exact Int.lt_of_lt_of_le g1 g2
  have Nge : (2 : Int) ^ 262143 ≤ N := by
    rw [← hN, show (262143 : Nat) = L - 1 + s by have := (BL.2.2 hv).1; omega, Nm.two_add]
    exact Int.mul_le_mul_of_nonneg_right (BL.2.2 hv).2 (Int.le_of_lt (Nm.two_pos s))
  have N0 : 0 ≤ N := Int.le_trans (Int.le_of_lt (Nm.two_pos _)) Nge
  have Dge : (2 : Int) ^ 262080 ≤ D := Int.le_trans (Nm.two_mono (by omega)) (BM.2.2 d0).2
  have Hge : (2 : Int) ^ 262016 ≤ H := by
    rw [← hH, Int.le_ediv_iff_mul_le (Nm.two_pos 64), ← Nm.two_add]
    exact Dge
  have Hlt : H < 2 ^ 262080 := by
    rw [← hH, Int.ediv_lt_iff_lt_mul (Nm.two_pos 64), Int.mul_comm, ← Nm.two_add]
    rw [Nm.pw_two] at Dlt
    exact Dlt
  have H0 : 0 < H := Int.lt_of_lt_of_le (Nm.two_pos _) Hge
  obtain ⟨Qq, hQq⟩ : ∃ Q, N / H = Q := ⟨_, rfl⟩
  obtain ⟨R, hR⟩ : ∃ R, N % H = R := ⟨_, rfl⟩
  have R0 : 0 ≤ R := by rw [← hR]; exact Int.emod_nonneg N (Int.ne_of_gt H0)
  have R1 : R < H := by rw [← hR]; exact Int.emod_lt_of_pos N H0
  have hNR : N = Qq * H + R := by rw [← hQq, ← hR, Int.mul_comm]; exact (Int.mul_ediv_add_emod N H).symm
  have Q0 : 0 ≤ Qq := by rw [← hQq]; exact Int.ediv_nonneg N0 (Int.le_of_lt H0)
  have Qge : (2 : Int) ^ 63 ≤ Qq := by
    rw [← hQq, Int.le_ediv_iff_mul_le H0]
    have g1 : (2 : Int) ^ 63 * H ≤ 2 ^ 63 * 2 ^ 262080 := Int.mul_le_mul_of_nonneg_left (Int.le_of_lt Hlt) (Int.le_of_lt (Nm.two_pos 63))
    rw [← Nm.two_add] at g1
    exact Int.le_trans g1 Nge
  have Qlt : Qq < 2 ^ 128 := by
    rw [← hQq, Int.ediv_lt_iff_lt_mul H0]
    have g1 : (2 : Int) ^ 128 * 2 ^ 262016 ≤ 2 ^ 128 * H := Int.mul_le_mul_of_nonneg_left Hge (Int.le_of_lt (Nm.two_pos 128))
    rw [← Nm.two_add] at g1
    rw [Nm.pw_two] at Nlt
    exact Int.lt_of_lt_of_le Nlt g1
  have OWl : Qq * lo < 2 ^ 192 := by
    have g1 : Qq * lo ≤ Qq * 2 ^ 64 := Int.mul_le_mul_of_nonneg_left (by rw [e64]; omega) Q0
    have g2 : Qq * 2 ^ 64 < 2 ^ 128 * 2 ^ 64 := Int.mul_lt_mul_of_pos_right Qlt (Nm.two_pos 64)
    rw [← Nm.two_add] at g2
    exact Int.lt_of_le_of_lt g1 g2
  have OWD : Qq * lo < D := Int.lt_of_lt_of_le OWl (Int.le_trans (Nm.two_mono (by omega)) Dge)
  have OWp : Qq * lo < Nm.pw 4096 := by rw [Nm.pw_two]; exact Int.lt_of_lt_of_le OWl (Nm.two_mono (by omega))
  have Rp : R * 2 ^ 64 < Nm.pw 4096 := by
    have g1 : R * 2 ^ 64 < H * 2 ^ 64 := Int.mul_lt_mul_of_pos_right R1 (Nm.two_pos 64)
    have g2 : H * 2 ^ 64 ≤ D := by rw [e64, hDH]; omega
    exact Int.lt_trans (Int.lt_of_lt_of_le g1 g2) Dlt
  obtain ⟨LD1, LD2⟩ := Ie.long_div N D H lo Qq R hDH lo0.1 lo0.2 hNR R0 R1 OWD Q0
  have hNs : N * 18446744073709551616 = V * 2 ^ (s + 64) := by rw [← hN, Nm.two_add, e64, Int.mul_assoc]
  have q63 : (2 : Int) ^ 63 = 9223372036854775808 := by decide
  rw [q63] at Qge
  rw [e64] at Rp
  have Hp : H < Nm.pw 4096 := by rw [Nm.pw_two]; exact Int.lt_of_lt_of_le Hlt (Nm.two_mono (by omega))
  have Qp : Qq < Nm.pw 4096 := by rw [Nm.pw_two]; exact Int.lt_of_lt_of_le Qlt (Nm.two_mono (by omega))
  have Rq : R < Nm.pw 4096 := Int.lt_trans R1 Hp
  have lp : lo < Nm.pw 4096 := by
    have e1 : Nm.pw 1 = 18446744073709551616 := rfl
    have := Nm.pw_mono (show 1 ≤ 4096 by omega)
    omega
  have SH : Hid (∀ kk : Int, kk = (s : Int) → Calls Tryz.prog 73 #[.slice p n cap, .int .i64 kk] w fun e w' => ∃ r os, e = .returned (.tuple #[.slice r (List.length os) (List.length os), .int .i64 0]) ∧ Held w w' r os N) := by
    intro kk hkk
    refine (shl_any p n cap zs kk s w ha tz hkk (by rw [hV, hN]; exact Nlt)).mono ?_
    rintro e w' ⟨r, os, h1, A, hB⟩
    rw [hV, hN] at A
    exact ⟨r, os, h1, Held.mk' (Below.refl _ _) A hB Nlt⟩
  have SR : Hid (∀ wx : World, Below w.heap.size w wx → Calls Tryz.prog 77 #[.slice q m cap', .int .i64 64] wx fun e w' => ∃ r os b, e = .returned (.tuple #[.slice r (List.length os) (List.length os), .bool b, .int .i64 0]) ∧ Held w w' r os H ∧ Below wx.heap.size wx w') := by
    intro wx hx
    refine (shr_any q m cap' ys 64 64 wx (hb.below hx (Nat.le_refl _)) (hT.below hx) ty rfl).mono ?_
    rintro e w' ⟨r, os, h1, A, hB⟩
    rw [hD, hH] at A
    exact ⟨r, os, _, h1, Held.mk' hx A hB Hp, hB⟩
  have LW : Hid (∀ wx : World, Below w.heap.size w wx → Calls Tryz.prog 87 #[.slice q m cap', .int .i64 64] wx fun e w' => ∃ r os, e = .returned (.tuple #[.slice r (List.length os) (List.length os), .int .i64 0]) ∧ Held w w' r os lo ∧ Below wx.heap.size wx w') := by
    intro wx hx
    refine (low_any q m cap' ys 64 64 wx (hb.below hx (Nat.le_refl _)) ty rfl).mono ?_
    rintro e w' ⟨r, os, h1, A, hB⟩
    rw [hD, hlo] at A
    exact ⟨r, os, h1, Held.mk' hx A hB lp, hB⟩
  have DV : Hid (∀ (wx : World) (r : Option Addr) (os : List Int) (r' : Option Addr) (os' : List Int), Held w wx r os N → Held w wx r' os' H → Calls Tryz.prog 78 #[.slice r os.length os.length, .slice r' os'.length os'.length] wx fun e w' => ∃ (a : Option Addr) (x : List Int) (b : Option Addr) (y : List Int), e = .returned (.tuple #[.slice a x.length x.length, .slice b y.length y.length, .int .i64 0]) ∧ Held w w' a x Qq ∧ Held w w' b y R ∧ Below wx.heap.size wx w') := by
    intro wx r os r' os' K K'
    have tp : 0 < Nm.tsize os' := by
      rcases Nat.eq_zero_or_pos (Nm.tsize os') with h | h
      · have h2 := (Nm.tsize_zero_iff K'.1.2.1).1 h; rw [K'.1.2.2.2.1] at h2; omega
      · exact h
    have := divMod_ok r r' _ _ _ _ os os' wx K.arg K'.arg K.ts K'.ts tp
    rw [K.1.2.2.2.1, K'.1.2.2.2.1] at this
    refine this.mono ?_
    rintro e w' ⟨a, x, b, y, h1, A, A', hB⟩
    rw [hQq] at A
    rw [hR] at A'
    exact ⟨a, x, b, y, h1, Held.mk' K.2.2 A hB Qp, Held.mk' K.2.2 A' hB Rq, hB⟩
  have SL : Hid (∀ (wx : World) (r : Option Addr) (os : List Int), Held w wx r os R → Calls Tryz.prog 73 #[.slice r os.length os.length, .int .i64 64] wx fun e w' => ∃ (a : Option Addr) (x : List Int), e = .returned (.tuple #[.slice a x.length x.length, .int .i64 0]) ∧ Held w w' a x (R * 18446744073709551616) ∧ Below wx.heap.size wx w') := by
    intro wx r os K
    have := shl_any r _ _ os 64 64 wx K.arg K.ts rfl (by rw [K.1.2.2.2.1, e64]; exact Rp)
    rw [K.1.2.2.2.1, e64] at this
    refine this.mono ?_
    rintro e w' ⟨a, x, h1, A, hB⟩
    exact ⟨a, x, h1, Held.mk' K.2.2 A hB Rp, hB⟩
  have MU : Hid (∀ (wx : World) (r : Option Addr) (os : List Int) (r' : Option Addr) (os' : List Int), Held w wx r os Qq → Held w wx r' os' lo → Calls Tryz.prog 88 #[.slice r os.length os.length, .slice r' os'.length os'.length] wx fun e w' => ∃ (a : Option Addr) (x : List Int), e = .returned (.tuple #[.slice a x.length x.length, .int .i64 0]) ∧ Held w w' a x (Qq * lo) ∧ Below wx.heap.size wx w') := by
    intro wx r os r' os' K K'
    have := mul_ok r r' _ _ _ _ os os' wx K.arg K'.arg K.ts K'.ts (by rw [K.1.2.2.2.1, K'.1.2.2.2.1]; exact OWp)
    rw [K.1.2.2.2.1, K'.1.2.2.2.1] at this
    refine this.mono ?_
    rintro e w' ⟨a, x, h1, A, hB⟩
    exact ⟨a, x, h1, Held.mk' K.2.2 A hB OWp, hB⟩
  obtain ⟨c, hc⟩ : ∃ c, cmpI (R * 18446744073709551616) (Qq * lo) = c := ⟨_, rfl⟩
  have CP : Hid (∀ (wx : World) (r : Option Addr) (os : List Int) (r' : Option Addr) (os' : List Int), Held w wx r os (R * 18446744073709551616) → Held w wx r' os' (Qq * lo) → Calls Tryz.prog 89 #[.slice r os.length os.length, .slice r' os'.length os'.length] wx fun e w' => e = .returned (.int .i64 c) ∧ Below wx.heap.size wx w') := by
    intro wx r os r' os' K K'
    have := cmp_any r r' _ _ _ _ os os' wx K.arg K'.arg
    rw [K.1.2.2.2.1, K'.1.2.2.2.1, hc] at this
    exact this
  have p1 : (1 : Int) < Nm.pw 4096 := by
    have e1 : Nm.pw 1 = 18446744073709551616 := rfl
    have := Nm.pw_mono (show 1 ≤ 4096 by omega)
    omega
  have FU : Hid (∀ wx : World, Below w.heap.size w wx → Calls Tryz.prog 71 #[.int .u64 1] wx fun e w' => ∃ (a : Option Addr) (x : List Int), e = .returned (.slice a x.length x.length) ∧ Held w w' a x 1 ∧ Below wx.heap.size wx w') := by
    intro wx hx
    refine (fromUint_any 1 wx (by omega) (by omega)).mono ?_
    rintro e w' ⟨a, x, h1, A, hB⟩
    exact ⟨a, x, h1, Held.mk' hx A hB p1, hB⟩
  have SB : Hid (∀ (wx : World) (r : Option Addr) (os : List Int) (r' : Option Addr) (os' : List Int), Held w wx r os Qq → Held w wx r' os' 1 → Calls Tryz.prog 90 #[.slice r os.length os.length, .slice r' os'.length os'.length] wx fun e w' => ∃ (a : Option Addr) (x : List Int), e = .returned (.tuple #[.slice a x.length x.length, .int .i64 0]) ∧ Held w w' a x (Qq - 1) ∧ Below wx.heap.size wx w') := by
    intro wx r os r' os' K K'
    have := sub_ok r r' _ _ _ _ os os' wx K.arg K'.arg K.ts (by rw [K.1.2.2.2.1, K'.1.2.2.2.1]; omega)
    rw [K.1.2.2.2.1, K'.1.2.2.2.1] at this
    refine this.mono ?_
    rintro e w' ⟨a, x, h1, A, hB⟩
    exact ⟨a, x, h1, Held.mk' K.2.2 A hB (by omega), hB⟩
  have WT : Hid (∀ (wx : World) (r : Option Addr) (os : List Int) (v sh : Int) (rest : Bool), Held w wx r os v → sh = (s : Int) + 64 → V * 2 ^ (s + 64) / D = v → 18014398509481984 ≤ v → rest = decide (V * 2 ^ (s + 64) % D ≠ 0) → RatioTold V D w (.returned (.tuple #[.slice r os.length os.length, .int .i64 sh, .bool rest])) wx) := by
    intro wx r os v sh rest K hsh hq hvb hrest
    exact ⟨r, os, v, sh, rest, rfl, K.1, K.2.2, K.ts, ⟨by omega, by omega⟩, Ie.quo_long V D v sh (s + 64) (by omega) d0 hq hvb rest hrest⟩
  have l3 : (L : Int) ≤ 262144 := by omega
  have LS := hid (show (262144 : Int) - (L : Int) = (s : Int) by omega)
  rw [hNs] at LD1 LD2
  have ov : (c = -1 ∧ R * 18446744073709551616 < Qq * lo) ∨ (c = 0 ∧ R * 18446744073709551616 = Qq * lo) ∨ (c = 1 ∧ Qq * lo < R * 18446744073709551616) := by
    rw [← hc, cmpI]
    by_cases g : R * 18446744073709551616 < Qq * lo
    · rw [if_pos g]; exact .inl ⟨rfl, g⟩
    · by_cases g2 : R * 18446744073709551616 = Qq * lo
      · rw [if_neg g, if_pos g2]; exact .inr (.inl ⟨rfl, g2⟩)
      · rw [if_neg g, if_neg g2]; exact .inr (.inr ⟨rfl, by omega⟩)
  have Qg := hid Qge
  have RR0 := hid R0
  clear hc ha hb hT tz ty hV hD hv hL BL BM hM2 hs hN hH hlo e64 lo0 hDH Dlt Nlt Nge N0 Dge Hge Hlt H0 hQq hR R1 hNR Q0 Qge Qlt OWl OWp Rp hNs q63 Hp Qp Rq lp p1
  rcases ov with ⟨rfl, ho⟩ | ⟨rfl, ho⟩ | ⟨rfl, ho⟩
  · obtain ⟨x1, x2⟩ := LD2 ho
    have X1 := hid x1
    have X2 := hid (show V * 2 ^ (s + 64) % D ≠ 0 by rw [x2]; omega)
    clear LD1 LD2 x1 x2 ho OWD d0 R0
    go_enter Tryz.func76, Tryz.ntmps76
    go_wp2_with fail
    refine B1.out.mono ?_
    rintro e w ⟨rfl, rfl⟩
    go_wp2_with fail
    refine (SH.out _ (by have := LS.out; omega)).mono ?_
    rintro e w1 ⟨r1, o1, rfl, A1⟩
    have K1 := hid A1
    clear A1
    go_wp2_with fail
    refine (SR.out _ K1.out.2.2).mono ?_
    rintro e w2 ⟨r2, o2, bl, rfl, A2, hB2⟩
    have K2 := hid A2
    have K1 := hid (K1.out.below hB2)
    clear A2 hB2
    go_wp2_with fail
    refine (LW.out _ K2.out.2.2).mono ?_
    rintro e w3 ⟨r3, o3, rfl, A3, hB3⟩
    have K3 := hid A3
    have K1 := hid (K1.out.below hB3)
    have K2 := hid (K2.out.below hB3)
    clear A3 hB3
    go_wp2_with fail
    refine (DV.out _ r1 o1 r2 o2 K1.out K2.out).mono ?_
    rintro e w4 ⟨r4, o4, r5, o5, rfl, A4, A5, hB4⟩
    have K4 := hid A4
    have K5 := hid A5
    have K3 := hid (K3.out.below hB4)
    clear A4 A5 hB4 K1 K2
    go_wp2_with fail
    refine (SL.out _ r5 o5 K5.out).mono ?_
    rintro e w5 ⟨r6, o6, rfl, A6, hB5⟩
    have K6 := hid A6
    have K4 := hid (K4.out.below hB5)
    have K3 := hid (K3.out.below hB5)
    clear A6 hB5 K5
    go_wp2_with fail
    refine (MU.out _ r4 o4 r3 o3 K4.out K3.out).mono ?_
    rintro e w6 ⟨r7, o7, rfl, A7, hB6⟩
    have K7 := hid A7
    have K4 := hid (K4.out.below hB6)
    have K6 := hid (K6.out.below hB6)
    clear A7 hB6 K3
    go_wp2_with fail
    refine (CP.out _ r6 o6 r7 o7 K6.out K7.out).mono ?_
    rintro e w7 ⟨rfl, hB7⟩
    have K4 := hid (K4.out.below hB7)
    clear hB7 K6 K7
    go_wp2_with fail
    refine (FU.out _ K4.out.2.2).mono ?_
    rintro e w8 ⟨r8, o8, rfl, A8, hB8⟩
    have K8 := hid A8
    have K4 := hid (K4.out.below hB8)
    clear A8 hB8
    go_wp2_with fail
    refine (SB.out _ r4 o4 r8 o8 K4.out K8.out).mono ?_
    rintro e w9 ⟨r9, o9, rfl, A9, -⟩
    have K9 := hid A9
    clear A9
    go_wp2_with fail
    go_ret3
    exact WT.out _ r9 o9 _ _ _ K9.out (by have := LS.out; omega) X1.out (by have := Qg.out; omega) (by rw [decide_eq_true X2.out])
  · obtain ⟨x1, x2⟩ := LD1 (by omega)
    have X1 := hid x1
    have X2 := hid (show ¬ V * 2 ^ (s + 64) % D ≠ 0 by rw [x2]; omega)
    clear LD1 LD2 x1 x2 ho OWD d0 R0
    go_enter Tryz.func76, Tryz.ntmps76
    go_wp2_with fail
    refine B1.out.mono ?_
    rintro e w ⟨rfl, rfl⟩
    go_wp2_with fail
    refine (SH.out _ (by have := LS.out; omega)).mono ?_
    rintro e w1 ⟨r1, o1, rfl, A1⟩
    have K1 := hid A1
    clear A1
    go_wp2_with fail
    refine (SR.out _ K1.out.2.2).mono ?_
    rintro e w2 ⟨r2, o2, bl, rfl, A2, hB2⟩
    have K2 := hid A2
    have K1 := hid (K1.out.below hB2)
    clear A2 hB2
    go_wp2_with fail
    refine (LW.out _ K2.out.2.2).mono ?_
    rintro e w3 ⟨r3, o3, rfl, A3, hB3⟩
    have K3 := hid A3
    have K1 := hid (K1.out.below hB3)
    have K2 := hid (K2.out.below hB3)
    clear A3 hB3
    go_wp2_with fail
    refine (DV.out _ r1 o1 r2 o2 K1.out K2.out).mono ?_
    rintro e w4 ⟨r4, o4, r5, o5, rfl, A4, A5, hB4⟩
    have K4 := hid A4
    have K5 := hid A5
    have K3 := hid (K3.out.below hB4)
    clear A4 A5 hB4 K1 K2
    go_wp2_with fail
    refine (SL.out _ r5 o5 K5.out).mono ?_
    rintro e w5 ⟨r6, o6, rfl, A6, hB5⟩
    have K6 := hid A6
    have K4 := hid (K4.out.below hB5)
    have K3 := hid (K3.out.below hB5)
    clear A6 hB5 K5
    go_wp2_with fail
    refine (MU.out _ r4 o4 r3 o3 K4.out K3.out).mono ?_
    rintro e w6 ⟨r7, o7, rfl, A7, hB6⟩
    have K7 := hid A7
    have K4 := hid (K4.out.below hB6)
    have K6 := hid (K6.out.below hB6)
    clear A7 hB6 K3
    go_wp2_with fail
    refine (CP.out _ r6 o6 r7 o7 K6.out K7.out).mono ?_
    rintro e w7 ⟨rfl, hB7⟩
    have K4 := hid (K4.out.below hB7)
    clear hB7 K6 K7
    go_wp2_with fail
    go_ret3
    exact WT.out _ r4 o4 _ _ _ K4.out (by have := LS.out; omega) X1.out (by have := Qg.out; omega) (by rw [decide_eq_false X2.out])
  · obtain ⟨x1, x2⟩ := LD1 (by omega)
    have X1 := hid x1
    have X2 := hid (show V * 2 ^ (s + 64) % D ≠ 0 by rw [x2]; omega)
    clear LD1 LD2 x1 x2 ho OWD d0 R0
    go_enter Tryz.func76, Tryz.ntmps76
    go_wp2_with fail
    refine B1.out.mono ?_
    rintro e w ⟨rfl, rfl⟩
    go_wp2_with fail
    refine (SH.out _ (by have := LS.out; omega)).mono ?_
    rintro e w1 ⟨r1, o1, rfl, A1⟩
    have K1 := hid A1
    clear A1
    go_wp2_with fail
    refine (SR.out _ K1.out.2.2).mono ?_
    rintro e w2 ⟨r2, o2, bl, rfl, A2, hB2⟩
    have K2 := hid A2
    have K1 := hid (K1.out.below hB2)
    clear A2 hB2
    go_wp2_with fail
    refine (LW.out _ K2.out.2.2).mono ?_
    rintro e w3 ⟨r3, o3, rfl, A3, hB3⟩
    have K3 := hid A3
    have K1 := hid (K1.out.below hB3)
    have K2 := hid (K2.out.below hB3)
    clear A3 hB3
    go_wp2_with fail
    refine (DV.out _ r1 o1 r2 o2 K1.out K2.out).mono ?_
    rintro e w4 ⟨r4, o4, r5, o5, rfl, A4, A5, hB4⟩
    have K4 := hid A4
    have K5 := hid A5
    have K3 := hid (K3.out.below hB4)
    clear A4 A5 hB4 K1 K2
    go_wp2_with fail
    refine (SL.out _ r5 o5 K5.out).mono ?_
    rintro e w5 ⟨r6, o6, rfl, A6, hB5⟩
    have K6 := hid A6
    have K4 := hid (K4.out.below hB5)
    have K3 := hid (K3.out.below hB5)
    clear A6 hB5 K5
    go_wp2_with fail
    refine (MU.out _ r4 o4 r3 o3 K4.out K3.out).mono ?_
    rintro e w6 ⟨r7, o7, rfl, A7, hB6⟩
    have K7 := hid A7
    have K4 := hid (K4.out.below hB6)
    have K6 := hid (K6.out.below hB6)
    clear A7 hB6 K3
    go_wp2_with fail
    refine (CP.out _ r6 o6 r7 o7 K6.out K7.out).mono ?_
    rintro e w7 ⟨rfl, hB7⟩
    have K4 := hid (K4.out.below hB7)
    clear hB7 K6 K7
    go_wp2_with fail
    go_ret3
    exact WT.out _ r4 o4 _ _ _ K4.out (by have := LS.out; omega) X1.out (by have := Qg.out; omega) (by rw [decide_eq_true X2.out])

set_option maxRecDepth 100000 in
set_option maxHeartbeats 4000000 in
/-- ratio, whatever the divisor. -/
theorem ratio_all (p q : Option Addr) (n cap m cap' : Nat) (zs ys : List Int) (w : World) (ha : Arg w p n cap zs) (hb : Arg w q m cap' ys) (hT : Tab w) (tz : Nm.tsize zs ≤ 4096) (ty : Nm.tsize ys ≤ 4096) (V D : Int) (hV : Nm.val zs = V) (hD : Nm.val ys = D) (hv : 0 < V) (hd : 0 < D) :
    Calls Tryz.prog 49 #[.slice p n cap, .slice q m cap'] w fun e w' => RatioTold V D w e w' := by
  obtain ⟨L, hL, BL, hl, _⟩ := blen_is zs ha.2.2.2.2
  obtain ⟨M, hM, BM, hm, _⟩ := blen_is ys hb.2.2.2.2
  rw [hV] at BL
  rw [hD] at BM
  rcases Nat.lt_or_ge 262080 M with h | h
  · have B2 := hid (bitLen_n M q m cap' ys w hb hM)
    have LG := hid (longest_any p q n cap m cap' zs ys w ha hb hT tz ty V D L M (262144 - L) hV hD hv hL BL BM h (by omega))
    have l1 : (262144 : Int) < (M : Int) + 64 := by omega
    have l2 : (M : Int) ≤ 300000 := by omega
    clear ha hb hT tz ty hV hD hv hd hL hM BL BM hl hm h
    go_enter Tryz.func49, Tryz.ntmps49
    go_wp2_with fail
    refine B2.out.mono ?_
    rintro e w' ⟨rfl, rfl⟩
    go_wp2_with fail
    refine LG.out.mono ?_
    rintro e w1 ⟨r, os, Q, sh, rest, rfl, K⟩
    have KK := hid K
    clear K
    go_wp2_with fail
    go_ret3
    exact ⟨r, os, Q, sh, rest, rfl, KK.out⟩
  · rcases Nat.lt_or_ge (M + 64) L with h2 | h2
    · exact ratio_down p q n cap m cap' zs ys w ha hb tz (by omega) V D L M (L - (M + 64)) hV hD hv hd hL hM BL BM (by omega) (by omega) (by omega) (by omega) hT
    · exact ratio_up p q n cap m cap' zs ys w ha hb tz (by omega) V D L M (M + 64 - L) hV hD hv hd hL hM BL BM (by omega) (by omega)

set_option maxRecDepth 100000 in
theorem round_big (neg : Bool) (p : Option Addr) (n cap : Nat) (zs : List Int) (w : World) (ha : Arg w p n cap zs) (tz : 4096 < Nm.tsize zs) (e : Int) (more : Bool) :
    Calls Tryz.prog 46 #[.bool neg, .slice p n cap, .int .i64 e, .bool more] w fun r w' => r = .returned (.tuple #[.int .u64 0, .int .i64 2]) ∧ w' = w := by
  obtain ⟨L, hL, BL, hl, hg⟩ := blen_is zs ha.2.2.2.2
  have B1 := hid (bitLen_n L p n cap zs w ha hL)
  have l1 : (262144 : Int) < (L : Int) := by have := hg (by omega); omega
  clear ha tz hL BL hl hg
  go_enter Tryz.func46, Tryz.ntmps46
  go_wp2_with fail
  refine B1.out.mono ?_
  rintro e' w' ⟨rfl, rfl⟩
  go_wp2_with fail
  go_ret2
  exact ⟨rfl, rfl⟩

set_option maxRecDepth 100000 in
set_option maxHeartbeats 2000000 in
theorem roundRatio_big (neg : Bool) (p q : Option Addr) (n cap m cap' : Nat) (zs ys : List Int) (w : World) (ha : Arg w p n cap zs) (hb : Arg w q m cap' ys) (h : 4096 < Nm.tsize zs ∨ 4096 < Nm.tsize ys) (e : Int) :
    Calls Tryz.prog 11 #[.bool neg, .slice p n cap, .slice q m cap', .int .i64 e] w fun r w' => r = .returned (.tuple #[.int .u64 0, .int .i64 2]) ∧ w' = w := by
  obtain ⟨L, hL, BL, hl, hg⟩ := blen_is zs ha.2.2.2.2
  obtain ⟨M, hM, BM, hm, hgm⟩ := blen_is ys hb.2.2.2.2
  have B1 := hid (bitLen_n L p n cap zs w ha hL)
  have B2 := hid (bitLen_n M q m cap' ys w hb hM)
  by_cases g : 4096 < Nm.tsize zs
  · have l1 : (262144 : Int) < (L : Int) := by have := hg (by omega); omega
    clear ha hb h hL hM BL BM hl hm hg hgm g
    go_enter Tryz.func11, Tryz.ntmps11
    go_wp2_with fail
    refine B1.out.mono ?_
    rintro e' w' ⟨rfl, rfl⟩
    go_wp2_with fail
    go_ret2
    exact ⟨rfl, rfl⟩
  · have l1 : decide ((262144 : Int) < (L : Int)) = false := by simp; omega
    have l2 : (262144 : Int) < (M : Int) := by have := hgm (by omega); omega
    clear ha hb h hL hM BL BM hl hm hg hgm g
    go_enter Tryz.func11, Tryz.ntmps11
    go_wp2_with fail
    refine B1.out.mono ?_
    rintro e' w' ⟨rfl, rfl⟩
    go_wp2_with fail
    refine B2.out.mono ?_
    rintro e' w' ⟨rfl, rfl⟩
    go_wp2_with fail
    go_ret2
    exact ⟨rfl, rfl⟩

end Go.Proofs.YtggiioipppbedaaGreatDoor

/-
  RoundRatio whatever the divisor, of the program and of the document; the document's errors.
-/
namespace Go.Proofs.YtggiioipppbedaaGreatDoor
open Go Go.RowKit Go.Deep

set_option maxRecDepth 100000 in
set_option maxHeartbeats 2000000 in
theorem roundRatio_all (neg : Bool) (p q : Option Addr) (n cap m cap' : Nat) (zs ys : List Int) (w : World) (ha : Arg w p n cap zs) (hb : Arg w q m cap' ys) (hT : Tab w) (tz : Nm.tsize zs ≤ 4096) (ty : Nm.tsize ys ≤ 4096) (V D e : Int) (hV : Nm.val zs = V) (hD : Nm.val ys = D) (hd : 0 < D) :
    Calls Tryz.prog 11 #[.bool neg, .slice p n cap, .slice q m cap', .int .i64 e] w fun r w' => ∃ x, r = .returned (.tuple #[.int .u64 (Ie.sg neg x), .int .i64 0]) ∧ Ie.Rnd V D e false x ∧ Below w.heap.size w w' := by
  obtain ⟨L, hL, BL, hl, _⟩ := blen_is zs ha.2.2.2.2
  obtain ⟨M, hM, BM, hm, _⟩ := blen_is ys hb.2.2.2.2
  rw [hV] at BL
  rw [hD] at BM
  have B1 := hid (bitLen_n L p n cap zs w ha hL)
  have B2 := hid (bitLen_n M q m cap' ys w hb hM)
  have v0 : 0 ≤ V := by rw [← hV]; exact (Nm.val_bd zs ha.2.2.2.2).1
  have l1 : decide (262144 < (L : Int)) = false := by simp; omega
  have l2 : decide (262144 < (M : Int)) = false := by simp; omega
  have m0 : 0 < M := (BM.2.2 hd).1
  have l3 : ((M : Int) == 0) = false := by rw [beq_eq_false_iff_ne]; omega
  rcases (show V = 0 ∨ 0 < V by omega) with hv | hv
  · have hL0 : L = 0 := BL.2.1 hv
    subst hL0
    have R := hid (Ie.rnd_zero D e false hd)
    have SG := hid (signed_any neg 0 w (by omega) (by omega))
    subst hv
    clear ha hb hT tz ty hV hD hd hL hM BL BM hl hm v0 m0
    go_enter Tryz.func11, Tryz.ntmps11
    go_wp2_with fail
    refine B1.out.mono ?_
    rintro e' w' ⟨rfl, rfl⟩
    go_wp2_with fail
    refine B2.out.mono ?_
    rintro e' w' ⟨rfl, rfl⟩
    go_wp2_with fail
    refine B2.out.mono ?_
    rintro e' w' ⟨rfl, rfl⟩
    go_wp2_with fail
    refine B1.out.mono ?_
    rintro e' w' ⟨rfl, rfl⟩
    go_wp2_with fail
    refine SG.out.mono ?_
    rintro e' w' ⟨rfl, rfl⟩
    go_wp2_with fail
    go_ret2
    exact ⟨0, rfl, R.out, Below.refl _ _⟩
  · have RA := hid (ratio_all p q n cap m cap' zs ys w ha hb hT tz ty V D hV hD hv hd)
    have WI := hid (fun (x : Int) => Ie.win_ok (n := V) (d := D) (e := e) (x := x) (more := false) L M v0 BL.1 hd (by have := BM.1; omega) (by omega) (by omega))
    have W0 := hid (fun (wx : World) => within_any e wx)
    obtain ⟨we, hwe⟩ : ∃ we, Ie.win e = we := ⟨_, rfl⟩
    have wb := Ie.win_bd e
    rw [hwe] at wb W0 WI
    obtain ⟨wb1, wb2⟩ := wb
    have l0 : 0 < L := (BL.2.2 hv).1
    have l4 : ((L : Int) == 0) = false := by rw [beq_eq_false_iff_ne]; omega
    have HT := hid hT
    clear ha hb hT tz ty hV hD hd hL hM BL BM hl hm v0 m0 hwe l0 hv
    go_enter Tryz.func11, Tryz.ntmps11
    go_wp2_with fail
    refine B1.out.mono ?_
    rintro e' w' ⟨rfl, rfl⟩
    go_wp2_with fail
    refine B2.out.mono ?_
    rintro e' w' ⟨rfl, rfl⟩
    go_wp2_with fail
    refine B2.out.mono ?_
    rintro e' w' ⟨rfl, rfl⟩
    go_wp2_with fail
    refine B1.out.mono ?_
    rintro e' w' ⟨rfl, rfl⟩
    go_wp2_with fail
    refine RA.out.mono ?_
    rintro e' w1 ⟨r, os, Q, sh, rest, rfl, A, hB, to4, ⟨s1, s2⟩, QU⟩
    have lo : os.length ≤ 4096 := by rw [← A.2.2.1]; exact to4
    have NR := hid (nearest_any r _ _ os w1 (A.arg (by omega)) (HT.out.below hB) to4 Q (we - sh) rest A.2.2.2.1 (by omega) (by omega))
    have HB := hid hB
    have QQ := hid QU
    clear A hB to4 QU lo B1 B2 RA HT
    go_wp2_with fail
    refine (W0.out w1).mono ?_
    rintro e' w' ⟨rfl, rfl⟩
    go_wp2_with fail
    refine NR.out.mono ?_
    rintro e' w2 ⟨x, rfl, R, hB⟩
    have bd := R.bd
    have R1 := hid (WI.out x (QQ.out we x R))
    have SG := hid (signed_any neg x w2 bd.1 (by omega))
    have HB2 := hid (HB.out.trans (hB.mono HB.out.size))
    clear R bd hB
    go_wp2_with fail
    refine SG.out.mono ?_
    rintro e' w3 ⟨rfl, rfl⟩
    go_wp2_with fail
    go_ret2
    exact ⟨x, rfl, R1.out, HB2.out⟩

set_option maxRecDepth 100000 in
set_option maxHeartbeats 2000000 in
theorem zratio_big (neg : Bool) (p q : Option Addr) (n cap m cap' : Nat) (zs ys : List Int) (w : World) (ha : Arg w p n cap zs) (hb : Arg w q m cap' ys) (h : 4096 < Nm.tsize zs ∨ 4096 < Nm.tsize ys) (e : Int) :
    Calls Tryz.prog 31 #[.bool neg, .slice p n cap, .slice q m cap', .int .i64 e] w fun r w' => r = .returned (.tuple #[.int .u64 0, .int .i64 2]) ∧ w' = w := by
  by_cases g : 4096 < Nm.tsize zs
  · have B1 := hid (refBig_is true p n cap zs w ha (by simp; omega))
    clear ha hb h g
    go_enter Tryz.func31, Tryz.ntmps31
    go_wp2_with fail
    refine B1.out.mono ?_
    rintro e' w' ⟨rfl, rfl⟩
    go_wp2_with fail
    go_ret2
    exact ⟨rfl, rfl⟩
  · have B1 := hid (refBig_is false p n cap zs w ha (by simp; omega))
    have B2 := hid (refBig_is true q m cap' ys w hb (by simp; omega))
    clear ha hb h g
    go_enter Tryz.func31, Tryz.ntmps31
    go_wp2_with fail
    refine B1.out.mono ?_
    rintro e' w' ⟨rfl, rfl⟩
    go_wp2_with fail
    refine B2.out.mono ?_
    rintro e' w' ⟨rfl, rfl⟩
    go_wp2_with fail
    go_ret2
    exact ⟨rfl, rfl⟩

set_option maxRecDepth 100000 in
set_option maxHeartbeats 2000000 in
theorem zratio_zero (neg : Bool) (p q : Option Addr) (n cap m cap' : Nat) (zs ys : List Int) (w : World) (ha : Arg w p n cap zs) (hb : Arg w q m cap' ys) (tz : Nm.tsize zs ≤ 4096) (hz : Nm.val ys = 0) (e : Int) :
    Calls Tryz.prog 31 #[.bool neg, .slice p n cap, .slice q m cap', .int .i64 e] w fun r w' => r = .returned (.tuple #[.int .u64 0, .int .i64 4]) ∧ w' = w := by
  have h0 := (Nm.tsize_zero_iff hb.2.2.2.2).2 hz
  have B1 := hid (refBig_is false p n cap zs w ha (by simp; omega))
  have B2 := hid (refBig_is false q m cap' ys w hb (by simp; omega))
  have Z2 := refSize_any q m cap' ys w hb.1 (by have := hb.2.1; have := hb.2.2.1; omega) hb.2.2.2.1
  rw [h0] at Z2
  have Z2 := hid Z2
  clear ha hb tz hz h0
  go_enter Tryz.func31, Tryz.ntmps31
  go_wp2_with fail
  refine B1.out.mono ?_
  rintro e' w' ⟨rfl, rfl⟩
  go_wp2_with fail
  refine B2.out.mono ?_
  rintro e' w' ⟨rfl, rfl⟩
  go_wp2_with fail
  refine Z2.out.mono ?_
  rintro e' w' ⟨rfl, rfl⟩
  go_wp2_with fail
  go_ret2
  exact ⟨rfl, rfl⟩
end Go.Proofs.YtggiioipppbedaaGreatDoor

/-
  ieee: Round.
-/
namespace Go.Proofs.YtggiioipppbedaaGreatDoor
open Go Go.RowKit Go.Deep


set_option maxRecDepth 100000 in
set_option maxHeartbeats 2000000 in
theorem round_any (neg : Bool) (p : Option Addr) (n cap : Nat) (zs : List Int) (w : World) (ha : Arg w p n cap zs) (hT : Tab w) (tz : Nm.tsize zs ≤ 4096) (V e : Int) (more : Bool) (hV : Nm.val zs = V) :
    Calls Tryz.prog 46 #[.bool neg, .slice p n cap, .int .i64 e, .bool more] w fun r w' => ∃ x, r = .returned (.tuple #[.int .u64 (Ie.sg neg x), .int .i64 0]) ∧ Ie.Rnd V 1 e more x ∧ Below w.heap.size w w' := by
  obtain ⟨L, hL, BL, hl, _⟩ := blen_is zs ha.2.2.2.2
  rw [hV] at BL
  have B1 := hid (bitLen_n L p n cap zs w ha hL)
  have v0 : 0 ≤ V := by rw [← hV]; exact (Nm.val_bd zs ha.2.2.2.2).1
  have WI := hid (fun (x : Int) => Ie.win_ok (n := V) (d := 1) (e := e) (x := x) (more := more) L 0 v0 BL.1 (by omega) (by decide) (by omega) (by omega))
  have W0 := hid (within_any e w)
  obtain ⟨we, hwe⟩ : ∃ we, Ie.win e = we := ⟨_, rfl⟩
  have wb := Ie.win_bd e
  rw [hwe] at wb W0 WI
  have NR := hid (nearest_any p n cap zs w ha hT tz V we more hV (by omega) (by omega))
  have l1 : decide (262144 < (L : Int)) = false := by simp; omega
  clear ha hT tz hV hL BL hl v0 hwe wb
  go_enter Tryz.func46, Tryz.ntmps46
  go_wp2_with fail
  refine B1.out.mono ?_
  rintro e' w' ⟨rfl, rfl⟩
  go_wp2_with fail
  refine W0.out.mono ?_
  rintro e' w' ⟨rfl, rfl⟩
  go_wp2_with fail
  refine NR.out.mono ?_
  rintro e' w1 ⟨x, rfl, R, hB⟩
  have bd := R.bd
  have R1 := hid (WI.out x R)
  have SG := hid (signed_any neg x w1 bd.1 (by omega))
  have HB := hid hB
  clear R bd hB
  go_wp2_with fail
  refine SG.out.mono ?_
  rintro e' w2 ⟨rfl, rfl⟩
  go_wp2_with fail
  go_ret2
  exact ⟨x, rfl, R1.out, HB.out⟩
end Go.Proofs.YtggiioipppbedaaGreatDoor

/-
  Every call: both sides tell one answer (made by mkeask.py).
-/
namespace Go.Proofs.YtggiioipppbedaaGreatDoor
open Go Go.RowKit Go.Deep

namespace Ie
theorem ewhp_bd (r : Int) (h0 : 0 ≤ r) (h1 : r < 9218868437227405312) : 0 ≤ whp r ∧ whp r < Nm.pw 4096 := by
  have v0 := vl_nn h0
  have mb := man_nn r h0
  have eb : ex r ≤ 2046 := by simp only [ex]; omega
  have e54 : (2 : Int) ^ 54 = 18014398509481984 := by decide
  have a1 : whp r ≤ vl r := Int.ediv_le_self _ v0
  have a0 : 0 ≤ whp r := Int.ediv_nonneg v0 (Int.le_of_lt (Nm.two_pos 1075))
  have a2 : 2 * man r * 2 ^ ex r ≤ 2 ^ 54 * 2 ^ ex r := Int.mul_le_mul_of_nonneg_right (by rw [e54]; omega) (Int.le_of_lt (Nm.two_pos (ex r)))
  rw [← Nm.two_add] at a2
  have a3 : (2 : Int) ^ (54 + ex r) ≤ Nm.pw 4095 := by rw [Nm.pw_two]; exact Nm.two_mono (by omega)
  have a4 : Nm.pw 4095 < Nm.pw 4096 := by have e : Nm.pw 4096 = 18446744073709551616 * Nm.pw 4095 := Nm.pw_succ 4095; have := Nm.pw_pos 4095; omega
  have a5 : vl r = 2 * man r * 2 ^ ex r := rfl
  rw [← a5] at a2
  exact ⟨a0, Int.lt_of_le_of_lt (Int.le_trans a1 (Int.le_trans a2 a3)) a4⟩
end Ie

theorem rnd_uniq {n d e x y : Int} {m : Bool} (hd : 0 < d) (h : Ie.Rnd n d e m x) (h' : Ie.Rnd n d e m y) : x = y := Ie.Rnd.one (a := 0) (a' := 0) hd hd h h' (by omega) rfl

theorem bel_eq {w w' : World} (h : w' = w) : Below w.heap.size w w' := by rw [h]; exact Below.refl _ _

theorem both_any (kd X Y I : Int) (pn : Bool) (pc pm px : Int) (neg : Bool) (n k : Nat) (ex : Int) (more : Bool) (zN zD : List Int)
    (x0 : 0 ≤ X) (x1 : X < 18446744073709551616) (y0 : 0 ≤ Y) (y1 : Y < 18446744073709551616) (i0 : -9223372036854775808 ≤ I) (i1 : I ≤ 9223372036854775807) (m0 : 0 ≤ pm) (m1 : pm < 18446744073709551616)
    (_ : Nm.Limbs zN) (lD : Nm.Limbs zD) :
    EBth kd X Y I pn pc pm px neg n k ex more zN zD := by
  by_cases ho : kd < 1 ∨ 18 < kd
  · refine ⟨fun a => a = (⟨0, 0, 0, false, false, 0, 0, 0, 0, []⟩ : AV), fun a b h h' => by rw [h, h'], fun wx p q cap cap' hT cN cD => ?_, fun wx p' q' c1 c2 hT aN aD => ?_⟩
    · refine (ewanted_other kd X Y I pn pc pm px neg p q n k cap cap' ex more wx ho).mono ?_
      rintro r w' ⟨rfl, hw⟩
      exact ⟨_, none, rfl, rfl, lim_nil, ls_nil _ _, hw⟩
    · refine (easked_other kd X Y I pn pc pm px neg p' q' n k c1 c2 ex more wx ho).mono ?_
      rintro r w' ⟨rfl, hw⟩
      exact ⟨_, none, rfl, rfl, lim_nil, ls_nil _ _, hw⟩
  rcases (show kd = 1 ∨ kd = 2 ∨ kd = 3 ∨ kd = 4 ∨ kd = 5 ∨ kd = 6 ∨ kd = 7 ∨ kd = 8 ∨ kd = 9 ∨ kd = 10 ∨ kd = 11 ∨ kd = 12 ∨ kd = 13 ∨ kd = 14 ∨ kd = 15 ∨ kd = 16 ∨ kd = 17 ∨ kd = 18 by omega) with rfl | rfl | rfl | rfl | rfl | rfl | rfl | rfl | rfl | rfl | rfl | rfl | rfl | rfl | rfl | rfl | rfl | rfl
  · refine both1 X Y I pn pc pm px neg n k ex more zN zD (fun a c m x => a = decide (9223372036854775808 ≤ X) ∧ c = Ie.cls X ∧ m = Ie.dm X ∧ x = Ie.de X) ?_ (fun wx p q cap cap' hT cN cD => ?_) (fun wx p' q' c1 c2 hT _ _ => ?_)
    · rintro a c m x a' c' m' x' ⟨rfl, rfl, rfl, rfl⟩ ⟨rfl, rfl, rfl, rfl⟩
      exact ⟨rfl, rfl, rfl, rfl⟩
    · refine (zdecode_any X wx x0 x1).mono ?_
      rintro r w' ⟨rfl, hw⟩
      exact ⟨_, _, _, _, rfl, ⟨rfl, rfl, rfl, rfl⟩, hw⟩
    · refine (decode_any X wx x0 x1).mono ?_
      rintro r w' ⟨rfl, hw⟩
      exact ⟨_, _, _, _, rfl, ⟨rfl, rfl, rfl, rfl⟩, hw⟩
  · refine both2 X Y I pn pc pm px neg n k ex more zN zD (fun U E => EncIs pn pc pm px U E) ?_ (fun wx p q cap cap' hT cN cD => ?_) (fun wx p' q' c1 c2 hT _ _ => ?_)
    · intro U E U' E' h h'
      exact h.one h'
    · refine (zencode_any pn pc pm px wx m0).mono ?_
      rintro r w' ⟨d, err, rfl, h, hw⟩
      exact ⟨d, err, rfl, h, hw⟩
    · refine (encode_any pn pc pm px wx m0 m1).mono ?_
      rintro r w' ⟨d, err, rfl, h, hw⟩
      exact ⟨d, err, rfl, h, hw⟩
  · refine both3 X Y I pn pc pm px neg n k ex more zN zD (fun V => V = Ie.cls X) ?_ (fun wx p q cap cap' hT cN cD => ?_) (fun wx p' q' c1 c2 hT _ _ => ?_)
    · rintro V V' rfl rfl
      exact rfl
    · refine (zclass_any X wx x0 x1).mono ?_
      rintro r w' ⟨rfl, hw⟩
      exact ⟨_, rfl, rfl, hw⟩
    · refine (class_any X wx x0 x1).mono ?_
      rintro r w' ⟨rfl, hw⟩
      exact ⟨_, rfl, rfl, bel_eq hw⟩
  · refine both4 X Y I pn pc pm px neg n k ex more zN zD (fun U => U = Ie.ng X) ?_ (fun wx p q cap cap' hT cN cD => ?_) (fun wx p' q' c1 c2 hT _ _ => ?_)
    · rintro U U' rfl rfl
      exact rfl
    · refine (zneg_any X wx x0 x1).mono ?_
      rintro r w' ⟨rfl, hw⟩
      exact ⟨_, rfl, rfl, bel_eq hw⟩
    · refine (neg_any X wx x0 x1).mono ?_
      rintro r w' ⟨rfl, hw⟩
      exact ⟨_, rfl, rfl, bel_eq hw⟩
  · refine both5 X Y I pn pc pm px neg n k ex more zN zD (fun U => U = X % 9223372036854775808) ?_ (fun wx p q cap cap' hT cN cD => ?_) (fun wx p' q' c1 c2 hT _ _ => ?_)
    · rintro U U' rfl rfl
      exact rfl
    · refine (zabs_any X wx x0 x1).mono ?_
      rintro r w' ⟨rfl, hw⟩
      exact ⟨_, rfl, rfl, bel_eq hw⟩
    · refine (abs_any X wx x0 x1).mono ?_
      rintro r w' ⟨rfl, hw⟩
      exact ⟨_, rfl, rfl, bel_eq hw⟩
  · refine both6 X Y I pn pc pm px neg n k ex more zN zD (fun V B => V = Ie.cmv X Y ∧ B = (Ie.okd X && Ie.okd Y)) ?_ (fun wx p q cap cap' hT cN cD => ?_) (fun wx p' q' c1 c2 hT _ _ => ?_)
    · rintro V B V' B' ⟨rfl, rfl⟩ ⟨rfl, rfl⟩
      exact ⟨rfl, rfl⟩
    · refine (zcompare_any X Y wx x0 x1 y0 y1).mono ?_
      rintro r w' ⟨rfl, hw⟩
      exact ⟨_, _, rfl, ⟨rfl, rfl⟩, bel_eq hw⟩
    · refine (compare_any X Y wx x0 x1 y0 y1).mono ?_
      rintro r w' ⟨rfl, hw⟩
      exact ⟨_, _, rfl, ⟨rfl, rfl⟩, bel_eq hw⟩
  · refine both7 X Y I pn pc pm px neg n k ex more zN zD (fun V => V = Ie.cm (Ie.plc X) (Ie.plc Y)) ?_ (fun wx p q cap cap' hT cN cD => ?_) (fun wx p' q' c1 c2 hT _ _ => ?_)
    · rintro V V' rfl rfl
      exact rfl
    · refine (ztotal_any X Y wx x0 x1 y0 y1).mono ?_
      rintro r w' ⟨rfl, hw⟩
      exact ⟨_, rfl, rfl, bel_eq hw⟩
    · refine (total_any X Y wx x0 x1 y0 y1).mono ?_
      rintro r w' ⟨rfl, hw⟩
      exact ⟨_, rfl, rfl, bel_eq hw⟩
  · refine both8 X Y I pn pc pm px neg n k ex more zN zD (fun V B => V = Ie.rkv X ∧ B = Ie.okd X) ?_ (fun wx p q cap cap' hT cN cD => ?_) (fun wx p' q' c1 c2 hT _ _ => ?_)
    · rintro V B V' B' ⟨rfl, rfl⟩ ⟨rfl, rfl⟩
      exact ⟨rfl, rfl⟩
    · refine (zrankk_any X wx x0 x1).mono ?_
      rintro r w' ⟨rfl, hw⟩
      exact ⟨_, _, rfl, ⟨rfl, rfl⟩, bel_eq hw⟩
    · refine (rank_any X wx x0 x1).mono ?_
      rintro r w' ⟨rfl, hw⟩
      exact ⟨_, _, rfl, ⟨rfl, rfl⟩, bel_eq hw⟩
  · by_cases hi : -9218868437227405312 ≤ I ∧ I ≤ 9218868437227405312
    · refine both9 X Y I pn pc pm px neg n k ex more zN zD (fun U B => U = Ie.atr I ∧ B = true) ?_ (fun wx p q cap cap' hT cN cD => ?_) (fun wx p' q' c1 c2 hT _ _ => ?_)
      · rintro U B U' B' ⟨rfl, rfl⟩ ⟨rfl, rfl⟩
        exact ⟨rfl, rfl⟩
      · refine (zatrank_in I wx hi.1 hi.2).mono ?_
        rintro r w' ⟨rfl, hw⟩
        exact ⟨_, _, rfl, ⟨rfl, rfl⟩, bel_eq hw⟩
      · refine (atRank_in I wx hi.1 hi.2).mono ?_
        rintro r w' ⟨rfl, hw⟩
        exact ⟨_, _, rfl, ⟨rfl, rfl⟩, bel_eq hw⟩
    · refine both9 X Y I pn pc pm px neg n k ex more zN zD (fun U B => U = 0 ∧ B = false) ?_ (fun wx p q cap cap' hT cN cD => ?_) (fun wx p' q' c1 c2 hT _ _ => ?_)
      · rintro U B U' B' ⟨rfl, rfl⟩ ⟨rfl, rfl⟩
        exact ⟨rfl, rfl⟩
      · refine (zatrank_out I wx (by omega)).mono ?_
        rintro r w' ⟨rfl, hw⟩
        exact ⟨_, _, rfl, ⟨rfl, rfl⟩, bel_eq hw⟩
      · refine (atRank_out I wx i0 i1 (by omega)).mono ?_
        rintro r w' ⟨rfl, hw⟩
        exact ⟨_, _, rfl, ⟨rfl, rfl⟩, bel_eq hw⟩
  · refine both10 X Y I pn pc pm px neg n k ex more zN zD (fun U => U = Ie.upd X) ?_ (fun wx p q cap cap' hT cN cD => ?_) (fun wx p' q' c1 c2 hT _ _ => ?_)
    · rintro U U' rfl rfl
      exact rfl
    · refine (zup_any X wx x0 x1).mono ?_
      rintro r w' ⟨rfl, hw⟩
      exact ⟨_, rfl, rfl, bel_eq hw⟩
    · refine (up_any X wx x0 x1).mono ?_
      rintro r w' ⟨rfl, hw⟩
      exact ⟨_, rfl, rfl, bel_eq hw⟩
  · refine both11 X Y I pn pc pm px neg n k ex more zN zD (fun U => U = Ie.dnd X) ?_ (fun wx p q cap cap' hT cN cD => ?_) (fun wx p' q' c1 c2 hT _ _ => ?_)
    · rintro U U' rfl rfl
      exact rfl
    · refine (zdown_any X wx x0 x1).mono ?_
      rintro r w' ⟨rfl, hw⟩
      exact ⟨_, rfl, rfl, bel_eq hw⟩
    · refine (down_any X wx x0 x1).mono ?_
      rintro r w' ⟨rfl, hw⟩
      exact ⟨_, rfl, rfl, bel_eq hw⟩
  · refine both12 X Y I pn pc pm px neg n k ex more zN zD (fun B => B = Ie.intg X) ?_ (fun wx p q cap cap' hT cN cD => ?_) (fun wx p' q' c1 c2 hT _ _ => ?_)
    · rintro B B' rfl rfl
      exact rfl
    · refine (zintegral_any X wx x0 x1).mono ?_
      rintro r w' ⟨rfl, hw⟩
      exact ⟨_, rfl, rfl, hw⟩
    · refine (integral_any X wx hT x0 x1).mono ?_
      rintro r w' ⟨rfl, hw⟩
      exact ⟨_, rfl, rfl, hw⟩
  · by_cases hi : 0 ≤ I
    · refine both13 X Y I pn pc pm px neg n k ex more zN zD (fun U => Ie.Rnd I 1 0 false U) (fun U U' h h' => rnd_uniq (by omega) h h') (fun wx p q cap cap' hT cN cD => ?_) (fun wx p' q' c1 c2 hT _ _ => ?_)
      · refine (zfromI_nn I wx hi i1).mono ?_
        rintro r w' ⟨x, rfl, h, hw⟩
        exact ⟨x, rfl, h, hw⟩
      · refine (fromI_nn I wx hT hi i1).mono ?_
        rintro r w' ⟨x, rfl, h, hw⟩
        exact ⟨x, rfl, h, hw⟩
    · refine both13 X Y I pn pc pm px neg n k ex more zN zD (fun U => ∃ x, U = x + 9223372036854775808 ∧ Ie.Rnd (-I) 1 0 false x) ?_ (fun wx p q cap cap' hT cN cD => ?_) (fun wx p' q' c1 c2 hT _ _ => ?_)
      · rintro U U' ⟨x, rfl, h⟩ ⟨x', rfl, h'⟩
        rw [rnd_uniq (by omega) h h']
      · refine (zfromI_ng I wx (by omega) i0).mono ?_
        rintro r w' ⟨x, rfl, h, hw⟩
        exact ⟨_, rfl, ⟨x, rfl, h⟩, hw⟩
      · refine (fromI_ng I wx hT (by omega) i0).mono ?_
        rintro r w' ⟨x, rfl, h, hw⟩
        exact ⟨_, rfl, ⟨x, rfl, h⟩, hw⟩
  · refine both14 X Y I pn pc pm px neg n k ex more zN zD (fun U => Ie.Rnd X 1 0 false U) (fun U U' h h' => rnd_uniq (by omega) h h') (fun wx p q cap cap' hT cN cD => ?_) (fun wx p' q' c1 c2 hT _ _ => ?_)
    · refine (zfromU_any X wx x0 x1).mono ?_
      rintro r w' ⟨x, rfl, h, hw⟩
      exact ⟨x, rfl, h, hw⟩
    · refine (fromU_any X wx hT x0 x1).mono ?_
      rintro r w' ⟨x, rfl, h, hw⟩
      exact ⟨x, rfl, h, hw⟩
  · by_cases hr : X % 9223372036854775808 < 9218868437227405312
    · have Vb := Ie.ewhp_bd (X % 9223372036854775808) (by omega) (by omega)
      refine both15 X Y I pn pc pm px neg n k ex more zN zD (fun V E => ToIntIs (decide (9223372036854775808 ≤ X)) (Ie.whp (X % 9223372036854775808)) V E) ?_ (fun wx p q cap cap' hT cN cD => ?_) (fun wx p' q' c1 c2 hT _ _ => ?_)
      · intro V E V' E' h h'
        unfold ToIntIs at h h'
        rcases h with ⟨a, b, c⟩ | ⟨a, b, c⟩ <;> rcases h' with ⟨a', b', c'⟩ | ⟨a', b', c'⟩
        · exact ⟨by rw [b, b'], by rw [c, c']⟩
        · omega
        · omega
        · exact ⟨by rw [b, b'], by rw [c, c']⟩
      · refine (ztoInt_fin X wx x0 x1 hr _ rfl _ rfl Vb.1 Vb.2).mono ?_
        rintro r w' ⟨j, f, rfl, h, hw⟩
        exact ⟨j, f, rfl, h, hw⟩
      · refine (toInt_fin X wx x0 x1 hr _ rfl _ rfl Vb.1 Vb.2).mono ?_
        rintro r w' ⟨j, f, rfl, h, hw⟩
        exact ⟨j, f, rfl, h, hw⟩
    · refine both15 X Y I pn pc pm px neg n k ex more zN zD (fun V E => V = 0 ∧ E = 5) ?_ (fun wx p q cap cap' hT cN cD => ?_) (fun wx p' q' c1 c2 hT _ _ => ?_)
      · rintro V E V' E' ⟨rfl, rfl⟩ ⟨rfl, rfl⟩
        exact ⟨rfl, rfl⟩
      · refine (ztoInt_inf X wx x0 x1 (by omega)).mono ?_
        rintro r w' ⟨rfl, hw⟩
        exact ⟨_, _, rfl, ⟨rfl, rfl⟩, bel_eq hw⟩
      · refine (toInt_inf X wx x0 x1 (by omega)).mono ?_
        rintro r w' ⟨rfl, hw⟩
        exact ⟨_, _, rfl, ⟨rfl, rfl⟩, bel_eq hw⟩
  · by_cases hr : X % 9223372036854775808 < 9218868437227405312
    · have Vb := Ie.ewhp_bd (X % 9223372036854775808) (by omega) (by omega)
      refine both16 X Y I pn pc pm px neg n k ex more zN zD (fun B E v => B = decide (9223372036854775808 ≤ X) ∧ E = 0 ∧ v = Ie.whp (X % 9223372036854775808)) ?_ (fun wx p q cap cap' hT cN cD => ?_) (fun wx hT => ?_) ?_
      · rintro B E v B' E' v' ⟨rfl, rfl, rfl⟩ ⟨rfl, rfl, rfl⟩
        exact ⟨rfl, rfl, rfl⟩
      · refine (zwhole_fin X wx x0 x1 hr).mono ?_
        rintro r w' ⟨pl, os, rfl, A, hw⟩
        exact ⟨_, _, _, pl, os, rfl, ⟨rfl, rfl, rfl⟩, A, hw⟩
      · refine (whole_fin X wx x0 x1 hr).mono ?_
        rintro r w' ⟨pl, os, rfl, A, hw⟩
        exact ⟨_, _, _, pl, os, rfl, ⟨rfl, rfl, rfl⟩, A, hw⟩
      · rintro B E v ⟨_, _, rfl⟩
        exact Vb.2
    · refine both16 X Y I pn pc pm px neg n k ex more zN zD (fun B E v => B = false ∧ E = 5 ∧ v = 0) ?_ (fun wx p q cap cap' hT cN cD => ?_) (fun wx hT => ?_) ?_
      · rintro B E v B' E' v' ⟨rfl, rfl, rfl⟩ ⟨rfl, rfl, rfl⟩
        exact ⟨rfl, rfl, rfl⟩
      · refine (zwhole_inf X wx x0 x1 (by omega)).mono ?_
        rintro r w' ⟨rfl, hw⟩
        exact ⟨_, _, _, none, [], rfl, ⟨rfl, rfl, rfl⟩, ans_none _ _ _ (fun a h => by cases h), bel_eq hw⟩
      · refine (whole_inf X wx x0 x1 (by omega)).mono ?_
        rintro r w' ⟨rfl, hw⟩
        exact ⟨_, _, _, none, [], rfl, ⟨rfl, rfl, rfl⟩, ans_none _ _ _ (fun a h => by cases h), bel_eq hw⟩
      · rintro B E v ⟨_, _, rfl⟩
        exact Nm.pw_pos 4096
  · by_cases tz : Nm.tsize zN ≤ 4096
    · refine both17 X Y I pn pc pm px neg n k ex more zN zD (fun U E => ∃ x, U = Ie.sg neg x ∧ E = 0 ∧ Ie.Rnd (Nm.val zN) 1 ex more x) ?_ (fun wx p q cap cap' hT cN cD => ?_) (fun wx p' q' c1 c2 hT bN bD => ?_)
      · rintro U E U' E' ⟨x, rfl, rfl, h⟩ ⟨x', rfl, rfl, h'⟩
        rw [rnd_uniq (by omega) h h']
        exact ⟨rfl, rfl⟩
      · refine (zround_any neg p n cap zN wx cN tz _ ex more rfl).mono ?_
        rintro r w' ⟨x, rfl, h, hw⟩
        exact ⟨_, _, rfl, ⟨x, rfl, rfl, h⟩, bel_eq hw⟩
      · refine (round_any neg p' n c1 zN wx bN hT tz _ ex more rfl).mono ?_
        rintro r w' ⟨x, rfl, h, hw⟩
        exact ⟨_, _, rfl, ⟨x, rfl, rfl, h⟩, hw⟩
    · refine both17 X Y I pn pc pm px neg n k ex more zN zD (fun U E => U = 0 ∧ E = 2) ?_ (fun wx p q cap cap' hT cN cD => ?_) (fun wx p' q' c1 c2 hT bN bD => ?_)
      · rintro U E U' E' ⟨rfl, rfl⟩ ⟨rfl, rfl⟩
        exact ⟨rfl, rfl⟩
      · refine (zround_big neg p n cap zN wx cN (by omega) ex more).mono ?_
        rintro r w' ⟨rfl, hw⟩
        exact ⟨_, _, rfl, ⟨rfl, rfl⟩, bel_eq hw⟩
      · refine (round_big neg p' n c1 zN wx bN (by omega) ex more).mono ?_
        rintro r w' ⟨rfl, hw⟩
        exact ⟨_, _, rfl, ⟨rfl, rfl⟩, bel_eq hw⟩
  · by_cases tz : 4096 < Nm.tsize zN ∨ 4096 < Nm.tsize zD
    · refine both18 X Y I pn pc pm px neg n k ex more zN zD (fun U E => U = 0 ∧ E = 2) ?_ (fun wx p q cap cap' hT cN cD => ?_) (fun wx p' q' c1 c2 hT bN bD => ?_)
      · rintro U E U' E' ⟨rfl, rfl⟩ ⟨rfl, rfl⟩
        exact ⟨rfl, rfl⟩
      · refine (zratio_big neg p q n cap k cap' zN zD wx cN cD tz ex).mono ?_
        rintro r w' ⟨rfl, hw⟩
        exact ⟨_, _, rfl, ⟨rfl, rfl⟩, bel_eq hw⟩
      · refine (roundRatio_big neg p' q' n c1 k c2 zN zD wx bN bD tz ex).mono ?_
        rintro r w' ⟨rfl, hw⟩
        exact ⟨_, _, rfl, ⟨rfl, rfl⟩, bel_eq hw⟩
    · have v0 := (Nm.val_bd zD lD).1
      by_cases hz : Nm.val zD = 0
      · refine both18 X Y I pn pc pm px neg n k ex more zN zD (fun U E => U = 0 ∧ E = 4) ?_ (fun wx p q cap cap' hT cN cD => ?_) (fun wx p' q' c1 c2 hT bN bD => ?_)
        · rintro U E U' E' ⟨rfl, rfl⟩ ⟨rfl, rfl⟩
          exact ⟨rfl, rfl⟩
        · refine (zratio_zero neg p q n cap k cap' zN zD wx cN cD (by omega) hz ex).mono ?_
          rintro r w' ⟨rfl, hw⟩
          exact ⟨_, _, rfl, ⟨rfl, rfl⟩, bel_eq hw⟩
        · refine (roundRatio_zero neg p' q' n c1 k c2 zN zD wx bN bD (by omega) hz ex).mono ?_
          rintro r w' ⟨rfl, hw⟩
          exact ⟨_, _, rfl, ⟨rfl, rfl⟩, bel_eq hw⟩
      · refine both18 X Y I pn pc pm px neg n k ex more zN zD (fun U E => ∃ x, U = Ie.sg neg x ∧ E = 0 ∧ Ie.Rnd (Nm.val zN) (Nm.val zD) ex false x) ?_ (fun wx p q cap cap' hT cN cD => ?_) (fun wx p' q' c1 c2 hT bN bD => ?_)
        · rintro U E U' E' ⟨x, rfl, rfl, h⟩ ⟨x', rfl, rfl, h'⟩
          rw [rnd_uniq (by omega) h h']
          exact ⟨rfl, rfl⟩
        · refine (zratio_all neg p q n cap k cap' zN zD wx cN cD (by omega) (by omega) _ _ ex rfl rfl (by omega)).mono ?_
          rintro r w' ⟨x, rfl, h, hw⟩
          exact ⟨_, _, rfl, ⟨x, rfl, rfl, h⟩, hw⟩
        · refine (roundRatio_all neg p' q' n c1 k c2 zN zD wx bN bD hT (by omega) (by omega) _ _ ex rfl rfl (by omega)).mono ?_
          rintro r w' ⟨x, rfl, h, hw⟩
          exact ⟨_, _, rfl, ⟨x, rfl, rfl, h⟩, hw⟩
end Go.Proofs.YtggiioipppbedaaGreatDoor

namespace Go.Proofs.YtggiioipppbedaaGreatDoor
open Go.RowKit Go.Deep Go.ChangeShapes Go.WideShapes Go.ChangeAt

/-- A list of limbs that was read, wherever it stands. -/
theorem open_list {H : Type} {enc : TypeId × Value → H} {W : World} {fuel : Nat} {c : Value} {y : DataW H × List MemPlace} (hf : DataW.trod enc Tryz.prog W 0 (fun _ => true) true fuel 28 [c] = some y)
    (hsz : ∀ n ∈ y.1.weights Tryz.prog 28, n ≤ reachBytes) : ∃ p n cap zs, c = .slice p n cap ∧ Arg W p n cap zs ∧ cap ≤ 17592186043904 := by
  rcases open_ints Tryz.underlying28 Tryz.underlying25 (by kernel_rfl) hf with ⟨hcs, _⟩ | ⟨x, l, cp, zs, hcs, _, hl, hm, hz, hx, hcell, hwz⟩
  · simp only [List.cons.injEq, and_true] at hcs
    exact ⟨none, 0, 0, [], hcs, ⟨rfl, Nat.le_refl _, by omega, Lies.nil _ _, Nm.Limbs.nil⟩, by omega⟩
  · simp only [List.cons.injEq, and_true] at hcs
    have hz' : zs.length = cp := by simpa using hz
    have hr := hsz (((lits (H := H) .u64 (zs.take l)).length + (lits (H := H) .u64 (zs.drop l)).length) * Tryz.prog.bytesOf 25) (by rw [hx]; simp [DataW.weights, Tryz.underlying28])
    rw [show Tryz.prog.bytesOf 25 = 8 by kernel_rfl] at hr
    simp only [lits, List.length_map, List.length_take, List.length_drop, reachBytes] at hr
    have hb : cp ≤ 17592186043904 := by omega
    exact ⟨some x, l, cp, _, hcs, arg_open hl hz' hb hcell hwz, hb⟩

theorem all_mem {H : Type} {P : Program} {e : TypeId} : ∀ {l : List (DataW H)} {d : DataW H}, d ∈ l → ∀ n ∈ d.weights P e, n ∈ DataW.weightsAll P e l
  | [], _, h, _, _ => by simp at h
  | x :: r, d, h, n, hn => by
    simp only [DataW.weightsAll, List.mem_append]
    rcases List.mem_cons.1 h with rfl | h
    · exact .inl hn
    · exact .inr (all_mem h n hn)

/-- What can be told of each place can be told of a list. -/
theorem list_of_each {α : Type} {Q : Nat → α → Prop} : ∀ n, (∀ i, i < n → ∃ x, Q i x) → ∃ l : List α, l.length = n ∧ ∀ i x, l[i]? = some x → Q i x
  | 0, _ => ⟨[], rfl, by simp⟩
  | n + 1, h => by
    obtain ⟨l, h1, h2⟩ := list_of_each n (fun i hi => h i (by omega))
    obtain ⟨x, hx⟩ := h n (by omega)
    refine ⟨l ++ [x], by simp [h1], fun i y hy => ?_⟩
    by_cases hi : i < l.length
    · rw [List.getElem?_append_left hi] at hy
      exact h2 i y hy
    · have hlt := (List.getElem?_eq_some_iff.1 hy).1
      simp only [List.length_append, List.length_cons, List.length_nil] at hlt
      obtain rfl : i = n := by omega
      rw [List.getElem?_append_right (by omega), h1, Nat.sub_self] at hy
      simp at hy
      subst hy
      exact hx
end Go.Proofs.YtggiioipppbedaaGreatDoor

namespace Go.Proofs.YtggiioipppbedaaGreatDoor
open Go.RowKit Go.Deep Go.ChangeShapes Go.WideShapes Go.ChangeAt

/-- A call that was read. -/
structure E4 where
  K : Int
  X : Int
  Y : Int
  I : Int
  pn : Bool
  pc : Int
  pm : Int
  px : Int
  neg : Bool
  p1 : Option Addr
  n1 : Nat
  c1 : Nat
  z1 : List Int
  p2 : Option Addr
  n2 : Nat
  c2 : Nat
  z2 : List Int
  ex : Int
  more : Bool

/-- Its cells stand there. -/
def E4.Cells (w : World) (b o : Nat) (it : E4) : Prop :=
  w.cell? ⟨b, o, none⟩ = some (.int .i64 it.K) ∧ w.cell? ⟨b, o + 1, none⟩ = some (.int .u64 it.X) ∧ w.cell? ⟨b, o + 2, none⟩ = some (.int .u64 it.Y) ∧ w.cell? ⟨b, o + 3, none⟩ = some (.int .i64 it.I) ∧ w.cell? ⟨b, o + 4, none⟩ = some (.bool it.pn) ∧ w.cell? ⟨b, o + 5, none⟩ = some (.int .i64 it.pc) ∧ w.cell? ⟨b, o + 6, none⟩ = some (.int .u64 it.pm) ∧ w.cell? ⟨b, o + 7, none⟩ = some (.int .i64 it.px) ∧ w.cell? ⟨b, o + 8, none⟩ = some (.bool it.neg) ∧ w.cell? ⟨b, o + 9, none⟩ = some (.slice it.p1 it.n1 it.c1) ∧ w.cell? ⟨b, o + 10, none⟩ = some (.slice it.p2 it.n2 it.c2) ∧ w.cell? ⟨b, o + 11, none⟩ = some (.int .i64 it.ex) ∧ w.cell? ⟨b, o + 12, none⟩ = some (.bool it.more)

def E4.Bd (w : World) (it : E4) : Prop := (0 ≤ it.X ∧ it.X < 18446744073709551616) ∧ (0 ≤ it.Y ∧ it.Y < 18446744073709551616) ∧ (-9223372036854775808 ≤ it.I ∧ it.I ≤ 9223372036854775807) ∧ (0 ≤ it.pm ∧ it.pm < 18446744073709551616) ∧ Arg w it.p1 it.n1 it.c1 it.z1 ∧ Arg w it.p2 it.n2 it.c2 it.z2 ∧ it.c1 ≤ 17592186043904 ∧ it.c2 ≤ 17592186043904

def E4.Holds (w : World) (a : Option Addr) (its : List E4) : Prop := its = [] ∨ ∃ b off, a = some ⟨b, off, none⟩ ∧ ∀ i it, its[i]? = some it → E4.Cells w b (off + i * 13) it

theorem list13o {α : Type} {l : List α} (h : l.length = 13) : ∃ a0 a1 a2 a3 a4 a5 a6 a7 a8 a9 a10 a11 a12, l = [a0, a1, a2, a3, a4, a5, a6, a7, a8, a9, a10, a11, a12] := by
  match l, h with
  | [a0, a1, a2, a3, a4, a5, a6, a7, a8, a9, a10, a11, a12], _ => exact ⟨a0, a1, a2, a3, a4, a5, a6, a7, a8, a9, a10, a11, a12, rfl⟩
theorem list10o {α : Type} {l : List α} (h : l.length = 10) : ∃ a0 a1 a2 a3 a4 a5 a6 a7 a8 a9, l = [a0, a1, a2, a3, a4, a5, a6, a7, a8, a9] := by
  match l, h with
  | [a0, a1, a2, a3, a4, a5, a6, a7, a8, a9], _ => exact ⟨a0, a1, a2, a3, a4, a5, a6, a7, a8, a9, rfl⟩
theorem list4o {α : Type} {l : List α} (h : l.length = 4) : ∃ a0 a1 a2 a3, l = [a0, a1, a2, a3] := by
  match l, h with
  | [a0, a1, a2, a3], _ => exact ⟨a0, a1, a2, a3, rfl⟩

theorem open_op4 {H : Type} {enc : TypeId × Value → H} {W : World} {fuel : Nat} {a0 a1 a2 a3 a4 a5 a6 a7 a8 a9 a10 a11 a12 : Value} {y : DataW H × List MemPlace} (hf : DataW.trod enc Tryz.prog W 0 (fun _ => true) true fuel 30 [a0, a1, a2, a3, a4, a5, a6, a7, a8, a9, a10, a11, a12] = some y)
    (hsz : ∀ n ∈ y.1.weights Tryz.prog 30, n ≤ reachBytes) : ∃ it : E4, a0 = .int .i64 it.K ∧ a1 = .int .u64 it.X ∧ a2 = .int .u64 it.Y ∧ a3 = .int .i64 it.I ∧ a4 = .bool it.pn ∧ a5 = .int .i64 it.pc ∧ a6 = .int .u64 it.pm ∧ a7 = .int .i64 it.px ∧ a8 = .bool it.neg ∧ a9 = .slice it.p1 it.n1 it.c1 ∧ a10 = .slice it.p2 it.n2 it.c2 ∧ a11 = .int .i64 it.ex ∧ a12 = .bool it.more ∧ it.Bd W := by
  obtain ⟨xs, n, _, hx, _, hlen, hfs⟩ := DataW.trod_struct Tryz.underlying30 hf
  obtain ⟨y0, y1, y2, y3, y4, y5, y6, y7, y8, y9, rfl⟩ := list10o hlen
  have ci : Tryz.prog.cellsOf 3 = 1 := by kernel_rfl
  have cl : Tryz.prog.cellsOf 2 = 1 := by kernel_rfl
  have cu : Tryz.prog.cellsOf 25 = 1 := by kernel_rfl
  have cb : Tryz.prog.cellsOf 4 = 1 := by kernel_rfl
  have cs : Tryz.prog.cellsOf 28 = 1 := by kernel_rfl
  have cp : Tryz.prog.cellsOf 27 = 4 := by kernel_rfl
  have f0 : DataW.trod enc Tryz.prog W 0 (fun _ => true) true n 3 [a0] = some y0 := by simpa [ci, cl, cu, cb, cs, cp] using hfs 0 _ rfl
  have f1 : DataW.trod enc Tryz.prog W 0 (fun _ => true) true n 25 [a1] = some y1 := by simpa [ci, cl, cu, cb, cs, cp] using hfs 1 _ rfl
  have f2 : DataW.trod enc Tryz.prog W 0 (fun _ => true) true n 25 [a2] = some y2 := by simpa [ci, cl, cu, cb, cs, cp] using hfs 2 _ rfl
  have f3 : DataW.trod enc Tryz.prog W 0 (fun _ => true) true n 2 [a3] = some y3 := by simpa [ci, cl, cu, cb, cs, cp] using hfs 3 _ rfl
  have f4 : DataW.trod enc Tryz.prog W 0 (fun _ => true) true n 27 [a4, a5, a6, a7] = some y4 := by simpa [ci, cl, cu, cb, cs, cp] using hfs 4 _ rfl
  have f5 : DataW.trod enc Tryz.prog W 0 (fun _ => true) true n 4 [a8] = some y5 := by simpa [ci, cl, cu, cb, cs, cp] using hfs 5 _ rfl
  have f6 : DataW.trod enc Tryz.prog W 0 (fun _ => true) true n 28 [a9] = some y6 := by simpa [ci, cl, cu, cb, cs, cp] using hfs 6 _ rfl
  have f7 : DataW.trod enc Tryz.prog W 0 (fun _ => true) true n 28 [a10] = some y7 := by simpa [ci, cl, cu, cb, cs, cp] using hfs 7 _ rfl
  have f8 : DataW.trod enc Tryz.prog W 0 (fun _ => true) true n 3 [a11] = some y8 := by simpa [ci, cl, cu, cb, cs, cp] using hfs 8 _ rfl
  have f9 : DataW.trod enc Tryz.prog W 0 (fun _ => true) true n 4 [a12] = some y9 := by simpa [ci, cl, cu, cb, cs, cp] using hfs 9 _ rfl
  have hd : y.1 = .agg [y0.1, y1.1, y2.1, y3.1, y4.1, y5.1, y6.1, y7.1, y8.1, y9.1] := by rw [hx]; rfl
  have hw : ∀ (j : Nat) (t : TypeId) (e : DataW H), [3, 25, 25, 2, 27, 4, 28, 28, 3, 4][j]? = some t → [y0.1, y1.1, y2.1, y3.1, y4.1, y5.1, y6.1, y7.1, y8.1, y9.1][j]? = some e → ∀ n ∈ e.weights Tryz.prog t, n ≤ reachBytes := by
    intro j t e ht he n hn
    refine hsz n ?_
    rw [hd]
    simp only [DataW.weights, Tryz.underlying30]
    exact DataW.weights_mem_each ht he n hn
  obtain ⟨K, e0, _, w0⟩ := DataW.trod_int Tryz.underlying3 f0
  obtain ⟨X, e1, _, w1⟩ := DataW.trod_int Tryz.underlying25 f1
  obtain ⟨Y, e2, _, w2⟩ := DataW.trod_int Tryz.underlying25 f2
  obtain ⟨I, e3, _, w3⟩ := DataW.trod_int Tryz.underlying2 f3
  obtain ⟨ng, e5, _⟩ := DataW.trod_bool Tryz.underlying4 f5
  obtain ⟨p1, n1, c1, z1, q9, A1, k1⟩ := open_list f6 (hw 6 _ _ rfl rfl)
  obtain ⟨p2, n2, c2, z2, q10, A2, k2⟩ := open_list f7 (hw 7 _ _ rfl rfl)
  obtain ⟨ex, e8, _, w8⟩ := DataW.trod_int Tryz.underlying3 f8
  obtain ⟨mo, e9, _⟩ := DataW.trod_bool Tryz.underlying4 f9
  obtain ⟨xs2, n2', _, hx2, _, hlen2, hfs2⟩ := DataW.trod_struct Tryz.underlying27 f4
  obtain ⟨s0, s1, s2, s3, rfl⟩ := list4o hlen2
  have g0 : DataW.trod enc Tryz.prog W 0 (fun _ => true) true n2' 4 [a4] = some s0 := by simpa [ci, cl, cu, cb, cs, cp] using hfs2 0 _ rfl
  have g1 : DataW.trod enc Tryz.prog W 0 (fun _ => true) true n2' 3 [a5] = some s1 := by simpa [ci, cl, cu, cb, cs, cp] using hfs2 1 _ rfl
  have g2 : DataW.trod enc Tryz.prog W 0 (fun _ => true) true n2' 25 [a6] = some s2 := by simpa [ci, cl, cu, cb, cs, cp] using hfs2 2 _ rfl
  have g3 : DataW.trod enc Tryz.prog W 0 (fun _ => true) true n2' 3 [a7] = some s3 := by simpa [ci, cl, cu, cb, cs, cp] using hfs2 3 _ rfl
  obtain ⟨pn, d0, _⟩ := DataW.trod_bool Tryz.underlying4 g0
  obtain ⟨pc, d1, _, v1⟩ := DataW.trod_int Tryz.underlying3 g1
  obtain ⟨pm, d2, _, v2⟩ := DataW.trod_int Tryz.underlying25 g2
  obtain ⟨px, d3, _, v3⟩ := DataW.trod_int Tryz.underlying3 g3
  have b1 := bounds_u64 w1
  have b2 := bounds_u64 w2
  have b3 := bounds_i64 w3
  have b4 := bounds_u64 v2
  have bX : 0 ≤ X ∧ X < 18446744073709551616 := by omega
  have bY : 0 ≤ Y ∧ Y < 18446744073709551616 := by omega
  have bI : -9223372036854775808 ≤ I ∧ I ≤ 9223372036854775807 := by omega
  have bm : 0 ≤ pm ∧ pm < 18446744073709551616 := by omega
  exact ⟨⟨K, X, Y, I, pn, pc, pm, px, ng, p1, n1, c1, z1, p2, n2, c2, z2, ex, mo⟩, (List.cons.inj e0).1, (List.cons.inj e1).1, (List.cons.inj e2).1, (List.cons.inj e3).1, (List.cons.inj d0).1, (List.cons.inj d1).1, (List.cons.inj d2).1, (List.cons.inj d3).1, (List.cons.inj e5).1, q9, q10, (List.cons.inj e8).1, (List.cons.inj e9).1, bX, bY, bI, bm, A1, A2, k1, k2⟩

theorem open_ops4 {H : Type} {enc : TypeId × Value → H} {W : World} {a : Option Addr} {len cap : Nat} {d : DataW H} {p : List MemPlace} (h : DataW.Trod enc Tryz.prog W 0 (fun _ => true) true 22 (.slice a len cap) d p)
    (hsz : ∀ n ∈ d.weights Tryz.prog 22, n ≤ reachBytes) : ∃ its : List E4, its.length = len ∧ len ≤ cap ∧ cap ≤ 1100000000000 ∧ E4.Holds W a its ∧ ∀ it ∈ its, E4.Bd W it := by
  obtain ⟨fuel, hf⟩ := h
  rcases DataW.trod_slice Tryz.underlying22 hf with ⟨hcs, _⟩ | ⟨x, l, c, elems, rest, n, _, hcs, hx, _, hl, hm, he, hel, hsp, _⟩
  · simp [Value.cells] at hcs
    obtain ⟨rfl, rfl, rfl⟩ := hcs
    exact ⟨[], rfl, Nat.le_refl _, by omega, .inl rfl, by intro it h; simp at h⟩
  · simp [Value.cells] at hcs
    obtain ⟨rfl, rfl, rfl⟩ := hcs
    have hd : d = .slice (elems.map (·.1)) (rest.map (·.1)) := (Prod.mk.inj hx).1
    have hw : ∀ n ∈ (DataW.slice (elems.map (·.1)) (rest.map (·.1)) : DataW H).weights Tryz.prog 22, n ≤ reachBytes := by rw [← hd]; exact hsz
    simp only [DataW.weights, Tryz.underlying22] at hw
    have hr := hw _ List.mem_cons_self
    rw [show Tryz.prog.bytesOf 30 = 136 by kernel_rfl] at hr
    have hrl := (hsp rfl).1
    simp only [List.length_map, reachBytes] at hr
    have hcap : cap ≤ 1100000000000 := by omega
    rw [show Tryz.prog.cellsOf 30 = 13 by kernel_rfl] at hel
    obtain ⟨its, i1, i2⟩ := list_of_each (Q := fun i (it : E4) => (W.cell? (x.add (i * 13)) = some (.int .i64 it.K) ∧ W.cell? ((x.add (i * 13)).add 1) = some (.int .u64 it.X) ∧ W.cell? ((x.add (i * 13)).add 2) = some (.int .u64 it.Y) ∧ W.cell? ((x.add (i * 13)).add 3) = some (.int .i64 it.I) ∧ W.cell? ((x.add (i * 13)).add 4) = some (.bool it.pn) ∧ W.cell? ((x.add (i * 13)).add 5) = some (.int .i64 it.pc) ∧ W.cell? ((x.add (i * 13)).add 6) = some (.int .u64 it.pm) ∧ W.cell? ((x.add (i * 13)).add 7) = some (.int .i64 it.px) ∧ W.cell? ((x.add (i * 13)).add 8) = some (.bool it.neg) ∧ W.cell? ((x.add (i * 13)).add 9) = some (.slice it.p1 it.n1 it.c1) ∧ W.cell? ((x.add (i * 13)).add 10) = some (.slice it.p2 it.n2 it.c2) ∧ W.cell? ((x.add (i * 13)).add 11) = some (.int .i64 it.ex) ∧ W.cell? ((x.add (i * 13)).add 12) = some (.bool it.more)) ∧ it.Bd W) len (fun i hi => by
      have h1 := hel i hi
      have h2 : elems[i]? = some elems[i] := List.getElem?_eq_getElem (by omega)
      rw [h2] at h1
      obtain ⟨cs, h3, h4⟩ := Option.bind_eq_some_iff.1 h1
      obtain ⟨_, h5, h6⟩ := World.cells?_some h3
      obtain ⟨v0, v1, v2, v3, v4, v5, v6, v7, v8, v9, v10, v11, v12, rfl⟩ := list13o h5
      have e0 := h6 0 (by omega)
      have e1 := h6 1 (by omega)
      have e2 := h6 2 (by omega)
      have e3 := h6 3 (by omega)
      have e4 := h6 4 (by omega)
      have e5 := h6 5 (by omega)
      have e6 := h6 6 (by omega)
      have e7 := h6 7 (by omega)
      have e8 := h6 8 (by omega)
      have e9 := h6 9 (by omega)
      have e10 := h6 10 (by omega)
      have e11 := h6 11 (by omega)
      have e12 := h6 12 (by omega)
      have h8 : (x.add (i * 13)).add 0 = x.add (i * 13) := by simp [Addr.add]
      rw [h8] at e0
      obtain ⟨it, q0, q1, q2, q3, q4, q5, q6, q7, q8, q9, q10, q11, q12, hA⟩ := open_op4 h4 (fun n hn => hw n (List.mem_cons_of_mem _ (List.mem_append_left _ (all_mem (List.mem_map.2 ⟨_, List.getElem_mem (by omega), rfl⟩) n hn))))
      subst q0
      subst q1
      subst q2
      subst q3
      subst q4
      subst q5
      subst q6
      subst q7
      subst q8
      subst q9
      subst q10
      subst q11
      subst q12
      exact ⟨it, ⟨e0, e1, e2, e3, e4, e5, e6, e7, e8, e9, e10, e11, e12⟩, hA⟩)
    refine ⟨its, i1, hl, hcap, ?_, ?_⟩
    · rcases Nat.eq_zero_or_pos its.length with h0 | h0
      · exact .inl (List.eq_nil_of_length_eq_zero h0)
      · obtain ⟨b, off, spot⟩ := x
        have hspot : spot = none := by simpa [Addr.add] using World.cell?_spot (i2 0 _ (List.getElem?_eq_getElem h0)).1.1
        subst hspot
        refine .inr ⟨b, off, rfl, fun i it hi => ?_⟩
        obtain ⟨⟨q0, q1, q2, q3, q4, q5, q6, q7, q8, q9, q10, q11, q12⟩, _⟩ := i2 i it hi
        rw [Go.WideShapes.add_plain] at q0 q1 q2 q3 q4 q5 q6 q7 q8 q9 q10 q11 q12
        rw [Go.WideShapes.add_plain] at q1 q2 q3 q4 q5 q6 q7 q8 q9 q10 q11 q12
        exact ⟨q0, q1, q2, q3, q4, q5, q6, q7, q8, q9, q10, q11, q12⟩
    · intro it hit
      obtain ⟨i, hi⟩ := List.getElem?_of_mem hit
      exact (i2 i it hi).2
end Go.Proofs.YtggiioipppbedaaGreatDoor

namespace Go.Proofs.YtggiioipppbedaaGreatDoor
open Go Go.RowKit Go.Deep

/-- The mark of a list. -/
def mk1 (j : Nat) : Int := 7881706626762146792 + (j : Int)
/-- What stands while the lists are grown. -/
structure K3 (B : Nat) (w : World) (mv sv : Value) (L : List Ke) (vs : List Sl) (i : Nat) : Prop where
  row : Re.Ow v1 28 1 B w mv vs
  len : vs.length = L.length
  old : ∀ j e, i ≤ j → L[j]? = some e → vs[j]? = some e.v ∧ Lies w e.p (List.replicate e.n (mk1 j)) ∧ ∀ b, e.blk = some b → mv.ownBlock ≠ some b
  new : ∀ j e, j < i → L[j]? = some e → ∃ g cap, vs[j]? = some ⟨some ⟨g, 0, none⟩, e.n + 20, cap⟩ ∧ Lies w (some ⟨g, 0, none⟩) (List.replicate (e.n + 20) (mk1 j)) ∧ mv.ownBlock ≠ some g
  sz : Re.Ow i1 3 1 B w sv (L.map (fun e => (e.n : Int)))
  ne : ∀ b, sv.ownBlock = some b → mv.ownBlock ≠ some b
theorem K3.on {B : Nat} {w w' : World} {mv sv : Value} {L : List Ke} {vs : List Sl} {i : Nat} (h : K3 B w mv sv L vs i) (hB : Below w.heap.size w w') : K3 B w' mv sv L vs i :=
  ⟨h.row.below hB, h.len, fun j e hj he => by
    obtain ⟨a, b, c⟩ := h.old j e hj he
    exact ⟨a, b.below hB (Nat.le_refl _), c⟩, fun j e hj he => by
    obtain ⟨g, cap, a, b, c⟩ := h.new j e hj he
    exact ⟨g, cap, a, b.below hB (Nat.le_refl _), c⟩, h.sz.below hB, h.ne⟩
theorem K3.put {B : Nat} {w : World} {mv sv : Value} {L : List Ke} {vs : List Sl} {i : Nat} (h : K3 B w mv sv L vs i) {e : Ke} (he : L[i]? = some e) {g cap : Nat} (hl : Lies w (some ⟨g, 0, none⟩) (List.replicate (e.n + 20) (mk1 i))) (hg : mv.ownBlock ≠ some g) :
    ∃ gk ck, mv = .slice (some ⟨gk, 0, none⟩) L.length ck ∧ B ≤ gk ∧ (∃ u, w.cell? ⟨gk, i, none⟩ = some u ∧ u.oneCell' = true) ∧ w.frozen? ⟨gk, i, none⟩ = false ∧ K3 B (w.setCell ⟨gk, i, none⟩ (.slice (some ⟨g, 0, none⟩) (e.n + 20) cap)) mv sv L (vs.set i ⟨some ⟨g, 0, none⟩, e.n + 20, cap⟩) (i + 1) := by
  have il := (List.getElem?_eq_some_iff.1 he).1
  have hlen := h.len
  rcases h.row.shape with ⟨c, rfl, hD⟩ | ⟨gk, ck, hmv, hb, hs, hc, hm⟩
  · rw [hD] at hlen; simp at hlen; omega
  · rw [hlen] at hmv
    have K := Keep.set w gk i (.slice (some ⟨g, 0, none⟩) (e.n + 20) cap)
    have row := h.row
    rw [Re.Ow, hmv, hlen] at row
    have st := (World.ownsRow.stored row i (.slice (some ⟨g, 0, none⟩) (e.n + 20) cap)).1
    have ob : mv.ownBlock = some gk := by rw [hmv]; rfl
    have fs : (Re.fl v1 vs).set i (.slice (some ⟨g, 0, none⟩) (e.n + 20) cap) = Re.fl v1 (vs.set i ⟨some ⟨g, 0, none⟩, e.n + 20, cap⟩) := by
      have : ∀ l : List Sl, Re.fl v1 l = l.map (fun x => Value.slice x.p x.n x.c) := fun l => by
        induction l with
        | nil => rfl
        | cons x l ih => rw [Re.fl, List.flatMap_cons, ← Re.fl, ih]; rfl
      rw [this, this, List.map_set]
    have cl := World.ownsRow.cellAt row i (by omega)
    obtain ⟨x, hx⟩ : ∃ x, vs[i]? = some x := ⟨_, List.getElem?_eq_getElem (by omega)⟩
    have fa := Re.fl_at v1_len hx 0 (by omega)
    rw [Nat.mul_one, Nat.add_zero] at fa
    refine ⟨gk, ck, hmv, hb, ⟨.slice x.p x.n x.c, by rw [cl, fa]; rfl, rfl⟩, World.ownsRow.frozenAt row i, ⟨?_, by rw [List.length_set]; exact hlen, fun j f hj hf => ?_, fun j f hj hf => ?_, h.sz.keep K (fun b hb e => ?_), h.ne⟩⟩
    · rw [Re.Ow, List.length_set, hlen, hmv, ← fs]
      exact st
    · obtain ⟨a, b, c⟩ := h.old j f (by omega) hf
      refine ⟨by rw [List.getElem?_set_ne (by omega)]; exact a, b.keep0 K (fun ad ha h0 q => ?_), c⟩
      rw [List.length_replicate] at h0
      exact c _ (Ke.blk_of ha h0) (by rw [ob, q])
    · by_cases q : j = i
      · subst q
        rw [he] at hf
        cases hf
        exact ⟨g, cap, by rw [List.getElem?_set_self (by omega)], hl.keep0 K (fun ad ha _ q => by cases ha; exact hg (by rw [ob]; exact congrArg some q.symm)), hg⟩
      · obtain ⟨g', cap', a, b, c⟩ := h.new j f (by omega) hf
        exact ⟨g', cap', by rw [List.getElem?_set_ne (fun e => q e.symm)]; exact a, b.keep0 K (fun ad ha _ q => by cases ha; exact c (by rw [ob]; exact congrArg some q.symm)), c⟩
    · exact h.ne b hb (by rw [ob, e])

theorem zero_u (n : Nat) : Builtin.zeroCells #[Value.int .u64 0] n = (List.replicate n (Value.int .u64 0)).toArray := by
  apply Array.ext'
  simp only [Builtin.zeroCells, Array.toList_map, Array.toList_range, List.size_toArray, List.length_cons, List.length_nil, Nat.zero_add, Nat.mul_one, Nat.mod_one]
  exact List.eq_replicate_iff.2 ⟨by simp, fun v hv => by
    obtain ⟨i, _, rfl⟩ := List.mem_map.1 hv
    rfl⟩
theorem fl_u1 (l : List Int) : Re.fl u1 l = l.map (Value.int .u64) := by
  induction l with
  | nil => rfl
  | cons x l ih => rw [Re.fl, List.flatMap_cons, ← Re.fl, ih]; rfl
/-- The first append to a list that has no room. -/
theorem first_app (p : Option Addr) (n : Nat) (zs : List Int) (x : Int) (w : World) (hz : zs.length = n) (hn : n ≤ 17592186044000) (hl : Lies w p zs) :
    ∃ cap w', (Builtin.append_ #[28, 28] 28 #[.slice p n n, .slice (some ⟨w.heap.size, 0, none⟩) 1 1]).run Tryz.prog (w.alloc (.cells #[.int .u64 x] 25)) = .ok (.slice (some ⟨w.heap.size + 1, 0, none⟩) (n + 1) cap) w' ∧ Re.Ow u1 25 1 w.heap.size w' (.slice (some ⟨w.heap.size + 1, 0, none⟩) (n + 1) cap) (zs ++ [x]) ∧ Below w.heap.size w w' := by
  obtain ⟨i, hi, hzz⟩ := Option.map_eq_some_iff.1 info_u64
  simp only [Prod.mk.injEq] at hzz
  obtain ⟨z1, z2, z3⟩ := hzz
  have bm : Below w.heap.size w (w.alloc (.cells #[.int .u64 x] 25)) := alloc_b2 _ _
  have hs : (w.alloc (.cells #[.int .u64 x] 25)).heap.size = w.heap.size + 1 := World.size_alloc _ _
  have hnew : ∀ j v, [Value.int .u64 x][j]? = some v → (w.alloc (.cells #[.int .u64 x] 25)).cell? ((⟨w.heap.size, 0, none⟩ : Addr).add j) = some v := by
    intro j u hu
    rw [Go.WideShapes.add_plain, Nat.zero_add]
    have h0 : (w.alloc (.cells #[.int .u64 x] 25)).heap[w.heap.size]? = some (.cells #[.int .u64 x] 25 (0, 0)) := heap_alloc_new w _
    simp only [World.cell?, h0]
    simpa using hu
  have fin : ∀ (cap : Nat) (W : World), n + 1 ≤ cap → cap ≤ maxLen → W.heap.size = w.heap.size + 1 → Re.Ow u1 25 1 w.heap.size (W.alloc (.cells ((zs.map (Value.int .u64)).toArray ++ [Value.int .u64 x].toArray ++ Builtin.zeroCells (Value.cells (Value.int .u64 0)) (cap - (n + 1))) 25)) (.slice (some ⟨w.heap.size + 1, 0, none⟩) (n + 1) cap) (zs ++ [x]) := by
    intro cap W h1 h2 hW
    have e : (zs.map (Value.int .u64)).toArray ++ [Value.int .u64 x].toArray ++ Builtin.zeroCells (Value.cells (Value.int .u64 0)) (cap - (n + 1)) = ((zs ++ [x]).map (Value.int .u64) ++ List.replicate (cap - (n + 1)) (Value.int .u64 0)).toArray := by
      rw [show Value.cells (Value.int .u64 0) = #[Value.int .u64 0] from rfl, zero_u]
      simp
    have l1 : ((zs ++ [x]).map (Value.int .u64)).length = n + 1 := by simp [hz]
    rw [e]
    have l2 : (zs ++ [x]).length = n + 1 := by simp [hz]
    refine ⟨by rw [fl_u1, l1, l2]; omega, .inr ⟨w.heap.size + 1, cap, ((zs ++ [x]).map (Value.int .u64) ++ List.replicate (cap - (n + 1)) (Value.int .u64 0)).toArray, by rw [l2], by omega, ?_, by rw [l2]; exact h1, h2, ?_, ?_⟩⟩
    · rw [← hW]; exact heap_alloc_new _ _
    · rw [List.size_toArray, List.length_append, l1, List.length_replicate]; omega
    · rw [fl_u1]
      show ((zs ++ [x]).map (Value.int .u64) ++ List.replicate (cap - (n + 1)) (Value.int .u64 0)).take ((zs ++ [x]).length * 1) = _
      rw [List.take_append_of_le_length (by simp), List.take_of_length_le (by simp)]
  rcases p with _ | a
  · have z0 : zs = [] := by
      rcases hl with c | ⟨b, off, hp, _⟩
      · exact c
      · cases hp
    subst z0
    obtain rfl : n = 0 := by simpa using hz.symm
    have hr := run_append_nil (P := Tryz.prog) (w.alloc (.cells #[.int .u64 x] 25)) 28 28 25 i (.int .u64 0) Tryz.underlying28 hi z1 ⟨w.heap.size, 0, none⟩ 1 1 [.int .u64 x] (by rw [z2]; rfl) hnew (by omega) (by omega) (by rw [z3]; omega)
    have hge := grownCap_ge (w.alloc (.cells #[.int .u64 x] 25)) 1 0 25
    have hle := grownCap_le_maxLen (w.alloc (.cells #[.int .u64 x] 25)) 1 0 25 (by simp only [maxLen]; omega)
    obtain ⟨cap, hcap⟩ : ∃ c, grownCap (w.alloc (.cells #[.int .u64 x] 25)) 1 0 25 = c := ⟨_, rfl⟩
    rw [hcap] at hr hge hle
    rw [hs] at hr
    refine ⟨cap, _, hr, ?_, bm.drew.alloc (by show w.heap.size ≤ (w.alloc (.cells #[.int .u64 x] 25)).heap.size; rw [hs]; omega) _⟩
    exact fin cap _ (by omega) hle hs
  · have hold : ∀ j v, (zs.map (Value.int .u64))[j]? = some v → (w.alloc (.cells #[.int .u64 x] 25)).cell? (a.add j) = some v := by
      intro j v hv
      rcases hl with c | ⟨b, off, hp, hc⟩
      · rw [c] at hv; simp at hv
      · cases hp
        have jl : j < zs.length := by have := (List.getElem?_eq_some_iff.1 hv).1; simpa using this
        have := hc j jl
        rw [Go.WideShapes.add_plain, bm.cell (p := ⟨b, off + j, none⟩) (cell_lt this), this]
        rw [List.getElem?_map, List.getElem?_eq_getElem jl] at hv
        rw [List.getD, List.getElem?_eq_getElem jl]
        exact hv
    have hr := run_append_grow (P := Tryz.prog) (w.alloc (.cells #[.int .u64 x] 25)) 28 28 25 i (.int .u64 0) Tryz.underlying28 hi z1 a n n (zs.map (Value.int .u64)) (by rw [z2, List.length_map]; omega) hold ⟨w.heap.size, 0, none⟩ 1 1 [.int .u64 x] (by rw [z2]; rfl) hnew (by omega) (by omega) (growslice_fits (by omega) (by rw [z3]; omega))
    have hge := grownCap_ge (w.alloc (.cells #[.int .u64 x] 25)) (n + 1) n 25
    have hle := grownCap_le_maxLen (w.alloc (.cells #[.int .u64 x] 25)) (n + 1) n 25 (by simp only [maxLen]; omega)
    obtain ⟨cap, hcap⟩ : ∃ c, grownCap (w.alloc (.cells #[.int .u64 x] 25)) (n + 1) n 25 = c := ⟨_, rfl⟩
    rw [hcap] at hr hge hle
    rw [hs] at hr
    refine ⟨cap, _, hr, ?_, bm.drew.alloc (by show w.heap.size ≤ (w.alloc (.cells #[.int .u64 x] 25)).heap.size; rw [hs]; omega) _⟩
    exact fin cap _ (by omega) hle hs
end Go.Proofs.YtggiioipppbedaaGreatDoor
