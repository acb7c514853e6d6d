/-
  Texts put together: QTake, Shr, IShiftA, INear1, Low, IShift.
-/
import Derived.Test.YtjkefcikepnbpaaGreatDoorWAC
import Derived.Test.YtjkefcikepnbpaaGreatDoorWAA
import Derived.Test.YtjkefcikepnbpaaGreatDoorWAE
namespace Go.Proofs.YtjkefcikepnbpaaGreatDoor
open Go.RowKit Go.Deep

/-- As AddInv; from limb 'top' on the block is as it was, and so is every other block. -/
def PartInv (g k top : Nat) (w : World) (zs : List Int) (T : Int) (j : Nat) (c : Int) (os : List Int) (wr : World) : Prop :=
  AddInv g k w T j c os wr ∧ (∀ i, top ≤ i → os.getD i 0 = zs.getD i 0) ∧ ∀ b, b ≠ g → wr.heap[b]? = w.heap[b]?

theorem PartInv.step {g k top : Nat} {w : World} {zs : List Int} {T : Int} {j : Nat} {c : Int} {os : List Int} {wr : World} (h : PartInv g k top w zs T j c os wr) (hj : j < k) (ht : j < top) {x s c' : Int}
    (hs0 : 0 ≤ s ∧ s < 18446744073709551616) (hs : s + 18446744073709551616 * c' = os.getD j 0 + x + c) :
    PartInv g k top w zs (T + Nm.pw j * x) (j + 1) c' (os.set j s) (wr.setCell ⟨g, j, none⟩ (.int .u64 s)) := by
  obtain ⟨h1, h2, h3⟩ := h
  refine ⟨h1.down hj hs0 hs, fun i hi => ?_, fun b hb => ?_⟩
  · rw [Nm.getD_set _ _ _ _ (by have := h1.2.1; omega), if_neg (by omega)]
    exact h2 i hi
  · rw [← h3 b hb]
    simp only [World.setCell, Array.getElem?_modify]
    rw [if_neg (by omega)]

theorem PartInv.own {g k top : Nat} {w : World} {zs : List Int} {T : Int} {j : Nat} {c : Int} {os : List Int} {wr : World} (h : PartInv g k top w zs T j c os wr) {b : Nat} {xs : List Int} (ho : Own w b xs) (hb : b ≠ g) : Own wr b xs := by
  simp only [Own] at ho ⊢
  rw [h.2.2 b hb]
  exact ho

/-- The limbs of one round of takeTimes. -/
theorem take_step {x m y c p l h s1 k1 s2 b : Int} (hp : l + 18446744073709551616 * h = p) (hl : 0 ≤ l ∧ l < 18446744073709551616) (hh : 0 ≤ h) (hx : 0 ≤ x ∧ x < 18446744073709551616) (hm : 0 ≤ m ∧ m < 18446744073709551616) (hxm : p = x * m)
    (hy : 0 ≤ y ∧ y < 18446744073709551616) (hc : 0 ≤ c ∧ c < 18446744073709551616) (e1 : s1 = (l + c + 0) % 18446744073709551616) (e2 : k1 = (l + c + 0) / 18446744073709551616)
    (hs : 0 ≤ s2 ∧ s2 < 18446744073709551616) (_hb : 0 ≤ b ∧ b ≤ 1) (e3 : s2 + 18446744073709551616 * (-b) = y + (-s1) + (-0)) :
    (0 ≤ h + k1 + b ∧ h + k1 + b < 18446744073709551616) ∧ s2 + 18446744073709551616 * (-(h + k1 + b)) = y + (-(x * m)) + (-c) := by
  have hbd : x * m ≤ 18446744073709551615 * 18446744073709551615 := Int.mul_le_mul (by omega) (by omega) (by omega) (by omega)
  rw [← hxm] at hbd ⊢
  clear hxm
  omega

set_option maxRecDepth 100000 in
set_option maxHeartbeats 1000000 in
theorem takeTimes_any (g k o n n1 cap : Nat) (zs : List Int) (q : Option Addr) (cap' : Nat) (ys : List Int) (m : Int) (w : World) (hk : zs.length = k) (hkm : k ≤ 35184372088832) (ho : Own w g zs) (hl : Nm.Limbs zs)
    (hn : ys.length = n) (hn0 : 0 < n) (hn1 : n < n1) (hon : o + n < k) (hy : Lies w q ys) (hly : Nm.Limbs ys) (hq : ∀ a, q = some a → a.block < g) (hm0 : 0 ≤ m) (hm1 : m < 18446744073709551616) :
    Calls Tryz.prog 172 #[.slice (some ⟨g, o, none⟩) n1 cap, .slice q n cap', .int .u64 m] w fun e w' => ∃ (c : Int) (os : List Int), e = .returned (.int .u64 c) ∧ (0 ≤ c ∧ c ≤ 1) ∧
      Hid (PartInv g k (o + n + 1) w zs (Nm.val zs + Nm.pw o * (-(Nm.val ys * m))) (o + n + 1) (-c) os w') := by
  obtain ⟨b, off, rfl, hbw, HC⟩ := hy.at (by omega)
  have hbg : b < g := hq _ rfl
  have I0 : PartInv g k (o + n + 1) w zs (Nm.val zs + Nm.pw o * (-(Nm.val (ys.take 0) * m))) (o + 0) (-0) zs w := ⟨⟨ho, hk, hl, by simp [Nm.val], Below.refl _ _, rfl⟩, fun _ _ => rfl, fun _ _ => rfl⟩
  have HM : Hid (ys.length = n) := hn
  have HY : Hid (Nm.Limbs ys) := hly
  clear hn hly hq ho hk hl hy
  go_enter Tryz.func172, Tryz.ntmps172
  go_wp2
  go_loopw [7, 19] (fun c i wr => ∃ (j : Nat) (cc : Int) (os : List Int), j ≤ n ∧ i = .int .i64 j ∧ c = .int .u64 cc ∧ (0 ≤ cc ∧ cc < 18446744073709551616) ∧ PartInv g k (o + n + 1) w zs (Nm.val zs + Nm.pw o * (-(Nm.val (ys.take j) * m))) (o + j) (-cc) os wr) (fun _ i _ => n - (intOf i).toNat)
  case atStart => exact ⟨0, 0, zs, Nat.zero_le _, rfl, rfl, by omega, I0⟩
  case round =>
    clear I0
    obtain ⟨j, cc, os, hj, rfl, rfl, ⟨hcc0, hcc1⟩, I⟩ := hrel
    by_cases hlt : j < n
    · obtain ⟨x, hx, X⟩ : ∃ x, wr.cell? ⟨b, off + j, none⟩ = some (.int .u64 x) ∧ Hid (x = ys.getD j 0) :=
        ⟨_, (I.1.2.2.2.2.1.cell (p := ⟨b, off + j, none⟩) hbg).trans (HC.out j (by have := HM.out; omega)), rfl⟩
      obtain ⟨y, hyc, Y⟩ : ∃ y, wr.cell? ⟨g, o + j, none⟩ = some (.int .u64 y) ∧ Hid (y = os.getD (o + j) 0) := ⟨_, I.1.1.cell (o + j) (by have := I.1.2.1; omega), rfl⟩
      have hfr := I.1.1.free (o + j)
      have hx0 : 0 ≤ x ∧ x < 18446744073709551616 := by have := HY.out.at j; have := X.out; omega
      have hy0 : 0 ≤ y ∧ y < 18446744073709551616 := by have := I.1.2.2.1.at (o + j); have := Y.out; omega
      obtain ⟨hx0, hx1⟩ := hx0
      obtain ⟨hy0, hy1⟩ := hy0
      have hjn1 : (j : Int) < (n1 : Int) := by omega
      go_wp2_with fail
      refine (mul64 x m hx0 hx1 hm0 hm1 _).mono ?_
      rintro e w' ⟨h, l, rfl, ⟨hh0, hh1, hl0, hl1⟩, P1, _, rfl⟩
      obtain ⟨s1, S1⟩ : ∃ s, Hid (s = (l + cc + 0) % 18446744073709551616) := ⟨_, rfl⟩
      obtain ⟨k1, K1⟩ : ∃ c, Hid (c = (l + cc + 0) / 18446744073709551616) := ⟨_, rfl⟩
      have hs1 : 0 ≤ s1 := by have := S1.out; omega
      have hs2 : s1 < 18446744073709551616 := by have := S1.out; omega
      obtain ⟨s2, b2, ⟨t0, t1⟩, ⟨t2, t3⟩, S2⟩ := sub_names y s1 0 hy0 hy1 hs1 hs2 (Int.le_refl 0) (by decide)
      have ST := hid (take_step P1.out ⟨hl0, hl1⟩ hh0 ⟨hx0, hx1⟩ ⟨hm0, hm1⟩ rfl ⟨hy0, hy1⟩ ⟨hcc0, hcc1⟩ S1.out K1.out ⟨t0, t1⟩ ⟨t2, t3⟩ S2.out)
      have hk1 : 0 ≤ k1 := by have := K1.out; omega
      have hkk : h + k1 + b2 < 18446744073709551616 := ST.out.1.2
      go_wp2_with (first | simp only [add64' l cc 0 s1 k1 hl0 hcc0 (Int.le_refl 0) (by decide) S1.out K1.out] | simp only [sub64' y s1 0 s2 b2 hy0 hy1 hs1 hs2 (Int.le_refl 0) (by decide) ⟨t0, t1⟩ ⟨t2, t3⟩ S2.out])
      go_roundw
      case rel =>
        have hst := I.step (by omega) (by omega) (x := -(x * m)) (s := s2) (c' := -(h + k1 + b2)) ⟨t0, t1⟩ (by rw [← Y.out]; exact ST.out.2)
        refine ⟨j + 1, h + k1 + b2, os.set (o + j) s2, by omega, by go_num, rfl, ST.out.1, ?_⟩
        have e : Nm.val zs + Nm.pw o * (-(Nm.val (ys.take (j + 1)) * m)) = Nm.val zs + Nm.pw o * (-(Nm.val (ys.take j) * m)) + Nm.pw (o + j) * (-(x * m)) := by
          rw [Nm.val_take_succ ys j (by have := HM.out; omega), ← X.out, Nm.pw_add, Int.add_mul, Int.mul_neg, Int.mul_neg, Int.mul_neg, Int.mul_add, Int.mul_assoc, Int.mul_assoc]
          omega
        rw [e]
        exact hst
      case measure => simp [intOf]; omega
    · have hjn : j = n := by omega
      subst hjn
      rw [List.take_of_length_le (by have := HM.out; omega)] at I
      obtain ⟨y, hyc, Y⟩ : ∃ y, wr.cell? ⟨g, o + j, none⟩ = some (.int .u64 y) ∧ Hid (y = os.getD (o + j) 0) := ⟨_, I.1.1.cell (o + j) (by have := I.1.2.1; omega), rfl⟩
      have hfr := I.1.1.free (o + j)
      have hy0 : 0 ≤ y ∧ y < 18446744073709551616 := by have := I.1.2.2.1.at (o + j); have := Y.out; omega
      obtain ⟨hy0, hy1⟩ := hy0
      obtain ⟨s2, b2, ⟨t0, t1⟩, ⟨t2, t3⟩, S2⟩ := sub_names y cc 0 hy0 hy1 hcc0 hcc1 (Int.le_refl 0) (by decide)
      have hst := I.step (by omega) (by omega) (x := 0) (s := s2) (c' := -b2) ⟨t0, t1⟩ (by rw [← Y.out]; have := S2.out; omega)
      rw [Int.mul_zero, Int.add_zero] at hst
      have HS := hid hst
      clear hst I
      go_wp2_with (simp only [sub64' y cc 0 s2 b2 hy0 hy1 hcc0 hcc1 (Int.le_refl 0) (by decide) ⟨t0, t1⟩ ⟨t2, t3⟩ S2.out])
      go_ret
      exact ⟨b2, os.set (o + j) s2, rfl, ⟨t2, t3⟩, HS.out⟩

set_option maxRecDepth 100000 in
set_option maxHeartbeats 1000000 in
theorem giveBack_any (g k o n n1 cap : Nat) (zs : List Int) (q : Option Addr) (cap' : Nat) (ys : List Int) (w : World) (hk : zs.length = k) (hkm : k ≤ 35184372088832) (ho : Own w g zs) (hl : Nm.Limbs zs)
    (hn : ys.length = n) (hn0 : 0 < n) (hn1 : n < n1) (hon : o + n < k) (hy : Lies w q ys) (hly : Nm.Limbs ys) (hq : ∀ a, q = some a → a.block < g) :
    Calls Tryz.prog 173 #[.slice (some ⟨g, o, none⟩) n1 cap, .slice q n cap'] w fun e w' => ∃ (c : Int) (os : List Int), e = .returned (.int .u64 c) ∧ (0 ≤ c ∧ c ≤ 1) ∧
      Hid (PartInv g k (o + n + 1) w zs (Nm.val zs + Nm.pw o * Nm.val ys) (o + n + 1) c os w') := by
  obtain ⟨b, off, rfl, hbw, HC⟩ := hy.at (by omega)
  have hbg : b < g := hq _ rfl
  have I0 : PartInv g k (o + n + 1) w zs (Nm.val zs + Nm.pw o * Nm.val (ys.take 0)) (o + 0) 0 zs w := ⟨⟨ho, hk, hl, by simp [Nm.val], Below.refl _ _, rfl⟩, fun _ _ => rfl, fun _ _ => rfl⟩
  have HM : Hid (ys.length = n) := hn
  have HY : Hid (Nm.Limbs ys) := hly
  clear hn hly hq ho hk hl hy
  go_enter Tryz.func173, Tryz.ntmps173
  go_wp2
  go_loopw [5, 10] (fun c i wr => ∃ (j : Nat) (cc : Int) (os : List Int), j ≤ n ∧ i = .int .i64 j ∧ c = .int .u64 cc ∧ (0 ≤ cc ∧ cc ≤ 1) ∧ PartInv g k (o + n + 1) w zs (Nm.val zs + Nm.pw o * Nm.val (ys.take j)) (o + j) cc os wr) (fun _ i _ => n - (intOf i).toNat)
  case atStart => exact ⟨0, 0, zs, Nat.zero_le _, rfl, rfl, by omega, I0⟩
  case round =>
    clear I0
    obtain ⟨j, cc, os, hj, rfl, rfl, ⟨hcc0, hcc1⟩, I⟩ := hrel
    by_cases hlt : j < n
    · obtain ⟨x, hx, X⟩ : ∃ x, wr.cell? ⟨b, off + j, none⟩ = some (.int .u64 x) ∧ Hid (x = ys.getD j 0) :=
        ⟨_, (I.1.2.2.2.2.1.cell (p := ⟨b, off + j, none⟩) hbg).trans (HC.out j (by have := HM.out; omega)), rfl⟩
      obtain ⟨y, hyc, Y⟩ : ∃ y, wr.cell? ⟨g, o + j, none⟩ = some (.int .u64 y) ∧ Hid (y = os.getD (o + j) 0) := ⟨_, I.1.1.cell (o + j) (by have := I.1.2.1; omega), rfl⟩
      have hfr := I.1.1.free (o + j)
      have hx0 : 0 ≤ x ∧ x < 18446744073709551616 := by have := HY.out.at j; have := X.out; omega
      have hy0 : 0 ≤ y ∧ y < 18446744073709551616 := by have := I.1.2.2.1.at (o + j); have := Y.out; omega
      obtain ⟨hx0, hx1⟩ := hx0
      obtain ⟨hy0, hy1⟩ := hy0
      have hjn1 : (j : Int) < (n1 : Int) := by omega
      obtain ⟨s, S⟩ : ∃ s, Hid (s = (y + x + cc) % 18446744073709551616) := ⟨_, rfl⟩
      obtain ⟨c', C⟩ : ∃ c', Hid (c' = (y + x + cc) / 18446744073709551616) := ⟨_, rfl⟩
      have hs0 : 0 ≤ s ∧ s < 18446744073709551616 := by have := S.out; omega
      have hc0 : 0 ≤ c' ∧ c' ≤ 1 := by have := C.out; omega
      have SE : Hid (s + 18446744073709551616 * c' = y + x + cc) := by show _ = _; have := S.out; have := C.out; omega
      go_wp2_with (simp only [add64' y x cc s c' hy0 hx0 hcc0 hcc1 S.out C.out])
      go_roundw
      case rel =>
        have hst := I.step (by omega) (by omega) (x := x) (s := s) (c' := c') hs0 (by rw [← Y.out]; exact SE.out)
        refine ⟨j + 1, c', os.set (o + j) s, by omega, by go_num, rfl, hc0, ?_⟩
        have e : Nm.val zs + Nm.pw o * Nm.val (ys.take (j + 1)) = Nm.val zs + Nm.pw o * Nm.val (ys.take j) + Nm.pw (o + j) * x := by
          rw [Nm.val_take_succ ys j (by have := HM.out; omega), ← X.out, Nm.pw_add, Int.mul_add, Int.mul_assoc]
          omega
        rw [e]
        exact hst
      case measure => simp [intOf]; omega
    · have hjn : j = n := by omega
      subst hjn
      rw [List.take_of_length_le (by have := HM.out; omega)] at I
      obtain ⟨y, hyc, Y⟩ : ∃ y, wr.cell? ⟨g, o + j, none⟩ = some (.int .u64 y) ∧ Hid (y = os.getD (o + j) 0) := ⟨_, I.1.1.cell (o + j) (by have := I.1.2.1; omega), rfl⟩
      have hfr := I.1.1.free (o + j)
      have hy0 : 0 ≤ y ∧ y < 18446744073709551616 := by have := I.1.2.2.1.at (o + j); have := Y.out; omega
      obtain ⟨hy0, hy1⟩ := hy0
      obtain ⟨s, S⟩ : ∃ s, Hid (s = (y + 0 + cc) % 18446744073709551616) := ⟨_, rfl⟩
      obtain ⟨c', C⟩ : ∃ c', Hid (c' = (y + 0 + cc) / 18446744073709551616) := ⟨_, rfl⟩
      have hs0 : 0 ≤ s ∧ s < 18446744073709551616 := by have := S.out; omega
      have hc0 : 0 ≤ c' ∧ c' ≤ 1 := by have := C.out; omega
      have hst := I.step (by omega) (by omega) (x := 0) (s := s) (c' := c') hs0 (by rw [← Y.out]; have := S.out; have := C.out; omega)
      rw [Int.mul_zero, Int.add_zero] at hst
      have HS := hid hst
      clear hst I
      go_wp2_with (simp only [add64' y 0 cc s c' hy0 (Int.le_refl 0) hcc0 hcc1 S.out C.out])
      go_ret
      exact ⟨c', os.set (o + j) s, rfl, hc0, HS.out⟩
end Go.Proofs.YtjkefcikepnbpaaGreatDoor

namespace Go.Proofs.YtjkefcikepnbpaaGreatDoor
open Go.RowKit Go.Deep

namespace Sh
theorem val_at (zs : List Int) (i : Nat) (hi : i < zs.length) : Nm.val (zs.drop i) = zs.getD i 0 + 18446744073709551616 * Nm.val (zs.drop (i + 1)) := by
  rw [List.drop_eq_getElem_cons hi, Nm.val]
  simp [List.getD, hi]

/-- One limb moved down by r binary digits, with what came down from above: the limb s, and what goes on. -/
theorem down (x V sp : Int) (r : Nat) (hr : r ≤ 63) (x0 : 0 ≤ x) (x1 : x < 18446744073709551616) (hsp : sp = V % 2 ^ r * 2 ^ (64 - r)) :
    ∃ q s sp', x / 2 ^ r = q ∧ bits .or .u64 q sp = s ∧ IntKind.u64.wrap (x * 2 ^ (64 - r)) = sp' ∧ (0 ≤ s ∧ s < 18446744073709551616) ∧ (0 ≤ sp' ∧ sp' < 18446744073709551616) ∧
      Hid (s + 18446744073709551616 * (V / 2 ^ r) = (x + 18446744073709551616 * V) / 2 ^ r) ∧ Hid (sp' = (x + 18446744073709551616 * V) % 2 ^ r * 2 ^ (64 - r)) := by
  have hP := Nm.two_pos r
  have hQ := Nm.two_pos (64 - r)
  have hPQ := split64 r hr
  have hpe : (2 : Int) ^ (64 - r) = 2 ^ (64 - r) := rfl
  have d2 := Int.emod_nonneg V (show (2 : Int) ^ r ≠ 0 by omega)
  have d3 := Int.emod_lt_of_pos V hP
  have q0 : 0 ≤ x / 2 ^ r := Int.ediv_nonneg x0 (by omega)
  have q1 : x / 2 ^ r < 2 ^ (64 - r) := by
    rw [Int.ediv_lt_iff_lt_mul hP, Int.mul_comm, hPQ]
    exact x1
  have e1 : (V % 2 ^ r + 1) * 2 ^ (64 - r) ≤ 2 ^ r * 2 ^ (64 - r) := Int.mul_le_mul_of_nonneg_right (by omega) (by omega)
  rw [Int.add_mul, Int.one_mul, hPQ] at e1
  have e2 : 0 ≤ V % 2 ^ r * 2 ^ (64 - r) := Int.mul_nonneg d2 (by omega)
  -- 'or' with the summands the other way round
  have hO : bits .or .u64 (x / 2 ^ r) sp = x / 2 ^ r + sp := by
    have h := or_sum (V % 2 ^ r) (x / 2 ^ r) (64 - r) d2 q0 q1 (by omega) (by omega)
    rw [← hsp] at h
    obtain ⟨a, ha⟩ := Int.eq_ofNat_of_zero_le q0
    obtain ⟨c, hc⟩ := Int.eq_ofNat_of_zero_le (show 0 ≤ sp by omega)
    rw [ha, hc] at h ⊢
    rw [bits_or_u64_nat c a (by omega) (by omega)] at h
    rw [bits_or_u64_nat a c (by omega) (by omega), Nat.or_comm, h]
    omega
  refine ⟨_, _, _, rfl, hO, rfl, by omega, ?_, ?_, ?_⟩
  · rw [wrap_mod]; omega
  · show _ = _
    have a1 : (x + 18446744073709551616 * V) / 2 ^ r = x / 2 ^ r + 2 ^ (64 - r) * V := by
      rw [← hPQ, Int.mul_assoc, Int.add_mul_ediv_left _ _ (by omega)]
    have a2 := Int.emod_add_mul_ediv V (2 ^ r)
    have a3 : 2 ^ (64 - r) * V = V % 2 ^ r * 2 ^ (64 - r) + 18446744073709551616 * (V / 2 ^ r) := by
      have : 2 ^ (64 - r) * (V % 2 ^ r + 2 ^ r * (V / 2 ^ r)) = 2 ^ (64 - r) * V := by rw [a2]
      rw [Int.mul_add, ← Int.mul_assoc, Int.mul_comm (2 ^ (64 - r)) (2 ^ r), hPQ, Int.mul_comm (2 ^ (64 - r)) (V % 2 ^ r)] at this
      omega
    rw [a1, a3, hsp]
    omega
  · show _ = _
    have b1 : (x + 18446744073709551616 * V) % 2 ^ r = x % 2 ^ r := by
      rw [← hPQ, Int.mul_assoc, Int.add_mul_emod_self_left]
    rw [b1, wrap_mod]
    have c1 := Int.emod_add_mul_ediv x (2 ^ r)
    have c2 := Int.emod_nonneg x (show (2 : Int) ^ r ≠ 0 by omega)
    have c3 := Int.emod_lt_of_pos x hP
    have c4 : (x % 2 ^ r + 1) * 2 ^ (64 - r) ≤ 2 ^ r * 2 ^ (64 - r) := Int.mul_le_mul_of_nonneg_right (by omega) (by omega)
    rw [Int.add_mul, Int.one_mul, hPQ] at c4
    have c5 : 0 ≤ x % 2 ^ r * 2 ^ (64 - r) := Int.mul_nonneg c2 (by omega)
    have c6 : x * 2 ^ (64 - r) = x % 2 ^ r * 2 ^ (64 - r) + 18446744073709551616 * (x / 2 ^ r) := by
      have : (x % 2 ^ r + 2 ^ r * (x / 2 ^ r)) * 2 ^ (64 - r) = x * 2 ^ (64 - r) := by rw [c1]
      rw [Int.add_mul, Int.mul_right_comm, hPQ] at this
      omega
    omega

/-- Whether anything is lost: by the lowest digit 1. -/
theorem lost_iff {v : Int} {t n : Nat} (h : Nm.Trl v t) (hv : 0 < v) : decide ((t : Int) < (n : Int)) = decide (v % 2 ^ n ≠ 0) := by
  rcases h with ⟨h, _⟩ | ⟨m, hm⟩
  · omega
  · rw [Bool.eq_iff_iff]
    simp only [decide_eq_true_eq]
    constructor
    · intro hlt h0
      obtain ⟨c, hc⟩ := Nat.exists_eq_add_of_lt (show t < n by omega)
      obtain ⟨k, hk⟩ := Int.dvd_of_emod_eq_zero h0
      rw [hm, hc, Nat.add_assoc, Nm.two_add, Int.mul_assoc] at hk
      exact Nm.odd_unique (Int.eq_of_mul_eq_mul_left (by have := Nm.two_pos t; omega) hk)
    · intro h0
      rcases Nat.lt_or_ge t n with hlt | hge
      · omega
      · exfalso
        obtain ⟨c, hc⟩ := Nat.exists_eq_add_of_le hge
        apply h0
        rw [hm, hc, Nm.two_add, Int.mul_assoc]
        exact Int.mul_emod_right _ _
end Sh

/-- Behind the limbs from j on: they are moved down; below j the limbs are as they were. -/
def DownInv (g M : Nat) (w : World) (ys : List Int) (r j : Nat) (sp : Int) (os : List Int) (wr : World) : Prop :=
  Own wr g os ∧ os.length = M ∧ Nm.Limbs os ∧ (∀ t, t < j → os.getD t 0 = ys.getD t 0) ∧ Nm.val (os.drop j) = Nm.val (ys.drop j) / 2 ^ r ∧ sp = Nm.val (ys.drop j) % 2 ^ r * 2 ^ (64 - r) ∧ Below g w wr

theorem DownInv.step {g M : Nat} {w : World} {ys : List Int} {r t : Nat} {sp : Int} {os : List Int} {wr : World} (h : DownInv g M w ys r (t + 1) sp os wr) (hM : ys.length = M) (ht : t < M) {x s sp' : Int} (hx : x = ys.getD t 0) (hs0 : 0 ≤ s ∧ s < 18446744073709551616)
    (e1 : s + 18446744073709551616 * (Nm.val (ys.drop (t + 1)) / 2 ^ r) = (x + 18446744073709551616 * Nm.val (ys.drop (t + 1))) / 2 ^ r) (e2 : sp' = (x + 18446744073709551616 * Nm.val (ys.drop (t + 1))) % 2 ^ r * 2 ^ (64 - r)) :
    DownInv g M w ys r t sp' (os.set t s) (wr.setCell ⟨g, t, none⟩ (.int .u64 s)) := by
  obtain ⟨h1, h2, h3, h4, h5, h6, h7⟩ := h
  have hv := Sh.val_at ys t (by omega)
  rw [← hx] at hv
  refine ⟨h1.set t s, by simpa using h2, h3.set t hs0.1 hs0.2, ?_, ?_, by rw [hv]; exact e2, h7.setCell (p := ⟨g, t, none⟩) (Nat.le_refl _) _⟩
  · intro i hi
    rw [Nm.getD_set _ _ _ _ (by omega), if_neg (by omega)]
    exact h4 i (by omega)
  · rw [Sh.val_at (os.set t s) t (by simpa using (show t < os.length by omega)), Nm.getD_set _ _ _ _ (by omega), if_pos rfl, hv, ← e1]
    rw [List.drop_set_of_lt (by omega), h5]

theorem ret_shr {p : Option Addr} {a b : Nat} {l l' : Bool} (h : a = b) (hl : l = l') : Ending.returned (.tuple #[.slice p a a, .bool l, .int .i64 0]) = .returned (.tuple #[.slice p b b, .bool l', .int .i64 0]) := by rw [h, hl]

set_option maxRecDepth 100000 in
set_option maxHeartbeats 1000000 in
/-- From the number of its digits on nothing is left. -/
theorem shr_all (p : Option Addr) (n cap : Nat) (zs : List Int) (k : Int) (L : Nat) (w : World) (ha : Arg w p n cap zs) (tz : Nm.tsize zs ≤ 4096) (hk : 0 ≤ k) (hL : blen (Nm.trim zs) = (L : Int)) (hb : (L : Int) ≤ k) :
    Calls Tryz.prog 209 #[.slice p n cap, .int .i64 k] w fun e w' => e = .returned (.tuple #[.slice none 0 0, .bool (decide (0 < Nm.tsize zs)), .int .i64 0]) ∧ w' = w := by
  have HT := hid (lshift_ok p n cap zs k w ha tz hk)
  have HB := hid (bitLen_n L p _ _ (Nm.trim zs) w ha.trim' hL)
  clear hL ha
  go_enter Tryz.func209, Tryz.ntmps209
  go_wp2_with fail
  refine HT.out.mono ?_
  rintro e w' ⟨rfl, rfl⟩
  go_wp2_with fail
  refine HB.out.mono ?_
  rintro e w' ⟨rfl, rfl⟩
  go_wp2_with fail
  go_ret3
  exact ⟨by first | rfl | simp, rfl⟩

set_option maxRecDepth 100000 in
set_option maxHeartbeats 1000000 in
theorem shr_ok (p : Option Addr) (n cap : Nat) (zs : List Int) (kk : Int) (k L : Nat) (w : World) (ha : Arg w p n cap zs) (hT : Tab w) (tz : Nm.tsize zs ≤ 4096) (hkk : kk = (k : Int)) (hL : blen (Nm.trim zs) = (L : Int)) (hLt : L ≤ 64 * Nm.tsize zs) (hb : k < L) :
    Calls Tryz.prog 209 #[.slice p n cap, .int .i64 kk] w fun e w' => ∃ r os, e = .returned (.tuple #[.slice r (List.length os) (List.length os), .bool (decide (Nm.val zs % 2 ^ k ≠ 0)), .int .i64 0]) ∧ Ans w.heap.size w' r os (Nm.val zs / 2 ^ k) ∧ Below w.heap.size w w' := by
  have hk0 : 0 ≤ kk := by omega
  have T1 := lshift_ok p n cap zs kk w ha tz hk0
  have B1 := bitLen_n L p _ _ (Nm.trim zs) w ha.trim' hL
  have hvpos : 0 < Nm.val zs := by
    have h1 := (Nm.val_bd zs ha.2.2.2.2).1
    rcases (show Nm.val zs = 0 ∨ 0 < Nm.val zs by omega) with h | h
    · have := (Nm.tsize_zero_iff ha.2.2.2.2).2 h
      omega
    · exact h
  obtain ⟨N, HN⟩ : ∃ N, Hid (Nm.tsize zs = N) := ⟨_, rfl⟩
  rw [HN.out] at T1 B1 hLt
  have HT := hid T1
  have HB := hid B1
  have hN1 : N ≤ 4096 := by rw [← HN.out]; exact tz
  have hb1 : ¬ (L : Int) ≤ kk := by omega
  obtain ⟨sk, hsk⟩ : ∃ sk, k / 64 = sk := ⟨_, rfl⟩
  obtain ⟨r, hr⟩ : ∃ r, k % 64 = r := ⟨_, rfl⟩
  have r1 : kk / 64 = (sk : Int) := by omega
  have r2 : kk % 64 = (r : Int) := by omega
  have hr63 : r ≤ 63 := by omega
  have hskN : sk < N := by omega
  have hskN' : (sk : Int) < (N : Int) := by omega
  have hkb : kk ≤ 262144 := by omega
  have KE : Hid (k = 64 * sk + r) := by show _ = _; omega
  have KK := hid hkk
  have L1 := hid ((Nm.trim_length zs).trans HN.out)
  have A5 := hid ha.2.2.2.2.trim
  have AT := ha.trim'
  rw [HN.out] at AT
  have HAT := hid AT
  obtain ⟨b, off, rfl, hbw, HC⟩ := ha.2.2.2.1.trim.at (by rw [L1.out]; omega)
  have V := hid (Nm.val_trim zs)
  have LD : Hid (Lies w (some ⟨b, off + sk, none⟩) ((Nm.trim zs).drop sk)) := .inr ⟨b, off + sk, rfl, fun i hi => by
    rw [List.length_drop] at hi
    rw [show off + sk + i = off + (sk + i) by omega, HC.out (sk + i) (by omega)]
    simp [List.getD]⟩
  have YL : Hid (((Nm.trim zs).drop sk).length = N - sk) := by rw [Hid, List.length_drop, L1.out]
  have YY := hid (A5.out.drop sk)
  have HTAB := hid hT
  have HV := hid hvpos
  have QE : Hid (Nm.val zs / 2 ^ k = Nm.val ((Nm.trim zs).drop sk) / 2 ^ r) := by
    have h1 := Nm.val_drop (Nm.trim zs) sk (by rw [L1.out]; omega)
    have h2 := Nm.val_bd _ (A5.out.take sk)
    rw [List.length_take, L1.out, Nat.min_eq_left (by omega)] at h2
    have hp := Nm.pw_pos sk
    show _ = _
    rw [KE.out, Nm.two_add, ← Nm.pw_two, ← Int.ediv_ediv_of_nonneg (by omega), ← V.out, h1, Int.add_mul_ediv_left _ _ (by omega), Int.ediv_eq_zero_of_lt h2.1 h2.2, Int.zero_add]
  clear T1 B1 ha tz hL hkk hsk hr hT hvpos hLt hb AT
  go_enter Tryz.func209, Tryz.ntmps209
  go_wp2_with fail
  refine HT.out.mono ?_
  rintro e w' ⟨rfl, rfl⟩
  go_wp2_with fail
  refine HB.out.mono ?_
  rintro e w' ⟨rfl, rfl⟩
  go_wp2_with fail
  refine (widened_any _ (N - sk) _ 0 0 ((Nm.trim zs).drop sk) _ rfl YL.out (by omega) LD.out).mono ?_
  rintro e w1 ⟨rfl, ho, hb2, hz2⟩
  rw [List.replicate_zero, List.append_nil] at ho
  have I0 : DownInv w'.heap.size (N - sk) w' ((Nm.trim zs).drop sk) r (N - sk) 0 ((Nm.trim zs).drop sk) w1 := by
    have e : ((Nm.trim zs).drop sk).drop (N - sk) = [] := List.drop_eq_nil_of_le (by rw [YL.out]; omega)
    exact ⟨ho, YL.out, YY.out, fun _ _ => rfl, by rw [e]; simp [Nm.val], by rw [e]; simp [Nm.val], hb2⟩
  have HI0 := hid I0
  clear ho hb2 hz2 I0
  go_wp2_with fail
  go_loopw [11, 12] (fun a i wr => ∃ (j : Nat) (sp : Int) (os : List Int), j ≤ N - sk ∧ i = .int .i64 ((j : Int) - 1) ∧ a = .int .u64 sp ∧ DownInv w'.heap.size (N - sk) w' ((Nm.trim zs).drop sk) r j sp os wr) (fun _ i _ => (intOf i + 1).toNat)
  case atStart => exact ⟨N - sk, 0, _, Nat.le_refl _, by go_num, rfl, HI0.out⟩
  case round =>
    clear HI0
    obtain ⟨j, sp, os, hj, rfl, rfl, I⟩ := hrel
    by_cases hj0 : j = 0
    · subst hj0
      obtain ⟨i1, i2, i3, i4, i5, i6, i7⟩ := I
      rw [List.drop_zero, List.drop_zero] at i5
      have O1 := hid i1
      have O3 := hid i3
      have O5 : Hid (Nm.val os = Nm.val zs / 2 ^ k) := by rw [Hid, QE.out]; exact i5
      have O7 := hid i7
      have TR := hid (trimmed_any (some ⟨w'.heap.size, 0, none⟩) (N - sk) (N - sk) os wr i2 (Nat.le_refl _) (by omega) i1.lies)
      have TL := hid (trail_any _ N N (Nm.trim zs) wr (HAT.out.below i7 (Nat.le_refl _)) (HTAB.out.below i7))
      clear i1 i2 i3 i4 i5 i6 i7
      go_wp2_with fail
      refine TR.out.mono ?_
      rintro e w3 ⟨rfl, rfl⟩
      go_wp2_with fail
      refine TL.out.mono ?_
      rintro e w3 ⟨t, rfl, htr, rfl⟩
      rw [V.out] at htr
      have LO := hid (Sh.lost_iff (n := k) htr HV.out)
      clear htr
      go_wp2_with fail
      go_ret3
      refine ⟨some ⟨w'.heap.size, 0, none⟩, Nm.trim os, ret_shr (Nm.trim_length os).symm (by rw [KK.out]; exact LO.out), ⟨O1.out.lies.trim, O3.out.trim, ?_, ?_, ?_⟩, O7.out⟩
      · rw [Nm.trim_trim, Nm.trim_length]
      · rw [Nm.val_trim, O5.out]
      · intro a h
        cases h
        exact Nat.le_refl _
    · obtain ⟨t, rfl⟩ : ∃ t, j = t + 1 := ⟨j - 1, by omega⟩
      have hxo := I.2.2.2.1 t (by omega)
      obtain ⟨x, hxc, X⟩ : ∃ x, wr.cell? ⟨w'.heap.size, t, none⟩ = some (.int .u64 x) ∧ Hid (x = ((Nm.trim zs).drop sk).getD t 0) := ⟨_, I.1.cell t (by have := I.2.1; omega), hxo⟩
      have hfr := I.1.free t
      have hx0 := YY.out.at t
      rw [← X.out] at hx0
      obtain ⟨hx0, hx1⟩ := hx0
      obtain ⟨q, s, sp', u1, u2, u3, us, usp, E1, E2⟩ := Sh.down x (Nm.val (((Nm.trim zs).drop sk).drop (t + 1))) sp r hr63 hx0 hx1 I.2.2.2.2.2.1
      have I2 := I.step YL.out (by omega) X.out us E1.out E2.out
      have htN : (t : Int) < ((N - sk : Nat) : Int) := by omega
      clear I hxo E1 E2 us usp
      go_wp2
      go_roundw
      case rel => exact ⟨t, sp', _, by omega, by go_num, rfl, I2⟩
      case measure => simp [intOf]
end Go.Proofs.YtjkefcikepnbpaaGreatDoor

namespace Go.Proofs.YtjkefcikepnbpaaGreatDoor
open Go.RowKit Go.Deep

theorem blen_trim_eq (zs : List Int) : blen (Nm.trim zs) = blen zs := by
  unfold blen
  rw [Nm.trim_trim]
  by_cases h : Nm.tsize zs = 0
  · rw [if_pos h, if_pos h]
  · rw [if_neg h, if_neg h]
    have e : (Nm.trim zs).getD (Nm.tsize zs - 1) 0 = zs.getD (Nm.tsize zs - 1) 0 := by rw [Nm.trim, Nm.getD_take, if_pos (by omega)]
    rw [e]

theorem pw_4096 : Nm.pw 4096 = 2 ^ 262144 := Nm.pw_two 4096

theorem two_lt {a b : Nat} (h : (2 : Int) ^ a < 2 ^ b) : a < b := by
  rcases Nat.lt_or_ge a b with h1 | h1
  · exact h1
  · have := Nm.two_mono h1
    omega

/-- So many digits as the number times 2^k. -/
theorem BLen.up {v : Int} {L : Nat} (k : Nat) (h : Nm.BLen v L) (hv : 0 < v) : Nm.BLen (v * 2 ^ k) (L + k) := by
  have hp := Nm.two_pos k
  have h1 := h.2.2 hv
  refine ⟨?_, fun h0 => ?_, fun _ => ⟨by omega, ?_⟩⟩
  · rw [Nm.two_add]
    exact Int.mul_lt_mul_of_pos_right h.1 hp
  · rcases Int.mul_eq_zero.1 h0 with h2 | h2 <;> omega
  · rw [show L + k - 1 = L - 1 + k by omega, Nm.two_add]
    exact Int.mul_le_mul_of_nonneg_right h1.2 (by omega)

theorem Trl.up {v : Int} {t : Nat} (k : Nat) (h : Nm.Trl v t) (hv : 0 < v) : Nm.Trl (v * 2 ^ k) (t + k) := by
  rcases h with ⟨h, _⟩ | ⟨m, hm⟩
  · omega
  · right
    exact ⟨m, by rw [hm, Nm.two_add, Int.mul_right_comm]⟩

theorem shl_any (p : Option Addr) (n cap : Nat) (zs : List Int) (kk : Int) (k : Nat) (w : World) (ha : Arg w p n cap zs) (tz : Nm.tsize zs ≤ 4096) (hkk : kk = (k : Int)) (hb : Nm.val zs * 2 ^ k < Nm.pw 4096) :
    Calls Tryz.prog 58 #[.slice p n cap, .int .i64 kk] w fun e w' => ∃ r os, e = .returned (.tuple #[.slice r (List.length os) (List.length os), .int .i64 0]) ∧ Ans w.heap.size w' r os (Nm.val zs * 2 ^ k) ∧ Below w.heap.size w w' := by
  have hv0 := (Nm.val_bd zs ha.2.2.2.2).1
  by_cases hz : Nm.tsize zs = 0
  · have hv := (Nm.tsize_zero_iff ha.2.2.2.2).1 hz
    refine (shl_zero p n cap zs kk w ha (by omega) hz).mono ?_
    rintro e w' ⟨rfl, rfl⟩
    exact ⟨none, [], rfl, ⟨Lies.nil _ _, Nm.Limbs.nil, rfl, by rw [hv, Int.zero_mul]; rfl, fun a h => by cases h⟩, Below.refl _ _⟩
  · obtain ⟨L, hL, BL, _, _⟩ := blen_is zs ha.2.2.2.2
    rw [← blen_trim_eq] at hL
    have hv : 0 < Nm.val zs := by
      rcases (show Nm.val zs = 0 ∨ 0 < Nm.val zs by omega) with h | h
      · exact absurd ((Nm.tsize_zero_iff ha.2.2.2.2).2 h) hz
      · exact h
    have hu := (BLen.up k BL hv).2.2 (Int.mul_pos hv (Nm.two_pos k))
    rw [pw_4096] at hb
    have hlt := two_lt (show (2 : Int) ^ (L + k - 1) < 2 ^ 262144 by omega)
    exact shl_ok p n cap zs kk k L w ha tz hkk (by omega) hL (by omega)

theorem shr_any (p : Option Addr) (n cap : Nat) (zs : List Int) (kk : Int) (k : Nat) (w : World) (ha : Arg w p n cap zs) (hT : Tab w) (tz : Nm.tsize zs ≤ 4096) (hkk : kk = (k : Int)) :
    Calls Tryz.prog 209 #[.slice p n cap, .int .i64 kk] w fun e w' => ∃ r os, e = .returned (.tuple #[.slice r (List.length os) (List.length os), .bool (decide (Nm.val zs % 2 ^ k ≠ 0)), .int .i64 0]) ∧ Ans w.heap.size w' r os (Nm.val zs / 2 ^ k) ∧ Below w.heap.size w w' := by
  obtain ⟨L, hL, BL, hl, _⟩ := blen_is zs ha.2.2.2.2
  have hv0 := (Nm.val_bd zs ha.2.2.2.2).1
  rw [← blen_trim_eq] at hL
  by_cases hb : k < L
  · exact shr_ok p n cap zs kk k L w ha hT tz hkk hL hl hb
  · have hlt : Nm.val zs < 2 ^ k := by
      have := BL.1
      have := Nm.two_mono (show L ≤ k by omega)
      omega
    refine (shr_all p n cap zs kk L w ha tz (by omega) hL (by omega)).mono ?_
    rintro e w' ⟨rfl, rfl⟩
    refine ⟨none, [], ?_, ⟨Lies.nil _ _, Nm.Limbs.nil, rfl, by rw [Int.ediv_eq_zero_of_lt hv0 hlt]; rfl, fun a h => by cases h⟩, Below.refl _ _⟩
    have e : decide (0 < Nm.tsize zs) = decide (Nm.val zs % 2 ^ k ≠ 0) := by
      rw [Int.emod_eq_of_lt hv0 hlt, Bool.eq_iff_iff]
      simp only [decide_eq_true_eq]
      have := Nm.tsize_zero_iff ha.2.2.2.2
      omega
    rw [e]
    rfl
end Go.Proofs.YtjkefcikepnbpaaGreatDoor

/-
  ieee: scaled, roundsUp.
-/
namespace Go.Proofs.YtjkefcikepnbpaaGreatDoor
open Go Go.RowKit Go.Deep

theorem toU_is (p : Option Addr) (n cap : Nat) (zs : List Int) (w : World) (ha : Arg w p n cap zs) (V : Int) (hV : Nm.val zs = V) (h : V < 18446744073709551616) :
    Calls Tryz.prog 150 #[.slice p n cap] w fun e w' => e = .returned (.tuple #[.int .u64 V, .bool true]) ∧ w' = w := by
  have h1 := toUint_any p n cap zs w ha
  rw [toU_val ha.2.2.2.2 (by rw [hV]; exact h), hV] at h1
  have h2 : Nm.tsize zs ≤ 1 := (Nm.tsize_le_iff ha.2.2.2.2 1).2 (by rw [hV]; exact h)
  simpa [h2] using h1

set_option maxRecDepth 100000 in
set_option maxHeartbeats 1000000 in
theorem scaled_up (p : Option Addr) (n cap : Nat) (zs : List Int) (w : World) (ha : Arg w p n cap zs) (V s : Int) (j : Nat) (hV : Nm.val zs = V) (hs : s = (j : Int)) (hj : 0 < j) (hj2 : j ≤ 64) (h : V * 2 ^ j < 18446744073709551616) :
    Calls Tryz.prog 210 #[.slice p n cap, .int .i64 s] w fun e w' => e = .returned (.int .u64 (V * 2 ^ j)) ∧ w' = w := by
  subst hs
  have v0 : 0 ≤ V := by rw [← hV]; exact (Nm.val_bd zs ha.2.2.2.2).1
  have hp := Nm.two_pos j
  have v1 : V < 18446744073709551616 := by
    have : V * 1 ≤ V * 2 ^ j := Int.mul_le_mul_of_nonneg_left (by omega) v0
    omega
  have T := hid (toU_is p n cap zs w ha V hV v1)
  have m0 : 0 ≤ V * 2 ^ j := Int.mul_nonneg v0 (by omega)
  have W : IntKind.u64.wrap (V * 2 ^ j) = V * 2 ^ j := by rw [IntKind.wrap_u64]; omega
  have hj' : (0 : Int) < (j : Int) := by omega
  have hj3 : (j : Int) ≤ 64 := by omega
  clear ha hV hp v1 h m0 hj
  go_enter Tryz.func210, Tryz.ntmps210
  go_wp2_with fail
  refine T.out.mono ?_
  rintro e w' ⟨rfl, rfl⟩
  go_wp2_with fail
  go_ret
  exact ⟨rfl, rfl⟩

set_option maxRecDepth 100000 in
set_option maxHeartbeats 1000000 in
theorem scaled_down (p : Option Addr) (n cap : Nat) (zs : List Int) (w : World) (ha : Arg w p n cap zs) (hT : Tab w) (tz : Nm.tsize zs ≤ 4096) (V s : Int) (k : Nat) (hV : Nm.val zs = V) (hs : s = -(k : Int)) (hk : k ≤ 8000000) (h : V / 2 ^ k < 18446744073709551616) :
    Calls Tryz.prog 210 #[.slice p n cap, .int .i64 s] w fun e w' => e = .returned (.int .u64 (V / 2 ^ k)) ∧ Below w.heap.size w w' := by
  subst hs
  have H := hid (fun (kk : Int) (hkk : kk = (k : Int)) => shr_any p n cap zs kk k w ha hT tz hkk)
  have hk0 : ¬ (0 : Int) < -(k : Int) := by omega
  have hk1 : (k : Int) ≤ 8000000 := by omega
  have HV := hid hV
  have HH := hid h
  clear ha hT tz hV h hk
  go_enter Tryz.func210, Tryz.ntmps210
  go_wp2_with fail
  refine (H.out _ (by omega)).mono ?_
  rintro e w' ⟨r, os, rfl, A, hB⟩
  rw [HV.out] at A
  have A1 : os.length ≤ 17592186044416 := by
    have := (Nm.tsize_le_iff A.2.1 1).2 (by rw [A.2.2.2.1]; exact HH.out)
    rw [A.2.2.1] at this
    omega
  have T := hid (toU_is r _ _ os w' (A.arg A1) _ A.2.2.2.1 HH.out)
  have HB := hid hB
  clear A A1 hB H
  go_wp2_with fail
  refine T.out.mono ?_
  rintro e w'' ⟨rfl, rfl⟩
  go_wp2_with fail
  go_ret
  exact ⟨rfl, HB.out⟩

theorem up_none (p : Option Addr) (n cap : Nat) (w : World) (s : Int) (half : Bool) (hs : s ≤ 0) (hs2 : -8000000 ≤ s) :
    Calls Tryz.prog 211 #[.slice p n cap, .int .i64 s, .bool half] w fun e w' => e = .returned (.bool false) ∧ w' = w := by
  have H := hid (fun (i : Int) (hi : i < 0) => bit_neg p n cap i w hi)
  go_enter Tryz.func211, Tryz.ntmps211
  go_wp2_with fail
  refine (H.out _ (by omega)).mono ?_
  rintro e w' ⟨rfl, rfl⟩
  go_wp2_with fail
  go_ret
  exact ⟨rfl, rfl⟩

set_option maxRecDepth 100000 in
set_option maxHeartbeats 1000000 in
theorem up_some (p : Option Addr) (n cap : Nat) (zs : List Int) (w : World) (ha : Arg w p n cap zs) (hT : Tab w) (V s : Int) (k : Nat) (half : Bool) (hV : Nm.val zs = V) (hv : 0 < V) (hs : s = (k : Int) + 1) (hk : k ≤ 8000000) :
    Calls Tryz.prog 211 #[.slice p n cap, .int .i64 s, .bool half] w fun e w' => ∃ up, e = .returned (.bool up) ∧ (up = true ↔ (V / 2 ^ k % 2 = 1 ∧ (half = true ∨ V % 2 ^ k ≠ 0))) ∧ w' = w := by
  subst hs
  obtain ⟨b, hb⟩ : ∃ b, V / 2 ^ k % 2 = b := ⟨_, rfl⟩
  have H : Hid (∀ i : Int, i = (k : Int) → Calls Tryz.prog 218 #[.slice p n cap, .int .i64 i] w fun e w' => e = .returned (.int .i64 b) ∧ w' = w) := by
    intro i hi
    have := bit_any p n cap zs k i w ha (by omega) hi
    rw [hV, hb] at this
    exact this
  have T := hid (trail_any p n cap zs w ha hT)
  have HV := hid hV
  have hb2 : b = 0 ∨ b = 1 := by omega
  have HB := hid hb
  have hvv := hid hv
  have hk1 : (k : Int) ≤ 8000000 := by omega
  clear ha hT hV hb hv hk
  rcases hb2 with rfl | rfl
  · go_enter Tryz.func211, Tryz.ntmps211
    go_wp2_with fail
    refine (H.out _ (by omega)).mono ?_
    rintro e w' ⟨rfl, rfl⟩
    go_wp2_with fail
    go_ret
    exact ⟨false, rfl, ⟨fun h => (by cases h), fun h => (by have := HB.out; omega)⟩, rfl⟩
  · cases half
    · go_enter Tryz.func211, Tryz.ntmps211
      go_wp2_with fail
      refine (H.out _ (by omega)).mono ?_
      rintro e w' ⟨rfl, rfl⟩
      go_wp2_with fail
      refine T.out.mono ?_
      rintro e w' ⟨t, rfl, ht, rfl⟩
      rw [HV.out] at ht
      have E := hid (Sh.lost_iff (n := k) ht hvv.out)
      clear ht
      go_wp2_with fail
      go_ret
      refine ⟨_, rfl, ?_, rfl⟩
      have E1 : (t : Int) < (k : Int) ↔ V % 2 ^ k ≠ 0 := by simpa only [decide_eq_decide] using E.out
      rw [decide_eq_true_iff]
      constructor
      · intro h
        exact ⟨HB.out, .inr (E1.1 (by omega))⟩
      · rintro ⟨_, h | h⟩
        · cases h
        · have := E1.2 h
          omega
    · go_enter Tryz.func211, Tryz.ntmps211
      go_wp2_with fail
      refine (H.out _ (by omega)).mono ?_
      rintro e w' ⟨rfl, rfl⟩
      go_wp2_with fail
      go_ret
      refine ⟨true, rfl, ?_, rfl⟩
      have := HB.out
      simp [this]
end Go.Proofs.YtjkefcikepnbpaaGreatDoor

namespace Go.Proofs.YtjkefcikepnbpaaGreatDoor
open Go.RowKit Go.Deep

end Go.Proofs.YtjkefcikepnbpaaGreatDoor

/-
  Low, whatever the number of bits.
-/
namespace Go.Proofs.YtjkefcikepnbpaaGreatDoor
open Go.RowKit Go.Deep

end Go.Proofs.YtjkefcikepnbpaaGreatDoor
