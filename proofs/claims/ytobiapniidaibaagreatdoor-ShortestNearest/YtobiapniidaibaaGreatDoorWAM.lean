/-
  Texts put together: QTake, Walk6.
-/
import Derived.Test.YtobiapniidaibaaGreatDoorWAG
import Derived.Test.YtobiapniidaibaaGreatDoorWAC
import Derived.Test.YtobiapniidaibaaGreatDoorDiv1
namespace Go.Proofs.YtobiapniidaibaaGreatDoor
open Go.RowKit Go.Deep

/-- As AddInv; from limb 'top' on the block is as it was, and so is every other block. -/
def PartInv (g k top : Nat) (w : World) (zs : List Int) (T : Int) (j : Nat) (c : Int) (os : List Int) (wr : World) : Prop :=
  AddInv g k w T j c os wr ∧ (∀ i, top ≤ i → os.getD i 0 = zs.getD i 0) ∧ ∀ b, b ≠ g → wr.heap[b]? = w.heap[b]?

theorem PartInv.step {g k top : Nat} {w : World} {zs : List Int} {T : Int} {j : Nat} {c : Int} {os : List Int} {wr : World} (h : PartInv g k top w zs T j c os wr) (hj : j < k) (ht : j < top) {x s c' : Int}
    (hs0 : 0 ≤ s ∧ s < 18446744073709551616) (hs : s + 18446744073709551616 * c' = os.getD j 0 + x + c) :
    PartInv g k top w zs (T + Nm.pw j * x) (j + 1) c' (os.set j s) (wr.setCell ⟨g, j, none⟩ (.int .u64 s)) := by
  obtain ⟨h1, h2, h3⟩ := h
  refine ⟨h1.down hj hs0 hs, fun i hi => ?_, fun b hb => ?_⟩
  · rw [Nm.getD_set _ _ _ _ (by have := h1.2.1; omega), if_neg (by omega)]
    exact h2 i hi
  · rw [← h3 b hb]
    simp only [World.setCell, Array.getElem?_modify]
    rw [if_neg (by omega)]

theorem PartInv.own {g k top : Nat} {w : World} {zs : List Int} {T : Int} {j : Nat} {c : Int} {os : List Int} {wr : World} (h : PartInv g k top w zs T j c os wr) {b : Nat} {xs : List Int} (ho : Own w b xs) (hb : b ≠ g) : Own wr b xs := by
  simp only [Own] at ho ⊢
  rw [h.2.2 b hb]
  exact ho

/-- The limbs of one round of takeTimes. -/
theorem take_step {x m y c p l h s1 k1 s2 b : Int} (hp : l + 18446744073709551616 * h = p) (hl : 0 ≤ l ∧ l < 18446744073709551616) (hh : 0 ≤ h) (hx : 0 ≤ x ∧ x < 18446744073709551616) (hm : 0 ≤ m ∧ m < 18446744073709551616) (hxm : p = x * m)
    (hy : 0 ≤ y ∧ y < 18446744073709551616) (hc : 0 ≤ c ∧ c < 18446744073709551616) (e1 : s1 = (l + c + 0) % 18446744073709551616) (e2 : k1 = (l + c + 0) / 18446744073709551616)
    (hs : 0 ≤ s2 ∧ s2 < 18446744073709551616) (_hb : 0 ≤ b ∧ b ≤ 1) (e3 : s2 + 18446744073709551616 * (-b) = y + (-s1) + (-0)) :
    (0 ≤ h + k1 + b ∧ h + k1 + b < 18446744073709551616) ∧ s2 + 18446744073709551616 * (-(h + k1 + b)) = y + (-(x * m)) + (-c) := by
  have hbd : x * m ≤ 18446744073709551615 * 18446744073709551615 := Int.mul_le_mul (by omega) (by omega) (by omega) (by omega)
  rw [← hxm] at hbd ⊢
  clear hxm
  omega

set_option maxRecDepth 100000 in
set_option maxHeartbeats 1000000 in
theorem takeTimes_any (g k o n n1 cap : Nat) (zs : List Int) (q : Option Addr) (cap' : Nat) (ys : List Int) (m : Int) (w : World) (hk : zs.length = k) (hkm : k ≤ 35184372088832) (ho : Own w g zs) (hl : Nm.Limbs zs)
    (hn : ys.length = n) (hn0 : 0 < n) (hn1 : n < n1) (hon : o + n < k) (hy : Lies w q ys) (hly : Nm.Limbs ys) (hq : ∀ a, q = some a → a.block < g) (hm0 : 0 ≤ m) (hm1 : m < 18446744073709551616) :
    Calls Tryz.prog 160 #[.slice (some ⟨g, o, none⟩) n1 cap, .slice q n cap', .int .u64 m] w fun e w' => ∃ (c : Int) (os : List Int), e = .returned (.int .u64 c) ∧ (0 ≤ c ∧ c ≤ 1) ∧
      Hid (PartInv g k (o + n + 1) w zs (Nm.val zs + Nm.pw o * (-(Nm.val ys * m))) (o + n + 1) (-c) os w') := by
  obtain ⟨b, off, rfl, hbw, HC⟩ := hy.at (by omega)
  have hbg : b < g := hq _ rfl
  have I0 : PartInv g k (o + n + 1) w zs (Nm.val zs + Nm.pw o * (-(Nm.val (ys.take 0) * m))) (o + 0) (-0) zs w := ⟨⟨ho, hk, hl, by simp [Nm.val], Below.refl _ _, rfl⟩, fun _ _ => rfl, fun _ _ => rfl⟩
  have HM : Hid (ys.length = n) := hn
  have HY : Hid (Nm.Limbs ys) := hly
  clear hn hly hq ho hk hl hy
  go_enter Tryz.func160, Tryz.ntmps160
  go_wp2
  go_loopw [7, 19] (fun c i wr => ∃ (j : Nat) (cc : Int) (os : List Int), j ≤ n ∧ i = .int .i64 j ∧ c = .int .u64 cc ∧ (0 ≤ cc ∧ cc < 18446744073709551616) ∧ PartInv g k (o + n + 1) w zs (Nm.val zs + Nm.pw o * (-(Nm.val (ys.take j) * m))) (o + j) (-cc) os wr) (fun _ i _ => n - (intOf i).toNat)
  case atStart => exact ⟨0, 0, zs, Nat.zero_le _, rfl, rfl, by omega, I0⟩
  case round =>
    clear I0
    obtain ⟨j, cc, os, hj, rfl, rfl, ⟨hcc0, hcc1⟩, I⟩ := hrel
    by_cases hlt : j < n
    · obtain ⟨x, hx, X⟩ : ∃ x, wr.cell? ⟨b, off + j, none⟩ = some (.int .u64 x) ∧ Hid (x = ys.getD j 0) :=
        ⟨_, (I.1.2.2.2.2.1.cell (p := ⟨b, off + j, none⟩) hbg).trans (HC.out j (by have := HM.out; omega)), rfl⟩
      obtain ⟨y, hyc, Y⟩ : ∃ y, wr.cell? ⟨g, o + j, none⟩ = some (.int .u64 y) ∧ Hid (y = os.getD (o + j) 0) := ⟨_, I.1.1.cell (o + j) (by have := I.1.2.1; omega), rfl⟩
      have hfr := I.1.1.free (o + j)
      have hx0 : 0 ≤ x ∧ x < 18446744073709551616 := by have := HY.out.at j; have := X.out; omega
      have hy0 : 0 ≤ y ∧ y < 18446744073709551616 := by have := I.1.2.2.1.at (o + j); have := Y.out; omega
      obtain ⟨hx0, hx1⟩ := hx0
      obtain ⟨hy0, hy1⟩ := hy0
      have hjn1 : (j : Int) < (n1 : Int) := by omega
      go_wp2_with fail
      refine (mul64 x m hx0 hx1 hm0 hm1 _).mono ?_
      rintro e w' ⟨h, l, rfl, ⟨hh0, hh1, hl0, hl1⟩, P1, _, rfl⟩
      obtain ⟨s1, S1⟩ : ∃ s, Hid (s = (l + cc + 0) % 18446744073709551616) := ⟨_, rfl⟩
      obtain ⟨k1, K1⟩ : ∃ c, Hid (c = (l + cc + 0) / 18446744073709551616) := ⟨_, rfl⟩
      have hs1 : 0 ≤ s1 := by have := S1.out; omega
      have hs2 : s1 < 18446744073709551616 := by have := S1.out; omega
      obtain ⟨s2, b2, ⟨t0, t1⟩, ⟨t2, t3⟩, S2⟩ := sub_names y s1 0 hy0 hy1 hs1 hs2 (Int.le_refl 0) (by decide)
      have ST := hid (take_step P1.out ⟨hl0, hl1⟩ hh0 ⟨hx0, hx1⟩ ⟨hm0, hm1⟩ rfl ⟨hy0, hy1⟩ ⟨hcc0, hcc1⟩ S1.out K1.out ⟨t0, t1⟩ ⟨t2, t3⟩ S2.out)
      have hk1 : 0 ≤ k1 := by have := K1.out; omega
      have hkk : h + k1 + b2 < 18446744073709551616 := ST.out.1.2
      go_wp2_with (first | simp only [add64' l cc 0 s1 k1 hl0 hcc0 (Int.le_refl 0) (by decide) S1.out K1.out] | simp only [sub64' y s1 0 s2 b2 hy0 hy1 hs1 hs2 (Int.le_refl 0) (by decide) ⟨t0, t1⟩ ⟨t2, t3⟩ S2.out])
      go_roundw
      case rel =>
        have hst := I.step (by omega) (by omega) (x := -(x * m)) (s := s2) (c' := -(h + k1 + b2)) ⟨t0, t1⟩ (by rw [← Y.out]; exact ST.out.2)
        refine ⟨j + 1, h + k1 + b2, os.set (o + j) s2, by omega, by go_num, rfl, ST.out.1, ?_⟩
        have e : Nm.val zs + Nm.pw o * (-(Nm.val (ys.take (j + 1)) * m)) = Nm.val zs + Nm.pw o * (-(Nm.val (ys.take j) * m)) + Nm.pw (o + j) * (-(x * m)) := by
          rw [Nm.val_take_succ ys j (by have := HM.out; omega), ← X.out, Nm.pw_add, Int.add_mul, Int.mul_neg, Int.mul_neg, Int.mul_neg, Int.mul_add, Int.mul_assoc, Int.mul_assoc]
          omega
        rw [e]
        exact hst
      case measure => simp [intOf]; omega
    · have hjn : j = n := by omega
      subst hjn
      rw [List.take_of_length_le (by have := HM.out; omega)] at I
      obtain ⟨y, hyc, Y⟩ : ∃ y, wr.cell? ⟨g, o + j, none⟩ = some (.int .u64 y) ∧ Hid (y = os.getD (o + j) 0) := ⟨_, I.1.1.cell (o + j) (by have := I.1.2.1; omega), rfl⟩
      have hfr := I.1.1.free (o + j)
      have hy0 : 0 ≤ y ∧ y < 18446744073709551616 := by have := I.1.2.2.1.at (o + j); have := Y.out; omega
      obtain ⟨hy0, hy1⟩ := hy0
      obtain ⟨s2, b2, ⟨t0, t1⟩, ⟨t2, t3⟩, S2⟩ := sub_names y cc 0 hy0 hy1 hcc0 hcc1 (Int.le_refl 0) (by decide)
      have hst := I.step (by omega) (by omega) (x := 0) (s := s2) (c' := -b2) ⟨t0, t1⟩ (by rw [← Y.out]; have := S2.out; omega)
      rw [Int.mul_zero, Int.add_zero] at hst
      have HS := hid hst
      clear hst I
      go_wp2_with (simp only [sub64' y cc 0 s2 b2 hy0 hy1 hcc0 hcc1 (Int.le_refl 0) (by decide) ⟨t0, t1⟩ ⟨t2, t3⟩ S2.out])
      go_ret
      exact ⟨b2, os.set (o + j) s2, rfl, ⟨t2, t3⟩, HS.out⟩

set_option maxRecDepth 100000 in
set_option maxHeartbeats 1000000 in
theorem giveBack_any (g k o n n1 cap : Nat) (zs : List Int) (q : Option Addr) (cap' : Nat) (ys : List Int) (w : World) (hk : zs.length = k) (hkm : k ≤ 35184372088832) (ho : Own w g zs) (hl : Nm.Limbs zs)
    (hn : ys.length = n) (hn0 : 0 < n) (hn1 : n < n1) (hon : o + n < k) (hy : Lies w q ys) (hly : Nm.Limbs ys) (hq : ∀ a, q = some a → a.block < g) :
    Calls Tryz.prog 161 #[.slice (some ⟨g, o, none⟩) n1 cap, .slice q n cap'] w fun e w' => ∃ (c : Int) (os : List Int), e = .returned (.int .u64 c) ∧ (0 ≤ c ∧ c ≤ 1) ∧
      Hid (PartInv g k (o + n + 1) w zs (Nm.val zs + Nm.pw o * Nm.val ys) (o + n + 1) c os w') := by
  obtain ⟨b, off, rfl, hbw, HC⟩ := hy.at (by omega)
  have hbg : b < g := hq _ rfl
  have I0 : PartInv g k (o + n + 1) w zs (Nm.val zs + Nm.pw o * Nm.val (ys.take 0)) (o + 0) 0 zs w := ⟨⟨ho, hk, hl, by simp [Nm.val], Below.refl _ _, rfl⟩, fun _ _ => rfl, fun _ _ => rfl⟩
  have HM : Hid (ys.length = n) := hn
  have HY : Hid (Nm.Limbs ys) := hly
  clear hn hly hq ho hk hl hy
  go_enter Tryz.func161, Tryz.ntmps161
  go_wp2
  go_loopw [5, 10] (fun c i wr => ∃ (j : Nat) (cc : Int) (os : List Int), j ≤ n ∧ i = .int .i64 j ∧ c = .int .u64 cc ∧ (0 ≤ cc ∧ cc ≤ 1) ∧ PartInv g k (o + n + 1) w zs (Nm.val zs + Nm.pw o * Nm.val (ys.take j)) (o + j) cc os wr) (fun _ i _ => n - (intOf i).toNat)
  case atStart => exact ⟨0, 0, zs, Nat.zero_le _, rfl, rfl, by omega, I0⟩
  case round =>
    clear I0
    obtain ⟨j, cc, os, hj, rfl, rfl, ⟨hcc0, hcc1⟩, I⟩ := hrel
    by_cases hlt : j < n
    · obtain ⟨x, hx, X⟩ : ∃ x, wr.cell? ⟨b, off + j, none⟩ = some (.int .u64 x) ∧ Hid (x = ys.getD j 0) :=
        ⟨_, (I.1.2.2.2.2.1.cell (p := ⟨b, off + j, none⟩) hbg).trans (HC.out j (by have := HM.out; omega)), rfl⟩
      obtain ⟨y, hyc, Y⟩ : ∃ y, wr.cell? ⟨g, o + j, none⟩ = some (.int .u64 y) ∧ Hid (y = os.getD (o + j) 0) := ⟨_, I.1.1.cell (o + j) (by have := I.1.2.1; omega), rfl⟩
      have hfr := I.1.1.free (o + j)
      have hx0 : 0 ≤ x ∧ x < 18446744073709551616 := by have := HY.out.at j; have := X.out; omega
      have hy0 : 0 ≤ y ∧ y < 18446744073709551616 := by have := I.1.2.2.1.at (o + j); have := Y.out; omega
      obtain ⟨hx0, hx1⟩ := hx0
      obtain ⟨hy0, hy1⟩ := hy0
      have hjn1 : (j : Int) < (n1 : Int) := by omega
      obtain ⟨s, S⟩ : ∃ s, Hid (s = (y + x + cc) % 18446744073709551616) := ⟨_, rfl⟩
      obtain ⟨c', C⟩ : ∃ c', Hid (c' = (y + x + cc) / 18446744073709551616) := ⟨_, rfl⟩
      have hs0 : 0 ≤ s ∧ s < 18446744073709551616 := by have := S.out; omega
      have hc0 : 0 ≤ c' ∧ c' ≤ 1 := by have := C.out; omega
      have SE : Hid (s + 18446744073709551616 * c' = y + x + cc) := by show _ = _; have := S.out; have := C.out; omega
      go_wp2_with (simp only [add64' y x cc s c' hy0 hx0 hcc0 hcc1 S.out C.out])
      go_roundw
      case rel =>
        have hst := I.step (by omega) (by omega) (x := x) (s := s) (c' := c') hs0 (by rw [← Y.out]; exact SE.out)
        refine ⟨j + 1, c', os.set (o + j) s, by omega, by go_num, rfl, hc0, ?_⟩
        have e : Nm.val zs + Nm.pw o * Nm.val (ys.take (j + 1)) = Nm.val zs + Nm.pw o * Nm.val (ys.take j) + Nm.pw (o + j) * x := by
          rw [Nm.val_take_succ ys j (by have := HM.out; omega), ← X.out, Nm.pw_add, Int.mul_add, Int.mul_assoc]
          omega
        rw [e]
        exact hst
      case measure => simp [intOf]; omega
    · have hjn : j = n := by omega
      subst hjn
      rw [List.take_of_length_le (by have := HM.out; omega)] at I
      obtain ⟨y, hyc, Y⟩ : ∃ y, wr.cell? ⟨g, o + j, none⟩ = some (.int .u64 y) ∧ Hid (y = os.getD (o + j) 0) := ⟨_, I.1.1.cell (o + j) (by have := I.1.2.1; omega), rfl⟩
      have hfr := I.1.1.free (o + j)
      have hy0 : 0 ≤ y ∧ y < 18446744073709551616 := by have := I.1.2.2.1.at (o + j); have := Y.out; omega
      obtain ⟨hy0, hy1⟩ := hy0
      obtain ⟨s, S⟩ : ∃ s, Hid (s = (y + 0 + cc) % 18446744073709551616) := ⟨_, rfl⟩
      obtain ⟨c', C⟩ : ∃ c', Hid (c' = (y + 0 + cc) / 18446744073709551616) := ⟨_, rfl⟩
      have hs0 : 0 ≤ s ∧ s < 18446744073709551616 := by have := S.out; omega
      have hc0 : 0 ≤ c' ∧ c' ≤ 1 := by have := C.out; omega
      have hst := I.step (by omega) (by omega) (x := 0) (s := s) (c' := c') hs0 (by rw [← Y.out]; have := S.out; have := C.out; omega)
      rw [Int.mul_zero, Int.add_zero] at hst
      have HS := hid hst
      clear hst I
      go_wp2_with (simp only [add64' y 0 cc s c' hy0 (Int.le_refl 0) hcc0 hcc1 S.out C.out])
      go_ret
      exact ⟨c', os.set (o + j) s, rfl, hc0, HS.out⟩
end Go.Proofs.YtobiapniidaibaaGreatDoor

namespace Go.Proofs.YtobiapniidaibaaGreatDoor
open Go.RowKit Go.Deep

theorem ret_div {p : Option Addr} {a b : Nat} {r : Int} (h : a = b) : Ending.returned (.tuple #[.slice p a a, .int .u64 r, .int .i64 0]) = .returned (.tuple #[.slice p b b, .int .u64 r, .int .i64 0]) := by rw [h]

/-- Behind the limbs from k on: quotient digits are in, below k the block is 0. -/
def DivInv (g n : Nat) (w : World) (xs : List Int) (d : Int) (k : Nat) (r : Int) (os : List Int) (wr : World) : Prop :=
  Own wr g os ∧ os.length = n ∧ Nm.Limbs os ∧ Nm.val os * d + Nm.pw k * r + Nm.val (xs.take k) = Nm.val xs ∧ (∀ i, i < k → os.getD i 0 = 0) ∧ (0 ≤ r ∧ r < d) ∧ Below g w wr

theorem DivInv.step {g n : Nat} {w : World} {xs : List Int} {d : Int} {t : Nat} {r : Int} {os : List Int} {wr w' : World} (h : DivInv g n w xs d (t + 1) r os wr) (hx : t < xs.length) (ht : t < n) (hb : Below wr.heap.size wr w') {q r' x : Int}
    (hxe : x = xs.getD t 0) (hq : q * d + r' = r * 18446744073709551616 + x) (hq0 : 0 ≤ q ∧ q < 18446744073709551616) (hr : 0 ≤ r' ∧ r' < d) :
    DivInv g n w xs d t r' (os.set t q) (w'.setCell ⟨g, t, none⟩ (.int .u64 q)) := by
  obtain ⟨h1, h2, h3, h4, h5, h6, h7⟩ := h
  have hlt := h1.lt
  refine ⟨(h1.below hb hlt).set t q, by simpa using h2, h3.set t hq0.1 hq0.2, ?_, ?_, hr, ?_⟩
  · rw [Nm.val_set _ _ _ (by omega), h5 t (by omega), Int.sub_zero, Int.add_mul, Int.mul_assoc]
    rw [Nm.val_take_succ xs t hx, ← hxe, Nm.pw_succ] at h4
    have e : Nm.pw t * (q * d + r') = Nm.pw t * (r * 18446744073709551616 + x) := by rw [hq]
    rw [Int.mul_add, Int.mul_add] at e
    have e2 : 18446744073709551616 * Nm.pw t * r = Nm.pw t * (r * 18446744073709551616) := by rw [Int.mul_assoc, Int.mul_left_comm, Int.mul_comm 18446744073709551616 r]
    omega
  · intro i hi
    rw [Nm.getD_set _ _ _ _ (by omega), if_neg (by omega)]
    exact h5 i (by omega)
  · exact h7.trans ((hb.mono (Nat.le_of_lt hlt)).setCell (p := ⟨g, t, none⟩) (Nat.le_refl _) _)

set_option maxRecDepth 100000 in
set_option maxHeartbeats 1000000 in
theorem divSmall_ok (p : Option Addr) (n cap : Nat) (zs : List Int) (d : Int) (w : World) (ha : Arg w p n cap zs) (tz : Nm.tsize zs ≤ 4096) (hd0 : 0 < d) (hd1 : d < 18446744073709551616) :
    Calls Tryz.prog 152 #[.slice p n cap, .int .u64 d] w fun e w' =>
      ∃ r os rest, e = .returned (.tuple #[.slice r (List.length os) (List.length os), .int .u64 rest, .int .i64 0]) ∧ Ans w.heap.size w' r os (Nm.val os) ∧ (0 ≤ rest ∧ rest < d) ∧ Hid (Nm.val os * d + rest = Nm.val zs) ∧ Below w.heap.size w w' := by
  obtain ⟨a1, a2, a3, a4, a5⟩ := ha
  obtain ⟨N, HN⟩ : ∃ N, Hid (Nm.tsize zs = N) := ⟨_, rfl⟩
  have T1 := limited_ok p n cap zs w a1 a2 (by omega) a4 tz
  rw [HN.out] at T1
  have hN : N ≤ 4096 := by rw [← HN.out]; exact tz
  have L1 := hid ((Nm.trim_length zs).trans HN.out)
  have hmk := make64 N (by omega) w
  have ho : Own (w.alloc (.cells (madeCells #[.int .u64 0] N) 22)) w.heap.size (List.replicate N 0) := by
    rw [made_zero]; exact Own.alloc w _
  have hb0 : Below w.heap.size w (w.alloc (.cells (madeCells #[.int .u64 0] N) 22)) := (Below.refl _ _).alloc (Nat.le_refl _) _
  obtain ⟨W0, hW0⟩ : ∃ W0, w.alloc (.cells (madeCells #[.int .u64 0] N) 22) = W0 := ⟨_, rfl⟩
  have HB0 : Hid (Below w.heap.size w W0) := by rw [← hW0]; exact hb0
  have I0 : DivInv w.heap.size N w (Nm.trim zs) d N 0 (List.replicate N 0) W0 := by
    rw [← hW0]
    exact ⟨ho, by simp, Nm.Limbs.replicate _, by rw [Nm.val_replicate, Int.zero_mul, Int.mul_zero, List.take_of_length_le (by rw [L1.out]; omega)]; omega, fun i _ => getD_replicate _ _, ⟨by omega, hd0⟩, hb0⟩
  have hd : (d == 0) = false := by rw [beq_eq_false_iff_ne]; omega
  have A5 := hid a5.trim
  have A4 := hid a4.trim
  have V := hid (Nm.val_trim zs)
  have HT := hid T1
  clear T1 tz ho hb0 a4 a5
  rw [hW0] at hmk
  clear hW0
  have fin : ∀ (os : List Int) (r : Int) (wr : World), DivInv w.heap.size N w (Nm.trim zs) d 0 r os wr →
      Ans w.heap.size wr (some ⟨w.heap.size, 0, none⟩) (Nm.trim os) (Nm.val (Nm.trim os)) ∧ (0 ≤ r ∧ r < d) ∧ Hid (Nm.val (Nm.trim os) * d + r = Nm.val zs) ∧ Below w.heap.size w wr ∧ (Nm.trim os).length = Nm.tsize os := by
    intro os r wr I
    obtain ⟨i1, i2, i3, i4, i5, i6, i7⟩ := I
    refine ⟨⟨i1.lies.trim, i3.trim, by rw [Nm.trim_trim, Nm.trim_length], rfl, fun a h => by cases h; exact Nat.le_refl _⟩, i6, ?_, i7, Nm.trim_length os⟩
    show _ = _
    rw [Nm.val_trim, ← V.out, ← i4]
    simp [Nm.pw, Nm.val]
  have FIN := hid fin
  clear fin
  by_cases h0 : N = 0
  · subst h0
    have hmk1 : (Instr.makeSlice 75 (.int .i64 0) (.int .i64 0)).run Tryz.prog w = .ok (.slice (some ⟨w.heap.size, 0, none⟩) 0 0) W0 := hmk
    clear hmk
    go_enter Tryz.func152, Tryz.ntmps152
    go_wp2_with fail
    refine HT.out.mono ?_
    rintro e w' ⟨rfl, rfl⟩
    go_wp2_with fail
    refine wp_loop_rounds 1 ?_
    rw [rounds_succ]
    go_wp2_with fail
    refine (trimmed_any (some ⟨w'.heap.size, 0, none⟩) 0 0 (List.replicate 0 0) _ rfl (Nat.le_refl _) (by omega) (Lies.nil _ _)).mono ?_
    rintro e w3 ⟨rfl, rfl⟩
    have F := FIN.out _ _ _ I0
    have HF := hid F
    clear F I0
    go_wp2_with fail
    go_ret3
    exact ⟨_, _, _, rfl, HF.out.1, HF.out.2.1, HF.out.2.2.1, HF.out.2.2.2.1⟩
  · obtain ⟨b, off, rfl, hbw, HC⟩ := A4.out.at (by rw [L1.out]; omega)
    go_enter Tryz.func152, Tryz.ntmps152
    go_wp2_with fail
    refine HT.out.mono ?_
    rintro e w' ⟨rfl, rfl⟩
    go_wp2_with fail
    go_loopw [9, 10] (fun a i wr => ∃ (j : Nat) (rr : Int) (os : List Int), j ≤ N ∧ i = .int .i64 ((j : Int) - 1) ∧ a = .int .u64 rr ∧ DivInv w'.heap.size N w' (Nm.trim zs) d j rr os wr) (fun _ i _ => (intOf i + 1).toNat)
    case atStart => exact ⟨N, 0, _, Nat.le_refl _, rfl, rfl, I0⟩
    case round =>
      clear I0 hmk
      obtain ⟨j, rr, os, hj, rfl, rfl, I⟩ := hrel
      by_cases hj0 : j = 0
      · subst hj0
        have F := FIN.out _ _ _ I
        have HF := hid F
        have TR := hid (trimmed_any (some ⟨w'.heap.size, 0, none⟩) N N os wr I.2.1 (Nat.le_refl _) (by omega) I.1.lies)
        clear F I
        go_wp2_with fail
        refine TR.out.mono ?_
        rintro e w3 ⟨rfl, rfl⟩
        go_wp2_with fail
        go_ret3
        exact ⟨some ⟨w'.heap.size, 0, none⟩, Nm.trim os, rr, ret_div HF.out.2.2.2.2.symm, HF.out.1, HF.out.2.1, HF.out.2.2.1, HF.out.2.2.2.1⟩
      · obtain ⟨t, rfl⟩ : ∃ t, j = t + 1 := ⟨j - 1, by omega⟩
        obtain ⟨x, hx, X⟩ : ∃ x, wr.cell? ⟨b, off + t, none⟩ = some (.int .u64 x) ∧ Hid (x = (Nm.trim zs).getD t 0) := ⟨_, (I.2.2.2.2.2.2.cell (p := ⟨b, off + t, none⟩) hbw).trans (HC.out t (by rw [L1.out]; omega)), rfl⟩
        have hx0 := A5.out.at t
        rw [← X.out] at hx0
        obtain ⟨hx0, hx1⟩ := hx0
        obtain ⟨hr0, hr1⟩ := I.2.2.2.2.2.1
        have htN : (t : Int) < (N : Int) := by omega
        go_wp2_with fail
        refine (div64 rr x d _ hr0 hr1 hx0 hx1 hd1).mono ?_
        rintro e w2 ⟨q, r', rfl, ⟨q0, q1, s0, s1⟩, E, hb⟩
        have I2 := I.step (by rw [L1.out]; omega) (by omega) hb X.out E.out ⟨q0, q1⟩ ⟨s0, s1⟩
        have ho2 := I.1.below hb I.1.lt
        obtain ⟨y, hyc⟩ : ∃ y, w2.cell? ⟨w'.heap.size, t, none⟩ = some (.int .u64 y) := ⟨_, ho2.cell t (by have := I.2.1; omega)⟩
        have hfr := ho2.free t
        clear I hx hb ho2
        go_wp2
        go_roundw
        case rel => exact ⟨t, r', _, by omega, by go_num, rfl, I2⟩
        case measure => simp [intOf]

end Go.Proofs.YtobiapniidaibaaGreatDoor
