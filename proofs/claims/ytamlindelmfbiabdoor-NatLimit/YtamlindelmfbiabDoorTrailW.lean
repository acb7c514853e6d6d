/-
  math/bits.TrailingZeros64, Trail, Bit, AND WHAT BitLen TELLS.
-/
import Derived.Test.YtamlindelmfbiabDoorBitLenW
import Derived.Test.YtamlindelmfbiabDoorBitNum
import Derived.Test.YtamlindelmfbiabDoorSmall
import Derived.Shelf.Spec.TrailingZeros
import Derived.Laws.Bits64b
import Derived.Lib.ItoaNum
namespace Go.Proofs.YtamlindelmfbiabDoor
open Go.RowKit Go.Deep

/-- The kit's contract for TrailingZeros64, laid at this program. -/
def tzRen : Go.Shelf.Ren := ⟨fun _ => 25, fun t => if t = 22 then 36 else if t = 25 then 41 else if t = 54 then 52 else if t = 5 then 5 else if t = 4 then 4 else if t = 0 then 0 else 3, fun _ => 0⟩
theorem tzLays : Lays7.n29 Tryd.prog tzRen where
  mixed := by kernel_rfl
  f29 := by kernel_rfl
  t0 := by kernel_rfl
  a0 := fun _ => by kernel_rfl
  z0 := fun _ => by kernel_rfl
  v0 := fun _ => by kernel_rfl
  i0 := by kernel_rfl
  t3 := by kernel_rfl
  a3 := fun _ => by kernel_rfl
  z3 := fun _ => by kernel_rfl
  v3 := fun _ => by kernel_rfl
  i3 := by kernel_rfl
  t4 := by kernel_rfl
  a4 := fun _ => by kernel_rfl
  z4 := fun _ => by kernel_rfl
  v4 := fun _ => by kernel_rfl
  i4 := by kernel_rfl
  t5 := by kernel_rfl
  a5 := fun _ => by kernel_rfl
  z5 := fun _ => by kernel_rfl
  v5 := fun _ => by kernel_rfl
  i5 := by kernel_rfl
  t22 := by kernel_rfl
  a22 := fun _ => by kernel_rfl
  z22 := fun _ => by kernel_rfl
  v22 := fun _ => by kernel_rfl
  i22 := by kernel_rfl
  t25 := by kernel_rfl
  a25 := fun _ => by kernel_rfl
  z25 := fun _ => by kernel_rfl
  v25 := fun _ => by kernel_rfl
  i25 := by kernel_rfl
  t54 := by kernel_rfl
  a54 := fun _ => by kernel_rfl
  z54 := fun _ => by kernel_rfl
  g1 := by kernel_rfl

/-- The table that TrailingZeros64 reads. -/
def Tab (w : World) : Prop := TabAt 0 Lib.deBruijn64tab w

theorem Tab.below {w w' : World} (h : Tab w) (hb : Below w.heap.size w w') : Tab w' := by
  intro j hj
  have hc := h j hj
  rw [hb.cell (p := ⟨0, j, none⟩) (cell_lt hc)]
  exact hc

theorem tz64 (x : Int) (w : World) (h0 : 0 < x) (h1 : x < 18446744073709551616) (hT : Tab w) :
    Calls Tryd.prog 25 #[.int .u64 x] w fun e w' => ∃ (t : Nat) (m : Int), e = .returned (.int .i64 t) ∧ t ≤ 63 ∧ Hid (x = 2 ^ t * (2 * m + 1)) ∧ w' = w := by
  obtain ⟨n, rfl⟩ := Int.eq_ofNat_of_zero_le (show 0 ≤ x by omega)
  refine (Any7.bits_TrailingZeros64 tzLays n (by omega) w (fun _ => hT)).mono ?_
  rintro e w' ⟨rfl, rfl⟩
  obtain ⟨m, hm, hlt⟩ := Lib.ctzFrom_spec 64 n (by omega) (by simpa using (show n < 18446744073709551616 by omega))
  refine ⟨Lib.ctzFrom 64 n, m, by rw [Lib.ctz, if_neg (by omega)], by omega, ?_, rfl⟩
  show (n : Int) = _
  have e : ((2 ^ Lib.ctzFrom 64 n * (2 * m + 1) : Nat) : Int) = 2 ^ Lib.ctzFrom 64 n * (2 * (m : Int) + 1) := by simp
  rw [← e, ← hm]

set_option maxHeartbeats 1000000 in
theorem trail_any (p : Option Addr) (n cap : Nat) (zs : List Int) (w : World) (ha : Arg w p n cap zs) (hT : Tab w) :
    Calls Tryd.prog 12 #[.slice p n cap] w fun e w' => ∃ t : Nat, e = .returned (.int .i64 t) ∧ Nm.Trl (Nm.val zs) t ∧ w' = w := by
  obtain ⟨a1, a2, a3, a4, a5⟩ := ha
  rcases a4 with rfl | ⟨b, off, rfl, hcell⟩
  · have hn0 : n = 0 := by simpa using a1.symm
    subst hn0
    go_enter Tryd.func12, Tryd.ntmps12
    go_wp2
    refine wp_loop_rounds 1 ?_
    rw [rounds_succ]
    go_wp2
    go_ret
    exact ⟨0, rfl, .inl ⟨rfl, rfl⟩, rfl⟩
  · have H := hid a1
    have HC := hid hcell
    have HT := hid hT
    clear a1 hcell hT
    go_enter Tryd.func12, Tryd.ntmps12
    go_wp2
    go_loop [7] (fun t => ∃ k : Nat, k ≤ n ∧ t = .int .i64 k ∧ Hid (∀ j, j < k → zs.getD j 0 = 0)) (fun t => n - (intOf t).toNat)
    case atStart => exact ⟨0, Nat.zero_le _, rfl, fun j hj => by omega⟩
    case round =>
      obtain ⟨k, hk, rfl, hz⟩ := hrel
      by_cases hlt : k < n
      · obtain ⟨x, hx, X⟩ : ∃ x, w.cell? ⟨b, off + k, none⟩ = some (.int .u64 x) ∧ Hid (x = zs.getD k 0) := ⟨_, HC.out k (by have := H.out; omega), rfl⟩
        by_cases hx0 : x = 0
        · have hx0' : (x != 0) = false := by simp [hx0]
          have X0 := hid hx0
          clear hx0
          go_wp2
          go_round
          case rel =>
            refine ⟨k + 1, by omega, by go_num, fun i hi => ?_⟩
            by_cases e : i = k
            · subst e; rw [← X.out]; exact X0.out
            · exact hz.out i (by omega)
          case measure => simp [intOf]; omega
        · have hx0' : (x != 0) = true := by simp [hx0]
          have hxb := a5.at k
          rw [← X.out] at hxb
          have hx1 : 0 < x := by omega
          obtain ⟨hxa, hxb⟩ := hxb
          go_wp2_with fail
          refine (tz64 x _ hx1 hxb HT.out).mono ?_
          rintro e w' ⟨t, m, rfl, ht, E, rfl⟩
          go_wp2_with fail
          go_ret
          refine ⟨64 * k + t, retI (by omega), Nm.trl_at zs k t m (by have := H.out; omega) hz.out (by rw [← X.out]; exact E.out) ht, rfl⟩
      · have E : Hid (Nm.val zs = 0) := by
          have h0 : Nm.tsize zs = 0 := Nm.tsize_unique zs 0 (fun j _ => by
            by_cases hj : j < k
            · exact hz.out j hj
            · simp [List.getD, List.getElem?_eq_none (show zs.length ≤ j by have := H.out; omega)]) (.inl rfl)
          exact (Nm.tsize_zero_iff a5).1 h0
        go_wp2
        go_ret
        exact ⟨0, rfl, .inl ⟨E.out, rfl⟩, rfl⟩

theorem one_bit (x : Int) (h0 : 0 ≤ x) (h1 : x < 18446744073709551616) : bits .and .u64 x 1 = x % 2 := by
  obtain ⟨n, rfl⟩ := Int.eq_ofNat_of_zero_le h0
  have h := bits_and_u64_nat n 1 (by omega) (by omega)
  have e : n &&& 1 = n % 2 := Nat.and_two_pow_sub_one_eq_mod n 1
  rw [e] at h
  rw [show (1 : Int) = ((1 : Nat) : Int) from rfl, h]
  omega

set_option maxRecDepth 100000 in
set_option maxHeartbeats 1000000 in
/-- One binary digit. -/
theorem bit_any (p : Option Addr) (n cap : Nat) (zs : List Int) (i : Nat) (ii : Int) (w : World) (ha : Arg w p n cap zs) (hi : ii ≤ 9223372036854775807) (hii : ii = (i : Int)) :
    Calls Tryd.prog 16 #[.slice p n cap, .int .i64 ii] w fun e w' => e = .returned (.int .i64 (Nm.val zs / 2 ^ i % 2)) ∧ w' = w := by
  obtain ⟨a1, a2, a3, a4, a5⟩ := ha
  have hi0 : 0 ≤ ii := by omega
  by_cases hk : n ≤ i / 64
  · have E : Hid (Nm.val zs / 2 ^ i % 2 = 0) := by
      have h1 := Nm.val_bd zs a5
      have h2 : Nm.pw zs.length ≤ 2 ^ i := by rw [Nm.pw_two]; exact Nm.two_mono (by omega)
      show _ = _
      rw [Int.ediv_eq_zero_of_lt h1.1 (by omega)]
      rfl
    have hk' : (n : Int) ≤ ii / 64 := by omega
    clear a1 a4 a5 hii hk
    go_enter Tryd.func16, Tryd.ntmps16
    go_wp2
    go_ret
    exact ⟨retI E.out.symm, rfl⟩
  · obtain ⟨k, hke⟩ : ∃ k, i / 64 = k := ⟨_, rfl⟩
    obtain ⟨r, hre⟩ : ∃ r, i % 64 = r := ⟨_, rfl⟩
    have hir : i = 64 * k + r := by omega
    have E := hid (Nm.bit_at zs i k r hir (by omega) a5 (by omega))
    obtain ⟨b, off, rfl, hc⟩ : ∃ b off, p = some ⟨b, off, none⟩ ∧ w.cell? ⟨b, off + k, none⟩ = some (.int .u64 (zs.getD k 0)) := by
      rcases a4 with h | ⟨b, off, hp, h⟩
      · rw [h] at a1
        simp at a1
        omega
      · exact ⟨b, off, hp, h k (by omega)⟩
    obtain ⟨x, X⟩ : ∃ x, Hid (x = zs.getD k 0) := ⟨_, rfl⟩
    rw [← X.out] at hc E
    have hx := a5.at k
    rw [← X.out] at hx
    obtain ⟨hx0, hx1⟩ := hx
    have q0 : 0 ≤ x / 2 ^ r := Int.ediv_nonneg hx0 (by have := Nm.two_pos r; omega)
    have q1 : x / 2 ^ r < 18446744073709551616 := by
      have : x / 2 ^ r ≤ x := Int.ediv_le_self _ hx0
      omega
    obtain ⟨y, hy⟩ : ∃ y, x / 2 ^ r = y := ⟨_, rfl⟩
    rw [hy] at q0 q1 E
    have hb := one_bit y q0 q1
    have h64 : ii / 64 = (k : Int) := by omega
    have h65 : ii % 64 = (r : Int) := by omega
    have hkn : (k : Int) < (n : Int) := by omega
    have hr63 : r ≤ 63 := by omega
    have y2 : 0 ≤ y % 2 := by omega
    have y3 : y % 2 ≤ 1 := by omega
    clear hir hke hre hk a1 a4 a5 X hii
    go_enter Tryd.func16, Tryd.ntmps16
    go_wp2
    go_ret
    exact ⟨retI E.out.symm, rfl⟩

theorem bit_neg (p : Option Addr) (n cap : Nat) (i : Int) (w : World) (hi : i < 0) :
    Calls Tryd.prog 16 #[.slice p n cap, .int .i64 i] w fun e w' => e = .returned (.int .i64 0) ∧ w' = w := by
  go_enter Tryd.func16, Tryd.ntmps16
  go_wp2
  go_ret
  exact ⟨rfl, rfl⟩

/-- What BitLen tells. -/
theorem blen_is (zs : List Int) (hz : Nm.Limbs zs) : ∃ L : Nat, blen zs = (L : Int) ∧ Nm.BLen (Nm.val zs) L ∧ L ≤ 64 * Nm.tsize zs ∧ (0 < Nm.tsize zs → 64 * Nm.tsize zs < L + 64) := by
  by_cases h0 : Nm.tsize zs = 0
  · have hv := (Nm.tsize_zero_iff hz).1 h0
    exact ⟨0, by rw [blen, if_pos h0]; rfl, ⟨by rw [hv]; decide, fun _ => rfl, fun h => by omega⟩, by omega, fun h => by omega⟩
  · obtain ⟨t, ht⟩ : ∃ t, Nm.tsize zs = t + 1 := ⟨Nm.tsize zs - 1, by omega⟩
    have hx := hz.at t
    have hx0 := Nm.tsize_top zs (by omega)
    rw [show Nm.tsize zs - 1 = t by omega] at hx0
    obtain ⟨n, hn⟩ := Int.eq_ofNat_of_zero_le hx.1
    have hb := Lib.bitLenAux_bounds 64 n (by simpa using (show n < 18446744073709551616 by omega)) (by omega)
    rw [show Lib.bitLenAux 64 n = Lib.bitLen n from rfl] at hb
    have hs := bitLen_small n (by omega)
    obtain ⟨l, hl⟩ : ∃ l, Lib.bitLen n = l := ⟨_, rfl⟩
    rw [hl] at hb hs
    have e1 : ((2 ^ (l - 1) : Nat) : Int) = (2 : Int) ^ (l - 1) := by simp
    have e2 : ((2 ^ l : Nat) : Int) = (2 : Int) ^ l := by simp
    refine ⟨64 * t + l, ?_, Nm.blen_at zs t l hz ht hb.1 (by omega) (by omega), by omega, fun _ => by omega⟩
    rw [blen, if_neg h0, show Nm.tsize zs - 1 = t by omega, hn, Int.toNat_natCast, hl, ht]
    omega
end Go.Proofs.YtamlindelmfbiabDoor
