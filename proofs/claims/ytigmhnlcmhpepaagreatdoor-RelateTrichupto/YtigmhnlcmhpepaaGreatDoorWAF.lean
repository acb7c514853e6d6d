/-
  Texts put together: Div1, SubA, Walk4, VPush.
-/
import Derived.Test.YtigmhnlcmhpepaaGreatDoorWAD
import Derived.Test.YtigmhnlcmhpepaaGreatDoorWAA
import Derived.Lib.ItoaNum
import Derived.Laws.Bits64b
import Derived.Deep.QuietTactic
import Derived.BigQuiet
import Derived.Shelf.Spec.BitsCarry
namespace Go.Proofs.YtigmhnlcmhpepaaGreatDoor
open Go.RowKit Go.Deep

theorem lead_any (x : Int) (l : Nat) (w : World) (h0 : 0 ≤ x) (h1 : x < 18446744073709551616) (hl : Lib.bitLen x.toNat = l) :
    Calls Tryz.prog 253 #[.int .u64 x] w fun e w' => e = .returned (.int .i64 (64 - (l : Int))) ∧ w' = w := by
  have L := len64 x w h0 h1
  rw [hl] at L
  have hl64 : l ≤ 64 := by rw [← hl]; exact bitLen_small _ (by omega)
  have HL := hid L
  clear L hl
  go_enter Tryz.func253, Tryz.ntmps253
  go_wp2_with fail
  refine HL.out.mono ?_
  rintro e w' ⟨rfl, rfl⟩
  go_wp2_with fail
  go_ret
  exact ⟨rfl, rfl⟩

set_option maxRecDepth 100000 in
set_option maxHeartbeats 1000000 in
theorem div64_small (lo y : Int) (w : World) (l0 : 0 ≤ lo) (l1 : lo < 18446744073709551616) (y0 : 0 < y) (y1 : y < 18446744073709551616) :
    Calls Tryz.prog 246 #[.int .u64 0, .int .u64 lo, .int .u64 y] w fun e w' => e = .returned (.tuple #[.int .u64 (lo / y), .int .u64 (lo % y)]) ∧ Below w.heap.size w w' := by
  have hy : (y == 0) = false := by rw [beq_eq_false_iff_ne]; omega
  go_enter Tryz.func246, Tryz.ntmps246
  go_wp2_with fail
  go_quiet (fail)
  go_wp2
  go_ret2
  exact ⟨rfl, ⟨rfl, rfl, rfl, Nat.le_refl _, fun _ _ => rfl⟩⟩

/-- The shift that brings a divisor's highest binary digit to the top. -/
theorem shift_facts (y : Int) (l : Nat) (y0 : 0 < y) (y1 : y < 18446744073709551616) (hl : Lib.bitLen y.toNat = l) : ∃ s : Nat, s + l = 64 ∧ s ≤ 63 ∧ 9223372036854775808 ≤ y * 2 ^ s ∧ y * 2 ^ s < 18446744073709551616 ∧ (0 : Int) < 2 ^ s ∧ (0 : Int) < 2 ^ (64 - s) ∧ (2 : Int) ^ s * 2 ^ (64 - s) = 18446744073709551616 := by
  obtain ⟨n, rfl⟩ := Int.eq_ofNat_of_zero_le (show 0 ≤ y by omega)
  rw [Int.toNat_natCast] at hl
  have hb := Lib.bitLenAux_bounds 64 n (by simpa using (show n < 18446744073709551616 by omega)) (by omega)
  rw [show Lib.bitLenAux 64 n = l from hl] at hb
  obtain ⟨b1, b2, b3⟩ := hb
  have hl64 : l ≤ 64 := by rw [← hl]; exact bitLen_small n (by omega)
  refine ⟨64 - l, by omega, by omega, ?_⟩
  have e1 : 2 ^ l * 2 ^ (64 - l) = 18446744073709551616 := by rw [← Nat.pow_add, show l + (64 - l) = 64 by omega]
  have e2 : 2 ^ (l - 1) * 2 ^ (64 - l) = 9223372036854775808 := by rw [← Nat.pow_add, show l - 1 + (64 - l) = 63 by omega]
  have p1 : 0 < 2 ^ (64 - l) := Nat.pow_pos (by omega)
  have p2 : 0 < 2 ^ l := Nat.pow_pos (by omega)
  have c1 : 2 ^ (l - 1) * 2 ^ (64 - l) ≤ n * 2 ^ (64 - l) := Nat.mul_le_mul_right _ b2
  have c2 : n * 2 ^ (64 - l) < 2 ^ l * 2 ^ (64 - l) := Nat.mul_lt_mul_of_pos_right b3 p1
  have hP : ((2 ^ (64 - l) : Nat) : Int) = (2 : Int) ^ (64 - l) := by simp
  have hQ : ((2 ^ (64 - (64 - l)) : Nat) : Int) = (2 : Int) ^ (64 - (64 - l)) := by simp
  rw [← hP, ← hQ, show 64 - (64 - l) = l by omega, ← Int.natCast_mul, ← Int.natCast_mul, Nat.mul_comm (2 ^ (64 - l)) (2 ^ l), e1]
  omega

theorem wrap_small (x : Int) (h0 : 0 ≤ x) (h1 : x < 18446744073709551616) : IntKind.u64.wrap x = x := by rw [IntKind.wrap_u64]; omega
theorem wrap_mod (x : Int) : IntKind.u64.wrap x = x % 18446744073709551616 := by rw [IntKind.wrap_u64]

theorem mask32 (x : Int) (h0 : 0 ≤ x) (h1 : x < 18446744073709551616) : bits .and .u64 x 4294967295 = x % 4294967296 := by
  obtain ⟨n, rfl⟩ := Int.eq_ofNat_of_zero_le h0
  have h := bits_and_u64_nat n 4294967295 (by omega) (by omega)
  have e : n &&& 4294967295 = n % 4294967296 := Nat.and_two_pow_sub_one_eq_mod n 32
  rw [e] at h
  rw [show (4294967295 : Int) = ((4294967295 : Nat) : Int) from rfl, h]
  omega

/-- Digits that don't meet: 'or' is a sum. -/
theorem or_sum (hi c : Int) (s : Nat) (h0 : 0 ≤ hi) (hc0 : 0 ≤ c) (hc : c < 2 ^ s) (h1 : hi * 2 ^ s < 18446744073709551616) (h2 : c < 18446744073709551616) : bits .or .u64 (hi * 2 ^ s) c = hi * 2 ^ s + c := by
  obtain ⟨a, rfl⟩ := Int.eq_ofNat_of_zero_le h0
  obtain ⟨b, rfl⟩ := Int.eq_ofNat_of_zero_le hc0
  have hP : (2 : Int) ^ s = ((2 ^ s : Nat) : Int) := by simp
  rw [hP] at hc h1 ⊢
  have hb : b < 2 ^ s := by omega
  rw [← Int.natCast_mul] at h1 ⊢
  have h := bits_or_u64_nat (a * 2 ^ s) b (by omega) (by omega)
  rw [h, Nat.mul_comm a, ← Nat.two_pow_add_eq_or_of_lt hb a]
  omega

/-- What the operands are, under the names that the walk gives them. -/
structure Ops (hi lo y : Int) (s : Nat) (Y v1 v0 A c U L u1 u0 : Int) : Prop where
  r1 : IntKind.u64.wrap (y * 2 ^ s) = Y
  r2 : Y / 4294967296 = v1
  r3 : bits .and .u64 Y 4294967295 = v0
  r4 : IntKind.u64.wrap (hi * 2 ^ s) = A
  r5 : lo / 2 ^ (64 - s) = c
  r6 : bits .or .u64 A c = U
  r7 : IntKind.u64.wrap (lo * 2 ^ s) = L
  r8 : L / 4294967296 = u1
  r9 : bits .and .u64 L 4294967295 = u0
  nrm : Dv.Nrm Y v1 v0
  bU : 0 ≤ U ∧ U < Y
  bL : 0 ≤ L ∧ L < 18446744073709551616
  eL : L = u1 * 4294967296 + u0
  b1 : 0 ≤ u1 ∧ u1 < 4294967296
  b0 : 0 ≤ u0 ∧ u0 < 4294967296
  bY : Y < 18446744073709551616
  pos : (0 : Int) < 2 ^ s
  eY : Y = y * 2 ^ s
  eN : U * 18446744073709551616 + L = (hi * 18446744073709551616 + lo) * 2 ^ s

theorem ops_of (hi lo y : Int) (l : Nat) (h0 : 0 < hi) (hy : hi < y) (l0 : 0 ≤ lo) (l1 : lo < 18446744073709551616) (y1 : y < 18446744073709551616) (hl : Lib.bitLen y.toNat = l) :
    ∃ (s : Nat) (Y v1 v0 A c U L u1 u0 : Int), s + l = 64 ∧ s ≤ 63 ∧ Ops hi lo y s Y v1 v0 A c U L u1 u0 := by
  obtain ⟨s, hs, hs63, hs1, hs2, hP, hQ, hPQ⟩ := shift_facts y l (by omega) y1 hl
  obtain ⟨m1, m2, m3, m4, m5, m6⟩ := Dv.moved hP hQ hPQ (by omega) hy l0 l1
  have hL : IntKind.u64.wrap (lo * 2 ^ s) = lo % 2 ^ (64 - s) * 2 ^ s := by rw [wrap_mod, m5]
  have hLb : 0 ≤ lo % 2 ^ (64 - s) * 2 ^ s ∧ lo % 2 ^ (64 - s) * 2 ^ s < 18446744073709551616 := by rw [← m5]; omega
  refine ⟨s, y * 2 ^ s, y * 2 ^ s / 4294967296, y * 2 ^ s % 4294967296, hi * 2 ^ s, lo / 2 ^ (64 - s), hi * 2 ^ s + lo / 2 ^ (64 - s), lo % 2 ^ (64 - s) * 2 ^ s, lo % 2 ^ (64 - s) * 2 ^ s / 4294967296, lo % 2 ^ (64 - s) * 2 ^ s % 4294967296, hs, hs63, ?_⟩
  exact {
    r1 := wrap_small _ (by omega) hs2
    r2 := rfl
    r3 := mask32 _ (by omega) hs2
    r4 := wrap_small _ m3 (by omega)
    r5 := rfl
    r6 := or_sum hi _ s (by omega) m1 m2 (by omega) (by omega)
    r7 := hL
    r8 := rfl
    r9 := mask32 _ hLb.1 hLb.2
    nrm := ⟨by omega, by omega, by omega, by omega, by omega⟩
    bU := ⟨by omega, m4⟩
    bL := hLb
    eL := by omega
    b1 := by omega
    b0 := by omega
    bY := hs2
    pos := hP
    eY := rfl
    eN := m6 }

theorem small_mul {q v0 : Int} (h0 : 0 ≤ q) (h : q < 4294967296) (g0 : 0 ≤ v0) (g : v0 < 4294967296) : 0 ≤ q * v0 ∧ q * v0 ≤ 18446744065119617025 :=
  ⟨Int.mul_nonneg h0 g0, Int.mul_le_mul (a := q) (b := v0) (c := 4294967295) (d := 4294967295) (by omega) (by omega) (by omega) (by omega)⟩

/-- The ways of one round. -/
theorem ways {U u Y v1 v0 q r : Int} (hY : Dv.Nrm Y v1 v0) (hUY : U < Y) (hu0 : 0 ≤ u) (hu : u < 4294967296) (h : Dv.Est U u Y v1 q r) :
    (4294967296 ≤ q ∧ 4294967296 ≤ q ∧ 4294967296 ≤ r + v1 ∧ 1 ≤ q ∧ 1 ≤ q ∧ 1 ≤ q ∧ ∃ q1, q - 1 = q1 ∧ Dv.Dig U u Y q1) ∨
    (q < 4294967296 ∧ 4294967296 * r + u < q * v0 ∧ 4294967296 ≤ r + v1 ∧ 1 ≤ q ∧ 0 ≤ q * v0 ∧ q * v0 ≤ 18446744065119617025 ∧ ∃ q1, q - 1 = q1 ∧ Dv.Dig U u Y q1) ∨
    (q < 4294967296 ∧ q * v0 ≤ 4294967296 * r + u ∧ q < 4294967296 ∧ 0 ≤ q ∧ 0 ≤ q * v0 ∧ q * v0 ≤ 18446744065119617025 ∧ ∃ q1, q = q1 ∧ Dv.Dig U u Y q1) ∨
    (4294967296 ≤ q ∧ 4294967296 ≤ q ∧ r + v1 < 4294967296 ∧ 1 ≤ q ∧ Dv.Est U u Y v1 (q - 1) (r + v1)) ∨
    (q < 4294967296 ∧ 4294967296 * r + u < q * v0 ∧ r + v1 < 4294967296 ∧ 1 ≤ q ∧ Dv.Est U u Y v1 (q - 1) (r + v1)) := by
  by_cases h1 : 4294967296 ≤ q
  · by_cases h2 : 4294967296 ≤ r + v1
    · exact .inl ⟨h1, h1, h2, by omega, by omega, by omega, _, rfl, Dv.dig_break hY hUY hu0 hu h (.inl h1) h2⟩
    · exact .inr (.inr (.inr (.inl ⟨h1, h1, by omega, by omega, Dv.est_on hY hUY hu0 hu h (.inl h1) (by omega)⟩)))
  · by_cases h3 : 4294967296 * r + u < q * v0
    · have hq := (Dv.est_down hY hUY hu0 hu h (.inr h3)).1
      by_cases h2 : 4294967296 ≤ r + v1
      · have hm := small_mul h.1 (show q < 4294967296 by omega) hY.2.1 hY.2.2.1
        exact .inr (.inl ⟨by omega, h3, h2, hq, hm.1, hm.2, _, rfl, Dv.dig_break hY hUY hu0 hu h (.inr h3) h2⟩)
      · exact .inr (.inr (.inr (.inr ⟨by omega, h3, by omega, hq, Dv.est_on hY hUY hu0 hu h (.inr h3) (by omega)⟩)))
    · have hm := small_mul h.1 (show q < 4294967296 by omega) hY.2.1 hY.2.2.1
      exact .inr (.inr (.inl ⟨by omega, by omega, by omega, h.1, hm.1, hm.2, _, rfl, Dv.dig_exit hY h (by omega) (by omega)⟩))

theorem est_le {U u Y v1 v0 q r : Int} (hY : Dv.Nrm Y v1 v0) (h : Dv.Est U u Y v1 q r) (hU : U < 18446744073709551616) : q < 18446744073709551616 := by
  have h1 : q * 1 ≤ q * v1 := Int.mul_le_mul_of_nonneg_left (by have := hY.2.2.2.1; omega) h.1
  have := h.2.2.2.1
  have := h.2.1
  omega

/-- What is left behind a digit, reckoned in 64 bits. -/
theorem rest_of {U u Y q : Int} (h : Dv.Dig U u Y q) (hY : Y < 18446744073709551616) :
    ∃ R, IntKind.u64.wrap (IntKind.u64.wrap (IntKind.u64.wrap (U * 4294967296) + u) - IntKind.u64.wrap (q * Y)) = R ∧ (0 ≤ R ∧ R < Y) ∧ R = U * 4294967296 + u - q * Y := by
  obtain ⟨h1, h2, h3, h4⟩ := h
  refine ⟨U * 4294967296 + u - q * Y, ?_, by omega, rfl⟩
  simp only [wrap_mod]
  omega

theorem ret_pair {a b c d : Int} (h1 : a = c) (h2 : b = d) : Ending.returned (.tuple #[.int .u64 a, .int .u64 b]) = .returned (.tuple #[.int .u64 c, .int .u64 d]) := by rw [h1, h2]

set_option maxRecDepth 100000 in
set_option maxHeartbeats 4000000 in
theorem div64_big (hi lo y : Int) (w : World) (h0 : 0 < hi) (hy : hi < y) (l0 : 0 ≤ lo) (l1 : lo < 18446744073709551616) (y1 : y < 18446744073709551616) :
    Calls Tryz.prog 246 #[.int .u64 hi, .int .u64 lo, .int .u64 y] w fun e w' => e = .returned (.tuple #[.int .u64 ((hi * 18446744073709551616 + lo) / y), .int .u64 ((hi * 18446744073709551616 + lo) % y)]) ∧ Below w.heap.size w w' := by
  have hy0 : (y == 0) = false := by rw [beq_eq_false_iff_ne]; omega
  have hh0 : (hi == 0) = false := by rw [beq_eq_false_iff_ne]; omega
  have hyh : decide (y ≤ hi) = false := by simp; omega
  obtain ⟨l, hl⟩ : ∃ l, Lib.bitLen y.toNat = l := ⟨_, rfl⟩
  have LE := hid (lead_any y l w (by omega) y1 hl)
  obtain ⟨s, Y, v1, v0, A, c, U, L, u1, u0, hs, hs63, O⟩ := ops_of hi lo y l h0 hy l0 l1 y1 hl
  have es : (64 - (l : Int)) = (s : Int) := by omega
  rw [es] at LE
  clear hl hs es
  have r1 := O.r1
  have r2 := O.r2
  have r3 := O.r3
  have r4 := O.r4
  have r5 := O.r5
  have r6 := O.r6
  have r7 := O.r7
  have r8 := O.r8
  have r9 := O.r9
  have E0 := Dv.est_first O.nrm O.bU.1 O.b1.1 O.b1.2
  obtain ⟨q, r10⟩ : ∃ q, U / v1 = q := ⟨_, rfl⟩
  rw [r10] at E0
  obtain ⟨r, r11⟩ : ∃ r, U - q * v1 = r := ⟨_, rfl⟩
  rw [r11] at E0
  have bv0 := O.nrm.2.2.2.1
  have bv1 := O.nrm.2.2.2.2
  have bw0 := O.nrm.2.1
  have bw1 := O.nrm.2.2.1
  have bU0 := O.bU.1
  have bU1 : U < 18446744073709551616 := by have := O.bU.2; have := O.bY; omega
  have bu0 := O.b1.1
  have bu1 := O.b1.2
  have bz0 := O.b0.1
  have bz1 := O.b0.2
  have bq0 := E0.1
  have br0 := E0.2.1
  have br1 := E0.2.2.1
  have bqv0 : 0 ≤ q * v1 := Int.mul_nonneg bq0 (by omega)
  have bqv1 : q * v1 ≤ U := by omega
  have HE := hid E0
  have HO := hid O
  clear E0 O
  go_enter Tryz.func246, Tryz.ntmps246
  go_wp2_with fail
  refine LE.out.mono ?_
  rintro e w' ⟨rfl, rfl⟩
  go_wp2_with fail
  have R10 := hid r10
  clear r1 r2 r3 r4 r5 r6 r7 r8 r9 r10 r11 hy0 hh0 hyh LE
  go_loop [15, 16] (fun a b => ∃ q r, a = .int .u64 q ∧ b = .int .u64 r ∧ Dv.Est U u1 Y v1 q r) (fun a _ => (intOf a).toNat)
  case atStart => exact ⟨q, r, by rw [R10.out], rfl, HE.out⟩
  case round =>
    clear bq0 br0 br1 bqv0 bqv1 HE R10
    obtain ⟨q, r, rfl, rfl, E⟩ := hrel
    have br0 := E.2.1
    have br1 := E.2.2.1
    have bq0 := E.1
    have bq1 := est_le HO.out.nrm E bU1
    have W := ways HO.out.nrm HO.out.bU.2 bu0 bu1 E
    clear E
    rcases W with c | c | c | c | c
    rotate_right 2
    · obtain ⟨t1, t2, t3, t4, E⟩ := c
      have HE := hid E
      clear E
      go_wp2
      go_round
      case rel => exact ⟨q - 1, r + v1, rfl, rfl, HE.out⟩
      case measure => simp [intOf]; omega
    · obtain ⟨t1, t2, t3, t4, E⟩ := c
      have HE := hid E
      obtain ⟨k0, k1⟩ := small_mul bq0 t1 bw0 bw1
      clear E
      go_wp2
      go_round
      case rel => exact ⟨q - 1, r + v1, rfl, rfl, HE.out⟩
      case measure => simp [intOf]; omega
    all_goals
      obtain ⟨t1, t2, t3, t4, t5, t6, q1, hq1, D⟩ := c
      try (have hsub : q = q1 := hq1; clear hsub; subst hq1)
      obtain ⟨R, r12, bR, eR⟩ := rest_of D HO.out.bY
      have D1 := hid D
      have BR := hid bR
      have ER := hid eR
      have bq10 := D.1
      have bq11 := D.2.1
      have bR0 := bR.1
      have bR1 : R < 18446744073709551616 := by have := HO.out.bY; omega
      have E0 := Dv.est_first HO.out.nrm bR0 bz0 bz1
      obtain ⟨qb, r13⟩ : ∃ q, R / v1 = q := ⟨_, rfl⟩
      rw [r13] at E0
      obtain ⟨rb, r14⟩ : ∃ r, R - qb * v1 = r := ⟨_, rfl⟩
      rw [r14] at E0
      have bqb0 := E0.1
      have brb0 := E0.2.1
      have brb1 := E0.2.2.1
      have bqvb0 : 0 ≤ qb * v1 := Int.mul_nonneg bqb0 (by omega)
      have bqvb1 : qb * v1 ≤ R := by omega
      have HE := hid E0
      clear E0 D eR bR
      go_wp2
      have R13 := hid r13
      clear r12 r13 r14
      clear t1 t2 t3 t4 t5 t6
      go_loop [18, 16] (fun a b => ∃ q r, a = .int .u64 q ∧ b = .int .u64 r ∧ Dv.Est R u0 Y v1 q r) (fun a _ => (intOf a).toNat)
      case atStart => exact ⟨qb, rb, by first | rfl | rw [R13.out], rfl, HE.out⟩
      case round =>
        clear bqb0 brb0 brb1 bqvb0 bqvb1 HE R13 br0 br1 bq0 bq1
        obtain ⟨q, r, rfl, rfl, E⟩ := hrel
        have br0 := E.2.1
        have br1 := E.2.2.1
        have bq0 := E.1
        have bq1 := est_le HO.out.nrm E bR1
        have W := ways HO.out.nrm BR.out.2 bz0 bz1 E
        clear E
        rcases W with c | c | c | c | c
        rotate_right 2
        · obtain ⟨t1, t2, t3, t4, E⟩ := c
          have HE := hid E
          clear E
          go_wp2
          go_round
          case rel => exact ⟨q - 1, r + v1, rfl, rfl, HE.out⟩
          case measure => simp [intOf]; omega
        · obtain ⟨t1, t2, t3, t4, E⟩ := c
          have HE := hid E
          obtain ⟨k0, k1⟩ := small_mul bq0 t1 bw0 bw1
          clear E
          go_wp2
          go_round
          case rel => exact ⟨q - 1, r + v1, rfl, rfl, HE.out⟩
          case measure => simp [intOf]; omega
        all_goals
          obtain ⟨t1, t2, t3, t4, t5, t6, q0, hq0, D⟩ := c
          try (have hsub : q = q0 := hq0; clear hsub; subst hq0)
          obtain ⟨R0, r15, bR0', eR0⟩ := rest_of D HO.out.bY
          have FIN := hid (Dv.whole HO.out.pos HO.out.eY HO.out.eN HO.out.eL ER.out eR0 bR0'.1 bR0'.2 (by omega))
          have bq00 := D.1
          have bq01 := D.2.1
          have bR00 := bR0'.1
          clear D eR0 bR0'
          go_wp2
          go_ret2
          exact ⟨ret_pair FIN.out.1.symm FIN.out.2.symm, Below.refl _ _⟩

/-- Div64: two limbs by one, the higher one below the divisor. -/
theorem div64 (hi lo y : Int) (w : World) (h0 : 0 ≤ hi) (hy : hi < y) (l0 : 0 ≤ lo) (l1 : lo < 18446744073709551616) (y1 : y < 18446744073709551616) :
    Calls Tryz.prog 246 #[.int .u64 hi, .int .u64 lo, .int .u64 y] w fun e w' => ∃ q r : Int, e = .returned (.tuple #[.int .u64 q, .int .u64 r]) ∧ (0 ≤ q ∧ q < 18446744073709551616 ∧ 0 ≤ r ∧ r < y) ∧ Hid (q * y + r = hi * 18446744073709551616 + lo) ∧ Below w.heap.size w w' := by
  obtain ⟨N, hN⟩ : ∃ N, N = hi * 18446744073709551616 + lo := ⟨_, rfl⟩
  have d1 := Int.emod_add_mul_ediv N y
  have d2 := Int.emod_nonneg N (show y ≠ 0 by omega)
  have d3 := Int.emod_lt_of_pos N (show 0 < y by omega)
  have d4 : 0 ≤ N / y := Int.ediv_nonneg (by omega) (by omega)
  have d5 : N / y < 18446744073709551616 := by
    rw [Int.ediv_lt_iff_lt_mul (by omega)]
    omega
  rw [Int.mul_comm] at d1
  have fin : ∀ (e : Ending) (w' : World), e = .returned (.tuple #[.int .u64 (N / y), .int .u64 (N % y)]) ∧ Below w.heap.size w w' → ∃ q r : Int, e = .returned (.tuple #[.int .u64 q, .int .u64 r]) ∧ (0 ≤ q ∧ q < 18446744073709551616 ∧ 0 ≤ r ∧ r < y) ∧ Hid (q * y + r = hi * 18446744073709551616 + lo) ∧ Below w.heap.size w w' :=
    fun e w' h => ⟨N / y, N % y, h.1, ⟨d4, d5, d2, d3⟩, show _ = _ by omega, h.2⟩
  by_cases hz : hi = 0
  · subst hz
    have : N = lo := by omega
    rw [this] at fin
    exact (div64_small lo y w l0 l1 (by omega) y1).mono fin
  · rw [hN] at fin
    exact (div64_big hi lo y w (by omega) hy l0 l1 y1).mono fin
end Go.Proofs.YtigmhnlcmhpepaaGreatDoor

namespace Go.Proofs.YtigmhnlcmhpepaaGreatDoor
open Go.RowKit Go.Deep

/-- Sub64: the limb of a difference, and the borrow, under names. -/
theorem sub64' (x y b s b' : Int) (hx : 0 ≤ x) (hx1 : x < 18446744073709551616) (hy : 0 ≤ y) (hy1 : y < 18446744073709551616) (hb0 : 0 ≤ b) (hb : b ≤ 1) (hs : 0 ≤ s ∧ s < 18446744073709551616) (hb' : 0 ≤ b' ∧ b' ≤ 1) (he : s + 18446744073709551616 * (-b') = x + (-y) + (-b)) (w : World) :
    (callFunc 256 #[.int .u64 x, .int .u64 y, .int .u64 b]).run Tryz.prog w = .ok (.value (.tuple #[.int .u64 s, .int .u64 b'])) w := by
  obtain ⟨x, rfl⟩ := Int.eq_ofNat_of_zero_le hx
  obtain ⟨y, rfl⟩ := Int.eq_ofNat_of_zero_le hy
  obtain ⟨b, rfl⟩ := Int.eq_ofNat_of_zero_le hb0
  rw [run_callFunc_extern Tryz.func256 (by kernel_rfl) (by kernel_rfl) (by kernel_rfl) (e := sub64Entry) (by kernel_rfl), run_sub64 x y b (by omega)]
  have e1 : (((x + 18446744073709551616 - y - b) % 18446744073709551616 : Nat) : Int) = s := by omega
  have e2 : ((if x < y + b then 1 else 0 : Nat) : Int) = b' := by split <;> omega
  rw [e1, e2]
  rfl

theorem sub_names (x y b : Int) (hx : 0 ≤ x) (hx1 : x < 18446744073709551616) (hy : 0 ≤ y) (hy1 : y < 18446744073709551616) (hb0 : 0 ≤ b) (hb : b ≤ 1) : ∃ s b' : Int, (0 ≤ s ∧ s < 18446744073709551616) ∧ (0 ≤ b' ∧ b' ≤ 1) ∧ Hid (s + 18446744073709551616 * (-b') = x + (-y) + (-b)) :=
  ⟨(x - y - b) % 18446744073709551616, -((x - y - b) / 18446744073709551616), by omega, by omega, show _ = _ by omega⟩

theorem AddInv.down {g k : Nat} {w : World} {T : Int} {j : Nat} {c : Int} {os : List Int} {wr : World} (h : AddInv g k w T j c os wr) (hj : j < k) {x s c' : Int} (hs0 : 0 ≤ s ∧ s < 18446744073709551616) (hs : s + 18446744073709551616 * c' = os.getD j 0 + x + c) :
    AddInv g k w (T + Nm.pw j * x) (j + 1) c' (os.set j s) (wr.setCell ⟨g, j, none⟩ (.int .u64 s)) := by
  obtain ⟨h1, h2, h3, h4, h5, h6⟩ := h
  exact ⟨h1.set j s, by simpa using h2, h3.set j hs0.1 hs0.2, Nm.add_step (by omega) hs h4, h5.setCell (Nat.le_refl _) _, by simpa [World.setCell] using h6⟩

theorem AddInv.stop {g k : Nat} {w : World} {T : Int} {j : Nat} {b : Int} {os : List Int} {wr : World} (h : AddInv g k w T j (-b) os wr) (hT : 0 ≤ T) (hb : 1 ≤ b) : j < k := by
  obtain ⟨h1, h2, h3, h4, h5, h6⟩ := h
  rcases Nat.lt_or_ge j k with hj | hj
  · exact hj
  · have e1 := Nm.pw_mono hj
    have e2 := (Nm.val_bd os h3).2
    rw [h2] at e2
    have e3 := Nm.pw_pos j
    have e4 : Nm.pw j * 1 ≤ Nm.pw j * b := Int.mul_le_mul_of_nonneg_left hb (by omega)
    rw [Int.mul_neg] at h4
    omega
end Go.Proofs.YtigmhnlcmhpepaaGreatDoor

namespace Go.Proofs.YtigmhnlcmhpepaaGreatDoor
open Go.RowKit Go.Deep

/-- Behind j limbs of a: the block holds the product of these and b. -/
def ProdInv (g k : Nat) (w : World) (ls bs : List Int) (j : Nat) (os : List Int) (wr : World) : Prop :=
  Own wr g os ∧ os.length = k ∧ Nm.Limbs os ∧ Nm.val os = Nm.val (ls.take j) * Nm.val bs ∧ Below g w wr

theorem ProdInv.step {g k : Nat} {w : World} {ls bs : List Int} {j : Nat} {os : List Int} {wr w' : World} {n : Nat} (hn : bs.length = n) (ha : Nm.Limbs ls) (hb : Nm.Limbs bs) (h : ProdInv g k w ls bs j os wr) (hj : j < ls.length) (hk : j + n < k) {c x : Int} {us : List Int}
    (hx : x = ls.getD j 0) (hm : MulInv g k (j + n) wr os (Nm.val os + Nm.pw j * (Nm.val bs * x)) (j + n) c us w') :
    ProdInv g k w ls bs (j + 1) (us.set (j + n) c) (w'.setCell ⟨g, j + n, none⟩ (.int .u64 c)) := by
  subst hn
  obtain ⟨h1, h2, h3, h4, h5⟩ := h
  obtain ⟨⟨m1, m2, m3, m4, m5, m6⟩, m7, m8⟩ := hm
  have hv : Nm.val os < Nm.pw (j + bs.length) := by
    rw [h4, Nm.pw_add]
    have e1 := Nm.val_bd _ (ha.take j)
    rw [List.length_take, Nat.min_eq_left (by omega)] at e1
    have e2 := Nm.val_bd _ hb
    have e3 : Nm.val (ls.take j) * Nm.val bs ≤ Nm.pw j * Nm.val bs := Int.mul_le_mul_of_nonneg_right (by omega) e2.1
    have e4 : Nm.pw j * (Nm.val bs + 1) ≤ Nm.pw j * Nm.pw bs.length := Int.mul_le_mul_of_nonneg_left (by omega) (by have := Nm.pw_pos j; omega)
    have e5 := Nm.pw_pos j
    rw [Int.mul_add, Int.mul_one] at e4
    omega
  have h0 : us.getD (j + bs.length) 0 = 0 := by rw [m8 _ (Nat.le_refl _)]; exact Nm.zero_of_lt h3 hv _ (Nat.le_refl _)
  refine ⟨m1.set _ _, by simpa using m2, m3.set _ m7.1 m7.2, ?_, h5.trans (m5.setCell (Nat.le_refl _) _)⟩
  rw [Nm.val_set _ _ _ (by omega), h0, Int.sub_zero, m4, h4, hx, Nm.val_take_succ ls j hj, Int.add_mul, Int.mul_assoc, Int.mul_comm (ls.getD j 0)]

theorem prod_bound {zs ys : List Int} (hz : Nm.Limbs zs) (hy : Nm.Limbs ys) (h : Nm.val zs * Nm.val ys < Nm.pw 4096) (h1 : 0 < Nm.tsize zs) (h2 : 0 < Nm.tsize ys) : Nm.tsize zs + Nm.tsize ys ≤ 4097 := by
  have e1 := Nm.val_ge_top hz h1
  have e2 := Nm.val_ge_top hy h2
  have e3 : Nm.pw (Nm.tsize zs - 1) * Nm.pw (Nm.tsize ys - 1) ≤ Nm.val zs * Nm.val ys := Int.mul_le_mul e1 e2 (Int.le_of_lt (Nm.pw_pos _)) (by have := (Nm.val_bd zs hz).1; omega)
  rw [← Nm.pw_add] at e3
  rcases Nat.lt_or_ge (Nm.tsize zs - 1 + (Nm.tsize ys - 1)) 4096 with e | e
  · omega
  · have := Nm.pw_mono e
    omega

set_option maxRecDepth 100000 in
set_option maxHeartbeats 1000000 in
theorem mul_ok (p q : Option Addr) (n cap m cap' : Nat) (zs ys : List Int) (w : World) (ha : Arg w p n cap zs) (hb : Arg w q m cap' ys) (tz : Nm.tsize zs ≤ 4096) (ty : Nm.tsize ys ≤ 4096) (hs : Nm.val zs * Nm.val ys < Nm.pw 4096) :
    Calls Tryz.prog 218 #[.slice p n cap, .slice q m cap'] w fun e w' => ∃ r os, e = .returned (.tuple #[.slice r (List.length os) (List.length os), .int .i64 0]) ∧ Ans w.heap.size w' r os (Nm.val zs * Nm.val ys) ∧ Below w.heap.size w w' := by
  obtain ⟨a1, a2, a3, a4, a5⟩ := ha
  obtain ⟨b1, b2, b3, b4, b5⟩ := hb
  have HS : Hid (Nm.val zs * Nm.val ys < Nm.pw 4096) := hs
  clear hs
  have nil : Nm.val zs * Nm.val ys = 0 → Ans w.heap.size w none [] (Nm.val zs * Nm.val ys) := fun h => ⟨Lies.nil _ _, Nm.Limbs.nil, rfl, by simp [Nm.val, h], fun a h => by cases h⟩
  by_cases h1 : Nm.tsize zs = 0
  · have h1' : ((Nm.tsize zs : Int) == 0) = true := by simp [h1]
    have NIL := hid (nil (by rw [(Nm.tsize_zero_iff a5).1 h1, Int.zero_mul]))
    clear nil h1
    go_enter Tryz.func218, Tryz.ntmps218
    go_wp2_with fail
    refine (pair_ok p q n cap m cap' zs ys _ a1 a2 (by omega) a4 tz b1 b2 (by omega) b4 ty).mono ?_
    rintro e w' ⟨rfl, rfl⟩
    go_wp2_with fail
    go_ret2
    exact ⟨none, [], rfl, NIL.out, Below.refl _ _⟩
  have h1' : ((Nm.tsize zs : Int) == 0) = false := by simp [h1]
  by_cases h2 : Nm.tsize ys = 0
  · have h2' : ((Nm.tsize ys : Int) == 0) = true := by simp [h2]
    have NIL := hid (nil (by rw [(Nm.tsize_zero_iff b5).1 h2, Int.mul_zero]))
    clear nil h1 h2
    go_enter Tryz.func218, Tryz.ntmps218
    go_wp2_with fail
    refine (pair_ok p q n cap m cap' zs ys _ a1 a2 (by omega) a4 tz b1 b2 (by omega) b4 ty).mono ?_
    rintro e w' ⟨rfl, rfl⟩
    go_wp2_with fail
    go_ret2
    exact ⟨none, [], rfl, NIL.out, Below.refl _ _⟩
  have h2' : ((Nm.tsize ys : Int) == 0) = false := by simp [h2]
  clear nil
  have hsum := prod_bound a5 b5 HS.out (by omega) (by omega)
  have hsum' : (Nm.tsize zs : Int) + (Nm.tsize ys : Int) ≤ 4097 := by omega
  have hmk := make64 (Nm.tsize zs + Nm.tsize ys) (by omega) w
  have em : ((Nm.tsize zs + Nm.tsize ys : Nat) : Int) = (Nm.tsize zs : Int) + (Nm.tsize ys : Int) := by omega
  rw [em] at hmk
  clear em
  have ho : Own (w.alloc (.cells (madeCells #[.int .u64 0] (Nm.tsize zs + Nm.tsize ys)) 22)) w.heap.size (List.replicate (Nm.tsize zs + Nm.tsize ys) 0) := by
    rw [made_zero]; exact Own.alloc w _
  have hb0 : Below w.heap.size w (w.alloc (.cells (madeCells #[.int .u64 0] (Nm.tsize zs + Nm.tsize ys)) 22)) := (Below.refl _ _).alloc (Nat.le_refl _) _
  have I0 : ProdInv w.heap.size (Nm.tsize zs + Nm.tsize ys) w (Nm.trim zs) (Nm.trim ys) 0 (List.replicate (Nm.tsize zs + Nm.tsize ys) 0) (w.alloc (.cells (madeCells #[.int .u64 0] (Nm.tsize zs + Nm.tsize ys)) 22)) :=
    ⟨ho, by simp, Nm.Limbs.replicate _, by simp [Nm.val_replicate, Nm.val], hb0⟩
  clear ho hb0
  have hsum2 : decide (4096 < (Nm.tsize zs : Int) + (Nm.tsize ys : Int) - 1) = false := by simp; omega
  have A4 := hid a4.trim
  have B4 := hid b4.trim
  obtain ⟨b, off, rfl, hcell⟩ : ∃ b off, p = some ⟨b, off, none⟩ ∧ Hid (∀ i, i < Nm.tsize zs → w.cell? ⟨b, off + i, none⟩ = some (.int .u64 ((Nm.trim zs).getD i 0))) := by
    have hlen := Nm.trim_length zs
    rcases A4.out with h | ⟨b, off, hp, h⟩
    · exfalso
      rw [h] at hlen
      simp at hlen
      omega
    · exact ⟨b, off, hp, fun i hi => h i (by rw [hlen]; exact hi)⟩
  have hbg : b < w.heap.size := cell_lt (hcell.out 0 (by omega))
  have A5 := hid a5.trim
  have B5 := hid b5.trim
  go_enter Tryz.func218, Tryz.ntmps218
  go_wp2_with fail
  refine (pair_ok (some ⟨b, off, none⟩) q n cap m cap' zs ys _ a1 a2 (by omega) a4 tz b1 b2 (by omega) b4 ty).mono ?_
  rintro e w' ⟨rfl, rfl⟩
  clear a4 b4
  go_wp2_with fail
  go_loopw [43] (fun i wr => ∃ (j : Nat) (os : List Int), j ≤ Nm.tsize zs ∧ i = .int .i64 j ∧ ProdInv w'.heap.size (Nm.tsize zs + Nm.tsize ys) w' (Nm.trim zs) (Nm.trim ys) j os wr) (fun i _ => Nm.tsize zs - (intOf i).toNat)
  case atStart => exact ⟨0, _, Nat.zero_le _, rfl, I0⟩
  case round =>
    clear I0 hmk
    obtain ⟨j, os, hj, rfl, I⟩ := hrel
    by_cases hlt : j < Nm.tsize zs
    · obtain ⟨x, hx, X⟩ : ∃ x, wr.cell? ⟨b, off + j, none⟩ = some (.int .u64 x) ∧ Hid (x = (Nm.trim zs).getD j 0) := ⟨_, (I.2.2.2.2.cell (p := ⟨b, off + j, none⟩) hbg).trans (hcell.out j hlt), rfl⟩
      have hx0 := A5.out.at j
      rw [show (Nm.trim zs).getD j 0 = x from X.out.symm] at hx0
      obtain ⟨hx0, hx1⟩ := hx0
      go_wp2_with fail
      refine (addTimes_any w'.heap.size (Nm.tsize zs + Nm.tsize ys) j (Nm.tsize ys) _ os q _ (Nm.trim ys) x _ I.2.1 (by omega) I.1 I.2.2.1 (Nm.trim_length ys) (by omega) (B4.out.below I.2.2.2.2 (Nat.le_refl _)) B5.out (fun h0 => B4.out.lt h0) hx0 hx1).mono ?_
      rintro e w2 ⟨c, us, rfl, M⟩
      have I2 := I.step (Nm.trim_length ys) A5.out B5.out (by rw [Nm.trim_length]; exact hlt) (by omega) X.out M
      obtain ⟨y, hy⟩ : ∃ y, w2.cell? ⟨w'.heap.size, j + Nm.tsize ys, none⟩ = some (.int .u64 y) := ⟨_, M.1.1.cell _ (by have := M.1.2.1; omega)⟩
      have hfr := M.1.1.free (j + Nm.tsize ys)
      clear M
      go_wp2
      go_roundw
      case rel => exact ⟨j + 1, _, by omega, by go_num, I2⟩
      case measure => simp [intOf]; omega
    · have hjn : j = Nm.tsize zs := by omega
      subst hjn
      have E := I.2.2.2.1
      rw [List.take_of_length_le (by rw [Nm.trim_length]; omega), Nm.val_trim, Nm.val_trim] at E
      have EE := hid E
      clear E
      go_wp2_with fail
      refine (limited_own w'.heap.size (Nm.tsize zs + Nm.tsize ys) os _ I.2.1 (by omega) I.1 I.2.2.1 w'.heap.size (Nat.le_refl _) (by rw [EE.out]; exact HS.out)).mono ?_
      rintro e w3 ⟨r, xs, rfl, hans, rfl⟩
      rw [EE.out] at hans
      have HA := hid hans
      clear hans
      have HB := hid I.2.2.2.2
      clear I
      go_wp2_with fail
      go_ret2
      exact ⟨r, xs, rfl, HA.out, HB.out⟩
end Go.Proofs.YtigmhnlcmhpepaaGreatDoor


