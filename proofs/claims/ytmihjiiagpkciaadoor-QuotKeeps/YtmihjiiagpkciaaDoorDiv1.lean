/-
  math/bits.LeadingZeros64 and Div64.
-/
import Derived.Test.YtmihjiiagpkciaaDoorLen
import Derived.Test.YtmihjiiagpkciaaDoorNums
import Derived.Lib.ItoaNum
import Derived.Laws.Bits64b
import Derived.Deep.QuietTactic
import Derived.BigQuiet
namespace Go.Proofs.YtmihjiiagpkciaaDoor
open Go.RowKit Go.Deep

theorem lead_any (x : Int) (l : Nat) (w : World) (h0 : 0 ≤ x) (h1 : x < 18446744073709551616) (hl : Lib.bitLen x.toNat = l) :
    Calls Tryd.prog 70 #[.int .u64 x] w fun e w' => e = .returned (.int .i64 (64 - (l : Int))) ∧ w' = w := by
  have L := len64 x w h0 h1
  rw [hl] at L
  have hl64 : l ≤ 64 := by rw [← hl]; exact bitLen_small _ (by omega)
  have HL := hid L
  clear L hl
  go_enter Tryd.func70, Tryd.ntmps70
  go_wp2_with fail
  refine HL.out.mono ?_
  rintro e w' ⟨rfl, rfl⟩
  go_wp2_with fail
  go_ret
  exact ⟨rfl, rfl⟩

set_option maxRecDepth 100000 in
set_option maxHeartbeats 1000000 in
theorem div64_small (lo y : Int) (w : World) (l0 : 0 ≤ lo) (l1 : lo < 18446744073709551616) (y0 : 0 < y) (y1 : y < 18446744073709551616) :
    Calls Tryd.prog 54 #[.int .u64 0, .int .u64 lo, .int .u64 y] w fun e w' => e = .returned (.tuple #[.int .u64 (lo / y), .int .u64 (lo % y)]) ∧ Below w.heap.size w w' := by
  have hy : (y == 0) = false := by rw [beq_eq_false_iff_ne]; omega
  go_enter Tryd.func54, Tryd.ntmps54
  go_wp2_with fail
  go_quiet (fail)
  go_wp2
  go_ret2
  exact ⟨rfl, ⟨rfl, rfl, rfl, Nat.le_refl _, fun _ _ => rfl⟩⟩

/-- The shift that brings a divisor's highest binary digit to the top. -/
theorem shift_facts (y : Int) (l : Nat) (y0 : 0 < y) (y1 : y < 18446744073709551616) (hl : Lib.bitLen y.toNat = l) : ∃ s : Nat, s + l = 64 ∧ s ≤ 63 ∧ 9223372036854775808 ≤ y * 2 ^ s ∧ y * 2 ^ s < 18446744073709551616 ∧ (0 : Int) < 2 ^ s ∧ (0 : Int) < 2 ^ (64 - s) ∧ (2 : Int) ^ s * 2 ^ (64 - s) = 18446744073709551616 := by
  obtain ⟨n, rfl⟩ := Int.eq_ofNat_of_zero_le (show 0 ≤ y by omega)
  rw [Int.toNat_natCast] at hl
  have hb := Lib.bitLenAux_bounds 64 n (by simpa using (show n < 18446744073709551616 by omega)) (by omega)
  rw [show Lib.bitLenAux 64 n = l from hl] at hb
  obtain ⟨b1, b2, b3⟩ := hb
  have hl64 : l ≤ 64 := by rw [← hl]; exact bitLen_small n (by omega)
  refine ⟨64 - l, by omega, by omega, ?_⟩
  have e1 : 2 ^ l * 2 ^ (64 - l) = 18446744073709551616 := by rw [← Nat.pow_add, show l + (64 - l) = 64 by omega]
  have e2 : 2 ^ (l - 1) * 2 ^ (64 - l) = 9223372036854775808 := by rw [← Nat.pow_add, show l - 1 + (64 - l) = 63 by omega]
  have p1 : 0 < 2 ^ (64 - l) := Nat.pow_pos (by omega)
  have p2 : 0 < 2 ^ l := Nat.pow_pos (by omega)
  have c1 : 2 ^ (l - 1) * 2 ^ (64 - l) ≤ n * 2 ^ (64 - l) := Nat.mul_le_mul_right _ b2
  have c2 : n * 2 ^ (64 - l) < 2 ^ l * 2 ^ (64 - l) := Nat.mul_lt_mul_of_pos_right b3 p1
  have hP : ((2 ^ (64 - l) : Nat) : Int) = (2 : Int) ^ (64 - l) := by simp
  have hQ : ((2 ^ (64 - (64 - l)) : Nat) : Int) = (2 : Int) ^ (64 - (64 - l)) := by simp
  rw [← hP, ← hQ, show 64 - (64 - l) = l by omega, ← Int.natCast_mul, ← Int.natCast_mul, Nat.mul_comm (2 ^ (64 - l)) (2 ^ l), e1]
  omega

theorem wrap_small (x : Int) (h0 : 0 ≤ x) (h1 : x < 18446744073709551616) : IntKind.u64.wrap x = x := by rw [IntKind.wrap_u64]; omega
theorem wrap_mod (x : Int) : IntKind.u64.wrap x = x % 18446744073709551616 := by rw [IntKind.wrap_u64]

theorem mask32 (x : Int) (h0 : 0 ≤ x) (h1 : x < 18446744073709551616) : bits .and .u64 x 4294967295 = x % 4294967296 := by
  obtain ⟨n, rfl⟩ := Int.eq_ofNat_of_zero_le h0
  have h := bits_and_u64_nat n 4294967295 (by omega) (by omega)
  have e : n &&& 4294967295 = n % 4294967296 := Nat.and_two_pow_sub_one_eq_mod n 32
  rw [e] at h
  rw [show (4294967295 : Int) = ((4294967295 : Nat) : Int) from rfl, h]
  omega

/-- Digits that don't meet: 'or' is a sum. -/
theorem or_sum (hi c : Int) (s : Nat) (h0 : 0 ≤ hi) (hc0 : 0 ≤ c) (hc : c < 2 ^ s) (h1 : hi * 2 ^ s < 18446744073709551616) (h2 : c < 18446744073709551616) : bits .or .u64 (hi * 2 ^ s) c = hi * 2 ^ s + c := by
  obtain ⟨a, rfl⟩ := Int.eq_ofNat_of_zero_le h0
  obtain ⟨b, rfl⟩ := Int.eq_ofNat_of_zero_le hc0
  have hP : (2 : Int) ^ s = ((2 ^ s : Nat) : Int) := by simp
  rw [hP] at hc h1 ⊢
  have hb : b < 2 ^ s := by omega
  rw [← Int.natCast_mul] at h1 ⊢
  have h := bits_or_u64_nat (a * 2 ^ s) b (by omega) (by omega)
  rw [h, Nat.mul_comm a, ← Nat.two_pow_add_eq_or_of_lt hb a]
  omega

/-- What the operands are, under the names that the walk gives them. -/
structure Ops (hi lo y : Int) (s : Nat) (Y v1 v0 A c U L u1 u0 : Int) : Prop where
  r1 : IntKind.u64.wrap (y * 2 ^ s) = Y
  r2 : Y / 4294967296 = v1
  r3 : bits .and .u64 Y 4294967295 = v0
  r4 : IntKind.u64.wrap (hi * 2 ^ s) = A
  r5 : lo / 2 ^ (64 - s) = c
  r6 : bits .or .u64 A c = U
  r7 : IntKind.u64.wrap (lo * 2 ^ s) = L
  r8 : L / 4294967296 = u1
  r9 : bits .and .u64 L 4294967295 = u0
  nrm : Dv.Nrm Y v1 v0
  bU : 0 ≤ U ∧ U < Y
  bL : 0 ≤ L ∧ L < 18446744073709551616
  eL : L = u1 * 4294967296 + u0
  b1 : 0 ≤ u1 ∧ u1 < 4294967296
  b0 : 0 ≤ u0 ∧ u0 < 4294967296
  bY : Y < 18446744073709551616
  pos : (0 : Int) < 2 ^ s
  eY : Y = y * 2 ^ s
  eN : U * 18446744073709551616 + L = (hi * 18446744073709551616 + lo) * 2 ^ s

theorem ops_of (hi lo y : Int) (l : Nat) (h0 : 0 < hi) (hy : hi < y) (l0 : 0 ≤ lo) (l1 : lo < 18446744073709551616) (y1 : y < 18446744073709551616) (hl : Lib.bitLen y.toNat = l) :
    ∃ (s : Nat) (Y v1 v0 A c U L u1 u0 : Int), s + l = 64 ∧ s ≤ 63 ∧ Ops hi lo y s Y v1 v0 A c U L u1 u0 := by
  obtain ⟨s, hs, hs63, hs1, hs2, hP, hQ, hPQ⟩ := shift_facts y l (by omega) y1 hl
  obtain ⟨m1, m2, m3, m4, m5, m6⟩ := Dv.moved hP hQ hPQ (by omega) hy l0 l1
  have hL : IntKind.u64.wrap (lo * 2 ^ s) = lo % 2 ^ (64 - s) * 2 ^ s := by rw [wrap_mod, m5]
  have hLb : 0 ≤ lo % 2 ^ (64 - s) * 2 ^ s ∧ lo % 2 ^ (64 - s) * 2 ^ s < 18446744073709551616 := by rw [← m5]; omega
  refine ⟨s, y * 2 ^ s, y * 2 ^ s / 4294967296, y * 2 ^ s % 4294967296, hi * 2 ^ s, lo / 2 ^ (64 - s), hi * 2 ^ s + lo / 2 ^ (64 - s), lo % 2 ^ (64 - s) * 2 ^ s, lo % 2 ^ (64 - s) * 2 ^ s / 4294967296, lo % 2 ^ (64 - s) * 2 ^ s % 4294967296, hs, hs63, ?_⟩
  exact {
    r1 := wrap_small _ (by omega) hs2
    r2 := rfl
    r3 := mask32 _ (by omega) hs2
    r4 := wrap_small _ m3 (by omega)
    r5 := rfl
    r6 := or_sum hi _ s (by omega) m1 m2 (by omega) (by omega)
    r7 := hL
    r8 := rfl
    r9 := mask32 _ hLb.1 hLb.2
    nrm := ⟨by omega, by omega, by omega, by omega, by omega⟩
    bU := ⟨by omega, m4⟩
    bL := hLb
    eL := by omega
    b1 := by omega
    b0 := by omega
    bY := hs2
    pos := hP
    eY := rfl
    eN := m6 }

theorem small_mul {q v0 : Int} (h0 : 0 ≤ q) (h : q < 4294967296) (g0 : 0 ≤ v0) (g : v0 < 4294967296) : 0 ≤ q * v0 ∧ q * v0 ≤ 18446744065119617025 :=
  ⟨Int.mul_nonneg h0 g0, Int.mul_le_mul (a := q) (b := v0) (c := 4294967295) (d := 4294967295) (by omega) (by omega) (by omega) (by omega)⟩

/-- The ways of one round. -/
theorem ways {U u Y v1 v0 q r : Int} (hY : Dv.Nrm Y v1 v0) (hUY : U < Y) (hu0 : 0 ≤ u) (hu : u < 4294967296) (h : Dv.Est U u Y v1 q r) :
    (4294967296 ≤ q ∧ 4294967296 ≤ q ∧ 4294967296 ≤ r + v1 ∧ 1 ≤ q ∧ 1 ≤ q ∧ 1 ≤ q ∧ ∃ q1, q - 1 = q1 ∧ Dv.Dig U u Y q1) ∨
    (q < 4294967296 ∧ 4294967296 * r + u < q * v0 ∧ 4294967296 ≤ r + v1 ∧ 1 ≤ q ∧ 0 ≤ q * v0 ∧ q * v0 ≤ 18446744065119617025 ∧ ∃ q1, q - 1 = q1 ∧ Dv.Dig U u Y q1) ∨
    (q < 4294967296 ∧ q * v0 ≤ 4294967296 * r + u ∧ q < 4294967296 ∧ 0 ≤ q ∧ 0 ≤ q * v0 ∧ q * v0 ≤ 18446744065119617025 ∧ ∃ q1, q = q1 ∧ Dv.Dig U u Y q1) ∨
    (4294967296 ≤ q ∧ 4294967296 ≤ q ∧ r + v1 < 4294967296 ∧ 1 ≤ q ∧ Dv.Est U u Y v1 (q - 1) (r + v1)) ∨
    (q < 4294967296 ∧ 4294967296 * r + u < q * v0 ∧ r + v1 < 4294967296 ∧ 1 ≤ q ∧ Dv.Est U u Y v1 (q - 1) (r + v1)) := by
  by_cases h1 : 4294967296 ≤ q
  · by_cases h2 : 4294967296 ≤ r + v1
    · exact .inl ⟨h1, h1, h2, by omega, by omega, by omega, _, rfl, Dv.dig_break hY hUY hu0 hu h (.inl h1) h2⟩
    · exact .inr (.inr (.inr (.inl ⟨h1, h1, by omega, by omega, Dv.est_on hY hUY hu0 hu h (.inl h1) (by omega)⟩)))
  · by_cases h3 : 4294967296 * r + u < q * v0
    · have hq := (Dv.est_down hY hUY hu0 hu h (.inr h3)).1
      by_cases h2 : 4294967296 ≤ r + v1
      · have hm := small_mul h.1 (show q < 4294967296 by omega) hY.2.1 hY.2.2.1
        exact .inr (.inl ⟨by omega, h3, h2, hq, hm.1, hm.2, _, rfl, Dv.dig_break hY hUY hu0 hu h (.inr h3) h2⟩)
      · exact .inr (.inr (.inr (.inr ⟨by omega, h3, by omega, hq, Dv.est_on hY hUY hu0 hu h (.inr h3) (by omega)⟩)))
    · have hm := small_mul h.1 (show q < 4294967296 by omega) hY.2.1 hY.2.2.1
      exact .inr (.inr (.inl ⟨by omega, by omega, by omega, h.1, hm.1, hm.2, _, rfl, Dv.dig_exit hY h (by omega) (by omega)⟩))

theorem est_le {U u Y v1 v0 q r : Int} (hY : Dv.Nrm Y v1 v0) (h : Dv.Est U u Y v1 q r) (hU : U < 18446744073709551616) : q < 18446744073709551616 := by
  have h1 : q * 1 ≤ q * v1 := Int.mul_le_mul_of_nonneg_left (by have := hY.2.2.2.1; omega) h.1
  have := h.2.2.2.1
  have := h.2.1
  omega

/-- What is left behind a digit, reckoned in 64 bits. -/
theorem rest_of {U u Y q : Int} (h : Dv.Dig U u Y q) (hY : Y < 18446744073709551616) :
    ∃ R, IntKind.u64.wrap (IntKind.u64.wrap (IntKind.u64.wrap (U * 4294967296) + u) - IntKind.u64.wrap (q * Y)) = R ∧ (0 ≤ R ∧ R < Y) ∧ R = U * 4294967296 + u - q * Y := by
  obtain ⟨h1, h2, h3, h4⟩ := h
  refine ⟨U * 4294967296 + u - q * Y, ?_, by omega, rfl⟩
  simp only [wrap_mod]
  omega

theorem ret_pair {a b c d : Int} (h1 : a = c) (h2 : b = d) : Ending.returned (.tuple #[.int .u64 a, .int .u64 b]) = .returned (.tuple #[.int .u64 c, .int .u64 d]) := by rw [h1, h2]

set_option maxRecDepth 100000 in
set_option maxHeartbeats 4000000 in
theorem div64_big (hi lo y : Int) (w : World) (h0 : 0 < hi) (hy : hi < y) (l0 : 0 ≤ lo) (l1 : lo < 18446744073709551616) (y1 : y < 18446744073709551616) :
    Calls Tryd.prog 54 #[.int .u64 hi, .int .u64 lo, .int .u64 y] w fun e w' => e = .returned (.tuple #[.int .u64 ((hi * 18446744073709551616 + lo) / y), .int .u64 ((hi * 18446744073709551616 + lo) % y)]) ∧ Below w.heap.size w w' := by
  have hy0 : (y == 0) = false := by rw [beq_eq_false_iff_ne]; omega
  have hh0 : (hi == 0) = false := by rw [beq_eq_false_iff_ne]; omega
  have hyh : decide (y ≤ hi) = false := by simp; omega
  obtain ⟨l, hl⟩ : ∃ l, Lib.bitLen y.toNat = l := ⟨_, rfl⟩
  have LE := hid (lead_any y l w (by omega) y1 hl)
  obtain ⟨s, Y, v1, v0, A, c, U, L, u1, u0, hs, hs63, O⟩ := ops_of hi lo y l h0 hy l0 l1 y1 hl
  have es : (64 - (l : Int)) = (s : Int) := by omega
  rw [es] at LE
  clear hl hs es
  have r1 := O.r1
  have r2 := O.r2
  have r3 := O.r3
  have r4 := O.r4
  have r5 := O.r5
  have r6 := O.r6
  have r7 := O.r7
  have r8 := O.r8
  have r9 := O.r9
  have E0 := Dv.est_first O.nrm O.bU.1 O.b1.1 O.b1.2
  obtain ⟨q, r10⟩ : ∃ q, U / v1 = q := ⟨_, rfl⟩
  rw [r10] at E0
  obtain ⟨r, r11⟩ : ∃ r, U - q * v1 = r := ⟨_, rfl⟩
  rw [r11] at E0
  have bv0 := O.nrm.2.2.2.1
  have bv1 := O.nrm.2.2.2.2
  have bw0 := O.nrm.2.1
  have bw1 := O.nrm.2.2.1
  have bU0 := O.bU.1
  have bU1 : U < 18446744073709551616 := by have := O.bU.2; have := O.bY; omega
  have bu0 := O.b1.1
  have bu1 := O.b1.2
  have bz0 := O.b0.1
  have bz1 := O.b0.2
  have bq0 := E0.1
  have br0 := E0.2.1
  have br1 := E0.2.2.1
  have bqv0 : 0 ≤ q * v1 := Int.mul_nonneg bq0 (by omega)
  have bqv1 : q * v1 ≤ U := by omega
  have HE := hid E0
  have HO := hid O
  clear E0 O
  go_enter Tryd.func54, Tryd.ntmps54
  go_wp2_with fail
  refine LE.out.mono ?_
  rintro e w' ⟨rfl, rfl⟩
  go_wp2_with fail
  have R10 := hid r10
  clear r1 r2 r3 r4 r5 r6 r7 r8 r9 r10 r11 hy0 hh0 hyh LE
  go_loop [15, 16] (fun a b => ∃ q r, a = .int .u64 q ∧ b = .int .u64 r ∧ Dv.Est U u1 Y v1 q r) (fun a _ => (intOf a).toNat)
  case atStart => exact ⟨q, r, by rw [R10.out], rfl, HE.out⟩
  case round =>
    clear bq0 br0 br1 bqv0 bqv1 HE R10
    obtain ⟨q, r, rfl, rfl, E⟩ := hrel
    have br0 := E.2.1
    have br1 := E.2.2.1
    have bq0 := E.1
    have bq1 := est_le HO.out.nrm E bU1
    have W := ways HO.out.nrm HO.out.bU.2 bu0 bu1 E
    clear E
    rcases W with c | c | c | c | c
    rotate_right 2
    · obtain ⟨t1, t2, t3, t4, E⟩ := c
      have HE := hid E
      clear E
      go_wp2
      go_round
      case rel => exact ⟨q - 1, r + v1, rfl, rfl, HE.out⟩
      case measure => simp [intOf]; omega
    · obtain ⟨t1, t2, t3, t4, E⟩ := c
      have HE := hid E
      obtain ⟨k0, k1⟩ := small_mul bq0 t1 bw0 bw1
      clear E
      go_wp2
      go_round
      case rel => exact ⟨q - 1, r + v1, rfl, rfl, HE.out⟩
      case measure => simp [intOf]; omega
    all_goals
      obtain ⟨t1, t2, t3, t4, t5, t6, q1, hq1, D⟩ := c
      try (have hsub : q = q1 := hq1; clear hsub; subst hq1)
      obtain ⟨R, r12, bR, eR⟩ := rest_of D HO.out.bY
      have D1 := hid D
      have BR := hid bR
      have ER := hid eR
      have bq10 := D.1
      have bq11 := D.2.1
      have bR0 := bR.1
      have bR1 : R < 18446744073709551616 := by have := HO.out.bY; omega
      have E0 := Dv.est_first HO.out.nrm bR0 bz0 bz1
      obtain ⟨qb, r13⟩ : ∃ q, R / v1 = q := ⟨_, rfl⟩
      rw [r13] at E0
      obtain ⟨rb, r14⟩ : ∃ r, R - qb * v1 = r := ⟨_, rfl⟩
      rw [r14] at E0
      have bqb0 := E0.1
      have brb0 := E0.2.1
      have brb1 := E0.2.2.1
      have bqvb0 : 0 ≤ qb * v1 := Int.mul_nonneg bqb0 (by omega)
      have bqvb1 : qb * v1 ≤ R := by omega
      have HE := hid E0
      clear E0 D eR bR
      go_wp2
      have R13 := hid r13
      clear r12 r13 r14
      clear t1 t2 t3 t4 t5 t6
      go_loop [18, 16] (fun a b => ∃ q r, a = .int .u64 q ∧ b = .int .u64 r ∧ Dv.Est R u0 Y v1 q r) (fun a _ => (intOf a).toNat)
      case atStart => exact ⟨qb, rb, by first | rfl | rw [R13.out], rfl, HE.out⟩
      case round =>
        clear bqb0 brb0 brb1 bqvb0 bqvb1 HE R13 br0 br1 bq0 bq1
        obtain ⟨q, r, rfl, rfl, E⟩ := hrel
        have br0 := E.2.1
        have br1 := E.2.2.1
        have bq0 := E.1
        have bq1 := est_le HO.out.nrm E bR1
        have W := ways HO.out.nrm BR.out.2 bz0 bz1 E
        clear E
        rcases W with c | c | c | c | c
        rotate_right 2
        · obtain ⟨t1, t2, t3, t4, E⟩ := c
          have HE := hid E
          clear E
          go_wp2
          go_round
          case rel => exact ⟨q - 1, r + v1, rfl, rfl, HE.out⟩
          case measure => simp [intOf]; omega
        · obtain ⟨t1, t2, t3, t4, E⟩ := c
          have HE := hid E
          obtain ⟨k0, k1⟩ := small_mul bq0 t1 bw0 bw1
          clear E
          go_wp2
          go_round
          case rel => exact ⟨q - 1, r + v1, rfl, rfl, HE.out⟩
          case measure => simp [intOf]; omega
        all_goals
          obtain ⟨t1, t2, t3, t4, t5, t6, q0, hq0, D⟩ := c
          try (have hsub : q = q0 := hq0; clear hsub; subst hq0)
          obtain ⟨R0, r15, bR0', eR0⟩ := rest_of D HO.out.bY
          have FIN := hid (Dv.whole HO.out.pos HO.out.eY HO.out.eN HO.out.eL ER.out eR0 bR0'.1 bR0'.2 (by omega))
          have bq00 := D.1
          have bq01 := D.2.1
          have bR00 := bR0'.1
          clear D eR0 bR0'
          go_wp2
          go_ret2
          exact ⟨ret_pair FIN.out.1.symm FIN.out.2.symm, Below.refl _ _⟩

/-- Div64: two limbs by one, the higher one below the divisor. -/
theorem div64 (hi lo y : Int) (w : World) (h0 : 0 ≤ hi) (hy : hi < y) (l0 : 0 ≤ lo) (l1 : lo < 18446744073709551616) (y1 : y < 18446744073709551616) :
    Calls Tryd.prog 54 #[.int .u64 hi, .int .u64 lo, .int .u64 y] w fun e w' => ∃ q r : Int, e = .returned (.tuple #[.int .u64 q, .int .u64 r]) ∧ (0 ≤ q ∧ q < 18446744073709551616 ∧ 0 ≤ r ∧ r < y) ∧ Hid (q * y + r = hi * 18446744073709551616 + lo) ∧ Below w.heap.size w w' := by
  obtain ⟨N, hN⟩ : ∃ N, N = hi * 18446744073709551616 + lo := ⟨_, rfl⟩
  have d1 := Int.emod_add_mul_ediv N y
  have d2 := Int.emod_nonneg N (show y ≠ 0 by omega)
  have d3 := Int.emod_lt_of_pos N (show 0 < y by omega)
  have d4 : 0 ≤ N / y := Int.ediv_nonneg (by omega) (by omega)
  have d5 : N / y < 18446744073709551616 := by
    rw [Int.ediv_lt_iff_lt_mul (by omega)]
    omega
  rw [Int.mul_comm] at d1
  have fin : ∀ (e : Ending) (w' : World), e = .returned (.tuple #[.int .u64 (N / y), .int .u64 (N % y)]) ∧ Below w.heap.size w w' → ∃ q r : Int, e = .returned (.tuple #[.int .u64 q, .int .u64 r]) ∧ (0 ≤ q ∧ q < 18446744073709551616 ∧ 0 ≤ r ∧ r < y) ∧ Hid (q * y + r = hi * 18446744073709551616 + lo) ∧ Below w.heap.size w w' :=
    fun e w' h => ⟨N / y, N % y, h.1, ⟨d4, d5, d2, d3⟩, show _ = _ by omega, h.2⟩
  by_cases hz : hi = 0
  · subst hz
    have : N = lo := by omega
    rw [this] at fin
    exact (div64_small lo y w l0 l1 (by omega) y1).mono fin
  · rw [hN] at fin
    exact (div64_big hi lo y w (by omega) hy l0 l1 y1).mono fin
end Go.Proofs.YtmihjiiagpkciaaDoor
