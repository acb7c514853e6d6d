/-
  Texts put together: Div1, Walk6, NTell, NShr, NTrimO.
-/
import Derived.Test.YtmglogncpfoldaaDoorLen
import Derived.Test.YtmglogncpfoldaaDoorNums
import Derived.Lib.ItoaNum
import Derived.Laws.Bits64b
import Derived.Deep.QuietTactic
import Derived.BigQuiet
import Derived.Test.YtmglogncpfoldaaDoorBare
import Derived.Test.YtmglogncpfoldaaDoorRA
import Derived.Test.YtmglogncpfoldaaDoorWalk4
namespace Go.Proofs.YtmglogncpfoldaaDoor
open Go.RowKit Go.Deep

theorem lead_any (x : Int) (l : Nat) (w : World) (h0 : 0 ≤ x) (h1 : x < 18446744073709551616) (hl : Lib.bitLen x.toNat = l) :
    Calls Tryd.prog 69 #[.int .u64 x] w fun e w' => e = .returned (.int .i64 (64 - (l : Int))) ∧ w' = w := by
  have L := len64 x w h0 h1
  rw [hl] at L
  have hl64 : l ≤ 64 := by rw [← hl]; exact bitLen_small _ (by omega)
  have HL := hid L
  clear L hl
  go_enter Tryd.func69, Tryd.ntmps69
  go_wp2_with fail
  refine HL.out.mono ?_
  rintro e w' ⟨rfl, rfl⟩
  go_wp2_with fail
  go_ret
  exact ⟨rfl, rfl⟩

set_option maxRecDepth 100000 in
set_option maxHeartbeats 1000000 in
theorem div64_small (lo y : Int) (w : World) (l0 : 0 ≤ lo) (l1 : lo < 18446744073709551616) (y0 : 0 < y) (y1 : y < 18446744073709551616) :
    Calls Tryd.prog 64 #[.int .u64 0, .int .u64 lo, .int .u64 y] w fun e w' => e = .returned (.tuple #[.int .u64 (lo / y), .int .u64 (lo % y)]) ∧ Below w.heap.size w w' := by
  have hy : (y == 0) = false := by rw [beq_eq_false_iff_ne]; omega
  go_enter Tryd.func64, Tryd.ntmps64
  go_wp2_with fail
  go_quiet (fail)
  go_wp2
  go_ret2
  exact ⟨rfl, ⟨rfl, rfl, rfl, Nat.le_refl _, fun _ _ => rfl⟩⟩

/-- The shift that brings a divisor's highest binary digit to the top. -/
theorem shift_facts (y : Int) (l : Nat) (y0 : 0 < y) (y1 : y < 18446744073709551616) (hl : Lib.bitLen y.toNat = l) : ∃ s : Nat, s + l = 64 ∧ s ≤ 63 ∧ 9223372036854775808 ≤ y * 2 ^ s ∧ y * 2 ^ s < 18446744073709551616 ∧ (0 : Int) < 2 ^ s ∧ (0 : Int) < 2 ^ (64 - s) ∧ (2 : Int) ^ s * 2 ^ (64 - s) = 18446744073709551616 := by
  obtain ⟨n, rfl⟩ := Int.eq_ofNat_of_zero_le (show 0 ≤ y by omega)
  rw [Int.toNat_natCast] at hl
  have hb := Lib.bitLenAux_bounds 64 n (by simpa using (show n < 18446744073709551616 by omega)) (by omega)
  rw [show Lib.bitLenAux 64 n = l from hl] at hb
  obtain ⟨b1, b2, b3⟩ := hb
  have hl64 : l ≤ 64 := by rw [← hl]; exact bitLen_small n (by omega)
  refine ⟨64 - l, by omega, by omega, ?_⟩
  have e1 : 2 ^ l * 2 ^ (64 - l) = 18446744073709551616 := by rw [← Nat.pow_add, show l + (64 - l) = 64 by omega]
  have e2 : 2 ^ (l - 1) * 2 ^ (64 - l) = 9223372036854775808 := by rw [← Nat.pow_add, show l - 1 + (64 - l) = 63 by omega]
  have p1 : 0 < 2 ^ (64 - l) := Nat.pow_pos (by omega)
  have p2 : 0 < 2 ^ l := Nat.pow_pos (by omega)
  have c1 : 2 ^ (l - 1) * 2 ^ (64 - l) ≤ n * 2 ^ (64 - l) := Nat.mul_le_mul_right _ b2
  have c2 : n * 2 ^ (64 - l) < 2 ^ l * 2 ^ (64 - l) := Nat.mul_lt_mul_of_pos_right b3 p1
  have hP : ((2 ^ (64 - l) : Nat) : Int) = (2 : Int) ^ (64 - l) := by simp
  have hQ : ((2 ^ (64 - (64 - l)) : Nat) : Int) = (2 : Int) ^ (64 - (64 - l)) := by simp
  rw [← hP, ← hQ, show 64 - (64 - l) = l by omega, ← Int.natCast_mul, ← Int.natCast_mul, Nat.mul_comm (2 ^ (64 - l)) (2 ^ l), e1]
  omega

theorem wrap_small (x : Int) (h0 : 0 ≤ x) (h1 : x < 18446744073709551616) : IntKind.u64.wrap x = x := by rw [IntKind.wrap_u64]; omega
theorem wrap_mod (x : Int) : IntKind.u64.wrap x = x % 18446744073709551616 := by rw [IntKind.wrap_u64]

theorem mask32 (x : Int) (h0 : 0 ≤ x) (h1 : x < 18446744073709551616) : bits .and .u64 x 4294967295 = x % 4294967296 := by
  obtain ⟨n, rfl⟩ := Int.eq_ofNat_of_zero_le h0
  have h := bits_and_u64_nat n 4294967295 (by omega) (by omega)
  have e : n &&& 4294967295 = n % 4294967296 := Nat.and_two_pow_sub_one_eq_mod n 32
  rw [e] at h
  rw [show (4294967295 : Int) = ((4294967295 : Nat) : Int) from rfl, h]
  omega

/-- Digits that don't meet: 'or' is a sum. -/
theorem or_sum (hi c : Int) (s : Nat) (h0 : 0 ≤ hi) (hc0 : 0 ≤ c) (hc : c < 2 ^ s) (h1 : hi * 2 ^ s < 18446744073709551616) (h2 : c < 18446744073709551616) : bits .or .u64 (hi * 2 ^ s) c = hi * 2 ^ s + c := by
  obtain ⟨a, rfl⟩ := Int.eq_ofNat_of_zero_le h0
  obtain ⟨b, rfl⟩ := Int.eq_ofNat_of_zero_le hc0
  have hP : (2 : Int) ^ s = ((2 ^ s : Nat) : Int) := by simp
  rw [hP] at hc h1 ⊢
  have hb : b < 2 ^ s := by omega
  rw [← Int.natCast_mul] at h1 ⊢
  have h := bits_or_u64_nat (a * 2 ^ s) b (by omega) (by omega)
  rw [h, Nat.mul_comm a, ← Nat.two_pow_add_eq_or_of_lt hb a]
  omega

/-- What the operands are, under the names that the walk gives them. -/
structure Ops (hi lo y : Int) (s : Nat) (Y v1 v0 A c U L u1 u0 : Int) : Prop where
  r1 : IntKind.u64.wrap (y * 2 ^ s) = Y
  r2 : Y / 4294967296 = v1
  r3 : bits .and .u64 Y 4294967295 = v0
  r4 : IntKind.u64.wrap (hi * 2 ^ s) = A
  r5 : lo / 2 ^ (64 - s) = c
  r6 : bits .or .u64 A c = U
  r7 : IntKind.u64.wrap (lo * 2 ^ s) = L
  r8 : L / 4294967296 = u1
  r9 : bits .and .u64 L 4294967295 = u0
  nrm : Dv.Nrm Y v1 v0
  bU : 0 ≤ U ∧ U < Y
  bL : 0 ≤ L ∧ L < 18446744073709551616
  eL : L = u1 * 4294967296 + u0
  b1 : 0 ≤ u1 ∧ u1 < 4294967296
  b0 : 0 ≤ u0 ∧ u0 < 4294967296
  bY : Y < 18446744073709551616
  pos : (0 : Int) < 2 ^ s
  eY : Y = y * 2 ^ s
  eN : U * 18446744073709551616 + L = (hi * 18446744073709551616 + lo) * 2 ^ s

theorem ops_of (hi lo y : Int) (l : Nat) (h0 : 0 < hi) (hy : hi < y) (l0 : 0 ≤ lo) (l1 : lo < 18446744073709551616) (y1 : y < 18446744073709551616) (hl : Lib.bitLen y.toNat = l) :
    ∃ (s : Nat) (Y v1 v0 A c U L u1 u0 : Int), s + l = 64 ∧ s ≤ 63 ∧ Ops hi lo y s Y v1 v0 A c U L u1 u0 := by
  obtain ⟨s, hs, hs63, hs1, hs2, hP, hQ, hPQ⟩ := shift_facts y l (by omega) y1 hl
  obtain ⟨m1, m2, m3, m4, m5, m6⟩ := Dv.moved hP hQ hPQ (by omega) hy l0 l1
  have hL : IntKind.u64.wrap (lo * 2 ^ s) = lo % 2 ^ (64 - s) * 2 ^ s := by rw [wrap_mod, m5]
  have hLb : 0 ≤ lo % 2 ^ (64 - s) * 2 ^ s ∧ lo % 2 ^ (64 - s) * 2 ^ s < 18446744073709551616 := by rw [← m5]; omega
  refine ⟨s, y * 2 ^ s, y * 2 ^ s / 4294967296, y * 2 ^ s % 4294967296, hi * 2 ^ s, lo / 2 ^ (64 - s), hi * 2 ^ s + lo / 2 ^ (64 - s), lo % 2 ^ (64 - s) * 2 ^ s, lo % 2 ^ (64 - s) * 2 ^ s / 4294967296, lo % 2 ^ (64 - s) * 2 ^ s % 4294967296, hs, hs63, ?_⟩
  exact {
    r1 := wrap_small _ (by omega) hs2
    r2 := rfl
    r3 := mask32 _ (by omega) hs2
    r4 := wrap_small _ m3 (by omega)
    r5 := rfl
    r6 := or_sum hi _ s (by omega) m1 m2 (by omega) (by omega)
    r7 := hL
    r8 := rfl
    r9 := mask32 _ hLb.1 hLb.2
    nrm := ⟨by omega, by omega, by omega, by omega, by omega⟩
    bU := ⟨by omega, m4⟩
    bL := hLb
    eL := by omega
    b1 := by omega
    b0 := by omega
    bY := hs2
    pos := hP
    eY := rfl
    eN := m6 }

theorem small_mul {q v0 : Int} (h0 : 0 ≤ q) (h : q < 4294967296) (g0 : 0 ≤ v0) (g : v0 < 4294967296) : 0 ≤ q * v0 ∧ q * v0 ≤ 18446744065119617025 :=
  ⟨Int.mul_nonneg h0 g0, Int.mul_le_mul (a := q) (b := v0) (c := 4294967295) (d := 4294967295) (by omega) (by omega) (by omega) (by omega)⟩

/-- The ways of one round. -/
theorem ways {U u Y v1 v0 q r : Int} (hY : Dv.Nrm Y v1 v0) (hUY : U < Y) (hu0 : 0 ≤ u) (hu : u < 4294967296) (h : Dv.Est U u Y v1 q r) :
    (4294967296 ≤ q ∧ 4294967296 ≤ q ∧ 4294967296 ≤ r + v1 ∧ 1 ≤ q ∧ 1 ≤ q ∧ 1 ≤ q ∧ ∃ q1, q - 1 = q1 ∧ Dv.Dig U u Y q1) ∨
    (q < 4294967296 ∧ 4294967296 * r + u < q * v0 ∧ 4294967296 ≤ r + v1 ∧ 1 ≤ q ∧ 0 ≤ q * v0 ∧ q * v0 ≤ 18446744065119617025 ∧ ∃ q1, q - 1 = q1 ∧ Dv.Dig U u Y q1) ∨
    (q < 4294967296 ∧ q * v0 ≤ 4294967296 * r + u ∧ q < 4294967296 ∧ 0 ≤ q ∧ 0 ≤ q * v0 ∧ q * v0 ≤ 18446744065119617025 ∧ ∃ q1, q = q1 ∧ Dv.Dig U u Y q1) ∨
    (4294967296 ≤ q ∧ 4294967296 ≤ q ∧ r + v1 < 4294967296 ∧ 1 ≤ q ∧ Dv.Est U u Y v1 (q - 1) (r + v1)) ∨
    (q < 4294967296 ∧ 4294967296 * r + u < q * v0 ∧ r + v1 < 4294967296 ∧ 1 ≤ q ∧ Dv.Est U u Y v1 (q - 1) (r + v1)) := by
  by_cases h1 : 4294967296 ≤ q
  · by_cases h2 : 4294967296 ≤ r + v1
    · exact .inl ⟨h1, h1, h2, by omega, by omega, by omega, _, rfl, Dv.dig_break hY hUY hu0 hu h (.inl h1) h2⟩
    · exact .inr (.inr (.inr (.inl ⟨h1, h1, by omega, by omega, Dv.est_on hY hUY hu0 hu h (.inl h1) (by omega)⟩)))
  · by_cases h3 : 4294967296 * r + u < q * v0
    · have hq := (Dv.est_down hY hUY hu0 hu h (.inr h3)).1
      by_cases h2 : 4294967296 ≤ r + v1
      · have hm := small_mul h.1 (show q < 4294967296 by omega) hY.2.1 hY.2.2.1
        exact .inr (.inl ⟨by omega, h3, h2, hq, hm.1, hm.2, _, rfl, Dv.dig_break hY hUY hu0 hu h (.inr h3) h2⟩)
      · exact .inr (.inr (.inr (.inr ⟨by omega, h3, by omega, hq, Dv.est_on hY hUY hu0 hu h (.inr h3) (by omega)⟩)))
    · have hm := small_mul h.1 (show q < 4294967296 by omega) hY.2.1 hY.2.2.1
      exact .inr (.inr (.inl ⟨by omega, by omega, by omega, h.1, hm.1, hm.2, _, rfl, Dv.dig_exit hY h (by omega) (by omega)⟩))

theorem est_le {U u Y v1 v0 q r : Int} (hY : Dv.Nrm Y v1 v0) (h : Dv.Est U u Y v1 q r) (hU : U < 18446744073709551616) : q < 18446744073709551616 := by
  have h1 : q * 1 ≤ q * v1 := Int.mul_le_mul_of_nonneg_left (by have := hY.2.2.2.1; omega) h.1
  have := h.2.2.2.1
  have := h.2.1
  omega

/-- What is left behind a digit, reckoned in 64 bits. -/
theorem rest_of {U u Y q : Int} (h : Dv.Dig U u Y q) (hY : Y < 18446744073709551616) :
    ∃ R, IntKind.u64.wrap (IntKind.u64.wrap (IntKind.u64.wrap (U * 4294967296) + u) - IntKind.u64.wrap (q * Y)) = R ∧ (0 ≤ R ∧ R < Y) ∧ R = U * 4294967296 + u - q * Y := by
  obtain ⟨h1, h2, h3, h4⟩ := h
  refine ⟨U * 4294967296 + u - q * Y, ?_, by omega, rfl⟩
  simp only [wrap_mod]
  omega

theorem ret_pair {a b c d : Int} (h1 : a = c) (h2 : b = d) : Ending.returned (.tuple #[.int .u64 a, .int .u64 b]) = .returned (.tuple #[.int .u64 c, .int .u64 d]) := by rw [h1, h2]

set_option maxRecDepth 100000 in
set_option maxHeartbeats 4000000 in
theorem div64_big (hi lo y : Int) (w : World) (h0 : 0 < hi) (hy : hi < y) (l0 : 0 ≤ lo) (l1 : lo < 18446744073709551616) (y1 : y < 18446744073709551616) :
    Calls Tryd.prog 64 #[.int .u64 hi, .int .u64 lo, .int .u64 y] w fun e w' => e = .returned (.tuple #[.int .u64 ((hi * 18446744073709551616 + lo) / y), .int .u64 ((hi * 18446744073709551616 + lo) % y)]) ∧ Below w.heap.size w w' := by
  have hy0 : (y == 0) = false := by rw [beq_eq_false_iff_ne]; omega
  have hh0 : (hi == 0) = false := by rw [beq_eq_false_iff_ne]; omega
  have hyh : decide (y ≤ hi) = false := by simp; omega
  obtain ⟨l, hl⟩ : ∃ l, Lib.bitLen y.toNat = l := ⟨_, rfl⟩
  have LE := hid (lead_any y l w (by omega) y1 hl)
  obtain ⟨s, Y, v1, v0, A, c, U, L, u1, u0, hs, hs63, O⟩ := ops_of hi lo y l h0 hy l0 l1 y1 hl
  have es : (64 - (l : Int)) = (s : Int) := by omega
  rw [es] at LE
  clear hl hs es
  have r1 := O.r1
  have r2 := O.r2
  have r3 := O.r3
  have r4 := O.r4
  have r5 := O.r5
  have r6 := O.r6
  have r7 := O.r7
  have r8 := O.r8
  have r9 := O.r9
  have E0 := Dv.est_first O.nrm O.bU.1 O.b1.1 O.b1.2
  obtain ⟨q, r10⟩ : ∃ q, U / v1 = q := ⟨_, rfl⟩
  rw [r10] at E0
  obtain ⟨r, r11⟩ : ∃ r, U - q * v1 = r := ⟨_, rfl⟩
  rw [r11] at E0
  have bv0 := O.nrm.2.2.2.1
  have bv1 := O.nrm.2.2.2.2
  have bw0 := O.nrm.2.1
  have bw1 := O.nrm.2.2.1
  have bU0 := O.bU.1
  have bU1 : U < 18446744073709551616 := by have := O.bU.2; have := O.bY; omega
  have bu0 := O.b1.1
  have bu1 := O.b1.2
  have bz0 := O.b0.1
  have bz1 := O.b0.2
  have bq0 := E0.1
  have br0 := E0.2.1
  have br1 := E0.2.2.1
  have bqv0 : 0 ≤ q * v1 := Int.mul_nonneg bq0 (by omega)
  have bqv1 : q * v1 ≤ U := by omega
  have HE := hid E0
  have HO := hid O
  clear E0 O
  go_enter Tryd.func64, Tryd.ntmps64
  go_wp2_with fail
  refine LE.out.mono ?_
  rintro e w' ⟨rfl, rfl⟩
  go_wp2_with fail
  have R10 := hid r10
  clear r1 r2 r3 r4 r5 r6 r7 r8 r9 r10 r11 hy0 hh0 hyh LE
  go_loop [15, 16] (fun a b => ∃ q r, a = .int .u64 q ∧ b = .int .u64 r ∧ Dv.Est U u1 Y v1 q r) (fun a _ => (intOf a).toNat)
  case atStart => exact ⟨q, r, by rw [R10.out], rfl, HE.out⟩
  case round =>
    clear bq0 br0 br1 bqv0 bqv1 HE R10
    obtain ⟨q, r, rfl, rfl, E⟩ := hrel
    have br0 := E.2.1
    have br1 := E.2.2.1
    have bq0 := E.1
    have bq1 := est_le HO.out.nrm E bU1
    have W := ways HO.out.nrm HO.out.bU.2 bu0 bu1 E
    clear E
    rcases W with c | c | c | c | c
    rotate_right 2
    · obtain ⟨t1, t2, t3, t4, E⟩ := c
      have HE := hid E
      clear E
      go_wp2
      go_round
      case rel => exact ⟨q - 1, r + v1, rfl, rfl, HE.out⟩
      case measure => simp [intOf]; omega
    · obtain ⟨t1, t2, t3, t4, E⟩ := c
      have HE := hid E
      obtain ⟨k0, k1⟩ := small_mul bq0 t1 bw0 bw1
      clear E
      go_wp2
      go_round
      case rel => exact ⟨q - 1, r + v1, rfl, rfl, HE.out⟩
      case measure => simp [intOf]; omega
    all_goals
      obtain ⟨t1, t2, t3, t4, t5, t6, q1, hq1, D⟩ := c
      try (have hsub : q = q1 := hq1; clear hsub; subst hq1)
      obtain ⟨R, r12, bR, eR⟩ := rest_of D HO.out.bY
      have D1 := hid D
      have BR := hid bR
      have ER := hid eR
      have bq10 := D.1
      have bq11 := D.2.1
      have bR0 := bR.1
      have bR1 : R < 18446744073709551616 := by have := HO.out.bY; omega
      have E0 := Dv.est_first HO.out.nrm bR0 bz0 bz1
      obtain ⟨qb, r13⟩ : ∃ q, R / v1 = q := ⟨_, rfl⟩
      rw [r13] at E0
      obtain ⟨rb, r14⟩ : ∃ r, R - qb * v1 = r := ⟨_, rfl⟩
      rw [r14] at E0
      have bqb0 := E0.1
      have brb0 := E0.2.1
      have brb1 := E0.2.2.1
      have bqvb0 : 0 ≤ qb * v1 := Int.mul_nonneg bqb0 (by omega)
      have bqvb1 : qb * v1 ≤ R := by omega
      have HE := hid E0
      clear E0 D eR bR
      go_wp2
      have R13 := hid r13
      clear r12 r13 r14
      clear t1 t2 t3 t4 t5 t6
      go_loop [18, 16] (fun a b => ∃ q r, a = .int .u64 q ∧ b = .int .u64 r ∧ Dv.Est R u0 Y v1 q r) (fun a _ => (intOf a).toNat)
      case atStart => exact ⟨qb, rb, by first | rfl | rw [R13.out], rfl, HE.out⟩
      case round =>
        clear bqb0 brb0 brb1 bqvb0 bqvb1 HE R13 br0 br1 bq0 bq1
        obtain ⟨q, r, rfl, rfl, E⟩ := hrel
        have br0 := E.2.1
        have br1 := E.2.2.1
        have bq0 := E.1
        have bq1 := est_le HO.out.nrm E bR1
        have W := ways HO.out.nrm BR.out.2 bz0 bz1 E
        clear E
        rcases W with c | c | c | c | c
        rotate_right 2
        · obtain ⟨t1, t2, t3, t4, E⟩ := c
          have HE := hid E
          clear E
          go_wp2
          go_round
          case rel => exact ⟨q - 1, r + v1, rfl, rfl, HE.out⟩
          case measure => simp [intOf]; omega
        · obtain ⟨t1, t2, t3, t4, E⟩ := c
          have HE := hid E
          obtain ⟨k0, k1⟩ := small_mul bq0 t1 bw0 bw1
          clear E
          go_wp2
          go_round
          case rel => exact ⟨q - 1, r + v1, rfl, rfl, HE.out⟩
          case measure => simp [intOf]; omega
        all_goals
          obtain ⟨t1, t2, t3, t4, t5, t6, q0, hq0, D⟩ := c
          try (have hsub : q = q0 := hq0; clear hsub; subst hq0)
          obtain ⟨R0, r15, bR0', eR0⟩ := rest_of D HO.out.bY
          have FIN := hid (Dv.whole HO.out.pos HO.out.eY HO.out.eN HO.out.eL ER.out eR0 bR0'.1 bR0'.2 (by omega))
          have bq00 := D.1
          have bq01 := D.2.1
          have bR00 := bR0'.1
          clear D eR0 bR0'
          go_wp2
          go_ret2
          exact ⟨ret_pair FIN.out.1.symm FIN.out.2.symm, Below.refl _ _⟩

/-- Div64: two limbs by one, the higher one below the divisor. -/
theorem div64 (hi lo y : Int) (w : World) (h0 : 0 ≤ hi) (hy : hi < y) (l0 : 0 ≤ lo) (l1 : lo < 18446744073709551616) (y1 : y < 18446744073709551616) :
    Calls Tryd.prog 64 #[.int .u64 hi, .int .u64 lo, .int .u64 y] w fun e w' => ∃ q r : Int, e = .returned (.tuple #[.int .u64 q, .int .u64 r]) ∧ (0 ≤ q ∧ q < 18446744073709551616 ∧ 0 ≤ r ∧ r < y) ∧ Hid (q * y + r = hi * 18446744073709551616 + lo) ∧ Below w.heap.size w w' := by
  obtain ⟨N, hN⟩ : ∃ N, N = hi * 18446744073709551616 + lo := ⟨_, rfl⟩
  have d1 := Int.emod_add_mul_ediv N y
  have d2 := Int.emod_nonneg N (show y ≠ 0 by omega)
  have d3 := Int.emod_lt_of_pos N (show 0 < y by omega)
  have d4 : 0 ≤ N / y := Int.ediv_nonneg (by omega) (by omega)
  have d5 : N / y < 18446744073709551616 := by
    rw [Int.ediv_lt_iff_lt_mul (by omega)]
    omega
  rw [Int.mul_comm] at d1
  have fin : ∀ (e : Ending) (w' : World), e = .returned (.tuple #[.int .u64 (N / y), .int .u64 (N % y)]) ∧ Below w.heap.size w w' → ∃ q r : Int, e = .returned (.tuple #[.int .u64 q, .int .u64 r]) ∧ (0 ≤ q ∧ q < 18446744073709551616 ∧ 0 ≤ r ∧ r < y) ∧ Hid (q * y + r = hi * 18446744073709551616 + lo) ∧ Below w.heap.size w w' :=
    fun e w' h => ⟨N / y, N % y, h.1, ⟨d4, d5, d2, d3⟩, show _ = _ by omega, h.2⟩
  by_cases hz : hi = 0
  · subst hz
    have : N = lo := by omega
    rw [this] at fin
    exact (div64_small lo y w l0 l1 (by omega) y1).mono fin
  · rw [hN] at fin
    exact (div64_big hi lo y w (by omega) hy l0 l1 y1).mono fin
end Go.Proofs.YtmglogncpfoldaaDoor

namespace Go.Proofs.YtmglogncpfoldaaDoor
open Go.RowKit Go.Deep

theorem ret_div {p : Option Addr} {a b : Nat} {r : Int} (h : a = b) : Ending.returned (.tuple #[.slice p a a, .int .u64 r, .int .i64 0]) = .returned (.tuple #[.slice p b b, .int .u64 r, .int .i64 0]) := by rw [h]

/-- Behind the limbs from k on: quotient digits are in, below k the block is 0. -/
def DivInv (g n : Nat) (w : World) (xs : List Int) (d : Int) (k : Nat) (r : Int) (os : List Int) (wr : World) : Prop :=
  Own wr g os ∧ os.length = n ∧ Nm.Limbs os ∧ Nm.val os * d + Nm.pw k * r + Nm.val (xs.take k) = Nm.val xs ∧ (∀ i, i < k → os.getD i 0 = 0) ∧ (0 ≤ r ∧ r < d) ∧ Below g w wr

theorem DivInv.step {g n : Nat} {w : World} {xs : List Int} {d : Int} {t : Nat} {r : Int} {os : List Int} {wr w' : World} (h : DivInv g n w xs d (t + 1) r os wr) (hx : t < xs.length) (ht : t < n) (hb : Below wr.heap.size wr w') {q r' x : Int}
    (hxe : x = xs.getD t 0) (hq : q * d + r' = r * 18446744073709551616 + x) (hq0 : 0 ≤ q ∧ q < 18446744073709551616) (hr : 0 ≤ r' ∧ r' < d) :
    DivInv g n w xs d t r' (os.set t q) (w'.setCell ⟨g, t, none⟩ (.int .u64 q)) := by
  obtain ⟨h1, h2, h3, h4, h5, h6, h7⟩ := h
  have hlt := h1.lt
  refine ⟨(h1.below hb hlt).set t q, by simpa using h2, h3.set t hq0.1 hq0.2, ?_, ?_, hr, ?_⟩
  · rw [Nm.val_set _ _ _ (by omega), h5 t (by omega), Int.sub_zero, Int.add_mul, Int.mul_assoc]
    rw [Nm.val_take_succ xs t hx, ← hxe, Nm.pw_succ] at h4
    have e : Nm.pw t * (q * d + r') = Nm.pw t * (r * 18446744073709551616 + x) := by rw [hq]
    rw [Int.mul_add, Int.mul_add] at e
    have e2 : 18446744073709551616 * Nm.pw t * r = Nm.pw t * (r * 18446744073709551616) := by rw [Int.mul_assoc, Int.mul_left_comm, Int.mul_comm 18446744073709551616 r]
    omega
  · intro i hi
    rw [Nm.getD_set _ _ _ _ (by omega), if_neg (by omega)]
    exact h5 i (by omega)
  · exact h7.trans ((hb.mono (Nat.le_of_lt hlt)).setCell (p := ⟨g, t, none⟩) (Nat.le_refl _) _)

set_option maxRecDepth 100000 in
set_option maxHeartbeats 1000000 in
theorem divSmall_ok (p : Option Addr) (n cap : Nat) (zs : List Int) (d : Int) (w : World) (ha : Arg w p n cap zs) (tz : Nm.tsize zs ≤ 4096) (hd0 : 0 < d) (hd1 : d < 18446744073709551616) :
    Calls Tryd.prog 40 #[.slice p n cap, .int .u64 d] w fun e w' =>
      ∃ r os rest, e = .returned (.tuple #[.slice r (List.length os) (List.length os), .int .u64 rest, .int .i64 0]) ∧ Ans w.heap.size w' r os (Nm.val os) ∧ (0 ≤ rest ∧ rest < d) ∧ Hid (Nm.val os * d + rest = Nm.val zs) ∧ Below w.heap.size w w' := by
  obtain ⟨a1, a2, a3, a4, a5⟩ := ha
  obtain ⟨N, HN⟩ : ∃ N, Hid (Nm.tsize zs = N) := ⟨_, rfl⟩
  have T1 := limited_ok p n cap zs w a1 a2 (by omega) a4 tz
  rw [HN.out] at T1
  have hN : N ≤ 4096 := by rw [← HN.out]; exact tz
  have L1 := hid ((Nm.trim_length zs).trans HN.out)
  have hmk := make64 N (by omega) w
  have ho : Own (w.alloc (.cells (madeCells #[.int .u64 0] N) 28)) w.heap.size (List.replicate N 0) := by
    rw [made_zero]; exact Own.alloc w _
  have hb0 : Below w.heap.size w (w.alloc (.cells (madeCells #[.int .u64 0] N) 28)) := (Below.refl _ _).alloc (Nat.le_refl _) _
  obtain ⟨W0, hW0⟩ : ∃ W0, w.alloc (.cells (madeCells #[.int .u64 0] N) 28) = W0 := ⟨_, rfl⟩
  have HB0 : Hid (Below w.heap.size w W0) := by rw [← hW0]; exact hb0
  have I0 : DivInv w.heap.size N w (Nm.trim zs) d N 0 (List.replicate N 0) W0 := by
    rw [← hW0]
    exact ⟨ho, by simp, Nm.Limbs.replicate _, by rw [Nm.val_replicate, Int.zero_mul, Int.mul_zero, List.take_of_length_le (by rw [L1.out]; omega)]; omega, fun i _ => getD_replicate _ _, ⟨by omega, hd0⟩, hb0⟩
  have hd : (d == 0) = false := by rw [beq_eq_false_iff_ne]; omega
  have A5 := hid a5.trim
  have A4 := hid a4.trim
  have V := hid (Nm.val_trim zs)
  have HT := hid T1
  clear T1 tz ho hb0 a4 a5
  rw [hW0] at hmk
  clear hW0
  have fin : ∀ (os : List Int) (r : Int) (wr : World), DivInv w.heap.size N w (Nm.trim zs) d 0 r os wr →
      Ans w.heap.size wr (some ⟨w.heap.size, 0, none⟩) (Nm.trim os) (Nm.val (Nm.trim os)) ∧ (0 ≤ r ∧ r < d) ∧ Hid (Nm.val (Nm.trim os) * d + r = Nm.val zs) ∧ Below w.heap.size w wr ∧ (Nm.trim os).length = Nm.tsize os := by
    intro os r wr I
    obtain ⟨i1, i2, i3, i4, i5, i6, i7⟩ := I
    refine ⟨⟨i1.lies.trim, i3.trim, by rw [Nm.trim_trim, Nm.trim_length], rfl, fun a h => by cases h; exact ⟨Nat.le_refl _, fun _ o => i1.free o⟩⟩, i6, ?_, i7, Nm.trim_length os⟩
    show _ = _
    rw [Nm.val_trim, ← V.out, ← i4]
    simp [Nm.pw, Nm.val]
  have FIN := hid fin
  clear fin
  by_cases h0 : N = 0
  · subst h0
    have hmk1 : (Instr.makeSlice 27 (.int .i64 0) (.int .i64 0)).run Tryd.prog w = .ok (.slice (some ⟨w.heap.size, 0, none⟩) 0 0) W0 := hmk
    clear hmk
    go_enter Tryd.func40, Tryd.ntmps40
    go_wp2_with fail
    refine HT.out.mono ?_
    rintro e w' ⟨rfl, rfl⟩
    go_wp2_with fail
    refine wp_loop_rounds 1 ?_
    rw [rounds_succ]
    go_wp2_with fail
    refine (trimmed_any (some ⟨w'.heap.size, 0, none⟩) 0 0 (List.replicate 0 0) _ rfl (Nat.le_refl _) (by omega) (Lies.nil _ _)).mono ?_
    rintro e w3 ⟨rfl, rfl⟩
    have F := FIN.out _ _ _ I0
    have HF := hid F
    clear F I0
    go_wp2_with fail
    go_ret3
    exact ⟨_, _, _, rfl, HF.out.1, HF.out.2.1, HF.out.2.2.1, HF.out.2.2.2.1⟩
  · obtain ⟨b, off, rfl, hbw, HC⟩ := A4.out.at (by rw [L1.out]; omega)
    go_enter Tryd.func40, Tryd.ntmps40
    go_wp2_with fail
    refine HT.out.mono ?_
    rintro e w' ⟨rfl, rfl⟩
    go_wp2_with fail
    go_loopw [9, 10] (fun a i wr => ∃ (j : Nat) (rr : Int) (os : List Int), j ≤ N ∧ i = .int .i64 ((j : Int) - 1) ∧ a = .int .u64 rr ∧ DivInv w'.heap.size N w' (Nm.trim zs) d j rr os wr) (fun _ i _ => (intOf i + 1).toNat)
    case atStart => exact ⟨N, 0, _, Nat.le_refl _, rfl, rfl, I0⟩
    case round =>
      clear I0 hmk
      obtain ⟨j, rr, os, hj, rfl, rfl, I⟩ := hrel
      by_cases hj0 : j = 0
      · subst hj0
        have F := FIN.out _ _ _ I
        have HF := hid F
        have TR := hid (trimmed_any (some ⟨w'.heap.size, 0, none⟩) N N os wr I.2.1 (Nat.le_refl _) (by omega) I.1.lies)
        clear F I
        go_wp2_with fail
        refine TR.out.mono ?_
        rintro e w3 ⟨rfl, rfl⟩
        go_wp2_with fail
        go_ret3
        exact ⟨some ⟨w'.heap.size, 0, none⟩, Nm.trim os, rr, ret_div HF.out.2.2.2.2.symm, HF.out.1, HF.out.2.1, HF.out.2.2.1, HF.out.2.2.2.1⟩
      · obtain ⟨t, rfl⟩ : ∃ t, j = t + 1 := ⟨j - 1, by omega⟩
        obtain ⟨x, hx, X⟩ : ∃ x, wr.cell? ⟨b, off + t, none⟩ = some (.int .u64 x) ∧ Hid (x = (Nm.trim zs).getD t 0) := ⟨_, (I.2.2.2.2.2.2.cell (p := ⟨b, off + t, none⟩) hbw).trans (HC.out t (by rw [L1.out]; omega)), rfl⟩
        have hx0 := A5.out.at t
        rw [← X.out] at hx0
        obtain ⟨hx0, hx1⟩ := hx0
        obtain ⟨hr0, hr1⟩ := I.2.2.2.2.2.1
        have htN : (t : Int) < (N : Int) := by omega
        go_wp2_with fail
        refine (div64 rr x d _ hr0 hr1 hx0 hx1 hd1).mono ?_
        rintro e w2 ⟨q, r', rfl, ⟨q0, q1, s0, s1⟩, E, hb⟩
        have I2 := I.step (by rw [L1.out]; omega) (by omega) hb X.out E.out ⟨q0, q1⟩ ⟨s0, s1⟩
        have ho2 := I.1.below hb I.1.lt
        obtain ⟨y, hyc⟩ : ∃ y, w2.cell? ⟨w'.heap.size, t, none⟩ = some (.int .u64 y) := ⟨_, ho2.cell t (by have := I.2.1; omega)⟩
        have hfr := ho2.free t
        clear I hx hb ho2
        go_wp2
        go_roundw
        case rel => exact ⟨t, r', _, by omega, by go_num, rfl, I2⟩
        case measure => simp [intOf]

/-- By nothing. -/
theorem divSmall_zero (p : Option Addr) (n cap : Nat) (zs : List Int) (w : World) (ha : Arg w p n cap zs) (tz : Nm.tsize zs ≤ 4096) :
    Calls Tryd.prog 40 #[.slice p n cap, .int .u64 0] w fun e w' => e = .returned (.tuple #[.slice none 0 0, .int .u64 0, .int .i64 4]) ∧ w' = w := by
  obtain ⟨a1, a2, a3, a4, a5⟩ := ha
  have HT := hid (limited_ok p n cap zs w a1 a2 (by omega) a4 tz)
  go_enter Tryd.func40, Tryd.ntmps40
  go_wp2_with fail
  refine HT.out.mono ?_
  rintro e w' ⟨rfl, rfl⟩
  go_wp2_with fail
  go_ret3
  exact ⟨rfl, rfl⟩

/-- Of an operand that is too big. -/
theorem divSmall_big (p : Option Addr) (n cap : Nat) (zs : List Int) (d : Int) (w : World) (ha : Arg w p n cap zs) (tz : 4096 < Nm.tsize zs) :
    Calls Tryd.prog 40 #[.slice p n cap, .int .u64 d] w fun e w' => e = .returned (.tuple #[.slice none 0 0, .int .u64 0, .int .i64 2]) ∧ w' = w := by
  obtain ⟨a1, a2, a3, a4, a5⟩ := ha
  have HT := hid (limited_big p n cap zs w a1 a2 (by omega) a4 tz)
  go_enter Tryd.func40, Tryd.ntmps40
  go_wp2_with fail
  refine HT.out.mono ?_
  rintro e w' ⟨rfl, rfl⟩
  go_wp2_with fail
  go_ret3
  exact ⟨rfl, rfl⟩
end Go.Proofs.YtmglogncpfoldaaDoor

namespace Go.Proofs.YtmglogncpfoldaaDoor
open Go.RowKit Go.Deep

theorem add_big (p q : Option Addr) (n cap m cap' : Nat) (zs ys : List Int) (w : World) (ha : Arg w p n cap zs) (hb : Arg w q m cap' ys) (hs : 4096 < Nm.tsize zs ∨ 4096 < Nm.tsize ys) :
    Calls Tryd.prog 13 #[.slice p n cap, .slice q m cap'] w fun e w' => e = .returned (.tuple #[.slice none 0 0, .int .i64 2]) ∧ w' = w := by
  obtain ⟨a1, a2, a3, a4, a5⟩ := ha
  obtain ⟨b1, b2, b3, b4, b5⟩ := hb
  have HT := hid (pair_big p q n cap m cap' zs ys w a1 a2 (by omega) a4 b1 b2 (by omega) b4 hs)
  clear hs
  go_enter Tryd.func13, Tryd.ntmps13
  go_wp2_with fail
  refine HT.out.mono ?_
  rintro e w' ⟨rfl, rfl⟩
  go_wp2_with fail
  go_ret2
  exact ⟨rfl, rfl⟩

theorem sub_big (p q : Option Addr) (n cap m cap' : Nat) (zs ys : List Int) (w : World) (ha : Arg w p n cap zs) (hb : Arg w q m cap' ys) (hs : 4096 < Nm.tsize zs ∨ 4096 < Nm.tsize ys) :
    Calls Tryd.prog 38 #[.slice p n cap, .slice q m cap'] w fun e w' => e = .returned (.tuple #[.slice none 0 0, .int .i64 2]) ∧ w' = w := by
  obtain ⟨a1, a2, a3, a4, a5⟩ := ha
  obtain ⟨b1, b2, b3, b4, b5⟩ := hb
  have HT := hid (pair_big p q n cap m cap' zs ys w a1 a2 (by omega) a4 b1 b2 (by omega) b4 hs)
  clear hs
  go_enter Tryd.func38, Tryd.ntmps38
  go_wp2_with fail
  refine HT.out.mono ?_
  rintro e w' ⟨rfl, rfl⟩
  go_wp2_with fail
  go_ret2
  exact ⟨rfl, rfl⟩

theorem mul_big (p q : Option Addr) (n cap m cap' : Nat) (zs ys : List Int) (w : World) (ha : Arg w p n cap zs) (hb : Arg w q m cap' ys) (hs : 4096 < Nm.tsize zs ∨ 4096 < Nm.tsize ys) :
    Calls Tryd.prog 14 #[.slice p n cap, .slice q m cap'] w fun e w' => e = .returned (.tuple #[.slice none 0 0, .int .i64 2]) ∧ w' = w := by
  obtain ⟨a1, a2, a3, a4, a5⟩ := ha
  obtain ⟨b1, b2, b3, b4, b5⟩ := hb
  have HT := hid (pair_big p q n cap m cap' zs ys w a1 a2 (by omega) a4 b1 b2 (by omega) b4 hs)
  clear hs
  go_enter Tryd.func14, Tryd.ntmps14
  go_wp2_with fail
  refine HT.out.mono ?_
  rintro e w' ⟨rfl, rfl⟩
  go_wp2_with fail
  go_ret2
  exact ⟨rfl, rfl⟩

theorem lshift_big (p : Option Addr) (n cap : Nat) (zs : List Int) (k : Int) (w : World) (ha : Arg w p n cap zs) (tz : 4096 < Nm.tsize zs) :
    Calls Tryd.prog 65 #[.slice p n cap, .int .i64 k] w fun e w' => e = .returned (.tuple #[.slice none 0 0, .int .i64 2]) ∧ w' = w := by
  obtain ⟨a1, a2, a3, a4, a5⟩ := ha
  have HT := hid (limited_big p n cap zs w a1 a2 (by omega) a4 tz)
  go_enter Tryd.func65, Tryd.ntmps65
  go_wp2_with fail
  refine HT.out.mono ?_
  rintro e w' ⟨rfl, rfl⟩
  go_wp2_with fail
  go_ret2
  exact ⟨rfl, rfl⟩

/-- A shift's operand is refused, with this error. -/
theorem lshift_bad (p : Option Addr) (n cap : Nat) (zs : List Int) (k : Int) (w : World) (ha : Arg w p n cap zs) (h : 4096 < Nm.tsize zs ∨ k < 0) (E : Int) (hE : E = if 4096 < Nm.tsize zs then 2 else 1) :
    Calls Tryd.prog 65 #[.slice p n cap, .int .i64 k] w fun e w' => e = .returned (.tuple #[.slice none 0 0, .int .i64 E]) ∧ w' = w := by
  by_cases tz : 4096 < Nm.tsize zs
  · rw [if_pos tz] at hE
    subst hE
    exact lshift_big p n cap zs k w ha tz
  · rw [if_neg tz] at hE
    subst hE
    exact lshift_neg p n cap zs k w ha (by omega) (by omega)

theorem shl_bad (p : Option Addr) (n cap : Nat) (zs : List Int) (k : Int) (w : World) (ha : Arg w p n cap zs) (h : 4096 < Nm.tsize zs ∨ k < 0) (E : Int) (hE : E = if 4096 < Nm.tsize zs then 2 else 1) :
    Calls Tryd.prog 41 #[.slice p n cap, .int .i64 k] w fun e w' => e = .returned (.tuple #[.slice none 0 0, .int .i64 E]) ∧ w' = w := by
  have HT := hid (lshift_bad p n cap zs k w ha h E hE)
  have h0 : (E == 0) = false := by rw [beq_eq_false_iff_ne, hE]; split <;> omega
  clear hE h
  go_enter Tryd.func41, Tryd.ntmps41
  go_wp2_with fail
  refine HT.out.mono ?_
  rintro e w' ⟨rfl, rfl⟩
  go_wp2_with fail
  go_ret2
  exact ⟨rfl, rfl⟩

theorem low_bad (p : Option Addr) (n cap : Nat) (zs : List Int) (k : Int) (w : World) (ha : Arg w p n cap zs) (h : 4096 < Nm.tsize zs ∨ k < 0) (E : Int) (hE : E = if 4096 < Nm.tsize zs then 2 else 1) :
    Calls Tryd.prog 44 #[.slice p n cap, .int .i64 k] w fun e w' => e = .returned (.tuple #[.slice none 0 0, .int .i64 E]) ∧ w' = w := by
  have HT := hid (lshift_bad p n cap zs k w ha h E hE)
  have h0 : (E == 0) = false := by rw [beq_eq_false_iff_ne, hE]; split <;> omega
  clear hE h
  go_enter Tryd.func44, Tryd.ntmps44
  go_wp2_with fail
  refine HT.out.mono ?_
  rintro e w' ⟨rfl, rfl⟩
  go_wp2_with fail
  go_ret2
  exact ⟨rfl, rfl⟩

theorem shr_bad (p : Option Addr) (n cap : Nat) (zs : List Int) (k : Int) (w : World) (ha : Arg w p n cap zs) (h : 4096 < Nm.tsize zs ∨ k < 0) (E : Int) (hE : E = if 4096 < Nm.tsize zs then 2 else 1) :
    Calls Tryd.prog 42 #[.slice p n cap, .int .i64 k] w fun e w' => e = .returned (.tuple #[.slice none 0 0, .bool false, .int .i64 E]) ∧ w' = w := by
  have HT := hid (lshift_bad p n cap zs k w ha h E hE)
  have h0 : (E == 0) = false := by rw [beq_eq_false_iff_ne, hE]; split <;> omega
  clear hE h
  go_enter Tryd.func42, Tryd.ntmps42
  go_wp2_with fail
  refine HT.out.mono ?_
  rintro e w' ⟨rfl, rfl⟩
  go_wp2_with fail
  go_ret3
  exact ⟨rfl, rfl⟩

theorem add_tell (p q : Option Addr) (n cap m cap' : Nat) (za zb : List Int) (w : World) (ha : Arg w p n cap za) (hb : Arg w q m cap' zb) :
    Calls Tryd.prog 13 #[.slice p n cap, .slice q m cap'] w fun e w' => Tells (4096 < Nm.tsize za ∨ 4096 < Nm.tsize zb ∨ Nm.pw 4096 ≤ Nm.val za + Nm.val zb) 2 (Nm.val za + Nm.val zb) w e w' := by
  by_cases h : 4096 < Nm.tsize za ∨ 4096 < Nm.tsize zb
  · refine (add_big p q n cap m cap' za zb w ha hb h).mono ?_
    rintro e w' ⟨rfl, rfl⟩
    exact Tells.bad (by rcases h with h | h; exact .inl h; exact .inr (.inl h)) (Below.refl _ _)
  · by_cases hs : Nm.pw 4096 ≤ Nm.val za + Nm.val zb
    · refine (add_over p q n cap m cap' za zb w ha hb (by omega) (by omega) hs).mono ?_
      rintro e w' ⟨rfl, hB⟩
      exact Tells.bad (.inr (.inr hs)) hB
    · refine (add_ok p q n cap m cap' za zb w ha hb (by omega)).mono ?_
      rintro e w' ⟨r, os, rfl, A, hB⟩
      exact Tells.good (by omega) A hB

theorem mul_tell (p q : Option Addr) (n cap m cap' : Nat) (za zb : List Int) (w : World) (ha : Arg w p n cap za) (hb : Arg w q m cap' zb) :
    Calls Tryd.prog 14 #[.slice p n cap, .slice q m cap'] w fun e w' => Tells (4096 < Nm.tsize za ∨ 4096 < Nm.tsize zb ∨ Nm.pw 4096 ≤ Nm.val za * Nm.val zb) 2 (Nm.val za * Nm.val zb) w e w' := by
  by_cases h : 4096 < Nm.tsize za ∨ 4096 < Nm.tsize zb
  · refine (mul_big p q n cap m cap' za zb w ha hb h).mono ?_
    rintro e w' ⟨rfl, rfl⟩
    exact Tells.bad (by rcases h with h | h; exact .inl h; exact .inr (.inl h)) (Below.refl _ _)
  · by_cases hs : Nm.pw 4096 ≤ Nm.val za * Nm.val zb
    · refine (mul_over p q n cap m cap' za zb w ha hb (by omega) (by omega) hs).mono ?_
      rintro e w' ⟨rfl, hB⟩
      exact Tells.bad (.inr (.inr hs)) hB
    · refine (mul_ok p q n cap m cap' za zb w ha hb (by omega) (by omega) (by omega)).mono ?_
      rintro e w' ⟨r, os, rfl, A, hB⟩
      exact Tells.good (by omega) A hB

theorem sub_tell (p q : Option Addr) (n cap m cap' : Nat) (za zb : List Int) (w : World) (ha : Arg w p n cap za) (hb : Arg w q m cap' zb) :
    Calls Tryd.prog 38 #[.slice p n cap, .slice q m cap'] w fun e w' => Tells ((4096 < Nm.tsize za ∨ 4096 < Nm.tsize zb) ∨ Nm.val za < Nm.val zb) (subErr za zb) (Nm.val za - Nm.val zb) w e w' := by
  by_cases h : 4096 < Nm.tsize za ∨ 4096 < Nm.tsize zb
  · have e2 : subErr za zb = 2 := if_pos h
    rw [e2]
    refine (sub_big p q n cap m cap' za zb w ha hb h).mono ?_
    rintro e w' ⟨rfl, rfl⟩
    exact Tells.bad (.inl h) (Below.refl _ _)
  · have e2 : subErr za zb = 10 := if_neg h
    rw [e2]
    by_cases hs : Nm.val za < Nm.val zb
    · refine (sub_below p q n cap m cap' za zb w ha hb (by omega) (by omega) hs).mono ?_
      rintro e w' ⟨rfl, hB⟩
      exact Tells.bad (.inr hs) hB
    · refine (sub_ok p q n cap m cap' za zb w ha hb (by omega) (by omega)).mono ?_
      rintro e w' ⟨r, os, rfl, A, hB⟩
      exact Tells.good (by omega) A hB

theorem mulAdd_tell (p : Option Addr) (n cap : Nat) (za : List Int) (mm cc : Int) (w : World) (ha : Arg w p n cap za) (hm0 : 0 ≤ mm) (hm1 : mm < 18446744073709551616) (hc0 : 0 ≤ cc) (hc1 : cc < 18446744073709551616) :
    Calls Tryd.prog 39 #[.slice p n cap, .int .u64 mm, .int .u64 cc] w fun e w' => Tells (4096 < Nm.tsize za ∨ Nm.pw 4096 ≤ Nm.val za * mm + cc) 2 (Nm.val za * mm + cc) w e w' := by
  by_cases h : 4096 < Nm.tsize za
  · refine (mulAdd_big p n cap za mm cc w ha h).mono ?_
    rintro e w' ⟨rfl, rfl⟩
    exact Tells.bad (.inl h) (Below.refl _ _)
  · refine (mulAdd_any p n cap za mm cc w ha (by omega) hm0 hm1 hc0 hc1).mono ?_
    rintro e w' ⟨h1, h2, hB⟩
    by_cases hs : Nm.pw 4096 ≤ Nm.val za * mm + cc
    · rw [h2 hs]
      exact Tells.bad (.inr hs) hB
    · obtain ⟨r, os, rfl, A⟩ := h1 (by omega)
      exact Tells.good (by omega) A hB

theorem shl_tell (p : Option Addr) (n cap : Nat) (za : List Int) (kk : Int) (w : World) (ha : Arg w p n cap za) (hk1 : kk ≤ 9223372036854775807) :
    Calls Tryd.prog 41 #[.slice p n cap, .int .i64 kk] w fun e w' => Tells (shlBad za kk) (shlErr za kk) (Nm.val za * 2 ^ kk.toNat) w e w' := by
  by_cases h : 4096 < Nm.tsize za ∨ kk < 0
  · have e2 : shlErr za kk = if 4096 < Nm.tsize za then 2 else 1 := by
      unfold shlErr
      by_cases h1 : 4096 < Nm.tsize za
      · rw [if_pos h1, if_pos h1]
      · rw [if_neg h1, if_neg h1, if_pos (by omega)]
    refine (shl_bad p n cap za kk w ha h _ e2).mono ?_
    rintro e w' ⟨rfl, rfl⟩
    exact Tells.bad (by rcases h with h | h; exact .inl h; exact .inr (.inl h)) (Below.refl _ _)
  · have e2 : shlErr za kk = 2 := by
      unfold shlErr
      rw [if_neg (by omega), if_neg (by omega)]
    rw [e2]
    by_cases hs : Nm.pw 4096 ≤ Nm.val za * 2 ^ kk.toNat
    · refine (shl_over p n cap za kk kk.toNat w ha (by omega) (by omega) hk1 hs).mono ?_
      rintro e w' ⟨rfl, rfl⟩
      exact Tells.bad (.inr (.inr hs)) (Below.refl _ _)
    · refine (shl_any p n cap za kk kk.toNat w ha (by omega) (by omega) (by omega)).mono ?_
      rintro e w' ⟨r, os, rfl, A, hB⟩
      refine Tells.good ?_ A hB
      rintro (h1 | h1 | h1)
      · exact h (.inl h1)
      · exact h (.inr h1)
      · exact hs h1
end Go.Proofs.YtmglogncpfoldaaDoor

namespace Go.Proofs.YtmglogncpfoldaaDoor
open Go.RowKit Go.Deep

/-- The error of a shift that is refused. -/
def shErr (za : List Int) : Int := if 4096 < Nm.tsize za then 2 else 1

/-- What Shr answers. -/
def ShrSays (za : List Int) (kk : Int) (w : World) (e : Ending) (w' : World) : Prop :=
  ∃ r os B f, e = .returned (.tuple #[.slice r (List.length os) (List.length os), .bool B, .int .i64 f]) ∧ (((4096 < Nm.tsize za ∨ kk < 0) ∧ f = shErr za ∧ B = false ∧ os = [] ∧ r = none) ∨ (¬ (4096 < Nm.tsize za ∨ kk < 0) ∧ f = 0 ∧ B = decide (Nm.val za % 2 ^ kk.toNat ≠ 0) ∧ Ans w.heap.size w' r os (Nm.val za / 2 ^ kk.toNat))) ∧ Below w.heap.size w w'

theorem trl_lt {v : Int} {t k : Nat} (h : Nm.Trl v t) (h0 : 0 < v) : decide ((t : Int) < (k : Int)) = decide (v % 2 ^ k ≠ 0) := by
  rcases h with ⟨c, _⟩ | ⟨m, hm⟩
  · omega
  rw [Bool.eq_iff_iff]
  simp only [decide_eq_true_eq]
  constructor
  · intro hlt hz
    obtain ⟨q, hq⟩ := Int.dvd_of_emod_eq_zero hz
    obtain ⟨d, rfl⟩ : ∃ d, k = t + (d + 1) := ⟨k - t - 1, by omega⟩
    rw [Nm.two_add, Int.mul_assoc] at hq
    have hp := Nm.two_pos t
    have e : 2 * m + 1 = 2 ^ (d + 1) * q := Int.eq_of_mul_eq_mul_left (by omega) (hm.symm.trans hq)
    exact Nm.odd_unique e
  · intro hz
    rcases Nat.lt_or_ge t k with c | c
    · omega
    · exfalso
      apply hz
      obtain ⟨d, rfl⟩ : ∃ d, t = k + d := ⟨t - k, by omega⟩
      rw [hm, Nm.two_add, Int.mul_assoc]
      exact Int.mul_emod_right _ _

set_option maxHeartbeats 1000000 in
theorem refShr_any (p : Option Addr) (n cap : Nat) (za : List Int) (kk : Int) (w : World) (ha : Arg w p n cap za) (hk1 : kk ≤ 9223372036854775807) :
    Calls Tryd.prog 28 #[.slice p n cap, .int .i64 kk] w fun e w' => ShrSays za kk w e w' := by
  have HA := hid ha
  by_cases h1 : 4096 < Nm.tsize za
  · have S1 := hid (refBig_is true p n cap za w ha (by simpa using h1))
    have E : Hid (ShrSays za kk w (.returned (.tuple #[.slice none 0 0, .bool false, .int .i64 2])) w) := ⟨none, [], false, 2, rfl, .inl ⟨.inl h1, by rw [shErr, if_pos h1], rfl, rfl, rfl⟩, Below.refl _ _⟩
    clear ha h1 HA
    go_enter Tryd.func28, Tryd.ntmps28
    go_wp2_with fail
    refine S1.out.mono ?_
    rintro e w' ⟨rfl, rfl⟩
    go_wp2
    go_ret3
    exact E.out
  have S1 := hid (refBig_is false p n cap za w ha (by simp; omega))
  by_cases h2 : kk < 0
  · have E : Hid (ShrSays za kk w (.returned (.tuple #[.slice none 0 0, .bool false, .int .i64 1])) w) := ⟨none, [], false, 1, rfl, .inl ⟨.inr h2, by rw [shErr, if_neg h1], rfl, rfl, rfl⟩, Below.refl _ _⟩
    clear ha h1 HA
    go_enter Tryd.func28, Tryd.ntmps28
    go_wp2_with fail
    refine S1.out.mono ?_
    rintro e w' ⟨rfl, rfl⟩
    go_wp2
    go_ret3
    exact E.out
  have T1 : Hid (Nm.tsize za ≤ 4096) := by show _ ≤ _; omega
  have x0 := hid (Nm.val_bd za ha.2.2.2.2).1
  have x1 := Shut.mk ((Nm.tsize_le_iff ha.2.2.2.2 4096).1 T1.out)
  obtain ⟨k, HK⟩ : ∃ k : Nat, Hid (kk = (k : Int)) := ⟨kk.toNat, by show _ = _; omega⟩
  have HKN : Hid (kk.toNat = k) := by have := HK.out; show _ = _; omega
  have NB : Hid (¬ (4096 < Nm.tsize za ∨ kk < 0)) := by show ¬ _; omega
  have DR : Hid (k ≤ 262144 → Calls Tryd.prog 56 #[.slice p n cap, .int .i64 kk] w fun e w' => ∃ r os, e = .returned (.slice r (List.length os) (List.length os)) ∧ Ans w.heap.size w' r os (Nm.val za / 2 ^ k) ∧ Below w.heap.size w w') := fun h => drop_any p n cap za kk k w ha (by have := T1.out; omega) HK.out h
  have FIN : Hid (∀ w' r os B, B = decide (Nm.val za % 2 ^ k ≠ 0) → Ans w.heap.size w' r os (Nm.val za / 2 ^ k) → Below w.heap.size w w' → ShrSays za kk w (.returned (.tuple #[.slice r (List.length os) (List.length os), .bool B, .int .i64 0])) w') := by
    intro w' r os B hB hA hb
    exact ⟨r, os, B, 0, rfl, .inr ⟨NB.out, rfl, by rw [HKN.out]; exact hB, by rw [HKN.out]; exact hA⟩, hb⟩
  clear ha h1
  go_enter Tryd.func28, Tryd.ntmps28
  go_wp2_with fail
  refine S1.out.mono ?_
  rintro e w' ⟨rfl, rfl⟩
  go_wp2_with fail
  refine (refBitLen_any p n cap za _ HA.out).mono ?_
  rintro e w2 ⟨⟨L, rfl, BL⟩, rfl⟩
  have HBL := hid BL
  have lL := blen_le BL x0.out x1.out
  clear BL
  by_cases hL : (L : Int) ≤ kk
  · have D : Hid (Below w2.heap.size w2 (w2.alloc (.cells #[] 28))) := (Below.refl _ _).alloc (Nat.le_refl _) _
    have hlt : Shut (Nm.val za < 2 ^ k) := ⟨by
      have := HBL.out.1
      have := Nm.two_mono (show L ≤ k by have := HK.out; omega)
      omega⟩
    have E := hid (FIN.out (w2.alloc (.cells #[] 28)) (some ⟨w2.heap.size, 0, none⟩) [] (decide (0 < L)) (by
      rw [Int.emod_eq_of_lt x0.out hlt.out, Bool.eq_iff_iff]
      simp only [decide_eq_true_eq]
      rcases (show Nm.val za = 0 ∨ 0 < Nm.val za by have := x0.out; omega) with h | h
      · have := HBL.out.2.1 h; omega
      · have := (HBL.out.2.2 h).1; omega) (by rw [Int.ediv_eq_zero_of_lt x0.out hlt.out]; exact Ans.none _ _ _ (fun a h => by cases h; exact Nat.le_refl _)) D.out)
    clear FIN DR
    go_wp2
    go_ret3
    exact E.out
  · have VP : Shut (0 < Nm.val za) := ⟨by
      rcases (show Nm.val za = 0 ∨ 0 < Nm.val za by have := x0.out; omega) with h | h
      · have := HBL.out.2.1 h; have := HK.out; omega
      · exact h⟩
    have hkb : k ≤ 262144 := by have := HK.out; omega
    have DR2 := hid (DR.out hkb)
    clear DR
    go_wp2_with fail
    refine DR2.out.mono ?_
    rintro e w3 ⟨r, os, rfl, hA, hb1⟩
    have AA := hid (HA.out.below hb1 (Nat.le_refl _))
    have E := hid (fun B h => FIN.out w3 r os B h hA hb1)
    clear hA hb1 FIN DR2
    go_wp2_with fail
    refine (refTrail_any p n cap za w3 AA.out).mono ?_
    rintro e w4 ⟨⟨t, rfl, TT⟩, rfl⟩
    have HTT := hid TT
    clear TT
    obtain ⟨B, hB⟩ : ∃ B, decide ((t : Int) < kk) = B := ⟨_, rfl⟩
    have E2 := hid (E.out B (by rw [← hB]; have := trl_lt (k := k) HTT.out VP.out; rw [HK.out]; exact this))
    clear E HTT
    go_wp2
    go_ret3
    exact E2.out

theorem shr_tell (p : Option Addr) (n cap : Nat) (za : List Int) (kk : Int) (w : World) (ha : Arg w p n cap za) (hT : Tab w) :
    Calls Tryd.prog 42 #[.slice p n cap, .int .i64 kk] w fun e w' => ShrSays za kk w e w' := by
  by_cases h : 4096 < Nm.tsize za ∨ kk < 0
  · refine (shr_bad p n cap za kk w ha h _ rfl).mono ?_
    rintro e w' ⟨rfl, rfl⟩
    exact ⟨none, [], false, shErr za, rfl, .inl ⟨h, rfl, rfl, rfl, rfl⟩, Below.refl _ _⟩
  · refine (shr_any p n cap za kk kk.toNat w ha hT (by omega) (by omega)).mono ?_
    rintro e w' ⟨r, os, rfl, A, hB⟩
    exact ⟨r, os, _, 0, rfl, .inr ⟨h, rfl, rfl, A⟩, hB⟩
end Go.Proofs.YtmglogncpfoldaaDoor

namespace Go.Proofs.YtmglogncpfoldaaDoor
open Go.RowKit Go.Deep

set_option maxHeartbeats 1000000 in
/-- Trim: the trimmed list in new memory. -/
theorem refTrim_own (p : Option Addr) (n cap : Nat) (zs : List Int) (w : World) (ha : Arg w p n cap zs) :
    Calls Tryd.prog 15 #[.slice p n cap] w fun e w' => e = .returned (.slice (some ⟨w.heap.size, 0, none⟩) (Nm.tsize zs) (Nm.tsize zs)) ∧ Own w' w.heap.size (Nm.trim zs) ∧ Below w.heap.size w w' := by
  obtain ⟨a1, a2, a3, a4, a5⟩ := ha
  have tl := Nm.tsize_le zs
  obtain ⟨N, HN⟩ : ∃ N, Hid (Nm.tsize zs = N) := ⟨_, rfl⟩
  have hNn : N ≤ n := by have := HN.out; omega
  have FIN : Hid (∀ w', Grown w' w.heap.size (zs.take N) (N - N) → Below w.heap.size w w' → Ending.returned (.slice (some ⟨w.heap.size, 0, none⟩) N N) = .returned (.slice (some ⟨w.heap.size, 0, none⟩) (Nm.tsize zs) (Nm.tsize zs)) ∧ Own w' w.heap.size (Nm.trim zs) ∧ Below w.heap.size w w') := by
    intro w' hg hb
    have e : zs.take N = Nm.trim zs := by rw [← HN.out]; rfl
    rw [e, Grown, Nat.sub_self, List.replicate_zero, List.append_nil] at hg
    exact ⟨by rw [HN.out], hg, hb⟩
  have hmk := make64_room N (by omega) w
  have bm := hid ((Below.refl w.heap.size w).alloc (Nat.le_refl _) (.cells (madeCells #[.int .u64 0] N) 28))
  have gm := hid (Grown.made w N)
  generalize w.alloc (.cells (madeCells #[.int .u64 0] N) 28) = wm at hmk bm gm
  rcases a4 with rfl | ⟨b, off, rfl, hcell⟩
  · have hn0 : n = 0 := by simpa using a1.symm
    subst hn0
    obtain rfl : N = 0 := by omega
    have E := hid (FIN.out wm (by simpa using gm.out) bm.out)
    clear FIN a1 a5 gm
    rw [show ((0 : Nat) : Int) = 0 from rfl] at hmk
    go_enter Tryd.func15, Tryd.ntmps15
    go_wp2
    refine wp_loop_rounds 1 ?_
    rw [rounds_succ]
    go_wp2
    refine wp_loop_rounds 1 ?_
    rw [rounds_succ]
    go_wp2
    go_ret
    exact E.out
  · have H : Hid (zs.length = n) := a1
    have HC : Hid (∀ i, i < zs.length → w.cell? ⟨b, off + i, none⟩ = some (.int .u64 (zs.getD i 0))) := hcell
    have hbw : 0 < N → b < w.heap.size := fun h => cell_lt (hcell 0 (by omega))
    clear a1 hcell a5 tl
    go_enter Tryd.func15, Tryd.ntmps15
    go_wp2
    go_loop [3] (fun t => ∃ k : Nat, k ≤ n ∧ t = .int .i64 k ∧ Hid (∀ j, k ≤ j → zs.getD j 0 = 0)) (fun t => (intOf t).toNat)
    case atStart => exact ⟨n, Nat.le_refl _, rfl, fun j hj => by simp [List.getD, List.getElem?_eq_none (show zs.length ≤ j by have := H.out; omega)]⟩
    case round =>
      obtain ⟨k, hk, rfl, hz⟩ := hrel
      by_cases h0 : k = N
      · subst h0
        by_cases h1 : k = 0
        · subst h1
          rw [show ((0 : Nat) : Int) = 0 from rfl] at hmk
          go_wp2
          refine wp_loop_rounds 1 ?_
          rw [rounds_succ]
          go_wp2
          go_ret
          exact FIN.out wm (by simpa using gm.out) bm.out
        · obtain ⟨t, rfl⟩ : ∃ t, k = t + 1 := ⟨k - 1, by omega⟩
          obtain ⟨x, hx, hx0⟩ : ∃ x, w.cell? ⟨b, off + t, none⟩ = some (.int .u64 x) ∧ x ≠ 0 := by
            refine ⟨_, HC.out t (by have := H.out; omega), ?_⟩
            have := Nm.tsize_top zs (by have := HN.out; omega)
            rw [HN.out] at this
            exact this
          obtain ⟨N, hN, NE⟩ : ∃ N, N ≤ n ∧ Hid (t + 1 = N) := ⟨_, hk, rfl⟩
          have hmk2 : (Instr.makeSlice 27 (.int .i64 0) (.int .i64 ((t : Int) + 1))).run Tryd.prog w = .ok (.slice (some ⟨w.heap.size, 0, none⟩) 0 N) wm := by
            rw [NE.out] at hmk
            have e : (t : Int) + 1 = (N : Int) := by have := NE.out; omega
            rw [e]; exact hmk
          have hmk3 : (Instr.makeSlice 27 (.int .i64 0) (.int .i64 ((t + 1 : Nat) : Int))).run Tryd.prog w = .ok (.slice (some ⟨w.heap.size, 0, none⟩) 0 N) wm := by
            have e := NE.out
            have h := hmk
            rw [e] at h ⊢
            exact h
          have G0 : Hid (Grown wm w.heap.size (zs.take 0) (N - 0)) := by have := gm.out; rw [NE.out] at this; exact this
          have hbb := hbw (by omega)
          have FI : Hid (∀ w', Grown w' w.heap.size (zs.take N) (N - N) → Below w.heap.size w w' → Ending.returned (.slice (some ⟨w.heap.size, 0, none⟩) N N) = .returned (.slice (some ⟨w.heap.size, 0, none⟩) (Nm.tsize zs) (Nm.tsize zs)) ∧ Own w' w.heap.size (Nm.trim zs) ∧ Below w.heap.size w w') := by
            have := FIN.out; rw [NE.out] at this; exact this
          have e2 : (t : Int) + 1 = (N : Int) := by have := NE.out; omega
          have E2 := hid e2
          clear hmk hmk3 gm hbw FIN e2 hNn
          go_wp2
          go_loopw [4, 5] (fun a i wr => ∃ j : Nat, j ≤ N ∧ i = .int .i64 j ∧ a = .slice (some ⟨w.heap.size, 0, none⟩) j N ∧ Hid (Grown wr w.heap.size (zs.take j) (N - j)) ∧ Below w.heap.size w wr) (fun _ i _ => N - (intOf i).toNat)
          case atStart => exact ⟨0, Nat.zero_le _, rfl, rfl, G0.out, bm.out⟩
          case round =>
            obtain ⟨j, hj, rfl, rfl, G, hB⟩ := hrel
            by_cases hlt : j < N
            · obtain ⟨y, hy, Y⟩ : ∃ y, wr.cell? ⟨b, off + j, none⟩ = some (.int .u64 y) ∧ Hid (y = zs.getD j 0) := ⟨_, (hB.cell (p := ⟨b, off + j, none⟩) hbb).trans (HC.out j (by have := H.out; omega)), rfl⟩
              have G' := G.out
              rw [show N - j = (N - j - 1) + 1 by omega] at G'
              obtain ⟨w2, ap, gr, be, sz⟩ := push64 w.heap.size j (N - j - 1) N (zs.take j) y wr (by rw [List.length_take]; have := H.out; omega) (by omega) G'
              have AP := hid ap
              have GR := hid gr
              have BE := hid (hB.trans be)
              have hlt' : (j : Int) < (t : Int) + 1 := by have := E2.out; omega
              clear ap gr be sz hB G G'
              go_wp2_with (at_builtin; refine wpList_append_row rfl _ _ rfl AP.out (by rfl) (by rfl) ?_; clear AP)
              go_roundw
              case rel =>
                refine ⟨j + 1, by omega, by go_num, rfl, ?_, BE.out⟩
                have := GR.out
                rw [Y.out, ← Nm.take_snoc zs j (by have := H.out; omega)] at this
                exact this
              case measure => simp [intOf]; omega
            · obtain rfl : j = N := by omega
              have hlt' : ¬ (j : Int) < (t : Int) + 1 := by have := E2.out; omega
              have E := hid (FI.out wr G.out hB)
              clear FI G hB
              go_wp2
              go_ret
              exact E.out
      · obtain ⟨j, rfl⟩ : ∃ j, k = j + 1 := by
          refine ⟨k - 1, ?_⟩
          rcases Nat.eq_zero_or_pos k with hk0 | hk0
          · exfalso
            have := Nm.tsize_unique zs 0 (by rw [← hk0]; exact hz.out) (.inl rfl)
            have := HN.out
            omega
          · omega
        obtain ⟨x, hx, X⟩ : ∃ x, w.cell? ⟨b, off + j, none⟩ = some (.int .u64 x) ∧ Hid (x = zs.getD j 0) := ⟨_, HC.out j (by have := H.out; omega), rfl⟩
        have hx0 : x = 0 := by
          by_cases hx0 : x = 0
          · exact hx0
          · exfalso
            have := Nm.tsize_unique zs (j + 1) hz.out (.inr (by rw [Nat.add_sub_cancel, ← X.out]; exact hx0))
            have := HN.out
            omega
        subst hx0
        go_wp2
        go_round
        case rel =>
          refine ⟨j, by omega, rfl, fun i hi => ?_⟩
          by_cases e : i = j
          · subst e; exact X.out.symm
          · exact hz.out i (by omega)
        case measure => simp [intOf]
end Go.Proofs.YtmglogncpfoldaaDoor
