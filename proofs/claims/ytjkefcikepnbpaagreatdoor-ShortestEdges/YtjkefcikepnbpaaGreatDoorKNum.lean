import Derived.Test.YtjkefcikepnbpaaGreatDoorINum
/-
  The rows of the table, and what is rounded by them: plain numbers.
-/
namespace Go.Proofs.YtjkefcikepnbpaaGreatDoor
namespace Ie

/-- Between two numbers with one head, of 55 bits at least, and something behind it, there is no middle. -/
theorem head_side (h l l' : Int) (y : Int) (a b : Nat) (h0 : 18014398509481984 ≤ h) (l0 : 0 < l) (l1 : l < 18446744073709551616) (k0 : 0 < l') (k1 : l' < 18446744073709551616) (hy : 0 ≤ y) :
    (md y * 2 ^ b < (h * 18446744073709551616 + l) * 2 ^ a ∧ md y * 2 ^ b < (h * 18446744073709551616 + l') * 2 ^ a) ∨
      ((h * 18446744073709551616 + l) * 2 ^ a < md y * 2 ^ b ∧ (h * 18446744073709551616 + l') * 2 ^ a < md y * 2 ^ b) := by
  obtain ⟨M, E, hM, M0, M1⟩ := md_form y hy
  have ha := Nm.two_pos a
  have e64 : (2 : Int) ^ 64 = 18446744073709551616 := by decide
  rw [hM, Int.mul_assoc, ← Nm.two_add]
  rcases Nat.lt_or_ge (E + b) (a + 64) with g | g
  · left
    have g1 := Nm.two_mono (show E + b ≤ a + 64 by omega)
    rw [Nm.two_add a 64, e64] at g1
    have g2 : M * 2 ^ (E + b) ≤ M * (2 ^ a * 18446744073709551616) := Int.mul_le_mul_of_nonneg_left g1 (by omega)
    have g3 : M * (2 ^ a * 18446744073709551616) ≤ h * (2 ^ a * 18446744073709551616) := Int.mul_le_mul_of_nonneg_right (by omega) (by omega)
    have e1 : ∀ l : Int, (h * 18446744073709551616 + l) * 2 ^ a = h * (2 ^ a * 18446744073709551616) + l * 2 ^ a := by
      intro l; rw [Int.add_mul]; congr 1; ac_rfl
    rw [e1, e1]
    have := Int.mul_pos l0 ha
    have := Int.mul_pos k0 ha
    omega
  · obtain ⟨k, hk⟩ : ∃ k, E + b = k + 64 + a := ⟨E + b - 64 - a, by omega⟩
    rw [hk, Nm.two_add, Nm.two_add, e64, ← Int.mul_assoc, ← Int.mul_assoc]
    generalize M * 2 ^ k = R
    rcases Int.lt_or_le h R with g | g
    · right
      exact ⟨Int.mul_lt_mul_of_pos_right (by omega) ha, Int.mul_lt_mul_of_pos_right (by omega) ha⟩
    · left
      exact ⟨Int.mul_lt_mul_of_pos_right (by omega) ha, Int.mul_lt_mul_of_pos_right (by omega) ha⟩

theorem head_rnd {h l l' e x : Int} (h0 : 18014398509481984 ≤ h) (l0 : 0 < l) (l1 : l < 18446744073709551616) (k0 : 0 < l') (k1 : l' < 18446744073709551616)
    (hr : Rnd (h * 18446744073709551616 + l) 1 e false x) : Rnd (h * 18446744073709551616 + l') 1 e false x := by
  intro a b hab
  have hN := hr a b hab
  rw [Int.one_mul] at hN ⊢
  refine ⟨hN.1, fun hx => ?_, fun hx => ?_⟩
  · left
    rcases head_side h l l' (x - 1) a b h0 l0 l1 k0 k1 (by omega) with g | g
    · exact g.2
    · rcases hN.2.1 hx with k | k <;> omega
  · left
    rcases head_side h l l' x a b h0 l0 l1 k0 k1 hN.1.1 with g | g
    · rcases hN.2.2 hx with k | k <;> omega
    · exact g.2

/-- P and e are the row of q: P * 2^e <= 5^q < (P + 1) * 2^e, and the same just from 0 to 55. -/
structure Row (q P e : Int) : Prop where
  lo : 170141183460469231731687303715884105728 ≤ P
  hi : P < 340282366920938463463374607431768211456
  le : P * 2 ^ e.toNat * 5 ^ (-q).toNat ≤ 5 ^ q.toNat * 2 ^ (-e).toNat
  lt : 5 ^ q.toNat * 2 ^ (-e).toNat < (P + 1) * 2 ^ e.toNat * 5 ^ (-q).toNat
  eq : 0 ≤ q → q ≤ 55 → P * 2 ^ e.toNat * 5 ^ (-q).toNat = 5 ^ q.toNat * 2 ^ (-e).toNat
  ne : q < 0 ∨ 55 < q → P * 2 ^ e.toNat * 5 ^ (-q).toNat ≠ 5 ^ q.toNat * 2 ^ (-e).toNat
  eb : -1000 ≤ e ∧ e ≤ 1000

theorem ten_pow (n : Nat) : (10 : Int) ^ n = 2 ^ n * 5 ^ n := by rw [← Int.mul_pow, show (2 : Int) * 5 = 10 from rfl]

theorem five_pos (n : Nat) : (0 : Int) < 5 ^ n := Int.pow_pos (by decide)

theorem scale_le (w P D V : Int) (a a' ep en qp qn : Nat) (h : a + en + qn = a' + ep + qp) (w0 : 0 ≤ w) (D0 : 0 ≤ D)
    (h1 : P * 2 ^ ep * 5 ^ qn ≤ 5 ^ qp * 2 ^ en) (h2 : w * 10 ^ qp * D ≤ V * 10 ^ qn) : w * P * D * 2 ^ a ≤ V * 2 ^ a' := by
  have k : (0 : Int) < 2 ^ (en + qn) * 5 ^ qn := Int.mul_pos (Nm.two_pos _) (five_pos _)
  refine Int.le_of_mul_le_mul_right ?_ k
  have e1 : w * P * D * 2 ^ a * (2 ^ (en + qn) * 5 ^ qn) = w * D * 2 ^ (a' + qp) * (P * 2 ^ ep * 5 ^ qn) := by
    have : (2 : Int) ^ a * 2 ^ (en + qn) = 2 ^ (a' + qp) * 2 ^ ep := by rw [← Nm.two_add, ← Nm.two_add]; congr 1; omega
    calc w * P * D * 2 ^ a * (2 ^ (en + qn) * 5 ^ qn) = w * P * D * (2 ^ a * 2 ^ (en + qn)) * 5 ^ qn := by ac_rfl
      _ = w * P * D * (2 ^ (a' + qp) * 2 ^ ep) * 5 ^ qn := by rw [this]
      _ = _ := by ac_rfl
  have e2 : w * D * 2 ^ (a' + qp) * (5 ^ qp * 2 ^ en) = w * 10 ^ qp * D * 2 ^ (a' + en) := by
    rw [ten_pow, Nm.two_add, Nm.two_add]; ac_rfl
  have e3 : V * 10 ^ qn * 2 ^ (a' + en) = V * 2 ^ a' * (2 ^ (en + qn) * 5 ^ qn) := by
    rw [ten_pow, Nm.two_add, Nm.two_add]; ac_rfl
  rw [e1, ← e3]
  have s1 : w * D * 2 ^ (a' + qp) * (P * 2 ^ ep * 5 ^ qn) ≤ w * D * 2 ^ (a' + qp) * (5 ^ qp * 2 ^ en) :=
    Int.mul_le_mul_of_nonneg_left h1 (Int.mul_nonneg (Int.mul_nonneg w0 D0) (by have := Nm.two_pos (a' + qp); omega))
  have s2 : w * 10 ^ qp * D * 2 ^ (a' + en) ≤ V * 10 ^ qn * 2 ^ (a' + en) := Int.mul_le_mul_of_nonneg_right h2 (by have := Nm.two_pos (a' + en); omega)
  rw [e2] at s1
  exact Int.le_trans s1 s2

theorem scale_ge (w P D V : Int) (a a' ep en qp qn : Nat) (h : a + en + qn = a' + ep + qp) (w0 : 0 ≤ w) (D0 : 0 ≤ D)
    (h1 : 5 ^ qp * 2 ^ en ≤ P * 2 ^ ep * 5 ^ qn) (h2 : V * 10 ^ qn ≤ w * 10 ^ qp * D) : V * 2 ^ a' ≤ w * P * D * 2 ^ a := by
  have k : (0 : Int) < 2 ^ (en + qn) * 5 ^ qn := Int.mul_pos (Nm.two_pos _) (five_pos _)
  refine Int.le_of_mul_le_mul_right ?_ k
  have e1 : w * P * D * 2 ^ a * (2 ^ (en + qn) * 5 ^ qn) = w * D * 2 ^ (a' + qp) * (P * 2 ^ ep * 5 ^ qn) := by
    have : (2 : Int) ^ a * 2 ^ (en + qn) = 2 ^ (a' + qp) * 2 ^ ep := by rw [← Nm.two_add, ← Nm.two_add]; congr 1; omega
    calc w * P * D * 2 ^ a * (2 ^ (en + qn) * 5 ^ qn) = w * P * D * (2 ^ a * 2 ^ (en + qn)) * 5 ^ qn := by ac_rfl
      _ = w * P * D * (2 ^ (a' + qp) * 2 ^ ep) * 5 ^ qn := by rw [this]
      _ = _ := by ac_rfl
  have e2 : w * D * 2 ^ (a' + qp) * (5 ^ qp * 2 ^ en) = w * 10 ^ qp * D * 2 ^ (a' + en) := by
    rw [ten_pow, Nm.two_add, Nm.two_add]; ac_rfl
  have e3 : V * 10 ^ qn * 2 ^ (a' + en) = V * 2 ^ a' * (2 ^ (en + qn) * 5 ^ qn) := by
    rw [ten_pow, Nm.two_add, Nm.two_add]; ac_rfl
  rw [e1, ← e3]
  have s1 : w * D * 2 ^ (a' + qp) * (5 ^ qp * 2 ^ en) ≤ w * D * 2 ^ (a' + qp) * (P * 2 ^ ep * 5 ^ qn) :=
    Int.mul_le_mul_of_nonneg_left h1 (Int.mul_nonneg (Int.mul_nonneg w0 D0) (by have := Nm.two_pos (a' + qp); omega))
  have s2 : V * 10 ^ qn * 2 ^ (a' + en) ≤ w * 10 ^ qp * D * 2 ^ (a' + en) := Int.mul_le_mul_of_nonneg_right h2 (by have := Nm.two_pos (a' + en); omega)
  rw [e2] at s1
  exact Int.le_trans s2 s1

theorem le_or {a b : Int} {p : Prop} (h : a ≤ b) : a < b ∨ (a = b ∧ (p → p)) := by
  rcases Int.lt_or_eq_of_le h with h | h
  · exact .inl h
  · exact .inr ⟨h, id⟩

/-- The lower end lies at most at the number itself. -/
theorem Row.below {q P e : Int} (r : Row q P e) {w V D x y : Int} (w0 : 0 ≤ w) (D0 : 0 < D) (hx : Rnd (w * P) 1 (e + q) false x) (hy : Rnd V D 0 false y)
    (h : w * 10 ^ q.toNat * D ≤ V * 10 ^ (-q).toNat) : x ≤ y := by
  refine hx.mono (a := (e + q).toNat) (a' := (-(e + q)).toNat) (by decide) D0 hy (by omega) ?_
  rw [Int.mul_one]
  exact le_or (scale_le w P D V _ _ e.toNat (-e).toNat q.toNat (-q).toNat (by omega) w0 (by omega) r.le h)

theorem Row.above {q P e : Int} (r : Row q P e) {w V D x y : Int} (w0 : 0 ≤ w) (D0 : 0 < D) (hx : Rnd (w * (P + 1)) 1 (e + q) false x) (hy : Rnd V D 0 false y)
    (h : V * 10 ^ (-q).toNat ≤ w * 10 ^ q.toNat * D) : y ≤ x := by
  refine hy.mono (a := (-(e + q)).toNat) (a' := (e + q).toNat) D0 (by decide) hx (by omega) ?_
  rw [Int.mul_one]
  exact le_or (scale_ge w (P + 1) D V _ _ e.toNat (-e).toNat q.toNat (-q).toNat (by omega) w0 (by omega) (Int.le_of_lt r.lt) h)

theorem Row.above_eq {q P e : Int} (r : Row q P e) (q0 : 0 ≤ q) (q1 : q ≤ 55) {w V D x y : Int} (w0 : 0 ≤ w) (D0 : 0 < D) (hx : Rnd (w * P) 1 (e + q) false x) (hy : Rnd V D 0 false y)
    (h : V * 10 ^ (-q).toNat ≤ w * 10 ^ q.toNat * D) : y ≤ x := by
  refine hy.mono (a := (-(e + q)).toNat) (a' := (e + q).toNat) D0 (by decide) hx (by omega) ?_
  rw [Int.mul_one]
  exact le_or (scale_ge w P D V _ _ e.toNat (-e).toNat q.toNat (-q).toNat (by omega) w0 (by omega) (Int.le_of_eq (r.eq q0 q1).symm) h)

theorem five_odd : ∀ n : Nat, (5 : Int) ^ n % 2 = 1
  | 0 => rfl
  | n + 1 => by have := five_odd n; rw [Int.pow_succ]; omega

theorem two_five : ∀ n : Nat, (2 : Int) ^ n % 5 ≠ 0
  | 0 => by decide
  | n + 1 => by have := two_five n; rw [Int.pow_succ]; omega

theorem five_le {m n : Nat} (h : m ≤ n) : (5 : Int) ^ m ≤ 5 ^ n := by
  have h1 := Nat.pow_le_pow_right (show 0 < 5 by decide) h
  have e : ∀ k : Nat, ((5 ^ k : Nat) : Int) = 5 ^ k := by intro k; simp
  have := e m
  have := e n
  omega

theorem two_lt_of {a b : Nat} (h : (2 : Int) ^ a < 2 ^ b) : a < b := by
  rcases Nat.lt_or_ge a b with g | g
  · exact g
  · have := Nm.two_mono g; omega

theorem row_len {n L : Nat} (hn : n ≤ 342) (hL : Nm.BLen (5 ^ n) L) : 1 ≤ L ∧ L ≤ 800 ∧ (n ≤ 55 → L ≤ 128) ∧ (55 < n → 128 < L) := by
  have h1 := hL.2.2 (five_pos n)
  refine ⟨h1.1, ?_, fun h => ?_, fun h => ?_⟩
  · have g := five_le hn
    have k : (5 : Int) ^ 342 < 2 ^ 800 := by decide +kernel
    have := two_lt_of (a := L - 1) (b := 800) (by omega)
    omega
  · have g := five_le h
    have k : (5 : Int) ^ 55 < 2 ^ 128 := by decide +kernel
    have := two_lt_of (a := L - 1) (b := 128) (by omega)
    omega
  · have g := five_le (show 56 ≤ n from h)
    have k : (2 : Int) ^ 128 < 5 ^ 56 := by decide +kernel
    have := two_lt_of (a := 128) (b := L) (by have := hL.1; omega)
    omega

theorem e128 : (2 : Int) ^ 128 = 340282366920938463463374607431768211456 := by decide +kernel
theorem e127 : (2 : Int) ^ 127 = 170141183460469231731687303715884105728 := by decide +kernel

theorem row_up {n L k : Nat} (hn : n ≤ 308) (hL : Nm.BLen (5 ^ n) L) (hk : L + k = 128) : Row n (5 ^ n * 2 ^ k) ((L : Int) - 128) := by
  obtain ⟨l1, l2, l3, l4⟩ := row_len (by omega) hL
  have hp := Nm.two_pos k
  have b := (hL.2.2 (five_pos n)).2
  have t1 : ((L : Int) - 128).toNat = 0 := by omega
  have t2 : (-((L : Int) - 128)).toNat = k := by omega
  have t3 : (-(n : Int)).toNat = 0 := by omega
  have t4 : ((n : Int)).toNat = n := by omega
  have E : (5 : Int) ^ n * 2 ^ k * 2 ^ ((L : Int) - 128).toNat * 5 ^ (-(n : Int)).toNat = 5 ^ (n : Int).toNat * 2 ^ (-((L : Int) - 128)).toNat := by
    rw [t1, t2, t3, t4]; simp
  refine ⟨?_, ?_, Int.le_of_eq E, ?_, fun _ _ => E, fun h => ?_, by omega⟩
  · have g : (2 : Int) ^ (L - 1) * 2 ^ k ≤ 5 ^ n * 2 ^ k := Int.mul_le_mul_of_nonneg_right b (by omega)
    rw [← Nm.two_add, show L - 1 + k = 127 by omega, e127] at g
    exact g
  · have g : (5 : Int) ^ n * 2 ^ k < 2 ^ L * 2 ^ k := Int.mul_lt_mul_of_pos_right hL.1 hp
    rw [← Nm.two_add, hk, e128] at g
    exact g
  · rw [← E, t1, t3, Int.pow_zero, Int.pow_zero]; omega
  · exfalso
    have := l4 (by omega)
    omega

theorem row_down {n L k : Nat} (hn : n ≤ 308) (hL : Nm.BLen (5 ^ n) L) (hk : L = 128 + k) (k0 : 0 < k) : Row n (5 ^ n / 2 ^ k) ((L : Int) - 128) := by
  obtain ⟨l1, l2, l3, l4⟩ := row_len (by omega) hL
  have hp := Nm.two_pos k
  have b := (hL.2.2 (five_pos n)).2
  have t1 : ((L : Int) - 128).toNat = k := by omega
  have t2 : (-((L : Int) - 128)).toNat = 0 := by omega
  have t3 : (-(n : Int)).toNat = 0 := by omega
  have t4 : ((n : Int)).toNat = n := by omega
  have dm := Int.mul_ediv_add_emod (5 ^ n) (2 ^ k)
  have r0 := Int.emod_nonneg (5 ^ n) (show (2 : Int) ^ k ≠ 0 by omega)
  have r1 := Int.emod_lt_of_pos (5 ^ n) hp
  refine ⟨?_, ?_, ?_, ?_, fun h g => ?_, fun h => ?_, by omega⟩
  · rw [Int.le_ediv_iff_mul_le hp, ← e127, ← Nm.two_add, show 127 + k = L - 1 by omega]; exact b
  · rw [Int.ediv_lt_iff_lt_mul hp, ← e128, ← Nm.two_add, ← hk]; exact hL.1
  · rw [t1, t2, t3, t4, Int.pow_zero, Int.pow_zero, Int.mul_one, Int.mul_one, Int.mul_comm]; omega
  · rw [t1, t2, t3, t4, Int.pow_zero, Int.pow_zero, Int.mul_one, Int.mul_one, Int.add_mul, Int.one_mul, Int.mul_comm (5 ^ n / 2 ^ k)]; omega
  · exfalso
    have := l3 (by omega)
    omega
  · rw [t1, t2, t3, t4, Int.pow_zero, Int.pow_zero, Int.mul_one, Int.mul_one]
    obtain ⟨j, rfl⟩ : ∃ j, k = j + 1 := ⟨k - 1, by omega⟩
    have := five_odd n
    intro g
    rw [← g, Int.pow_succ, ← Int.mul_assoc] at this
    omega

theorem row_neg {n L : Nat} (hn : n ≤ 342) (n0 : 0 < n) (hL : Nm.BLen (5 ^ n) L) : Row (-(n : Int)) (2 ^ (L + 127) / 5 ^ n) (-((L : Int) + 127)) := by
  obtain ⟨l1, l2, l3, l4⟩ := row_len (by omega) hL
  have hp := five_pos n
  have b := (hL.2.2 (five_pos n)).2
  have t1 : (-((L : Int) + 127)).toNat = 0 := by omega
  have t2 : (-(-((L : Int) + 127))).toNat = L + 127 := by omega
  have t3 : (-(n : Int)).toNat = 0 := by omega
  have t4 : (-(-(n : Int))).toNat = n := by omega
  have dm := Int.mul_ediv_add_emod (2 ^ (L + 127)) (5 ^ n)
  have r0 := Int.emod_nonneg (2 ^ (L + 127)) (show (5 : Int) ^ n ≠ 0 by omega)
  have r1 := Int.emod_lt_of_pos (2 ^ (L + 127)) hp
  refine ⟨?_, ?_, ?_, ?_, fun h => by omega, fun _ => ?_, by omega⟩
  · rw [Int.le_ediv_iff_mul_le hp, ← e127, Nm.two_add, Int.mul_comm]
    exact Int.mul_le_mul_of_nonneg_right (Int.le_of_lt hL.1) (by have := Nm.two_pos 127; omega)
  · rw [Int.ediv_lt_iff_lt_mul hp, ← e128, show L + 127 = 128 + (L - 1) by omega, Nm.two_add]
    refine Int.mul_lt_mul_of_pos_left ?_ (Nm.two_pos 128)
    rcases Int.lt_or_eq_of_le b with g | g
    · exact g
    · exfalso
      have o := five_odd n
      rcases (show L - 1 = 0 ∨ 0 < L - 1 by omega) with h | h
      · rw [h, Int.pow_zero] at g
        have := five_le (show 1 ≤ n from n0)
        omega
      · rw [← g, show L - 1 = (L - 2) + 1 by omega, Int.pow_succ] at o
        omega
  · rw [t1, t2, t3, t4, Int.pow_zero, Int.pow_zero, Int.mul_one, Int.one_mul, Int.mul_comm]; omega
  · rw [t1, t2, t3, t4, Int.pow_zero, Int.pow_zero, Int.mul_one, Int.one_mul, Int.add_mul, Int.one_mul, Int.mul_comm (2 ^ (L + 127) / 5 ^ n)]; omega
  · rw [t1, t2, t3, t4, Int.pow_zero, Int.pow_zero, Int.mul_one, Int.one_mul]
    obtain ⟨j, rfl⟩ : ∃ j, n = j + 1 := ⟨n - 1, by omega⟩
    have := two_five (L + 127)
    intro g
    rw [← g, Int.pow_succ 5 j, ← Int.mul_assoc] at this
    omega

/-- What Step tells. -/
def Stp (w q : Int) (x : Int) (sure : Bool) : Prop :=
  (w = 0 ∧ x = 0 ∧ sure = true) ∨ (0 < w ∧ (q < -342 ∨ 308 < q) ∧ x = 0 ∧ sure = false) ∨
    (0 < w ∧ -342 ≤ q ∧ q ≤ 308 ∧ ∃ P e A B, Row q P e ∧ Rnd (w * P) 1 (e + q) false A ∧ ((0 ≤ q ∧ q ≤ 55 ∧ B = A) ∨ ((q < 0 ∨ 55 < q) ∧ Rnd (w * (P + 1)) 1 (e + q) false B)) ∧
      ((A = B ∧ x = A ∧ sure = true) ∨ (A ≠ B ∧ x = 0 ∧ sure = false)))

theorem Stp.le {w q x : Int} {sure : Bool} (h : Stp w q x sure) (hs : sure = true) (w0 : 0 ≤ w) {V D y : Int} (D0 : 0 < D) (hy : Rnd V D 0 false y)
    (hv : w * 10 ^ q.toNat * D ≤ V * 10 ^ (-q).toNat) : x ≤ y := by
  rcases h with ⟨_, rfl, _⟩ | ⟨_, _, _, rfl⟩ | ⟨_, _, _, P, e, A, B, r, hA, _, h⟩
  · exact hy.bd.1
  · cases hs
  · rcases h with ⟨_, rfl, _⟩ | ⟨_, _, rfl⟩
    · exact r.below w0 D0 hA hy hv
    · cases hs

theorem Stp.ge {w q x : Int} {sure : Bool} (h : Stp w q x sure) (hs : sure = true) (w0 : 0 ≤ w) {V D y : Int} (V0 : 0 ≤ V) (D0 : 0 < D) (hy : Rnd V D 0 false y)
    (hv : V * 10 ^ (-q).toNat ≤ w * 10 ^ q.toNat * D) : y ≤ x := by
  rcases h with ⟨rfl, rfl, _⟩ | ⟨_, _, _, rfl⟩ | ⟨_, _, _, P, e, A, B, r, hA, hB, h⟩
  · have p : (0 : Int) < 10 ^ (-q).toNat := Int.pow_pos (by decide)
    rw [Int.zero_mul, Int.zero_mul] at hv
    have hV : V = 0 := by
      rcases Int.lt_or_eq_of_le V0 with g | g
      · have := Int.mul_pos g p; omega
      · exact g.symm
    subst hV
    have := Rnd.one (a := 0) (a' := 0) D0 D0 hy (rnd_zero D 0 false D0) (by omega) rfl
    omega
  · cases hs
  · rcases h with ⟨rfl, rfl, _⟩ | ⟨_, _, rfl⟩
    · rcases hB with ⟨q0, q1, _⟩ | ⟨_, hB⟩
      · exact r.above_eq q0 q1 w0 D0 hA hy hv
      · exact r.above w0 D0 hB hy hv
    · cases hs

/-- Where Step is sure, it tells the number itself, rounded. -/
theorem Stp.true {w q x : Int} {sure : Bool} (h : Stp w q x sure) (hs : sure = true) (w0 : 0 ≤ w) {V D y : Int} (V0 : 0 ≤ V) (D0 : 0 < D) (hy : Rnd V D 0 false y)
    (hv : V * 10 ^ (-q).toNat = w * 10 ^ q.toNat * D) : x = y := by
  have := h.le hs w0 D0 hy (by omega)
  have := h.ge hs w0 V0 D0 hy (by omega)
  omega

theorem Stp.bd {w q x : Int} {sure : Bool} (h : Stp w q x sure) : 0 ≤ x ∧ x ≤ 9218868437227405312 := by
  rcases h with ⟨_, rfl, _⟩ | ⟨_, _, rfl, _⟩ | ⟨_, _, _, P, e, A, B, r, hA, _, h⟩
  · decide
  · decide
  · rcases h with ⟨_, rfl, _⟩ | ⟨_, rfl, _⟩
    · exact hA.bd
    · decide
end Ie
end Go.Proofs.YtjkefcikepnbpaaGreatDoor
