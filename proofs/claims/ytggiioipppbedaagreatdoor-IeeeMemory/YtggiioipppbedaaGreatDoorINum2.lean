import Derived.Test.YtggiioipppbedaaGreatDoorINum
/-
  Doubles as numbers: what the laws need.
-/
namespace Go.Proofs.YtggiioipppbedaaGreatDoor
namespace Ie

/-- A trifle above is a digit far below. -/
theorem rnd_far (n e v : Int) (hn : 0 < n) (h : Rnd (n * 2 ^ 64 + 1) 1 (e - 64) false v) : Rnd n 1 e true v := by
  obtain ⟨a', b, hab, hN⟩ := h.at
  refine Rnd.of (a := 64 + a') (b := b) (by omega) ?_
  rw [Int.one_mul] at hN ⊢
  have ha := Nm.two_pos a'
  have hb := Nm.two_pos b
  have fl : (n * 2 ^ 64 + 1) * 2 ^ a' = n * 2 ^ (64 + a') + 2 ^ a' := by rw [Int.add_mul, Int.one_mul, Int.mul_assoc, ← Nm.two_add]
  rw [fl] at hN
  refine ⟨hN.1, fun hx => ?_, fun hx => .inl ?_⟩
  · have g : md (v - 1) * 2 ^ b ≤ n * 2 ^ (64 + a') + 2 ^ a' := by rcases hN.2.1 hx with g | g <;> omega
    rcases (show md (v - 1) * 2 ^ b < n * 2 ^ (64 + a') ∨ md (v - 1) * 2 ^ b = n * 2 ^ (64 + a') ∨ n * 2 ^ (64 + a') < md (v - 1) * 2 ^ b by omega) with h | h | h
    · exact .inl h
    · exact .inr ⟨h, .inr rfl⟩
    · exfalso
      obtain ⟨M, E, hM, M0, M1⟩ := md_form (v - 1) (by omega)
      rw [hM, Int.mul_assoc, ← Nm.two_add] at g h
      have e54 : (2 : Int) ^ 54 = 18014398509481984 := by decide
      have lt : a' + 10 < E + b := by
        rcases Nat.lt_or_ge (a' + 10) (E + b) with h' | h'
        · exact h'
        · exfalso
          have hEb := Nm.two_pos (E + b)
          have g1 : M * 2 ^ (E + b) < 2 ^ 54 * 2 ^ (E + b) := Int.mul_lt_mul_of_pos_right (by omega) hEb
          rw [← Nm.two_add] at g1
          have g2 := Nm.two_mono (show 54 + (E + b) ≤ 64 + a' by omega)
          have g3 : 1 * 2 ^ (64 + a') ≤ n * 2 ^ (64 + a') := Int.mul_le_mul_of_nonneg_right (by omega) (by have := Nm.two_pos (64 + a'); omega)
          omega
      rw [show E + b = (E + b - (a' + 10)) + (a' + 10) by omega, Nm.two_add (E + b - (a' + 10)), ← Int.mul_assoc] at g h
      rw [show 64 + a' = 54 + (a' + 10) by omega, Nm.two_add 54, ← Int.mul_assoc] at g h
      have g1 := Int.lt_of_mul_lt_mul_right h (by have := Nm.two_pos (a' + 10); omega)
      have g2 : (n * 2 ^ 54 + 1) * 2 ^ (a' + 10) ≤ M * 2 ^ (E + b - (a' + 10)) * 2 ^ (a' + 10) := Int.mul_le_mul_of_nonneg_right (by omega) (by have := Nm.two_pos (a' + 10); omega)
      rw [Int.add_mul, Int.one_mul] at g2
      have g3 : (2 : Int) ^ (a' + 10) = 2 ^ a' * 1024 := by rw [Nm.two_add]; rfl
      omega
  · rcases hN.2.2 hx with g | g <;> omega

theorem Rnd.next {n d e x u : Int} (hd : 0 < d) (h : Rnd n d e false x) (h' : Rnd n d e true u) : u = x ∨ u = x + 1 := by
  have h1 : x ≤ u := h.mono hd hd h' (a := 0) (a' := 0) (by omega) (.inr ⟨rfl, fun h => by cases h⟩)
  rcases (show u ≤ x + 1 ∨ x + 1 < u by omega) with h2 | h2
  · omega
  · exfalso
    obtain ⟨a, b, hab, hN⟩ := h.at
    have hN' := h' a b hab
    have g1 := hN.2.2 (by have := hN'.1.2; omega)
    have g2 := hN'.2.1 (by have := hN.1.1; omega)
    have g3 := Int.mul_lt_mul_of_pos_right (md_lt hN.1.1 (show x < u - 1 by omega)) (Int.mul_pos hd (Nm.two_pos b))
    rcases g1 with g | g <;> rcases g2 with g' | g' <;> omega

/-- A number that is a double is rounded to it. -/
theorem rnd_vl (n e x : Int) (more : Bool) (a b : Nat) (hab : (a : Int) - b = e + 1075) (h0 : 0 ≤ x) (h1 : x < 9218868437227405312) (h : n * 2 ^ a = vl x * 2 ^ b) : Rnd n 1 e more x := by
  refine Rnd.of hab ?_
  have hb := Nm.two_pos b
  rw [h, Int.one_mul]
  refine ⟨⟨h0, by omega⟩, fun hx => .inl ?_, fun _ => .inl ?_⟩
  · have := md_lt_vl (x - 1) (by omega)
    rw [show x - 1 + 1 = x by omega] at this
    exact Int.mul_lt_mul_of_pos_right this hb
  · exact Int.mul_lt_mul_of_pos_right (vl_lt_md x) hb

theorem vl_lt_iff {x y : Int} (hx : 0 ≤ x) (hy : 0 ≤ y) : vl x < vl y ↔ x < y := by
  constructor
  · intro h
    rcases (show x < y ∨ y ≤ x by omega) with g | g
    · exact g
    · have := vl_le hy g; omega
  · intro h
    have h1 := vl_succ x hx
    have h2 := vl_le (x := x + 1) (y := y) (by omega) (by omega)
    have := Nm.two_pos (ex x)
    omega

theorem vl_inj {x y : Int} (hx : 0 ≤ x) (hy : 0 ≤ y) (h : vl x = vl y) : x = y := by
  rcases (show x < y ∨ x = y ∨ y < x by omega) with g | g | g
  · have := (vl_lt_iff hx hy).2 g; omega
  · exact g
  · have := (vl_lt_iff hy hx).2 g; omega

theorem vl_nn {x : Int} (hx : 0 ≤ x) : 0 ≤ vl x := by
  have := vl_le (x := 0) (y := x) (by omega) hx
  rw [vl_zero] at this
  exact this

/-- Whole numbers up to 2^53 are doubles. -/
theorem whole_ex (W : Int) (L : Nat) (h0 : 0 ≤ W) (hL : (0 < W → 1 ≤ L ∧ 2 ^ (L - 1) ≤ W) ∧ W < 2 ^ L) (h1 : W ≤ 9007199254740992) : ∃ x, 0 ≤ x ∧ x < 9218868437227405312 ∧ vl x = W * 2 ^ 1075 := by
  rcases (show W = 0 ∨ 0 < W by omega) with h | h
  · exact ⟨0, by omega, by omega, by rw [h, vl_zero, Int.zero_mul]⟩
  · rcases (show W = 9007199254740992 ∨ W < 9007199254740992 by omega) with hw | hw
    · refine ⟨4845873199050653696, by omega, by omega, ?_⟩
      have e1 : man 4845873199050653696 = 4503599627370496 := by decide
      have e2 : ex 4845873199050653696 = 1075 := by decide
      rw [vl, e1, e2, hw]
      rfl
    · have g := hL.1 h
      have e53 : (2 : Int) ^ 53 = 9007199254740992 := by decide
      have hl : L ≤ 53 := by
        rcases Nat.lt_or_ge 53 L with h' | h'
        · have := Nm.two_mono (show 53 ≤ L - 1 by omega)
          omega
        · exact h'
      obtain ⟨m, hm⟩ : ∃ m, W * 2 ^ (53 - L) = m := ⟨_, rfl⟩
      have hp := Nm.two_pos (53 - L)
      have m1 : m < 9007199254740992 := by
        have : W * 2 ^ (53 - L) < 2 ^ L * 2 ^ (53 - L) := Int.mul_lt_mul_of_pos_right hL.2 hp
        rw [← Nm.two_add, show L + (53 - L) = 53 by omega] at this
        omega
      have m2 : 4503599627370496 ≤ m := by
        have : 2 ^ (L - 1) * 2 ^ (53 - L) ≤ W * 2 ^ (53 - L) := Int.mul_le_mul_of_nonneg_right g.2 (by omega)
        rw [← Nm.two_add, show L - 1 + (53 - L) = 52 by omega] at this
        have : (2 : Int) ^ 52 = 4503599627370496 := by decide
        omega
      obtain ⟨x, hx⟩ : ∃ x : Int, x = ((1021 + L : Nat) : Int) * 4503599627370496 + m := ⟨_, rfl⟩
      have e1 : man x = m := by simp only [man]; split <;> omega
      have e2 : ex x = 1021 + L := by simp only [ex]; omega
      refine ⟨x, by omega, by omega, ?_⟩
      rw [vl, e1, e2, ← hm, Int.mul_comm 2, Int.mul_assoc, Int.mul_assoc, ← Nm.two_succ, ← Nm.two_add]
      congr 2
      omega

/-- Below the middle above it. -/
theorem Rnd.hi {n d e x : Int} (h : Rnd n d e false x) (hx : x < 9218868437227405312) {M : Int} {E s t : Nat} (hM : md x = M * 2 ^ E) (hst : (s : Int) - t = E - 1075 - e) :
    n * 2 ^ t < M * d * 2 ^ s ∨ (n * 2 ^ t = M * d * 2 ^ s ∧ x % 2 = 0) := by
  have hN := h (t + E) s (by omega)
  have hE := Nm.two_pos E
  have e1 : n * 2 ^ (t + E) = n * 2 ^ t * 2 ^ E := by rw [Nm.two_add, Int.mul_assoc]
  have e2 : md x * (d * 2 ^ s) = M * d * 2 ^ s * 2 ^ E := by rw [hM]; ac_rfl
  rcases hN.2.2 hx with g | ⟨g, g', _⟩
  · rw [e1, e2] at g
    exact .inl (Int.lt_of_mul_lt_mul_right g (by omega))
  · rw [e1, e2] at g
    exact .inr ⟨Int.eq_of_mul_eq_mul_right (by omega) g, g'⟩

/-- Above the middle below it. -/
theorem Rnd.lo {n d e x : Int} (h : Rnd n d e false x) (hx : 0 < x) {M : Int} {E s t : Nat} (hM : md (x - 1) = M * 2 ^ E) (hst : (s : Int) - t = E - 1075 - e) :
    M * d * 2 ^ s < n * 2 ^ t ∨ (M * d * 2 ^ s = n * 2 ^ t ∧ x % 2 = 0) := by
  have hN := h (t + E) s (by omega)
  have hE := Nm.two_pos E
  have e1 : n * 2 ^ (t + E) = n * 2 ^ t * 2 ^ E := by rw [Nm.two_add, Int.mul_assoc]
  have e2 : md (x - 1) * (d * 2 ^ s) = M * d * 2 ^ s * 2 ^ E := by rw [hM]; ac_rfl
  rcases hN.2.1 hx with g | ⟨g, g'⟩
  · rw [e1, e2] at g
    exact .inl (Int.lt_of_mul_lt_mul_right g (by omega))
  · rw [e1, e2] at g
    refine .inr ⟨Int.eq_of_mul_eq_mul_right (by omega) g, ?_⟩
    rcases g' with g' | g'
    · exact g'
    · cases g'

/-- The middle below, as the gap below a power of two is half as wide. -/
theorem md_pred (x : Int) (hx : 0 < x) (h : ¬ (man x = 4503599627370496 ∧ 0 < ex x)) : md (x - 1) = (2 * man x - 1) * 2 ^ ex x := by
  have h1 := vl_succ (x - 1) (by omega)
  rw [show x - 1 + 1 = x by omega] at h1
  have h2 := md_eq (x - 1)
  have e : ex (x - 1) = ex x := by
    simp only [ex, man] at h ⊢
    split at h <;> omega
  rw [e] at h1 h2
  rw [Int.sub_mul, Int.one_mul]
  have : vl x = 2 * man x * 2 ^ ex x := rfl
  omega

theorem md_pred' (x : Int) (hx : 0 < x) (h : man x = 4503599627370496 ∧ 0 < ex x) : md (x - 1) = 18014398509481983 * 2 ^ (ex x - 1) := by
  have e : ex (x - 1) = ex x - 1 := by
    simp only [ex, man] at h ⊢
    split at h <;> omega
  have m : man (x - 1) = 9007199254740991 := by
    simp only [ex, man] at h ⊢
    split at h <;> split <;> omega
  rw [md, m, e]
  rfl
end Ie
end Go.Proofs.YtggiioipppbedaaGreatDoor
