import Derived.Test.YtdemopkdcnaibaaGreatDoorXNum
/-
  Exact differences, Knuth's sum, the fused rest: in whole numbers of 2^-1074.
-/
namespace Go.Proofs.YtdemopkdcnaibaaGreatDoor
namespace Ie

theorem az_or (z : Int) : (0 ≤ z ∧ az z = z) ∨ (z ≤ 0 ∧ az z = -z) := by
  simp only [az]; split <;> omega

theorem az_zero {z : Int} (h : az z = 0) : z = 0 := by rcases az_or z with ⟨_, g⟩ | ⟨_, g⟩ <;> omega

/-- A multiple of 2^E. -/
def Dv (E : Nat) (z : Int) : Prop := ∃ k, z = k * 2 ^ E

theorem Dv.add {E : Nat} {a b : Int} (h : Dv E a) (k : Dv E b) : Dv E (a + b) := by
  obtain ⟨x, rfl⟩ := h; obtain ⟨y, rfl⟩ := k; exact ⟨x + y, by rw [Int.add_mul]⟩
theorem Dv.neg {E : Nat} {a : Int} (h : Dv E a) : Dv E (-a) := by
  obtain ⟨x, rfl⟩ := h; exact ⟨-x, by rw [Int.neg_mul]⟩
theorem Dv.sub {E : Nat} {a b : Int} (h : Dv E a) (k : Dv E b) : Dv E (a - b) := by
  rw [Int.sub_eq_add_neg]; exact h.add k.neg
theorem Dv.down {E F : Nat} {a : Int} (h : Dv E a) (hF : F ≤ E) : Dv F a := by
  obtain ⟨x, rfl⟩ := h
  exact ⟨x * 2 ^ (E - F), by rw [Int.mul_assoc, ← Nm.two_add, show E - F + F = E by omega]⟩
theorem Dv.of_az {E : Nat} {a : Int} (h : Dv E (az a)) : Dv E a := by
  rcases az_or a with ⟨_, g⟩ | ⟨_, g⟩ <;> rw [g] at h
  · exact h
  · have := h.neg
    rwa [Int.neg_neg] at this
theorem Dv.az {E : Nat} {a : Int} (h : Dv E a) : Dv E (az a) := by
  rcases az_or a with ⟨_, g⟩ | ⟨_, g⟩ <;> rw [g]
  · exact h
  · exact h.neg

theorem un_dv (x : Int) {E : Nat} (h : E ≤ ex x) : Dv E (un x) := (show Dv (ex x) (un x) from ⟨man x, rfl⟩).down h

theorem un_bd (x : Int) (h : 0 ≤ x) : un x < 9007199254740992 * 2 ^ ex x :=
  Int.mul_lt_mul_of_pos_right (man_nn x h).2 (Nm.two_pos _)

theorem ex_mono {x y : Int} (h : x ≤ y) : ex x ≤ ex y := by simp only [ex]; omega

/-- The value of a finite double. -/
def DB (z : Int) : Prop := ∃ y, 0 ≤ y ∧ y < 9218868437227405312 ∧ az z = un y

theorem DB.neg {z : Int} (h : DB z) : DB (-z) := by
  obtain ⟨y, h0, h1, h2⟩ := h
  exact ⟨y, h0, h1, by rw [az_neg, h2]⟩

theorem DB.zero : DB 0 := ⟨0, by omega, by omega, by decide⟩

/-- 53 bits at any place: a double, if it is not too great. -/
theorem db_of {E : Nat} {z : Int} (h : Dv E z) (h1 : az z ≤ 9007199254740992 * 2 ^ E) (h2 : az z < 2 ^ 2098) : DB z := by
  obtain ⟨k, hk⟩ := h.az
  have p := Nm.two_pos E
  have z0 := az_nn z
  rw [hk] at h1 h2 z0
  have k1 : k ≤ 9007199254740992 := Int.le_of_mul_le_mul_right h1 p
  have k0 : 0 ≤ k := by
    rcases (show 0 ≤ k ∨ k < 0 by omega) with h | h
    · exact h
    · have := Int.mul_neg_of_neg_of_pos h p; omega
  rcases Nat.lt_or_ge 2045 E with hE | hE
  · have hp := Nm.two_pos 2045
    have e1 : k * 2 ^ E = k * 2 ^ (E - 2045) * 2 ^ 2045 := by rw [Int.mul_assoc, ← Nm.two_add, show E - 2045 + 2045 = E by omega]
    have e2 : (2 : Int) ^ 2098 = 9007199254740992 * 2 ^ 2045 := by rw [show 2098 = 53 + 2045 by rfl, Nm.two_add]; rfl
    rw [e1, e2] at h2
    have k2 := Int.lt_of_mul_lt_mul_right h2 (by omega)
    obtain ⟨y, y0, y1, hy⟩ := un_rep 2045 (k * 2 ^ (E - 2045)) (Int.mul_nonneg k0 (by have := Nm.two_pos (E - 2045); omega)) k2 (by omega)
    exact ⟨y, y0, y1, by rw [hk, e1, hy]⟩
  · obtain ⟨y, y0, y1, hy⟩ := un_rep' E k k0 k1 hE
    refine ⟨y, y0, ?_, by rw [hk, hy]⟩
    rcases (show y < 9218868437227405312 ∨ y = 9218868437227405312 by omega) with h | h
    · exact h
    · exfalso
      rw [h] at hy
      have e1 : man 9218868437227405312 = 4503599627370496 := by decide
      have e2 : ex 9218868437227405312 = 2046 := by decide
      have e3 : un 9218868437227405312 = 2 ^ 2098 := by
        rw [un, e1, e2, show 2098 = 52 + 2046 by rfl, Nm.two_add]; rfl
      omega

/-- The whole number S is rounded to z. -/
def Fl (S z : Int) : Prop := ∃ (neg : Bool) (V x : Int), S = sn neg V ∧ 0 ≤ V ∧ z = sn neg (un x) ∧ Near (2 * V) 1 false x

theorem Fl.exact {S z : Int} (h : Fl S z) (hS : DB S) : z = S := by
  obtain ⟨n, V, x, e, hV, rfl, hN⟩ := h
  obtain ⟨y, y0, y1, hy⟩ := hS
  have hv : V = un y := by rw [← hy, e, az_sn n V hV]
  have hx : x = y := hN.one (Q := 1) (Q' := 1) (by omega) (by omega) (near_self y 1 false (by omega) y0 y1) (by rw [hv]; simp only [Int.mul_one])
  rw [e, hv, hx]

theorem Fl.near {S z w : Int} (h : Fl S z) (hw : DB w) : az (S - z) ≤ az (S - w) := by
  obtain ⟨n, V, x, rfl, hV, rfl, hN⟩ := h
  obtain ⟨y, y0, y1, hy⟩ := hw
  have g0 := near_all (y := 0) (by omega) hN (by omega) (by omega)
  have g1 := near_all (y := y) (by omega) hN y0 (by omega)
  have u0 := un_nn y0
  rw [un_zero] at g0
  simp only [Int.mul_one, Int.sub_zero] at g0 g1
  have e1 : az (sn n V - sn n (un x)) = az (V - un x) := by
    cases n
    · rfl
    · rw [sn_true, sn_true, show -V - -un x = -(V - un x) by omega, az_neg]
  rw [e1]
  rcases az_or w with ⟨w0, gw⟩ | ⟨w0, gw⟩ <;> rw [hy] at gw <;> cases n <;> simp only [sn_true, sn_false]
  · rw [← gw]; exact g1
  · rw [show -V - w = -(V + un y) by omega, az_neg]
    rcases az_or V with ⟨_, g⟩ | ⟨_, g⟩ <;> rcases az_or (V + un y) with ⟨_, g'⟩ | ⟨_, g'⟩ <;> omega
  · rw [show V - w = V + un y by omega]
    rcases az_or V with ⟨_, g⟩ | ⟨_, g⟩ <;> rcases az_or (V + un y) with ⟨_, g'⟩ | ⟨_, g'⟩ <;> omega
  · rw [show -V - w = -(V - un y) by omega, az_neg]; exact g1

/-- What was a multiple of a power of two stays one; and of the next one, where it is great. -/
theorem Fl.dv {S z : Int} {E : Nat} (h : Fl S z) (hS : Dv E S) (hE : E ≤ 2045) : (az S ≤ 9007199254740992 * 2 ^ E ∧ az S < 2 ^ 2098 ∧ z = S) ∨ Dv (E + 1) z := by
  rcases (show az S ≤ 9007199254740992 * 2 ^ E ∧ az S < 2 ^ 2098 ∨ ¬ (az S ≤ 9007199254740992 * 2 ^ E ∧ az S < 2 ^ 2098) by omega) with ⟨g, g'⟩ | g
  · exact .inl ⟨g, g', h.exact (db_of hS g g')⟩
  · right
    obtain ⟨y, y0, y1, hy⟩ := un_rep' E 9007199254740992 (by omega) (by omega) hE
    have hp := Nm.two_mono hE
    have e2 : (2 : Int) ^ 2098 = 9007199254740992 * 2 ^ 2045 := by rw [show 2098 = 53 + 2045 by rfl, Nm.two_add]; rfl
    have big : un y ≤ az S := by omega
    obtain ⟨n, V, x, rfl, hV, rfl, hN⟩ := h
    rw [az_sn n V hV] at big
    have ey : y = ((E + 2 : Nat) : Int) * 4503599627370496 := by
      obtain ⟨t, ht⟩ : ∃ t : Int, t = ((E + 2 : Nat) : Int) * 4503599627370496 := ⟨_, rfl⟩
      have e1 : man t = 4503599627370496 := by simp only [man]; split <;> omega
      have e2 : ex t = E + 1 := by simp only [ex]; omega
      have e3 : un t = 9007199254740992 * 2 ^ E := by rw [un, e1, e2, Nm.two_succ, ← Int.mul_assoc]; rfl
      rw [← ht]
      exact un_inj y0 (by omega) (by rw [hy, e3])
    have le : y ≤ x := by
      rcases (show y ≤ x ∨ x < y by omega) with h | h
      · exact h
      · exfalso
        have g1 := hN.2.2 (by omega)
        rw [md_un x hN.1.1, Int.mul_one] at g1
        have g2 := un_le (x := x + 1) (y := y) (by have := hN.1.1; omega) (by omega)
        have g3 := un_lt hN.1.1 (show x < x + 1 by omega)
        omega
    have e : E + 1 ≤ ex x := by simp only [ex]; omega
    have d := un_dv x e
    cases n
    · exact d
    · exact d.neg

theorem Fl.dv' {S z : Int} {E : Nat} (h : Fl S z) (hS : Dv E S) (hE : E ≤ 2045) : Dv E z := by
  rcases h.dv hS hE with ⟨_, _, g⟩ | g
  · rw [g]; exact hS
  · exact g.down (by omega)

/-- A sum that is not too great has a finite answer. -/
theorem Fl.fin {S z : Int} (h : Fl S z) (y : Int) (y0 : 0 ≤ y) (y1 : y < 9218868437227405312) (hS : az S ≤ un y) : ∃ (x : Int), 0 ≤ x ∧ x ≤ y ∧ az z = un x := by
  obtain ⟨n, V, x, rfl, hV, rfl, hN⟩ := h
  rw [az_sn n V hV] at hS
  refine ⟨x, hN.1.1, ?_, az_sn n _ (un_nn hN.1.1)⟩
  refine hN.mono (Q := 1) (Q' := 1) (by omega) (by omega) (near_self y 1 false (by omega) y0 y1) ?_
  rw [Int.mul_one, Int.mul_one, Int.mul_one]
  rcases (show V < un y ∨ V = un y by omega) with h | h
  · left; omega
  · right; exact ⟨by omega, id⟩

/-- What the rounding of a sum lost is a double. -/
theorem err_db {a b s ya yb : Int} (ha : az a = un ya) (hb : az b = un yb) (a0 : 0 ≤ ya) (a1 : ya < 9218868437227405312) (b0 : 0 ≤ yb) (b1 : yb < 9218868437227405312) (h : Fl (a + b) s) :
    DB (a + b - s) ∧ az (a + b - s) ≤ az a ∧ az (a + b - s) ≤ az b := by
  have g1 := h.near (w := a) ⟨ya, a0, a1, ha⟩
  have g2 := h.near (w := b) ⟨yb, b0, b1, hb⟩
  rw [show a + b - a = b by omega] at g1
  rw [show a + b - b = a by omega] at g2
  refine ⟨?_, g2, g1⟩
  have key : ∀ y, 0 ≤ y → y < 9218868437227405312 → Dv (ex y) a → Dv (ex y) b → az (a + b - s) ≤ un y → DB (a + b - s) := by
    intro y y0 y1 da db hl
    have e : ex y ≤ 2045 := by simp only [ex]; omega
    have u1 := un_bd y y0
    have p := Nm.two_mono e
    have e2 : (2 : Int) ^ 2098 = 9007199254740992 * 2 ^ 2045 := by rw [show 2098 = 53 + 2045 by rfl, Nm.two_add]; rfl
    exact db_of ((da.add db).sub (h.dv' (da.add db) e)) (by omega) (by omega)
  rcases (show ya ≤ yb ∨ yb ≤ ya by omega) with hl | hl
  · exact key ya a0 a1 (.of_az (by rw [ha]; exact un_dv _ (Nat.le_refl _))) (.of_az (by rw [hb]; exact un_dv _ (ex_mono hl))) (by omega)
  · exact key yb b0 b1 (.of_az (by rw [ha]; exact un_dv _ (ex_mono hl))) (.of_az (by rw [hb]; exact un_dv _ (Nat.le_refl _))) (by omega)

/-- Where all is a multiple of 2^E and 54 bits long, at most 2^E is lost. -/
theorem err_small {S s : Int} {E : Nat} (h : Fl S s) (hS : Dv E S) (h1 : az S < 18014398509481984 * 2 ^ E) (h2 : az S < 2 ^ 2098) : az (S - s) ≤ 2 ^ E := by
  obtain ⟨k, hk⟩ := hS
  have p := Nm.two_pos E
  obtain ⟨j, hj⟩ : ∃ j : Int, (0 ≤ k ∧ 0 ≤ j ∧ (k = 2 * j ∨ k = 2 * j + 1)) ∨ (k < 0 ∧ j ≤ 0 ∧ (k = 2 * j ∨ k = 2 * j - 1)) := by
    rcases (show 0 ≤ k ∨ k < 0 by omega) with g | g
    · exact ⟨k / 2, by omega⟩
    · exact ⟨-((-k) / 2), by omega⟩
  have e1 : (2 * j + 1) * 2 ^ E = 2 * j * 2 ^ E + 2 ^ E := by rw [Int.add_mul, Int.one_mul]
  have e2 : (2 * j - 1) * 2 ^ E = 2 * j * 2 ^ E - 2 ^ E := by rw [Int.sub_mul, Int.one_mul]
  have d : Dv (E + 1) (2 * j * 2 ^ E) := ⟨j, by rw [Nm.two_succ]; ac_rfl⟩
  have e : (2 : Int) ^ (E + 1) = 2 * 2 ^ E := Nm.two_succ E
  have s0 : 0 ≤ j → 0 ≤ 2 * j * 2 ^ E := fun h => Int.mul_nonneg (by omega) (by omega)
  have s1 : j ≤ 0 → 2 * j * 2 ^ E ≤ 0 := fun h => Int.mul_nonpos_of_nonpos_of_nonneg (by omega) (by omega)
  have q : az (2 * j * 2 ^ E) ≤ az S ∧ az (S - 2 * j * 2 ^ E) ≤ 2 ^ E := by
    have hS : (0 ≤ j ∧ (S = 2 * j * 2 ^ E ∨ S = 2 * j * 2 ^ E + 2 ^ E)) ∨ (j ≤ 0 ∧ (S = 2 * j * 2 ^ E ∨ S = 2 * j * 2 ^ E - 2 ^ E)) := by
      rcases hj with ⟨h0, h1, g | g⟩ | ⟨h0, h1, g | g⟩ <;> rw [g] at hk
      · exact .inl ⟨h1, .inl hk⟩
      · exact .inl ⟨h1, .inr (by omega)⟩
      · exact .inr ⟨h1, .inl hk⟩
      · exact .inr ⟨h1, .inr (by omega)⟩
    clear hk hj e1 e2 d
    generalize 2 * j * 2 ^ E = z at *
    rcases hS with ⟨h0, g⟩ | ⟨h0, g⟩
    · have := s0 h0
      rcases az_or z with ⟨_, g1⟩ | ⟨_, g1⟩ <;> rcases az_or S with ⟨_, g2⟩ | ⟨_, g2⟩ <;> rcases az_or (S - z) with ⟨_, g3⟩ | ⟨_, g3⟩ <;> omega
    · have := s1 h0
      rcases az_or z with ⟨_, g1⟩ | ⟨_, g1⟩ <;> rcases az_or S with ⟨_, g2⟩ | ⟨_, g2⟩ <;> rcases az_or (S - z) with ⟨_, g3⟩ | ⟨_, g3⟩ <;> omega
  have w : DB (2 * j * 2 ^ E) := db_of d (by omega) (by omega)
  have := h.near w
  omega

theorem two_2098 : (2 : Int) ^ 2098 = 9007199254740992 * 2 ^ 2045 := by rw [show 2098 = 53 + 2045 by rfl, Nm.two_add]; rfl

/-- Sterbenz: of two doubles within a factor of two the difference is a double. -/
theorem sterbenz {x y : Int} (x0 : 0 ≤ x) (y1 : y < 9218868437227405312) (hl : x ≤ y) (h : un y ≤ 2 * un x) : DB (un y - un x) := by
  have u1 := un_bd x x0
  have u2 := un_le x0 hl
  have d := (un_dv y (ex_mono hl)).sub (un_dv x (Nat.le_refl _))
  have e : ex x ≤ 2045 := by simp only [ex]; omega
  have p := Nm.two_mono e
  have e2 := two_2098
  refine db_of d ?_ ?_ <;> rcases az_or (un y - un x) with ⟨_, g⟩ | ⟨_, g⟩ <;> omega

/-- The greater of both taken off the sum leaves a double. -/
theorem fast {a b s ya yb : Int} (ha : az a = un ya) (hb : az b = un yb) (b0 : 0 ≤ yb) (hl : yb ≤ ya) (a1 : ya < 9218868437227405312) (b1 : un yb < 2 ^ 2096) (h : Fl (a + b) s) : DB (s - a) := by
  have eb : ex yb ≤ 2045 := by simp only [ex]; omega
  have ub := un_bd yb b0
  have da : Dv (ex yb) a := .of_az (by rw [ha]; exact un_dv _ (ex_mono hl))
  have db : Dv (ex yb) b := .of_az (by rw [hb]; exact un_dv _ (Nat.le_refl _))
  have dB : DB b := ⟨yb, b0, by omega, hb⟩
  have g1 := h.near (w := a) ⟨ya, by omega, a1, ha⟩
  rw [show a + b - a = b by omega] at g1
  have e96 : (2 : Int) ^ 2098 = 4 * 2 ^ 2096 := by rw [show 2098 = 2 + 2096 by rfl, Nm.two_add]; rfl
  have es : (2 : Int) ^ (ex yb + 1) = 2 * 2 ^ ex yb := Nm.two_succ _
  rcases h.dv (da.add db) eb with ⟨_, _, g⟩ | g
  · rw [g, show a + b - a = b by omega]; exact dB
  · have sz : az (s - a) ≤ 2 * az b := by
      rcases az_or b with ⟨_, q1⟩ | ⟨_, q1⟩ <;> rcases az_or (a + b - s) with ⟨_, q2⟩ | ⟨_, q2⟩ <;> rcases az_or (s - a) with ⟨_, q3⟩ | ⟨_, q3⟩ <;> omega
    rcases (show ex yb + 1 ≤ ex ya ∨ ex ya = ex yb by have := ex_mono hl; omega) with c | c
    · have da' : Dv (ex yb + 1) a := .of_az (by rw [ha]; exact un_dv _ c)
      exact db_of (g.sub da') (by omega) (by omega)
    · have ua := un_bd ya (by omega)
      rw [c] at ua
      have sm := err_small h (da.add db) (by rcases az_or a with ⟨_, q1⟩ | ⟨_, q1⟩ <;> rcases az_or b with ⟨_, q2⟩ | ⟨_, q2⟩ <;> rcases az_or (a + b) with ⟨_, q3⟩ | ⟨_, q3⟩ <;> omega)
      have big : az (a + b) < 2 ^ 2098 ∨ 2 ^ 2098 ≤ az (a + b) := by omega
      rcases big with big | big
      · have sm' := sm big
        have le : un yb ≤ 9007199254740991 * 2 ^ ex yb := by
          have := (man_nn yb b0).2
          exact Int.mul_le_mul_of_nonneg_right (by omega) (by have := Nm.two_pos (ex yb); omega)
        refine db_of ((g.down (Nat.le_succ _)).sub da) ?_ (by omega)
        rcases az_or b with ⟨_, q1⟩ | ⟨_, q1⟩ <;> rcases az_or (a + b - s) with ⟨_, q2⟩ | ⟨_, q2⟩ <;> rcases az_or (s - a) with ⟨_, q3⟩ | ⟨_, q3⟩ <;> omega
      · exfalso
        -- both have the exponent of b, which is small
        have h1 : un ya < 2 ^ 2097 := by
          rcases Nat.eq_zero_or_pos (ex yb) with z | z
          · rw [z] at ua
            have := Nm.two_mono (show 53 ≤ 2097 by omega)
            have e53 : (2 : Int) ^ 53 = 9007199254740992 := by decide
            omega
          · have m : 4503599627370496 ≤ man yb := by
              simp only [man]
              simp only [ex] at z
              split <;> omega
            have m2 : 4503599627370496 * 2 ^ ex yb ≤ un yb := Int.mul_le_mul_of_nonneg_right m (by have := Nm.two_pos (ex yb); omega)
            have e97 : (2 : Int) ^ 2097 = 2 * 2 ^ 2096 := Nm.two_succ 2096
            omega
        have e97 : (2 : Int) ^ 2097 = 2 * 2 ^ 2096 := Nm.two_succ 2096
        rcases az_or a with ⟨_, q1⟩ | ⟨_, q1⟩ <;> rcases az_or b with ⟨_, q2⟩ | ⟨_, q2⟩ <;> rcases az_or (a + b) with ⟨_, q3⟩ | ⟨_, q3⟩ <;> omega
end Ie
end Go.Proofs.YtdemopkdcnaibaaGreatDoor
