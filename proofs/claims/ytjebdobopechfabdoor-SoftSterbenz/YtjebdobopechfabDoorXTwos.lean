/-
  Texts put together: XTwo, XTwo2, XTwoB.
-/
import Derived.Test.YtjebdobopechfabDoorXNum
import Derived.Test.YtjebdobopechfabDoorXOps
/-
  Exact differences, Knuth's sum, the fused rest: in whole numbers of 2^-1074.
-/
namespace Go.Proofs.YtjebdobopechfabDoor
namespace Ie

theorem az_or (z : Int) : (0 ≤ z ∧ az z = z) ∨ (z ≤ 0 ∧ az z = -z) := by
  simp only [az]; split <;> omega

theorem az_zero {z : Int} (h : az z = 0) : z = 0 := by rcases az_or z with ⟨_, g⟩ | ⟨_, g⟩ <;> omega

/-- A multiple of 2^E. -/
def Dv (E : Nat) (z : Int) : Prop := ∃ k, z = k * 2 ^ E

theorem Dv.add {E : Nat} {a b : Int} (h : Dv E a) (k : Dv E b) : Dv E (a + b) := by
  obtain ⟨x, rfl⟩ := h; obtain ⟨y, rfl⟩ := k; exact ⟨x + y, by rw [Int.add_mul]⟩
theorem Dv.neg {E : Nat} {a : Int} (h : Dv E a) : Dv E (-a) := by
  obtain ⟨x, rfl⟩ := h; exact ⟨-x, by rw [Int.neg_mul]⟩
theorem Dv.sub {E : Nat} {a b : Int} (h : Dv E a) (k : Dv E b) : Dv E (a - b) := by
  rw [Int.sub_eq_add_neg]; exact h.add k.neg
theorem Dv.down {E F : Nat} {a : Int} (h : Dv E a) (hF : F ≤ E) : Dv F a := by
  obtain ⟨x, rfl⟩ := h
  exact ⟨x * 2 ^ (E - F), by rw [Int.mul_assoc, ← Nm.two_add, show E - F + F = E by omega]⟩
theorem Dv.of_az {E : Nat} {a : Int} (h : Dv E (az a)) : Dv E a := by
  rcases az_or a with ⟨_, g⟩ | ⟨_, g⟩ <;> rw [g] at h
  · exact h
  · have := h.neg
    rwa [Int.neg_neg] at this
theorem Dv.az {E : Nat} {a : Int} (h : Dv E a) : Dv E (az a) := by
  rcases az_or a with ⟨_, g⟩ | ⟨_, g⟩ <;> rw [g]
  · exact h
  · exact h.neg

theorem un_dv (x : Int) {E : Nat} (h : E ≤ ex x) : Dv E (un x) := (show Dv (ex x) (un x) from ⟨man x, rfl⟩).down h

theorem un_bd (x : Int) (h : 0 ≤ x) : un x < 9007199254740992 * 2 ^ ex x :=
  Int.mul_lt_mul_of_pos_right (man_nn x h).2 (Nm.two_pos _)

theorem ex_mono {x y : Int} (h : x ≤ y) : ex x ≤ ex y := by simp only [ex]; omega

/-- The value of a finite double. -/
def DB (z : Int) : Prop := ∃ y, 0 ≤ y ∧ y < 9218868437227405312 ∧ az z = un y

theorem DB.neg {z : Int} (h : DB z) : DB (-z) := by
  obtain ⟨y, h0, h1, h2⟩ := h
  exact ⟨y, h0, h1, by rw [az_neg, h2]⟩

theorem DB.zero : DB 0 := ⟨0, by omega, by omega, by decide⟩

/-- 53 bits at any place: a double, if it is not too great. -/
theorem db_of {E : Nat} {z : Int} (h : Dv E z) (h1 : az z ≤ 9007199254740992 * 2 ^ E) (h2 : az z < 2 ^ 2098) : DB z := by
  obtain ⟨k, hk⟩ := h.az
  have p := Nm.two_pos E
  have z0 := az_nn z
  rw [hk] at h1 h2 z0
  have k1 : k ≤ 9007199254740992 := Int.le_of_mul_le_mul_right h1 p
  have k0 : 0 ≤ k := by
    rcases (show 0 ≤ k ∨ k < 0 by omega) with h | h
    · exact h
    · have := Int.mul_neg_of_neg_of_pos h p; omega
  rcases Nat.lt_or_ge 2045 E with hE | hE
  · have hp := Nm.two_pos 2045
    have e1 : k * 2 ^ E = k * 2 ^ (E - 2045) * 2 ^ 2045 := by rw [Int.mul_assoc, ← Nm.two_add, show E - 2045 + 2045 = E by omega]
    have e2 : (2 : Int) ^ 2098 = 9007199254740992 * 2 ^ 2045 := by rw [show 2098 = 53 + 2045 by rfl, Nm.two_add]; rfl
    rw [e1, e2] at h2
    have k2 := Int.lt_of_mul_lt_mul_right h2 (by omega)
    obtain ⟨y, y0, y1, hy⟩ := un_rep 2045 (k * 2 ^ (E - 2045)) (Int.mul_nonneg k0 (by have := Nm.two_pos (E - 2045); omega)) k2 (by omega)
    exact ⟨y, y0, y1, by rw [hk, e1, hy]⟩
  · obtain ⟨y, y0, y1, hy⟩ := un_rep' E k k0 k1 hE
    refine ⟨y, y0, ?_, by rw [hk, hy]⟩
    rcases (show y < 9218868437227405312 ∨ y = 9218868437227405312 by omega) with h | h
    · exact h
    · exfalso
      rw [h] at hy
      have e1 : man 9218868437227405312 = 4503599627370496 := by decide
      have e2 : ex 9218868437227405312 = 2046 := by decide
      have e3 : un 9218868437227405312 = 2 ^ 2098 := by
        rw [un, e1, e2, show 2098 = 52 + 2046 by rfl, Nm.two_add]; rfl
      omega

/-- The whole number S is rounded to z. -/
def Fl (S z : Int) : Prop := ∃ (neg : Bool) (V x : Int), S = sn neg V ∧ 0 ≤ V ∧ z = sn neg (un x) ∧ Near (2 * V) 1 false x

theorem Fl.exact {S z : Int} (h : Fl S z) (hS : DB S) : z = S := by
  obtain ⟨n, V, x, e, hV, rfl, hN⟩ := h
  obtain ⟨y, y0, y1, hy⟩ := hS
  have hv : V = un y := by rw [← hy, e, az_sn n V hV]
  have hx : x = y := hN.one (Q := 1) (Q' := 1) (by omega) (by omega) (near_self y 1 false (by omega) y0 y1) (by rw [hv]; simp only [Int.mul_one])
  rw [e, hv, hx]

theorem Fl.near {S z w : Int} (h : Fl S z) (hw : DB w) : az (S - z) ≤ az (S - w) := by
  obtain ⟨n, V, x, rfl, hV, rfl, hN⟩ := h
  obtain ⟨y, y0, y1, hy⟩ := hw
  have g0 := near_all (y := 0) (by omega) hN (by omega) (by omega)
  have g1 := near_all (y := y) (by omega) hN y0 (by omega)
  have u0 := un_nn y0
  rw [un_zero] at g0
  simp only [Int.mul_one, Int.sub_zero] at g0 g1
  have e1 : az (sn n V - sn n (un x)) = az (V - un x) := by
    cases n
    · rfl
    · rw [sn_true, sn_true, show -V - -un x = -(V - un x) by omega, az_neg]
  rw [e1]
  rcases az_or w with ⟨w0, gw⟩ | ⟨w0, gw⟩ <;> rw [hy] at gw <;> cases n <;> simp only [sn_true, sn_false]
  · rw [← gw]; exact g1
  · rw [show -V - w = -(V + un y) by omega, az_neg]
    rcases az_or V with ⟨_, g⟩ | ⟨_, g⟩ <;> rcases az_or (V + un y) with ⟨_, g'⟩ | ⟨_, g'⟩ <;> omega
  · rw [show V - w = V + un y by omega]
    rcases az_or V with ⟨_, g⟩ | ⟨_, g⟩ <;> rcases az_or (V + un y) with ⟨_, g'⟩ | ⟨_, g'⟩ <;> omega
  · rw [show -V - w = -(V - un y) by omega, az_neg]; exact g1

/-- What was a multiple of a power of two stays one; and of the next one, where it is great. -/
theorem Fl.dv {S z : Int} {E : Nat} (h : Fl S z) (hS : Dv E S) (hE : E ≤ 2045) : (az S ≤ 9007199254740992 * 2 ^ E ∧ az S < 2 ^ 2098 ∧ z = S) ∨ Dv (E + 1) z := by
  rcases (show az S ≤ 9007199254740992 * 2 ^ E ∧ az S < 2 ^ 2098 ∨ ¬ (az S ≤ 9007199254740992 * 2 ^ E ∧ az S < 2 ^ 2098) by omega) with ⟨g, g'⟩ | g
  · exact .inl ⟨g, g', h.exact (db_of hS g g')⟩
  · right
    obtain ⟨y, y0, y1, hy⟩ := un_rep' E 9007199254740992 (by omega) (by omega) hE
    have hp := Nm.two_mono hE
    have e2 : (2 : Int) ^ 2098 = 9007199254740992 * 2 ^ 2045 := by rw [show 2098 = 53 + 2045 by rfl, Nm.two_add]; rfl
    have big : un y ≤ az S := by omega
    obtain ⟨n, V, x, rfl, hV, rfl, hN⟩ := h
    rw [az_sn n V hV] at big
    have ey : y = ((E + 2 : Nat) : Int) * 4503599627370496 := by
      obtain ⟨t, ht⟩ : ∃ t : Int, t = ((E + 2 : Nat) : Int) * 4503599627370496 := ⟨_, rfl⟩
      have e1 : man t = 4503599627370496 := by simp only [man]; split <;> omega
      have e2 : ex t = E + 1 := by simp only [ex]; omega
      have e3 : un t = 9007199254740992 * 2 ^ E := by rw [un, e1, e2, Nm.two_succ, ← Int.mul_assoc]; rfl
      rw [← ht]
      exact un_inj y0 (by omega) (by rw [hy, e3])
    have le : y ≤ x := by
      rcases (show y ≤ x ∨ x < y by omega) with h | h
      · exact h
      · exfalso
        have g1 := hN.2.2 (by omega)
        rw [md_un x hN.1.1, Int.mul_one] at g1
        have g2 := un_le (x := x + 1) (y := y) (by have := hN.1.1; omega) (by omega)
        have g3 := un_lt hN.1.1 (show x < x + 1 by omega)
        omega
    have e : E + 1 ≤ ex x := by simp only [ex]; omega
    have d := un_dv x e
    cases n
    · exact d
    · exact d.neg

theorem Fl.dv' {S z : Int} {E : Nat} (h : Fl S z) (hS : Dv E S) (hE : E ≤ 2045) : Dv E z := by
  rcases h.dv hS hE with ⟨_, _, g⟩ | g
  · rw [g]; exact hS
  · exact g.down (by omega)

/-- A sum that is not too great has a finite answer. -/
theorem Fl.fin {S z : Int} (h : Fl S z) (y : Int) (y0 : 0 ≤ y) (y1 : y < 9218868437227405312) (hS : az S ≤ un y) : ∃ (x : Int), 0 ≤ x ∧ x ≤ y ∧ az z = un x := by
  obtain ⟨n, V, x, rfl, hV, rfl, hN⟩ := h
  rw [az_sn n V hV] at hS
  refine ⟨x, hN.1.1, ?_, az_sn n _ (un_nn hN.1.1)⟩
  refine hN.mono (Q := 1) (Q' := 1) (by omega) (by omega) (near_self y 1 false (by omega) y0 y1) ?_
  rw [Int.mul_one, Int.mul_one, Int.mul_one]
  rcases (show V < un y ∨ V = un y by omega) with h | h
  · left; omega
  · right; exact ⟨by omega, id⟩

/-- What the rounding of a sum lost is a double. -/
theorem err_db {a b s ya yb : Int} (ha : az a = un ya) (hb : az b = un yb) (a0 : 0 ≤ ya) (a1 : ya < 9218868437227405312) (b0 : 0 ≤ yb) (b1 : yb < 9218868437227405312) (h : Fl (a + b) s) :
    DB (a + b - s) ∧ az (a + b - s) ≤ az a ∧ az (a + b - s) ≤ az b := by
  have g1 := h.near (w := a) ⟨ya, a0, a1, ha⟩
  have g2 := h.near (w := b) ⟨yb, b0, b1, hb⟩
  rw [show a + b - a = b by omega] at g1
  rw [show a + b - b = a by omega] at g2
  refine ⟨?_, g2, g1⟩
  have key : ∀ y, 0 ≤ y → y < 9218868437227405312 → Dv (ex y) a → Dv (ex y) b → az (a + b - s) ≤ un y → DB (a + b - s) := by
    intro y y0 y1 da db hl
    have e : ex y ≤ 2045 := by simp only [ex]; omega
    have u1 := un_bd y y0
    have p := Nm.two_mono e
    have e2 : (2 : Int) ^ 2098 = 9007199254740992 * 2 ^ 2045 := by rw [show 2098 = 53 + 2045 by rfl, Nm.two_add]; rfl
    exact db_of ((da.add db).sub (h.dv' (da.add db) e)) (by omega) (by omega)
  rcases (show ya ≤ yb ∨ yb ≤ ya by omega) with hl | hl
  · exact key ya a0 a1 (.of_az (by rw [ha]; exact un_dv _ (Nat.le_refl _))) (.of_az (by rw [hb]; exact un_dv _ (ex_mono hl))) (by omega)
  · exact key yb b0 b1 (.of_az (by rw [ha]; exact un_dv _ (ex_mono hl))) (.of_az (by rw [hb]; exact un_dv _ (Nat.le_refl _))) (by omega)

/-- Where all is a multiple of 2^E and 54 bits long, at most 2^E is lost. -/
theorem err_small {S s : Int} {E : Nat} (h : Fl S s) (hS : Dv E S) (h1 : az S < 18014398509481984 * 2 ^ E) (h2 : az S < 2 ^ 2098) : az (S - s) ≤ 2 ^ E := by
  obtain ⟨k, hk⟩ := hS
  have p := Nm.two_pos E
  obtain ⟨j, hj⟩ : ∃ j : Int, (0 ≤ k ∧ 0 ≤ j ∧ (k = 2 * j ∨ k = 2 * j + 1)) ∨ (k < 0 ∧ j ≤ 0 ∧ (k = 2 * j ∨ k = 2 * j - 1)) := by
    rcases (show 0 ≤ k ∨ k < 0 by omega) with g | g
    · exact ⟨k / 2, by omega⟩
    · exact ⟨-((-k) / 2), by omega⟩
  have e1 : (2 * j + 1) * 2 ^ E = 2 * j * 2 ^ E + 2 ^ E := by rw [Int.add_mul, Int.one_mul]
  have e2 : (2 * j - 1) * 2 ^ E = 2 * j * 2 ^ E - 2 ^ E := by rw [Int.sub_mul, Int.one_mul]
  have d : Dv (E + 1) (2 * j * 2 ^ E) := ⟨j, by rw [Nm.two_succ]; ac_rfl⟩
  have e : (2 : Int) ^ (E + 1) = 2 * 2 ^ E := Nm.two_succ E
  have s0 : 0 ≤ j → 0 ≤ 2 * j * 2 ^ E := fun h => Int.mul_nonneg (by omega) (by omega)
  have s1 : j ≤ 0 → 2 * j * 2 ^ E ≤ 0 := fun h => Int.mul_nonpos_of_nonpos_of_nonneg (by omega) (by omega)
  have q : az (2 * j * 2 ^ E) ≤ az S ∧ az (S - 2 * j * 2 ^ E) ≤ 2 ^ E := by
    have hS : (0 ≤ j ∧ (S = 2 * j * 2 ^ E ∨ S = 2 * j * 2 ^ E + 2 ^ E)) ∨ (j ≤ 0 ∧ (S = 2 * j * 2 ^ E ∨ S = 2 * j * 2 ^ E - 2 ^ E)) := by
      rcases hj with ⟨h0, h1, g | g⟩ | ⟨h0, h1, g | g⟩ <;> rw [g] at hk
      · exact .inl ⟨h1, .inl hk⟩
      · exact .inl ⟨h1, .inr (by omega)⟩
      · exact .inr ⟨h1, .inl hk⟩
      · exact .inr ⟨h1, .inr (by omega)⟩
    clear hk hj e1 e2 d
    generalize 2 * j * 2 ^ E = z at *
    rcases hS with ⟨h0, g⟩ | ⟨h0, g⟩
    · have := s0 h0
      rcases az_or z with ⟨_, g1⟩ | ⟨_, g1⟩ <;> rcases az_or S with ⟨_, g2⟩ | ⟨_, g2⟩ <;> rcases az_or (S - z) with ⟨_, g3⟩ | ⟨_, g3⟩ <;> omega
    · have := s1 h0
      rcases az_or z with ⟨_, g1⟩ | ⟨_, g1⟩ <;> rcases az_or S with ⟨_, g2⟩ | ⟨_, g2⟩ <;> rcases az_or (S - z) with ⟨_, g3⟩ | ⟨_, g3⟩ <;> omega
  have w : DB (2 * j * 2 ^ E) := db_of d (by omega) (by omega)
  have := h.near w
  omega

theorem two_2098 : (2 : Int) ^ 2098 = 9007199254740992 * 2 ^ 2045 := by rw [show 2098 = 53 + 2045 by rfl, Nm.two_add]; rfl

/-- Sterbenz: of two doubles within a factor of two the difference is a double. -/
theorem sterbenz {x y : Int} (x0 : 0 ≤ x) (y1 : y < 9218868437227405312) (hl : x ≤ y) (h : un y ≤ 2 * un x) : DB (un y - un x) := by
  have u1 := un_bd x x0
  have u2 := un_le x0 hl
  have d := (un_dv y (ex_mono hl)).sub (un_dv x (Nat.le_refl _))
  have e : ex x ≤ 2045 := by simp only [ex]; omega
  have p := Nm.two_mono e
  have e2 := two_2098
  refine db_of d ?_ ?_ <;> rcases az_or (un y - un x) with ⟨_, g⟩ | ⟨_, g⟩ <;> omega

/-- The greater of both taken off the sum leaves a double. -/
theorem fast {a b s ya yb : Int} (ha : az a = un ya) (hb : az b = un yb) (b0 : 0 ≤ yb) (hl : yb ≤ ya) (a1 : ya < 9218868437227405312) (b1 : un yb < 2 ^ 2096) (h : Fl (a + b) s) : DB (s - a) := by
  have eb : ex yb ≤ 2045 := by simp only [ex]; omega
  have ub := un_bd yb b0
  have da : Dv (ex yb) a := .of_az (by rw [ha]; exact un_dv _ (ex_mono hl))
  have db : Dv (ex yb) b := .of_az (by rw [hb]; exact un_dv _ (Nat.le_refl _))
  have dB : DB b := ⟨yb, b0, by omega, hb⟩
  have g1 := h.near (w := a) ⟨ya, by omega, a1, ha⟩
  rw [show a + b - a = b by omega] at g1
  have e96 : (2 : Int) ^ 2098 = 4 * 2 ^ 2096 := by rw [show 2098 = 2 + 2096 by rfl, Nm.two_add]; rfl
  have es : (2 : Int) ^ (ex yb + 1) = 2 * 2 ^ ex yb := Nm.two_succ _
  rcases h.dv (da.add db) eb with ⟨_, _, g⟩ | g
  · rw [g, show a + b - a = b by omega]; exact dB
  · have sz : az (s - a) ≤ 2 * az b := by
      rcases az_or b with ⟨_, q1⟩ | ⟨_, q1⟩ <;> rcases az_or (a + b - s) with ⟨_, q2⟩ | ⟨_, q2⟩ <;> rcases az_or (s - a) with ⟨_, q3⟩ | ⟨_, q3⟩ <;> omega
    rcases (show ex yb + 1 ≤ ex ya ∨ ex ya = ex yb by have := ex_mono hl; omega) with c | c
    · have da' : Dv (ex yb + 1) a := .of_az (by rw [ha]; exact un_dv _ c)
      exact db_of (g.sub da') (by omega) (by omega)
    · have ua := un_bd ya (by omega)
      rw [c] at ua
      have sm := err_small h (da.add db) (by rcases az_or a with ⟨_, q1⟩ | ⟨_, q1⟩ <;> rcases az_or b with ⟨_, q2⟩ | ⟨_, q2⟩ <;> rcases az_or (a + b) with ⟨_, q3⟩ | ⟨_, q3⟩ <;> omega)
      have big : az (a + b) < 2 ^ 2098 ∨ 2 ^ 2098 ≤ az (a + b) := by omega
      rcases big with big | big
      · have sm' := sm big
        have le : un yb ≤ 9007199254740991 * 2 ^ ex yb := by
          have := (man_nn yb b0).2
          exact Int.mul_le_mul_of_nonneg_right (by omega) (by have := Nm.two_pos (ex yb); omega)
        refine db_of ((g.down (Nat.le_succ _)).sub da) ?_ (by omega)
        rcases az_or b with ⟨_, q1⟩ | ⟨_, q1⟩ <;> rcases az_or (a + b - s) with ⟨_, q2⟩ | ⟨_, q2⟩ <;> rcases az_or (s - a) with ⟨_, q3⟩ | ⟨_, q3⟩ <;> omega
      · exfalso
        -- both have the exponent of b, which is small
        have h1 : un ya < 2 ^ 2097 := by
          rcases Nat.eq_zero_or_pos (ex yb) with z | z
          · rw [z] at ua
            have := Nm.two_mono (show 53 ≤ 2097 by omega)
            have e53 : (2 : Int) ^ 53 = 9007199254740992 := by decide
            omega
          · have m : 4503599627370496 ≤ man yb := by
              simp only [man]
              simp only [ex] at z
              split <;> omega
            have m2 : 4503599627370496 * 2 ^ ex yb ≤ un yb := Int.mul_le_mul_of_nonneg_right m (by have := Nm.two_pos (ex yb); omega)
            have e97 : (2 : Int) ^ 2097 = 2 * 2 ^ 2096 := Nm.two_succ 2096
            omega
        have e97 : (2 : Int) ^ 2097 = 2 * 2 ^ 2096 := Nm.two_succ 2096
        rcases az_or a with ⟨_, q1⟩ | ⟨_, q1⟩ <;> rcases az_or b with ⟨_, q2⟩ | ⟨_, q2⟩ <;> rcases az_or (a + b) with ⟨_, q3⟩ | ⟨_, q3⟩ <;> omega
end Ie
end Go.Proofs.YtjebdobopechfabDoor

/-
  Knuth's sum and the fused rest of a product.
-/
namespace Go.Proofs.YtjebdobopechfabDoor
namespace Ie

theorem Fl.ge {S z y : Int} (h : Fl S z) (y0 : 0 ≤ y) (y1 : y ≤ 9218868437227405312) (hS : un y ≤ az S) : un y ≤ az z := by
  obtain ⟨n, V, x, rfl, hV, rfl, hN⟩ := h
  rw [az_sn n V hV] at hS
  rw [az_sn n _ (un_nn hN.1.1)]
  rcases (show y ≤ x ∨ x < y by omega) with h | h
  · exact un_le y0 h
  · exfalso
    have g1 := hN.2.2 (by omega)
    rw [md_un x hN.1.1, Int.mul_one] at g1
    have g2 := un_le (x := x + 1) (y := y) (by have := hN.1.1; omega) (by omega)
    have g3 := un_lt hN.1.1 (show x < x + 1 by omega)
    omega

/-- Knuth's six additions: what each answers is exact but for the first two. -/
theorem knuth {a b s bb ya yb ys : Int} (ha : az a = un ya) (hb : az b = un yb) (hs : az s = un ys) (a0 : 0 ≤ ya) (a1 : ya < 9218868437227405312) (b0 : 0 ≤ yb) (b1 : yb < 9218868437227405312) (s0 : 0 ≤ ys) (s1 : ys < 9218868437227405312)
    (ma : un ya < 2 ^ 2096) (mb : un yb < 2 ^ 2096) (h1 : Fl (a + b) s) (h2 : Fl (s - a) bb) : DB (s - bb) ∧ DB (a - (s - bb)) ∧ DB (b - bb) ∧ DB (a + b - s) := by
  obtain ⟨d1, d2, d3⟩ := err_db ha hb a0 a1 b0 b1 h1
  have e96 : (2 : Int) ^ 2098 = 4 * 2 ^ 2096 := by rw [show 2098 = 2 + 2096 by rfl, Nm.two_add]; rfl
  have dA : DB a := ⟨ya, a0, a1, ha⟩
  have dB : DB b := ⟨yb, b0, b1, hb⟩
  rcases (show yb ≤ ya ∨ ya < yb by omega) with hl | hl
  · have f := fast ha hb b0 hl a1 mb h1
    have e : bb = s - a := h2.exact f
    refine ⟨?_, ?_, ?_, d1⟩
    · rw [show s - bb = a by omega]; exact dA
    · rw [show a - (s - bb) = 0 by omega]; exact DB.zero
    · rw [show b - bb = a + b - s by omega]; exact d1
  · have h2' : Fl (s + -a) bb := by rw [← Int.sub_eq_add_neg]; exact h2
    have ha' : az (-a) = un ya := by rw [az_neg, ha]
    obtain ⟨n1, n2, n3⟩ := err_db hs ha' s0 s1 a0 a1 h2'
    have n4 := h2.near (w := b) dB
    have n5 : az (s - a - b) = az (a + b - s) := by rw [show s - a - b = -(a + b - s) by omega, az_neg]
    rw [n5] at n4
    have n1' : DB (a - (s - bb)) := by rw [show a - (s - bb) = -(s + -a - bb) by omega]; exact n1.neg
    have key : bb = b ∧ s = a + b → DB (s - bb) ∧ DB (a - (s - bb)) ∧ DB (b - bb) ∧ DB (a + b - s) := by
      rintro ⟨e1, e2⟩
      refine ⟨?_, n1', ?_, d1⟩
      · rw [show s - bb = a by omega]; exact dA
      · rw [show b - bb = 0 by omega]; exact DB.zero
    rcases (show ya ≤ ys ∨ ys < ya by omega) with c | c
    · have f := fast hs ha' a0 c s1 ma h2'
      have f' : DB (s - bb) := by rw [show s - bb = -(bb - s) by omega]; exact f.neg
      refine ⟨f', n1', ?_, d1⟩
      -- b - bb
      have ea : ex ya ≤ 2045 := by simp only [ex]; omega
      have da : Dv (ex ya) a := .of_az (by rw [ha]; exact un_dv _ (Nat.le_refl _))
      have db : Dv (ex ya) b := .of_az (by rw [hb]; exact un_dv _ (ex_mono (by omega)))
      have ds := h1.dv' (da.add db) ea
      have ua := un_bd ya a0
      have es : (2 : Int) ^ (ex ya + 1) = 2 * 2 ^ ex ya := Nm.two_succ _
      have p := Nm.two_pos (ex ya)
      have sz : az (b - bb) ≤ 2 * az (a + b - s) := by
        rcases az_or (a + b - s) with ⟨_, q1⟩ | ⟨_, q1⟩ <;> rcases az_or (s - a - bb) with ⟨_, q2⟩ | ⟨_, q2⟩ <;> rcases az_or (b - bb) with ⟨_, q3⟩ | ⟨_, q3⟩ <;> omega
      rcases h2.dv (ds.sub da) ea with ⟨_, _, g⟩ | g
      · rw [show b - bb = a + b - s by omega]; exact d1
      · rcases (show ex ya + 1 ≤ ex yb ∨ ex yb = ex ya by have := ex_mono (Int.le_of_lt hl); omega) with c' | c'
        · have db' : Dv (ex ya + 1) b := .of_az (by rw [hb]; exact un_dv _ c')
          exact db_of (db'.sub g) (by omega) (by omega)
        · have ub := un_bd yb b0
          rw [c'] at ub
          have le : az (a + b) ≤ az a + az b := by
            rcases az_or a with ⟨_, q1⟩ | ⟨_, q1⟩ <;> rcases az_or b with ⟨_, q2⟩ | ⟨_, q2⟩ <;> rcases az_or (a + b) with ⟨_, q3⟩ | ⟨_, q3⟩ <;> omega
          have sm := err_small h1 (da.add db) (by omega) (by omega)
          exact db_of (db.sub (g.down (Nat.le_succ _))) (by omega) (by omega)
    · -- the sum is less than a: b lies within a factor of two
      have lt := un_lt s0 c
      have ub := un_lt a0 hl
      have g : az (a + b) < az a := by
        rcases (show az (a + b) < az a ∨ az a ≤ az (a + b) by omega) with h | h
        · exact h
        · have := h1.ge a0 (by omega) (by omega)
          omega
      have st := sterbenz a0 b1 (Int.le_of_lt hl) (by
        rcases az_or a with ⟨_, q1⟩ | ⟨_, q1⟩ <;> rcases az_or b with ⟨_, q2⟩ | ⟨_, q2⟩ <;> rcases az_or (a + b) with ⟨_, q3⟩ | ⟨_, q3⟩ <;> omega)
      have dS : DB (a + b) := by
        rcases (show a + b = un yb - un ya ∨ a + b = -(un yb - un ya) by
          rcases az_or a with ⟨_, q1⟩ | ⟨_, q1⟩ <;> rcases az_or b with ⟨_, q2⟩ | ⟨_, q2⟩ <;> rcases az_or (a + b) with ⟨_, q3⟩ | ⟨_, q3⟩ <;> omega) with e | e <;> rw [e]
        · exact st
        · exact st.neg
      have e1 := h1.exact dS
      refine key ⟨?_, e1⟩
      refine h2.exact ?_ |>.trans (by omega)
      rw [show s - a = b by omega]
      exact dB

/-- The sum of two modest doubles is finite. -/
theorem un_2097 : ∃ y, 0 ≤ y ∧ y < 9218868437227405312 ∧ un y = 2 ^ 2097 := by
  obtain ⟨y, y0, y1, hy⟩ := un_rep 2045 4503599627370496 (by omega) (by omega) (by omega)
  refine ⟨y, y0, y1, ?_⟩
  rw [hy, show 2097 = 52 + 2045 by rfl, Nm.two_add]
  rfl

theorem knuth_fin {a b s : Int} (ha : az a < 2 ^ 2096) (hb : az b < 2 ^ 2096) (h1 : Fl (a + b) s) : az s ≤ 2 ^ 2097 ∧ DB s := by
  obtain ⟨y, y0, y1, hy⟩ := un_2097
  have e : (2 : Int) ^ 2097 = 2 * 2 ^ 2096 := Nm.two_succ 2096
  obtain ⟨x, x0, x1, hx⟩ := h1.fin y y0 y1 (by
    rw [hy]
    rcases az_or a with ⟨_, q1⟩ | ⟨_, q1⟩ <;> rcases az_or b with ⟨_, q2⟩ | ⟨_, q2⟩ <;> rcases az_or (a + b) with ⟨_, q3⟩ | ⟨_, q3⟩ <;> omega)
  exact ⟨by have := un_le x0 x1; omega, x, x0, by omega, hx⟩

theorem knuth_fin2 {a b s bb : Int} (hA : DB a) (hb : az b < 2 ^ 2096) (h1 : Fl (a + b) s) (h2 : Fl (s - a) bb) : DB bb := by
  obtain ⟨y, y0, y1, hy⟩ := un_2097
  have e : (2 : Int) ^ 2097 = 2 * 2 ^ 2096 := Nm.two_succ 2096
  have g1 := h1.near (w := a) hA
  rw [show a + b - a = b by omega] at g1
  obtain ⟨x, x0, x1, hx⟩ := h2.fin y y0 y1 (by
    rw [hy]
    rcases az_or b with ⟨_, q1⟩ | ⟨_, q1⟩ <;> rcases az_or (a + b - s) with ⟨_, q2⟩ | ⟨_, q2⟩ <;> rcases az_or (s - a) with ⟨_, q3⟩ | ⟨_, q3⟩ <;> omega)
  exact ⟨x, x0, by omega, hx⟩

/-- How far a rounding goes. -/
theorem near_half {V x : Int} (v0 : 0 ≤ V) (h : Near (2 * V) 1 false x) (hx : x < 9218868437227405312) : 2 * az (V - un x) ≤ 2 ^ ex x := by
  have x0 := h.1.1
  have g := h.2.2 hx
  have us := un_succ x x0
  have p := Nm.two_pos (ex x)
  rw [md_un x x0, Int.mul_one] at g
  rcases az_or (V - un x) with ⟨q, q'⟩ | ⟨q, q'⟩
  · rcases g with g | g <;> omega
  · rcases (show x = 0 ∨ 0 < x by omega) with h0 | h0
    · subst h0
      rw [un_zero] at *
      omega
    · have g2 := h.2.1 h0
      have us' := un_succ (x - 1) (by omega)
      rw [md_un (x - 1) (by omega), Int.mul_one, show x - 1 + 1 = x by omega] at g2
      rw [show x - 1 + 1 = x by omega] at us'
      have m := Nm.two_mono (ex_mono (show x - 1 ≤ x by omega))
      rcases g2 with g2 | g2 <;> omega

/-- What the rounding of a product lost is a double, if its last bit counts at least 1. -/
theorem fused {T p : Int} {F : Nat} (hT : Dv F T) (hb : az T < 2 ^ (106 + F)) (h : Fl T p) (hp : DB p) : DB (T - p) := by
  have h' := h
  obtain ⟨n, V, x, rfl, hV, rfl, hN⟩ := h'
  obtain ⟨y, y0, y1, hy⟩ := hp
  rw [az_sn n _ (un_nn hN.1.1)] at hy
  have e := un_inj hN.1.1 y0 hy
  subst e
  rw [az_sn n V hV] at hb
  have eS : az (sn n V - sn n (un x)) = az (V - un x) := by
    cases n
    · rfl
    · rw [sn_true, sn_true, show -V - -un x = -(V - un x) by omega, az_neg]
  have hh := near_half hV hN y1
  have ex1 : ex x ≤ 2045 := by simp only [ex]; omega
  have p1 := Nm.two_mono ex1
  have e98 := two_2098
  have p2 := Nm.two_pos 2045
  rcases Nat.lt_or_ge 2045 F with hF | hF
  · have d := hT.down (show 2045 ≤ F by omega)
    have ub := un_bd x hN.1.1
    have v1 : V ≤ 9007199254740992 * 2 ^ 2045 := by
      have g := hN.2.2 y1
      rw [md_eq, vl_un, Int.mul_one] at g
      have m : un x ≤ 9007199254740991 * 2 ^ 2045 := by
        have := (man_nn x y0).2
        have a1 : un x ≤ 9007199254740991 * 2 ^ ex x := Int.mul_le_mul_of_nonneg_right (by omega) (by have := Nm.two_pos (ex x); omega)
        have a2 : (9007199254740991 : Int) * 2 ^ ex x ≤ 9007199254740991 * 2 ^ 2045 := Int.mul_le_mul_of_nonneg_left p1 (by omega)
        omega
      rcases g with g | g <;> omega
    have v2 : V < 2 ^ 2098 := by
      have g := hN.2.2 y1
      rw [md_eq, vl_un, Int.mul_one] at g
      have m : un x ≤ 9007199254740991 * 2 ^ 2045 := by
        have := (man_nn x y0).2
        have a1 : un x ≤ 9007199254740991 * 2 ^ ex x := Int.mul_le_mul_of_nonneg_right (by omega) (by have := Nm.two_pos (ex x); omega)
        have a2 : (9007199254740991 : Int) * 2 ^ ex x ≤ 9007199254740991 * 2 ^ 2045 := Int.mul_le_mul_of_nonneg_left p1 (by omega)
        omega
      rcases g with g | g <;> omega
    have dT : DB (sn n V) := db_of d (by rw [az_sn n V hV]; exact v1) (by rw [az_sn n V hV]; exact v2)
    have := h.exact dT
    rw [this, Int.sub_self]
    exact DB.zero
  · have d := hT.sub (h.dv' hT hF)
    refine db_of d ?_ ?_ <;> rw [eS]
    · have e54 : ex x ≤ F + 54 := by
        rcases Nat.lt_or_ge (F + 54) (ex x) with c | c
        · exfalso
          have m : 4503599627370496 ≤ man x := by
            have z : 0 < ex x := by omega
            simp only [man]
            simp only [ex] at z
            split <;> omega
          have m2 : 4503599627370496 * 2 ^ ex x ≤ un x := Int.mul_le_mul_of_nonneg_right m (by have := Nm.two_pos (ex x); omega)
          have m3 := Nm.two_mono (show F + 55 ≤ ex x by omega)
          have m4 : (2 : Int) ^ (106 + F) = 2251799813685248 * 2 ^ (F + 55) := by rw [show 106 + F = 51 + (F + 55) by omega, Nm.two_add]; rfl
          have m5 := Nm.two_pos (F + 55)
          rcases az_or (V - un x) with ⟨q, q'⟩ | ⟨q, q'⟩ <;> omega
        · exact c
      have m := Nm.two_mono e54
      have m2 : (2 : Int) ^ (F + 54) = 18014398509481984 * 2 ^ F := by rw [Nat.add_comm, Nm.two_add]; rfl
      omega
    · omega
end Ie
end Go.Proofs.YtjebdobopechfabDoor

/-
  Knuth's sum and Sterbenz's lemma over the bits.
-/
namespace Go.Proofs.YtjebdobopechfabDoor
namespace Ie
theorem RS.fl {S : Int} {z : Bool} {r : Int} (h : RS S 1 z r) : Fl S (uv r) := by
  obtain ⟨neg, V, x, rfl, hS, v0, hN, -⟩ := h
  have := hN.1
  exact ⟨neg, V, x, hS, v0, uv_sb neg x this.1 (by omega), hN⟩

theorem RS.fin {S Q : Int} {z : Bool} {r : Int} (h : RS S Q z r) (hD : DB (uv r)) : fin r := by
  obtain ⟨neg, V, x, rfl, hS, v0, hN, -⟩ := h
  obtain ⟨x0, x1⟩ := hN.1
  obtain ⟨y, y0, y1, hy⟩ := hD
  rw [uv_sb neg x x0 (by omega), az_sn neg _ (un_nn x0)] at hy
  have e := un_inj x0 y0 hy
  rw [Ie.fin, (ab_sb neg x x0 (by omega)).1]
  omega

theorem fin_db {d : Int} (h : Ie.fin d) : DB (uv d) := ⟨ab d, (ab_bd d).1, h, az_sn _ _ (un_nn (ab_bd d).1)⟩

theorem az_uv (d : Int) : az (uv d) = un (ab d) := az_sn _ _ (un_nn (ab_bd d).1)

theorem sub_rs {a b r f : Int} (b0 : 0 ≤ b) (b1 : b < 18446744073709551616) (fa : Ie.fin a) (fb : Ie.fin b) (h : AddIs a (ng b) r f) : RS (uv a - uv b) 1 (ngd a && !ngd b) r := by
  obtain ⟨g1, g2, g3, -⟩ := ng_uv b b0 b1
  have := h.rs fa (by rw [Ie.fin, g2]; exact fb)
  rw [g1, g3, ← Int.sub_eq_add_neg] at this
  exact this

/-- A sum that is a double is exact. -/
theorem RS.ex {S : Int} {z : Bool} {r : Int} (h : RS S 1 z r) (hD : DB S) : uv r = S ∧ Ie.fin r := by
  have e := h.fl.exact hD
  exact ⟨e, h.fin (by rw [e]; exact hD)⟩

theorem modest_un {d : Int} (h : ab d < 9209861237972664320) : un (ab d) < 2 ^ 2096 := by
  have h1 := un_lt (ab_bd d).1 h
  have e1 : man 9209861237972664320 = 4503599627370496 := by decide
  have e2 : ex 9209861237972664320 = 2044 := by decide
  have e3 : un 9209861237972664320 = 2 ^ 2096 := by
    rw [un, e1, e2, show 2096 = 52 + 2044 by rfl, Nm.two_add]; rfl
  omega

/-- Knuth's six additions over the bits. -/
theorem twoSum {a b s bb t da db e f1 f2 f3 f4 f5 f6 : Int} (a0 : 0 ≤ a) (a1 : a < 18446744073709551616) (ma : ab a < 9209861237972664320) (mb : ab b < 9209861237972664320)
    (bb1 : 0 ≤ bb ∧ bb < 18446744073709551616) (t1 : 0 ≤ t ∧ t < 18446744073709551616)
    (h1 : AddIs a b s f1) (h2 : AddIs s (ng a) bb f2) (h3 : AddIs s (ng bb) t f3) (h4 : AddIs a (ng t) da f4) (h5 : AddIs b (ng bb) db f5) (h6 : AddIs da db e f6) :
    Ie.fin s ∧ Ie.fin e ∧ uv a + uv b = uv s + uv e := by
  have fa : Ie.fin a := by rw [Ie.fin]; omega
  have fb : Ie.fin b := by rw [Ie.fin]; omega
  have ua := modest_un ma
  have ub := modest_un mb
  have r1 := h1.rs fa fb
  have k1 := knuth_fin (by rw [az_uv]; exact ua) (by rw [az_uv]; exact ub) r1.fl
  have fs := r1.fin k1.2
  have r2 := sub_rs a0 a1 fs fa h2
  have k2 := knuth_fin2 (fin_db fa) (by rw [az_uv]; exact ub) r1.fl r2.fl
  have fbb := r2.fin k2
  obtain ⟨d1, d2, d3, d4⟩ := knuth (az_uv a) (az_uv b) (az_uv s) (ab_bd a).1 fa (ab_bd b).1 fb (ab_bd s).1 fs ua ub r1.fl r2.fl
  obtain ⟨e3, ft⟩ := (sub_rs bb1.1 bb1.2 fs fbb h3).ex d1
  obtain ⟨e4, fda⟩ := (sub_rs t1.1 t1.2 fa ft h4).ex (by rw [e3]; exact d2)
  obtain ⟨e5, fdb⟩ := (sub_rs bb1.1 bb1.2 fb fbb h5).ex d3
  have eq : uv da + uv db = uv a + uv b - uv s := by omega
  obtain ⟨e6, fe⟩ := (h6.rs fda fdb).ex (by rw [eq]; exact d4)
  exact ⟨fs, fe, by omega⟩

/-- Sterbenz over the bits. -/
theorem sterbenz_bits {a b d f : Int} (b0 : 0 ≤ b) (b1 : b < 18446744073709551616) (fa : Ie.fin a) (fb : Ie.fin b) (hn : ngd a = ngd b) (h1 : un (ab a) ≤ un (ab b) * 2) (h2 : un (ab b) ≤ un (ab a) * 2) (h : AddIs a (ng b) d f) :
    Ie.fin d ∧ uv d = uv a - uv b := by
  have key : DB (uv a - uv b) := by
    rcases (show ab a ≤ ab b ∨ ab b ≤ ab a by omega) with g | g
    · have s := sterbenz (ab_bd a).1 fb g (by omega)
      rw [uv, uv, hn]
      cases ngd b
      · rw [sn_false, sn_false, show un (ab a) - un (ab b) = -(un (ab b) - un (ab a)) by omega]; exact s.neg
      · rw [sn_true, sn_true, show -un (ab a) - -un (ab b) = un (ab b) - un (ab a) by omega]; exact s
    · have s := sterbenz (ab_bd b).1 fa g (by omega)
      rw [uv, uv, hn]
      cases ngd b
      · exact s
      · rw [sn_true, sn_true, show -un (ab a) - -un (ab b) = -(un (ab a) - un (ab b)) by omega]; exact s.neg
  obtain ⟨e, fd⟩ := (sub_rs b0 b1 fa fb h).ex key
  exact ⟨fd, e⟩

/-- The product and its fused rest, over the bits. -/
theorem twoProd {a b p e f1 f2 : Int} (p1 : 0 ≤ p ∧ p < 18446744073709551616) (fa : Ie.fin a) (fb : Ie.fin b) (hp : ab p ≠ 9218868437227405312) (hx : -1074 ≤ de a + de b) (h1 : MulIs a b p f1) (h2 : FmaIs a b (ng p) e f2) :
    Ie.fin p ∧ Ie.fin e ∧ uv a * uv b = (uv p + uv e) * 2 ^ 1074 := by
  have q := Nm.two_pos 1074
  have r1 := h1.rs fa fb
  have fp : Ie.fin p := by
    obtain ⟨neg, V, x, rfl, -, -, hN, -⟩ := r1
    obtain ⟨x0, x1⟩ := hN.1
    have g := (ab_sb neg x x0 (by omega)).1
    rw [Ie.fin, g]
    rw [g] at hp
    omega
  obtain ⟨g1, g2, g3, -⟩ := ng_uv p p1.1 p1.2
  have r2 := h2.rs fa fb (by rw [Ie.fin, g2]; exact fp)
  rw [g1] at r2
  obtain ⟨⟨da0, da1⟩, ⟨ea0, ea1⟩, ga, za⟩ := dec_f a fa
  obtain ⟨⟨db0, db1⟩, ⟨eb0, eb1⟩, gb, zb⟩ := dec_f b fb
  obtain ⟨F, hF⟩ : ∃ k : Nat, (k : Int) = de a + de b + 1074 := ⟨(de a + de b + 1074).toNat, by omega⟩
  obtain ⟨T, hT⟩ : ∃ T : Int, T = sn (ngd a != ngd b) (dm a * dm b * 2 ^ F) := ⟨_, rfl⟩
  have pa := prod_at fa fb (F + 1074) (by omega)
  have hS : uv a * uv b = T * 2 ^ 1074 := by
    rw [uv_mul, ← pa, Nm.two_add, hT, sn_mul_right, ← Int.mul_assoc (dm a * dm b)]
  have m0 : 0 ≤ dm a * dm b := Int.mul_nonneg da0 db0
  have dT : Dv F T := by
    refine ⟨sn (ngd a != ngd b) (dm a * dm b), ?_⟩
    rw [sn_mul_right]; exact hT
  have bT : az T < 2 ^ (106 + F) := by
    rw [hT, az_sn _ _ (Int.mul_nonneg m0 (by have := Nm.two_pos F; omega)), Nm.two_add]
    refine Int.mul_lt_mul_of_pos_right ?_ (Nm.two_pos F)
    have h1 : dm a * dm b ≤ dm a * 9007199254740992 := Int.mul_le_mul_of_nonneg_left (by omega) da0
    have h2 : (2 : Int) ^ 106 = 81129638414606681695789005144064 := by decide
    omega
  have flT : Fl T (uv p) := by
    obtain ⟨neg, V, x, hx, hV, v0, hN, -⟩ := r1
    rw [hS] at hV
    have e0 : V = az T * 2 ^ 1074 := by
      have g := az_sn neg V v0
      rw [← hV] at g
      rw [← g]
      rcases az_or T with ⟨t0, ht⟩ | ⟨t0, ht⟩ <;> rw [ht]
      · have : 0 ≤ T * 2 ^ 1074 := Int.mul_nonneg t0 (by omega)
        simp only [az]; split <;> omega
      · rw [Int.neg_mul]
        have : T * 2 ^ 1074 ≤ 0 := Int.mul_nonpos_of_nonpos_of_nonneg t0 (by omega)
        simp only [az]; split <;> omega
    have hT' : T = sn neg (az T) := by
      rw [e0, ← sn_mul_right] at hV
      exact Int.eq_of_mul_eq_mul_right (by omega) hV
    refine ⟨neg, az T, x, hT', az_nn T, ?_, ?_⟩
    · rw [hx]; exact uv_sb neg x hN.1.1 (by have := hN.1.2; omega)
    · rw [e0] at hN
      refine ⟨hN.1, fun h => ?_, fun h => ?_⟩
      · rcases hN.2.1 h with g | ⟨g, g'⟩
        · left
          rw [← Int.mul_assoc] at g
          rw [Int.mul_one]
          exact Int.lt_of_mul_lt_mul_right g (by omega)
        · right
          rw [← Int.mul_assoc] at g
          rw [Int.mul_one]
          exact ⟨Int.eq_of_mul_eq_mul_right (by omega) g, g'⟩
      · rcases hN.2.2 h with g | ⟨g, g'⟩
        · left
          rw [← Int.mul_assoc] at g
          rw [Int.mul_one]
          exact Int.lt_of_mul_lt_mul_right g (by omega)
        · right
          rw [← Int.mul_assoc] at g
          rw [Int.mul_one]
          exact ⟨Int.eq_of_mul_eq_mul_right (by omega) g, g'⟩
  have dD := fused dT bT flT (fin_db fp)
  obtain ⟨y, y0, y1, hy⟩ := dD
  have eS : uv a * uv b + -uv p * 2 ^ 1074 = (T - uv p) * 2 ^ 1074 := by
    rw [hS, Int.sub_mul, Int.neg_mul]; omega
  rw [eS] at r2
  have ea : az ((T - uv p) * 2 ^ 1074) = un y * 2 ^ 1074 := by
    rw [← hy]
    rcases az_or (T - uv p) with ⟨t0, ht⟩ | ⟨t0, ht⟩ <;> rw [ht]
    · have : 0 ≤ (T - uv p) * 2 ^ 1074 := Int.mul_nonneg t0 (by omega)
      simp only [az]; split <;> omega
    · rw [Int.neg_mul]
      have : (T - uv p) * 2 ^ 1074 ≤ 0 := Int.mul_nonpos_of_nonpos_of_nonneg t0 (by omega)
      simp only [az]; split <;> omega
  obtain ⟨neg, hr, hS2, -⟩ := r2.exact q y y0 y1 ea
  have e1 : uv e = T - uv p := by
    rw [hr, uv_sb neg y y0 (by omega)]
    rw [← sn_mul_right] at hS2
    exact (Int.eq_of_mul_eq_mul_right (by omega) hS2).symm
  refine ⟨fp, ?_, ?_⟩
  · rw [Ie.fin, hr, (ab_sb neg y y0 (by omega)).1]; exact y1
  · rw [e1, hS]; congr 1; omega
end Ie
end Go.Proofs.YtjebdobopechfabDoor
