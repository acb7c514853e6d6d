/-
  Texts put together: MKinds, MKindsZ, XTwo, MNum, MSt, MLim, IRoomA, MAlign.
-/
import Derived.Test.YtkmadibfiikleaaDoorXDef
import Derived.Test.YtkmadibfiikleaaDoorXNum
import Derived.Test.YtkmadibfiikleaaDoorXMem
import Derived.Test.YtkmadibfiikleaaDoorTrailW
import Derived.Test.YtkmadibfiikleaaDoorIRound
import Derived.Test.YtkmadibfiikleaaDoorFromW
import Derived.Deep.RegionWith
import Derived.Deep.CutRange
import Derived.Deep.CutBlock
import Derived.Deep.RegionHeld3
import Derived.Test.YtkmadibfiikleaaDoorMem
import Derived.Test.YtkmadibfiikleaaDoorIS
/-
  remain: nan, infinite (made by mkmkinds.py).
-/
namespace Go.Proofs.YtkmadibfiikleaaDoor
open Go Go.RowKit Go.Deep

set_option maxRecDepth 100000 in
theorem mnan_any (d : Int) (w : World) (h0 : 0 ≤ d) (h1 : d < 18446744073709551616) :
    Calls Tryd.prog 35 #[.int .u64 d] w fun e w' => e = .returned (.bool (Ie.isn d)) ∧ w' = w := by
  have CL := hid (class_any d w h0 h1)
  have E := hid (Ie.isn_cls d)
  generalize Ie.cls d = c at CL E
  go_enter Tryd.func35, Tryd.ntmps35
  go_wp2_with fail
  refine CL.out.mono ?_
  rintro e w' ⟨rfl, rfl⟩
  go_wp2_with fail
  go_ret
  exact ⟨by rw [E.out]; rfl, rfl⟩

set_option maxRecDepth 100000 in
theorem minfinite_any (d : Int) (w : World) (h0 : 0 ≤ d) (h1 : d < 18446744073709551616) :
    Calls Tryd.prog 36 #[.int .u64 d] w fun e w' => e = .returned (.bool (Ie.isi d)) ∧ w' = w := by
  have CL := hid (class_any d w h0 h1)
  have E := hid (Ie.isi_cls d)
  generalize Ie.cls d = c at CL E
  go_enter Tryd.func36, Tryd.ntmps36
  go_wp2_with fail
  refine CL.out.mono ?_
  rintro e w' ⟨rfl, rfl⟩
  go_wp2_with fail
  go_ret
  exact ⟨by rw [E.out]; rfl, rfl⟩

theorem Ie.fin_kinds {d : Int} (h : Ie.fin d) : Ie.isn d = false ∧ Ie.isi d = false := by
  rw [Ie.fin] at h
  exact ⟨by rw [Ie.isn, decide_eq_false_iff_not]; omega, by rw [Ie.isi, decide_eq_false_iff_not]; omega⟩
theorem Ie.kinds (d : Int) : Ie.isn d = true ∨ (Ie.isn d = false ∧ Ie.isi d = true ∧ ¬ Ie.fin d) ∨ (Ie.isn d = false ∧ Ie.isi d = false ∧ Ie.fin d) := by
  simp only [Ie.isn, Ie.isi, Ie.fin, decide_eq_true_iff, decide_eq_false_iff_not]; omega
end Go.Proofs.YtkmadibfiikleaaDoor

/-
  remain: zero.
-/
namespace Go.Proofs.YtkmadibfiikleaaDoor
open Go Go.RowKit Go.Deep


set_option maxRecDepth 100000 in
theorem mzero_any (d : Int) (w : World) (h0 : 0 ≤ d) (h1 : d < 18446744073709551616) :
    Calls Tryd.prog 37 #[.int .u64 d] w fun e w' => e = .returned (.bool (Ie.isz d)) ∧ w' = w := by
  have CL := hid (class_any d w h0 h1)
  have E := hid (Ie.isz_cls d)
  generalize Ie.cls d = c at CL E
  go_enter Tryd.func37, Tryd.ntmps37
  go_wp2_with fail
  refine CL.out.mono ?_
  rintro e w' ⟨rfl, rfl⟩
  go_wp2_with fail
  go_ret
  exact ⟨by rw [E.out]; rfl, rfl⟩
end Go.Proofs.YtkmadibfiikleaaDoor

/-
  Exact differences, Knuth's sum, the fused rest: in whole numbers of 2^-1074.
-/
namespace Go.Proofs.YtkmadibfiikleaaDoor
namespace Ie

theorem az_or (z : Int) : (0 ≤ z ∧ az z = z) ∨ (z ≤ 0 ∧ az z = -z) := by
  simp only [az]; split <;> omega

theorem az_zero {z : Int} (h : az z = 0) : z = 0 := by rcases az_or z with ⟨_, g⟩ | ⟨_, g⟩ <;> omega

/-- A multiple of 2^E. -/
def Dv (E : Nat) (z : Int) : Prop := ∃ k, z = k * 2 ^ E

theorem Dv.add {E : Nat} {a b : Int} (h : Dv E a) (k : Dv E b) : Dv E (a + b) := by
  obtain ⟨x, rfl⟩ := h; obtain ⟨y, rfl⟩ := k; exact ⟨x + y, by rw [Int.add_mul]⟩
theorem Dv.neg {E : Nat} {a : Int} (h : Dv E a) : Dv E (-a) := by
  obtain ⟨x, rfl⟩ := h; exact ⟨-x, by rw [Int.neg_mul]⟩
theorem Dv.sub {E : Nat} {a b : Int} (h : Dv E a) (k : Dv E b) : Dv E (a - b) := by
  rw [Int.sub_eq_add_neg]; exact h.add k.neg
theorem Dv.down {E F : Nat} {a : Int} (h : Dv E a) (hF : F ≤ E) : Dv F a := by
  obtain ⟨x, rfl⟩ := h
  exact ⟨x * 2 ^ (E - F), by rw [Int.mul_assoc, ← Nm.two_add, show E - F + F = E by omega]⟩
theorem Dv.of_az {E : Nat} {a : Int} (h : Dv E (az a)) : Dv E a := by
  rcases az_or a with ⟨_, g⟩ | ⟨_, g⟩ <;> rw [g] at h
  · exact h
  · have := h.neg
    rwa [Int.neg_neg] at this
theorem Dv.az {E : Nat} {a : Int} (h : Dv E a) : Dv E (az a) := by
  rcases az_or a with ⟨_, g⟩ | ⟨_, g⟩ <;> rw [g]
  · exact h
  · exact h.neg

theorem un_dv (x : Int) {E : Nat} (h : E ≤ ex x) : Dv E (un x) := (show Dv (ex x) (un x) from ⟨man x, rfl⟩).down h

theorem un_bd (x : Int) (h : 0 ≤ x) : un x < 9007199254740992 * 2 ^ ex x :=
  Int.mul_lt_mul_of_pos_right (man_nn x h).2 (Nm.two_pos _)

theorem ex_mono {x y : Int} (h : x ≤ y) : ex x ≤ ex y := by simp only [ex]; omega

/-- The value of a finite double. -/
def DB (z : Int) : Prop := ∃ y, 0 ≤ y ∧ y < 9218868437227405312 ∧ az z = un y

theorem DB.neg {z : Int} (h : DB z) : DB (-z) := by
  obtain ⟨y, h0, h1, h2⟩ := h
  exact ⟨y, h0, h1, by rw [az_neg, h2]⟩

theorem DB.zero : DB 0 := ⟨0, by omega, by omega, by decide⟩

/-- 53 bits at any place: a double, if it is not too great. -/
theorem db_of {E : Nat} {z : Int} (h : Dv E z) (h1 : az z ≤ 9007199254740992 * 2 ^ E) (h2 : az z < 2 ^ 2098) : DB z := by
  obtain ⟨k, hk⟩ := h.az
  have p := Nm.two_pos E
  have z0 := az_nn z
  rw [hk] at h1 h2 z0
  have k1 : k ≤ 9007199254740992 := Int.le_of_mul_le_mul_right h1 p
  have k0 : 0 ≤ k := by
    rcases (show 0 ≤ k ∨ k < 0 by omega) with h | h
    · exact h
    · have := Int.mul_neg_of_neg_of_pos h p; omega
  rcases Nat.lt_or_ge 2045 E with hE | hE
  · have hp := Nm.two_pos 2045
    have e1 : k * 2 ^ E = k * 2 ^ (E - 2045) * 2 ^ 2045 := by rw [Int.mul_assoc, ← Nm.two_add, show E - 2045 + 2045 = E by omega]
    have e2 : (2 : Int) ^ 2098 = 9007199254740992 * 2 ^ 2045 := by rw [show 2098 = 53 + 2045 by rfl, Nm.two_add]; rfl
    rw [e1, e2] at h2
    have k2 := Int.lt_of_mul_lt_mul_right h2 (by omega)
    obtain ⟨y, y0, y1, hy⟩ := un_rep 2045 (k * 2 ^ (E - 2045)) (Int.mul_nonneg k0 (by have := Nm.two_pos (E - 2045); omega)) k2 (by omega)
    exact ⟨y, y0, y1, by rw [hk, e1, hy]⟩
  · obtain ⟨y, y0, y1, hy⟩ := un_rep' E k k0 k1 hE
    refine ⟨y, y0, ?_, by rw [hk, hy]⟩
    rcases (show y < 9218868437227405312 ∨ y = 9218868437227405312 by omega) with h | h
    · exact h
    · exfalso
      rw [h] at hy
      have e1 : man 9218868437227405312 = 4503599627370496 := by decide
      have e2 : ex 9218868437227405312 = 2046 := by decide
      have e3 : un 9218868437227405312 = 2 ^ 2098 := by
        rw [un, e1, e2, show 2098 = 52 + 2046 by rfl, Nm.two_add]; rfl
      omega

/-- The whole number S is rounded to z. -/
def Fl (S z : Int) : Prop := ∃ (neg : Bool) (V x : Int), S = sn neg V ∧ 0 ≤ V ∧ z = sn neg (un x) ∧ Near (2 * V) 1 false x

theorem Fl.exact {S z : Int} (h : Fl S z) (hS : DB S) : z = S := by
  obtain ⟨n, V, x, e, hV, rfl, hN⟩ := h
  obtain ⟨y, y0, y1, hy⟩ := hS
  have hv : V = un y := by rw [← hy, e, az_sn n V hV]
  have hx : x = y := hN.one (Q := 1) (Q' := 1) (by omega) (by omega) (near_self y 1 false (by omega) y0 y1) (by rw [hv]; simp only [Int.mul_one])
  rw [e, hv, hx]

theorem Fl.near {S z w : Int} (h : Fl S z) (hw : DB w) : az (S - z) ≤ az (S - w) := by
  obtain ⟨n, V, x, rfl, hV, rfl, hN⟩ := h
  obtain ⟨y, y0, y1, hy⟩ := hw
  have g0 := near_all (y := 0) (by omega) hN (by omega) (by omega)
  have g1 := near_all (y := y) (by omega) hN y0 (by omega)
  have u0 := un_nn y0
  rw [un_zero] at g0
  simp only [Int.mul_one, Int.sub_zero] at g0 g1
  have e1 : az (sn n V - sn n (un x)) = az (V - un x) := by
    cases n
    · rfl
    · rw [sn_true, sn_true, show -V - -un x = -(V - un x) by omega, az_neg]
  rw [e1]
  rcases az_or w with ⟨w0, gw⟩ | ⟨w0, gw⟩ <;> rw [hy] at gw <;> cases n <;> simp only [sn_true, sn_false]
  · rw [← gw]; exact g1
  · rw [show -V - w = -(V + un y) by omega, az_neg]
    rcases az_or V with ⟨_, g⟩ | ⟨_, g⟩ <;> rcases az_or (V + un y) with ⟨_, g'⟩ | ⟨_, g'⟩ <;> omega
  · rw [show V - w = V + un y by omega]
    rcases az_or V with ⟨_, g⟩ | ⟨_, g⟩ <;> rcases az_or (V + un y) with ⟨_, g'⟩ | ⟨_, g'⟩ <;> omega
  · rw [show -V - w = -(V - un y) by omega, az_neg]; exact g1

/-- What was a multiple of a power of two stays one; and of the next one, where it is great. -/
theorem Fl.dv {S z : Int} {E : Nat} (h : Fl S z) (hS : Dv E S) (hE : E ≤ 2045) : (az S ≤ 9007199254740992 * 2 ^ E ∧ az S < 2 ^ 2098 ∧ z = S) ∨ Dv (E + 1) z := by
  rcases (show az S ≤ 9007199254740992 * 2 ^ E ∧ az S < 2 ^ 2098 ∨ ¬ (az S ≤ 9007199254740992 * 2 ^ E ∧ az S < 2 ^ 2098) by omega) with ⟨g, g'⟩ | g
  · exact .inl ⟨g, g', h.exact (db_of hS g g')⟩
  · right
    obtain ⟨y, y0, y1, hy⟩ := un_rep' E 9007199254740992 (by omega) (by omega) hE
    have hp := Nm.two_mono hE
    have e2 : (2 : Int) ^ 2098 = 9007199254740992 * 2 ^ 2045 := by rw [show 2098 = 53 + 2045 by rfl, Nm.two_add]; rfl
    have big : un y ≤ az S := by omega
    obtain ⟨n, V, x, rfl, hV, rfl, hN⟩ := h
    rw [az_sn n V hV] at big
    have ey : y = ((E + 2 : Nat) : Int) * 4503599627370496 := by
      obtain ⟨t, ht⟩ : ∃ t : Int, t = ((E + 2 : Nat) : Int) * 4503599627370496 := ⟨_, rfl⟩
      have e1 : man t = 4503599627370496 := by simp only [man]; split <;> omega
      have e2 : ex t = E + 1 := by simp only [ex]; omega
      have e3 : un t = 9007199254740992 * 2 ^ E := by rw [un, e1, e2, Nm.two_succ, ← Int.mul_assoc]; rfl
      rw [← ht]
      exact un_inj y0 (by omega) (by rw [hy, e3])
    have le : y ≤ x := by
      rcases (show y ≤ x ∨ x < y by omega) with h | h
      · exact h
      · exfalso
        have g1 := hN.2.2 (by omega)
        rw [md_un x hN.1.1, Int.mul_one] at g1
        have g2 := un_le (x := x + 1) (y := y) (by have := hN.1.1; omega) (by omega)
        have g3 := un_lt hN.1.1 (show x < x + 1 by omega)
        omega
    have e : E + 1 ≤ ex x := by simp only [ex]; omega
    have d := un_dv x e
    cases n
    · exact d
    · exact d.neg

theorem Fl.dv' {S z : Int} {E : Nat} (h : Fl S z) (hS : Dv E S) (hE : E ≤ 2045) : Dv E z := by
  rcases h.dv hS hE with ⟨_, _, g⟩ | g
  · rw [g]; exact hS
  · exact g.down (by omega)

/-- A sum that is not too great has a finite answer. -/
theorem Fl.fin {S z : Int} (h : Fl S z) (y : Int) (y0 : 0 ≤ y) (y1 : y < 9218868437227405312) (hS : az S ≤ un y) : ∃ (x : Int), 0 ≤ x ∧ x ≤ y ∧ az z = un x := by
  obtain ⟨n, V, x, rfl, hV, rfl, hN⟩ := h
  rw [az_sn n V hV] at hS
  refine ⟨x, hN.1.1, ?_, az_sn n _ (un_nn hN.1.1)⟩
  refine hN.mono (Q := 1) (Q' := 1) (by omega) (by omega) (near_self y 1 false (by omega) y0 y1) ?_
  rw [Int.mul_one, Int.mul_one, Int.mul_one]
  rcases (show V < un y ∨ V = un y by omega) with h | h
  · left; omega
  · right; exact ⟨by omega, id⟩

/-- What the rounding of a sum lost is a double. -/
theorem err_db {a b s ya yb : Int} (ha : az a = un ya) (hb : az b = un yb) (a0 : 0 ≤ ya) (a1 : ya < 9218868437227405312) (b0 : 0 ≤ yb) (b1 : yb < 9218868437227405312) (h : Fl (a + b) s) :
    DB (a + b - s) ∧ az (a + b - s) ≤ az a ∧ az (a + b - s) ≤ az b := by
  have g1 := h.near (w := a) ⟨ya, a0, a1, ha⟩
  have g2 := h.near (w := b) ⟨yb, b0, b1, hb⟩
  rw [show a + b - a = b by omega] at g1
  rw [show a + b - b = a by omega] at g2
  refine ⟨?_, g2, g1⟩
  have key : ∀ y, 0 ≤ y → y < 9218868437227405312 → Dv (ex y) a → Dv (ex y) b → az (a + b - s) ≤ un y → DB (a + b - s) := by
    intro y y0 y1 da db hl
    have e : ex y ≤ 2045 := by simp only [ex]; omega
    have u1 := un_bd y y0
    have p := Nm.two_mono e
    have e2 : (2 : Int) ^ 2098 = 9007199254740992 * 2 ^ 2045 := by rw [show 2098 = 53 + 2045 by rfl, Nm.two_add]; rfl
    exact db_of ((da.add db).sub (h.dv' (da.add db) e)) (by omega) (by omega)
  rcases (show ya ≤ yb ∨ yb ≤ ya by omega) with hl | hl
  · exact key ya a0 a1 (.of_az (by rw [ha]; exact un_dv _ (Nat.le_refl _))) (.of_az (by rw [hb]; exact un_dv _ (ex_mono hl))) (by omega)
  · exact key yb b0 b1 (.of_az (by rw [ha]; exact un_dv _ (ex_mono hl))) (.of_az (by rw [hb]; exact un_dv _ (Nat.le_refl _))) (by omega)

/-- Where all is a multiple of 2^E and 54 bits long, at most 2^E is lost. -/
theorem err_small {S s : Int} {E : Nat} (h : Fl S s) (hS : Dv E S) (h1 : az S < 18014398509481984 * 2 ^ E) (h2 : az S < 2 ^ 2098) : az (S - s) ≤ 2 ^ E := by
  obtain ⟨k, hk⟩ := hS
  have p := Nm.two_pos E
  obtain ⟨j, hj⟩ : ∃ j : Int, (0 ≤ k ∧ 0 ≤ j ∧ (k = 2 * j ∨ k = 2 * j + 1)) ∨ (k < 0 ∧ j ≤ 0 ∧ (k = 2 * j ∨ k = 2 * j - 1)) := by
    rcases (show 0 ≤ k ∨ k < 0 by omega) with g | g
    · exact ⟨k / 2, by omega⟩
    · exact ⟨-((-k) / 2), by omega⟩
  have e1 : (2 * j + 1) * 2 ^ E = 2 * j * 2 ^ E + 2 ^ E := by rw [Int.add_mul, Int.one_mul]
  have e2 : (2 * j - 1) * 2 ^ E = 2 * j * 2 ^ E - 2 ^ E := by rw [Int.sub_mul, Int.one_mul]
  have d : Dv (E + 1) (2 * j * 2 ^ E) := ⟨j, by rw [Nm.two_succ]; ac_rfl⟩
  have e : (2 : Int) ^ (E + 1) = 2 * 2 ^ E := Nm.two_succ E
  have s0 : 0 ≤ j → 0 ≤ 2 * j * 2 ^ E := fun h => Int.mul_nonneg (by omega) (by omega)
  have s1 : j ≤ 0 → 2 * j * 2 ^ E ≤ 0 := fun h => Int.mul_nonpos_of_nonpos_of_nonneg (by omega) (by omega)
  have q : az (2 * j * 2 ^ E) ≤ az S ∧ az (S - 2 * j * 2 ^ E) ≤ 2 ^ E := by
    have hS : (0 ≤ j ∧ (S = 2 * j * 2 ^ E ∨ S = 2 * j * 2 ^ E + 2 ^ E)) ∨ (j ≤ 0 ∧ (S = 2 * j * 2 ^ E ∨ S = 2 * j * 2 ^ E - 2 ^ E)) := by
      rcases hj with ⟨h0, h1, g | g⟩ | ⟨h0, h1, g | g⟩ <;> rw [g] at hk
      · exact .inl ⟨h1, .inl hk⟩
      · exact .inl ⟨h1, .inr (by omega)⟩
      · exact .inr ⟨h1, .inl hk⟩
      · exact .inr ⟨h1, .inr (by omega)⟩
    clear hk hj e1 e2 d
    generalize 2 * j * 2 ^ E = z at *
    rcases hS with ⟨h0, g⟩ | ⟨h0, g⟩
    · have := s0 h0
      rcases az_or z with ⟨_, g1⟩ | ⟨_, g1⟩ <;> rcases az_or S with ⟨_, g2⟩ | ⟨_, g2⟩ <;> rcases az_or (S - z) with ⟨_, g3⟩ | ⟨_, g3⟩ <;> omega
    · have := s1 h0
      rcases az_or z with ⟨_, g1⟩ | ⟨_, g1⟩ <;> rcases az_or S with ⟨_, g2⟩ | ⟨_, g2⟩ <;> rcases az_or (S - z) with ⟨_, g3⟩ | ⟨_, g3⟩ <;> omega
  have w : DB (2 * j * 2 ^ E) := db_of d (by omega) (by omega)
  have := h.near w
  omega

theorem two_2098 : (2 : Int) ^ 2098 = 9007199254740992 * 2 ^ 2045 := by rw [show 2098 = 53 + 2045 by rfl, Nm.two_add]; rfl

/-- Sterbenz: of two doubles within a factor of two the difference is a double. -/
theorem sterbenz {x y : Int} (x0 : 0 ≤ x) (y1 : y < 9218868437227405312) (hl : x ≤ y) (h : un y ≤ 2 * un x) : DB (un y - un x) := by
  have u1 := un_bd x x0
  have u2 := un_le x0 hl
  have d := (un_dv y (ex_mono hl)).sub (un_dv x (Nat.le_refl _))
  have e : ex x ≤ 2045 := by simp only [ex]; omega
  have p := Nm.two_mono e
  have e2 := two_2098
  refine db_of d ?_ ?_ <;> rcases az_or (un y - un x) with ⟨_, g⟩ | ⟨_, g⟩ <;> omega

/-- The greater of both taken off the sum leaves a double. -/
theorem fast {a b s ya yb : Int} (ha : az a = un ya) (hb : az b = un yb) (b0 : 0 ≤ yb) (hl : yb ≤ ya) (a1 : ya < 9218868437227405312) (b1 : un yb < 2 ^ 2096) (h : Fl (a + b) s) : DB (s - a) := by
  have eb : ex yb ≤ 2045 := by simp only [ex]; omega
  have ub := un_bd yb b0
  have da : Dv (ex yb) a := .of_az (by rw [ha]; exact un_dv _ (ex_mono hl))
  have db : Dv (ex yb) b := .of_az (by rw [hb]; exact un_dv _ (Nat.le_refl _))
  have dB : DB b := ⟨yb, b0, by omega, hb⟩
  have g1 := h.near (w := a) ⟨ya, by omega, a1, ha⟩
  rw [show a + b - a = b by omega] at g1
  have e96 : (2 : Int) ^ 2098 = 4 * 2 ^ 2096 := by rw [show 2098 = 2 + 2096 by rfl, Nm.two_add]; rfl
  have es : (2 : Int) ^ (ex yb + 1) = 2 * 2 ^ ex yb := Nm.two_succ _
  rcases h.dv (da.add db) eb with ⟨_, _, g⟩ | g
  · rw [g, show a + b - a = b by omega]; exact dB
  · have sz : az (s - a) ≤ 2 * az b := by
      rcases az_or b with ⟨_, q1⟩ | ⟨_, q1⟩ <;> rcases az_or (a + b - s) with ⟨_, q2⟩ | ⟨_, q2⟩ <;> rcases az_or (s - a) with ⟨_, q3⟩ | ⟨_, q3⟩ <;> omega
    rcases (show ex yb + 1 ≤ ex ya ∨ ex ya = ex yb by have := ex_mono hl; omega) with c | c
    · have da' : Dv (ex yb + 1) a := .of_az (by rw [ha]; exact un_dv _ c)
      exact db_of (g.sub da') (by omega) (by omega)
    · have ua := un_bd ya (by omega)
      rw [c] at ua
      have sm := err_small h (da.add db) (by rcases az_or a with ⟨_, q1⟩ | ⟨_, q1⟩ <;> rcases az_or b with ⟨_, q2⟩ | ⟨_, q2⟩ <;> rcases az_or (a + b) with ⟨_, q3⟩ | ⟨_, q3⟩ <;> omega)
      have big : az (a + b) < 2 ^ 2098 ∨ 2 ^ 2098 ≤ az (a + b) := by omega
      rcases big with big | big
      · have sm' := sm big
        have le : un yb ≤ 9007199254740991 * 2 ^ ex yb := by
          have := (man_nn yb b0).2
          exact Int.mul_le_mul_of_nonneg_right (by omega) (by have := Nm.two_pos (ex yb); omega)
        refine db_of ((g.down (Nat.le_succ _)).sub da) ?_ (by omega)
        rcases az_or b with ⟨_, q1⟩ | ⟨_, q1⟩ <;> rcases az_or (a + b - s) with ⟨_, q2⟩ | ⟨_, q2⟩ <;> rcases az_or (s - a) with ⟨_, q3⟩ | ⟨_, q3⟩ <;> omega
      · exfalso
        -- both have the exponent of b, which is small
        have h1 : un ya < 2 ^ 2097 := by
          rcases Nat.eq_zero_or_pos (ex yb) with z | z
          · rw [z] at ua
            have := Nm.two_mono (show 53 ≤ 2097 by omega)
            have e53 : (2 : Int) ^ 53 = 9007199254740992 := by decide
            omega
          · have m : 4503599627370496 ≤ man yb := by
              simp only [man]
              simp only [ex] at z
              split <;> omega
            have m2 : 4503599627370496 * 2 ^ ex yb ≤ un yb := Int.mul_le_mul_of_nonneg_right m (by have := Nm.two_pos (ex yb); omega)
            have e97 : (2 : Int) ^ 2097 = 2 * 2 ^ 2096 := Nm.two_succ 2096
            omega
        have e97 : (2 : Int) ^ 2097 = 2 * 2 ^ 2096 := Nm.two_succ 2096
        rcases az_or a with ⟨_, q1⟩ | ⟨_, q1⟩ <;> rcases az_or b with ⟨_, q2⟩ | ⟨_, q2⟩ <;> rcases az_or (a + b) with ⟨_, q3⟩ | ⟨_, q3⟩ <;> omega
end Ie
end Go.Proofs.YtkmadibfiikleaaDoor

/-
  Stage 6, plain mathematics: scaling, powers, what is left, whole parts.
-/
namespace Go.Proofs.YtkmadibfiikleaaDoor
namespace Ie

/-- The power of two that Scale takes. -/
def scl (n : Int) : Int := min (max n (-2200)) 2200

theorem scl_bd (n : Int) : -2200 ≤ scl n ∧ scl n ≤ 2200 := by simp only [scl]; omega

theorem scl_ok {n e x m : Int} (m0 : 0 ≤ m) (m1 : m < 9007199254740992) (e0 : -1074 ≤ e) (e1 : e ≤ 971) (h : Rnd m 1 (e + scl n) false x) : Rnd m 1 (e + n) false x := by
  have e53 : (2 : Int) ^ 53 = 9007199254740992 := by decide
  rcases (show scl n = n ∨ (scl n = 2200 ∧ 2200 < n) ∨ (scl n = -2200 ∧ n < -2200) by simp only [scl]; omega) with g | ⟨g, g'⟩ | ⟨g, g'⟩
  · rw [g] at h; exact h
  · rw [g] at h
    rcases (show m = 0 ∨ 0 < m by omega) with h0 | h0
    · subst h0
      have := h.one (by decide) (by decide) (rnd_zero 1 (e + 2200) false (by decide)) (a := 0) (a' := 0) (by omega) rfl
      rw [this]
      exact rnd_zero 1 _ false (by decide)
    · have p0 : (2 : Int) ^ 0 ≤ m := by rw [Int.pow_zero]; omega
      have := h.one (by decide) (by decide) (rnd_inf m 1 (e + 2200) 0 0 false p0 (by decide) (by omega)) (a := 0) (a' := 0) (by omega) rfl
      rw [this]
      exact rnd_inf m 1 _ 0 0 false p0 (by decide) (by omega)
  · rw [g] at h
    have := h.one (by decide) (by decide) (rnd_small m 1 (e + -2200) 53 0 false (by omega) (by decide) (by omega)) (a := 0) (a' := 0) (by omega) rfl
    rw [this]
    exact rnd_small m 1 _ 53 0 false (by omega) (by decide) (by omega)

theorem Rnd.up {V D e x : Int} {more : Bool} (s : Nat) (h : Rnd V D e more x) : Rnd (V * 2 ^ s) D (e - s) more x := by
  intro a b hab
  have := h (s + a) b (by omega)
  rw [Nm.two_add, ← Int.mul_assoc] at this
  exact this

theorem Rnd.dup {V D e x : Int} {more : Bool} (s : Nat) (h : Rnd V D e more x) : Rnd V (D * 2 ^ s) (e + s) more x := by
  intro a b hab
  have := h a (s + b) (by omega)
  rw [Nm.two_add, ← Int.mul_assoc] at this
  exact this

theorem Rnd.ddn {V D e x : Int} {more : Bool} (s : Nat) (h : Rnd V (D * 2 ^ s) (e + s) more x) : Rnd V D e more x := by
  obtain ⟨a, b, hab, hN⟩ := h.at
  rw [Int.mul_assoc, ← Nm.two_add] at hN
  exact Rnd.of (a := a) (b := s + b) (by omega) hN

theorem pow_shift (o : Int) (t : Nat) : ∀ k : Nat, (o * 2 ^ t) ^ k = o ^ k * 2 ^ (t * k)
  | 0 => by simp
  | k + 1 => by rw [Int.pow_succ, pow_shift o t k, Int.pow_succ, Nat.mul_succ, Nm.two_add]; ac_rfl

theorem pow_pos' {o : Int} (h : 0 < o) : ∀ k : Nat, 0 < o ^ k
  | 0 => by simp
  | k + 1 => by rw [Int.pow_succ]; exact Int.mul_pos (pow_pos' h k) h

theorem pow_le' {o : Int} (h0 : 0 < o) (h1 : o < 9007199254740992) : ∀ k : Nat, o ^ k ≤ 2 ^ (53 * k)
  | 0 => by simp
  | k + 1 => by
    have h := pow_le' h0 h1 k
    have e53 : (2 : Int) ^ 53 = 9007199254740992 := by decide
    rw [Int.pow_succ, Nat.mul_succ, Nm.two_add, e53]
    exact Int.mul_le_mul h (by omega) (by omega) (by have := Nm.two_pos (53 * k); omega)

theorem pow_bd {o : Int} {k : Nat} (h0 : 0 < o) (h1 : o < 9007199254740992) (hk : k ≤ 1024) : 0 < o ^ k ∧ o ^ k ≤ 2 ^ 54272 := by
  have h := pow_le' h0 h1 k
  have := Nm.two_mono (show 53 * k ≤ 54272 by omega)
  exact ⟨pow_pos' h0 k, by omega⟩

/-- The rounded power of m * 2^e. -/
def PowIs (m e n : Int) (r : Int) : Prop := (∀ k : Nat, n = (k : Int) → Rnd (m ^ k) 1 (e * n) false r) ∧ (∀ k : Nat, n = -(k : Int) → Rnd 1 (m ^ k) (e * n) false r)

theorem mul_split (e t n : Int) : (e + t) * n = e * n + t * n := Int.add_mul _ _ _

/-- The power of the odd part, at its exponent, is the power. -/
theorem PowIs.mk {m o e n r : Int} {t : Nat} (hm : m = o * 2 ^ t) (hn : n ≠ 0) (h1 : ∀ k : Nat, n = (k : Int) → Rnd (o ^ k) 1 ((e + t) * n) false r) (h2 : ∀ k : Nat, n = -(k : Int) → Rnd 1 (o ^ k) ((e + t) * n) false r) : PowIs m e n r := by
  have _ := hn
  constructor
  · intro k hk
    have h := (h1 k hk).up (t * k)
    rw [hm, pow_shift]
    have e1 : (e + t) * n - ((t * k : Nat) : Int) = e * n := by rw [mul_split, hk]; simp only [Int.natCast_mul]; omega
    rw [e1] at h
    exact h
  · intro k hk
    have h := (h2 k hk).dup (t * k)
    rw [hm, pow_shift]
    have e1 : (e + t) * n + ((t * k : Nat) : Int) = e * n := by rw [mul_split, hk]; simp only [Int.natCast_mul, Int.mul_neg]; omega
    rw [e1] at h
    exact h

theorem PowIs.odd {m o e n r : Int} {t : Nat} (hm : m = o * 2 ^ t) (h : PowIs m e n r) : (∀ k : Nat, n = (k : Int) → Rnd (o ^ k) 1 ((e + t) * n) false r) ∧ (∀ k : Nat, n = -(k : Int) → Rnd 1 (o ^ k) ((e + t) * n) false r) := by
  constructor
  · intro k hk
    have h := h.1 k hk
    rw [hm, pow_shift] at h
    refine Rnd.num (t * k) ?_
    have e1 : (e + t) * n - ((t * k : Nat) : Int) = e * n := by rw [mul_split, hk]; simp only [Int.natCast_mul]; omega
    rw [e1]
    exact h
  · intro k hk
    have h := h.2 k hk
    rw [hm, pow_shift] at h
    refine Rnd.ddn (t * k) ?_
    have e1 : (e + t) * n + ((t * k : Nat) : Int) = e * n := by rw [mul_split, hk]; simp only [Int.natCast_mul, Int.mul_neg]; omega
    rw [e1]
    exact h

/-- A number of 53 bits at most, from 2^-1074 on, is a double. -/
theorem rnd_rep {R e x : Int} {c : Nat} {more : Bool} (hc : (c : Int) = e + 1074) (h0 : 0 ≤ R) (h1 : R < 9007199254740992) (hc2 : c ≤ 2045) (h : Rnd R 1 e more x) : un x = R * 2 ^ c ∧ 0 ≤ x ∧ x < 9218868437227405312 := by
  obtain ⟨y, y0, y1, hy⟩ := un_rep c R h0 h1 hc2
  have h2 : Rnd R 1 e more y := rnd_vl R e y more (c + 1) 0 (by omega) y0 y1 (by rw [vl_un, hy, Nm.two_succ, Int.pow_zero, Int.mul_one]; ac_rfl)
  have := h.one (by decide) (by decide) h2 (a := 0) (a' := 0) (by omega) rfl
  subst this
  exact ⟨hy, y0, y1⟩

theorem emod_scale (a b c : Int) (hc : 0 < c) : a * c % (b * c) = a % b * c := by
  rw [Int.mul_comm a c, Int.mul_comm b c, Int.mul_emod_mul_of_pos _ _ hc, Int.mul_comm]
theorem ediv_scale (a b c : Int) (hc : 0 < c) : a * c / (b * c) = a / b := Int.mul_ediv_mul_of_pos_left _ _ hc

/-- What is left is less than 2^53 of the smaller unit. -/
theorem left_bd {ma mb : Int} {i j : Nat} (hij : i = 0 ∨ j = 0) (a0 : 0 ≤ ma) (a1 : ma < 9007199254740992) (b0 : 0 < mb) (b1 : mb < 9007199254740992) :
    0 < mb * 2 ^ j ∧ 0 ≤ ma * 2 ^ i ∧ 0 ≤ ma * 2 ^ i % (mb * 2 ^ j) ∧ ma * 2 ^ i % (mb * 2 ^ j) < mb * 2 ^ j ∧ ma * 2 ^ i % (mb * 2 ^ j) < 9007199254740992 ∧
    (mb * 2 ^ j ≤ 2 * (ma * 2 ^ i % (mb * 2 ^ j)) → mb * 2 ^ j - ma * 2 ^ i % (mb * 2 ^ j) < 9007199254740992) := by
  have hV2 : 0 < mb * 2 ^ j := Int.mul_pos b0 (Nm.two_pos j)
  have hV1 : 0 ≤ ma * 2 ^ i := Int.mul_nonneg a0 (by have := Nm.two_pos i; omega)
  have r0 := Int.emod_nonneg (ma * 2 ^ i) (show mb * 2 ^ j ≠ 0 by omega)
  have r1 := Int.emod_lt_of_pos (ma * 2 ^ i) hV2
  have rd := Int.mul_ediv_add_emod (ma * 2 ^ i) (mb * 2 ^ j)
  have rq : 0 ≤ mb * 2 ^ j * (ma * 2 ^ i / (mb * 2 ^ j)) := Int.mul_nonneg (by omega) (Int.ediv_nonneg hV1 (by omega))
  refine ⟨hV2, hV1, r0, r1, ?_, fun h => ?_⟩
  · rcases hij with h | h <;> subst h
    · rw [Int.pow_zero, Int.mul_one] at *; omega
    · rw [Int.pow_zero, Int.mul_one] at *; omega
  · rcases hij with h | h <;> subst h
    · rw [Int.pow_zero, Int.mul_one] at *; omega
    · rw [Int.pow_zero, Int.mul_one] at *; omega

theorem lt_scale {a b c : Int} (hc : 0 < c) : a * c < b * c ↔ a < b :=
  ⟨fun h => Int.lt_of_mul_lt_mul_right h (by omega), fun h => Int.mul_lt_mul_of_pos_right h hc⟩
theorem eq_scale {a b c : Int} (hc : 0 < c) : a * c = b * c ↔ a = b :=
  ⟨fun h => Int.eq_of_mul_eq_mul_right (by omega) h, fun h => by rw [h]⟩

/-- The whole part and the rest against a half, by the mantissa. -/
theorem whole_cut {m U : Int} {k dr : Nat} (m0 : 0 ≤ m) (m1 : m < 9007199254740992) (k1 : 1 ≤ k) (k2 : k ≤ 1074) (hd : dr = min k 63) (hU : U = m * 2 ^ (1074 - k)) :
    m / 2 ^ dr = U / 2 ^ 1074 ∧ (m % 2 ^ dr < 2 ^ (dr - 1) ↔ U % 2 ^ 1074 < 2 ^ 1073) ∧ (m % 2 ^ dr = 2 ^ (dr - 1) ↔ U % 2 ^ 1074 = 2 ^ 1073) := by
  have hp := Nm.two_pos (1074 - k)
  have e1 : (2 : Int) ^ 1074 = 2 ^ k * 2 ^ (1074 - k) := by rw [← Nm.two_add]; congr 1; omega
  have e2 : (2 : Int) ^ 1073 = 2 ^ (k - 1) * 2 ^ (1074 - k) := by rw [← Nm.two_add]; congr 1; omega
  rw [e1, e2, hU, ediv_scale _ _ _ hp, emod_scale _ _ _ hp, lt_scale hp, eq_scale hp]
  rcases Nat.le_total k 63 with h | h
  · rw [hd, Nat.min_eq_left h]; exact ⟨rfl, Iff.rfl, Iff.rfl⟩
  · rw [hd, Nat.min_eq_right h]
    have g1 := Nm.two_mono (show 63 ≤ k by omega)
    have g2 := Nm.two_mono (show 62 ≤ k - 1 by omega)
    have e63 : (2 : Int) ^ 63 = 9223372036854775808 := by decide
    have e62 : (2 : Int) ^ (63 - 1) = 4611686018427387904 := by decide
    have e62' : (2 : Int) ^ 62 = 4611686018427387904 := by decide
    have d1 : m / 2 ^ k = 0 := Int.ediv_eq_zero_of_lt m0 (by omega)
    have d2 : m % 2 ^ k = m := Int.emod_eq_of_lt m0 (by omega)
    rw [d1, d2, e63, e62]
    omega

theorem intg_un (r : Int) : (vl r = vl r / 2 ^ 1075 * 2 ^ 1075) ↔ un r % 2 ^ 1074 = 0 := by
  have e0 : (2 : Int) ^ 1075 = 2 * 2 ^ 1074 := Nm.two_succ 1074
  have hp := Nm.two_pos 1074
  rw [vl_un, e0, Int.mul_ediv_mul_of_pos _ _ (by decide)]
  have := Int.mul_ediv_add_emod (un r) (2 ^ 1074)
  rw [Int.mul_comm] at this
  generalize hq : un r / 2 ^ 1074 = q at *
  generalize un r % 2 ^ 1074 = s at *
  generalize (2 : Int) ^ 1074 = P at *
  have e3 : q * (2 * P) = 2 * (q * P) := Int.mul_left_comm _ _ _
  rw [e3]
  omega

theorem ediv_un (r : Int) : vl r / 2 ^ 1075 = un r / 2 ^ 1074 := by
  have e0 : (2 : Int) ^ 1075 = 2 * 2 ^ 1074 := Nm.two_succ 1074
  rw [vl_un, e0, Int.mul_ediv_mul_of_pos _ _ (by decide)]
end Ie
end Go.Proofs.YtkmadibfiikleaaDoor

/-
  A state as one predicate: what it says of the memory, and that only new memory was written.
-/
namespace Go.Proofs.YtkmadibfiikleaaDoor
open Go Go.RowKit Go.Deep

structure St (S : World → Prop) (w wx : World) : Prop where
  cells : S wx
  bel : Below w.heap.size w wx

def Stays (S : World → Prop) : Prop := ∀ wx w' : World, S wx → Below wx.heap.size wx w' → S w'

theorem St.on {S : World → Prop} {w wx w' : World} (h : St S w wx) (k : Stays S) (hB : Below wx.heap.size wx w') : St S w w' := ⟨k _ _ h.cells hB, h.bel.trans (hB.mono h.bel.size)⟩
theorem St.drew {S : World → Prop} {w wx : World} (h : St S w wx) (k : Stays S) : St S w wx.drew := h.on k ⟨rfl, rfl, rfl, Nat.le_refl _, fun _ _ => rfl⟩
theorem St.more {S T : World → Prop} {w wx w' : World} (h : St S w wx) (k : Stays S) (hB : Below wx.heap.size wx w') (t : T w') : St (fun x => S x ∧ T x) w w' := ⟨⟨k _ _ h.cells hB, t⟩, h.bel.trans (hB.mono h.bel.size)⟩
theorem St.imp {S T : World → Prop} {w wx : World} (h : St S w wx) (k : ∀ x, S x → T x) : St T w wx := ⟨k _ h.cells, h.bel⟩
theorem St.to {S T : World → Prop} {w wx w' : World} (h : St S w wx) (hB : Below wx.heap.size wx w') (t : T w') : St T w w' := ⟨t, h.bel.trans (hB.mono h.bel.size)⟩

theorem Stays.cell (a : Addr) (v : Value) : Stays (fun w => w.cell? a = some v) := fun _ _ h hB => (hB.cell (cell_lt h)).trans h
theorem Stays.and {S T : World → Prop} (h : Stays S) (k : Stays T) : Stays (fun w => S w ∧ T w) := fun _ _ g hB => ⟨h _ _ g.1 hB, k _ _ g.2 hB⟩
theorem Stays.ans (B : Nat) (p : Option Addr) (os : List Int) (v : Int) : Stays (fun w => Ans B w p os v) := fun _ _ h hB => h.below hB (Nat.le_refl _)
theorem Stays.arg (p : Option Addr) (n cap : Nat) (os : List Int) : Stays (fun w => Arg w p n cap os) := fun _ _ h hB => h.below hB (Nat.le_refl _)
theorem Stays.tab : Stays Tab := fun _ _ h hB => h.below hB
theorem Stays.bel (w : World) : Stays (fun x => Below w.heap.size w x) := fun _ _ h hB => h.trans (hB.mono h.size)
theorem Stays.const (p : Prop) : Stays (fun _ => p) := fun _ _ h _ => h

/-- The state under a name of its own. -/
theorem state (S : World → Prop) (w : World) (k : Stays S) : ∃ SS : World → Prop, Hid (∀ wx w' : World, SS wx → Below wx.heap.size wx w' → SS w') ∧ Hid (∀ wx : World, SS wx → S wx) ∧ Hid (∀ wx : World, SS wx → Below w.heap.size w wx) ∧ Hid (∀ wx : World, S wx → Below w.heap.size w wx → SS wx) :=
  ⟨St S w, fun _ _ h hB => h.on k hB, fun _ h => h.cells, fun _ h => h.bel, fun _ h b => ⟨h, b⟩⟩

theorem drew_nil (w : World) : Below w.heap.size w w.drew := ⟨rfl, rfl, rfl, Nat.le_refl _, fun _ _ => rfl⟩
end Go.Proofs.YtkmadibfiikleaaDoor

/-
  An answer below one limb.
-/
namespace Go.Proofs.YtkmadibfiikleaaDoor
open Go Go.RowKit Go.Deep

theorem Ans.lim1 {B : Nat} {w : World} {p : Option Addr} {os : List Int} {v : Int} (h : Ans B w p os v) (hv : v < 18446744073709551616) : os.length ≤ 1 := by
  have := (Nm.tsize_le_iff h.2.1 1).2 (by rw [h.2.2.2.1]; exact hv)
  rw [h.2.2.1] at this
  exact this
end Go.Proofs.YtkmadibfiikleaaDoor

/-
  Room for products and shifts.
-/
namespace Go.Proofs.YtkmadibfiikleaaDoor
open Go Go.RowKit Go.Deep

theorem alloc_below (w : World) (A : Obj) : Below w.heap.size w (w.alloc A) := Below.alloc (Below.refl _ _) (Nat.le_refl _) A

theorem lit_small {D m : Int} {L s : Nat} (hD : 0 ≤ D) (h1 : D < Nm.pw L) (m0 : 0 ≤ m) (h2 : m < 18446744073709551616) (hs : 64 * L + 64 + s ≤ 262144) : D * m * 2 ^ s < Nm.pw 4096 ∧ D * m < Nm.pw 4096 := by
  have e64 : (2 : Int) ^ 64 = 18446744073709551616 := by decide
  rw [Nm.pw_two] at h1
  have p0 := Nm.two_pos s
  have g1 : D * m ≤ D * 2 ^ 64 := Int.mul_le_mul_of_nonneg_left (by omega) hD
  have g2 : D * 2 ^ 64 < 2 ^ (64 * L) * 2 ^ 64 := Int.mul_lt_mul_of_pos_right h1 (by omega)
  rw [← Nm.two_add] at g2
  have g3 : D * m < 2 ^ (64 * L + 64) := by omega
  have g4 : D * m * 2 ^ s < 2 ^ (64 * L + 64) * 2 ^ s := Int.mul_lt_mul_of_pos_right g3 p0
  rw [← Nm.two_add] at g4
  rw [Nm.pw_two]
  have g5 := Nm.two_mono (show 64 * L + 64 + s ≤ 64 * 4096 by omega)
  have g6 := Nm.two_mono (show 64 * L + 64 ≤ 64 * 4096 by omega)
  omega

theorem shl_room {V : Int} {L t : Nat} (h1 : V < Nm.pw L) (ht : 64 * L + t ≤ 262144) : V * 2 ^ t < Nm.pw 4096 := by
  rw [Nm.pw_two] at h1
  have g1 : V * 2 ^ t < 2 ^ (64 * L) * 2 ^ t := Int.mul_lt_mul_of_pos_right h1 (Nm.two_pos t)
  rw [← Nm.two_add] at g1
  have g2 := Nm.two_mono (show 64 * L + t ≤ 64 * 4096 by omega)
  rw [Nm.pw_two]
  omega

end Go.Proofs.YtkmadibfiikleaaDoor

/-
  remain: aligned.
-/
namespace Go.Proofs.YtkmadibfiikleaaDoor
open Go Go.RowKit Go.Deep

/-- What aligned tells. -/
def AlignTold (a b : Int) (w : World) (e : Ending) (w' : World) : Prop :=
  ∃ (p q : Option Addr) (os qs : List Int) (i j : Nat) (x : Int), e = .returned (.tuple #[.slice p (List.length os) (List.length os), .slice q (List.length qs) (List.length qs), .int .i64 x]) ∧
    Ans w.heap.size w' p os (Ie.dm a * 2 ^ i) ∧ Ans w.heap.size w' q qs (Ie.dm b * 2 ^ j) ∧ x = min (Ie.de a) (Ie.de b) ∧ (i : Int) = Ie.de a - x ∧ (j : Int) = Ie.de b - x ∧ Below w.heap.size w w'

theorem Ans.upB {B B' : Nat} {w : World} {p : Option Addr} {ys : List Int} {n : Int} (h : Ans B w p ys n) (hB : B' ≤ B) : Ans B' w p ys n :=
  ⟨h.1, h.2.1, h.2.2.1, h.2.2.2.1, fun a ha => Nat.le_trans hB (h.2.2.2.2 a ha)⟩

set_option maxRecDepth 100000 in
set_option maxHeartbeats 8000000 in
theorem aligned_any (a b : Int) (w : World) (a0 : 0 ≤ a) (a1 : a < 18446744073709551616) (b0 : 0 ≤ b) (b1 : b < 18446744073709551616) (fa : Ie.fin a) (fb : Ie.fin b) :
    Calls Tryd.prog 38 #[.int .u64 a, .int .u64 b] w fun e w' => AlignTold a b w e w' := by
  have DA := hid (fun (wx : World) => decode_any a wx a0 a1)
  have DB := hid (fun (wx : World) => decode_any b wx b0 b1)
  obtain ⟨⟨ma0, ma1⟩, ⟨ea0, ea1⟩, -, -⟩ := Ie.dec_f a fa
  obtain ⟨⟨mb0, mb1⟩, ⟨eb0, eb1⟩, -, -⟩ := Ie.dec_f b fb
  have FA := hid (fun (wx : World) => fromUint_any (Ie.dm a) wx ma0 (by omega))
  have FB := hid (fun (wx : World) => fromUint_any (Ie.dm b) wx mb0 (by omega))
  obtain ⟨x, hx⟩ : ∃ x, min (Ie.de a) (Ie.de b) = x := ⟨_, rfl⟩
  obtain ⟨i, hi⟩ : ∃ i : Nat, (i : Int) = Ie.de a - x := ⟨(Ie.de a - x).toNat, by omega⟩
  obtain ⟨j, hj⟩ : ∃ j : Nat, (j : Int) = Ie.de b - x := ⟨(Ie.de b - x).toNat, by omega⟩
  have W1 : IntKind.i64.wrap (Ie.de a - x) = (i : Int) := by rw [IntKind.wrap_i64]; omega
  have W2 : IntKind.i64.wrap (Ie.de b - x) = (j : Int) := by rw [IntKind.wrap_i64]; omega
  have SH : ∀ (m : Int) (i : Nat), 0 ≤ m → m < 9007199254740992 → i ≤ 2100 → ∀ (wx : World) (p : Option Addr) (os : List Int) (B : Nat), Ans B wx p os m → Calls Tryd.prog 40 #[.slice p os.length os.length, .int .i64 (i : Int)] wx fun e w' => ∃ r os, e = .returned (.tuple #[.slice r (List.length os) (List.length os), .int .i64 0]) ∧ Ans wx.heap.size w' r os (m * 2 ^ i) ∧ Below wx.heap.size wx w' := by
    intro m i m0 m1 hi wx p os B A
    have l1 := A.lim1 (by omega)
    have := shl_any p _ _ os (i : Int) i wx (A.arg (by omega)) (by rw [A.2.2.1]; omega) rfl (by rw [A.2.2.2.1]; exact shl_room (L := 1) (show m < 18446744073709551616 by omega) (by omega))
    rw [A.2.2.2.1] at this
    exact this
  have SA := hid (SH (Ie.dm a) i ma0 ma1 (by omega))
  have SB := hid (SH (Ie.dm b) j mb0 mb1 (by omega))
  have WT : Hid (∀ (wx : World) (p q : Option Addr) (os qs : List Int) (B B' : Nat), w.heap.size ≤ B → w.heap.size ≤ B' → Ans B wx p os (Ie.dm a * 2 ^ i) → Ans B' wx q qs (Ie.dm b * 2 ^ j) → Below w.heap.size w wx → AlignTold a b w (.returned (.tuple #[.slice p (List.length os) (List.length os), .slice q (List.length qs) (List.length qs), .int .i64 x])) wx) := by
    intro wx p q os qs B B' l1 l2 A1 A2 hB
    exact ⟨p, q, os, qs, i, j, x, rfl, A1.upB l1, A2.upB l2, hx.symm, hi, hj, hB⟩
  clear SH fa fb ma0 ma1 mb0 mb1 hi hj a0 a1 b0 b1 ea0 ea1 eb0 eb1
  simp only [partsOf] at DA DB
  generalize decide (9223372036854775808 ≤ a) = na at *
  generalize decide (9223372036854775808 ≤ b) = nb at *
  generalize Ie.dm a = ma at *
  generalize Ie.dm b = mb at *
  generalize Ie.de a = ea at *
  generalize Ie.de b = eb at *
  generalize Ie.cls a = ca at *
  generalize Ie.cls b = cb at *
  go_enter Tryd.func38, Tryd.ntmps38
  go_wp2_with fail
  refine (DA.out _).mono ?_
  rintro e w1 ⟨rfl, hB1⟩
  go_wp2_with fail
  refine (DB.out _).mono ?_
  rintro e w2 ⟨rfl, hB2⟩
  have HB2 := hid (hB1.trans (hB2.mono hB1.size))
  clear hB1 hB2 DA DB
  go_upto_region 2 with fail
  have s1 : (w2.alloc (.cells #[.bool na, .int .i64 ca, .int .u64 ma, .int .i64 ea] 68)).heap.size = w2.heap.size + 1 := by simp
  have hb := HB2.out.trans ((twice_alloc w2 (.cells #[.bool na, .int .i64 ca, .int .u64 ma, .int .i64 ea] 68) (.cells #[.bool nb, .int .i64 cb, .int .u64 mb, .int .i64 eb] 68)).mono HB2.out.size)
  have P1 := (Row4.new w2 68 (.bool na) (.int .i64 ca) (.int .u64 ma) (.int .i64 ea)).below (alloc_b _ (.cells #[.bool nb, .int .i64 cb, .int .u64 mb, .int .i64 eb] 68)) (by omega)
  have P2 := Row4.new (w2.alloc (.cells #[.bool na, .int .i64 ca, .int .u64 ma, .int .i64 ea] 68)) 68 (.bool nb) (.int .i64 cb) (.int .u64 mb) (.int .i64 eb)
  rw [s1] at P2
  obtain ⟨SS, KS, CS, BS, MS⟩ := state (fun w' => w'.cell? ⟨w2.heap.size, 2, none⟩ = some (.int .u64 ma) ∧ w'.cell? ⟨w2.heap.size, 3, none⟩ = some (.int .i64 ea) ∧ w'.cell? ⟨w2.heap.size + 1, 2, none⟩ = some (.int .u64 mb) ∧ w'.cell? ⟨w2.heap.size + 1, 3, none⟩ = some (.int .i64 eb)) w ((Stays.cell _ _).and ((Stays.cell _ _).and ((Stays.cell _ _).and (Stays.cell _ _))))
  have S0 := hid (MS.out _ ⟨P1.cells.1.2.2.1, P1.cells.1.2.2.2, P2.cells.1.2.2.1, P2.cells.1.2.2.2⟩ hb)
  clear P1 P2 hb HB2 MS s1
  generalize (w2.alloc (.cells #[.bool na, .int .i64 ca, .int .u64 ma, .int .i64 ea] 68)).alloc (.cells #[.bool nb, .int .i64 cb, .int .u64 mb, .int .i64 eb] 68) = wA at *
  generalize hd : w2.heap.size + 1 = d at *
  generalize w2.heap.size = c at *
  clear hd
  obtain ⟨p0, p1, p2, p3⟩ := CS.out _ S0.out
  go_upto_region 3 with fail
  clear hx
  have S1 := hid (KS.out _ _ S0.out (drew_nil _))
  go_region_held3 (fun w' => w'.cell? ⟨c, 2, none⟩ = some (.int .u64 ma) ∧ w'.cell? ⟨c, 3, none⟩ = some (.int .i64 ea) ∧ w'.cell? ⟨d, 2, none⟩ = some (.int .u64 mb) ∧ w'.cell? ⟨d, 3, none⟩ = some (.int .i64 eb)) (first | (with_reducible exact CS.out _ S3.out) | (with_reducible exact CS.out _ S2.out) | (with_reducible exact CS.out _ S1.out)) (first
    | (go_at_call 49; refine (FA.out _).mono ?_; rintro e w4 ⟨p, os, rfl, A, hB⟩; have S2 := hid (KS.out _ _ S1.out hB); have R2 := hid (SA.out w4 p os _ A); clear hB A)
    | (go_at_call 40; (try rw [W1]); refine R2.out.mono ?_; rintro e w5 ⟨p5, o5, rfl, A, hB⟩; have S3 := hid (KS.out _ _ S2.out hB); have A5 := hid (A.upB (BS.out _ S2.out).size); clear hB A))
  all_goals
    clear p0 p1 p2 p3 S0 S1 S2 R2 FA SA
    obtain ⟨p0, p1, p2, p3⟩ := CS.out _ S3.out
    go_upto_region 4 with fail
    have T1 := hid (KS.out _ _ S3.out (drew_nil _))
    have A6 := hid (A5.out.below (drew_nil _) (Nat.le_refl _))
    go_region_held3 (fun w' => w'.cell? ⟨c, 2, none⟩ = some (.int .u64 ma) ∧ w'.cell? ⟨c, 3, none⟩ = some (.int .i64 ea) ∧ w'.cell? ⟨d, 2, none⟩ = some (.int .u64 mb) ∧ w'.cell? ⟨d, 3, none⟩ = some (.int .i64 eb)) (first | (with_reducible exact CS.out _ T3.out) | (with_reducible exact CS.out _ T2.out) | (with_reducible exact CS.out _ T1.out)) (first
      | (go_at_call 49; refine (FB.out _).mono ?_; rintro e w6 ⟨p, os, rfl, A, hB⟩; have T2 := hid (KS.out _ _ T1.out hB); have A7 := hid (A6.out.below hB (Nat.le_refl _)); have R2 := hid (SB.out w6 p os _ A); clear hB A)
      | (go_at_call 40; (try rw [W2]); refine R2.out.mono ?_; rintro e w7 ⟨p7, o7, rfl, A, hB⟩; have T3 := hid (KS.out _ _ T2.out hB); have KK := hid (WT.out w7 p5 p7 o5 o7 _ _ (Nat.le_refl _) (BS.out _ T2.out).size (A7.out.below hB (Nat.le_refl _)) A (BS.out _ T3.out)); clear hB A))
    all_goals (go_wp2_with fail; go_ret3; exact KK.out)
end Go.Proofs.YtkmadibfiikleaaDoor
