/-
  Texts put together: INum2, IKinds, Shl, FShl, FTrimR.
-/
import Derived.Test.YtobiapniidaibaaGreatDoorINum
import Derived.Test.YtobiapniidaibaaGreatDoorWAH
import Derived.Test.YtobiapniidaibaaGreatDoorWAG
import Derived.Test.YtobiapniidaibaaGreatDoorWAD
import Derived.Test.YtobiapniidaibaaGreatDoorWAF
/-
  Doubles as numbers: what the laws need.
-/
namespace Go.Proofs.YtobiapniidaibaaGreatDoor
namespace Ie

/-- A trifle above is a digit far below. -/
theorem rnd_far (n e v : Int) (hn : 0 < n) (h : Rnd (n * 2 ^ 64 + 1) 1 (e - 64) false v) : Rnd n 1 e true v := by
  obtain ⟨a', b, hab, hN⟩ := h.at
  refine Rnd.of (a := 64 + a') (b := b) (by omega) ?_
  rw [Int.one_mul] at hN ⊢
  have ha := Nm.two_pos a'
  have hb := Nm.two_pos b
  have fl : (n * 2 ^ 64 + 1) * 2 ^ a' = n * 2 ^ (64 + a') + 2 ^ a' := by rw [Int.add_mul, Int.one_mul, Int.mul_assoc, ← Nm.two_add]
  rw [fl] at hN
  refine ⟨hN.1, fun hx => ?_, fun hx => .inl ?_⟩
  · have g : md (v - 1) * 2 ^ b ≤ n * 2 ^ (64 + a') + 2 ^ a' := by rcases hN.2.1 hx with g | g <;> omega
    rcases (show md (v - 1) * 2 ^ b < n * 2 ^ (64 + a') ∨ md (v - 1) * 2 ^ b = n * 2 ^ (64 + a') ∨ n * 2 ^ (64 + a') < md (v - 1) * 2 ^ b by omega) with h | h | h
    · exact .inl h
    · exact .inr ⟨h, .inr rfl⟩
    · exfalso
      obtain ⟨M, E, hM, M0, M1⟩ := md_form (v - 1) (by omega)
      rw [hM, Int.mul_assoc, ← Nm.two_add] at g h
      have e54 : (2 : Int) ^ 54 = 18014398509481984 := by decide
      have lt : a' + 10 < E + b := by
        rcases Nat.lt_or_ge (a' + 10) (E + b) with h' | h'
        · exact h'
        · exfalso
          have hEb := Nm.two_pos (E + b)
          have g1 : M * 2 ^ (E + b) < 2 ^ 54 * 2 ^ (E + b) := Int.mul_lt_mul_of_pos_right (by omega) hEb
          rw [← Nm.two_add] at g1
          have g2 := Nm.two_mono (show 54 + (E + b) ≤ 64 + a' by omega)
          have g3 : 1 * 2 ^ (64 + a') ≤ n * 2 ^ (64 + a') := Int.mul_le_mul_of_nonneg_right (by omega) (by have := Nm.two_pos (64 + a'); omega)
          omega
      rw [show E + b = (E + b - (a' + 10)) + (a' + 10) by omega, Nm.two_add (E + b - (a' + 10)), ← Int.mul_assoc] at g h
      rw [show 64 + a' = 54 + (a' + 10) by omega, Nm.two_add 54, ← Int.mul_assoc] at g h
      have g1 := Int.lt_of_mul_lt_mul_right h (by have := Nm.two_pos (a' + 10); omega)
      have g2 : (n * 2 ^ 54 + 1) * 2 ^ (a' + 10) ≤ M * 2 ^ (E + b - (a' + 10)) * 2 ^ (a' + 10) := Int.mul_le_mul_of_nonneg_right (by omega) (by have := Nm.two_pos (a' + 10); omega)
      rw [Int.add_mul, Int.one_mul] at g2
      have g3 : (2 : Int) ^ (a' + 10) = 2 ^ a' * 1024 := by rw [Nm.two_add]; rfl
      omega
  · rcases hN.2.2 hx with g | g <;> omega

theorem Rnd.next {n d e x u : Int} (hd : 0 < d) (h : Rnd n d e false x) (h' : Rnd n d e true u) : u = x ∨ u = x + 1 := by
  have h1 : x ≤ u := h.mono hd hd h' (a := 0) (a' := 0) (by omega) (.inr ⟨rfl, fun h => by cases h⟩)
  rcases (show u ≤ x + 1 ∨ x + 1 < u by omega) with h2 | h2
  · omega
  · exfalso
    obtain ⟨a, b, hab, hN⟩ := h.at
    have hN' := h' a b hab
    have g1 := hN.2.2 (by have := hN'.1.2; omega)
    have g2 := hN'.2.1 (by have := hN.1.1; omega)
    have g3 := Int.mul_lt_mul_of_pos_right (md_lt hN.1.1 (show x < u - 1 by omega)) (Int.mul_pos hd (Nm.two_pos b))
    rcases g1 with g | g <;> rcases g2 with g' | g' <;> omega

/-- A number that is a double is rounded to it. -/
theorem rnd_vl (n e x : Int) (more : Bool) (a b : Nat) (hab : (a : Int) - b = e + 1075) (h0 : 0 ≤ x) (h1 : x < 9218868437227405312) (h : n * 2 ^ a = vl x * 2 ^ b) : Rnd n 1 e more x := by
  refine Rnd.of hab ?_
  have hb := Nm.two_pos b
  rw [h, Int.one_mul]
  refine ⟨⟨h0, by omega⟩, fun hx => .inl ?_, fun _ => .inl ?_⟩
  · have := md_lt_vl (x - 1) (by omega)
    rw [show x - 1 + 1 = x by omega] at this
    exact Int.mul_lt_mul_of_pos_right this hb
  · exact Int.mul_lt_mul_of_pos_right (vl_lt_md x) hb

theorem vl_lt_iff {x y : Int} (hx : 0 ≤ x) (hy : 0 ≤ y) : vl x < vl y ↔ x < y := by
  constructor
  · intro h
    rcases (show x < y ∨ y ≤ x by omega) with g | g
    · exact g
    · have := vl_le hy g; omega
  · intro h
    have h1 := vl_succ x hx
    have h2 := vl_le (x := x + 1) (y := y) (by omega) (by omega)
    have := Nm.two_pos (ex x)
    omega

theorem vl_inj {x y : Int} (hx : 0 ≤ x) (hy : 0 ≤ y) (h : vl x = vl y) : x = y := by
  rcases (show x < y ∨ x = y ∨ y < x by omega) with g | g | g
  · have := (vl_lt_iff hx hy).2 g; omega
  · exact g
  · have := (vl_lt_iff hy hx).2 g; omega

theorem vl_nn {x : Int} (hx : 0 ≤ x) : 0 ≤ vl x := by
  have := vl_le (x := 0) (y := x) (by omega) hx
  rw [vl_zero] at this
  exact this

/-- Whole numbers up to 2^53 are doubles. -/
theorem whole_ex (W : Int) (L : Nat) (h0 : 0 ≤ W) (hL : (0 < W → 1 ≤ L ∧ 2 ^ (L - 1) ≤ W) ∧ W < 2 ^ L) (h1 : W ≤ 9007199254740992) : ∃ x, 0 ≤ x ∧ x < 9218868437227405312 ∧ vl x = W * 2 ^ 1075 := by
  rcases (show W = 0 ∨ 0 < W by omega) with h | h
  · exact ⟨0, by omega, by omega, by rw [h, vl_zero, Int.zero_mul]⟩
  · rcases (show W = 9007199254740992 ∨ W < 9007199254740992 by omega) with hw | hw
    · refine ⟨4845873199050653696, by omega, by omega, ?_⟩
      have e1 : man 4845873199050653696 = 4503599627370496 := by decide
      have e2 : ex 4845873199050653696 = 1075 := by decide
      rw [vl, e1, e2, hw]
      rfl
    · have g := hL.1 h
      have e53 : (2 : Int) ^ 53 = 9007199254740992 := by decide
      have hl : L ≤ 53 := by
        rcases Nat.lt_or_ge 53 L with h' | h'
        · have := Nm.two_mono (show 53 ≤ L - 1 by omega)
          omega
        · exact h'
      obtain ⟨m, hm⟩ : ∃ m, W * 2 ^ (53 - L) = m := ⟨_, rfl⟩
      have hp := Nm.two_pos (53 - L)
      have m1 : m < 9007199254740992 := by
        have : W * 2 ^ (53 - L) < 2 ^ L * 2 ^ (53 - L) := Int.mul_lt_mul_of_pos_right hL.2 hp
        rw [← Nm.two_add, show L + (53 - L) = 53 by omega] at this
        omega
      have m2 : 4503599627370496 ≤ m := by
        have : 2 ^ (L - 1) * 2 ^ (53 - L) ≤ W * 2 ^ (53 - L) := Int.mul_le_mul_of_nonneg_right g.2 (by omega)
        rw [← Nm.two_add, show L - 1 + (53 - L) = 52 by omega] at this
        have : (2 : Int) ^ 52 = 4503599627370496 := by decide
        omega
      obtain ⟨x, hx⟩ : ∃ x : Int, x = ((1021 + L : Nat) : Int) * 4503599627370496 + m := ⟨_, rfl⟩
      have e1 : man x = m := by simp only [man]; split <;> omega
      have e2 : ex x = 1021 + L := by simp only [ex]; omega
      refine ⟨x, by omega, by omega, ?_⟩
      rw [vl, e1, e2, ← hm, Int.mul_comm 2, Int.mul_assoc, Int.mul_assoc, ← Nm.two_succ, ← Nm.two_add]
      congr 2
      omega

/-- Below the middle above it. -/
theorem Rnd.hi {n d e x : Int} (h : Rnd n d e false x) (hx : x < 9218868437227405312) {M : Int} {E s t : Nat} (hM : md x = M * 2 ^ E) (hst : (s : Int) - t = E - 1075 - e) :
    n * 2 ^ t < M * d * 2 ^ s ∨ (n * 2 ^ t = M * d * 2 ^ s ∧ x % 2 = 0) := by
  have hN := h (t + E) s (by omega)
  have hE := Nm.two_pos E
  have e1 : n * 2 ^ (t + E) = n * 2 ^ t * 2 ^ E := by rw [Nm.two_add, Int.mul_assoc]
  have e2 : md x * (d * 2 ^ s) = M * d * 2 ^ s * 2 ^ E := by rw [hM]; ac_rfl
  rcases hN.2.2 hx with g | ⟨g, g', _⟩
  · rw [e1, e2] at g
    exact .inl (Int.lt_of_mul_lt_mul_right g (by omega))
  · rw [e1, e2] at g
    exact .inr ⟨Int.eq_of_mul_eq_mul_right (by omega) g, g'⟩

/-- Above the middle below it. -/
theorem Rnd.lo {n d e x : Int} (h : Rnd n d e false x) (hx : 0 < x) {M : Int} {E s t : Nat} (hM : md (x - 1) = M * 2 ^ E) (hst : (s : Int) - t = E - 1075 - e) :
    M * d * 2 ^ s < n * 2 ^ t ∨ (M * d * 2 ^ s = n * 2 ^ t ∧ x % 2 = 0) := by
  have hN := h (t + E) s (by omega)
  have hE := Nm.two_pos E
  have e1 : n * 2 ^ (t + E) = n * 2 ^ t * 2 ^ E := by rw [Nm.two_add, Int.mul_assoc]
  have e2 : md (x - 1) * (d * 2 ^ s) = M * d * 2 ^ s * 2 ^ E := by rw [hM]; ac_rfl
  rcases hN.2.1 hx with g | ⟨g, g'⟩
  · rw [e1, e2] at g
    exact .inl (Int.lt_of_mul_lt_mul_right g (by omega))
  · rw [e1, e2] at g
    refine .inr ⟨Int.eq_of_mul_eq_mul_right (by omega) g, ?_⟩
    rcases g' with g' | g'
    · exact g'
    · cases g'

/-- The middle below, as the gap below a power of two is half as wide. -/
theorem md_pred (x : Int) (hx : 0 < x) (h : ¬ (man x = 4503599627370496 ∧ 0 < ex x)) : md (x - 1) = (2 * man x - 1) * 2 ^ ex x := by
  have h1 := vl_succ (x - 1) (by omega)
  rw [show x - 1 + 1 = x by omega] at h1
  have h2 := md_eq (x - 1)
  have e : ex (x - 1) = ex x := by
    simp only [ex, man] at h ⊢
    split at h <;> omega
  rw [e] at h1 h2
  rw [Int.sub_mul, Int.one_mul]
  have : vl x = 2 * man x * 2 ^ ex x := rfl
  omega

theorem md_pred' (x : Int) (hx : 0 < x) (h : man x = 4503599627370496 ∧ 0 < ex x) : md (x - 1) = 18014398509481983 * 2 ^ (ex x - 1) := by
  have e : ex (x - 1) = ex x - 1 := by
    simp only [ex, man] at h ⊢
    split at h <;> omega
  have m : man (x - 1) = 9007199254740991 := by
    simp only [ex, man] at h ⊢
    split at h <;> split <;> omega
  rw [md, m, e]
  rfl
end Ie
end Go.Proofs.YtobiapniidaibaaGreatDoor

/-
  What Decode tells, by the bits without the sign.
-/
namespace Go.Proofs.YtobiapniidaibaaGreatDoor
open Go Go.RowKit Go.Deep

namespace Ie
theorem dec_kinds (d : Int) : ∀ r, d % 9223372036854775808 = r →
    (cls d = 0 ∧ dm d = 0 ∧ de d = 0 ∧ r = 0) ∨ (cls d = 1 ∧ dm d = r ∧ de d = -1074 ∧ 0 < r ∧ r < 4503599627370496) ∨ (cls d = 2 ∧ dm d = man r ∧ de d = (ex r : Int) - 1074 ∧ 4503599627370496 ≤ r ∧ r < 9218868437227405312) ∨
    (cls d = 3 ∧ dm d = 0 ∧ de d = 0 ∧ r = 9218868437227405312) ∨ (cls d = 4 ∧ dm d = r - 9218868437227405312 ∧ de d = 0 ∧ 9218868437227405312 < r ∧ r < 9223372036854775808) := by
  intro r hr
  have hf : fld d = r / 4503599627370496 := by simp only [fld]; omega
  have hy : d % 4503599627370496 = r % 4503599627370496 := by omega
  have hm : dm d = if cls d = 2 then 4503599627370496 + r % 4503599627370496 else if cls d = 1 ∨ cls d = 4 then r % 4503599627370496 else 0 := by rw [dm, hy]
  have he : de d = if cls d = 2 then r / 4503599627370496 - 1075 else if cls d = 1 then -1074 else 0 := by rw [de, hf]
  have hc : cls d = if r / 4503599627370496 = 0 then (if r % 4503599627370496 = 0 then 0 else 1) else if r / 4503599627370496 = 2047 then (if r % 4503599627370496 = 0 then 3 else 4) else 2 := by rw [cls, hf, hy]
  by_cases a : r / 4503599627370496 = 0
  · by_cases b : r % 4503599627370496 = 0
    · rw [if_pos a, if_pos b] at hc
      left; rw [hm, he, hc]; exact ⟨rfl, rfl, rfl, by omega⟩
    · rw [if_pos a, if_neg b] at hc
      right; left; rw [hm, he, hc]; exact ⟨rfl, show r % 4503599627370496 = r by omega, rfl, by omega, by omega⟩
  · by_cases a2 : r / 4503599627370496 = 2047
    · by_cases b : r % 4503599627370496 = 0
      · rw [if_neg a, if_pos a2, if_pos b] at hc
        right; right; right; left; rw [hm, he, hc]; exact ⟨rfl, rfl, rfl, by omega⟩
      · rw [if_neg a, if_pos a2, if_neg b] at hc
        right; right; right; right; rw [hm, he, hc]; exact ⟨rfl, show r % 4503599627370496 = _ by omega, rfl, by omega, by omega⟩
    · rw [if_neg a, if_neg a2] at hc
      right; right; left; rw [hm, he, hc]
      refine ⟨rfl, ?_, ?_, by omega, by omega⟩
      · show 4503599627370496 + r % 4503599627370496 = man r
        rw [man, if_neg (by omega)]
      · show r / 4503599627370496 - 1075 = (ex r : Int) - 1074
        rw [ex]; omega
end Ie

namespace Ie
/-- The whole part of a finite double's value. -/
def whp (r : Int) : Int := vl r / 2 ^ 1075

theorem whp_low (r : Int) (k : Nat) (h : (ex r : Int) + k = 1074) : whp r = man r / 2 ^ k := by
  have e1 : vl r = man r * 2 ^ (ex r + 1) := by rw [vl, Nm.two_succ]; ac_rfl
  have e2 : (2 : Int) ^ 1075 = 2 ^ k * 2 ^ (ex r + 1) := by rw [← Nm.two_add]; congr 1; omega
  rw [whp, e1, e2, Int.mul_ediv_mul_of_pos_left _ _ (Nm.two_pos _)]

theorem whp_high (r : Int) (k : Nat) (h : (ex r : Int) = 1074 + k) : whp r = man r * 2 ^ k ∧ vl r = whp r * 2 ^ 1075 := by
  have e1 : vl r = man r * 2 ^ k * 2 ^ 1075 := by
    have e0 : (2 : Int) ^ 1075 = 2 * 2 ^ 1074 := Nm.two_succ 1074
    rw [vl, show ex r = k + 1074 by omega, Nm.two_add, e0]
    generalize (2 : Int) ^ 1074 = P
    generalize (2 : Int) ^ k = Q
    ac_rfl
  have e2 : whp r = man r * 2 ^ k := by rw [whp, e1, Int.mul_ediv_cancel _ (by have := Nm.two_pos 1075; omega)]
  exact ⟨e2, by rw [e2]; exact e1⟩

theorem whp_zero : whp 0 = 0 := by rw [whp, vl_zero, Int.zero_ediv]

theorem shr_min (m : Int) (k : Nat) (h0 : 0 ≤ m) (h1 : m < 9007199254740992) : m / 2 ^ min k 64 = m / 2 ^ k := by
  rcases Nat.le_total k 64 with h | h
  · rw [Nat.min_eq_left h]
  · rw [Nat.min_eq_right h]
    have e53 : (2 : Int) ^ 53 = 9007199254740992 := by decide
    have g1 := Nm.two_mono (show 53 ≤ k by omega)
    have g2 := Nm.two_mono (show 53 ≤ 64 by omega)
    rw [Int.ediv_eq_zero_of_lt h0 (by omega), Int.ediv_eq_zero_of_lt h0 (by omega)]
end Ie
end Go.Proofs.YtobiapniidaibaaGreatDoor

namespace Go.Proofs.YtobiapniidaibaaGreatDoor
open Go.RowKit Go.Deep

theorem ret_two {p : Option Addr} {a b : Nat} (h : a = b) : Ending.returned (.tuple #[.slice p a a, .int .i64 0]) = .returned (.tuple #[.slice p b b, .int .i64 0]) := by rw [h]

theorem lshift_ok (p : Option Addr) (n cap : Nat) (zs : List Int) (k : Int) (w : World) (ha : Arg w p n cap zs) (tz : Nm.tsize zs ≤ 4096) (hk : 0 ≤ k) :
    Calls Tryz.prog 60 #[.slice p n cap, .int .i64 k] w fun e w' => e = .returned (.tuple #[.slice p (Nm.tsize zs) (Nm.tsize zs), .int .i64 0]) ∧ w' = w := by
  obtain ⟨a1, a2, a3, a4, a5⟩ := ha
  have HT := hid (limited_ok p n cap zs w a1 a2 (by omega) a4 tz)
  go_enter Tryz.func60, Tryz.ntmps60
  go_wp2_with fail
  refine HT.out.mono ?_
  rintro e w' ⟨rfl, rfl⟩
  go_wp2_with fail
  go_ret2
  exact ⟨rfl, rfl⟩

theorem lshift_neg (p : Option Addr) (n cap : Nat) (zs : List Int) (k : Int) (w : World) (ha : Arg w p n cap zs) (tz : Nm.tsize zs ≤ 4096) (hk : k < 0) :
    Calls Tryz.prog 60 #[.slice p n cap, .int .i64 k] w fun e w' => e = .returned (.tuple #[.slice none 0 0, .int .i64 1]) ∧ w' = w := by
  obtain ⟨a1, a2, a3, a4, a5⟩ := ha
  have HT := hid (limited_ok p n cap zs w a1 a2 (by omega) a4 tz)
  go_enter Tryz.func60, Tryz.ntmps60
  go_wp2_with fail
  refine HT.out.mono ?_
  rintro e w' ⟨rfl, rfl⟩
  go_wp2_with fail
  go_ret2
  exact ⟨rfl, rfl⟩

theorem bitLen_n (L : Nat) (p : Option Addr) (n cap : Nat) (zs : List Int) (w : World) (ha : Arg w p n cap zs) (hb : blen zs = (L : Int)) :
    Calls Tryz.prog 61 #[.slice p n cap] w fun e w' => e = .returned (.int .i64 (L : Int)) ∧ w' = w := by
  rw [← hb]
  exact bitLen_any p n cap zs w ha

theorem Arg.trim' {w : World} {p : Option Addr} {n cap : Nat} {zs : List Int} (h : Arg w p n cap zs) : Arg w p (Nm.tsize zs) (Nm.tsize zs) (Nm.trim zs) :=
  ⟨Nm.trim_length zs, Nat.le_refl _, by have := h.tl; have := h.2.1; have := h.2.2.1; omega, h.2.2.2.1.trim, h.2.2.2.2.trim⟩

theorem shl_neg (p : Option Addr) (n cap : Nat) (zs : List Int) (k : Int) (w : World) (ha : Arg w p n cap zs) (tz : Nm.tsize zs ≤ 4096) (hk : k < 0) :
    Calls Tryz.prog 43 #[.slice p n cap, .int .i64 k] w fun e w' => e = .returned (.tuple #[.slice none 0 0, .int .i64 1]) ∧ w' = w := by
  have HT := hid (lshift_neg p n cap zs k w ha tz hk)
  go_enter Tryz.func43, Tryz.ntmps43
  go_wp2_with fail
  refine HT.out.mono ?_
  rintro e w' ⟨rfl, rfl⟩
  go_wp2_with fail
  go_ret2
  exact ⟨rfl, rfl⟩

set_option maxRecDepth 100000 in
set_option maxHeartbeats 1000000 in
/-- What is too big anyway isn't worked out. -/
theorem shl_big (p : Option Addr) (n cap : Nat) (zs : List Int) (k : Int) (L : Nat) (w : World) (ha : Arg w p n cap zs) (tz : Nm.tsize zs ≤ 4096) (hk : 0 ≤ k) (hk1 : k ≤ 9223372036854775807) (hz : 0 < Nm.tsize zs) (hL : blen (Nm.trim zs) = (L : Int)) (hb : 262144 < (L : Int) + k) :
    Calls Tryz.prog 43 #[.slice p n cap, .int .i64 k] w fun e w' => e = .returned (.tuple #[.slice none 0 0, .int .i64 2]) ∧ w' = w := by
  have HT := hid (lshift_ok p n cap zs k w ha tz hk)
  have HB := hid (bitLen_n L p _ _ (Nm.trim zs) w ha.trim' hL)
  have hz' : ((Nm.tsize zs : Int) == 0) = false := by rw [beq_eq_false_iff_ne]; omega
  have hb' : 262144 - k < (L : Int) := by omega
  clear hL ha hb
  go_enter Tryz.func43, Tryz.ntmps43
  go_wp2_with fail
  refine HT.out.mono ?_
  rintro e w' ⟨rfl, rfl⟩
  go_wp2_with fail
  refine HB.out.mono ?_
  rintro e w' ⟨rfl, rfl⟩
  go_wp2_with fail
  go_ret2
  exact ⟨rfl, rfl⟩

theorem shl_zero (p : Option Addr) (n cap : Nat) (zs : List Int) (k : Int) (w : World) (ha : Arg w p n cap zs) (hk : 0 ≤ k) (hz : Nm.tsize zs = 0) :
    Calls Tryz.prog 43 #[.slice p n cap, .int .i64 k] w fun e w' => e = .returned (.tuple #[.slice none 0 0, .int .i64 0]) ∧ w' = w := by
  have HT := lshift_ok p n cap zs k w ha (by omega) hk
  rw [hz] at HT
  have H := hid HT
  clear HT hz ha
  go_enter Tryz.func43, Tryz.ntmps43
  go_wp2_with fail
  refine H.out.mono ?_
  rintro e w' ⟨rfl, rfl⟩
  go_wp2_with fail
  go_ret2
  exact ⟨rfl, rfl⟩

set_option maxRecDepth 100000 in
set_option maxHeartbeats 1000000 in
theorem shl_ok (p : Option Addr) (n cap : Nat) (zs : List Int) (kk : Int) (k : Nat) (L : Nat) (w : World) (ha : Arg w p n cap zs) (tz : Nm.tsize zs ≤ 4096) (hkk : kk = (k : Int)) (hz : 0 < Nm.tsize zs) (hL : blen (Nm.trim zs) = (L : Int)) (hb : L + k ≤ 262144) :
    Calls Tryz.prog 43 #[.slice p n cap, .int .i64 kk] w fun e w' => ∃ r os, e = .returned (.tuple #[.slice r (List.length os) (List.length os), .int .i64 0]) ∧ Ans w.heap.size w' r os (Nm.val zs * 2 ^ k) ∧ Below w.heap.size w w' := by
  have hk0 : 0 ≤ kk := by omega
  have T1 := lshift_ok p n cap zs kk w ha tz hk0
  have B1 := bitLen_n L p _ _ (Nm.trim zs) w ha.trim' hL
  obtain ⟨N, HN⟩ : ∃ N, Hid (Nm.tsize zs = N) := ⟨_, rfl⟩
  rw [HN.out] at T1 B1
  have HT := hid T1
  have HB := hid B1
  have hN0 : 0 < N := by rw [← HN.out]; exact hz
  have hN1 : N ≤ 4096 := by rw [← HN.out]; exact tz
  have hz' : ((N : Int) == 0) = false := by rw [beq_eq_false_iff_ne]; omega
  have hb1 : ¬ 262144 - kk < (L : Int) := by omega
  have hkb : kk ≤ 262144 := by omega
  obtain ⟨sk, hsk⟩ : ∃ sk, k / 64 = sk := ⟨_, rfl⟩
  obtain ⟨r, hr⟩ : ∃ r, k % 64 = r := ⟨_, rfl⟩
  have r1 : kk / 64 = (sk : Int) := by omega
  have r2 : kk % 64 = (r : Int) := by omega
  have hr63 : r ≤ 63 := by omega
  have hskb : sk ≤ 4096 := by omega
  have KE : Hid (k = 64 * sk + r) := by show _ = _; omega
  have L1 := hid ((Nm.trim_length zs).trans HN.out)
  have A5 := hid ha.2.2.2.2.trim
  obtain ⟨b, off, rfl, hbw, HC⟩ := ha.2.2.2.1.trim.at (by rw [L1.out]; exact hN0)
  have V := hid (Nm.val_trim zs)
  clear T1 B1 ha tz hz hL hkk hsk hr
  have hmk := make64 (sk + N + 1) (by omega) w
  have em : ((sk + N + 1 : Nat) : Int) = (sk : Int) + (N : Int) + 1 := by omega
  rw [em] at hmk
  clear em
  have ho : Own (w.alloc (.cells (madeCells #[.int .u64 0] (sk + N + 1)) 22)) w.heap.size (List.replicate (sk + N + 1) 0) := by
    rw [made_zero]; exact Own.alloc w _
  have hb0 : Below w.heap.size w (w.alloc (.cells (madeCells #[.int .u64 0] (sk + N + 1)) 22)) := (Below.refl _ _).alloc (Nat.le_refl _) _
  obtain ⟨W0, hW0⟩ : ∃ W0, w.alloc (.cells (madeCells #[.int .u64 0] (sk + N + 1)) 22) = W0 := ⟨_, rfl⟩
  have HB0 : Hid (Below w.heap.size w W0) := by rw [← hW0]; exact hb0
  have I0 : MaInv w.heap.size (sk + N + 1) W0 (Nm.pw sk * (Nm.val ((Nm.trim zs).take 0) * 2 ^ r)) (sk + 0) 0 (List.replicate (sk + N + 1) 0) W0 := by
    rw [← hW0]
    exact ⟨⟨ho, by simp, Nm.Limbs.replicate _, by simp [Nm.val_replicate, Nm.val], Below.refl _ _, rfl⟩, by omega, fun i _ => getD_replicate _ _⟩
  have P0 := Nm.two_pos r
  have HP0 := hid P0
  clear ho hb0 P0
  rw [hW0] at hmk
  clear hW0
  go_enter Tryz.func43, Tryz.ntmps43
  go_wp2_with fail
  refine HT.out.mono ?_
  rintro e w' ⟨rfl, rfl⟩
  go_wp2_with fail
  refine HB.out.mono ?_
  rintro e w' ⟨rfl, rfl⟩
  go_wp2_with fail
  go_loopw [10, 43] (fun a i wr => ∃ (j : Nat) (sp : Int) (os : List Int), j ≤ N ∧ i = .int .i64 j ∧ a = .int .u64 sp ∧ Hid (sp < 2 ^ r) ∧ MaInv w'.heap.size (sk + N + 1) W0 (Nm.pw sk * (Nm.val ((Nm.trim zs).take j) * 2 ^ r)) (sk + j) sp os wr) (fun _ i _ => N - (intOf i).toNat)
  case atStart => exact ⟨0, 0, _, Nat.zero_le _, rfl, rfl, HP0.out, I0⟩
  case round =>
    clear I0 hmk
    obtain ⟨j, sp, os, hj, rfl, rfl, SP, I⟩ := hrel
    by_cases hlt : j < N
    · obtain ⟨x, hx, X⟩ : ∃ x, wr.cell? ⟨b, off + j, none⟩ = some (.int .u64 x) ∧ Hid (x = (Nm.trim zs).getD j 0) :=
        ⟨_, ((HB0.out.trans I.1.2.2.2.2.1).cell (p := ⟨b, off + j, none⟩) hbw).trans (HC.out j (by rw [L1.out]; exact hlt)), rfl⟩
      have hx0 := A5.out.at j
      rw [← X.out] at hx0
      obtain ⟨hx0, hx1⟩ := hx0
      obtain ⟨y, hyc⟩ : ∃ y, wr.cell? ⟨w'.heap.size, sk + j, none⟩ = some (.int .u64 y) := ⟨_, I.1.1.cell (sk + j) (by have := I.1.2.1; omega)⟩
      have hfr := I.1.1.free (sk + j)
      obtain ⟨hs0, hs1⟩ := I.2.1
      obtain ⟨A, s, sp', u1, u2, u3, us, usp, E⟩ := Sh.up x sp r hr63 hx0 hx1 hs0 SP.out
      have usp1 := hid usp
      have hP64 : (2 : Int) ^ r ≤ 18446744073709551616 := by rw [← Nm.two_64]; exact Nm.two_mono (by omega)
      have I2 := I.step (by omega) (x := x * 2 ^ r) (s := s) (c' := sp') us ⟨usp.1, by omega⟩ E.out
      have T2 : Nm.pw sk * (Nm.val ((Nm.trim zs).take j) * 2 ^ r) + Nm.pw (sk + j) * (x * 2 ^ r) = Nm.pw sk * (Nm.val ((Nm.trim zs).take (j + 1)) * 2 ^ r) := by
        rw [Nm.val_take_succ _ j (by rw [L1.out]; exact hlt), ← X.out, Nm.pw_add, Int.add_mul, Int.mul_add, Int.mul_assoc, Int.mul_assoc]
      rw [T2] at I2
      clear I T2 hP64 us usp E
      go_wp2
      go_roundw
      case rel => exact ⟨j + 1, sp', _, by omega, by go_num, rfl, usp1.out.2, I2⟩
      case measure => simp [intOf]; omega
    · have hjN : j = N := by omega
      subst hjN
      rw [List.take_of_length_le (by rw [L1.out]; omega)] at I
      obtain ⟨⟨i1, i2, i3, i4, i5, i6⟩, i7, i8⟩ := I
      have O1 := hid (i1.set (sk + j) sp)
      have O2 : Hid ((os.set (sk + j) sp).length = sk + j + 1) := by rw [Hid]; simpa using i2
      have O3 := hid (i3.set (sk + j) i7.1 i7.2)
      have O4 : Hid (Nm.val (os.set (sk + j) sp) = Nm.val zs * 2 ^ k) := by
        rw [Hid, Nm.val_set _ _ _ (by omega), i8 (sk + j) (Nat.le_refl _), Int.sub_zero, i4, V.out, Nm.pw_two, Int.mul_left_comm, ← Nm.two_add, ← KE.out]
      have O5 := hid (HB0.out.trans (i5.setCell (p := ⟨w'.heap.size, sk + j, none⟩) (Nat.le_refl _) (.int .u64 sp)))
      obtain ⟨y, hy⟩ : ∃ y, wr.cell? ⟨w'.heap.size, sk + j, none⟩ = some (.int .u64 y) := ⟨_, i1.cell (sk + j) (by omega)⟩
      have hfr := i1.free (sk + j)
      clear i1 i2 i3 i4 i5 i6 i7 i8
      go_wp2_with fail
      refine (trimmed_any _ (sk + j + 1) (sk + j + 1) (os.set (sk + j) sp) _ O2.out (Nat.le_refl _) (by omega) O1.out.lies).mono ?_
      rintro e w3 ⟨rfl, rfl⟩
      go_wp2_with fail
      go_ret2
      refine ⟨some ⟨w'.heap.size, 0, none⟩, Nm.trim (os.set (sk + j) sp), ret_two (Nm.trim_length _).symm, ⟨O1.out.lies.trim, O3.out.trim, ?_, ?_, ?_⟩, O5.out⟩
      · rw [Nm.trim_trim, Nm.trim_length]
      · rw [Nm.val_trim, O4.out]
      · intro a h
        cases h
        exact Nat.le_refl _
end Go.Proofs.YtobiapniidaibaaGreatDoor

namespace Go.Proofs.YtobiapniidaibaaGreatDoor
open Go.RowKit Go.Deep

theorem fblen_trim (zs : List Int) : blen (Nm.trim zs) = blen zs := by
  unfold blen
  rw [Nm.trim_trim]
  by_cases h : Nm.tsize zs = 0
  · rw [if_pos h, if_pos h]
  · rw [if_neg h, if_neg h]
    have e : (Nm.trim zs).getD (Nm.tsize zs - 1) 0 = zs.getD (Nm.tsize zs - 1) 0 := by rw [Nm.trim, Nm.getD_take, if_pos (by omega)]
    rw [e]

theorem fpw_4096 : Nm.pw 4096 = 2 ^ 262144 := Nm.pw_two 4096

theorem ftwo_lt {a b : Nat} (h : (2 : Int) ^ a < 2 ^ b) : a < b := by
  rcases Nat.lt_or_ge a b with h1 | h1
  · exact h1
  · have := Nm.two_mono h1
    omega

/-- So many digits as the number times 2^k. -/
theorem FBLen.up {v : Int} {L : Nat} (k : Nat) (h : Nm.BLen v L) (hv : 0 < v) : Nm.BLen (v * 2 ^ k) (L + k) := by
  have hp := Nm.two_pos k
  have h1 := h.2.2 hv
  refine ⟨?_, fun h0 => ?_, fun _ => ⟨by omega, ?_⟩⟩
  · rw [Nm.two_add]
    exact Int.mul_lt_mul_of_pos_right h.1 hp
  · rcases Int.mul_eq_zero.1 h0 with h2 | h2 <;> omega
  · rw [show L + k - 1 = L - 1 + k by omega, Nm.two_add]
    exact Int.mul_le_mul_of_nonneg_right h1.2 (by omega)

theorem ftsize_pos {zs : List Int} (hz : Nm.Limbs zs) (hv : 0 < Nm.val zs) : 0 < Nm.tsize zs := by
  rcases Nat.eq_zero_or_pos (Nm.tsize zs) with h | h
  · have := (Nm.tsize_zero_iff hz).1 h
    omega
  · exact h

theorem fshl_any (p : Option Addr) (n cap : Nat) (zs : List Int) (kk : Int) (k : Nat) (w : World) (ha : Arg w p n cap zs) (tz : Nm.tsize zs ≤ 4096) (hkk : kk = (k : Int)) (hb : Nm.val zs * 2 ^ k < Nm.pw 4096) :
    Calls Tryz.prog 43 #[.slice p n cap, .int .i64 kk] w fun e w' => ∃ r os, e = .returned (.tuple #[.slice r (List.length os) (List.length os), .int .i64 0]) ∧ Ans w.heap.size w' r os (Nm.val zs * 2 ^ k) ∧ Below w.heap.size w w' := by
  have hv0 := (Nm.val_bd zs ha.2.2.2.2).1
  by_cases hz : Nm.tsize zs = 0
  · have hv := (Nm.tsize_zero_iff ha.2.2.2.2).1 hz
    refine (shl_zero p n cap zs kk w ha (by omega) hz).mono ?_
    rintro e w' ⟨rfl, rfl⟩
    exact ⟨none, [], rfl, ⟨Lies.nil _ _, Nm.Limbs.nil, rfl, by rw [hv, Int.zero_mul]; rfl, fun a h => by cases h⟩, Below.refl _ _⟩
  · obtain ⟨L, hL, BL, _, _⟩ := blen_is zs ha.2.2.2.2
    rw [← fblen_trim] at hL
    have hv : 0 < Nm.val zs := by
      rcases (show Nm.val zs = 0 ∨ 0 < Nm.val zs by omega) with h | h
      · exact absurd ((Nm.tsize_zero_iff ha.2.2.2.2).2 h) hz
      · exact h
    have hu := (FBLen.up k BL hv).2.2 (Int.mul_pos hv (Nm.two_pos k))
    rw [fpw_4096] at hb
    have hlt := ftwo_lt (show (2 : Int) ^ (L + k - 1) < 2 ^ 262144 by omega)
    exact shl_ok p n cap zs kk k L w ha tz hkk (by omega) hL (by omega)

end Go.Proofs.YtobiapniidaibaaGreatDoor

namespace Go.Proofs.YtobiapniidaibaaGreatDoor
open Go.RowKit Go.Deep

/-- s' is s without some zeros at its end, and ends with none. -/
def FTail (xs : List Int) (e : Ending) : Prop := ∃ s' k, e = .returned (.string s') ∧ Str s' (xs.take k) ∧ k ≤ xs.length ∧ (∀ i, k ≤ i → i < xs.length → xs.getD i 0 = 48) ∧ (0 < k → xs.getD (k - 1) 0 ≠ 48)

set_option maxRecDepth 100000 in
set_option maxHeartbeats 1000000 in
theorem frtrim_any (s : ByteArray) (xs : List Int) (w : World) (hs : Str s xs) (hn1 : xs.length ≤ 562949953421312) :
    Calls Tryz.prog 64 #[.string s, .int .u8 48] w fun e w' => FTail xs e ∧ w' = w := by
  have HS := hid hs
  have HN := hid hn1
  clear hs hn1
  go_enter Tryz.func64, Tryz.ntmps64
  go_wp2_with fail
  go_loop [0] (fun c => ∃ s' m, c = .string s' ∧ Hid (Str s' (xs.take m) ∧ m ≤ xs.length ∧ s'.size = m ∧ (∀ i, m ≤ i → i < xs.length → xs.getD i 0 = 48))) (fun c => match c with | .string s' => s'.size | _ => 0)
  case atStart => exact ⟨s, xs.length, rfl, by rw [List.take_length]; exact HS.out, Nat.le_refl _, HS.out.size, fun i h1 h2 => by omega⟩
  case round =>
    obtain ⟨s', m, rfl, I⟩ := hrel
    have hsz : s'.size = m := I.out.2.2.1
    have hmb : (m : Int) ≤ 562949953421312 := by have := HN.out; have := I.out.2.1; omega
    by_cases h0 : m = 0
    · subst h0
      have F : Hid (FTail xs (.returned (.string s'))) := ⟨s', 0, rfl, I.out.1, Nat.zero_le _, I.out.2.2.2, fun h => by omega⟩
      clear I
      go_wp2_with fail
      go_ret
      exact ⟨F.out, rfl⟩
    · obtain ⟨u, hu⟩ : ∃ u, m = u + 1 := ⟨m - 1, by omega⟩
      have hmi : (0 : Int) < (m : Int) := by omega
      have hmu : (m : Int) - 1 = (u : Int) := by omega
      have hum : (u : Int) < (m : Int) := by omega
      obtain ⟨x, X⟩ : ∃ x, Hid (xs.getD u 0 = x) := ⟨_, rfl⟩
      have hx : ∀ h : u < s'.size, ((s'[u]'h).toNat : Int) = x := fun h => by
        rw [I.out.1.at u h, ← X.out]
        simp [List.getD, show u < m by omega]
      have HU := hid hu
      by_cases hd : x = 48
      · subst hd
        have F : Hid (Str (s'.extract 0 u) (xs.take u) ∧ u ≤ xs.length ∧ (s'.extract 0 u).size = u ∧ (∀ i, u ≤ i → i < xs.length → xs.getD i 0 = 48)) := by
          have e := I.out.1.extract 0 u
          rw [List.drop_zero, Nat.sub_zero, List.take_take, show min u m = u by omega] at e
          refine ⟨e, by have := I.out.2.1; omega, by rw [e.size]; have := I.out.2.1; simp; omega, fun i h1 h2 => ?_⟩
          by_cases c : i = u
          · subst c; exact X.out
          · exact I.out.2.2.2 i (by omega) h2
        have SZ : Hid ((s'.extract 0 u).size < s'.size) := by show _ < _; rw [F.out.2.2.1, hsz]; omega
        clear I hu h0
        go_wp2_with fail
        go_round
        case rel => exact ⟨_, _, rfl, F.out⟩
        case measure => exact SZ.out
      · have hd2 : (x == 48) = false := by rw [beq_eq_false_iff_ne]; exact hd
        have F : Hid (FTail xs (.returned (.string s'))) := ⟨s', m, rfl, I.out.1, I.out.2.1, I.out.2.2.2, fun _ => by rw [show m - 1 = u by omega, X.out]; exact hd⟩
        clear I hu h0
        go_wp2_with fail
        go_ret
        exact ⟨F.out, rfl⟩


set_option maxRecDepth 100000 in
theorem frtrim0_any (s : ByteArray) (xs : List Int) (w : World) (hs : Str s xs) (hn1 : xs.length ≤ 562949953421312) :
    Calls Tryz.prog 45 #[.string s, .string ⟨#[48]⟩] w fun e w' => FTail xs e ∧ w' = w := by
  have T := hid (frtrim_any s xs w hs hn1)
  by_cases h : xs = []
  · have F : Hid (FTail xs (.returned (.string s))) := ⟨s, 0, rfl, by rw [h] at hs ⊢; exact hs, Nat.zero_le _, fun i _ hi => by rw [h] at hi; simp at hi, fun hlt => by omega⟩
    have hs0 : s = ⟨#[]⟩ := hs.inj (by rw [h]; rfl)
    subst hs0
    clear hs hn1 h
    go_enter Tryz.func45, Tryz.ntmps45
    go_wp2_with fail
    go_ret
    exact ⟨F.out, rfl⟩
  · have e1 : s.toList ≠ [] := by
      intro c
      apply h
      rw [ByteArray.toList_eq] at c
      rw [← hs, c]
      rfl
    have e2 : (s.toList == []) = false := by rw [beq_eq_false_iff_ne]; exact e1
    have e3 : s.toList.isEmpty = false := by rw [List.isEmpty_eq_false_iff]; exact e1
    clear hs hn1 h
    go_enter Tryz.func45, Tryz.ntmps45
    go_wp2_with fail
    refine T.out.mono ?_
    rintro e w' ⟨h1, rfl⟩
    obtain ⟨s', j, rfl, h2⟩ := h1
    have F : Hid (FTail xs (.returned (.string s'))) := ⟨s', j, rfl, h2⟩
    clear h2 T
    go_wp2_with fail
    go_ret
    exact ⟨F.out, rfl⟩
end Go.Proofs.YtobiapniidaibaaGreatDoor
