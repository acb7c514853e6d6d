/-
  Texts put together: LNum4, IKinds, LNearN, LFmt, LFmt2, LGt, LGapN, LRowLt, LLaw, LFewN, LStepN, LCmpK.
-/
import Derived.Test.YtjkefcikepnbpaaGreatDoorWAI
import Derived.Test.YtjkefcikepnbpaaGreatDoorIDec
import Derived.Test.YtjkefcikepnbpaaGreatDoorWAA
import Derived.Lib.AppendIntMem
import Derived.Shelf.Abstract
import Derived.Deep.LoopGhost
namespace Go.Proofs.YtjkefcikepnbpaaGreatDoor
open Go.RowKit Go.Deep
namespace Sh

/-- One less than the least number of figures. -/
def IsN (a : Int) (f : Nat) : Prop := f ≤ 16 ∧ (∀ i, i < f → (wn a (i + 1)).isSome = false) ∧ (f < 16 → (wn a (f + 1)).isSome = true)
theorem isn_ex (a : Int) : ∃ f, IsN a f := by
  have key : ∀ k, k ≤ 16 → (∃ f, IsN a f) ∨ (∀ i, i < k → (wn a (i + 1)).isSome = false) := by
    intro k
    induction k with
    | zero => intro _; exact .inr fun i h => by omega
    | succ k ih =>
      intro hk
      rcases ih (by omega) with c | c
      · exact .inl c
      · cases h : (wn a (k + 1)).isSome with
        | true => exact .inl ⟨k, by omega, c, fun _ => h⟩
        | false =>
          refine .inr fun i hi => ?_
          rcases (show i < k ∨ i = k by omega) with q | q
          · exact c i q
          · rw [q]; exact h
  rcases key 16 (by omega) with c | c
  · exact c
  · exact ⟨16, by omega, c, fun h => by omega⟩
theorem IsN.one {a : Int} {f g : Nat} (h : IsN a f) (k : IsN a g) : f = g := by
  rcases Nat.lt_trichotomy f g with c | c | c
  · have h1 := h.2.2 (by have := k.1; omega)
    rw [k.2.1 f c] at h1
    exact absurd h1 (by decide)
  · exact c
  · have h1 := k.2.2 (by have := h.1; omega)
    rw [h.2.1 g c] at h1
    exact absurd h1 (by decide)
noncomputable def n0 (a : Int) : Nat := Classical.choose (isn_ex a)
theorem n0_is (a : Int) : IsN a (n0 a) := Classical.choose_spec (isn_ex a)
/-- What a search by halving tells. -/
theorem isn_of {a : Int} {f : Nat} (ha : 0 ≤ a) (hf : f ≤ 16) (h1 : 0 < f → (wn a f).isSome = false) (h2 : f < 16 → (wn a (f + 1)).isSome = true) : f = n0 a := by
  refine IsN.one ⟨hf, fun i hi => ?_, h2⟩ (n0_is a)
  have up : ∀ k : Nat, (wn a (i + 1)).isSome = true → (wn a (i + 1 + k)).isSome = true := by
    intro k
    induction k with
    | zero => exact fun h => h
    | succ k ih => exact fun h => wn_mono ha (ih h)
  cases h : (wn a (i + 1)).isSome with
  | false => rfl
  | true =>
    have q := up (f - (i + 1)) h
    rw [show i + 1 + (f - (i + 1)) = f by omega, h1 (by omega)] at q
    exact absurd q (by decide)
theorem ln0 : ln (V 0) = 1 := by rw [V_zero, ln, dd_zero]; rfl
theorem wn_zero {n : Nat} (h : 1 ≤ n) : wn 0 n = some 0 := by
  unfold wn
  rw [if_pos (by rw [ln0]; exact h), V_zero]
theorem wn_17 {a : Int} (ha : 0 ≤ a) : (wn a 17).isSome = true := by
  rcases (show a = 0 ∨ 0 < a by omega) with c | c
  · rw [c, wn_zero (by omega)]; rfl
  · exact wn17 c
/-- What Digits tells. -/
noncomputable def dgt (a : Int) : Int := (wn a (n0 a + 1)).getD 0
theorem wn_dgt {a : Int} (ha : 0 ≤ a) : wn a (n0 a + 1) = some (dgt a) := by
  have h : (wn a (n0 a + 1)).isSome = true := by
    obtain ⟨h1, h2, h3⟩ := n0_is a
    rcases (show n0 a < 16 ∨ n0 a = 16 by omega) with c | c
    · exact h3 c
    · rw [c]; exact wn_17 ha
  obtain ⟨U, hU⟩ := Option.isSome_iff_exists.1 h
  unfold dgt
  rw [hU]
  rfl
theorem n0_le (a : Int) : n0 a ≤ 16 := (n0_is a).1
theorem dgt_zero : dgt 0 = 0 := by
  have := wn_dgt (Int.le_refl 0)
  rw [wn_zero (by omega)] at this
  exact (Option.some.inj this).symm

/-- Closed ones. -/
theorem dd_eq {D : Sc.D} {U : Int} (h : Ok D) (k : uv D = U) : dd U = D := by rw [← k]; exact h.is.symm
theorem ok_of (xs : List Int) (e : Int) (h1 : (xs.all fun x => decide (48 ≤ x) && decide (x ≤ 57)) = true) (h2 : xs ≠ []) (h3 : xs.getD 0 0 ≠ 48) (h4 : xs.getD (xs.length - 1) 0 ≠ 48) (h5 : -1075 ≤ e) : Ok ⟨false, xs, e⟩ :=
  ⟨rfl, h5, .inr ⟨fun d hd => by have := List.all_eq_true.1 h1 d hd; simpa using this, h2, h3, h4⟩⟩
theorem wn_at {a : Int} {n : Nat} {D : Sc.D} {U S : Int} (hD : dd (V a) = D) (hl : n < D.ds.length) (hS : 10 ^ (D.e + ((D.ds.length : Int) - n) + 1075).toNat = S) (h1 : inB a (k1 (V a) S * S) = true) (hU : k1 (V a) S * S = U) : wn a n = some U := by
  have e1 : ln (V a) = D.ds.length := by rw [ln, hD]
  have e2 : st (V a) n = S := by rw [st, e1, hD, hS]
  unfold wn
  rw [if_neg (by omega), e2, if_pos h1, hU]
theorem wn_not {a : Int} {n : Nat} {D : Sc.D} {S : Int} (hD : dd (V a) = D) (hl : n < D.ds.length) (hS : 10 ^ (D.e + ((D.ds.length : Int) - n) + 1075).toNat = S) (h1 : inB a (k1 (V a) S * S) = false) (h2 : inB a (k2 (V a) S * S) = false) : wn a n = none := by
  have e1 : ln (V a) = D.ds.length := by rw [ln, hD]
  have e2 : st (V a) n = S := by rw [st, e1, hD, hS]
  unfold wn
  rw [if_neg (by omega), e2, if_neg (by rw [h1]; decide), if_neg (by rw [h2]; decide)]
theorem wn_all {a : Int} {n : Nat} {D : Sc.D} (hD : dd (V a) = D) (hl : D.ds.length ≤ n) : wn a n = some (V a) := by
  have e1 : ln (V a) = D.ds.length := by rw [ln, hD]
  unfold wn
  rw [if_pos (by omega)]

/-- The exact digits of the doubles next to 0.1 and 1/3; of 2.5. -/
def tenth : List Int := [49,48,48,48,48,48,48,48,48,48,48,48,48,48,48,48,48,53,53,53,49,49,49,53,49,50,51,49,50,53,55,56,50,55,48,50,49,49,56,49,53,56,51,52,48,52,53,52,49,48,49,53,54,50,53]
def third : List Int := [51,51,51,51,51,51,51,51,51,51,51,51,51,51,51,51,49,52,56,50,57,54,49,54,50,53,54,50,52,55,51,57,48,57,57,50,57,51,57,52,55,50,49,57,56,52,56,54,51,50,56,49,50,53]
def threes : List Int := [51,51,51,51,51,51,51,51,51,51,51,51,51,51,51,51]
set_option maxRecDepth 100000 in
theorem dd01 : dd (V 4591870180066957722) = ⟨false, tenth, -55⟩ := dd_eq (ok_of _ _ (by decide +kernel) (by decide +kernel) (by decide +kernel) (by decide +kernel) (by decide)) (by decide +kernel)
set_option maxRecDepth 100000 in
theorem dd13 : dd (V 4599676419421066581) = ⟨false, third, -54⟩ := dd_eq (ok_of _ _ (by decide +kernel) (by decide +kernel) (by decide +kernel) (by decide +kernel) (by decide)) (by decide +kernel)
set_option maxRecDepth 100000 in
theorem dd25 : dd (V 4612811918334230528) = ⟨false, [50, 53], -1⟩ := dd_eq (ok_of _ _ (by decide +kernel) (by decide +kernel) (by decide +kernel) (by decide +kernel) (by decide)) (by decide +kernel)
theorem wn01 : wn 4591870180066957722 1 = some (10 ^ 1074) := wn_at (S := 10 ^ 1074) dd01 (by decide +kernel) (by decide +kernel) (by decide +kernel) (by decide +kernel)
theorem wn13 : wn 4599676419421066581 16 = some (3333333333333333 * 10 ^ 1059) := wn_at (S := 10 ^ 1059) dd13 (by decide +kernel) (by decide +kernel) (by decide +kernel) (by decide +kernel)
theorem wn25 : wn 4612811918334230528 1 = none := wn_not (S := 10 ^ 1075) dd25 (by decide +kernel) (by decide +kernel) (by decide +kernel) (by decide +kernel)
theorem wn25b : wn 4612811918334230528 2 = some (V 4612811918334230528) := wn_all dd25 (by decide +kernel)
theorem n001 : n0 4591870180066957722 = 0 := (isn_of (by decide) (by decide) (fun h => absurd h (by decide)) (fun _ => by rw [show 0 + 1 = 1 from rfl, wn01]; rfl)).symm
theorem n025 : n0 4612811918334230528 = 1 := (isn_of (by decide) (by decide) (fun _ => by rw [wn25]; rfl) (fun _ => by rw [show 1 + 1 = 2 from rfl, wn25b]; rfl)).symm
theorem dgt01 : dgt 4591870180066957722 = 10 ^ 1074 := by rw [dgt, n001, show 0 + 1 = 1 from rfl, wn01]; rfl
theorem dgt25 : dgt 4612811918334230528 = V 4612811918334230528 := by rw [dgt, n025, show 1 + 1 = 2 from rfl, wn25b]; rfl
set_option maxRecDepth 100000 in
theorem ddt01 : dd (10 ^ 1074) = ⟨false, [49], -1⟩ := dd_eq (ok_of _ _ (by decide +kernel) (by decide +kernel) (by decide +kernel) (by decide +kernel) (by decide)) (by decide +kernel)
set_option maxRecDepth 100000 in
theorem ddt13 : dd (3333333333333333 * 10 ^ 1059) = ⟨false, threes, -16⟩ := dd_eq (ok_of _ _ (by decide +kernel) (by decide +kernel) (by decide +kernel) (by decide +kernel) (by decide)) (by decide +kernel)
theorem in01 : inB 4591870180066957722 (10 ^ 1074) = true := wn_in (by decide) wn01
end Sh
end Go.Proofs.YtjkefcikepnbpaaGreatDoor

/-
  What Decode tells, by the bits without the sign.
-/
namespace Go.Proofs.YtjkefcikepnbpaaGreatDoor
open Go Go.RowKit Go.Deep

namespace Ie
theorem dec_kinds (d : Int) : ∀ r, d % 9223372036854775808 = r →
    (cls d = 0 ∧ dm d = 0 ∧ de d = 0 ∧ r = 0) ∨ (cls d = 1 ∧ dm d = r ∧ de d = -1074 ∧ 0 < r ∧ r < 4503599627370496) ∨ (cls d = 2 ∧ dm d = man r ∧ de d = (ex r : Int) - 1074 ∧ 4503599627370496 ≤ r ∧ r < 9218868437227405312) ∨
    (cls d = 3 ∧ dm d = 0 ∧ de d = 0 ∧ r = 9218868437227405312) ∨ (cls d = 4 ∧ dm d = r - 9218868437227405312 ∧ de d = 0 ∧ 9218868437227405312 < r ∧ r < 9223372036854775808) := by
  intro r hr
  have hf : fld d = r / 4503599627370496 := by simp only [fld]; omega
  have hy : d % 4503599627370496 = r % 4503599627370496 := by omega
  have hm : dm d = if cls d = 2 then 4503599627370496 + r % 4503599627370496 else if cls d = 1 ∨ cls d = 4 then r % 4503599627370496 else 0 := by rw [dm, hy]
  have he : de d = if cls d = 2 then r / 4503599627370496 - 1075 else if cls d = 1 then -1074 else 0 := by rw [de, hf]
  have hc : cls d = if r / 4503599627370496 = 0 then (if r % 4503599627370496 = 0 then 0 else 1) else if r / 4503599627370496 = 2047 then (if r % 4503599627370496 = 0 then 3 else 4) else 2 := by rw [cls, hf, hy]
  by_cases a : r / 4503599627370496 = 0
  · by_cases b : r % 4503599627370496 = 0
    · rw [if_pos a, if_pos b] at hc
      left; rw [hm, he, hc]; exact ⟨rfl, rfl, rfl, by omega⟩
    · rw [if_pos a, if_neg b] at hc
      right; left; rw [hm, he, hc]; exact ⟨rfl, show r % 4503599627370496 = r by omega, rfl, by omega, by omega⟩
  · by_cases a2 : r / 4503599627370496 = 2047
    · by_cases b : r % 4503599627370496 = 0
      · rw [if_neg a, if_pos a2, if_pos b] at hc
        right; right; right; left; rw [hm, he, hc]; exact ⟨rfl, rfl, rfl, by omega⟩
      · rw [if_neg a, if_pos a2, if_neg b] at hc
        right; right; right; right; rw [hm, he, hc]; exact ⟨rfl, show r % 4503599627370496 = _ by omega, rfl, by omega, by omega⟩
    · rw [if_neg a, if_neg a2] at hc
      right; right; left; rw [hm, he, hc]
      refine ⟨rfl, ?_, ?_, by omega, by omega⟩
      · show 4503599627370496 + r % 4503599627370496 = man r
        rw [man, if_neg (by omega)]
      · show r / 4503599627370496 - 1075 = (ex r : Int) - 1074
        rw [ex]; omega
end Ie

namespace Ie
end Ie
end Go.Proofs.YtjkefcikepnbpaaGreatDoor

namespace Go.Proofs.YtjkefcikepnbpaaGreatDoor
open Go.RowKit Go.Deep
namespace Sh

theorem five_room : (9007199254740992 : Nat) * 5 ^ 1074 < 10 ^ 800 := by decide +kernel
theorem F5_room : 9007199254740992 * Fx.F5 < 10 ^ 800 := by
  have := Int.ofNat_lt.2 five_room
  unfold Fx.F5
  generalize 800 = a, 1074 = b at this ⊢
  rw [Int.natCast_mul, Int.natCast_pow, Int.natCast_pow] at this
  exact this
theorem F5_cut {i : Nat} (h : i ≤ 1074) : Fx.F5 = 5 ^ i * 5 ^ (1074 - i) := by
  unfold Fx.F5
  rw [← Int.pow_add]
  congr 1
  omega
theorem p5_pos (k : Nat) : (0 : Int) < 5 ^ k := Int.pow_pos (by omega)
theorem p5_le {i : Nat} (h : i ≤ 1074) : (5 : Int) ^ (1074 - i) ≤ Fx.F5 := by
  rw [F5_cut h]
  have h1 : (1 : Int) ≤ 5 ^ i := p5_pos i
  have := Int.mul_le_mul_of_nonneg_right h1 (Int.le_of_lt (p5_pos (1074 - i)))
  rwa [Int.one_mul] at this
theorem ten25 (i : Nat) : (10 : Int) ^ i = 2 ^ i * 5 ^ i := by rw [← Int.mul_pow]; rfl

/-- The exact digits of a double are at most 800. -/
theorem ex_short {m e E : Int} {xs : List Int} (h : Fx.Ex m e xs E) (hm : 0 < m) (m1 : m < 9007199254740992) (e1 : e ≤ 971) : xs.length ≤ 800 := by
  have r := h.room hm m1 e1
  rcases (show -491 ≤ E ∨ E < -491 by omega) with c | c
  · omega
  have nm := h.nml hm
  have eq := h.eq hm
  have lo := h.lo
  obtain ⟨i, hi⟩ : ∃ i : Nat, (E + 1074).toNat = i := ⟨_, rfl⟩
  obtain ⟨j, hj⟩ : ∃ j : Nat, (e + 1074).toNat = j := ⟨_, rfl⟩
  have i1 : i ≤ 1073 := by omega
  rw [hi, hj, ten25, F5_cut (show i ≤ 1074 by omega)] at eq
  have A : dv xs * 2 ^ i = m * 2 ^ j * 5 ^ (1074 - i) := by
    apply Int.eq_of_mul_eq_mul_right (Int.ne_of_gt (p5_pos i))
    calc dv xs * 2 ^ i * 5 ^ i = dv xs * (2 ^ i * 5 ^ i) := by rw [Int.mul_assoc]
      _ = m * 2 ^ j * (5 ^ i * 5 ^ (1074 - i)) := eq
      _ = m * 2 ^ j * 5 ^ (1074 - i) * 5 ^ i := by rw [Int.mul_comm (5 ^ i), Int.mul_assoc (m * 2 ^ j)]
  obtain ⟨q, hq⟩ : ∃ q : Nat, 1074 - i = q + 1 := ⟨1073 - i, by omega⟩
  rw [hq] at A
  have two_pos : ∀ k : Nat, (0 : Int) < 2 ^ k := fun k => Int.pow_pos (by omega)
  rcases Nat.lt_or_ge i j with cj | cj
  · exfalso
    obtain ⟨k, hk⟩ : ∃ k : Nat, j = i + (k + 1) := ⟨j - i - 1, by omega⟩
    rw [hk, Int.pow_add] at A
    have B : dv xs = m * 2 ^ k * 5 ^ q * 10 := by
      apply Int.eq_of_mul_eq_mul_right (Int.ne_of_gt (two_pos i))
      rw [A, Int.pow_succ, Int.pow_succ]
      simp only [Int.mul_comm, Int.mul_left_comm, Int.mul_assoc]
      rw [show (10 : Int) = 2 * 5 by rfl]
      simp only [Int.mul_comm, Int.mul_left_comm, Int.mul_assoc]
    exact nm.mod (by rw [B]; exact Int.mul_emod_left _ _)
  · obtain ⟨k, hk⟩ : ∃ k : Nat, i = j + k := ⟨i - j, by omega⟩
    have B : dv xs * 2 ^ k = m * 5 ^ (q + 1) := by
      apply Int.eq_of_mul_eq_mul_right (Int.ne_of_gt (two_pos j))
      rw [hk, Int.pow_add] at A
      calc dv xs * 2 ^ k * 2 ^ j = dv xs * (2 ^ j * 2 ^ k) := by rw [Int.mul_comm (2 ^ j), Int.mul_assoc]
        _ = m * 2 ^ j * 5 ^ (q + 1) := A
        _ = m * 5 ^ (q + 1) * 2 ^ j := by rw [Int.mul_assoc, Int.mul_assoc, Int.mul_comm (2 ^ j)]
    have d0 : 0 ≤ dv xs := (dv_bd nm.digs).1
    have le1 : dv xs ≤ dv xs * 2 ^ k := by
      have h1 : (1 : Int) ≤ 2 ^ k := two_pos k
      have := Int.mul_le_mul_of_nonneg_left h1 d0
      rwa [Int.mul_one] at this
    have le2 : m * 5 ^ (q + 1) ≤ 9007199254740992 * Fx.F5 := by
      have a : (5 : Int) ^ (q + 1) ≤ Fx.F5 := by rw [← hq]; exact p5_le (by omega)
      exact Int.le_trans (Int.mul_le_mul_of_nonneg_left a (by omega)) (Int.mul_le_mul_of_nonneg_right (by omega) (Int.le_of_lt Fx.F5_pos))
    have up : dv xs < 10 ^ 800 := by
      have := F5_room
      generalize (10 : Int) ^ 800 = T at *
      omega
    obtain ⟨n, hn⟩ := nm.len
    have low := Fx.head_low nm.digs hn nm.head
    rcases Nat.lt_or_ge n 800 with z | z
    · omega
    · exfalso
      have : (10 : Int) ^ 800 ≤ 10 ^ n := by
        obtain ⟨t, rfl⟩ : ∃ t, n = 800 + t := ⟨n - 800, by omega⟩
        rw [Int.pow_add]
        have h1 : (1 : Int) ≤ 10 ^ t := Fx.p_pos t
        have h2 : (0 : Int) ≤ 10 ^ 800 := Int.le_of_lt (Fx.p_pos 800)
        generalize (10 : Int) ^ 800 = T at *
        have := Int.mul_le_mul_of_nonneg_left h1 h2
        rwa [Int.mul_one] at this
      generalize (10 : Int) ^ 800 = T at *
      omega

/-- The exact digits' number is the double's. -/
theorem ex_V {d E : Int} {xs : List Int} (h : Fx.Ex (Ie.dm d) (Ie.de d) xs E) (hc : Ie.cls d < 3) (ha : 0 < d % 9223372036854775808) : dv xs * 10 ^ (E + 1075).toNat = V (d % 9223372036854775808) ∧ 0 < Ie.dm d := by
  have key : Ie.dm d = Ie.man (d % 9223372036854775808) ∧ (Ie.de d + 1074).toNat = Ie.ex (d % 9223372036854775808) ∧ 0 < Ie.dm d := by
    rcases Ie.dec_kinds d _ rfl with ⟨_, _, _, c⟩ | ⟨_, b, c, e, f⟩ | ⟨_, b, c, e, f⟩ | ⟨c, _⟩ | ⟨c, _⟩
    · omega
    · rw [b, c]
      refine ⟨?_, ?_, e⟩
      · rw [Ie.man, if_pos f]
      · unfold Ie.ex
        omega
    · rw [b, c]
      refine ⟨rfl, by omega, ?_⟩
      unfold Ie.man
      split <;> omega
    · omega
    · omega
  obtain ⟨k1, k2, k3⟩ := key
  have eq := h.eq k3
  have lo := h.lo
  refine ⟨?_, k3⟩
  rw [k2, k1] at eq
  rw [show (E + 1075).toNat = (E + 1074).toNat + 1 by omega, Int.pow_succ, ← Int.mul_assoc, eq, V, Ie.vl, T5, Fx.F5]
  generalize Ie.man (d % 9223372036854775808) = M
  generalize (2 : Int) ^ Ie.ex (d % 9223372036854775808) = K
  rw [show (5 : Int) ^ 1075 = 5 ^ 1074 * 5 from Int.pow_succ 5 1074]
  generalize (5 : Int) ^ 1074 = Q
  rw [show (10 : Int) = 2 * 5 by rfl]
  simp only [Int.mul_comm, Int.mul_left_comm, Int.mul_assoc]

end Sh
end Go.Proofs.YtjkefcikepnbpaaGreatDoor

namespace Go.Proofs.YtjkefcikepnbpaaGreatDoor
open Go Go.RowKit Go.Deep Go.Shelf Go.Sort

set_option maxRecDepth 100000 in
set_option maxHeartbeats 4000000 in
theorem zfmtI_any (u : Nat) (w : World) (hu64 : u < 18446744073709551616) (htab : Tab10 w) :
    Calls Tryz.prog 68 #[.int .u64 u, .int .i64 10] w fun e w' => e = .returned (.string ⟨(Lib.decDigits u).toArray⟩) ∧ Below w.heap.size w w' := by
  have e283 : ∀ args w, (callFunc 96 args).run Tryz.prog w = .ok (.enter 96 args) w := enters_of Tryz.func96 (by kernel_rfl) rfl
  have e284 : ∀ args w, (callFunc 97 args).run Tryz.prog w = .ok (.enter 97 args) w := enters_of Tryz.func97 (by kernel_rfl) rfl
  have e285 : ∀ args w, (callFunc 98 args).run Tryz.prog w = .ok (.enter 98 args) w := enters_of Tryz.func98 (by kernel_rfl) rfl
  by_cases hs : u < 100
  · have SM := Any.internal_strconv_small { itoaLays with } u hs w
    change Calls Tryz.prog 96 _ _ _ at SM
    have hs2 : (u : Int) < 100 := by omega
    go_enter Tryz.func68, Tryz.ntmps68
    go_wp2_with (go_at_fn 96; refine SM.mono ?_; rintro e w' ⟨rfl, rfl⟩)
    go_ret
    exact ⟨rfl, Below.refl _ _⟩
  · have hu1 : 1 ≤ u := by omega
    have hs2 : ¬ (u : Int) < 100 := by omega
    have hnd20 : Lib.nDigits u ≤ 20 := by have := Lib.numDigits_eq u hu1 hu64; split at this <;> omega
    have hb3 : Lib.nDigits u ≤ 23 := by omega
    have hal : Tryz.prog.arrayLen 135 = 24 := by simp [Program.arrayLen, Tryz.underlying135]
    have hsl : ∀ W, (Instr.sliceAt 135 (.pointer (some ⟨w.heap.size, 0, none⟩)) none (some (.int .i64 (Lib.nDigits u : Int))) none).run Tryz.prog W = .ok (.slice (some ⟨w.heap.size, 0, none⟩) (Lib.nDigits u) 24) W := fun W => by
      rw [run_sliceAt_array_h W 135 ⟨w.heap.size, 0, none⟩ (by simp [Program.arrayLen, Program.elem, Tryz.underlying135]) .i64 (Lib.nDigits u : Int) (by omega) (by rw [hal]; omega)]
      go_simp
    have hH0 := Lib.holds_zero0 w 135 (Lib.nDigits u) (by omega)
    have hfmt := Any.internal_strconv_formatBase10 { itoaLays with } w.heap.size 0 24 u (Array.replicate (Lib.nDigits u) 0) (w.alloc (.cells Lib.zeros24 135)) hH0 (by rw [Array.size_replicate]; exact Lib.lt_pow_nDigits u) hu64 (by rw [Array.size_replicate]; omega)
    rw [Array.size_replicate] at hfmt
    change Calls Tryz.prog 98 _ _ _ at hfmt
    have ND := Any.internal_strconv_numDigits { itoaLays with } u hu1 hu64 _ (Lib.tabIs_alloc htab (.cells Lib.zeros24 135))
    change Calls Tryz.prog 97 _ _ _ at ND
    have HH0 := Lib.hid hH0
    clear hH0 hal
    go_enter Tryz.func68, Tryz.ntmps68
    go_wp2_with (first
      | (go_at_fn 97; refine ND.mono ?_; rintro e w' ⟨rfl, rfl⟩))
    go_at_fn 98
    refine hfmt.mono ?_
    rintro e w' ⟨rfl, k, v', dk, rfl, hF⟩
    have hcv : (convert 38 9 (.slice (some ⟨w.heap.size, 0, none⟩) (Lib.nDigits u) 24)).run Tryz.prog ((putRow (fun (b : UInt8) => Value.int .u8 (b.toNat : Int)) (w.alloc (.cells Lib.zeros24 135)) w.heap.size 0 dk).drewN k) = .ok (.string ⟨(Lib.decDigits u).toArray⟩) ((putRow (fun (b : UInt8) => Value.int .u8 (b.toNat : Int)) (w.alloc (.cells Lib.zeros24 135)) w.heap.size 0 dk).drewN k) := by
      have h := run_convert_bytes_back (P := Tryz.prog) ((putRow (fun (b : UInt8) => Value.int .u8 (b.toNat : Int)) (w.alloc (.cells Lib.zeros24 135)) w.heap.size 0 dk).drewN k) 38 9 5 ⟨w.heap.size, 0, none⟩ 24 (Lib.decDigits u) Tryz.underlying38 Tryz.underlying5 Tryz.underlying9 (fun j hj => by
        rw [Lib.row_is_numeral hF j hj, Lib.add_plain, World.cell?_drewN]
        exact cell?_putRow (fun (b : UInt8) => Value.int .u8 (b.toNat : Int)) _ w.heap.size 0 _ dk HH0.out (by rw [hF.size, Array.size_replicate]) j (by rw [hF.size]; rw [Lib.decDigits_length] at hj; exact hj))
      rw [Lib.decDigits_length] at h
      exact h
    go_wp2
    go_ret
    obtain ⟨os, eo⟩ := Lib.fin_at w (.cells Lib.zeros24 135) dk k 0
    exact ⟨rfl, by rw [eo]; exact below_grown k os⟩
end Go.Proofs.YtjkefcikepnbpaaGreatDoor

namespace Go.Proofs.YtjkefcikepnbpaaGreatDoor
open Go Go.RowKit Go.Deep Go.Shelf

theorem tab10_below {w w' : World} (h : Tab10 w) (k : Below w.heap.size w w') : Tab10 w' := by
  unfold Tab10 Lib.TabIs World.var? at *
  cases hg : Tryz.prog.globalNamed "internal/strconv.uint64pow10" with
  | none => rw [hg] at h; simp at h
  | some g =>
    rw [hg] at h
    simp only [Option.bind_some] at h ⊢
    have hl : g < w.heap.size := by
      rcases Nat.lt_or_ge g w.heap.size with c | c
      · exact c
      · rw [Array.getElem?_eq_none c] at h; simp at h
    rw [k.block g hl]; exact h
theorem dl_dv (u : Nat) : Digs (Sc.dl u) ∧ Sc.dl u ≠ [] ∧ dv (Sc.dl u) = (u : Int) := by
  refine ⟨fun x hx => Sc.dg_iff.1 ((Sc.dl_is u).1 x hx), (Sc.dl_is u).2.1, ?_⟩
  induction u using Nat.strongRecOn with
  | _ u ih =>
    by_cases h : u < 10
    · rw [Sc.dl_small h, dv_cons]
      simp [show dv [] = 0 from rfl]
      omega
    · rw [Sc.dl_big h, Fx.dv_snoc, ih (u / 10) (by omega)]
      omega
theorem dl_len {u : Nat} (h : u < 18446744073709551616) : (Sc.dl u).length ≤ 21 := by
  unfold Sc.dl
  rw [List.length_map, Lib.decDigits_length]
  rcases Nat.eq_zero_or_pos u with c | c
  · rw [Lib.nDigits_small (by omega)]; omega
  · have := Lib.numDigits_eq u c h
    split at this <;> omega

set_option maxRecDepth 100000 in
theorem zfmt_any (u : Nat) (w : World) (hu64 : u < 18446744073709551616) (htab : Tab10 w) :
    Calls Tryz.prog 48 #[.int .u64 u, .int .i64 10] w fun e w' => ∃ s, e = .returned (.string s) ∧ Hid (Str s (Sc.dl u)) ∧ Below w.heap.size w w' := by
  have F := hid (zfmtI_any u w hu64 htab)
  have K : Hid (Str ⟨(Lib.decDigits u).toArray⟩ (Sc.dl u)) := rfl
  clear hu64 htab
  generalize (⟨(Lib.decDigits u).toArray⟩ : ByteArray) = s at *
  go_enter Tryz.func48, Tryz.ntmps48
  go_wp2_with fail
  refine F.out.mono ?_
  rintro e w' ⟨rfl, hB⟩
  have HB := hid hB
  clear hB F
  go_wp2_with fail
  go_ret
  exact ⟨s, rfl, K, HB.out⟩

theorem parseM {M : Nat} {L : Int} (hL : L = 1000000000000000000) (hM : 1000000000000000000 ≤ M) (l : List UInt8) : ∀ (acc : Nat), (∀ x ∈ l, 48 ≤ x.toNat ∧ x.toNat ≤ 57) → (acc : Int) * 10 ^ l.length + dv (l.map fun b => (b.toNat : Int)) < L →
    ∃ u : Nat, (u : Int) = (acc : Int) * 10 ^ l.length + dv (l.map fun b => (b.toNat : Int)) ∧ Lib.parseUintM M acc l = .ok u := by
  induction l with
  | nil => intro acc _ _; exact ⟨acc, by rw [List.map_nil, show dv [] = 0 from rfl]; simp, rfl⟩
  | cons c r ih =>
    intro acc h hb
    have hc := h c (by simp)
    have hr : ∀ x ∈ r, 48 ≤ x.toNat ∧ x.toNat ≤ 57 := fun x hx => h x (by simp [hx])
    have dg : Digs (r.map fun b => (b.toNat : Int)) := by
      intro d hd
      obtain ⟨x, hx, rfl⟩ := List.mem_map.1 hd
      have := hr x hx
      omega
    have nn := (dv_bd dg).1
    have e : (acc : Int) * 10 ^ (c :: r).length + dv ((c :: r).map fun b => (b.toNat : Int)) = ((acc * 10 + (c.toNat - 48) : Nat) : Int) * 10 ^ r.length + dv (r.map fun b => (b.toNat : Int)) := by
      rw [List.map_cons, dv_cons, List.length_map, List.length_cons, Int.pow_succ]
      have : ((acc * 10 + (c.toNat - 48) : Nat) : Int) = (acc : Int) * 10 + ((c.toNat : Int) - 48) := by omega
      rw [this, Int.add_mul, Int.mul_assoc, Int.mul_comm 10 ((10 : Int) ^ r.length)]
      omega
    rw [e] at hb ⊢
    have p1 : (1 : Int) ≤ 10 ^ r.length := Fx.p_pos _
    have hle : ((acc * 10 + (c.toNat - 48) : Nat) : Int) * 1 ≤ ((acc * 10 + (c.toNat - 48) : Nat) : Int) * 10 ^ r.length := Int.mul_le_mul_of_nonneg_left p1 (by omega)
    obtain ⟨u, h1, h2⟩ := ih (acc * 10 + (c.toNat - 48)) hr hb
    refine ⟨u, h1, ?_⟩
    have g1 : ¬ 1844674407370955162 ≤ acc := by omega
    have g2 : ¬ M < acc * 10 + (c.toNat - 48) := by omega
    rw [Lib.parseUintM, if_pos hc, if_neg g1, if_neg g2]
    exact h2

set_option maxRecDepth 100000 in
theorem zparse_any (s : ByteArray) (xs : List Int) (w : World) (hs : Str s xs) (hd : Digs xs) (hn : xs ≠ []) (hb : dv xs < 1000000000000000000) (hl : xs.length ≤ 100000) :
    Calls Tryz.prog 46 #[.string s, .int .i64 10, .int .i64 64] w fun e w' => e = .returned (.tuple #[.int .u64 (dv xs), .nilIface]) ∧ Below w.heap.size w w' := by
  have hz := hs.size
  have hs' : s.data.toList.map (fun b => (b.toNat : Int)) = xs := hs
  have hall : ∀ x ∈ s.data.toList, 48 ≤ x.toNat ∧ x.toNat ≤ 57 := by
    intro x hx
    have := hd (x.toNat : Int) (by rw [← hs']; exact List.mem_map.2 ⟨x, hx, rfl⟩)
    omega
  obtain ⟨u, hu, hp⟩ := parseM (M := 2 ^ 64 - 1) rfl (by decide) s.data.toList 0 hall (by rw [hs']; simpa using hb)
  rw [hs'] at hu
  have hu2 : (dv xs).toNat = u := by simp at hu; omega
  have hP : Lib.parseUintB 64 s.data.toList = .ok (dv xs).toNat := by
    rw [Lib.parseUintB, if_neg (fun c => by rw [c] at hs'; exact hn hs'.symm), hp, hu2]
  have h := Any.strconv_ParseUint_10_at64_ok puLays s (by omega) (dv xs).toNat hP w
  change Calls Tryz.prog 46 _ _ _ at h
  have nn := (dv_bd hd).1
  rw [show (((dv xs).toNat : Nat) : Int) = dv xs by omega] at h
  refine h.mono ?_
  rintro e w' ⟨rfl, h | h⟩
  · exact ⟨rfl, by rw [h]; exact Below.refl _ _⟩
  · exact ⟨rfl, by rw [h]; exact Lib.bytesWorld_below w _ s⟩
end Go.Proofs.YtjkefcikepnbpaaGreatDoor

namespace Go.Proofs.YtjkefcikepnbpaaGreatDoor
open Go Go.RowKit Go.Deep

theorem gt53 {t : ByteArray} {L : List Int} (h : Str t L) (hn : L ≠ []) : (!(Op.bytesLess t.toList [53] || t.toList == [53])) = Sh.gt5 L ∧ (t.toList == [53]) = decide (L = [53]) := by
  have h' : t.toList.map (fun b => (b.toNat : Int)) = L := by rw [ByteArray.toList_eq]; exact h
  generalize t.toList = bs at h' ⊢
  match bs with
  | [] => exact absurd h'.symm hn
  | b :: r =>
    subst h'
    have e1 : (b = 53) ↔ ((b.toNat : Int) = 53) := by
      constructor
      · intro c; rw [c]; rfl
      · intro c; apply UInt8.toNat_inj.1; have : b.toNat = 53 := by omega
        rw [this]; rfl
    have e2 : b < 53 ↔ ((b.toNat : Int) < 53) := by
      rw [UInt8.lt_iff_toNat_lt]
      have : (53 : UInt8).toNat = 53 := rfl
      omega
    have bl : ∀ l : List UInt8, Op.bytesLess l [] = false := by intro l; cases l <;> rfl
    have ee : (((b :: r).map fun b => (b.toNat : Int)) = [53]) ↔ (b :: r = [53]) := by
      constructor
      · intro c
        have h1 := (List.cons.inj c).1
        have h2 := (List.cons.inj c).2
        rw [e1.2 h1, List.map_eq_nil_iff.1 h2]
      · intro c; rw [c]; rfl
    have gg : Sh.gt5 ((b :: r).map fun b => (b.toNat : Int)) = decide (53 < (b.toNat : Int) ∨ ((b.toNat : Int) = 53 ∧ r ≠ [])) := by
      unfold Sh.gt5
      rw [List.map_cons, List.length_cons, List.length_map]
      congr 1
      have : r ≠ [] ↔ 1 < r.length + 1 := by rw [← List.length_pos_iff]; omega
      rw [this]
      rfl
    have ll : Op.bytesLess (b :: r) [53] = decide (b < 53) := by
      show (decide (b < 53) || (b == 53 && Op.bytesLess r [])) = _
      rw [bl, Bool.and_false, Bool.or_false]
    constructor
    · rw [gg, ll, Bool.eq_iff_iff]
      have k : ((b :: r) == [53]) = decide (b :: r = [53]) := by
        rw [Bool.eq_iff_iff]; simp
      rw [k]
      by_cases c1 : b < 53
      · have := e2.1 c1
        simp [c1]
        omega
      · have n1 : ¬ ((b.toNat : Int) < 53) := fun q => c1 (e2.2 q)
        by_cases c2 : b = 53
        · have := e1.1 c2
          simp [c2]
        · have n2 : ¬ ((b.toNat : Int) = 53) := fun q => c2 (e1.2 q)
          simp [c1, c2]
          omega
    · rw [Bool.eq_iff_iff, decide_eq_true_iff, ee]
      simp
end Go.Proofs.YtjkefcikepnbpaaGreatDoor

namespace Go.Proofs.YtjkefcikepnbpaaGreatDoor
open Go.RowKit Go.Deep
namespace Sh

theorem dg_at : ∀ (n : Nat) (T : Int) (i : Nat), i < n → (Dn.dg 10 n T).getD i 0 = T / 10 ^ (n - 1 - i) % 10
  | 0, T, i, h => by omega
  | n + 1, T, i, h => by
    rw [Dn.dg_head (by omega)]
    cases i with
    | zero => simp
    | succ i =>
      have := dg_at n (T % 10 ^ n) i (by omega)
      simp only [List.getD_cons_succ]
      rw [this, show n + 1 - 1 - (i + 1) = n - 1 - i by omega]
      obtain ⟨k, hk⟩ : ∃ k, n = (n - 1 - i) + (k + 1) := ⟨i, by omega⟩
      generalize n - 1 - i = j at *
      subst hk
      have p1 := Fx.p_pos j
      have p2 := Fx.p_pos k
      have h1 := Int.emod_add_mul_ediv T (10 ^ (j + (k + 1)))
      generalize T % 10 ^ (j + (k + 1)) = r at *
      generalize T / 10 ^ (j + (k + 1)) = q at *
      rw [← h1, Int.pow_add, Int.pow_succ, show (10 : Int) ^ j * (10 ^ k * 10) * q = 10 ^ j * (10 ^ k * q * 10) by ac_rfl, Int.add_mul_ediv_left _ _ (by omega)]
      omega
theorem dg_len (n : Nat) (T : Int) : (Dn.dg 10 n T).length = n := Dn.dg_length 10 n T
theorem dg_bd (n : Nat) (T : Int) (i : Nat) (h : i < n) : 0 ≤ (Dn.dg 10 n T).getD i 0 ∧ (Dn.dg 10 n T).getD i 0 < 10 := by rw [dg_at n T i h]; omega

/-- One place of a difference. -/
theorem sub_step {X Y P b x y : Int} (hP : 0 < P) (hb : b = if X % P < Y % P then 1 else 0) (hx : x = X / P % 10) (hy : y = Y / P % 10) :
    (x < y + b → x + 10 - (y + b) = (X - Y) / P % 10 ∧ X % (P * 10) < Y % (P * 10)) ∧ (y + b ≤ x → x - (y + b) = (X - Y) / P % 10 ∧ ¬ X % (P * 10) < Y % (P * 10)) := by
  obtain ⟨d1, d2, d3⟩ := divS (U := X) hP
  obtain ⟨e1, e2, e3⟩ := divS (U := Y) hP
  have m1 : X % (P * 10) = X % P + P * (X / P % 10) := by
    have h1 := Int.mul_ediv_add_emod (X / P) 10
    have e : X = P * 10 * (X / P / 10) + (X % P + P * (X / P % 10)) := by
      have : P * 10 * (X / P / 10) + (X % P + P * (X / P % 10)) = P * (10 * (X / P / 10) + X / P % 10) + X % P := by rw [Int.mul_add, Int.mul_assoc]; omega
      rw [this, h1, Int.mul_comm]
      exact d1
    have q1 := Int.emod_nonneg (X / P) (show (10 : Int) ≠ 0 by decide)
    have q2 := Int.emod_lt_of_pos (X / P) (show (0 : Int) < 10 by decide)
    have q3 : P * (X / P % 10) ≤ P * 9 := Int.mul_le_mul_of_nonneg_left (by omega) (by omega)
    have q4 : 0 ≤ P * (X / P % 10) := Int.mul_nonneg (by omega) q1
    conv => lhs; rw [e]
    rw [Int.add_comm, Int.add_mul_emod_self_left]
    exact Int.emod_eq_of_lt (by omega) (by omega)
  have m2 : Y % (P * 10) = Y % P + P * (Y / P % 10) := by
    have h1 := Int.mul_ediv_add_emod (Y / P) 10
    have e : Y = P * 10 * (Y / P / 10) + (Y % P + P * (Y / P % 10)) := by
      have : P * 10 * (Y / P / 10) + (Y % P + P * (Y / P % 10)) = P * (10 * (Y / P / 10) + Y / P % 10) + Y % P := by rw [Int.mul_add, Int.mul_assoc]; omega
      rw [this, h1, Int.mul_comm]
      exact e1
    have q1 := Int.emod_nonneg (Y / P) (show (10 : Int) ≠ 0 by decide)
    have q2 := Int.emod_lt_of_pos (Y / P) (show (0 : Int) < 10 by decide)
    have q3 : P * (Y / P % 10) ≤ P * 9 := Int.mul_le_mul_of_nonneg_left (by omega) (by omega)
    have q4 : 0 ≤ P * (Y / P % 10) := Int.mul_nonneg (by omega) q1
    conv => lhs; rw [e]
    rw [Int.add_comm, Int.add_mul_emod_self_left]
    exact Int.emod_eq_of_lt (by omega) (by omega)
  have dq : (X - Y) / P = X / P - Y / P - b := by
    have e : X - Y = (X % P - Y % P + b * P) + (X / P - Y / P - b) * P := by rw [Int.sub_mul, Int.sub_mul]; omega
    rw [e, Int.add_mul_ediv_right _ _ (by omega)]
    have : (X % P - Y % P + b * P) / P = 0 := by
      apply Int.ediv_eq_zero_of_lt
      · rw [hb]; split <;> omega
      · rw [hb]; split <;> omega
    omega
  rw [m1, m2, ← hx, ← hy, dq]
  have bb : b = 0 ∨ b = 1 := by rw [hb]; split <;> omega
  have bx : x % 10 = x ∧ y % 10 = y := by omega
  have xy : (X / P - Y / P - b) % 10 = (x - y - b) % 10 := by omega
  have key : ∀ z : Int, z = x - y → P * x = P * y + P * z := fun z h => by rw [← Int.mul_add]; congr 1; omega
  have k1 := key (x - y) rfl
  have hbi : (X % P < Y % P ∧ b = 1) ∨ (¬ X % P < Y % P ∧ b = 0) := by
    rw [hb]; split
    · rename_i h; exact .inl ⟨h, rfl⟩
    · rename_i h; exact .inr ⟨h, rfl⟩
  constructor
  · intro h
    refine ⟨by omega, ?_⟩
    rcases (show x - y ≤ -1 ∨ x - y = 0 by omega) with c | c
    · have := Int.mul_le_mul_of_nonneg_left c (Int.le_of_lt hP)
      omega
    · rw [c, Int.mul_zero] at k1
      omega
  · intro h
    refine ⟨by omega, ?_⟩
    rcases (show 1 ≤ x - y ∨ x - y = 0 by omega) with c | c
    · have := Int.mul_le_mul_of_nonneg_left c (Int.le_of_lt hP)
      omega
    · rw [c, Int.mul_zero] at k1
      omega

/-- The row behind k places: the head as it was, the tail the difference's. -/
theorem dg_cut (k m : Nat) (X : Int) : Dn.dg 10 (m + k) X = Dn.dg 10 m (X / 10 ^ k) ++ Dn.dg 10 k X := by rw [Dn.dg_split (by omega), Dn.dg_mod (by omega)]
theorem dg_set (k m : Nat) (X W : Int) (z : Int) (hz : z = W / 10 ^ k % 10) : (Dn.dg 10 (m + 1) (X / 10 ^ k) ++ Dn.dg 10 k W).set m z = Dn.dg 10 m (X / 10 ^ (k + 1)) ++ Dn.dg 10 (k + 1) W := by
  have e1 : Dn.dg 10 (m + 1) (X / 10 ^ k) = Dn.dg 10 m (X / 10 ^ (k + 1)) ++ [X / 10 ^ k % 10] := by
    rw [dg_cut 1 m, Dn.dg_one, Int.pow_one, Int.ediv_ediv_of_nonneg (Int.le_of_lt (Fx.p_pos k)), ← Int.pow_succ]
  have e2 : Dn.dg 10 (k + 1) W = [W / 10 ^ k % 10] ++ Dn.dg 10 k W := by
    rw [Nat.add_comm k 1, dg_cut k 1, Dn.dg_one]
  rw [e1, e2, List.append_assoc, List.set_append_right _ _ (by rw [dg_len]; omega), dg_len, Nat.sub_self, hz]
  rfl

/-- A row's digit at a place. -/
theorem place_dig {n t j : Nat} {T : Int} (h0 : 0 ≤ T) (h1 : T < 10 ^ n) : (t ≤ j → j < t + n → (Dn.dg 10 n T).getD (n - 1 - (j - t)) 0 = T * 10 ^ t / 10 ^ j % 10) ∧ (¬ (t ≤ j ∧ j < t + n) → T * 10 ^ t / 10 ^ j % 10 = 0) := by
  have pt := Fx.p_pos t
  constructor
  · intro a b
    rw [dg_at n T _ (by omega), show n - 1 - (n - 1 - (j - t)) = j - t by omega]
    obtain ⟨k, rfl⟩ : ∃ k, j = t + k := ⟨j - t, by omega⟩
    rw [Nat.add_sub_cancel_left, Int.pow_add, Int.mul_comm T, Int.mul_ediv_mul_of_pos _ _ pt]
  · intro c
    rcases (show j < t ∨ t + n ≤ j by omega) with g | g
    · obtain ⟨k, rfl⟩ : ∃ k, t = j + (k + 1) := ⟨t - j - 1, by omega⟩
      rw [Int.pow_add, show T * (10 ^ j * 10 ^ (k + 1)) = 10 ^ j * (T * 10 ^ (k + 1)) by ac_rfl, Int.mul_ediv_cancel_left _ (by have := Fx.p_pos j; omega), Int.pow_succ, ← Int.mul_assoc]
      omega
    · have : T * 10 ^ t / 10 ^ j = 0 := by
        apply Int.ediv_eq_zero_of_lt (Int.mul_nonneg h0 (Int.le_of_lt pt))
        refine Int.lt_of_lt_of_le (Int.mul_lt_mul_of_pos_right h1 pt) ?_
        rw [← Int.pow_add]
        exact Fx.p_le (by omega)
      rw [this]
      rfl
theorem cmp_dig {A B : Int} {j : Nat} (h : A / 10 ^ (j + 1) = B / 10 ^ (j + 1)) : (A / 10 ^ j % 10 < B / 10 ^ j % 10 → A < B) ∧ (B / 10 ^ j % 10 < A / 10 ^ j % 10 → B < A) ∧ (A / 10 ^ j % 10 = B / 10 ^ j % 10 → A / 10 ^ j = B / 10 ^ j) := by
  have p := Fx.p_pos j
  rw [Int.pow_succ, ← Int.ediv_ediv_of_nonneg (Int.le_of_lt p), ← Int.ediv_ediv_of_nonneg (Int.le_of_lt p)] at h
  have a := Int.mul_ediv_add_emod (A / 10 ^ j) 10
  have b := Int.mul_ediv_add_emod (B / 10 ^ j) 10
  have lt : ∀ U W : Int, U / 10 ^ j < W / 10 ^ j → U < W := by
    intro U W g
    rcases (show U < W ∨ W ≤ U by omega) with c | c
    · exact c
    · have := Int.ediv_le_ediv p c
      omega
  refine ⟨fun g => lt _ _ (by omega), fun g => lt _ _ (by omega), fun g => by omega⟩
end Sh
end Go.Proofs.YtjkefcikepnbpaaGreatDoor

namespace Go.Proofs.YtjkefcikepnbpaaGreatDoor
open Go Go.RowKit Go.Deep
namespace Sh

/-- A row's bytes. -/
def rb (n : Nat) (T : Int) : List UInt8 := (Dn.dg 10 n T).map fun d => UInt8.ofNat d.toNat
theorem rb_len (n : Nat) (T : Int) : (rb n T).length = n := by simp [rb, dg_len]
theorem rb_cons (n : Nat) (T : Int) : rb (n + 1) T = UInt8.ofNat (T / 10 ^ n % 10).toNat :: rb n (T % 10 ^ n) := by
  unfold rb
  rw [Dn.dg_head (by omega), List.map_cons]
theorem of_lt {a b : Int} (ha : 0 ≤ a ∧ a < 10) (hb : 0 ≤ b ∧ b < 10) : (UInt8.ofNat a.toNat < UInt8.ofNat b.toNat ↔ a < b) ∧ (UInt8.ofNat a.toNat = UInt8.ofNat b.toNat ↔ a = b) := by
  have e1 : (UInt8.ofNat a.toNat).toNat = a.toNat := UInt8.toNat_ofNat_of_lt' (by show a.toNat < 256; omega)
  have e2 : (UInt8.ofNat b.toNat).toNat = b.toNat := UInt8.toNat_ofNat_of_lt' (by show b.toNat < 256; omega)
  constructor
  · rw [UInt8.lt_iff_toNat_lt, e1, e2]; omega
  · rw [← UInt8.toNat_inj, e1, e2]; omega
theorem rb_less : ∀ (n : Nat) (X Y : Int), 0 ≤ X → X < 10 ^ n → 0 ≤ Y → Y < 10 ^ n → Op.bytesLess (rb n X) (rb n Y) = decide (X < Y)
  | 0, X, Y, x0, x1, y0, y1 => by
    rw [Int.pow_zero] at x1 y1
    have : ¬ X < Y := by omega
    rw [decide_eq_false this]
    rfl
  | n + 1, X, Y, x0, x1, y0, y1 => by
    rw [rb_cons, rb_cons]
    have p := Fx.p_pos n
    obtain ⟨a1, a2, a3⟩ := divS (U := X) p
    obtain ⟨b1, b2, b3⟩ := divS (U := Y) p
    have ih := rb_less n (X % 10 ^ n) (Y % 10 ^ n) a2 a3 b2 b3
    rw [Int.pow_succ] at x1 y1
    have qa : 0 ≤ X / 10 ^ n ∧ X / 10 ^ n < 10 := ⟨Int.ediv_nonneg x0 (Int.le_of_lt p), (Int.ediv_lt_iff_lt_mul p).2 (by rw [Int.mul_comm]; exact x1)⟩
    have qb : 0 ≤ Y / 10 ^ n ∧ Y / 10 ^ n < 10 := ⟨Int.ediv_nonneg y0 (Int.le_of_lt p), (Int.ediv_lt_iff_lt_mul p).2 (by rw [Int.mul_comm]; exact y1)⟩
    have ma : X / 10 ^ n % 10 = X / 10 ^ n := by omega
    have mb : Y / 10 ^ n % 10 = Y / 10 ^ n := by omega
    rw [ma, mb]
    obtain ⟨l1, l2⟩ := of_lt qa qb
    show (decide _ || (_ == _ && Op.bytesLess _ _)) = _
    rw [ih, Bool.eq_iff_iff]
    have beq : ((UInt8.ofNat (X / 10 ^ n).toNat == UInt8.ofNat (Y / 10 ^ n).toNat) = true) ↔ X / 10 ^ n = Y / 10 ^ n := by rw [beq_iff_eq]; exact l2
    rw [Bool.or_eq_true, Bool.and_eq_true, decide_eq_true_iff, decide_eq_true_iff, decide_eq_true_iff, beq, l1]
    rcases Int.lt_trichotomy (X / 10 ^ n) (Y / 10 ^ n) with c | c | c
    · have := Int.mul_le_mul_of_nonneg_right (show X / 10 ^ n + 1 ≤ Y / 10 ^ n by omega) (Int.le_of_lt p)
      rw [Int.add_mul, Int.one_mul] at this
      constructor
      · intro _; omega
      · intro _; exact .inl c
    · rw [c] at a1
      constructor
      · rintro (q | ⟨_, q⟩)
        · omega
        · omega
      · intro q; exact .inr ⟨c, by omega⟩
    · have := Int.mul_le_mul_of_nonneg_right (show Y / 10 ^ n + 1 ≤ X / 10 ^ n by omega) (Int.le_of_lt p)
      rw [Int.add_mul, Int.one_mul] at this
      constructor
      · rintro (q | ⟨q, _⟩) <;> omega
      · intro q; omega
end Sh
end Go.Proofs.YtjkefcikepnbpaaGreatDoor

namespace Go.Proofs.YtjkefcikepnbpaaGreatDoor
open Go Go.RowKit Go.Deep

set_option maxRecDepth 100000 in
theorem lfinite_any (d : Int) (w : World) (h0 : 0 ≤ d) :
    Calls Tryz.prog 9 #[.int .u64 d] w fun e w' => e = .returned (.bool (decide (d % 9223372036854775808 < 9218868437227405312))) ∧ w' = w := by
  have E : d.tmod 9223372036854775808 = d % 9223372036854775808 := Int.tmod_eq_emod_of_nonneg h0
  go_enter Tryz.func9, Tryz.ntmps9
  go_wp2_with fail
  go_ret
  exact ⟨by first | rfl | rw [E], rfl⟩

end Go.Proofs.YtjkefcikepnbpaaGreatDoor

namespace Go.Proofs.YtjkefcikepnbpaaGreatDoor
open Go.RowKit Go.Deep
namespace Sh
theorem few {a c : Int} {m s : Nat} (ha : 0 < a) (hm : 1 ≤ m) (hcm : c < 10 ^ m) (hi : inB a (c * 10 ^ s) = true) : (wn a m).isSome = true := by
  rcases Nat.lt_or_ge m (ln (V a)) with hl | hl
  · obtain ⟨p1, p2, p3⟩ := place (V_pos ha)
    have kr := k_room ha hm hl
    have e0 := kr.2.2.2.1
    have q0 := kr.2.2.2.2
    rcases Nat.lt_or_ge s (pl (V a) - m + 1075).toNat with h | h
    · refine wn_of (k := 10 ^ (m - 1)) ha ?_
      have e1 : (10 : Int) ^ (m - 1) * st (V a) m = 10 ^ (pl (V a) + 1074).toNat := by
        rw [e0, ← Int.pow_add]; congr 1; omega
      rw [e1]
      refine inB_dn hi p1 ?_
      have h1 : c * 10 ^ s < 10 ^ m * 10 ^ s := Int.mul_lt_mul_of_pos_right hcm (Fx.p_pos s)
      rw [← Int.pow_add] at h1
      exact Int.le_trans (Int.le_of_lt h1) (Fx.p_le (by omega))
    · refine wn_of (k := c * 10 ^ (s - (pl (V a) - m + 1075).toNat)) ha ?_
      rw [e0, Int.mul_assoc, ← Int.pow_add, show s - (pl (V a) - m + 1075).toNat + (pl (V a) - m + 1075).toNat = s by omega]
      exact hi
  · unfold wn
    rw [if_pos hl]
    rfl
end Sh
end Go.Proofs.YtjkefcikepnbpaaGreatDoor

namespace Go.Proofs.YtjkefcikepnbpaaGreatDoor
open Go.RowKit Go.Deep
namespace Sh

theorem near_mul {U S q r m : Int} (hS : 0 < S) (hU : U = q * S + r) : (m ≤ q → r ≤ U - m * S) ∧ (q + 1 ≤ m → S - r ≤ m * S - U) := by
  constructor
  · intro h
    have := Int.mul_le_mul_of_nonneg_right h (Int.le_of_lt hS)
    omega
  · intro h
    have := Int.mul_le_mul_of_nonneg_right h (Int.le_of_lt hS)
    rw [Int.add_mul, Int.one_mul] at this
    omega

/-- With one figure more it lies no further away. -/
theorem wn_gap {a : Int} {n : Nat} {U W : Int} (ha : 0 < a) (h : wn a n = some U) (k : wn a (n + 1) = some W) : (W - V a).natAbs ≤ (U - V a).natAbs := by
  rcases Nat.lt_or_ge (n + 1) (ln (V a)) with hl | hl
  · have iU := wn_in (Int.le_of_lt ha) h
    have Vn := V_nn (Int.le_of_lt ha)
    have hs := st_succ Vn (show n < ln (V a) by omega)
    have sp := st_pos (V a) (n + 1)
    obtain ⟨hV, r0, r1⟩ := divS (U := V a) sp
    have hU : ∃ m : Int, U = m * st (V a) (n + 1) := by
      have mul : ∀ c : Int, c * st (V a) n = (c * 10) * st (V a) (n + 1) := fun c => by rw [hs, ← Int.mul_assoc]
      unfold wn at h
      rw [if_neg (by omega)] at h
      split at h
      · exact ⟨_, by rw [← Option.some.inj h]; exact mul _⟩
      · split at h
        · exact ⟨_, by rw [← Option.some.inj h]; exact mul _⟩
        · exact absurd h (by simp)
    obtain ⟨m, hm⟩ := hU
    have kf : (upB (V a) (st (V a) (n + 1)) = true → st (V a) (n + 1) ≤ 2 * (V a % st (V a) (n + 1))) ∧ (upB (V a) (st (V a) (n + 1)) = false → 2 * (V a % st (V a) (n + 1)) ≤ st (V a) (n + 1)) := by
      unfold upB
      constructor
      · intro z
        have := of_decide_eq_true z
        omega
      · intro z
        have := of_decide_eq_false z
        omega
    unfold wn at k
    rw [if_neg (by omega)] at k
    unfold k1 k2 at k
    generalize st (V a) (n + 1) = S at *
    have NM := near_mul (m := m) sp hV
    generalize hq : V a / S = q at *
    generalize hr : V a % S = r at *
    have e1 : (q + 1) * S = q * S + S := by rw [Int.add_mul, Int.one_mul]
    cases hu : upB (V a) S with
    | true =>
      rw [hu] at k
      simp only [if_true] at k
      have ks := kf.1 hu
      split at k
      · rw [← Option.some.inj k, hm]
        rcases (show m ≤ q ∨ q + 1 ≤ m by omega) with c | c
        · have := NM.1 c; omega
        · have := NM.2 c; omega
      · split at k
        · rename_i g1 g2
          rw [← Option.some.inj k, hm]
          rcases (show m ≤ q ∨ q + 1 ≤ m by omega) with c | c
          · have := NM.1 c; omega
          · have z := NM.2 c
            exact absurd (inB_up iU (by omega) (by rw [hm]; omega) ha) g1
        · exact absurd k (by simp)
    | false =>
      rw [hu] at k
      simp only [Bool.false_eq_true, if_false] at k
      have ks := kf.2 hu
      split at k
      · rw [← Option.some.inj k, hm]
        rcases (show m ≤ q ∨ q + 1 ≤ m by omega) with c | c
        · have := NM.1 c; omega
        · have := NM.2 c; omega
      · split at k
        · rename_i g1 g2
          rw [← Option.some.inj k, hm]
          rcases (show m ≤ q ∨ q + 1 ≤ m by omega) with c | c
          · have z := NM.1 c
            exact absurd (inB_dn iU (by omega) (by rw [hm]; omega)) g1
          · have := NM.2 c; omega
        · exact absurd k (by simp)
  · unfold wn at k
    rw [if_pos hl] at k
    rw [← Option.some.inj k]
    simp

/-- The shortest digits are just as many as are needed. -/
theorem dgt_len {a : Int} (ha : 0 ≤ a) : (dd (dgt a)).ds.length = n0 a + 1 := by
  rcases (show a = 0 ∨ 0 < a by omega) with c | c
  · have z : n0 a = 0 := by
      have i := n0_is a
      rcases Nat.eq_zero_or_pos (n0 a) with q | q
      · exact q
      · have := i.2.1 0 q
        rw [c, wn_zero (by omega)] at this
        exact absurd this (by simp)
    rw [z, c, dgt_zero, dd_zero]
    rfl
  · have w := wn_dgt ha
    have r := wn_room c (by omega) w
    have up := wn_pos c w
    have o := dd_is (Int.le_of_lt up)
    have lp := List.length_pos_iff.2 r.1.ne
    rcases Nat.lt_or_ge (dd (dgt a)).ds.length (n0 a + 1) with l | l
    · exfalso
      have b := dv_bd r.1.digs
      have inb := wn_in ha w
      have e : dv (dd (dgt a)).ds * 10 ^ ((dd (dgt a)).e + 1075).toNat = dgt a := o.2
      rw [← e] at inb
      have f := few (m := (dd (dgt a)).ds.length) c (by omega) b.2 inb
      have i := (n0_is a).2.1 ((dd (dgt a)).ds.length - 1) (by omega)
      rw [show (dd (dgt a)).ds.length - 1 + 1 = (dd (dgt a)).ds.length by omega, f] at i
      exact absurd i (by simp)
    · omega

theorem wn_from {a : Int} {n : Nat} (ha : 0 ≤ a) (hn : n0 a + 1 ≤ n) : (wn a n).isSome = true := by
  have key : ∀ k : Nat, (wn a (n0 a + 1 + k)).isSome = true := by
    intro k
    induction k with
    | zero => rw [Nat.add_zero, wn_dgt ha]; rfl
    | succ k ih => exact wn_mono ha ih
  have := key (n - (n0 a + 1))
  rwa [show n0 a + 1 + (n - (n0 a + 1)) = n by omega] at this
theorem wn_below {a : Int} {n : Nat} (hn : 1 ≤ n) (h : n < n0 a + 1) : wn a n = none := by
  have i := (n0_is a).2.1 (n - 1) (by omega)
  rw [show n - 1 + 1 = n by omega] at i
  cases c : wn a n with
  | none => rfl
  | some U => rw [c] at i; exact absurd i (by simp)
end Sh
end Go.Proofs.YtjkefcikepnbpaaGreatDoor

namespace Go.Proofs.YtjkefcikepnbpaaGreatDoor
open Go.RowKit Go.Deep
namespace Sh

/-- A decimal's number in units of 10^-K. -/
def uk (K : Nat) (d : Sc.D) : Int := dv d.ds * 10 ^ (d.e + K).toNat
/-- A normal decimal above nothing. -/
structure Pk (K : Nat) (d : Sc.D) : Prop where
  neg : d.neg = false
  lo : -(K : Int) ≤ d.e
  nml : Fx.Nml d.ds
theorem Pk.pos {K : Nat} {d : Sc.D} (h : Pk K d) : 0 < uk K d := Int.mul_pos (nml_pos h.nml) (Fx.p_pos _)
theorem uk_place {K : Nat} {d : Sc.D} (h : Pk K d) : 10 ^ (Sc.pl d + K - 1).toNat ≤ uk K d ∧ uk K d < 10 ^ (Sc.pl d + K).toNat := by
  obtain ⟨n, hn⟩ := h.nml.len
  have b1 := Fx.head_low h.nml.digs hn h.nml.head
  have b2 := (dv_bd h.nml.digs).2
  have p := Fx.p_pos (d.e + K).toNat
  have lo := h.lo
  unfold Sc.pl uk
  rw [hn] at b2 ⊢
  constructor
  · rw [show (d.e + ((n + 1 : Nat) : Int) + K - 1).toNat = n + (d.e + K).toNat by omega, Int.pow_add]
    exact Int.mul_le_mul_of_nonneg_right b1 (Int.le_of_lt p)
  · rw [show (d.e + ((n + 1 : Nat) : Int) + K).toNat = (n + 1) + (d.e + K).toNat by omega, Int.pow_add]
    exact Int.mul_lt_mul_of_pos_right b2 p
theorem mck_le {K : Nat} {a b : Sc.D} (ha : Pk K a) (hb : Pk K b) (h : Sc.mc a b ≤ 0) : uk K a ≤ uk K b := by
  have la := ha.lo
  have lb := hb.lo
  unfold Sc.mc at h
  split at h
  · rename_i hp
    have hl : Sc.pl a < Sc.pl b := by rcases Sc.cmpI_c (Sc.pl a) (Sc.pl b) with k | k | k <;> omega
    have h1 := (uk_place ha).2
    have h2 := (uk_place hb).1
    have h3 := Fx.p_le (show (Sc.pl a + K).toNat ≤ (Sc.pl b + K - 1).toNat by omega)
    omega
  · rename_i hp
    have hl : Sc.pl a = Sc.pl b := by omega
    unfold Sc.pl at hl
    obtain ⟨M, hM⟩ : ∃ M, M = max a.ds.length b.ds.length := ⟨_, rfl⟩
    have := lex_le a.ds b.ds M ha.nml.digs hb.nml.digs (by omega) (by omega) h
    unfold uk
    obtain ⟨s, hs⟩ : ∃ s, (a.e + K).toNat = M - a.ds.length + s := ⟨(a.e + K).toNat - (M - a.ds.length), by omega⟩
    have hs2 : (b.e + K).toNat = M - b.ds.length + s := by omega
    rw [hs, hs2, Int.pow_add, Int.pow_add, ← Int.mul_assoc, ← Int.mul_assoc]
    exact Int.mul_le_mul_of_nonneg_right this (Int.le_of_lt (Fx.p_pos _))
theorem Pk.inj {K : Nat} {a b : Sc.D} (ha : Pk K a) (hb : Pk K b) (h : uk K a = uk K b) : Sc.mc a b = 0 := by
  obtain ⟨e1, e2⟩ := Fx.nml_one ha.nml hb.nml h
  have l1 := ha.lo
  have l2 := hb.lo
  exact (Sc.mc_zero a b).2 ⟨e1, by omega⟩
theorem cmpk {K : Nat} {a b : Sc.D} (ha : Pk K a) (hb : Pk K b) : Sc.cmpD a b = Sc.cmpI (uk K a) (uk K b) := by
  have sg : ∀ d : Sc.D, Pk K d → Sc.sgn d = 1 := fun d h => by rw [Sc.sgn, if_neg (nml_ne h.nml), h.neg]; rfl
  unfold Sc.cmpD
  rw [sg a ha, sg b hb, if_neg (by omega), ha.neg, if_neg Bool.false_ne_true]
  have l1 := mck_le ha hb
  have l2 := mck_le hb ha
  have an := Sc.mc_anti a b
  have eq := ha.inj hb
  have eq2 : Sc.mc a b = 0 → uk K a = uk K b := fun c => by have := l1 (by omega); have := l2 (by omega); omega
  rcases Sc.mc_b a b with c | c | c <;> rcases Sc.cmpI_c (uk K a) (uk K b) with k | k | k <;> omega
end Sh
end Go.Proofs.YtjkefcikepnbpaaGreatDoor
