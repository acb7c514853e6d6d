/-
  Texts put together: LNum4, LExact, IWalk1A, IOrdD, IUp, IDown, IWalk1, LHalf, TrailW, MSt.
-/
import Derived.Test.YtbmlkfkhmaahnaaGreatDoorRC
import Derived.Test.YtbmlkfkhmaahnaaGreatDoorRB
import Derived.Test.YtbmlkfkhmaahnaaGreatDoorFRow3
import Derived.Test.YtbmlkfkhmaahnaaGreatDoorIWalk1C
import Derived.Test.YtbmlkfkhmaahnaaGreatDoorIWalk1B
import Derived.Deep.RegionHeld3
import Derived.Test.YtbmlkfkhmaahnaaGreatDoorBlenIs
import Derived.Shelf.Spec.TrailingZeros
import Derived.Laws.Bits64b
import Derived.Lib.ItoaNum
import Derived.Test.YtbmlkfkhmaahnaaGreatDoorXMem
namespace Go.Proofs.YtbmlkfkhmaahnaaGreatDoor
open Go.RowKit Go.Deep
namespace Sh

/-- One less than the least number of figures. -/
def IsN (a : Int) (f : Nat) : Prop := f ≤ 16 ∧ (∀ i, i < f → (wn a (i + 1)).isSome = false) ∧ (f < 16 → (wn a (f + 1)).isSome = true)
theorem isn_ex (a : Int) : ∃ f, IsN a f := by
  have key : ∀ k, k ≤ 16 → (∃ f, IsN a f) ∨ (∀ i, i < k → (wn a (i + 1)).isSome = false) := by
    intro k
    induction k with
    | zero => intro _; exact .inr fun i h => by omega
    | succ k ih =>
      intro hk
      rcases ih (by omega) with c | c
      · exact .inl c
      · cases h : (wn a (k + 1)).isSome with
        | true => exact .inl ⟨k, by omega, c, fun _ => h⟩
        | false =>
          refine .inr fun i hi => ?_
          rcases (show i < k ∨ i = k by omega) with q | q
          · exact c i q
          · rw [q]; exact h
  rcases key 16 (by omega) with c | c
  · exact c
  · exact ⟨16, by omega, c, fun h => by omega⟩
theorem IsN.one {a : Int} {f g : Nat} (h : IsN a f) (k : IsN a g) : f = g := by
  rcases Nat.lt_trichotomy f g with c | c | c
  · have h1 := h.2.2 (by have := k.1; omega)
    rw [k.2.1 f c] at h1
    exact absurd h1 (by decide)
  · exact c
  · have h1 := k.2.2 (by have := h.1; omega)
    rw [h.2.1 g c] at h1
    exact absurd h1 (by decide)
noncomputable def n0 (a : Int) : Nat := Classical.choose (isn_ex a)
theorem n0_is (a : Int) : IsN a (n0 a) := Classical.choose_spec (isn_ex a)
/-- What a search by halving tells. -/
theorem isn_of {a : Int} {f : Nat} (ha : 0 ≤ a) (hf : f ≤ 16) (h1 : 0 < f → (wn a f).isSome = false) (h2 : f < 16 → (wn a (f + 1)).isSome = true) : f = n0 a := by
  refine IsN.one ⟨hf, fun i hi => ?_, h2⟩ (n0_is a)
  have up : ∀ k : Nat, (wn a (i + 1)).isSome = true → (wn a (i + 1 + k)).isSome = true := by
    intro k
    induction k with
    | zero => exact fun h => h
    | succ k ih => exact fun h => wn_mono ha (ih h)
  cases h : (wn a (i + 1)).isSome with
  | false => rfl
  | true =>
    have q := up (f - (i + 1)) h
    rw [show i + 1 + (f - (i + 1)) = f by omega, h1 (by omega)] at q
    exact absurd q (by decide)
theorem ln0 : ln (V 0) = 1 := by rw [V_zero, ln, dd_zero]; rfl
theorem wn_zero {n : Nat} (h : 1 ≤ n) : wn 0 n = some 0 := by
  unfold wn
  rw [if_pos (by rw [ln0]; exact h), V_zero]
theorem wn_17 {a : Int} (ha : 0 ≤ a) : (wn a 17).isSome = true := by
  rcases (show a = 0 ∨ 0 < a by omega) with c | c
  · rw [c, wn_zero (by omega)]; rfl
  · exact wn17 c
/-- What Digits tells. -/
noncomputable def dgt (a : Int) : Int := (wn a (n0 a + 1)).getD 0
theorem wn_dgt {a : Int} (ha : 0 ≤ a) : wn a (n0 a + 1) = some (dgt a) := by
  have h : (wn a (n0 a + 1)).isSome = true := by
    obtain ⟨h1, h2, h3⟩ := n0_is a
    rcases (show n0 a < 16 ∨ n0 a = 16 by omega) with c | c
    · exact h3 c
    · rw [c]; exact wn_17 ha
  obtain ⟨U, hU⟩ := Option.isSome_iff_exists.1 h
  unfold dgt
  rw [hU]
  rfl
theorem n0_le (a : Int) : n0 a ≤ 16 := (n0_is a).1
theorem dgt_nn {a : Int} (ha : 0 ≤ a) : 0 ≤ dgt a := by
  rcases (show a = 0 ∨ 0 < a by omega) with c | c
  · have := wn_dgt ha
    subst c
    rw [wn_zero (by omega)] at this
    have := Option.some.inj this
    omega
  · exact Int.le_of_lt (wn_pos c (wn_dgt ha))
theorem dgt_zero : dgt 0 = 0 := by
  have := wn_dgt (Int.le_refl 0)
  rw [wn_zero (by omega)] at this
  exact (Option.some.inj this).symm

/-- Closed ones. -/
theorem dd_eq {D : Sc.D} {U : Int} (h : Ok D) (k : uv D = U) : dd U = D := by rw [← k]; exact h.is.symm
theorem ok_of (xs : List Int) (e : Int) (h1 : (xs.all fun x => decide (48 ≤ x) && decide (x ≤ 57)) = true) (h2 : xs ≠ []) (h3 : xs.getD 0 0 ≠ 48) (h4 : xs.getD (xs.length - 1) 0 ≠ 48) (h5 : -1075 ≤ e) : Ok ⟨false, xs, e⟩ :=
  ⟨rfl, h5, .inr ⟨fun d hd => by have := List.all_eq_true.1 h1 d hd; simpa using this, h2, h3, h4⟩⟩
theorem wn_at {a : Int} {n : Nat} {D : Sc.D} {U S : Int} (hD : dd (V a) = D) (hl : n < D.ds.length) (hS : 10 ^ (D.e + ((D.ds.length : Int) - n) + 1075).toNat = S) (h1 : inB a (k1 (V a) S * S) = true) (hU : k1 (V a) S * S = U) : wn a n = some U := by
  have e1 : ln (V a) = D.ds.length := by rw [ln, hD]
  have e2 : st (V a) n = S := by rw [st, e1, hD, hS]
  unfold wn
  rw [if_neg (by omega), e2, if_pos h1, hU]
theorem wn_not {a : Int} {n : Nat} {D : Sc.D} {S : Int} (hD : dd (V a) = D) (hl : n < D.ds.length) (hS : 10 ^ (D.e + ((D.ds.length : Int) - n) + 1075).toNat = S) (h1 : inB a (k1 (V a) S * S) = false) (h2 : inB a (k2 (V a) S * S) = false) : wn a n = none := by
  have e1 : ln (V a) = D.ds.length := by rw [ln, hD]
  have e2 : st (V a) n = S := by rw [st, e1, hD, hS]
  unfold wn
  rw [if_neg (by omega), e2, if_neg (by rw [h1]; decide), if_neg (by rw [h2]; decide)]
theorem wn_all {a : Int} {n : Nat} {D : Sc.D} (hD : dd (V a) = D) (hl : D.ds.length ≤ n) : wn a n = some (V a) := by
  have e1 : ln (V a) = D.ds.length := by rw [ln, hD]
  unfold wn
  rw [if_pos (by omega)]

/-- The exact digits of the doubles next to 0.1 and 1/3; of 2.5. -/
def tenth : List Int := [49,48,48,48,48,48,48,48,48,48,48,48,48,48,48,48,48,53,53,53,49,49,49,53,49,50,51,49,50,53,55,56,50,55,48,50,49,49,56,49,53,56,51,52,48,52,53,52,49,48,49,53,54,50,53]
def third : List Int := [51,51,51,51,51,51,51,51,51,51,51,51,51,51,51,51,49,52,56,50,57,54,49,54,50,53,54,50,52,55,51,57,48,57,57,50,57,51,57,52,55,50,49,57,56,52,56,54,51,50,56,49,50,53]
def threes : List Int := [51,51,51,51,51,51,51,51,51,51,51,51,51,51,51,51]
set_option maxRecDepth 100000 in
theorem dd01 : dd (V 4591870180066957722) = ⟨false, tenth, -55⟩ := dd_eq (ok_of _ _ (by decide +kernel) (by decide +kernel) (by decide +kernel) (by decide +kernel) (by decide)) (by decide +kernel)
set_option maxRecDepth 100000 in
theorem dd13 : dd (V 4599676419421066581) = ⟨false, third, -54⟩ := dd_eq (ok_of _ _ (by decide +kernel) (by decide +kernel) (by decide +kernel) (by decide +kernel) (by decide)) (by decide +kernel)
set_option maxRecDepth 100000 in
theorem dd25 : dd (V 4612811918334230528) = ⟨false, [50, 53], -1⟩ := dd_eq (ok_of _ _ (by decide +kernel) (by decide +kernel) (by decide +kernel) (by decide +kernel) (by decide)) (by decide +kernel)
theorem wn01 : wn 4591870180066957722 1 = some (10 ^ 1074) := wn_at (S := 10 ^ 1074) dd01 (by decide +kernel) (by decide +kernel) (by decide +kernel) (by decide +kernel)
theorem wn13 : wn 4599676419421066581 16 = some (3333333333333333 * 10 ^ 1059) := wn_at (S := 10 ^ 1059) dd13 (by decide +kernel) (by decide +kernel) (by decide +kernel) (by decide +kernel)
theorem wn25 : wn 4612811918334230528 1 = none := wn_not (S := 10 ^ 1075) dd25 (by decide +kernel) (by decide +kernel) (by decide +kernel) (by decide +kernel)
theorem wn25b : wn 4612811918334230528 2 = some (V 4612811918334230528) := wn_all dd25 (by decide +kernel)
theorem n001 : n0 4591870180066957722 = 0 := (isn_of (by decide) (by decide) (fun h => absurd h (by decide)) (fun _ => by rw [show 0 + 1 = 1 from rfl, wn01]; rfl)).symm
theorem n025 : n0 4612811918334230528 = 1 := (isn_of (by decide) (by decide) (fun _ => by rw [wn25]; rfl) (fun _ => by rw [show 1 + 1 = 2 from rfl, wn25b]; rfl)).symm
theorem dgt01 : dgt 4591870180066957722 = 10 ^ 1074 := by rw [dgt, n001, show 0 + 1 = 1 from rfl, wn01]; rfl
theorem dgt25 : dgt 4612811918334230528 = V 4612811918334230528 := by rw [dgt, n025, show 1 + 1 = 2 from rfl, wn25b]; rfl
set_option maxRecDepth 100000 in
theorem ddt01 : dd (10 ^ 1074) = ⟨false, [49], -1⟩ := dd_eq (ok_of _ _ (by decide +kernel) (by decide +kernel) (by decide +kernel) (by decide +kernel) (by decide)) (by decide +kernel)
set_option maxRecDepth 100000 in
theorem ddt13 : dd (3333333333333333 * 10 ^ 1059) = ⟨false, threes, -16⟩ := dd_eq (ok_of _ _ (by decide +kernel) (by decide +kernel) (by decide +kernel) (by decide +kernel) (by decide)) (by decide +kernel)
theorem in01 : inB 4591870180066957722 (10 ^ 1074) = true := wn_in (by decide) wn01
end Sh
end Go.Proofs.YtbmlkfkhmaahnaaGreatDoor

namespace Go.Proofs.YtbmlkfkhmaahnaaGreatDoor
open Go Go.RowKit Go.Deep

set_option maxRecDepth 100000 in
theorem zfinite_any (d : Int) (w : World) (h0 : 0 ≤ d) (h1 : d < 18446744073709551616) :
    Calls Tryz.prog 14 #[.int .u64 d] w fun e w' => e = .returned (.bool (Ie.fnt d)) ∧ w' = w := by
  have C := hid (class_any d w h0 h1)
  have E : Hid (Ie.fnt d = decide (Ie.cls d < 3)) := rfl
  generalize Ie.cls d = c at *
  go_enter Tryz.func14, Tryz.ntmps14
  go_wp2_with fail
  refine C.out.mono ?_
  rintro e w' ⟨rfl, rfl⟩
  go_wp2_with fail
  go_ret
  exact ⟨fretB E.out.symm, rfl⟩

/-- The sign bit. -/
def Sh.ng (d : Int) : Bool := decide (9223372036854775808 ≤ d)
theorem zand_sign (d : Int) (h0 : 0 ≤ d) (h1 : d < 18446744073709551616) : (bits .and .u64 d 9223372036854775808 != 0) = Sh.ng d := by
  unfold Sh.ng
  rw [Ib.sign_and d h0 h1]
  rcases (show d < 9223372036854775808 ∨ 9223372036854775808 ≤ d by omega) with c | c
  · have e : d / 9223372036854775808 = 0 := by omega
    rw [e]
    simp
    omega
  · have e : d / 9223372036854775808 = 1 := by omega
    rw [e]
    simp [c]

set_option maxRecDepth 100000 in
theorem znegative_any (d : Int) (w : World) (h0 : 0 ≤ d) (h1 : d < 18446744073709551616) :
    Calls Tryz.prog 19 #[.int .u64 d] w fun e w' => e = .returned (.bool (Sh.ng d)) ∧ w' = w := by
  have AS := zand_sign d h0 h1
  generalize Sh.ng d = n at *
  go_enter Tryz.func19, Tryz.ntmps19
  go_wp2_with fail
  go_ret
  exact ⟨rfl, rfl⟩

/-- s writes T in base 10, zero too. -/
structure DigZ (T : Int) (s : ByteArray) (xs : List Int) : Prop where
  str : Str s xs
  digs : Digs xs
  val : dv xs = T
  ne : xs ≠ []
  len : xs.length ≤ 3000

set_option maxRecDepth 100000 in
theorem zdigits_any (p : Option Addr) (os : List Int) (B : Nat) (T : Int) (w : World) (K : Nat) (A : Ans B w p os T) (h0 : 0 ≤ T) (hK : K ≤ 2000) (hb : T < 10 ^ K) :
    Calls Tryz.prog 49 #[.slice p (List.length os) (List.length os)] w fun e w' => ∃ s xs, e = .returned (.tuple #[.string s, .int .i64 0]) ∧ DigZ T s xs ∧ Below w.heap.size w w' := by
  rcases (show 0 < T ∨ T = 0 by omega) with hT | hT
  · refine (fdigits_any p os B T w K A hT hK hb).mono ?_
    rintro e w' ⟨s, xs, rfl, D, hB⟩
    exact ⟨s, xs, rfl, ⟨D.str, D.digs, D.val, D.ne, D.len⟩, hB⟩
  · subst hT
    have hp : (0 : Int) < Nm.pw 4096 := Int.lt_of_le_of_lt (Int.le_of_lt (show (0 : Int) < 10 ^ 0 by decide)) (fp10_pw (by omega))
    have IB : Hid (Calls Tryz.prog 71 #[.slice p (List.length os) (List.length os), .int .i64 10, .bool false] w fun e w' => ∃ s xs, e = .returned (.tuple #[.string s, .int .i64 0]) ∧ DigZ 0 s xs ∧ Below w.heap.size w w') := by
      refine (inBase_any p _ _ os 10 false w (A.argT hp) (by omega) (by omega)).mono ?_
      rintro e w' ⟨s, xs, E, rfl, hs, h, hB⟩
      have ts := A.tsT hp
      have hv : Nm.val os = 0 := A.2.2.2.1
      have hz : Nm.tsize os = 0 := (Nm.tsize_zero_iff A.2.1).2 hv
      cases h with
      | big c => omega
      | base _ c => omega
      | zero c _ _ => exact ⟨s, _, rfl, ⟨hs, fun d hd => by simp at hd; omega, rfl, by simp, by simp⟩, hB⟩
      | ok L c1 c2 c3 c4 c5 => omega
    clear A hb hp hK h0
    go_enter Tryz.func49, Tryz.ntmps49
    go_wp2_with fail
    refine IB.out.mono ?_
    rintro e w' ⟨s, xs, rfl, D, hB⟩
    have HD := hid (And.intro D hB)
    clear D hB IB
    go_wp2_with fail
    go_ret2
    exact ⟨s, xs, rfl, HD.out.1, HD.out.2⟩

set_option maxRecDepth 100000 in
set_option maxHeartbeats 2000000 in
theorem znormal_any (s : ByteArray) (xs : List Int) (q : Int) (w : World) (hs : Str s xs) (hd : Digs xs) (hn : xs ≠ []) (h0 : -1075 ≤ q) (h1 : q ≤ 100000) (hl : xs.length ≤ 100000) :
    Calls Tryz.prog 34 #[.string s, .int .i64 q] w fun r w' => ∃ v, r = .returned v ∧ DecIs v (Sh.dd (dv xs * 10 ^ (q + 1075).toNat)) ∧ Below w.heap.size w w' := by
  have NO := hid (fun wx : World => norm_any false s xs q wx hs (by omega))
  have E0 : Hid (errOf xs q = 0 ∧ nmd false xs q = Sh.dd (dv xs * 10 ^ (q + 1075).toNat)) := by
    have i := Sh.isdec hd hn h0 h1 hl
    refine ⟨by rw [errOf, if_pos i], ?_⟩
    rw [nmd, if_pos i]
    exact Sh.nrm_dd hd h0
  have Z := FR3.new w (.bool false) (.string ⟨#[]⟩) (.int .i64 0)
  have ZB := hid (alloc_b w (.cells #[.bool false, .string ⟨#[]⟩, .int .i64 0] 25))
  have HZ : Hid (FR3 (w.alloc (.cells #[.bool false, .string ⟨#[]⟩, .int .i64 0] 25)) w.heap.size (.bool false) (.string ⟨#[]⟩) (.int .i64 0) ∧ w.heap.size < (w.alloc (.cells #[.bool false, .string ⟨#[]⟩, .int .i64 0] 25)).heap.size) := ⟨Z, Z.lt⟩
  unfold NormTold decV at NO
  rw [E0.out.1, E0.out.2] at NO
  clear E0 Z hs hd hn h0 h1 hl
  generalize Sh.dd (dv xs * 10 ^ (q + 1075).toNat) = DD at *
  go_enter Tryz.func34, Tryz.ntmps34
  go_wp2_with fail
  refine (NO.out _).mono ?_
  rintro e w1 ⟨v, rfl, ⟨t, hv, ht⟩, hB⟩
  unfold decV at hv
  subst hv
  have R6 := hid (HZ.out.1.below (hB.trans ((alloc_b w1 (.cells #[.bool DD.neg, .string t, .int .i64 DD.e] 25)).mono hB.size)) HZ.out.2)
  have HB6 := hid (ZB.out.trans ((hB.trans ((alloc_b w1 (.cells #[.bool DD.neg, .string t, .int .i64 DD.e] 25)).mono hB.size)).mono ZB.out.size))
  obtain ⟨⟨c0, c1, c2⟩, f0, f1, f2⟩ := R6.out.cells
  have G6 : Hid (∃ v, Ending.returned (.agg #[.bool DD.neg, .string t, .int .i64 DD.e]) = .returned v ∧ DecIs v DD) := ⟨_, rfl, t, rfl, ht⟩
  clear ht NO hB HZ ZB
  go_wp2_with fail
  (try simp only [Exit.inBlock, Exit.then])
  refine bodyPost_ret (results_cell_row rfl _ _ w.heap.size 25 _ (0, 0) _ rfl (R6.out.put _ _ _) Tryz.underlying25 rfl (by kernel_rfl)) rfl ?_
  obtain ⟨v, h1, h2⟩ := G6.out
  exact ⟨v, h1, h2, fset3_below HB6.out (Nat.le_refl _)⟩

theorem zroom {q : Int} {n k : Nat} (q1 : q < 18014398509481984) : q * 2 ^ k * 5 ^ n < 10 ^ (20 + n + k) := by
  have h1 := f5_10 n
  have h2 := f2_10 k
  have p1 : (0 : Int) < 5 ^ n := Int.pow_pos (by omega)
  have p2 : (0 : Int) < 2 ^ k := Int.pow_pos (by omega)
  have p3 : (0 : Int) < 10 ^ n := Int.pow_pos (by omega)
  have a1 : q * 2 ^ k * 5 ^ n ≤ 18014398509481984 * 2 ^ k * 5 ^ n := Int.mul_le_mul_of_nonneg_right (Int.mul_le_mul_of_nonneg_right (Int.le_of_lt q1) (Int.le_of_lt p2)) (Int.le_of_lt p1)
  have a2 : 18014398509481984 * 2 ^ k * 5 ^ n ≤ 18014398509481984 * 10 ^ k * (10 : Int) ^ n := Int.mul_le_mul (Int.mul_le_mul_of_nonneg_left h2 (by omega)) h1 (Int.le_of_lt p1) (Int.mul_nonneg (by omega) (Int.le_of_lt (Int.pow_pos (by omega))))
  have a3 : 18014398509481984 * 10 ^ k * (10 : Int) ^ n < 100000000000000000000 * 10 ^ k * 10 ^ n := Int.mul_lt_mul_of_pos_right (Int.mul_lt_mul_of_pos_right (by omega) (Int.pow_pos (by omega))) p3
  rw [Int.pow_add, Int.pow_add, show (10 : Int) ^ 20 = 100000000000000000000 by decide, Int.mul_assoc 100000000000000000000, Int.mul_comm ((10 : Int) ^ n) (10 ^ k), ← Int.mul_assoc]
  omega

/-- The number in units. -/
theorem zunits {m e : Int} (h0 : -1075 ≤ e) : m * 2 ^ e.toNat * 5 ^ (-e).toNat * 10 ^ (min e 0 + 1075).toNat = m * 2 ^ (e + 1075).toNat * Sh.T5 := by
  unfold Sh.T5
  rcases (show 0 ≤ e ∨ e < 0 by omega) with c | c
  · rw [show (-e).toNat = 0 by omega, show (min e 0 + 1075).toNat = 1075 by omega, show (e + 1075).toNat = e.toNat + 1075 by omega, Int.pow_zero, Int.mul_one, Int.pow_add]
    generalize 1075 = z
    rw [show (10 : Int) = 2 * 5 from rfl, Int.mul_pow]
    generalize (5 : Int) ^ z = x1
    generalize (2 : Int) ^ z = x2
    generalize (2 : Int) ^ e.toNat = x3
    ac_rfl
  · obtain ⟨n, hn⟩ : ∃ n : Nat, (-e).toNat = n := ⟨_, rfl⟩
    obtain ⟨k, hk⟩ : ∃ k : Nat, (e + 1075).toNat = k := ⟨_, rfl⟩
    have e1 : 1075 = n + k := by omega
    rw [show e.toNat = 0 by omega, show (min e 0 + 1075).toNat = k by omega, hn, hk, Int.pow_zero, Int.mul_one]
    conv => rhs; rw [e1]
    rw [Int.pow_add, show (10 : Int) = 2 * 5 from rfl, Int.mul_pow]
    generalize (5 : Int) ^ n = x1
    generalize (5 : Int) ^ k = x2
    generalize (2 : Int) ^ k = x3
    ac_rfl

set_option maxRecDepth 100000 in
set_option maxHeartbeats 4000000 in
theorem zexact_any (m e : Int) (w : World) (h0 : 0 ≤ m) (h1 : m < 18014398509481984) (e0 : -1075 ≤ e) (e1 : e ≤ 971) :
    Calls Tryz.prog 30 #[.int .u64 m, .int .i64 e] w fun r w' => ∃ v, r = .returned v ∧ DecIs v (Sh.dd (m * 2 ^ (e + 1075).toNat * Sh.T5)) ∧ Below w.heap.size w w' := by
  have FU := hid (fun (wx : World) => fromUint_any m wx h0 (by omega))
  obtain ⟨k, hk⟩ : ∃ k : Nat, e.toNat = k := ⟨_, rfl⟩
  obtain ⟨n, hn⟩ : ∃ n : Nat, (-e).toNat = n := ⟨_, rfl⟩
  have PW := hid (fun (wx : World) => fpow5_ok (n : Int) n wx rfl (by omega))
  have rT := zroom (q := m) (n := n) (k := k) h1
  have tp : (0 : Int) < 2 ^ k := Int.pow_pos (by omega)
  have fp : (0 : Int) < 5 ^ n := Int.pow_pos (by omega)
  have r1 : m * 2 ^ k < Nm.pw 4096 := by
    have := zroom (q := m) (n := 0) (k := k) h1
    rw [Int.pow_zero, Int.mul_one] at this
    exact Int.lt_trans this (fp10_pw (by omega))
  have r5 : (5 : Int) ^ n < Nm.pw 4096 := Int.lt_of_le_of_lt (f5_10 n) (fp10_pw (by omega))
  have SH : Hid (∀ (wx : World) (p : Option Addr) (os : List Int) (B : Nat), Ans B wx p os m → Calls Tryz.prog 46 #[.slice p (List.length os) (List.length os), .int .i64 (k : Int)] wx fun e w' => ∃ r os, e = .returned (.tuple #[.slice r (List.length os) (List.length os), .int .i64 0]) ∧ Ans wx.heap.size w' r os (m * 2 ^ k) ∧ Below wx.heap.size wx w') := by
    intro wx p os B A
    have rm : m < Nm.pw 4096 := Int.lt_trans (show m < 10 ^ 20 by rw [show (10 : Int) ^ 20 = 100000000000000000000 by decide]; omega) (fp10_pw (by omega))
    have s := fshl_any p _ _ os (k : Int) k wx (A.argT rm) (A.tsT rm) rfl (by rw [A.2.2.2.1]; exact r1)
    rw [A.2.2.2.1] at s
    exact s
  have MU : Hid (∀ (wx : World) (p r : Option Addr) (os zs : List Int), (∃ B, Ans B wx p os (m * 2 ^ k)) → (∃ B, Ans B wx r zs (5 ^ n)) → Calls Tryz.prog 48 #[.slice p (List.length os) (List.length os), .slice r (List.length zs) (List.length zs)] wx fun e w' => ∃ r os, e = .returned (.tuple #[.slice r (List.length os) (List.length os), .int .i64 0]) ∧ Ans wx.heap.size w' r os (m * 2 ^ k * 5 ^ n) ∧ Below wx.heap.size wx w') := by
    rintro wx p r os zs ⟨B, A⟩ ⟨B', A'⟩
    have s := mul_ok p r _ _ _ _ os zs wx (A.argT r1) (A'.argT r5) (A.tsT r1) (A'.tsT r5) (by rw [A.2.2.2.1, A'.2.2.2.1]; exact Int.lt_trans rT (fp10_pw (by omega)))
    rw [A.2.2.2.1, A'.2.2.2.1] at s
    exact s
  have DG : Hid (∀ (wx : World) (r : Option Addr) (zs : List Int) (B : Nat), Ans B wx r zs (m * 2 ^ k * 5 ^ n) → Calls Tryz.prog 49 #[.slice r (List.length zs) (List.length zs)] wx fun e w' => ∃ s xs, e = .returned (.tuple #[.string s, .int .i64 0]) ∧ DigZ (m * 2 ^ k * 5 ^ n) s xs ∧ Below wx.heap.size wx w') :=
    fun wx r zs B A => zdigits_any r zs B _ wx (20 + n + k) A (Int.mul_nonneg (Int.mul_nonneg h0 (Int.le_of_lt tp)) (Int.le_of_lt fp)) (by omega) rT
  have NM : Hid (∀ (wx : World) (s : ByteArray) (xs : List Int), DigZ (m * 2 ^ k * 5 ^ n) s xs → Calls Tryz.prog 34 #[.string s, .int .i64 (min e 0)] wx fun r w' => ∃ v, r = .returned v ∧ DecIs v (Sh.dd (m * 2 ^ (e + 1075).toNat * Sh.T5)) ∧ Below wx.heap.size wx w') := by
    intro wx s xs D
    have h := znormal_any s xs (min e 0) wx D.str D.digs D.ne (by omega) (by omega) (by have := D.len; omega)
    rw [D.val, ← hk, ← hn, zunits e0] at h
    exact h
  have Z := FR3.new w (.bool false) (.string ⟨#[]⟩) (.int .i64 0)
  have ZB := hid (alloc_b w (.cells #[.bool false, .string ⟨#[]⟩, .int .i64 0] 25))
  have HZ : Hid (FR3 (w.alloc (.cells #[.bool false, .string ⟨#[]⟩, .int .i64 0] 25)) w.heap.size (.bool false) (.string ⟨#[]⟩) (.int .i64 0) ∧ w.heap.size < (w.alloc (.cells #[.bool false, .string ⟨#[]⟩, .int .i64 0] 25)).heap.size) := ⟨Z, Z.lt⟩
  have mk : m * 2 ^ k = m * 2 ^ k := rfl
  generalize Sh.dd (m * 2 ^ (e + 1075).toNat * Sh.T5) = DD at *
  generalize m * 2 ^ k * 5 ^ n = T at *
  clear rT tp fp r1 r5 Z h0 mk
  rcases (show 0 < e ∨ e ≤ 0 by omega) with c | c
  · have hke : e = (k : Int) := by omega
    have hn0 : n = 0 := by omega
    subst hke
    subst hn0
    rw [show min (k : Int) 0 = 0 by omega] at NM
    rw [show ((0 : Nat) : Int) = 0 from rfl] at PW
    clear hk hn e0
    go_enter Tryz.func30, Tryz.ntmps30
    go_wp2_with fail
    refine (FU.out _).mono ?_
    rintro e w1 ⟨p, os, rfl, A1, B1⟩
    have S1 := hid (SH.out _ _ _ _ A1)
    have HB1 := hid B1
    clear A1 B1 SH FU
    go_wp2_with fail
    refine S1.out.mono ?_
    rintro e w2 ⟨r2, z2, rfl, A2, B2⟩
    have SA : Hid (∀ wx, Below w2.heap.size w2 wx → ∃ B, Ans B wx r2 z2 (m * 2 ^ k)) := fun wx h => ⟨_, A2.below h (Nat.le_refl _)⟩
    have HB2 := hid (HB1.out.trans (B2.mono HB1.out.size))
    clear A2 B2 S1 HB1
    go_wp2_with fail
    refine (PW.out _).mono ?_
    rintro e w3 ⟨r3, z3, rfl, A3, B3⟩
    have M3 := hid (MU.out _ _ _ _ _ (SA.out _ B3) ⟨_, A3⟩)
    have HB3 := hid (HB2.out.trans (B3.mono HB2.out.size))
    clear A3 B3 PW SA HB2 MU
    go_wp2_with fail
    refine M3.out.mono ?_
    rintro e w4 ⟨r4, z4, rfl, A4, B4⟩
    have D4 := hid (DG.out _ _ _ _ A4)
    have HB4 := hid (HB3.out.trans (B4.mono HB3.out.size))
    clear A4 B4 M3 HB3 DG
    go_wp2_with fail
    refine D4.out.mono ?_
    rintro e w5 ⟨s, xs, rfl, D5, B5⟩
    have N5 := hid (NM.out w5 s xs D5)
    have HB5 := hid (HB4.out.trans (B5.mono HB4.out.size))
    clear D5 B5 D4 HB4 NM
    go_wp2_with fail
    refine N5.out.mono ?_
    rintro e w6 ⟨v, rfl, ⟨t, hv, ht⟩, B6⟩
    unfold decV at hv
    subst hv
    have HB6 := hid (HB5.out.trans (B6.mono HB5.out.size))
    have R6 := hid (HZ.out.1.below HB6.out HZ.out.2)
    obtain ⟨⟨c0, c1, c2⟩, f0, f1, f2⟩ := R6.out.cells
    have G6 : Hid (∃ v, Ending.returned (.agg #[.bool DD.neg, .string t, .int .i64 DD.e]) = .returned v ∧ DecIs v DD) := ⟨_, rfl, t, rfl, ht⟩
    clear B6 N5 HB5 ht
    go_wp2_with fail
    (try simp only [Exit.inBlock, Exit.then])
    refine bodyPost_ret (results_cell_row rfl _ _ w.heap.size 25 _ (0, 0) _ rfl (R6.out.put _ _ _) Tryz.underlying25 rfl (by kernel_rfl)) rfl ?_
    obtain ⟨v, h1, h2⟩ := G6.out
    exact ⟨v, h1, h2, fset3_below (ZB.out.trans (HB6.out.mono ZB.out.size)) (Nat.le_refl _)⟩
  · have hk0 : k = 0 := by omega
    subst hk0
    rw [show min e 0 = e by omega] at NM
    rw [show ((n : Nat) : Int) = -e by omega] at PW
    clear hk SH
    go_enter Tryz.func30, Tryz.ntmps30
    go_wp2_with fail
    refine (FU.out _).mono ?_
    rintro e' w2 ⟨r2, z2, rfl, A2, B2⟩
    have SA : Hid (∀ wx, Below w2.heap.size w2 wx → ∃ B, Ans B wx r2 z2 (m * 2 ^ 0)) := fun wx h => ⟨_, by rw [Int.pow_zero, Int.mul_one]; exact A2.below h (Nat.le_refl _)⟩
    have HB2 := hid B2
    clear A2 B2 FU
    go_wp2_with fail
    refine (PW.out _).mono ?_
    rintro e9 w3 ⟨r3, z3, rfl, A3, B3⟩
    have M3 := hid (MU.out _ _ _ _ _ (SA.out _ B3) ⟨_, A3⟩)
    have HB3 := hid (HB2.out.trans (B3.mono HB2.out.size))
    clear A3 B3 PW SA HB2 MU
    go_wp2_with fail
    refine M3.out.mono ?_
    rintro e9 w4 ⟨r4, z4, rfl, A4, B4⟩
    have D4 := hid (DG.out _ _ _ _ A4)
    have HB4 := hid (HB3.out.trans (B4.mono HB3.out.size))
    clear A4 B4 M3 HB3 DG
    go_wp2_with fail
    refine D4.out.mono ?_
    rintro e9 w5 ⟨s, xs, rfl, D5, B5⟩
    have N5 := hid (NM.out w5 s xs D5)
    have HB5 := hid (HB4.out.trans (B5.mono HB4.out.size))
    clear D5 B5 D4 HB4 NM
    go_wp2_with fail
    refine N5.out.mono ?_
    rintro e9 w6 ⟨v, rfl, ⟨t, hv, ht⟩, B6⟩
    unfold decV at hv
    subst hv
    have HB6 := hid (HB5.out.trans (B6.mono HB5.out.size))
    have R6 := hid (HZ.out.1.below HB6.out HZ.out.2)
    obtain ⟨⟨c0, c1, c2⟩, f0, f1, f2⟩ := R6.out.cells
    have G6 : Hid (∃ v, Ending.returned (.agg #[.bool DD.neg, .string t, .int .i64 DD.e]) = .returned v ∧ DecIs v DD) := ⟨_, rfl, t, rfl, ht⟩
    clear B6 N5 HB5 ht
    go_wp2_with fail
    (try simp only [Exit.inBlock, Exit.then])
    refine bodyPost_ret (results_cell_row rfl _ _ w.heap.size 25 _ (0, 0) _ rfl (R6.out.put _ _ _) Tryz.underlying25 rfl (by kernel_rfl)) rfl ?_
    obtain ⟨v, h1, h2⟩ := G6.out
    exact ⟨v, h1, h2, fset3_below (ZB.out.trans (HB6.out.mono ZB.out.size)) (Nat.le_refl _)⟩
end Go.Proofs.YtbmlkfkhmaahnaaGreatDoor

/-
  ieee: Neg.
-/
namespace Go.Proofs.YtbmlkfkhmaahnaaGreatDoor
open Go Go.RowKit Go.Deep

set_option maxRecDepth 100000 in
theorem neg_any (d : Int) (w : World) (h0 : 0 ≤ d) (h1 : d < 18446744073709551616) :
    Calls Tryz.prog 50 #[.int .u64 d] w fun e w' => e = .returned (.int .u64 (Ie.ng d)) ∧ w' = w := by
  have B : bits .xor .u64 d 9223372036854775808 = Ie.ng d := Ib.sign_xor d h0 h1
  go_enter Tryz.func50, Tryz.ntmps50
  go_wp2
  go_ret
  exact ⟨rfl, rfl⟩
end Go.Proofs.YtbmlkfkhmaahnaaGreatDoor

/-
  ieee: the order of doubles, in numbers.
-/
namespace Go.Proofs.YtbmlkfkhmaahnaaGreatDoor
open Go Go.RowKit Go.Deep

namespace Ie
/-- No NaN. -/
def okd (d : Int) : Bool := decide (d % 9223372036854775808 ≤ 9218868437227405312)
/-- The rank. -/
def rk (d : Int) : Int := if d < 9223372036854775808 then d else 9223372036854775808 - d
theorem cls4 (d : Int) : cls d = 4 ↔ okd d = false := by
  rw [okd, decide_eq_false_iff_not, cls]
  by_cases a : fld d = 0
  · rw [if_pos a]
    simp only [fld] at a
    by_cases b : d % 4503599627370496 = 0
    · rw [if_pos b]; omega
    · rw [if_neg b]; omega
  · rw [if_neg a]
    by_cases c : fld d = 2047
    · rw [if_pos c]
      simp only [fld] at a c
      by_cases b : d % 4503599627370496 = 0
      · rw [if_pos b]; omega
      · rw [if_neg b]; omega
    · rw [if_neg c]
      simp only [fld] at a c
      omega
/-- Rank's number. -/
def rkv (d : Int) : Int := if okd d = true then rk d else 0
/-- The next one above. -/
def upd (d : Int) : Int :=
  if okd d = false then 9221120237041090560 else if d = 9218868437227405312 then d else if d = 9223372036854775808 then 1 else if 9223372036854775808 < d then d - 1 else d + 1
/-- The next one below. -/
def dnd (d : Int) : Int := if okd d = false then 9221120237041090560 else ng (upd (ng d))
/-- The double at a rank. -/
def atr (i : Int) : Int := if i < 0 then 9223372036854775808 - i else i
end Ie

theorem ret_i64b {a b : Int} {c d : Bool} (h : a = b) (k : c = d) : Ending.returned (.tuple #[.int .i64 a, .bool c]) = .returned (.tuple #[.int .i64 b, .bool d]) := by rw [h, k]
theorem ret_u64b {a b : Int} {c d : Bool} (h : a = b) (k : c = d) : Ending.returned (.tuple #[.int .u64 a, .bool c]) = .returned (.tuple #[.int .u64 b, .bool d]) := by rw [h, k]
end Go.Proofs.YtbmlkfkhmaahnaaGreatDoor

/-
  ieee: Up, Down.
-/
namespace Go.Proofs.YtbmlkfkhmaahnaaGreatDoor
open Go Go.RowKit Go.Deep

set_option maxRecDepth 100000 in
set_option maxHeartbeats 2000000 in
theorem up_any (d : Int) (w : World) (h0 : 0 ≤ d) (h1 : d < 18446744073709551616) :
    Calls Tryz.prog 51 #[.int .u64 d] w fun e w' => e = .returned (.int .u64 (Ie.upd d)) ∧ w' = w := by
  have B := Ib.sign_and d h0 h1
  have CL := hid (class_any d w h0 h1)
  have c4 := Ie.cls4 d
  obtain ⟨c, hc⟩ : ∃ c, Ie.cls d = c := ⟨_, rfl⟩
  rw [hc] at CL c4
  obtain ⟨sv, hsv⟩ : ∃ sv, d / 9223372036854775808 * 9223372036854775808 = sv := ⟨_, rfl⟩
  rw [hsv] at B
  by_cases hn : c = 4
  · have E : Hid (9221120237041090560 = Ie.upd d) := by rw [Hid, Ie.upd, if_pos (c4.1 hn)]
    subst hn
    clear hc hsv c4
    go_enter Tryz.func51, Tryz.ntmps51
    go_wp2_with fail
    refine CL.out.mono ?_
    rintro e w' ⟨rfl, rfl⟩
    go_wp2_with fail
    go_ret
    exact ⟨i_retU E.out, rfl⟩
  · have ok : Ie.okd d = true := by
      cases h : Ie.okd d
      · exact absurd (c4.2 h) hn
      · rfl
    have hn' : (c == 4) = false := by rw [beq_eq_false_iff_ne]; exact hn
    have E0 : Ie.upd d = if d = 9218868437227405312 then d else if d = 9223372036854775808 then 1 else if 9223372036854775808 < d then d - 1 else d + 1 := by rw [Ie.upd, ok, if_neg (by decide)]
    by_cases e1 : d = 9218868437227405312
    · subst e1
      rw [if_pos rfl] at E0
      have E := hid E0
      clear hc hsv c4 ok E0 hn
      go_enter Tryz.func51, Tryz.ntmps51
      go_wp2_with fail
      refine CL.out.mono ?_
      rintro e w' ⟨rfl, rfl⟩
      go_wp2_with fail
      go_ret
      exact ⟨i_retU E.out.symm, rfl⟩
    · have e1' : (d == 9218868437227405312) = false := by rw [beq_eq_false_iff_ne]; exact e1
      rw [if_neg e1] at E0
      by_cases e2 : d = 9223372036854775808
      · subst e2
        rw [if_pos rfl] at E0
        have E := hid E0
        clear hc hsv c4 ok E0 hn
        go_enter Tryz.func51, Tryz.ntmps51
        go_wp2_with fail
        refine CL.out.mono ?_
        rintro e w' ⟨rfl, rfl⟩
        go_wp2_with fail
        go_ret
        exact ⟨i_retU E.out.symm, rfl⟩
      · have e2' : (d == 9223372036854775808) = false := by rw [beq_eq_false_iff_ne]; exact e2
        rw [if_neg e2] at E0
        by_cases e3 : 9223372036854775808 < d
        · rw [if_pos e3] at E0
          have E := hid E0
          have hz : sv = 9223372036854775808 := by omega
          subst hz
          clear hc hsv c4 ok E0 hn e1 e2
          go_enter Tryz.func51, Tryz.ntmps51
          go_wp2_with fail
          refine CL.out.mono ?_
          rintro e w' ⟨rfl, rfl⟩
          go_wp2_with fail
          go_ret
          exact ⟨i_retU E.out.symm, rfl⟩
        · rw [if_neg e3] at E0
          have E := hid E0
          have hz : sv = 0 := by omega
          subst hz
          have lt : d < 9223372036854775808 := by omega
          clear hc hsv c4 ok E0 hn e1 e2 e3
          go_enter Tryz.func51, Tryz.ntmps51
          go_wp2_with fail
          refine CL.out.mono ?_
          rintro e w' ⟨rfl, rfl⟩
          go_wp2_with fail
          go_ret
          exact ⟨i_retU E.out.symm, rfl⟩

end Go.Proofs.YtbmlkfkhmaahnaaGreatDoor

/-
  ieee: Down.
-/
namespace Go.Proofs.YtbmlkfkhmaahnaaGreatDoor
open Go Go.RowKit Go.Deep

theorem Ie.ng_bd (d : Int) (h0 : 0 ≤ d) (h1 : d < 18446744073709551616) : 0 ≤ Ie.ng d ∧ Ie.ng d < 18446744073709551616 := by
  simp only [Ie.ng]; split <;> omega

theorem Ie.upd_bd (d : Int) (h0 : 0 ≤ d) (h1 : d < 18446744073709551616) : 0 ≤ Ie.upd d ∧ Ie.upd d < 18446744073709551616 := by
  simp only [Ie.upd]
  split
  · omega
  · split
    · omega
    · split
      · omega
      · split <;> omega

set_option maxRecDepth 100000 in
set_option maxHeartbeats 2000000 in
theorem down_any (d : Int) (w : World) (h0 : 0 ≤ d) (h1 : d < 18446744073709551616) :
    Calls Tryz.prog 32 #[.int .u64 d] w fun e w' => e = .returned (.int .u64 (Ie.dnd d)) ∧ w' = w := by
  have CL := hid (class_any d w h0 h1)
  have c4 := Ie.cls4 d
  obtain ⟨c, hc⟩ : ∃ c, Ie.cls d = c := ⟨_, rfl⟩
  rw [hc] at CL c4
  by_cases hn : c = 4
  · have E : Hid (9221120237041090560 = Ie.dnd d) := by rw [Hid, Ie.dnd, if_pos (c4.1 hn)]
    subst hn
    clear hc c4
    go_enter Tryz.func32, Tryz.ntmps32
    go_wp2_with fail
    refine CL.out.mono ?_
    rintro e w' ⟨rfl, rfl⟩
    go_wp2_with fail
    go_ret
    exact ⟨i_retU E.out, rfl⟩
  · have ok : Ie.okd d = true := by
      cases h : Ie.okd d
      · exact absurd (c4.2 h) hn
      · rfl
    have hn' : (c == 4) = false := by rw [beq_eq_false_iff_ne]; exact hn
    have E : Hid (Ie.dnd d = Ie.ng (Ie.upd (Ie.ng d))) := by rw [Hid, Ie.dnd, ok, if_neg (by decide)]
    have b1 := Ie.ng_bd d h0 h1
    have b2 := Ie.upd_bd _ b1.1 b1.2
    have N1 := hid (neg_any d w h0 h1)
    have U1 := hid (up_any _ w b1.1 b1.2)
    have N2 := hid (neg_any _ w b2.1 b2.2)
    clear hc c4 ok hn b1 b2
    go_enter Tryz.func32, Tryz.ntmps32
    go_wp2_with fail
    refine CL.out.mono ?_
    rintro e w' ⟨rfl, rfl⟩
    go_wp2_with fail
    refine N1.out.mono ?_
    rintro e w' ⟨rfl, rfl⟩
    go_wp2_with fail
    refine U1.out.mono ?_
    rintro e w' ⟨rfl, rfl⟩
    go_wp2_with fail
    refine N2.out.mono ?_
    rintro e w' ⟨rfl, rfl⟩
    go_wp2_with fail
    go_ret
    exact ⟨i_retU E.out.symm, rfl⟩
end Go.Proofs.YtbmlkfkhmaahnaaGreatDoor

/-
  ieee: Abs.
-/
namespace Go.Proofs.YtbmlkfkhmaahnaaGreatDoor
open Go Go.RowKit Go.Deep

set_option maxRecDepth 100000 in
theorem abs_any (d : Int) (w : World) (h0 : 0 ≤ d) (h1 : d < 18446744073709551616) :
    Calls Tryz.prog 28 #[.int .u64 d] w fun e w' => e = .returned (.int .u64 (d % 9223372036854775808)) ∧ w' = w := by
  have B := Ib.sign_andNot d h0 h1
  go_enter Tryz.func28, Tryz.ntmps28
  go_wp2
  go_ret
  exact ⟨rfl, rfl⟩
end Go.Proofs.YtbmlkfkhmaahnaaGreatDoor

namespace Go.Proofs.YtbmlkfkhmaahnaaGreatDoor
open Go Go.RowKit Go.Deep

/-- A block's cells. -/
def RB (w : World) (b t : Nat) (cs : Array Value) : Prop := w.heap[b]? = some (.cells cs t (0, 0))
theorem RB.new (w : World) (t : Nat) (cs : Array Value) : RB (w.alloc (.cells cs t)) w.heap.size t cs := heap_alloc_new w _
theorem RB.below {B : Nat} {w w' : World} {b t : Nat} {cs : Array Value} (h : RB w b t cs) (hB : Below B w w') (hb : b < B) : RB w' b t cs := by
  rw [RB, hB.block b hb]; exact h
theorem RB.lt {w : World} {b t : Nat} {cs : Array Value} (h : RB w b t cs) : b < w.heap.size := by
  rcases Nat.lt_or_ge b w.heap.size with hl | hl
  · exact hl
  · simp [RB, Array.getElem?_eq_none hl] at h
theorem RB.cell {w : World} {b t : Nat} {cs : Array Value} (h : RB w b t cs) (i : Nat) (v : Value) (hi : cs[i]? = some v) : w.cell? ⟨b, i, none⟩ = some v := by
  simp only [RB] at h
  simp [World.cell?, h, hi]
theorem RB.free {w : World} {b t : Nat} {cs : Array Value} (h : RB w b t cs) (i : Nat) : w.frozen? ⟨b, i, none⟩ = false := by
  simp only [RB] at h
  simp [World.frozen?, h]
theorem RB.far {w : World} {b c o t : Nat} {v : Value} {cs : Array Value} (h : RB w b t cs) (hc : c ≠ b) : RB (w.setCell ⟨c, o, none⟩ v) b t cs := by
  simp only [RB] at *
  simp only [World.setCell, Array.getElem?_modify]
  rw [if_neg hc]; exact h
theorem RB.set {w : World} {b t : Nat} {cs : Array Value} (h : RB w b t cs) (o : Nat) (v : Value) : RB (w.setCell ⟨b, o, none⟩ v) b t (cs.setIfInBounds o v) := fset1 h rfl

def cells10 (a0 a1 a2 b0 b1 b2 c0 c1 c2 d : Value) : Array Value := #[a0, a1, a2, b0, b1, b2, c0, c1, c2, d]
def Ten (w : World) (b : Nat) (a0 a1 a2 b0 b1 b2 c0 c1 c2 d : Value) : Prop := RB w b 41 #[a0, a1, a2, b0, b1, b2, c0, c1, c2, d]
theorem Ten.cells {w : World} {b : Nat} {a0 a1 a2 b0 b1 b2 c0 c1 c2 d : Value} (h : Ten w b a0 a1 a2 b0 b1 b2 c0 c1 c2 d) :
    (w.cell? ⟨b, 0, none⟩ = some a0 ∧ w.cell? ⟨b, 1, none⟩ = some a1 ∧ w.cell? ⟨b, 2, none⟩ = some a2) ∧ (w.cell? ⟨b, 3, none⟩ = some b0 ∧ w.cell? ⟨b, 4, none⟩ = some b1 ∧ w.cell? ⟨b, 5, none⟩ = some b2) ∧ (w.cell? ⟨b, 6, none⟩ = some c0 ∧ w.cell? ⟨b, 7, none⟩ = some c1 ∧ w.cell? ⟨b, 8, none⟩ = some c2) ∧ w.cell? ⟨b, 9, none⟩ = some d :=
  ⟨⟨h.cell 0 _ rfl, h.cell 1 _ rfl, h.cell 2 _ rfl⟩, ⟨h.cell 3 _ rfl, h.cell 4 _ rfl, h.cell 5 _ rfl⟩, ⟨h.cell 6 _ rfl, h.cell 7 _ rfl, h.cell 8 _ rfl⟩, h.cell 9 _ rfl⟩
theorem Ten.free {w : World} {b : Nat} {a0 a1 a2 b0 b1 b2 c0 c1 c2 d : Value} (h : Ten w b a0 a1 a2 b0 b1 b2 c0 c1 c2 d) :
    (w.frozen? ⟨b, 0, none⟩ = false ∧ w.frozen? ⟨b, 1, none⟩ = false ∧ w.frozen? ⟨b, 2, none⟩ = false) ∧ (w.frozen? ⟨b, 3, none⟩ = false ∧ w.frozen? ⟨b, 4, none⟩ = false ∧ w.frozen? ⟨b, 5, none⟩ = false) ∧ (w.frozen? ⟨b, 6, none⟩ = false ∧ w.frozen? ⟨b, 7, none⟩ = false ∧ w.frozen? ⟨b, 8, none⟩ = false) ∧ w.frozen? ⟨b, 9, none⟩ = false :=
  ⟨⟨RB.free h 0, RB.free h 1, RB.free h 2⟩, ⟨RB.free h 3, RB.free h 4, RB.free h 5⟩, ⟨RB.free h 6, RB.free h 7, RB.free h 8⟩, RB.free h 9⟩
theorem Ten.put {w : World} {b : Nat} {a0 a1 a2 b0 b1 b2 c0 c1 c2 d : Value} (h : Ten w b a0 a1 a2 b0 b1 b2 c0 c1 c2 d) (x0 x1 x2 y0 y1 y2 z0 z1 z2 u : Value) :
    Ten ((((((((((w.setCell ⟨b, 0, none⟩ x0).setCell ⟨b, 1, none⟩ x1).setCell ⟨b, 2, none⟩ x2).setCell ⟨b, 3, none⟩ y0).setCell ⟨b, 4, none⟩ y1).setCell ⟨b, 5, none⟩ y2).setCell ⟨b, 6, none⟩ z0).setCell ⟨b, 7, none⟩ z1).setCell ⟨b, 8, none⟩ z2).setCell ⟨b, 9, none⟩ u) b x0 x1 x2 y0 y1 y2 z0 z1 z2 u := by
  have h0 := fset1 (o := 0) (v := x0) (c' := #[x0, a1, a2, b0, b1, b2, c0, c1, c2, d]) h (by simp [Array.setIfInBounds])
  have h1 := fset1 (o := 1) (v := x1) (c' := #[x0, x1, a2, b0, b1, b2, c0, c1, c2, d]) h0 (by simp [Array.setIfInBounds])
  have h2 := fset1 (o := 2) (v := x2) (c' := #[x0, x1, x2, b0, b1, b2, c0, c1, c2, d]) h1 (by simp [Array.setIfInBounds])
  have h3 := fset1 (o := 3) (v := y0) (c' := #[x0, x1, x2, y0, b1, b2, c0, c1, c2, d]) h2 (by simp [Array.setIfInBounds])
  have h4 := fset1 (o := 4) (v := y1) (c' := #[x0, x1, x2, y0, y1, b2, c0, c1, c2, d]) h3 (by simp [Array.setIfInBounds])
  have h5 := fset1 (o := 5) (v := y2) (c' := #[x0, x1, x2, y0, y1, y2, c0, c1, c2, d]) h4 (by simp [Array.setIfInBounds])
  have h6 := fset1 (o := 6) (v := z0) (c' := #[x0, x1, x2, y0, y1, y2, z0, c1, c2, d]) h5 (by simp [Array.setIfInBounds])
  have h7 := fset1 (o := 7) (v := z1) (c' := #[x0, x1, x2, y0, y1, y2, z0, z1, c2, d]) h6 (by simp [Array.setIfInBounds])
  have h8 := fset1 (o := 8) (v := z2) (c' := #[x0, x1, x2, y0, y1, y2, z0, z1, z2, d]) h7 (by simp [Array.setIfInBounds])
  have h9 := fset1 (o := 9) (v := u) (c' := #[x0, x1, x2, y0, y1, y2, z0, z1, z2, u]) h8 (by simp [Array.setIfInBounds])
  exact h9
theorem set10_below {B : Nat} {w w' : World} {b : Nat} {x0 x1 x2 y0 y1 y2 z0 z1 z2 u : Value} (h : Below B w w') (hb : B ≤ b) : Below B w ((((((((((w'.setCell ⟨b, 0, none⟩ x0).setCell ⟨b, 1, none⟩ x1).setCell ⟨b, 2, none⟩ x2).setCell ⟨b, 3, none⟩ y0).setCell ⟨b, 4, none⟩ y1).setCell ⟨b, 5, none⟩ y2).setCell ⟨b, 6, none⟩ z0).setCell ⟨b, 7, none⟩ z1).setCell ⟨b, 8, none⟩ z2).setCell ⟨b, 9, none⟩ u) :=
  (fset3_below h hb).setCell (p := ⟨b, 3, none⟩) hb y0 |>.setCell (p := ⟨b, 4, none⟩) hb y1 |>.setCell (p := ⟨b, 5, none⟩) hb y2 |>.setCell (p := ⟨b, 6, none⟩) hb z0 |>.setCell (p := ⟨b, 7, none⟩) hb z1 |>.setCell (p := ⟨b, 8, none⟩) hb z2 |>.setCell (p := ⟨b, 9, none⟩) hb u

namespace Ie
theorem dec_fin2 (x : Int) (h0 : 0 < x) (h1 : x < 9218868437227405312) : dm x = man x ∧ de x = (ex x : Int) - 1074 := by
  have hf : fld x = x / 4503599627370496 := by simp only [fld]; omega
  by_cases hs : x < 4503599627370496
  · have c : cls x = 1 := by
      rw [cls, hf, if_pos (by omega), if_neg (by omega)]
    constructor
    · rw [dm, c, if_neg (by omega), if_pos (by omega), man, if_pos hs]; omega
    · rw [de, c, if_neg (by omega), if_pos rfl, ex]; omega
  · have c : cls x = 2 := by
      rw [cls, hf, if_neg (by omega), if_neg (by omega)]
    constructor
    · rw [dm, c, if_pos rfl, man, if_neg hs]
    · rw [de, c, if_pos rfl, ex, hf]; omega
end Ie
theorem Sh.zB0 : (1 : Int) * 2 ^ ((-1075 : Int) + 1075).toNat * Sh.T5 = Sh.B 0 := by rw [Sh.B, Ie.md_zero]; rfl
theorem Sh.zB {a : Int} : (2 * Ie.man a + 1) * 2 ^ ((Ie.ex a : Int) - 1074 - 1 + 1075).toNat * Sh.T5 = Sh.B a := by
  rw [Sh.B, Ie.md, show ((Ie.ex a : Int) - 1074 - 1 + 1075).toNat = Ie.ex a by omega]
theorem Sh.zV {a : Int} : Ie.man a * 2 ^ ((Ie.ex a : Int) - 1074 + 1075).toNat * Sh.T5 = Sh.V a := by
  rw [Sh.V, Ie.vl, show ((Ie.ex a : Int) - 1074 + 1075).toNat = Ie.ex a + 1 by omega, Int.pow_succ]
  generalize (2 : Int) ^ Ie.ex a = y
  generalize Sh.T5 = z
  congr 1
  rw [Int.mul_comm y 2, ← Int.mul_assoc, Int.mul_comm (Ie.man a) 2]
theorem Sh.ex_le {a : Int} (h : a < 9218868437227405312) : (Ie.ex a : Int) ≤ 2045 := by unfold Ie.ex; omega
theorem Sh.cls0 : Ie.cls 0 = 0 ∧ Ie.dm 0 = 0 ∧ Ie.de 0 = 0 := by decide
theorem Sh.clsP {a : Int} (h0 : 0 < a) (h1 : a < 9218868437227405312) : (Ie.cls a == 0) = false ∧ (Ie.cls a != 0) = true := by
  have : Ie.cls a ≠ 0 := by
    unfold Ie.cls Ie.fld
    split
    · split
      · omega
      · omega
    · split
      · split <;> omega
      · omega
  simp [this]

set_option maxRecDepth 100000 in
set_option maxHeartbeats 4000000 in
theorem zhalfway_any (a : Int) (w : World) (h0 : 0 ≤ a) (h1 : a < 9218868437227405312) :
    Calls Tryz.prog 31 #[.int .u64 a] w fun r w' => ∃ v, r = .returned v ∧ DecIs v (Sh.dd (Sh.B a)) ∧ Below w.heap.size w w' := by
  have D := hid (fun wx : World => decode_any a wx h0 (by omega))
  have Z := FR3.new w (.bool false) (.string ⟨#[]⟩) (.int .i64 0)
  have ZB := hid (alloc_b w (.cells #[.bool false, .string ⟨#[]⟩, .int .i64 0] 25))
  have HZ : Hid (FR3 (w.alloc (.cells #[.bool false, .string ⟨#[]⟩, .int .i64 0] 25)) w.heap.size (.bool false) (.string ⟨#[]⟩) (.int .i64 0) ∧ w.heap.size < (w.alloc (.cells #[.bool false, .string ⟨#[]⟩, .int .i64 0] 25)).heap.size) := ⟨Z, Z.lt⟩
  simp only [partsOf] at D
  clear Z
  rcases (show a = 0 ∨ 0 < a by omega) with ha | ha
  · subst ha
    have EX := hid (fun wx : World => zexact_any 1 (-1075) wx (by omega) (by omega) (by omega) (by omega))
    rw [Sh.zB0] at EX
    obtain ⟨k1, k2, k3⟩ := Sh.cls0
    rw [k1, k2, k3] at D
    clear k1 k2 k3 h0 h1
    generalize Sh.dd (Sh.B 0) = DD at *
    generalize decide (9223372036854775808 ≤ (0 : Int)) = neg at *
    go_enter Tryz.func31, Tryz.ntmps31
    go_wp2_with fail
    refine (D.out _).mono ?_
    rintro e w1 ⟨rfl, B1⟩
    have HB1 := hid B1
    clear B1 D
    go_wp2_with fail
    refine (EX.out _).mono ?_
    rintro e w2 ⟨v, rfl, ⟨t, hv, ht⟩, B2⟩
    unfold decV at hv
    subst hv
    have HB6 := hid (HB1.out.trans (((alloc_b w1 _).trans (B2.mono (alloc_b w1 _).size)).mono HB1.out.size))
    have R6 := hid (HZ.out.1.below HB6.out HZ.out.2)
    obtain ⟨⟨c0, c1, c2⟩, f0, f1, f2⟩ := R6.out.cells
    have G6 : Hid (∃ v, Ending.returned (.agg #[.bool DD.neg, .string t, .int .i64 DD.e]) = .returned v ∧ DecIs v DD) := ⟨_, rfl, t, rfl, ht⟩
    clear B2 EX ht HB1
    go_wp2_with fail
    (try simp only [Exit.inBlock, Exit.then])
    refine bodyPost_ret (results_cell_row rfl _ _ w.heap.size 25 _ (0, 0) _ rfl (R6.out.put _ _ _) Tryz.underlying25 rfl (by kernel_rfl)) rfl ?_
    obtain ⟨v, h1, h2⟩ := G6.out
    exact ⟨v, h1, h2, fset3_below (ZB.out.trans (HB6.out.mono ZB.out.size)) (Nat.le_refl _)⟩
  · obtain ⟨k2, k3⟩ := Ie.dec_fin2 a ha h1
    obtain ⟨k4, k5⟩ := Sh.clsP ha h1
    have xb := Sh.ex_le h1
    have mb := Ie.man_nn a h0
    rw [k2, k3] at D
    have EX := hid (fun wx : World => zexact_any (2 * Ie.man a + 1) ((Ie.ex a : Int) - 1074 - 1) wx (by omega) (by omega) (by omega) (by omega))
    rw [Sh.zB] at EX
    have xb0 : (0 : Int) ≤ (Ie.ex a : Int) := by omega
    clear k2 k3 h0 h1 ha
    generalize Sh.dd (Sh.B a) = DD at *
    generalize decide (9223372036854775808 ≤ a) = neg at *
    generalize Ie.cls a = c at *
    generalize Ie.man a = m at *
    generalize (Ie.ex a : Int) = x at *
    go_enter Tryz.func31, Tryz.ntmps31
    go_wp2_with fail
    refine (D.out _).mono ?_
    rintro e w1 ⟨rfl, B1⟩
    have HB1 := hid B1
    clear B1 D
    go_wp2_with fail
    refine (EX.out _).mono ?_
    rintro e w2 ⟨v, rfl, ⟨t, hv, ht⟩, B2⟩
    unfold decV at hv
    subst hv
    have HB6 := hid (HB1.out.trans (((alloc_b w1 _).trans (B2.mono (alloc_b w1 _).size)).mono HB1.out.size))
    have R6 := hid (HZ.out.1.below HB6.out HZ.out.2)
    obtain ⟨⟨c0, c1, c2⟩, f0, f1, f2⟩ := R6.out.cells
    have G6 : Hid (∃ v, Ending.returned (.agg #[.bool DD.neg, .string t, .int .i64 DD.e]) = .returned v ∧ DecIs v DD) := ⟨_, rfl, t, rfl, ht⟩
    clear B2 EX ht HB1
    go_wp2_with fail
    (try simp only [Exit.inBlock, Exit.then])
    refine bodyPost_ret (results_cell_row rfl _ _ w.heap.size 25 _ (0, 0) _ rfl (R6.out.put _ _ _) Tryz.underlying25 rfl (by kernel_rfl)) rfl ?_
    obtain ⟨v, h1, h2⟩ := G6.out
    exact ⟨v, h1, h2, fset3_below (ZB.out.trans (HB6.out.mono ZB.out.size)) (Nat.le_refl _)⟩
end Go.Proofs.YtbmlkfkhmaahnaaGreatDoor

namespace Go.Proofs.YtbmlkfkhmaahnaaGreatDoor
open Go.RowKit Go.Deep

/-- The kit's contract for TrailingZeros64, laid at this program. -/
def tzRen : Go.Shelf.Ren := ⟨fun _ => 128, fun t => if t = 22 then 22 else if t = 25 then 65 else if t = 54 then 184 else if t = 5 then 5 else if t = 4 then 4 else if t = 0 then 0 else 3, fun _ => 5⟩
theorem tzLays : Lays7.n29 Tryz.prog tzRen where
  mixed := by kernel_rfl
  f29 := by kernel_rfl
  t0 := by kernel_rfl
  a0 := fun _ => by kernel_rfl
  z0 := fun _ => by kernel_rfl
  v0 := fun _ => by kernel_rfl
  i0 := by kernel_rfl
  t3 := by kernel_rfl
  a3 := fun _ => by kernel_rfl
  z3 := fun _ => by kernel_rfl
  v3 := fun _ => by kernel_rfl
  i3 := by kernel_rfl
  t4 := by kernel_rfl
  a4 := fun _ => by kernel_rfl
  z4 := fun _ => by kernel_rfl
  v4 := fun _ => by kernel_rfl
  i4 := by kernel_rfl
  t5 := by kernel_rfl
  a5 := fun _ => by kernel_rfl
  z5 := fun _ => by kernel_rfl
  v5 := fun _ => by kernel_rfl
  i5 := by kernel_rfl
  t22 := by kernel_rfl
  a22 := fun _ => by kernel_rfl
  z22 := fun _ => by kernel_rfl
  v22 := fun _ => by kernel_rfl
  i22 := by kernel_rfl
  t25 := by kernel_rfl
  a25 := fun _ => by kernel_rfl
  z25 := fun _ => by kernel_rfl
  v25 := fun _ => by kernel_rfl
  i25 := by kernel_rfl
  t54 := by kernel_rfl
  a54 := fun _ => by kernel_rfl
  z54 := fun _ => by kernel_rfl
  g1 := by kernel_rfl

/-- The table that TrailingZeros64 reads. -/
def Tab (w : World) : Prop := TabAt 5 Lib.deBruijn64tab w

theorem Tab.below {w w' : World} (h : Tab w) (hb : Below w.heap.size w w') : Tab w' := by
  intro j hj
  have hc := h j hj
  rw [hb.cell (p := ⟨5, j, none⟩) (cell_lt hc)]
  exact hc

theorem tz64 (x : Int) (w : World) (h0 : 0 < x) (h1 : x < 18446744073709551616) (hT : Tab w) :
    Calls Tryz.prog 128 #[.int .u64 x] w fun e w' => ∃ (t : Nat) (m : Int), e = .returned (.int .i64 t) ∧ t ≤ 63 ∧ Hid (x = 2 ^ t * (2 * m + 1)) ∧ w' = w := by
  obtain ⟨n, rfl⟩ := Int.eq_ofNat_of_zero_le (show 0 ≤ x by omega)
  refine (Any7.bits_TrailingZeros64 tzLays n (by omega) w (fun _ => hT)).mono ?_
  rintro e w' ⟨rfl, rfl⟩
  obtain ⟨m, hm, hlt⟩ := Lib.ctzFrom_spec 64 n (by omega) (by simpa using (show n < 18446744073709551616 by omega))
  refine ⟨Lib.ctzFrom 64 n, m, by rw [Lib.ctz, if_neg (by omega)], by omega, ?_, rfl⟩
  show (n : Int) = _
  have e : ((2 ^ Lib.ctzFrom 64 n * (2 * m + 1) : Nat) : Int) = 2 ^ Lib.ctzFrom 64 n * (2 * (m : Int) + 1) := by simp
  rw [← e, ← hm]

set_option maxHeartbeats 1000000 in
theorem trail_any (p : Option Addr) (n cap : Nat) (zs : List Int) (w : World) (ha : Arg w p n cap zs) (hT : Tab w) :
    Calls Tryz.prog 205 #[.slice p n cap] w fun e w' => ∃ t : Nat, e = .returned (.int .i64 t) ∧ Nm.Trl (Nm.val zs) t ∧ w' = w := by
  obtain ⟨a1, a2, a3, a4, a5⟩ := ha
  rcases a4 with rfl | ⟨b, off, rfl, hcell⟩
  · have hn0 : n = 0 := by simpa using a1.symm
    subst hn0
    go_enter Tryz.func205, Tryz.ntmps205
    go_wp2
    refine wp_loop_rounds 1 ?_
    rw [rounds_succ]
    go_wp2
    go_ret
    exact ⟨0, rfl, .inl ⟨rfl, rfl⟩, rfl⟩
  · have H := hid a1
    have HC := hid hcell
    have HT := hid hT
    clear a1 hcell hT
    go_enter Tryz.func205, Tryz.ntmps205
    go_wp2
    go_loop [7] (fun t => ∃ k : Nat, k ≤ n ∧ t = .int .i64 k ∧ Hid (∀ j, j < k → zs.getD j 0 = 0)) (fun t => n - (intOf t).toNat)
    case atStart => exact ⟨0, Nat.zero_le _, rfl, fun j hj => by omega⟩
    case round =>
      obtain ⟨k, hk, rfl, hz⟩ := hrel
      by_cases hlt : k < n
      · obtain ⟨x, hx, X⟩ : ∃ x, w.cell? ⟨b, off + k, none⟩ = some (.int .u64 x) ∧ Hid (x = zs.getD k 0) := ⟨_, HC.out k (by have := H.out; omega), rfl⟩
        by_cases hx0 : x = 0
        · have hx0' : (x != 0) = false := by simp [hx0]
          have X0 := hid hx0
          clear hx0
          go_wp2
          go_round
          case rel =>
            refine ⟨k + 1, by omega, by go_num, fun i hi => ?_⟩
            by_cases e : i = k
            · subst e; rw [← X.out]; exact X0.out
            · exact hz.out i (by omega)
          case measure => simp [intOf]; omega
        · have hx0' : (x != 0) = true := by simp [hx0]
          have hxb := a5.at k
          rw [← X.out] at hxb
          have hx1 : 0 < x := by omega
          obtain ⟨hxa, hxb⟩ := hxb
          go_wp2_with fail
          refine (tz64 x _ hx1 hxb HT.out).mono ?_
          rintro e w' ⟨t, m, rfl, ht, E, rfl⟩
          go_wp2_with fail
          go_ret
          refine ⟨64 * k + t, retI (by omega), Nm.trl_at zs k t m (by have := H.out; omega) hz.out (by rw [← X.out]; exact E.out) ht, rfl⟩
      · have E : Hid (Nm.val zs = 0) := by
          have h0 : Nm.tsize zs = 0 := Nm.tsize_unique zs 0 (fun j _ => by
            by_cases hj : j < k
            · exact hz.out j hj
            · simp [List.getD, List.getElem?_eq_none (show zs.length ≤ j by have := H.out; omega)]) (.inl rfl)
          exact (Nm.tsize_zero_iff a5).1 h0
        go_wp2
        go_ret
        exact ⟨0, rfl, .inl ⟨E.out, rfl⟩, rfl⟩

end Go.Proofs.YtbmlkfkhmaahnaaGreatDoor

/-
  A state as one predicate: what it says of the memory, and that only new memory was written.
-/
namespace Go.Proofs.YtbmlkfkhmaahnaaGreatDoor
open Go Go.RowKit Go.Deep

structure St (S : World → Prop) (w wx : World) : Prop where
  cells : S wx
  bel : Below w.heap.size w wx

def Stays (S : World → Prop) : Prop := ∀ wx w' : World, S wx → Below wx.heap.size wx w' → S w'

theorem St.on {S : World → Prop} {w wx w' : World} (h : St S w wx) (k : Stays S) (hB : Below wx.heap.size wx w') : St S w w' := ⟨k _ _ h.cells hB, h.bel.trans (hB.mono h.bel.size)⟩
theorem St.drew {S : World → Prop} {w wx : World} (h : St S w wx) (k : Stays S) : St S w wx.drew := h.on k ⟨rfl, rfl, rfl, Nat.le_refl _, fun _ _ => rfl⟩
theorem St.more {S T : World → Prop} {w wx w' : World} (h : St S w wx) (k : Stays S) (hB : Below wx.heap.size wx w') (t : T w') : St (fun x => S x ∧ T x) w w' := ⟨⟨k _ _ h.cells hB, t⟩, h.bel.trans (hB.mono h.bel.size)⟩
theorem St.imp {S T : World → Prop} {w wx : World} (h : St S w wx) (k : ∀ x, S x → T x) : St T w wx := ⟨k _ h.cells, h.bel⟩
theorem St.to {S T : World → Prop} {w wx w' : World} (h : St S w wx) (hB : Below wx.heap.size wx w') (t : T w') : St T w w' := ⟨t, h.bel.trans (hB.mono h.bel.size)⟩

theorem Stays.cell (a : Addr) (v : Value) : Stays (fun w => w.cell? a = some v) := fun _ _ h hB => (hB.cell (cell_lt h)).trans h
theorem Stays.and {S T : World → Prop} (h : Stays S) (k : Stays T) : Stays (fun w => S w ∧ T w) := fun _ _ g hB => ⟨h _ _ g.1 hB, k _ _ g.2 hB⟩
theorem Stays.ans (B : Nat) (p : Option Addr) (os : List Int) (v : Int) : Stays (fun w => Ans B w p os v) := fun _ _ h hB => h.below hB (Nat.le_refl _)
theorem Stays.arg (p : Option Addr) (n cap : Nat) (os : List Int) : Stays (fun w => Arg w p n cap os) := fun _ _ h hB => h.below hB (Nat.le_refl _)
theorem Stays.tab : Stays Tab := fun _ _ h hB => h.below hB
theorem Stays.bel (w : World) : Stays (fun x => Below w.heap.size w x) := fun _ _ h hB => h.trans (hB.mono h.size)
theorem Stays.const (p : Prop) : Stays (fun _ => p) := fun _ _ h _ => h

/-- The state under a name of its own. -/
theorem state (S : World → Prop) (w : World) (k : Stays S) : ∃ SS : World → Prop, Hid (∀ wx w' : World, SS wx → Below wx.heap.size wx w' → SS w') ∧ Hid (∀ wx : World, SS wx → S wx) ∧ Hid (∀ wx : World, SS wx → Below w.heap.size w wx) ∧ Hid (∀ wx : World, S wx → Below w.heap.size w wx → SS wx) :=
  ⟨St S w, fun _ _ h hB => h.on k hB, fun _ h => h.cells, fun _ h => h.bel, fun _ h b => ⟨h, b⟩⟩

theorem drew_nil (w : World) : Below w.heap.size w w.drew := ⟨rfl, rfl, rfl, Nat.le_refl _, fun _ _ => rfl⟩
end Go.Proofs.YtbmlkfkhmaahnaaGreatDoor
