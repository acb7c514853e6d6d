/-
  Texts put together: VNum2, VOrd, VDl, VMade, VMade2, PoMade, VTrimR, VClone, VDec, VOwn, VDig, VWalk1, VRead0, VRead, VNumb.
-/
import Derived.Test.YtaoaniigbooihaaGreatDoorVNum
import Derived.Lib.ItoaNum
import Derived.Test.YtaoaniigbooihaaGreatDoorRD
import Derived.Test.YtaoaniigbooihaaGreatDoorVStr
import Derived.Shelf.Pu.Clone
import Derived.Laws.ResultCell
import Derived.BigRegion
import Derived.Deep.Cut
import Derived.Deep.RegionHeld3
namespace Go.Proofs.YtaoaniigbooihaaGreatDoor
namespace Sc

theorem z_iff {x : Int} : z x = true ↔ x = 48 := by simp [z]
theorem z_not {x : Int} : z x = false ↔ x ≠ 48 := by simp [z]
theorem z0 : z 0 = false := rfl
theorem lz_run (ds : List Int) : lz ds = run z ds 0 := by simp [lz, run]
theorem pk_rev (ds : List Int) (i : Nat) (h : i < ds.length) : pk ds.reverse i = pk ds (ds.length - 1 - i) := by
  simp only [pk, List.getD]
  rw [List.getElem?_reverse h]
theorem lz_is {ds : List Int} {j : Nat} (h1 : ∀ i, i < j → pk ds i = 48) (h2 : pk ds j ≠ 48) : lz ds = j := by
  rw [lz_run]
  apply run_is z0
  · intro i hi; rw [Nat.zero_add, z_iff]; exact h1 i hi
  · rw [Nat.zero_add, z_not]; exact h2
theorem tz_is {ds : List Int} {k : Nat} (hk : k ≤ ds.length) (h1 : ∀ i, k ≤ i → i < ds.length → pk ds i = 48) (h2 : 0 < k → pk ds (k - 1) ≠ 48) : tz ds = ds.length - k := by
  unfold tz
  apply lz_is
  · intro i hi; rw [pk_rev ds i (by omega)]; exact h1 _ (by omega) (by omega)
  · by_cases c : k = 0
    · subst c; rw [pk_ge (by simp)]; omega
    · rw [pk_rev ds _ (by omega), show ds.length - 1 - (ds.length - k) = k - 1 by omega]; exact h2 (by omega)
theorem lz_le (ds : List Int) : lz ds ≤ ds.length := by rw [lz_run]; have := run_le z ds 0; omega
theorem lz_at {ds : List Int} {i : Nat} (h : i < lz ds) : pk ds i = 48 := by
  rw [lz_run] at h
  have := run_all i h
  rw [Nat.zero_add, z_iff] at this; exact this
theorem lz_end (ds : List Int) : pk ds (lz ds) ≠ 48 := by
  rw [lz_run]
  have := run_end z0 (xs := ds) _ 0 rfl
  rw [Nat.zero_add, z_not] at this; exact this
theorem tz_le (ds : List Int) : tz ds ≤ ds.length := by unfold tz; have := lz_le ds.reverse; simpa using this
theorem tz_at {ds : List Int} {i : Nat} (h : ds.length - tz ds ≤ i) (hi : i < ds.length) : pk ds i = 48 := by
  have := lz_at (ds := ds.reverse) (i := ds.length - 1 - i) (by unfold tz at h; have := tz_le ds; unfold tz at this; omega)
  rw [pk_rev ds _ (by omega)] at this
  rw [show ds.length - 1 - (ds.length - 1 - i) = i by omega] at this; exact this
theorem tz_end {ds : List Int} (h : tz ds < ds.length) : pk ds (ds.length - tz ds - 1) ≠ 48 := by
  have := lz_end ds.reverse
  unfold tz at *
  rw [pk_rev ds _ h] at this
  rw [show ds.length - lz ds.reverse - 1 = ds.length - 1 - lz ds.reverse by omega]; exact this
/-- Where not all digits are zeros, the zeros at the head and at the end don't meet. -/
theorem lz_tz {ds : List Int} (h : lz ds ≠ ds.length) : lz ds + tz ds < ds.length := by
  have h1 := lz_le ds
  have h2 := lz_end ds
  have h3 := tz_le ds
  rcases Nat.lt_or_ge (lz ds + tz ds) ds.length with c | c
  · exact c
  · exact absurd (tz_at (ds := ds) (i := lz ds) (by omega) (by omega)) h2

theorem nrm_zero {neg : Bool} {ds : List Int} {e : Int} (h : lz ds = ds.length) : nrm neg ds e = ⟨neg, [48], 0⟩ := by unfold nrm; rw [if_pos h]
theorem nrm_pos {neg : Bool} {ds : List Int} {e : Int} (h : lz ds ≠ ds.length) : nrm neg ds e = ⟨neg, (ds.drop (lz ds)).take (ds.length - tz ds - lz ds), e + tz ds⟩ := by unfold nrm; rw [if_neg h]
theorem nrm_neg (neg : Bool) (ds : List Int) (e : Int) : (nrm neg ds e).neg = neg := by unfold nrm; split <;> rfl

/-- What two trims leave is the normal form. -/
theorem nrm_of_trims {neg : Bool} {ds : List Int} {e : Int} {j k : Nat} (hj : j < ds.length) (h1 : ∀ i, i < j → ds.getD i 0 = 48) (h2 : ds.getD j 0 ≠ 48)
    (hk : k ≤ (ds.drop j).length) (h3 : ∀ i, k ≤ i → i < (ds.drop j).length → (ds.drop j).getD i 0 = 48) (h4 : 0 < k → (ds.drop j).getD (k - 1) 0 ≠ 48) :
    nrm neg ds e = ⟨neg, (ds.drop j).take k, e + (ds.drop j).length - k⟩ ∧ 0 < k := by
  have e1 : lz ds = j := lz_is h1 h2
  have hd : ∀ i, (ds.drop j).getD i 0 = pk ds (j + i) := fun i => pk_drop ds j i
  rw [List.length_drop] at *
  have k0 : 0 < k := by
    rcases Nat.eq_zero_or_pos k with c | c
    · subst c
      have := h3 0 (Nat.le_refl _) (by omega)
      rw [hd] at this
      exact absurd this h2
    · exact c
  have e2 : tz ds = ds.length - (j + k) := by
    apply tz_is (by omega)
    · intro i hi1 hi2
      have := h3 (i - j) (by omega) (by omega)
      rw [hd, show j + (i - j) = i by omega] at this; exact this
    · intro _
      have := h4 k0
      rw [hd, show j + (k - 1) = j + k - 1 by omega] at this; exact this
  refine ⟨?_, k0⟩
  rw [nrm_pos (by omega), e1, e2, show ds.length - (ds.length - (j + k)) - j = k by omega]
  congr 1
  omega
theorem nrm_of_none {neg : Bool} {ds : List Int} {e : Int} (h : ∀ i, i < ds.length → ds.getD i 0 = 48) : nrm neg ds e = ⟨neg, [48], 0⟩ := by
  apply nrm_zero
  have h1 := lz_le ds
  have h2 := lz_end ds
  rcases Nat.lt_or_ge (lz ds) ds.length with c | c
  · exact absurd (h _ c) h2
  · omega

/-- What Number answers: the Dec and the place. -/
def num (xs : List Int) : D × Nat := if some? xs (run bl xs 0) then ((lit xs (run bl xs 0)).d, (lit xs (run bl xs 0)).en) else (⟨false, [], 0⟩, 0)
/-- What Whole answers. -/
def whl (xs : List Int) : D × Bool := if some? xs (run bl xs 0) ∧ (lit xs (run bl xs 0)).en + run bl xs (lit xs (run bl xs 0)).en = xs.length then ((lit xs (run bl xs 0)).d, true) else (⟨false, [], 0⟩, false)
theorem nrm_len (neg : Bool) (ds : List Int) (e : Int) : (nrm neg ds e).ds.length ≤ ds.length + 1 := by
  unfold nrm
  split
  · simp
  · simp only [List.length_take, List.length_drop]; omega
theorem nrm_e (neg : Bool) (ds : List Int) (e : Int) : (nrm neg ds e).e = 0 ∨ (e ≤ (nrm neg ds e).e ∧ (nrm neg ds e).e ≤ e + ds.length) := by
  unfold nrm
  split
  · exact .inl rfl
  · have := tz_le ds
    refine .inr ⟨?_, ?_⟩
    · show e ≤ e + tz ds; omega
    · show e + (tz ds : Int) ≤ e + ds.length; omega
theorem lit_len (xs : List Int) (k : Nat) : (lit xs k).ah.length + (lit xs k).bh.length ≤ xs.length := by
  show ((xs.drop _).take _).length + ((xs.drop _).take _).length ≤ _
  simp only [List.length_take, List.length_drop]
  have : p1 xs k + run dg xs (p1 xs k) = p2 xs k := rfl
  omega
theorem lit_sc (xs : List Int) (k : Nat) : -1000000000000000 ≤ (lit xs k).sc ∧ (lit xs k).sc ≤ 1000000000000000 := by
  have h : 0 ≤ cap ((xs.drop (p4 xs (p3 xs k))).take (run dg xs (p4 xs (p3 xs k)))) ∧ cap ((xs.drop (p4 xs (p3 xs k))).take (run dg xs (p4 xs (p3 xs k)))) ≤ 1000000000000000 := by
    apply cap_b
    intro x hx
    obtain ⟨i, hi, rfl⟩ := List.mem_iff_getElem.1 hx
    rw [List.length_take, List.length_drop] at hi
    have := run_all (p := dg) (xs := xs) (i := p4 xs (p3 xs k)) i (by omega)
    have e : pk xs (p4 xs (p3 xs k) + i) = ((xs.drop (p4 xs (p3 xs k))).take (run dg xs (p4 xs (p3 xs k))))[i] := by
      have hi2 : p4 xs (p3 xs k) + i < xs.length := by omega
      simp [pk, List.getD, hi2]
    rw [← e]; exact this
  unfold lit
  simp only
  split
  · split <;> omega
  · omega

/-- THE LONGEST: what Number takes is whole, and no longer beginning is, but for blanks. -/
theorem run_bl_take (xs : List Int) (m : Nat) : run bl (xs.take m) 0 = min (run bl xs 0) m := by rw [run_take bl0]; simp
theorem num_zero {xs : List Int} (h : (num xs).2 = 0) : num xs = (⟨false, [], 0⟩, 0) ∧ ∀ m, whl (xs.take m) = (⟨false, [], 0⟩, false) := by
  have hn : ¬ some? xs (run bl xs 0) := by
    intro c
    unfold num at h
    rw [if_pos c] at h
    have := (lit_last c).1
    simp only at h
    omega
  refine ⟨by unfold num; rw [if_neg hn], fun m => ?_⟩
  unfold whl
  rw [if_neg]
  rintro ⟨c, -⟩
  rw [run_bl_take] at c
  rcases Nat.lt_or_ge (run bl xs 0) m with d | d
  · rw [show min (run bl xs 0) m = run bl xs 0 by omega] at c
    exact rd_none_take hn d c
  · rw [show min (run bl xs 0) m = m by omega] at c
    exact rd_none_past (Nat.le_refl _) c
theorem num_pos {xs : List Int} (h : 0 < (num xs).2) : some? xs (run bl xs 0) ∧ num xs = ((lit xs (run bl xs 0)).d, (lit xs (run bl xs 0)).en) := by
  by_cases c : some? xs (run bl xs 0)
  · exact ⟨c, by unfold num; rw [if_pos c]⟩
  · unfold num at h; rw [if_neg c] at h; simp at h
theorem num_le (xs : List Int) : (num xs).2 ≤ xs.length := by
  unfold num
  split
  · exact en_le xs _ (by have := run_le bl xs 0; omega)
  · exact Nat.zero_le _
theorem whl_take {xs : List Int} {m : Nat} (h : 0 < (num xs).2) (hm : (num xs).2 ≤ m) (hl : m ≤ xs.length) :
    (whl (xs.take m)).2 = decide ((num xs).2 + run bl (xs.take m) (num xs).2 = m) ∧ ((whl (xs.take m)).2 = true → (whl (xs.take m)).1 = (num xs).1) := by
  obtain ⟨hs, e⟩ := num_pos h
  rw [e] at hm ⊢
  simp only at hm ⊢
  obtain ⟨l1, l2⟩ := lit_take hs hm
  have hk : min (run bl xs 0) m = run bl xs 0 := by have := (lit_last hs).1; omega
  have hle : (xs.take m).length = m := by simp; omega
  unfold whl
  rw [run_bl_take, hk, l2, hle]
  by_cases c : (lit xs (run bl xs 0)).en + run bl (xs.take m) (lit xs (run bl xs 0)).en = m
  · rw [if_pos ⟨l1, c⟩]; exact ⟨by simp [c], fun _ => rfl⟩
  · rw [if_neg (fun d => c d.2)]; exact ⟨by simp [c], fun d => by simp at d⟩
theorem whl_at {xs : List Int} (h : 0 < (num xs).2) : whl (xs.take (num xs).2) = ((num xs).1, true) := by
  obtain ⟨h1, h2⟩ := whl_take h (Nat.le_refl _) (num_le xs)
  have h3 : (whl (xs.take (num xs).2)).2 = true := by
    rw [h1, run_take bl0]; simp
  exact Prod.ext (h2 h3) h3
theorem num_last {xs : List Int} (h : 0 < (num xs).2) : bl (pk xs ((num xs).2 - 1)) = false := by
  obtain ⟨hs, e⟩ := num_pos h
  rw [e]
  exact (lit_last hs).2
theorem whl_more {xs : List Int} {m : Nat} (h : 0 < (num xs).2) (hm : (num xs).2 < m) (hl : m ≤ xs.length) (hb : bl (pk xs (m - 1)) = false) : (whl (xs.take m)).2 = false := by
  rw [(whl_take h (by omega) hl).1, decide_eq_false_iff_not]
  intro c
  have := run_all (p := bl) (xs := xs.take m) (i := (num xs).2) (m - 1 - (num xs).2) (by omega)
  rw [show (num xs).2 + (m - 1 - (num xs).2) = m - 1 by omega, pk_take, if_pos (by omega), hb] at this
  exact absurd this (by simp)
end Sc
end Go.Proofs.YtaoaniigbooihaaGreatDoor

namespace Go.Proofs.YtaoaniigbooihaaGreatDoor
namespace Sc

def big : Int := 1152921504606846976
/-- A Dec, by the chapter's words. -/
def IsDec (ds : List Int) (e : Int) : Prop := ds ≠ [] ∧ -1152921504606846976 ≤ e ∧ e ≤ 1152921504606846976 ∧ (∀ x ∈ ds, dg x = true) ∧ (lz ds ≠ ds.length → e + tz ds ≤ 1152921504606846976)
instance (ds : List Int) (e : Int) : Decidable (IsDec ds e) := inferInstanceAs (Decidable (_ ∧ _ ∧ _ ∧ _ ∧ _))

def cmpI (x y : Int) : Int := if x < y then -1 else if y < x then 1 else 0
theorem cmpI_c (x y : Int) : (x < y ∧ cmpI x y = -1) ∨ (x = y ∧ cmpI x y = 0) ∨ (y < x ∧ cmpI x y = 1) := by
  unfold cmpI
  rcases Int.lt_trichotomy x y with h | h | h
  · exact .inl ⟨h, by rw [if_pos h]⟩
  · exact .inr (.inl ⟨h, by rw [if_neg (by omega), if_neg (by omega)]⟩)
  · exact .inr (.inr ⟨h, by rw [if_neg (by omega), if_pos h]⟩)
def lex : List Int → List Int → Int
  | [], [] => 0
  | [], _ :: _ => -1
  | _ :: _, [] => 1
  | a :: as, b :: bs => if a < b then -1 else if b < a then 1 else lex as bs
theorem lex_b (a b : List Int) : lex a b = -1 ∨ lex a b = 0 ∨ lex a b = 1 := by
  induction a generalizing b with
  | nil => cases b <;> simp [lex]
  | cons x a ih =>
    cases b with
    | nil => simp [lex]
    | cons y b => simp only [lex]; split; · simp
                  · split; · simp
                    · exact ih b
theorem lex_anti (a b : List Int) : lex b a = - lex a b := by
  induction a generalizing b with
  | nil => cases b <;> simp [lex]
  | cons x a ih =>
    cases b with
    | nil => simp [lex]
    | cons y b =>
      simp only [lex]
      rcases Int.lt_trichotomy x y with h | h | h
      · rw [if_neg (by omega), if_pos h, if_pos h]; rfl
      · rw [if_neg (by omega), if_neg (by omega), if_neg (by omega), if_neg (by omega)]; exact ih b
      · rw [if_pos h, if_neg (by omega), if_pos h]
theorem lex_zero (a b : List Int) : lex a b = 0 ↔ a = b := by
  induction a generalizing b with
  | nil => cases b <;> simp [lex]
  | cons x a ih =>
    cases b with
    | nil => simp [lex]
    | cons y b =>
      simp only [lex]
      rcases Int.lt_trichotomy x y with h | h | h
      · rw [if_pos h]; simp; omega
      · subst h; simp [ih]
      · rw [if_neg (by omega), if_pos h]; simp; omega
theorem lex_trans (a b c : List Int) : lex a b ≤ 0 → lex b c ≤ 0 → lex a c ≤ 0 ∧ (lex a c = 0 → lex a b = 0 ∧ lex b c = 0) := by
  induction a generalizing b c with
  | nil =>
    cases b with
    | nil => cases c <;> simp [lex]
    | cons y b => cases c <;> simp [lex]
  | cons x a ih =>
    cases b with
    | nil => simp [lex]
    | cons y b =>
      cases c with
      | nil => simp [lex]
      | cons z c =>
        simp only [lex]
        rcases Int.lt_trichotomy x y with h | h | h
        · rcases Int.lt_trichotomy y z with k | k | k
          · rw [if_pos h, if_pos k, if_pos (show x < z by omega)]; simp
          · rw [if_pos h, if_neg (show ¬ y < z by omega), if_neg (show ¬ z < y by omega), if_pos (show x < z by omega)]; simp
          · rw [if_neg (show ¬ y < z by omega), if_pos k]; simp
        · subst h
          rw [if_neg (show ¬ x < x by omega), if_neg (show ¬ x < x by omega)]
          rcases Int.lt_trichotomy x z with k | k | k
          · simp [k]
          · subst k; simp only [Int.lt_irrefl, if_false]; exact ih b c
          · simp [show ¬ x < z by omega, k]
        · rw [if_neg (show ¬ x < y by omega), if_pos h]; simp

/-- Sizes alone. -/
def pl (d : D) : Int := d.e + d.ds.length
def mc (a b : D) : Int := if pl a ≠ pl b then cmpI (pl a) (pl b) else lex a.ds b.ds
def sgn (d : D) : Int := if d.ds = [48] then 0 else if d.neg = true then -1 else 1
/-- What Cmp answers of two normal Decs. -/
def cmpD (a b : D) : Int := if sgn a ≠ sgn b then cmpI (sgn a) (sgn b) else if a.neg = true then mc b a else mc a b

theorem mc_b (a b : D) : mc a b = -1 ∨ mc a b = 0 ∨ mc a b = 1 := by
  unfold mc
  split
  · rcases cmpI_c (pl a) (pl b) with h | h | h <;> omega
  · exact lex_b _ _
theorem mc_anti (a b : D) : mc b a = - mc a b := by
  unfold mc
  by_cases h : pl a = pl b
  · rw [if_neg (by omega), if_neg (by omega)]; exact lex_anti _ _
  · rw [if_pos (by omega), if_pos h]
    rcases cmpI_c (pl a) (pl b) with k | k | k <;> rcases cmpI_c (pl b) (pl a) with l | l | l <;> omega
theorem mc_zero (a b : D) : mc a b = 0 ↔ a.ds = b.ds ∧ a.e = b.e := by
  unfold mc
  by_cases h : pl a = pl b
  · rw [if_neg (by omega), lex_zero]
    unfold pl at h
    constructor
    · intro k; rw [k] at h; exact ⟨k, by omega⟩
    · exact fun k => k.1
  · rw [if_pos h]
    constructor
    · intro k; rcases cmpI_c (pl a) (pl b) with l | l | l <;> omega
    · intro k; exfalso; apply h; unfold pl; rw [k.1, k.2]
theorem mc_trans (a b c : D) : mc a b ≤ 0 → mc b c ≤ 0 → mc a c ≤ 0 ∧ (mc a c = 0 → mc a b = 0 ∧ mc b c = 0) := by
  unfold mc
  have h1 := cmpI_c (pl a) (pl b)
  have h2 := cmpI_c (pl b) (pl c)
  have h3 := cmpI_c (pl a) (pl c)
  have l1 := lex_trans a.ds b.ds c.ds
  split <;> split <;> split <;> omega

/-- A normal Dec. -/
def Nrm (d : D) : Prop := (d.ds = [48] ∧ d.e = 0) ∨ d.ds ≠ [48]
theorem sgn_c (d : D) : (d.ds = [48] ∧ sgn d = 0) ∨ (d.ds ≠ [48] ∧ d.neg = true ∧ sgn d = -1) ∨ (d.ds ≠ [48] ∧ d.neg = false ∧ sgn d = 1) := by
  unfold sgn
  by_cases h : d.ds = [48]
  · exact .inl ⟨h, by rw [if_pos h]⟩
  · cases k : d.neg with
    | true => exact .inr (.inl ⟨h, rfl, by rw [if_neg h]; rfl⟩)
    | false => exact .inr (.inr ⟨h, rfl, by rw [if_neg h]; rfl⟩)
theorem mc_both {a b : D} (ha : Nrm a) (hb : Nrm b) (h1 : a.ds = [48]) (h2 : b.ds = [48]) : mc a b = 0 := by
  rw [mc_zero]
  rcases ha with ha | ha
  · rcases hb with hb | hb
    · exact ⟨by rw [h1, h2], by rw [ha.2, hb.2]⟩
    · exact absurd h2 hb
  · exact absurd h1 ha
/-- Cmp by cases. -/
theorem cmpD_c {a b : D} (ha : Nrm a) (hb : Nrm b) :
    (sgn a < sgn b ∧ cmpD a b = -1) ∨ (sgn b < sgn a ∧ cmpD a b = 1) ∨ (sgn a = 0 ∧ sgn b = 0 ∧ cmpD a b = 0) ∨ (sgn a = -1 ∧ sgn b = -1 ∧ cmpD a b = - mc a b) ∨ (sgn a = 1 ∧ sgn b = 1 ∧ cmpD a b = mc a b) := by
  have e := mc_anti a b
  have z := mc_both ha hb
  unfold cmpD
  rcases sgn_c a with ⟨a1, a2⟩ | ⟨a1, a3, a2⟩ | ⟨a1, a3, a2⟩ <;> rcases sgn_c b with ⟨b1, b2⟩ | ⟨b1, b3, b2⟩ | ⟨b1, b3, b2⟩
  all_goals rw [a2, b2]
  · have := z a1 b1
    rw [if_neg (by omega)]
    split <;> omega
  · rw [if_pos (by omega)]; exact .inr (.inl ⟨by omega, rfl⟩)
  · rw [if_pos (by omega)]; exact .inl ⟨by omega, rfl⟩
  · rw [if_pos (by omega)]; exact .inl ⟨by omega, rfl⟩
  · rw [if_neg (by omega), if_pos a3]; omega
  · rw [if_pos (by omega)]; exact .inl ⟨by omega, rfl⟩
  · rw [if_pos (by omega)]; exact .inr (.inl ⟨by omega, rfl⟩)
  · rw [if_pos (by omega)]; exact .inr (.inl ⟨by omega, rfl⟩)
  · rw [if_neg (by omega), if_neg (by rw [a3]; simp)]; omega

theorem cmpD_b {a b : D} (ha : Nrm a) (hb : Nrm b) : -1 ≤ cmpD a b ∧ cmpD a b ≤ 1 := by
  have h := cmpD_c ha hb
  have k := mc_b a b
  omega
theorem cmpD_anti {a b : D} (ha : Nrm a) (hb : Nrm b) : cmpD b a = - cmpD a b := by
  have h := cmpD_c ha hb
  have k := cmpD_c hb ha
  have e := mc_anti a b
  omega
theorem cmpD_trans {a b c : D} (ha : Nrm a) (hb : Nrm b) (hc : Nrm c) : cmpD a b ≤ 0 → cmpD b c ≤ 0 → cmpD a c ≤ 0 ∧ (cmpD a c = 0 → cmpD a b = 0 ∧ cmpD b c = 0) := by
  have h1 := cmpD_c ha hb
  have h2 := cmpD_c hb hc
  have h3 := cmpD_c ha hc
  have t1 := mc_trans a b c
  have t2 := mc_trans c b a
  have e1 := mc_anti a b
  have e2 := mc_anti b c
  have e3 := mc_anti a c
  have s1 := sgn_c a
  have s2 := sgn_c b
  have s3 := sgn_c c
  omega
theorem cmpD_zero {a b : D} (ha : Nrm a) (hb : Nrm b) : cmpD a b = 0 ↔ (a = b ∨ (a.ds = [48] ∧ b.ds = [48])) := by
  have h1 := cmpD_c ha hb
  have z := mc_zero a b
  constructor
  · intro h
    rcases sgn_c a with ⟨a1, a2⟩ | ⟨a1, a3, a2⟩ | ⟨a1, a3, a2⟩ <;> rcases sgn_c b with ⟨b1, b2⟩ | ⟨b1, b3, b2⟩ | ⟨b1, b3, b2⟩ <;> first | exact .inr ⟨a1, b1⟩ | (exfalso; omega) | skip
    · obtain ⟨z1, z2⟩ := z.1 (by omega)
      left
      cases a; cases b; simp_all
    · obtain ⟨z1, z2⟩ := z.1 (by omega)
      left
      cases a; cases b; simp_all
  · rintro (rfl | ⟨a1, b1⟩)
    · have := z.2 ⟨rfl, rfl⟩
      omega
    · have s1 : sgn a = 0 := by unfold sgn; rw [if_pos a1]
      have s2 : sgn b = 0 := by unfold sgn; rw [if_pos b1]
      omega
/-- The same sizes, the same signs: one answer. -/
theorem cmpD_alike {a b a' b' : D} (ha : Nrm a) (hb : Nrm b) (ha' : Nrm a') (hb' : Nrm b') (h1 : sgn a' = sgn a) (h2 : sgn b' = sgn b) (h : sgn a ≠ 0 → sgn b ≠ 0 → mc a' b' = mc a b) : cmpD a' b' = cmpD a b := by
  have k := cmpD_c ha hb
  have l := cmpD_c ha' hb'
  by_cases c1 : sgn a = 0
  · omega
  · by_cases c2 : sgn b = 0
    · omega
    · have := h c1 c2; omega
theorem cmpD_turn {a b a' b' : D} (ha : Nrm a) (hb : Nrm b) (ha' : Nrm a') (hb' : Nrm b') (h1 : sgn a' = - sgn a) (h2 : sgn b' = - sgn b) (h : sgn a ≠ 0 → sgn b ≠ 0 → mc a' b' = mc a b) : cmpD a' b' = - cmpD a b := by
  have k := cmpD_c ha hb
  have l := cmpD_c ha' hb'
  by_cases c1 : sgn a = 0
  · omega
  · by_cases c2 : sgn b = 0
    · omega
    · have := h c1 c2; omega

theorem nrm_is (neg : Bool) (ds : List Int) (e : Int) : Nrm (nrm neg ds e) := by
  by_cases h : lz ds = ds.length
  · rw [nrm_zero h]; exact .inl ⟨rfl, rfl⟩
  · rw [nrm_pos h]
    right
    intro c
    have h1 := lz_end ds
    have h2 := lz_tz h
    have : pk ((ds.drop (lz ds)).take (ds.length - tz ds - lz ds)) 0 = pk ds (lz ds) := by
      rw [pk_take, if_pos (by omega), pk_drop]; rfl
    simp only at c
    rw [c] at this
    exact h1 this.symm
theorem nrm_ds_one {neg : Bool} {ds : List Int} {e : Int} : (nrm neg ds e).ds = [48] ↔ lz ds = ds.length := by
  constructor
  · intro h
    by_cases c : lz ds = ds.length
    · exact c
    · exfalso
      have := nrm_is neg ds e
      rw [nrm_pos c] at this h
      rcases this with k | k
      · have h1 := lz_end ds
        have h2 := lz_tz c
        have e2 : pk ((ds.drop (lz ds)).take (ds.length - tz ds - lz ds)) 0 = pk ds (lz ds) := by
          rw [pk_take, if_pos (by omega), pk_drop]; rfl
        simp only at h
        rw [h] at e2
        exact h1 e2.symm
      · exact k h
  · intro h; rw [nrm_zero h]
theorem sgn_nrm (neg : Bool) (ds : List Int) (e : Int) : sgn (nrm neg ds e) = if lz ds = ds.length then 0 else if neg = true then -1 else 1 := by
  unfold sgn
  rw [nrm_neg]
  by_cases c : lz ds = ds.length
  · rw [if_pos c, if_pos (nrm_ds_one.2 c)]
  · rw [if_neg c, if_neg (fun h => c (nrm_ds_one.1 h))]
theorem mc_moved {n1 n2 m1 m2 : Bool} {d1 d2 : List Int} {e1 e2 k : Int} (h1 : lz d1 ≠ d1.length) (h2 : lz d2 ≠ d2.length) : mc (nrm m1 d1 (e1 + k)) (nrm m2 d2 (e2 + k)) = mc (nrm n1 d1 e1) (nrm n2 d2 e2) := by
  rw [nrm_pos h1, nrm_pos h2, nrm_pos h1, nrm_pos h2]
  unfold mc pl cmpI
  simp only
  generalize List.length _ = x
  generalize List.length _ = y
  by_cases c : e1 + tz d1 + x = e2 + tz d2 + y
  · rw [if_neg (by omega), if_neg (by omega)]
  · rw [if_pos (by omega), if_pos c]
    by_cases g : e1 + tz d1 + x < e2 + tz d2 + y
    · rw [if_pos (by omega), if_pos g]
    · rw [if_neg (by omega), if_neg g, if_pos (by omega), if_pos (by omega)]
theorem nrm_tail (neg : Bool) (ds : List Int) (e : Int) : nrm neg ([48, 48] ++ ds ++ [48, 48, 48]) (e - 3) = nrm neg ds e := by
  by_cases c : lz ds = ds.length
  · rw [nrm_zero c]
    apply nrm_of_none
    intro i hi
    show pk _ i = 48
    rw [pk_append]
    split
    · rw [pk_append]
      split
      · next h1 h2 => simp at h2; rcases (show i = 0 ∨ i = 1 by omega) with rfl | rfl <;> rfl
      · next h1 h2 => simp at h1 h2; exact lz_at (by simp; omega)
    · next h1 =>
      simp at h1 hi ⊢
      rcases (show i - (ds.length + 1 + 1) = 0 ∨ i - (ds.length + 1 + 1) = 1 ∨ i - (ds.length + 1 + 1) = 2 by omega) with h | h | h <;> rw [h] <;> rfl
  · have h1 := lz_tz c
    have h2 := lz_le ds
    have e1 : lz ([48, 48] ++ ds ++ [48, 48, 48]) = lz ds + 2 := by
      apply lz_is
      · intro i hi
        rw [pk_append, if_pos (by simp; omega), pk_append]
        split
        · next h => simp at h; rcases (show i = 0 ∨ i = 1 by omega) with rfl | rfl <;> rfl
        · next h => simp at h; exact lz_at (by simp; omega)
      · rw [pk_append, if_pos (by simp; omega), pk_append, if_neg (by simp)]
        simp only [List.length_cons, List.length_nil, Nat.add_sub_cancel]
        exact lz_end ds
    have e2 : tz ([48, 48] ++ ds ++ [48, 48, 48]) = tz ds + 3 := by
      have h3 := tz_le ds
      have := tz_is (ds := [48, 48] ++ ds ++ [48, 48, 48]) (k := ds.length - tz ds + 2) (by simp; omega) ?_ ?_
      · rw [this]; simp; omega
      · intro i hi1 hi2
        rw [pk_append]
        split
        · next h =>
          simp at h
          rw [pk_append, if_neg (by simp; omega)]
          exact tz_at (by simp; omega) (by simp; omega)
        · next h =>
          simp at h hi2 ⊢
          rcases (show i - (ds.length + 1 + 1) = 0 ∨ i - (ds.length + 1 + 1) = 1 ∨ i - (ds.length + 1 + 1) = 2 by omega) with h | h | h <;> rw [h] <;> rfl
      · intro _
        rw [pk_append, if_pos (by simp; omega), pk_append, if_neg (by simp; omega)]
        have := tz_end (ds := ds) (by omega)
        simp only [List.length_cons, List.length_nil]
        rw [show ds.length - tz ds + 2 - 1 - (0 + 1 + 1) = ds.length - tz ds - 1 by omega]; exact this
    rw [nrm_pos (by rw [e1]; simp; omega), nrm_pos c, e1, e2]
    have el : ([48, 48] ++ ds ++ [48, 48, 48]).length - (tz ds + 3) - (lz ds + 2) = ds.length - tz ds - lz ds := by simp; omega
    rw [el]
    have ed : (List.drop (lz ds + 2) ([48, 48] ++ ds ++ [48, 48, 48])).take (ds.length - tz ds - lz ds) = (ds.drop (lz ds)).take (ds.length - tz ds - lz ds) := by
      rw [List.append_assoc, List.drop_append, List.drop_of_length_le (by simp)]
      simp only [List.length_cons, List.length_nil, List.nil_append]
      rw [show lz ds + 2 - (0 + 1 + 1) = lz ds by omega, List.drop_append_of_le_length h2, List.take_append_of_le_length (by simp; omega)]
    rw [ed]
    congr 1
    push_cast
    omega
end Sc
end Go.Proofs.YtaoaniigbooihaaGreatDoor

namespace Go.Proofs.YtaoaniigbooihaaGreatDoor
namespace Sc

/-- A number's digits, as bytes. -/
def dl (u : Nat) : List Int := (Lib.decDigits u).map fun b => (b.toNat : Int)
theorem dl_small {u : Nat} (h : u < 10) : dl u = [48 + (u : Int)] := by
  unfold dl
  rw [Lib.decDigits_one h]
  simp only [List.map_cons, List.map_nil]
  rw [UInt8.toNat_ofNat_of_lt' (by show 48 + u < 256; omega)]
  simp
theorem dl_big {u : Nat} (h : ¬ u < 10) : dl u = dl (u / 10) ++ [48 + ((u % 10 : Nat) : Int)] := by
  unfold dl
  rw [Lib.decDigits, dif_neg h, List.map_append]
  simp only [List.map_cons, List.map_nil]
  rw [UInt8.toNat_ofNat_of_lt' (by show 48 + u % 10 < 256; omega)]
  simp
theorem dl_is (u : Nat) : (∀ x ∈ dl u, dg x = true) ∧ dl u ≠ [] ∧ cap (dl u) = min (u : Int) 1000000000000000 := by
  induction u using Nat.strongRecOn with
  | _ u ih =>
    by_cases h : u < 10
    · rw [dl_small h]
      refine ⟨fun x hx => ?_, by simp, ?_⟩
      · rw [List.mem_singleton] at hx; subst hx; rw [dg_iff]; omega
      · have := cap_snoc [] (48 + (u : Int))
        rw [List.nil_append, cap_nil] at this
        rw [this]; omega
    · obtain ⟨h1, h2, h3⟩ := ih (u / 10) (by omega)
      rw [dl_big h]
      refine ⟨fun x hx => ?_, by simp, ?_⟩
      · rw [List.mem_append, List.mem_singleton] at hx
        rcases hx with hx | hx
        · exact h1 x hx
        · subst hx; rw [dg_iff]; omega
      · rw [cap_snoc, h3]; omega

theorem run_app {p : Int → Bool} (hp : p 0 = false) {as' bs cs : List Int} (h1 : ∀ x ∈ bs, p x = true) (h2 : p (pk cs 0) = false) : run p (as' ++ bs ++ cs) as'.length = bs.length := by
  apply run_is hp
  · intro j hj
    rw [pk_append, if_pos (by simp; omega), pk_append, if_neg (by omega), show as'.length + j - as'.length = j by omega]
    apply h1
    simp [pk, List.getD, hj]
  · rw [pk_append, if_neg (by simp), show as'.length + bs.length - (as' ++ bs).length = 0 by simp]
    exact h2
theorem take_app {as' bs cs : List Int} : ((as' ++ bs ++ cs).drop as'.length).take bs.length = bs := by
  rw [List.append_assoc, List.drop_left, List.take_left]

/-- Digits that are there, all digits. -/
def Dig (ds : List Int) : Prop := ds ≠ [] ∧ ∀ x ∈ ds, dg x = true
theorem Dig.pk0 {ds : List Int} (h : Dig ds) : dg (pk ds 0) = true := by
  obtain ⟨h1, h2⟩ := h
  cases ds with
  | nil => exact absurd rfl h1
  | cons x l => exact h2 x (by simp)

end Sc
end Go.Proofs.YtaoaniigbooihaaGreatDoor

namespace Go.Proofs.YtaoaniigbooihaaGreatDoor
namespace Sc

def sgT (n : Int) : List Int := if n = 1 then [43] else if n = 2 then [45] else []
theorem pk_at (U V : List Int) (i : Nat) : pk (U ++ V) (U.length + i) = pk V i := by rw [pk_append, if_neg (by omega), Nat.add_sub_cancel_left]
theorem pk_at0 (U V : List Int) : pk (U ++ V) U.length = pk V 0 := pk_at U V 0
theorem pk_or (A B : List Int) : pk (A ++ B) 0 = if A = [] then pk B 0 else pk A 0 := by
  cases A with
  | nil => rfl
  | cons x l => rfl
theorem pk_dig {A : List Int} (h : ∀ x ∈ A, dg x = true) (h0 : A ≠ []) : dg (pk A 0) = true := Dig.pk0 ⟨h0, h⟩

/-- The sign at the head. -/
theorem sg_made (P V : List Int) (n : Int) (h : ¬ (pk V 0 = 43 ∨ pk V 0 = 45)) : sg (P ++ sgT n ++ V) P.length = (sgT n).length ∧ (pk (P ++ sgT n ++ V) P.length = 45 ↔ n = 2) := by
  rw [List.append_assoc]
  unfold sg
  rw [pk_at0]
  unfold sgT
  by_cases h1 : n = 1
  · subst h1
    exact ⟨rfl, ⟨fun c => by have : (43 : Int) = 45 := c; omega, fun c => by omega⟩⟩
  · rw [if_neg h1]
    by_cases h2 : n = 2
    · subst h2
      exact ⟨rfl, ⟨fun _ => rfl, fun _ => rfl⟩⟩
    · rw [if_neg h2, List.nil_append, if_neg h]
      exact ⟨rfl, ⟨fun c => absurd (.inr c) h, fun c => absurd c h2⟩⟩

/-- The exponent's part, and its worth. -/
def exL (el : Option Int) (m : Int) (E : Nat) : List Int := match el with | some c => c :: (sgT m ++ dl E) | none => []
def exS (el : Option Int) (m : Int) (E : Nat) : Int := match el with | some _ => if m = 2 then - min (E : Int) 1000000000000000 else min (E : Int) 1000000000000000 | none => 0

/-- The parts of a literal behind P, and what follows. -/
theorem made_lit (P A B tail : List Int) (n m : Int) (pt : Bool) (el : Option Int) (E : Nat) (hA : ∀ x ∈ A, dg x = true) (hB : ∀ x ∈ B, dg x = true) (hne : A.length + (if pt = true then B.length else 0) ≠ 0)
    (hel : ∀ c, el = some c → c = 101 ∨ c = 69) (ht : dg (pk tail 0) = false ∧ pk tail 0 ≠ 46 ∧ isE (pk tail 0) = false ∧ pk tail 0 ≠ 43 ∧ pk tail 0 ≠ 45) :
    some? (P ++ sgT n ++ A ++ ((if pt = true then 46 :: B else []) ++ (exL el m E ++ tail))) P.length ∧
    lit (P ++ sgT n ++ A ++ ((if pt = true then 46 :: B else []) ++ (exL el m E ++ tail))) P.length =
      ⟨decide (n = 2), A, if pt = true then B else [], exS el m E,
        (P ++ sgT n ++ A ++ ((if pt = true then 46 :: B else []) ++ exL el m E)).length⟩ := by
  obtain ⟨ex, hex⟩ : ∃ ex : List Int, ex = exL el m E := ⟨_, rfl⟩
  obtain ⟨dot, hdot⟩ : ∃ dot : List Int, dot = (if pt = true then 46 :: B else []) := ⟨_, rfl⟩
  rw [← hex, ← hdot]
  -- the first byte of the exponent's part and what follows
  have x0 : dg (pk (ex ++ tail) 0) = false ∧ pk (ex ++ tail) 0 ≠ 46 ∧ pk (ex ++ tail) 0 ≠ 43 ∧ pk (ex ++ tail) 0 ≠ 45 := by
    cases el with
    | none => rw [hex]; exact ⟨ht.1, ht.2.1, ht.2.2.2.1, ht.2.2.2.2⟩
    | some c =>
      rw [hex]
      have := hel c rfl
      show dg c = false ∧ c ≠ 46 ∧ c ≠ 43 ∧ c ≠ 45
      refine ⟨?_, by omega, by omega, by omega⟩
      rw [dg_not]; omega
  have d0 : dg (pk (dot ++ (ex ++ tail)) 0) = false ∧ pk (dot ++ (ex ++ tail)) 0 ≠ 43 ∧ pk (dot ++ (ex ++ tail)) 0 ≠ 45 ∧ (pk (dot ++ (ex ++ tail)) 0 = 46 ↔ pt = true) := by
    cases pt with
    | false => rw [hdot]; exact ⟨x0.1, x0.2.2.1, x0.2.2.2, ⟨fun c => absurd c x0.2.1, fun c => by simp at c⟩⟩
    | true => rw [hdot]; exact ⟨rfl, by show (46 : Int) ≠ 43; omega, by show (46 : Int) ≠ 45; omega, ⟨fun _ => rfl, fun _ => rfl⟩⟩
  obtain ⟨R, hR⟩ : ∃ R, R = dot ++ (ex ++ tail) := ⟨_, rfl⟩
  rw [← hR] at d0 ⊢
  have a0 : ¬ (pk (A ++ R) 0 = 43 ∨ pk (A ++ R) 0 = 45) := by
    rw [pk_or]
    split
    · intro c; rcases c with c | c; exact d0.2.1 c; exact d0.2.2.1 c
    · next c => have := dg_iff.1 (pk_dig hA c); omega
  obtain ⟨s1, s2⟩ := sg_made P (A ++ R) n a0
  rw [← List.append_assoc] at s1 s2
  obtain ⟨xs, hxs⟩ : ∃ xs, xs = P ++ sgT n ++ A ++ R := ⟨_, rfl⟩
  rw [← hxs] at s1 s2 ⊢
  have e1 : p1 xs P.length = (P ++ sgT n).length := by unfold p1; rw [s1, List.length_append]
  have r1 : run dg xs (P ++ sgT n).length = A.length := by rw [hxs]; exact run_app dg0 hA d0.1
  have e2 : p2 xs P.length = (P ++ sgT n ++ A).length := by unfold p2; rw [e1, r1]; exact List.length_append.symm
  have ah : (xs.drop (p1 xs P.length)).take (run dg xs (p1 xs P.length)) = A := by rw [e1, r1, hxs]; exact take_app
  have k2 : pk xs (p2 xs P.length) = pk R 0 := by rw [e2, hxs, pk_at0]
  -- the point
  have pnt : bn xs P.length = (if pt = true then B.length else 0) ∧ p3 xs P.length = (P ++ sgT n ++ A ++ dot).length ∧ (xs.drop (p2 xs P.length + 1)).take (bn xs P.length) = (if pt = true then B else []) := by
    cases pt with
    | false =>
      have c : ¬ pk xs (p2 xs P.length) = 46 := by rw [k2]; intro c; exact absurd (d0.2.2.2.1 c) (by simp)
      refine ⟨by unfold bn; rw [if_neg c]; rfl, by unfold p3; rw [if_neg c, e2, hdot]; simp, ?_⟩
      have : bn xs P.length = 0 := by unfold bn; rw [if_neg c]
      rw [this]; rfl
    | true =>
      have c : pk xs (p2 xs P.length) = 46 := by rw [k2]; exact d0.2.2.2.2 rfl
      have hd : dot = 46 :: B := by rw [hdot]; rfl
      have hx2 : xs = (P ++ sgT n ++ A ++ [46]) ++ B ++ (ex ++ tail) := by rw [hxs, hR, hd]; simp
      have l2 : p2 xs P.length + 1 = (P ++ sgT n ++ A ++ [46]).length := by rw [e2]; simp; omega
      have r2 : run dg xs (p2 xs P.length + 1) = B.length := by rw [l2, hx2]; exact run_app dg0 hB x0.1
      have b2 : bn xs P.length = B.length := by unfold bn; rw [if_pos c, r2]
      refine ⟨b2, ?_, ?_⟩
      · unfold p3; rw [if_pos c, r2, e2, hd]; simp; omega
      · rw [b2, l2, hx2]; exact take_app
  obtain ⟨b1, b2, b3⟩ := pnt
  have hsome : some? xs P.length := by unfold some?; rw [e1, r1, b1]; exact hne
  refine ⟨hsome, ?_⟩
  have ng : decide (pk xs P.length = 45) = decide (n = 2) := decide_eq_decide.2 s2
  have hx3 : xs = (P ++ sgT n ++ A ++ dot) ++ (ex ++ tail) := by rw [hxs, hR]; simp
  have k3 : ∀ i, pk xs (p3 xs P.length + i) = pk (ex ++ tail) i := fun i => by rw [b2, hx3]; exact pk_at _ _ i
  have k30 : pk xs (p3 xs P.length) = pk (ex ++ tail) 0 := k3 0
  cases el with
  | none =>
    have hE : hasE xs (p3 xs P.length) = false := by
      unfold hasE; rw [k30, hex]; show (isE (pk tail 0) && _) = false; rw [ht.2.2.1, Bool.false_and]
    unfold lit
    rw [ah, ng, b3, hE, b2, hex]
    simp [exL, exS]
  | some c =>
    have hc := hel c rfl
    have hex' : ex = c :: (sgT m ++ dl E) := hex
    obtain ⟨k1, k2', k3'⟩ := dl_is E
    have dp := dg_iff.1 (pk_dig k1 k2')
    have hx4 : xs = (P ++ sgT n ++ A ++ dot ++ [c]) ++ sgT m ++ (dl E ++ tail) := by rw [hx3, hex']; simp
    have l4 : p3 xs P.length + 1 = (P ++ sgT n ++ A ++ dot ++ [c]).length := by rw [b2]; simp; omega
    obtain ⟨t1, t2⟩ := sg_made (P ++ sgT n ++ A ++ dot ++ [c]) (dl E ++ tail) m (by rw [pk_or, if_neg k2']; omega)
    rw [← hx4, ← l4] at t1 t2
    have e4 : p4 xs (p3 xs P.length) = (P ++ sgT n ++ A ++ dot ++ [c] ++ sgT m).length := by unfold p4; rw [t1, l4, ← List.length_append]
    have hx5 : xs = (P ++ sgT n ++ A ++ dot ++ [c] ++ sgT m) ++ dl E ++ tail := by rw [hx4]; simp
    have r4 : run dg xs (p4 xs (p3 xs P.length)) = (dl E).length := by rw [e4, hx5]; exact run_app dg0 k1 ht.1
    have tk : (xs.drop (p4 xs (p3 xs P.length))).take (run dg xs (p4 xs (p3 xs P.length))) = dl E := by rw [r4, e4, hx5]; exact take_app
    have hE : hasE xs (p3 xs P.length) = true := by
      unfold hasE
      rw [k30, hex']
      have h1 : isE (pk (c :: (sgT m ++ dl E) ++ tail) 0) = true := by show isE c = true; simp [isE]; exact hc
      rw [h1, Bool.true_and, e4, hx5, List.append_assoc _ (dl E), pk_at0, pk_or, if_neg k2']
      exact pk_dig k1 k2'
    unfold lit
    rw [ah, ng, b3, hE, tk, k3', if_pos rfl, if_pos rfl, r4, e4]
    congr 1
    · by_cases hm : m = 2
      · rw [if_pos (t2.2 hm)]; simp [exS, hm]
      · rw [if_neg (fun h => hm (t2.1 h))]; simp [exS, hm]
    · rw [hex']; simp; omega
end Sc
end Go.Proofs.YtaoaniigbooihaaGreatDoor

namespace Go.Proofs.YtaoaniigbooihaaGreatDoor
namespace Sc

/-- The literal's own text. -/
def mtx (n : Int) (A B : List Int) (pt : Bool) (el : Option Int) (m : Int) (E : Nat) : List Int := sgT n ++ A ++ ((if pt = true then 46 :: B else []) ++ exL el m E)
def TailOk (tail : List Int) : Prop := dg (pk tail 0) = false ∧ pk tail 0 ≠ 46 ∧ isE (pk tail 0) = false ∧ pk tail 0 ≠ 43 ∧ pk tail 0 ≠ 45

theorem mtx_head (n : Int) (A B : List Int) (pt : Bool) (el : Option Int) (m : Int) (E : Nat) (tail : List Int) (hA : ∀ x ∈ A, dg x = true) (hne : A.length + (if pt = true then B.length else 0) ≠ 0) : bl (pk (mtx n A B pt el m E ++ tail) 0) = false := by
  rw [bl_not]
  unfold mtx
  by_cases h1 : n = 1
  · subst h1; show ¬ ((43 : Int) = 32 ∨ 9 ≤ (43 : Int) ∧ (43 : Int) ≤ 13); decide
  · by_cases h2 : n = 2
    · subst h2; show ¬ ((45 : Int) = 32 ∨ 9 ≤ (45 : Int) ∧ (45 : Int) ≤ 13); decide
    · have s0 : sgT n = [] := by unfold sgT; rw [if_neg h1, if_neg h2]
      rw [s0]
      cases A with
      | nil =>
        cases pt with
        | false => simp at hne
        | true => show ¬ ((46 : Int) = 32 ∨ 9 ≤ (46 : Int) ∧ (46 : Int) ≤ 13); decide
      | cons x l =>
        have := dg_iff.1 (hA x (by simp))
        show ¬ (x = 32 ∨ 9 ≤ x ∧ x ≤ 13)
        omega

theorem made_run (P A B tail : List Int) (n m : Int) (pt : Bool) (el : Option Int) (E : Nat) (hP : ∀ x ∈ P, bl x = true) (hA : ∀ x ∈ A, dg x = true) (hne : A.length + (if pt = true then B.length else 0) ≠ 0) : run bl (P ++ mtx n A B pt el m E ++ tail) 0 = P.length := by
  have := run_app bl0 (as' := []) (bs := P) (cs := mtx n A B pt el m E ++ tail) hP (mtx_head n A B pt el m E tail hA hne)
  rw [List.nil_append, ← List.append_assoc] at this
  exact this

theorem made_at (P A B tail : List Int) (n m : Int) (pt : Bool) (el : Option Int) (E : Nat) (hA : ∀ x ∈ A, dg x = true) (hB : ∀ x ∈ B, dg x = true) (hne : A.length + (if pt = true then B.length else 0) ≠ 0)
    (hel : ∀ c, el = some c → c = 101 ∨ c = 69) (ht : TailOk tail) : some? (P ++ mtx n A B pt el m E ++ tail) P.length ∧
    (lit (P ++ mtx n A B pt el m E ++ tail) P.length).d = nrm (decide (n = 2)) (A ++ (if pt = true then B else [])) (exS el m E - ((if pt = true then B else []).length : Int)) ∧
    (lit (P ++ mtx n A B pt el m E ++ tail) P.length).en = (P ++ mtx n A B pt el m E).length := by
  have e : P ++ mtx n A B pt el m E ++ tail = P ++ sgT n ++ A ++ ((if pt = true then 46 :: B else []) ++ (exL el m E ++ tail)) := by unfold mtx; simp only [List.append_assoc]
  obtain ⟨h1, h2⟩ := made_lit P A B tail n m pt el E hA hB hne hel ht
  rw [e, h2]
  refine ⟨h1, rfl, ?_⟩
  show (P ++ sgT n ++ A ++ ((if pt = true then 46 :: B else []) ++ exL el m E)).length = _
  unfold mtx
  simp only [List.append_assoc]

theorem made_ab (P A B tail : List Int) (n m : Int) (pt : Bool) (el : Option Int) (E : Nat) (hA : ∀ x ∈ A, dg x = true) (hB : ∀ x ∈ B, dg x = true) (hne : A.length + (if pt = true then B.length else 0) ≠ 0)
    (hel : ∀ c, el = some c → c = 101 ∨ c = 69) (ht : TailOk tail) : (lit (P ++ mtx n A B pt el m E ++ tail) P.length).ah.length + (lit (P ++ mtx n A B pt el m E ++ tail) P.length).bh.length ≤ A.length + B.length := by
  have e : P ++ mtx n A B pt el m E ++ tail = P ++ sgT n ++ A ++ ((if pt = true then 46 :: B else []) ++ (exL el m E ++ tail)) := by unfold mtx; simp only [List.append_assoc]
  obtain ⟨h1, h2⟩ := made_lit P A B tail n m pt el E hA hB hne hel ht
  rw [e, h2]
  show A.length + (if pt = true then B else []).length ≤ _
  split <;> simp

theorem mtx_len (n : Int) (A B : List Int) (pt : Bool) (el : Option Int) (m : Int) (E : Nat) (hd : (dl E).length ≤ 20) : (mtx n A B pt el m E).length ≤ A.length + B.length + 30 := by
  have h1 : ∀ k : Int, (sgT k).length ≤ 1 := fun k => by unfold sgT; split; (simp); split <;> simp
  have h2 : (exL el m E).length ≤ 22 := by
    have := h1 m
    cases el with
    | none => simp [exL]
    | some c => simp [exL]; omega
  have h3 : (if pt = true then 46 :: B else [] : List Int).length ≤ B.length + 1 := by split <;> simp
  have := h1 n
  unfold mtx
  simp only [List.length_append]
  omega

theorem made_num (P A B tail : List Int) (n m : Int) (pt : Bool) (el : Option Int) (E : Nat) (hP : ∀ x ∈ P, bl x = true) (hA : ∀ x ∈ A, dg x = true) (hB : ∀ x ∈ B, dg x = true) (hne : A.length + (if pt = true then B.length else 0) ≠ 0)
    (hel : ∀ c, el = some c → c = 101 ∨ c = 69) (ht : TailOk tail) :
    num (P ++ mtx n A B pt el m E ++ tail) = (nrm (decide (n = 2)) (A ++ (if pt = true then B else [])) (exS el m E - ((if pt = true then B else []).length : Int)), (P ++ mtx n A B pt el m E).length) := by
  obtain ⟨h1, h2, h3⟩ := made_at P A B tail n m pt el E hA hB hne hel ht
  unfold num
  rw [made_run P A B tail n m pt el E hP hA hne, if_pos h1, h2, h3]

theorem made_whl (P A B tail : List Int) (n m : Int) (pt : Bool) (el : Option Int) (E : Nat) (hP : ∀ x ∈ P, bl x = true) (hA : ∀ x ∈ A, dg x = true) (hB : ∀ x ∈ B, dg x = true) (hne : A.length + (if pt = true then B.length else 0) ≠ 0)
    (hel : ∀ c, el = some c → c = 101 ∨ c = 69) (ht : TailOk tail) (hb : ∀ x ∈ tail, bl x = true) :
    whl (P ++ mtx n A B pt el m E ++ tail) = (nrm (decide (n = 2)) (A ++ (if pt = true then B else [])) (exS el m E - ((if pt = true then B else []).length : Int)), true) := by
  obtain ⟨h1, h2, h3⟩ := made_at P A B tail n m pt el E hA hB hne hel ht
  have r : run bl (P ++ mtx n A B pt el m E ++ tail) (P ++ mtx n A B pt el m E).length = tail.length := by
    have := run_app bl0 (as' := P ++ mtx n A B pt el m E) (bs := tail) (cs := []) hb rfl
    rw [List.append_nil] at this
    exact this
  unfold whl
  rw [made_run P A B tail n m pt el E hP hA hne, if_pos ⟨h1, by rw [h3, r]; exact List.length_append.symm⟩, h2]

/-- A row of blanks may follow. -/
theorem TailOk.blanks {P : List Int} (h : ∀ x ∈ P, bl x = true) : TailOk P := by
  cases P with
  | nil => exact ⟨rfl, by decide, rfl, by decide, by decide⟩
  | cons x l =>
    have hx : bl x = true := h x (by simp)
    have : x = 32 ∨ (9 ≤ x ∧ x ≤ 13) := by simpa [bl] using hx
    refine ⟨?_, ?_, ?_, ?_, ?_⟩
    · show dg x = false; rw [dg_not]; omega
    · show x ≠ 46; omega
    · show isE x = false; simp [isE]; omega
    · show x ≠ 43; omega
    · show x ≠ 45; omega

/-- What built hands to Norm is a Dec. -/
theorem made_dec (A F : List Int) (e : Int) (hA : ∀ x ∈ A, dg x = true) (hF : ∀ x ∈ F, dg x = true) (h0 : A.length + F.length ≠ 0) (hl : A.length + F.length ≤ 281474976710655) (e0 : -1000000000000000 ≤ e) (e1 : e ≤ 1000000000000000) : IsDec (A ++ F) (e - (F.length : Int)) := by
  refine ⟨fun c => h0 (by rw [← List.length_append, c]; rfl), by omega, by omega, fun x hx => ?_, fun _ => ?_⟩
  · rcases List.mem_append.1 hx with h | h
    · exact hA x h
    · exact hF x h
  · have := tz_le (A ++ F)
    rw [List.length_append] at this
    omega
end Sc
end Go.Proofs.YtaoaniigbooihaaGreatDoor

namespace Go.Proofs.YtaoaniigbooihaaGreatDoor
namespace Sc

def exG (el : Option Int) (m : Int) (G : List Int) : List Int := match el with | some c => c :: (sgT m ++ G) | none => []
def exV (el : Option Int) (m c : Int) : Int := match el with | some _ => if m = 2 then - c else c | none => 0

/-- The parts of a literal behind P, and what follows. -/
theorem gmade_lit (P A B tail : List Int) (n m : Int) (pt : Bool) (el : Option Int) (G : List Int) (hA : ∀ x ∈ A, dg x = true) (hB : ∀ x ∈ B, dg x = true) (hne : A.length + (if pt = true then B.length else 0) ≠ 0)
    (hel : ∀ c, el = some c → c = 101 ∨ c = 69) (hG : (∀ x ∈ G, dg x = true) ∧ G ≠ []) (ht : dg (pk tail 0) = false ∧ pk tail 0 ≠ 46 ∧ isE (pk tail 0) = false ∧ pk tail 0 ≠ 43 ∧ pk tail 0 ≠ 45) :
    some? (P ++ sgT n ++ A ++ ((if pt = true then 46 :: B else []) ++ (exG el m G ++ tail))) P.length ∧
    lit (P ++ sgT n ++ A ++ ((if pt = true then 46 :: B else []) ++ (exG el m G ++ tail))) P.length =
      ⟨decide (n = 2), A, if pt = true then B else [], exV el m (cap G),
        (P ++ sgT n ++ A ++ ((if pt = true then 46 :: B else []) ++ exG el m G)).length⟩ := by
  obtain ⟨ex, hex⟩ : ∃ ex : List Int, ex = exG el m G := ⟨_, rfl⟩
  obtain ⟨dot, hdot⟩ : ∃ dot : List Int, dot = (if pt = true then 46 :: B else []) := ⟨_, rfl⟩
  rw [← hex, ← hdot]
  -- the first byte of the exponent's part and what follows
  have x0 : dg (pk (ex ++ tail) 0) = false ∧ pk (ex ++ tail) 0 ≠ 46 ∧ pk (ex ++ tail) 0 ≠ 43 ∧ pk (ex ++ tail) 0 ≠ 45 := by
    cases el with
    | none => rw [hex]; exact ⟨ht.1, ht.2.1, ht.2.2.2.1, ht.2.2.2.2⟩
    | some c =>
      rw [hex]
      have := hel c rfl
      show dg c = false ∧ c ≠ 46 ∧ c ≠ 43 ∧ c ≠ 45
      refine ⟨?_, by omega, by omega, by omega⟩
      rw [dg_not]; omega
  have d0 : dg (pk (dot ++ (ex ++ tail)) 0) = false ∧ pk (dot ++ (ex ++ tail)) 0 ≠ 43 ∧ pk (dot ++ (ex ++ tail)) 0 ≠ 45 ∧ (pk (dot ++ (ex ++ tail)) 0 = 46 ↔ pt = true) := by
    cases pt with
    | false => rw [hdot]; exact ⟨x0.1, x0.2.2.1, x0.2.2.2, ⟨fun c => absurd c x0.2.1, fun c => by simp at c⟩⟩
    | true => rw [hdot]; exact ⟨rfl, by show (46 : Int) ≠ 43; omega, by show (46 : Int) ≠ 45; omega, ⟨fun _ => rfl, fun _ => rfl⟩⟩
  obtain ⟨R, hR⟩ : ∃ R, R = dot ++ (ex ++ tail) := ⟨_, rfl⟩
  rw [← hR] at d0 ⊢
  have a0 : ¬ (pk (A ++ R) 0 = 43 ∨ pk (A ++ R) 0 = 45) := by
    rw [pk_or]
    split
    · intro c; rcases c with c | c; exact d0.2.1 c; exact d0.2.2.1 c
    · next c => have := dg_iff.1 (pk_dig hA c); omega
  obtain ⟨s1, s2⟩ := sg_made P (A ++ R) n a0
  rw [← List.append_assoc] at s1 s2
  obtain ⟨xs, hxs⟩ : ∃ xs, xs = P ++ sgT n ++ A ++ R := ⟨_, rfl⟩
  rw [← hxs] at s1 s2 ⊢
  have e1 : p1 xs P.length = (P ++ sgT n).length := by unfold p1; rw [s1, List.length_append]
  have r1 : run dg xs (P ++ sgT n).length = A.length := by rw [hxs]; exact run_app dg0 hA d0.1
  have e2 : p2 xs P.length = (P ++ sgT n ++ A).length := by unfold p2; rw [e1, r1]; exact List.length_append.symm
  have ah : (xs.drop (p1 xs P.length)).take (run dg xs (p1 xs P.length)) = A := by rw [e1, r1, hxs]; exact take_app
  have k2 : pk xs (p2 xs P.length) = pk R 0 := by rw [e2, hxs, pk_at0]
  -- the point
  have pnt : bn xs P.length = (if pt = true then B.length else 0) ∧ p3 xs P.length = (P ++ sgT n ++ A ++ dot).length ∧ (xs.drop (p2 xs P.length + 1)).take (bn xs P.length) = (if pt = true then B else []) := by
    cases pt with
    | false =>
      have c : ¬ pk xs (p2 xs P.length) = 46 := by rw [k2]; intro c; exact absurd (d0.2.2.2.1 c) (by simp)
      refine ⟨by unfold bn; rw [if_neg c]; rfl, by unfold p3; rw [if_neg c, e2, hdot]; simp, ?_⟩
      have : bn xs P.length = 0 := by unfold bn; rw [if_neg c]
      rw [this]; rfl
    | true =>
      have c : pk xs (p2 xs P.length) = 46 := by rw [k2]; exact d0.2.2.2.2 rfl
      have hd : dot = 46 :: B := by rw [hdot]; rfl
      have hx2 : xs = (P ++ sgT n ++ A ++ [46]) ++ B ++ (ex ++ tail) := by rw [hxs, hR, hd]; simp
      have l2 : p2 xs P.length + 1 = (P ++ sgT n ++ A ++ [46]).length := by rw [e2]; simp; omega
      have r2 : run dg xs (p2 xs P.length + 1) = B.length := by rw [l2, hx2]; exact run_app dg0 hB x0.1
      have b2 : bn xs P.length = B.length := by unfold bn; rw [if_pos c, r2]
      refine ⟨b2, ?_, ?_⟩
      · unfold p3; rw [if_pos c, r2, e2, hd]; simp; omega
      · rw [b2, l2, hx2]; exact take_app
  obtain ⟨b1, b2, b3⟩ := pnt
  have hsome : some? xs P.length := by unfold some?; rw [e1, r1, b1]; exact hne
  refine ⟨hsome, ?_⟩
  have ng : decide (pk xs P.length = 45) = decide (n = 2) := decide_eq_decide.2 s2
  have hx3 : xs = (P ++ sgT n ++ A ++ dot) ++ (ex ++ tail) := by rw [hxs, hR]; simp
  have k3 : ∀ i, pk xs (p3 xs P.length + i) = pk (ex ++ tail) i := fun i => by rw [b2, hx3]; exact pk_at _ _ i
  have k30 : pk xs (p3 xs P.length) = pk (ex ++ tail) 0 := k3 0
  cases el with
  | none =>
    have hE : hasE xs (p3 xs P.length) = false := by
      unfold hasE; rw [k30, hex]; show (isE (pk tail 0) && _) = false; rw [ht.2.2.1, Bool.false_and]
    unfold lit
    rw [ah, ng, b3, hE, b2, hex]
    simp [exG, exV]
  | some c =>
    have hc := hel c rfl
    have hex' : ex = c :: (sgT m ++ G) := hex
    obtain ⟨k1, k2'⟩ := hG
    have dp := dg_iff.1 (pk_dig k1 k2')
    have hx4 : xs = (P ++ sgT n ++ A ++ dot ++ [c]) ++ sgT m ++ (G ++ tail) := by rw [hx3, hex']; simp
    have l4 : p3 xs P.length + 1 = (P ++ sgT n ++ A ++ dot ++ [c]).length := by rw [b2]; simp; omega
    obtain ⟨t1, t2⟩ := sg_made (P ++ sgT n ++ A ++ dot ++ [c]) (G ++ tail) m (by rw [pk_or, if_neg k2']; omega)
    rw [← hx4, ← l4] at t1 t2
    have e4 : p4 xs (p3 xs P.length) = (P ++ sgT n ++ A ++ dot ++ [c] ++ sgT m).length := by unfold p4; rw [t1, l4, ← List.length_append]
    have hx5 : xs = (P ++ sgT n ++ A ++ dot ++ [c] ++ sgT m) ++ G ++ tail := by rw [hx4]; simp
    have r4 : run dg xs (p4 xs (p3 xs P.length)) = (G).length := by rw [e4, hx5]; exact run_app dg0 k1 ht.1
    have tk : (xs.drop (p4 xs (p3 xs P.length))).take (run dg xs (p4 xs (p3 xs P.length))) = G := by rw [r4, e4, hx5]; exact take_app
    have hE : hasE xs (p3 xs P.length) = true := by
      unfold hasE
      rw [k30, hex']
      have h1 : isE (pk (c :: (sgT m ++ G) ++ tail) 0) = true := by show isE c = true; simp [isE]; exact hc
      rw [h1, Bool.true_and, e4, hx5, List.append_assoc _ (G), pk_at0, pk_or, if_neg k2']
      exact pk_dig k1 k2'
    unfold lit
    rw [ah, ng, b3, hE, tk, if_pos rfl, if_pos rfl, r4, e4]
    congr 1
    · by_cases hm : m = 2
      · rw [if_pos (t2.2 hm)]; simp [exV, hm]
      · rw [if_neg (fun h => hm (t2.1 h))]; simp [exV, hm]
    · rw [hex']; simp; omega

def gtx (n : Int) (A B : List Int) (pt : Bool) (el : Option Int) (m : Int) (G : List Int) : List Int := sgT n ++ A ++ ((if pt = true then 46 :: B else []) ++ exG el m G)
theorem gtx_head (n : Int) (A B : List Int) (pt : Bool) (el : Option Int) (m : Int) (G : List Int) (tail : List Int) (hA : ∀ x ∈ A, dg x = true) (hne : A.length + (if pt = true then B.length else 0) ≠ 0) : bl (pk (gtx n A B pt el m G ++ tail) 0) = false := by
  rw [bl_not]
  unfold gtx
  by_cases h1 : n = 1
  · subst h1; show ¬ ((43 : Int) = 32 ∨ 9 ≤ (43 : Int) ∧ (43 : Int) ≤ 13); decide
  · by_cases h2 : n = 2
    · subst h2; show ¬ ((45 : Int) = 32 ∨ 9 ≤ (45 : Int) ∧ (45 : Int) ≤ 13); decide
    · have s0 : sgT n = [] := by unfold sgT; rw [if_neg h1, if_neg h2]
      rw [s0]
      cases A with
      | nil =>
        cases pt with
        | false => simp at hne
        | true => show ¬ ((46 : Int) = 32 ∨ 9 ≤ (46 : Int) ∧ (46 : Int) ≤ 13); decide
      | cons x l =>
        have := dg_iff.1 (hA x (by simp))
        show ¬ (x = 32 ∨ 9 ≤ x ∧ x ≤ 13)
        omega

theorem gmade_run (P A B tail : List Int) (n m : Int) (pt : Bool) (el : Option Int) (G : List Int) (hP : ∀ x ∈ P, bl x = true) (hA : ∀ x ∈ A, dg x = true) (hne : A.length + (if pt = true then B.length else 0) ≠ 0) : run bl (P ++ gtx n A B pt el m G ++ tail) 0 = P.length := by
  have := run_app bl0 (as' := []) (bs := P) (cs := gtx n A B pt el m G ++ tail) hP (gtx_head n A B pt el m G tail hA hne)
  rw [List.nil_append, ← List.append_assoc] at this
  exact this

theorem gmade_at (P A B tail : List Int) (n m : Int) (pt : Bool) (el : Option Int) (G : List Int) (hA : ∀ x ∈ A, dg x = true) (hB : ∀ x ∈ B, dg x = true) (hne : A.length + (if pt = true then B.length else 0) ≠ 0)
    (hel : ∀ c, el = some c → c = 101 ∨ c = 69) (hG : (∀ x ∈ G, dg x = true) ∧ G ≠ []) (ht : TailOk tail) : some? (P ++ gtx n A B pt el m G ++ tail) P.length ∧
    (lit (P ++ gtx n A B pt el m G ++ tail) P.length).d = nrm (decide (n = 2)) (A ++ (if pt = true then B else [])) (exV el m (cap G) - ((if pt = true then B else []).length : Int)) ∧
    (lit (P ++ gtx n A B pt el m G ++ tail) P.length).en = (P ++ gtx n A B pt el m G).length := by
  have e : P ++ gtx n A B pt el m G ++ tail = P ++ sgT n ++ A ++ ((if pt = true then 46 :: B else []) ++ (exG el m G ++ tail)) := by unfold gtx; simp only [List.append_assoc]
  obtain ⟨h1, h2⟩ := gmade_lit P A B tail n m pt el G hA hB hne hel hG ht
  rw [e, h2]
  refine ⟨h1, rfl, ?_⟩
  show (P ++ sgT n ++ A ++ ((if pt = true then 46 :: B else []) ++ exG el m G)).length = _
  unfold gtx
  simp only [List.append_assoc]

theorem gmade_num (P A B tail : List Int) (n m : Int) (pt : Bool) (el : Option Int) (G : List Int) (hP : ∀ x ∈ P, bl x = true) (hA : ∀ x ∈ A, dg x = true) (hB : ∀ x ∈ B, dg x = true) (hne : A.length + (if pt = true then B.length else 0) ≠ 0)
    (hel : ∀ c, el = some c → c = 101 ∨ c = 69) (hG : (∀ x ∈ G, dg x = true) ∧ G ≠ []) (ht : TailOk tail) :
    num (P ++ gtx n A B pt el m G ++ tail) = (nrm (decide (n = 2)) (A ++ (if pt = true then B else [])) (exV el m (cap G) - ((if pt = true then B else []).length : Int)), (P ++ gtx n A B pt el m G).length) := by
  obtain ⟨h1, h2, h3⟩ := gmade_at P A B tail n m pt el G hA hB hne hel hG ht
  unfold num
  rw [gmade_run P A B tail n m pt el G hP hA hne, if_pos h1, h2, h3]

theorem gmade_whl (P A B tail : List Int) (n m : Int) (pt : Bool) (el : Option Int) (G : List Int) (hP : ∀ x ∈ P, bl x = true) (hA : ∀ x ∈ A, dg x = true) (hB : ∀ x ∈ B, dg x = true) (hne : A.length + (if pt = true then B.length else 0) ≠ 0)
    (hel : ∀ c, el = some c → c = 101 ∨ c = 69) (hG : (∀ x ∈ G, dg x = true) ∧ G ≠ []) (ht : TailOk tail) (hb : ∀ x ∈ tail, bl x = true) :
    whl (P ++ gtx n A B pt el m G ++ tail) = (nrm (decide (n = 2)) (A ++ (if pt = true then B else [])) (exV el m (cap G) - ((if pt = true then B else []).length : Int)), true) := by
  obtain ⟨h1, h2, h3⟩ := gmade_at P A B tail n m pt el G hA hB hne hel hG ht
  have r : run bl (P ++ gtx n A B pt el m G ++ tail) (P ++ gtx n A B pt el m G).length = tail.length := by
    have := run_app bl0 (as' := P ++ gtx n A B pt el m G) (bs := tail) (cs := []) hb rfl
    rw [List.append_nil] at this
    exact this
  unfold whl
  rw [gmade_run P A B tail n m pt el G hP hA hne, if_pos ⟨h1, by rw [h3, r]; exact List.length_append.symm⟩, h2]

end Sc
end Go.Proofs.YtaoaniigbooihaaGreatDoor

namespace Go.Proofs.YtaoaniigbooihaaGreatDoor
open Go.RowKit Go.Deep

/-- s' is s without some zeros at its end, and ends with none. -/
def VTail (xs : List Int) (e : Ending) : Prop := ∃ s' k, e = .returned (.string s') ∧ Str s' (xs.take k) ∧ k ≤ xs.length ∧ (∀ i, k ≤ i → i < xs.length → xs.getD i 0 = 48) ∧ (0 < k → xs.getD (k - 1) 0 ≠ 48)

set_option maxRecDepth 100000 in
set_option maxHeartbeats 1000000 in
theorem vrtrim_any (s : ByteArray) (xs : List Int) (w : World) (hs : Str s xs) (hn1 : xs.length ≤ 562949953421312) :
    Calls Tryz.prog 97 #[.string s, .int .u8 48] w fun e w' => VTail xs e ∧ w' = w := by
  have HS := hid hs
  have HN := hid hn1
  clear hs hn1
  go_enter Tryz.func97, Tryz.ntmps97
  go_wp2_with fail
  go_loop [0] (fun c => ∃ s' m, c = .string s' ∧ Hid (Str s' (xs.take m) ∧ m ≤ xs.length ∧ s'.size = m ∧ (∀ i, m ≤ i → i < xs.length → xs.getD i 0 = 48))) (fun c => match c with | .string s' => s'.size | _ => 0)
  case atStart => exact ⟨s, xs.length, rfl, by rw [List.take_length]; exact HS.out, Nat.le_refl _, HS.out.size, fun i h1 h2 => by omega⟩
  case round =>
    obtain ⟨s', m, rfl, I⟩ := hrel
    have hsz : s'.size = m := I.out.2.2.1
    have hmb : (m : Int) ≤ 562949953421312 := by have := HN.out; have := I.out.2.1; omega
    by_cases h0 : m = 0
    · subst h0
      have F : Hid (VTail xs (.returned (.string s'))) := ⟨s', 0, rfl, I.out.1, Nat.zero_le _, I.out.2.2.2, fun h => by omega⟩
      clear I
      go_wp2_with fail
      go_ret
      exact ⟨F.out, rfl⟩
    · obtain ⟨u, hu⟩ : ∃ u, m = u + 1 := ⟨m - 1, by omega⟩
      have hmi : (0 : Int) < (m : Int) := by omega
      have hmu : (m : Int) - 1 = (u : Int) := by omega
      have hum : (u : Int) < (m : Int) := by omega
      obtain ⟨x, X⟩ : ∃ x, Hid (xs.getD u 0 = x) := ⟨_, rfl⟩
      have hx : ∀ h : u < s'.size, ((s'[u]'h).toNat : Int) = x := fun h => by
        rw [I.out.1.at u h, ← X.out]
        simp [List.getD, show u < m by omega]
      have HU := hid hu
      by_cases hd : x = 48
      · subst hd
        have F : Hid (Str (s'.extract 0 u) (xs.take u) ∧ u ≤ xs.length ∧ (s'.extract 0 u).size = u ∧ (∀ i, u ≤ i → i < xs.length → xs.getD i 0 = 48)) := by
          have e := I.out.1.extract 0 u
          rw [List.drop_zero, Nat.sub_zero, List.take_take, show min u m = u by omega] at e
          refine ⟨e, by have := I.out.2.1; omega, by rw [e.size]; have := I.out.2.1; simp; omega, fun i h1 h2 => ?_⟩
          by_cases c : i = u
          · subst c; exact X.out
          · exact I.out.2.2.2 i (by omega) h2
        have SZ : Hid ((s'.extract 0 u).size < s'.size) := by show _ < _; rw [F.out.2.2.1, hsz]; omega
        clear I hu h0
        go_wp2_with fail
        go_round
        case rel => exact ⟨_, _, rfl, F.out⟩
        case measure => exact SZ.out
      · have hd2 : (x == 48) = false := by rw [beq_eq_false_iff_ne]; exact hd
        have F : Hid (VTail xs (.returned (.string s'))) := ⟨s', m, rfl, I.out.1, I.out.2.1, I.out.2.2.2, fun _ => by rw [show m - 1 = u by omega, X.out]; exact hd⟩
        clear I hu h0
        go_wp2_with fail
        go_ret
        exact ⟨F.out, rfl⟩


set_option maxRecDepth 100000 in
theorem vrtrim0_any (s : ByteArray) (xs : List Int) (w : World) (hs : Str s xs) (hn1 : xs.length ≤ 562949953421312) :
    Calls Tryz.prog 63 #[.string s, .string ⟨#[48]⟩] w fun e w' => VTail xs e ∧ w' = w := by
  have T := hid (vrtrim_any s xs w hs hn1)
  by_cases h : xs = []
  · have F : Hid (VTail xs (.returned (.string s))) := ⟨s, 0, rfl, by rw [h] at hs ⊢; exact hs, Nat.zero_le _, fun i _ hi => by rw [h] at hi; simp at hi, fun hlt => by omega⟩
    have hs0 : s = ⟨#[]⟩ := hs.inj (by rw [h]; rfl)
    subst hs0
    clear hs hn1 h
    go_enter Tryz.func63, Tryz.ntmps63
    go_wp2_with fail
    go_ret
    exact ⟨F.out, rfl⟩
  · have e1 : s.toList ≠ [] := by
      intro c
      apply h
      rw [ByteArray.toList_eq] at c
      rw [← hs, c]
      rfl
    have e2 : (s.toList == []) = false := by rw [beq_eq_false_iff_ne]; exact e1
    have e3 : s.toList.isEmpty = false := by rw [List.isEmpty_eq_false_iff]; exact e1
    clear hs hn1 h
    go_enter Tryz.func63, Tryz.ntmps63
    go_wp2_with fail
    refine T.out.mono ?_
    rintro e w' ⟨h1, rfl⟩
    obtain ⟨s', j, rfl, h2⟩ := h1
    have F : Hid (VTail xs (.returned (.string s'))) := ⟨s', j, rfl, h2⟩
    clear h2 T
    go_wp2_with fail
    go_ret
    exact ⟨F.out, rfl⟩
end Go.Proofs.YtaoaniigbooihaaGreatDoor

namespace Go.Proofs.YtaoaniigbooihaaGreatDoor
open Go.RowKit Go.Deep Go.Shelf

def vcloneRen : Go.Shelf.Ren := ⟨fun _ => 127, fun t => if t = 37 then 47 else if t = 47 then 130 else if t = 5 then 5 else if t = 9 then 9 else if t = 3 then 3 else t, fun g => g⟩
theorem vcloneLays : LaysPu.n25 Tryz.prog vcloneRen where
  mixed := by kernel_rfl
  f25 := by kernel_rfl
  t0 := by kernel_rfl
  a0 := fun _ => by kernel_rfl
  z0 := fun _ => by kernel_rfl
  v0 := fun _ => by kernel_rfl
  i0 := by kernel_rfl
  t3 := by kernel_rfl
  a3 := fun _ => by kernel_rfl
  z3 := fun _ => by kernel_rfl
  v3 := fun _ => by kernel_rfl
  i3 := by kernel_rfl
  t4 := by kernel_rfl
  a4 := fun _ => by kernel_rfl
  z4 := fun _ => by kernel_rfl
  v4 := fun _ => by kernel_rfl
  i4 := by kernel_rfl
  t5 := by kernel_rfl
  a5 := fun _ => by kernel_rfl
  z5 := fun _ => by kernel_rfl
  v5 := fun _ => by kernel_rfl
  i5 := by kernel_rfl
  t9 := by kernel_rfl
  a9 := fun _ => by kernel_rfl
  z9 := fun _ => by kernel_rfl
  v9 := fun _ => by kernel_rfl
  i9 := by kernel_rfl
  t37 := by kernel_rfl
  a37 := fun _ => by kernel_rfl
  z37 := fun _ => by kernel_rfl
  v37 := fun _ => by kernel_rfl
  i37 := by kernel_rfl
  t47 := by kernel_rfl
  a47 := fun _ => by kernel_rfl
  z47 := fun _ => by kernel_rfl
  v47 := fun _ => by kernel_rfl
  i47 := by kernel_rfl

theorem vclone_any (s : ByteArray) (w : World) (hs : s.size ≤ 281474976710656) : Calls Tryz.prog 101 #[.string s] w fun e w' => e = .returned (.string s) ∧ Below w.heap.size w w' := by
  have C : Hid (Calls Tryz.prog 127 #[.string s] w fun e w' => e = .returned (.string s) ∧ Below w.heap.size w w') := AnyPu.stringslite_Clone vcloneLays s w (by omega)
  go_enter Tryz.func101, Tryz.ntmps101
  go_wp2_with fail
  refine C.out.mono ?_
  rintro e w1 ⟨rfl, d1⟩
  have D := hid d1
  clear d1
  go_wp2_with fail
  go_ret
  exact ⟨rfl, D.out⟩
end Go.Proofs.YtaoaniigbooihaaGreatDoor

namespace Go.Proofs.YtaoaniigbooihaaGreatDoor
open Go Go.RowKit Go.Deep

def decV (neg : Bool) (s : ByteArray) (e : Int) : Value := .agg #[.bool neg, .string s, .int .i64 e]
/-- A value is this Dec. -/
def DecIs (v : Value) (d : Sc.D) : Prop := ∃ s, v = decV d.neg s d.e ∧ Str s d.ds

/-- Three cells that may be written. -/
def Row3 (w : World) (b : Nat) (v0 v1 v2 : Value) : Prop := w.heap[b]? = some (.cells #[v0, v1, v2] 39 (0, 0))
theorem Row3.new (w : World) (v0 v1 v2 : Value) : Row3 (w.alloc (.cells #[v0, v1, v2] 39)) w.heap.size v0 v1 v2 := heap_alloc_new w _
theorem Row3.below {B : Nat} {w w' : World} {b : Nat} {v0 v1 v2 : Value} (h : Row3 w b v0 v1 v2) (hB : Below B w w') (hb : b < B) : Row3 w' b v0 v1 v2 := by
  rw [Row3, hB.block b hb]; exact h
theorem Row3.lt {w : World} {b : Nat} {v0 v1 v2 : Value} (h : Row3 w b v0 v1 v2) : b < w.heap.size := by
  rcases Nat.lt_or_ge b w.heap.size with hl | hl
  · exact hl
  · simp [Row3, Array.getElem?_eq_none hl] at h
theorem Row3.cells {w : World} {b : Nat} {v0 v1 v2 : Value} (h : Row3 w b v0 v1 v2) :
    (w.cell? ⟨b, 0, none⟩ = some v0 ∧ w.cell? ⟨b, 1, none⟩ = some v1 ∧ w.cell? ⟨b, 2, none⟩ = some v2) ∧
    (w.frozen? ⟨b, 0, none⟩ = false ∧ w.frozen? ⟨b, 1, none⟩ = false ∧ w.frozen? ⟨b, 2, none⟩ = false) := by
  simp only [Row3] at h
  refine ⟨⟨?_, ?_, ?_⟩, ⟨?_, ?_, ?_⟩⟩ <;> simp [World.cell?, World.frozen?, h]
theorem Row3.put {w : World} {b : Nat} {v0 v1 v2 : Value} (h : Row3 w b v0 v1 v2) (u0 u1 u2 : Value) :
    Row3 (((w.setCell ⟨b, 0, none⟩ u0).setCell ⟨b, 1, none⟩ u1).setCell ⟨b, 2, none⟩ u2) b u0 u1 u2 := by
  have h0 := set1 (o := 0) (v := u0) (c' := #[u0, v1, v2]) h (by simp [Array.setIfInBounds])
  have h1 := set1 (o := 1) (v := u1) (c' := #[u0, u1, v2]) h0 (by simp [Array.setIfInBounds])
  exact set1 (o := 2) (v := u2) (c' := #[u0, u1, u2]) h1 (by simp [Array.setIfInBounds])
theorem Row3.far {w : World} {b c o : Nat} {v v0 v1 v2 : Value} (h : Row3 w b v0 v1 v2) (hc : c ≠ b) : Row3 (w.setCell ⟨c, o, none⟩ v) b v0 v1 v2 := by
  simp only [Row3] at *
  simp only [World.setCell, Array.getElem?_modify]
  rw [if_neg hc]; exact h
theorem set3_below {B : Nat} {w w' : World} {b : Nat} {u0 u1 u2 : Value} (h : Below B w w') (hb : B ≤ b) : Below B w (((w'.setCell ⟨b, 0, none⟩ u0).setCell ⟨b, 1, none⟩ u1).setCell ⟨b, 2, none⟩ u2) :=
  ((h.setCell (p := ⟨b, 0, none⟩) hb u0).setCell (p := ⟨b, 1, none⟩) hb u1).setCell (p := ⟨b, 2, none⟩) hb u2

/-- Two boxes for Decs, new. -/
def Two3 (w w' : World) (v0 v1 v2 u0 u1 u2 : Value) : Prop := Below w.heap.size w w' ∧ Row3 w' w.heap.size v0 v1 v2 ∧ Row3 w' (w.heap.size + 1) u0 u1 u2
theorem Two3.new (w : World) (v0 v1 v2 u0 u1 u2 : Value) : Two3 w ((w.alloc (.cells #[v0, v1, v2] 39)).alloc (.cells #[u0, u1, u2] 39)) v0 v1 v2 u0 u1 u2 :=
  ⟨below_on (alloc_b _ _) (alloc_b _ _), heap_alloc2_old _ _ _, heap_alloc2_new _ _ _⟩
theorem Two3.on {w w' w'' : World} {v0 v1 v2 u0 u1 u2 : Value} (h : Two3 w w' v0 v1 v2 u0 u1 u2) (k : Below w'.heap.size w' w'') : Two3 w w'' v0 v1 v2 u0 u1 u2 :=
  ⟨below_on h.1 k, h.2.1.below k h.2.1.lt, h.2.2.below k h.2.2.lt⟩
theorem Two3.putB {w w' : World} {v0 v1 v2 u0 u1 u2 : Value} (h : Two3 w w' v0 v1 v2 u0 u1 u2) (x0 x1 x2 : Value) : Two3 w (((w'.setCell ⟨w.heap.size + 1, 0, none⟩ x0).setCell ⟨w.heap.size + 1, 1, none⟩ x1).setCell ⟨w.heap.size + 1, 2, none⟩ x2) v0 v1 v2 x0 x1 x2 :=
  ⟨set3_below h.1 (Nat.le_succ _), ((h.2.1.far (by omega)).far (by omega)).far (by omega), h.2.2.put _ _ _⟩
theorem Two3.putA {w w' : World} {v0 v1 v2 u0 u1 u2 : Value} (h : Two3 w w' v0 v1 v2 u0 u1 u2) (x0 x1 x2 : Value) : Two3 w (((w'.setCell ⟨w.heap.size, 0, none⟩ x0).setCell ⟨w.heap.size, 1, none⟩ x1).setCell ⟨w.heap.size, 2, none⟩ x2) x0 x1 x2 u0 u1 u2 :=
  ⟨set3_below h.1 (Nat.le_refl _), h.2.1.put _ _ _, ((h.2.2.far (by omega)).far (by omega)).far (by omega)⟩

theorem str_zero : Str ⟨#[48]⟩ [48] := rfl

theorem dec_ret {v : Value} {d : Sc.D} {w w' : World} (h : DecIs v d) (b : Below w.heap.size w w') : ∃ v', Ending.returned v = .returned v' ∧ DecIs v' d ∧ Below w.heap.size w w' := ⟨v, rfl, h, b⟩

set_option maxRecDepth 100000 in
set_option maxHeartbeats 1000000 in
theorem dtrim_any (neg : Bool) (s : ByteArray) (xs : List Int) (e : Int) (w : World) (hs : Str s xs) (hn : xs.length ≤ 281474976710656) (e0 : -4611686018427387904 ≤ e) (e1 : e ≤ 4611686018427387904) :
    Calls Tryz.prog 70 #[decV neg s e] w fun r w' => ∃ v, r = .returned v ∧ DecIs v (Sc.nrm neg xs e) ∧ Below w.heap.size w w' := by
  have L := hid (fun wx => strim_any s xs wx hs (by omega))
  have HN := hid hn
  clear hs hn
  unfold decV
  go_enter Tryz.func70, Tryz.ntmps70
  go_wp2_with fail
  refine (L.out _).mono ?_
  rintro r w1 ⟨⟨s1, j, rfl, ⟨b1, b2, b3⟩, b4⟩, rfl⟩
  by_cases h : j = xs.length
  · have hs1 : s1 = ⟨#[]⟩ := b1.inj (by rw [List.drop_of_length_le (by omega)]; rfl)
    have F : Hid (Sc.nrm neg xs e = ⟨neg, [48], 0⟩) := Sc.nrm_of_none (fun i hi => b3 i (by omega))
    subst hs1
    clear b1 b2 b3 b4
    go_wp2_with fail
    (try simp only [Exit.inBlock, Exit.then])
    refine bodyPost_ret (results_cell_row rfl _ _ (w.heap.size + 1) 39 _ (0, 0) _ rfl (Two3.new w _ _ _ _ _ _).2.2 Tryz.underlying39 rfl (by kernel_rfl)) rfl ?_
    exact dec_ret (by rw [F.out]; exact ⟨_, rfl, str_zero⟩) (Two3.new w _ _ _ _ _ _).1
  · have hlt : j < xs.length := by omega
    have hne := b4 hlt
    have R := hid (fun wx => vrtrim0_any s1 (xs.drop j) wx b1 (by have := HN.out; simp; omega))
    have hsz : s1.size = xs.length - j := by have := b1.size; simpa using this
    have q1 : s1.toList ≠ [] := by
      intro c
      have : s1.size = 0 := by
        rw [ByteArray.toList_eq] at c
        have := congrArg List.length c
        rw [Array.length_toList] at this
        exact this
      omega
    have q2 : (s1.toList == []) = false := by rw [beq_eq_false_iff_ne]; exact q1
    have q3 : s1.toList.isEmpty = false := by rw [List.isEmpty_eq_false_iff]; exact q1
    have N2 : Hid (∀ k, k ≤ (xs.drop j).length → (∀ i, k ≤ i → i < (xs.drop j).length → (xs.drop j).getD i 0 = 48) → (0 < k → (xs.drop j).getD (k - 1) 0 ≠ 48) → Sc.nrm neg xs e = ⟨neg, (xs.drop j).take k, e + (xs.drop j).length - k⟩ ∧ 0 < k) := fun k x1 x2 x3 => Sc.nrm_of_trims hlt b3 hne x1 x2 x3
    have HL : Hid ((xs.drop j).length = xs.length - j) := by show _ = _; simp
    obtain ⟨m, hm⟩ : ∃ m, xs.length - j = m := ⟨_, rfl⟩
    rw [hm] at hsz HL
    have hmb : (m : Int) ≤ 281474976710656 := by have := HN.out; omega
    clear b1 b2 b3 b4 hlt hne hm h
    go_wp2_with fail
    refine (R.out _).mono ?_
    rintro r w2 ⟨⟨s2, k, rfl, c1, c2, c3, c4⟩, rfl⟩
    have NN := hid (N2.out k c2 c3 c4)
    have hk2 : s2.size = k := by have := c1.size; rw [List.length_take] at this; omega
    have hkm : (k : Int) ≤ (m : Int) := by have := HL.out; omega
    have HC := hid c1
    clear c1 c2 c3 c4 R N2 L
    go_wp2_with fail
    (try simp only [Exit.inBlock, Exit.then])
    refine bodyPost_ret (results_cell_row rfl _ _ (w.heap.size + 1) 39 _ (0, 0) _ rfl (Two3.new w _ _ _ _ _ _).2.2 Tryz.underlying39 rfl (by kernel_rfl)) rfl ?_
    exact dec_ret (by rw [NN.out.1, HL.out]; exact ⟨_, rfl, HC.out⟩) (Two3.new w _ _ _ _ _ _).1
end Go.Proofs.YtaoaniigbooihaaGreatDoor

namespace Go.Proofs.YtaoaniigbooihaaGreatDoor
open Go Go.RowKit Go.Deep

theorem Two3.one {w w' : World} {v0 v1 v2 u0 u1 u2 : Value} (h : Two3 w w' v0 v1 v2 u0 u1 u2) (x : Value) : Two3 w (w'.setCell ⟨w.heap.size, 1, none⟩ x) v0 x v2 u0 u1 u2 :=
  ⟨h.1.setCell (p := ⟨w.heap.size, 1, none⟩) (Nat.le_refl _) x, set1 h.2.1 (by simp [Array.setIfInBounds]), h.2.2.far (by omega)⟩

set_option maxRecDepth 100000 in
theorem own_any (neg : Bool) (s : ByteArray) (e : Int) (w : World) (hs : s.size ≤ 281474976710656) :
    Calls Tryz.prog 69 #[decV neg s e] w fun r w' => r = .returned (decV neg s e) ∧ Below w.heap.size w w' := by
  have C := hid (fun wx => vclone_any s wx hs)
  have Z := hid (Two3.new w (.bool neg) (.string s) (.int .i64 e) (.bool false) (.string ⟨#[]⟩) (.int .i64 0))
  unfold decV
  clear hs
  go_enter Tryz.func69, Tryz.ntmps69
  go_wp2_with fail
  refine (C.out _).mono ?_
  rintro r w1 ⟨rfl, hB⟩
  have S := hid (Z.out.on hB)
  obtain ⟨⟨c0, c1, c2⟩, f0, f1, f2⟩ := S.out.2.1.cells
  obtain ⟨⟨d0, d1, d2⟩, g0, g1, g2⟩ := S.out.2.2.cells
  clear hB Z C
  go_wp2_with fail
  (try simp only [Exit.inBlock, Exit.then])
  refine bodyPost_ret (results_cell_row rfl _ _ (w.heap.size + 1) 39 _ (0, 0) _ rfl ((S.out.one _).putB _ _ _).2.2 Tryz.underlying39 rfl (by kernel_rfl)) rfl ?_
  exact ⟨rfl, ((S.out.one _).putB _ _ _).1⟩

theorem nrm_ds_len (neg : Bool) (ds : List Int) (e : Int) (h : ds.length ≤ 281474976710655) : (Sc.nrm neg ds e).ds.length ≤ 281474976710656 := by
  have := Sc.nrm_len neg ds e
  omega
end Go.Proofs.YtaoaniigbooihaaGreatDoor

namespace Go.Proofs.YtaoaniigbooihaaGreatDoor
open Go Go.RowKit Go.Deep

theorem vret_bool {a b : Bool} (h : a = b) : Ending.returned (.bool a) = .returned (.bool b) := by rw [h]

theorem digit_any (x : Int) (w : World) (h0 : 0 ≤ x) (h1 : x < 256) : Calls Tryz.prog 67 #[.int .u8 x] w fun e w' => e = .returned (.bool (Sc.dg x)) ∧ w' = w := by
  go_enter Tryz.func67, Tryz.ntmps67
  go_wp2
  all_goals (go_ret; refine ⟨vret_bool ?_, rfl⟩)
  all_goals (rw [Bool.eq_iff_iff]; simp [Sc.dg]; omega)

theorem Str.pk {s : ByteArray} {xs : List Int} (h : Str s xs) (t : Nat) : ∀ ht : t < s.size, ((s[t]'ht).toNat : Int) = Sc.pk xs t := fun ht => h.at t ht
end Go.Proofs.YtaoaniigbooihaaGreatDoor

namespace Go.Proofs.YtaoaniigbooihaaGreatDoor
open Go Go.RowKit Go.Deep


theorem blank_any (x : Int) (w : World) (h0 : 0 ≤ x) (h1 : x < 256) : Calls Tryz.prog 68 #[.int .u8 x] w fun e w' => e = .returned (.bool (Sc.bl x)) ∧ w' = w := by
  go_enter Tryz.func68, Tryz.ntmps68
  go_wp2
  all_goals (go_ret; refine ⟨vret_bool ?_, rfl⟩)
  all_goals (rw [Bool.eq_iff_iff]; simp [Sc.bl]; omega)





theorem peek_any (s : ByteArray) (xs : List Int) (k : Nat) (w : World) (hs : Str s xs) (hn : xs.length ≤ 562949953421312) : Calls Tryz.prog 65 #[.string s, .int .i64 k] w fun e w' => e = .returned (.int .u8 (Sc.pk xs k)) ∧ w' = w := by
  have hsz := hs.size
  have hx := hs.pk k
  have HS := hid hs
  have HN := hid hn
  clear hs hn
  by_cases h : k < xs.length
  · have h1 : (k : Int) < (xs.length : Int) := by omega
    go_enter Tryz.func65, Tryz.ntmps65
    go_wp2
    all_goals (go_ret; first | exact ⟨rfl, rfl⟩ | omega)
  · have h1 : ¬ (k : Int) < (xs.length : Int) := by omega
    have e : Sc.pk xs k = 0 := Sc.pk_ge (by omega)
    go_enter Tryz.func65, Tryz.ntmps65
    go_wp2
    all_goals (go_ret; first | exact ⟨rfl, rfl⟩ | exact ⟨by rw [e], rfl⟩ | omega)

theorem past_any (s : ByteArray) (xs : List Int) (k : Nat) (w : World) (hs : Str s xs) (hn : xs.length ≤ 562949953421312) (hk : k ≤ xs.length + 1) : Calls Tryz.prog 66 #[.string s, .int .i64 k] w fun e w' => e = .returned (.int .i64 ((k + Sc.sg xs k : Nat) : Int)) ∧ w' = w := by
  have P := hid (peek_any s xs k w hs hn)
  have b := hs.atb k
  have hx : Sc.pk xs k = xs.getD k 0 := rfl
  rw [← hx] at b
  have hk2 : (k : Int) ≤ 562949953421313 := by omega
  have S : Hid (∀ r : Int, (Sc.pk xs k = 43 ∨ Sc.pk xs k = 45 → r = (k : Int) + 1) → (¬ (Sc.pk xs k = 43 ∨ Sc.pk xs k = 45) → r = (k : Int)) → Ending.returned (.int .i64 r) = .returned (.int .i64 ((k + Sc.sg xs k : Nat) : Int))) := fun r h1 h2 => by
    unfold Sc.sg
    by_cases c : Sc.pk xs k = 43 ∨ Sc.pk xs k = 45
    · rw [if_pos c, h1 c]; rfl
    · rw [if_neg c, h2 c]; rfl
  clear hs hn hk hx
  generalize Sc.pk xs k = x at *
  have hc : x = 43 ∨ x = 45 ∨ ((x == 43) = false ∧ (x == 45) = false ∧ x ≠ 43 ∧ x ≠ 45) := by
    by_cases c1 : x = 43
    · exact .inl c1
    · by_cases c2 : x = 45
      · exact .inr (.inl c2)
      · exact .inr (.inr ⟨by rw [beq_eq_false_iff_ne]; exact c1, by rw [beq_eq_false_iff_ne]; exact c2, c1, c2⟩)
  rcases hc with rfl | rfl | ⟨c1, c2, c3, c4⟩
  all_goals go_enter Tryz.func66, Tryz.ntmps66
  all_goals (go_wp2_with fail; refine P.out.mono ?_; rintro e w1 ⟨rfl, rfl⟩; clear P; go_wp2_with fail; go_ret; refine ⟨?_, rfl⟩; refine S.out _ ?_ ?_)
  all_goals (intro hh; first | omega | (exfalso; revert hh; decide))

set_option maxRecDepth 100000 in
theorem blanks_any (s : ByteArray) (xs : List Int) (k : Nat) (w : World) (hs : Str s xs) (hn : xs.length ≤ 562949953421312) (hk : k ≤ xs.length) : Calls Tryz.prog 38 #[.string s, .int .i64 k] w fun e w' => e = .returned (.int .i64 ((k + Sc.run Sc.bl xs k : Nat) : Int)) ∧ w' = w := by
  have HS := hid hs
  have HN := hid hn
  have hsz := hs.size
  have HK := hid hk
  clear hs hn hk
  go_enter Tryz.func38, Tryz.ntmps38
  go_wp2_with fail
  go_loop [1] (fun c => ∃ j : Nat, c = .int .i64 j ∧ Hid (j ≤ xs.length ∧ k + Sc.run Sc.bl xs k = j + Sc.run Sc.bl xs j)) (fun c => match c with | .int _ j => xs.length - j.toNat | _ => 0)
  case atStart => exact ⟨k, rfl, HK.out, rfl⟩
  case round =>
    obtain ⟨j, rfl, I⟩ := hrel
    have hj : (j : Int) ≤ 562949953421312 := by have := I.out.1; have := HN.out; omega
    have hx := HS.out.pk j
    by_cases h : j < xs.length
    · have hji : (j : Int) < (xs.length : Int) := by omega
      have b : 0 ≤ Sc.pk xs j ∧ Sc.pk xs j < 256 := HS.out.atb j
      have B := hid (blank_any (Sc.pk xs j) w b.1 b.2)
      cases hb : Sc.bl (Sc.pk xs j) with
      | true =>
        have R := hid (Sc.run_succ Sc.bl0 hb)
        rw [hb] at B
        clear hb
        generalize Sc.pk xs j = x at *
        go_wp2_with fail
        refine B.out.mono ?_
        rintro e w1 ⟨rfl, rfl⟩
        go_wp2_with fail
        go_round
        case rel => exact ⟨j + 1, by go_num, by have := I.out.2; have := R.out; show _ ∧ _; omega⟩
        case measure => simp; omega
      | false =>
        have R := hid (Sc.run_zero Sc.bl0 hb)
        rw [hb] at B
        clear hb
        generalize Sc.pk xs j = x at *
        go_wp2_with fail
        refine B.out.mono ?_
        rintro e w1 ⟨rfl, rfl⟩
        go_wp2_with fail
        go_ret
        exact ⟨congrArg (fun z => Ending.returned (.int .i64 z)) (by have := I.out.2; have := R.out; omega), rfl⟩
    · have hji : ¬ (j : Int) < (xs.length : Int) := by omega
      have R : Hid (Sc.run Sc.bl xs j = 0) := Sc.run_zero Sc.bl0 (by rw [Sc.pk_ge (by omega)]; rfl)
      go_wp2_with fail
      go_ret
      exact ⟨congrArg (fun z => Ending.returned (.int .i64 z)) (by have := I.out.2; have := R.out; omega), rfl⟩
end Go.Proofs.YtaoaniigbooihaaGreatDoor

namespace Go.Proofs.YtaoaniigbooihaaGreatDoor
open Go Go.RowKit Go.Deep


/-- The room for the answer, empty; the literal in its box. -/
def RM (w w' : World) (neg : Bool) (A B : ByteArray) (sc en : Int) : Prop :=
  Below w.heap.size w w' ∧ Row5 w' w.heap.size 71 (.bool false) (.string ⟨#[]⟩) (.string ⟨#[]⟩) (.int .i64 0) (.int .i64 0) ∧ Row5 w' (w.heap.size + 1) 71 (.bool neg) (.string A) (.string B) (.int .i64 sc) (.int .i64 en)

theorem RM.new (w : World) (neg : Bool) : RM w ((w.alloc (.cells #[.bool false, .string ⟨#[]⟩, .string ⟨#[]⟩, .int .i64 0, .int .i64 0] 71)).alloc (.cells #[.bool neg, .string ⟨#[]⟩, .string ⟨#[]⟩, .int .i64 0, .int .i64 0] 71)) neg ⟨#[]⟩ ⟨#[]⟩ 0 0 := by
  refine ⟨below_on (alloc_b _ _) (alloc_b _ _), heap_alloc2_old _ _ _, heap_alloc2_new _ _ _⟩

theorem RM.cells {w w' : World} {neg : Bool} {A B : ByteArray} {sc en : Int} (h : RM w w' neg A B sc en) :
    (w'.cell? ⟨w.heap.size + 1, 0, none⟩ = some (.bool neg) ∧ w'.cell? ⟨w.heap.size + 1, 1, none⟩ = some (.string A) ∧ w'.cell? ⟨w.heap.size + 1, 2, none⟩ = some (.string B) ∧ w'.cell? ⟨w.heap.size + 1, 3, none⟩ = some (.int .i64 sc) ∧ w'.cell? ⟨w.heap.size + 1, 4, none⟩ = some (.int .i64 en)) ∧
    (w'.frozen? ⟨w.heap.size + 1, 0, none⟩ = false ∧ w'.frozen? ⟨w.heap.size + 1, 1, none⟩ = false ∧ w'.frozen? ⟨w.heap.size + 1, 2, none⟩ = false ∧ w'.frozen? ⟨w.heap.size + 1, 3, none⟩ = false ∧ w'.frozen? ⟨w.heap.size + 1, 4, none⟩ = false) := h.2.2.cells
theorem RM.room {w w' : World} {neg : Bool} {A B : ByteArray} {sc en : Int} (h : RM w w' neg A B sc en) :
    (w'.cell? ⟨w.heap.size, 0, none⟩ = some (.bool false) ∧ w'.cell? ⟨w.heap.size, 1, none⟩ = some (.string ⟨#[]⟩) ∧ w'.cell? ⟨w.heap.size, 2, none⟩ = some (.string ⟨#[]⟩) ∧ w'.cell? ⟨w.heap.size, 3, none⟩ = some (.int .i64 0) ∧ w'.cell? ⟨w.heap.size, 4, none⟩ = some (.int .i64 0)) ∧
    (w'.frozen? ⟨w.heap.size, 0, none⟩ = false ∧ w'.frozen? ⟨w.heap.size, 1, none⟩ = false ∧ w'.frozen? ⟨w.heap.size, 2, none⟩ = false ∧ w'.frozen? ⟨w.heap.size, 3, none⟩ = false ∧ w'.frozen? ⟨w.heap.size, 4, none⟩ = false) := h.2.1.cells
theorem RM.ahead {w w' : World} {neg : Bool} {A B : ByteArray} {sc en : Int} (h : RM w w' neg A B sc en) (A' : ByteArray) : RM w (w'.setCell ⟨w.heap.size + 1, 1, none⟩ (.string A')) neg A' B sc en :=
  ⟨h.1.setCell (p := ⟨w.heap.size + 1, 1, none⟩) (Nat.le_succ _) _, h.2.1.set_far (by omega), set1 h.2.2 (by simp [Array.setIfInBounds])⟩
theorem RM.behind {w w' : World} {neg : Bool} {A B : ByteArray} {sc en : Int} (h : RM w w' neg A B sc en) (B' : ByteArray) : RM w (w'.setCell ⟨w.heap.size + 1, 2, none⟩ (.string B')) neg A B' sc en :=
  ⟨h.1.setCell (p := ⟨w.heap.size + 1, 2, none⟩) (Nat.le_succ _) _, h.2.1.set_far (by omega), set1 h.2.2 (by simp [Array.setIfInBounds])⟩
theorem RM.scale {w w' : World} {neg : Bool} {A B : ByteArray} {sc en : Int} (h : RM w w' neg A B sc en) (x : Int) : RM w (w'.setCell ⟨w.heap.size + 1, 3, none⟩ (.int .i64 x)) neg A B x en :=
  ⟨h.1.setCell (p := ⟨w.heap.size + 1, 3, none⟩) (Nat.le_succ _) _, h.2.1.set_far (by omega), set1 h.2.2 (by simp [Array.setIfInBounds])⟩
theorem RM.en {w w' : World} {neg : Bool} {A B : ByteArray} {sc en : Int} (h : RM w w' neg A B sc en) (x : Int) : RM w (w'.setCell ⟨w.heap.size + 1, 4, none⟩ (.int .i64 x)) neg A B sc x :=
  ⟨h.1.setCell (p := ⟨w.heap.size + 1, 4, none⟩) (Nat.le_succ _) _, h.2.1.set_far (by omega), set1 h.2.2 (by simp [Array.setIfInBounds])⟩
theorem RM.drew {w w' : World} {neg : Bool} {A B : ByteArray} {sc en : Int} (h : RM w w' neg A B sc en) (n : Nat) : RM w (w'.drewN n) neg A B sc en := ⟨below_drewN h.1 n, h.2.1, h.2.2⟩

theorem RM.drew1 {w w' : World} {neg : Bool} {A B : ByteArray} {sc en : Int} (h : RM w w' neg A B sc en) : RM w w'.drew neg A B sc en := h.drew 1

def litV (neg : Bool) (A B : ByteArray) (sc en : Int) : Value := .agg #[.bool neg, .string A, .string B, .int .i64 sc, .int .i64 en]

theorem RM.put {w w' : World} {neg : Bool} {A B : ByteArray} {sc en : Int} (h : RM w w' neg A B sc en) (v0 v1 v2 v3 v4 : Value) :
    (((((w'.setCell ⟨w.heap.size, 0, none⟩ v0).setCell ⟨w.heap.size, 1, none⟩ v1).setCell ⟨w.heap.size, 2, none⟩ v2).setCell ⟨w.heap.size, 3, none⟩ v3).setCell ⟨w.heap.size, 4, none⟩ v4).heap[w.heap.size]? = some (.cells #[v0, v1, v2, v3, v4] 71 (0, 0)) ∧
    Below w.heap.size w (((((w'.setCell ⟨w.heap.size, 0, none⟩ v0).setCell ⟨w.heap.size, 1, none⟩ v1).setCell ⟨w.heap.size, 2, none⟩ v2).setCell ⟨w.heap.size, 3, none⟩ v3).setCell ⟨w.heap.size, 4, none⟩ v4) := by
  have h0 := set1 (o := 0) (v := v0) (c' := #[v0, .string ⟨#[]⟩, .string ⟨#[]⟩, .int .i64 0, .int .i64 0]) h.2.1 (by simp [Array.setIfInBounds])
  have h1 := set1 (o := 1) (v := v1) (c' := #[v0, v1, .string ⟨#[]⟩, .int .i64 0, .int .i64 0]) h0 (by simp [Array.setIfInBounds])
  have h2 := set1 (o := 2) (v := v2) (c' := #[v0, v1, v2, .int .i64 0, .int .i64 0]) h1 (by simp [Array.setIfInBounds])
  have h3 := set1 (o := 3) (v := v3) (c' := #[v0, v1, v2, v3, .int .i64 0]) h2 (by simp [Array.setIfInBounds])
  exact ⟨set1 (o := 4) (v := v4) (c' := #[v0, v1, v2, v3, v4]) h3 (by simp [Array.setIfInBounds]), ((((h.1.setCell (p := ⟨w.heap.size, 0, none⟩) (Nat.le_refl _) v0).setCell (p := ⟨w.heap.size, 1, none⟩) (Nat.le_refl _) v1).setCell (p := ⟨w.heap.size, 2, none⟩) (Nat.le_refl _) v2).setCell (p := ⟨w.heap.size, 3, none⟩) (Nat.le_refl _) v3).setCell (p := ⟨w.heap.size, 4, none⟩) (Nat.le_refl _) v4⟩

/-- What read tells. -/
def RdTold (xs : List Int) (k : Nat) (w : World) (e : Ending) (w' : World) : Prop :=
  ((Sc.some? xs k ∧ ∃ A B, e = .returned (.tuple #[litV (Sc.lit xs k).neg A B (Sc.lit xs k).sc (Sc.lit xs k).en, .bool true]) ∧ Str A (Sc.lit xs k).ah ∧ Str B (Sc.lit xs k).bh) ∨
    (¬ Sc.some? xs k ∧ e = .returned (.tuple #[litV false ⟨#[]⟩ ⟨#[]⟩ 0 0, .bool false]))) ∧ Below w.heap.size w w'

/-- What holds at each label: 0 ahead, 2 behind, 1 number, 3 exponent. -/
inductive RI (xs : List Int) (k : Nat) (w w' : World) : Nat → Nat → Value → Value → Prop
  | ahead (j : Nat) (bel : Value) (h1 : Sc.p1 xs k ≤ j) (h2 : j + Sc.run Sc.dg xs j = Sc.p2 xs k) (m : RM w w' (decide (Sc.pk xs k = 45)) ⟨#[]⟩ ⟨#[]⟩ 0 0) : RI xs k w w' 0 j bel (.int .i64 (Sc.p1 xs k : Nat))
  | behind (j : Nat) (bel : Value) (A : ByteArray) (hA : Str A (Sc.lit xs k).ah) (hp : Sc.pk xs (Sc.p2 xs k) = 46) (h1 : Sc.p2 xs k + 1 ≤ j) (h2 : j + Sc.run Sc.dg xs j = Sc.p3 xs k) (m : RM w w' (decide (Sc.pk xs k = 45)) A ⟨#[]⟩ 0 0) : RI xs k w w' 2 j bel (.int .i64 ((Sc.p2 xs k + 1 : Nat) : Int))
  | number (bel frm : Value) (A B : ByteArray) (hA : Str A (Sc.lit xs k).ah) (hB : Str B (Sc.lit xs k).bh) (m : RM w w' (decide (Sc.pk xs k = 45)) A B 0 0) : RI xs k w w' 1 (Sc.p3 xs k) bel frm
  | power (j : Nat) (frm : Value) (A B : ByteArray) (hs : Sc.some? xs k) (hA : Str A (Sc.lit xs k).ah) (hB : Str B (Sc.lit xs k).bh) (he : Sc.hasE xs (Sc.p3 xs k) = true) (h1 : Sc.p4 xs (Sc.p3 xs k) ≤ j) (h2 : j + Sc.run Sc.dg xs j = Sc.p4 xs (Sc.p3 xs k) + Sc.run Sc.dg xs (Sc.p4 xs (Sc.p3 xs k)))
      (m : RM w w' (decide (Sc.pk xs k = 45)) A B (Sc.cap ((xs.drop (Sc.p4 xs (Sc.p3 xs k))).take (j - Sc.p4 xs (Sc.p3 xs k)))) (Sc.p3 xs k : Nat)) : RI xs k w w' 3 j (.bool (decide (Sc.pk xs (Sc.p3 xs k + 1) = 45))) frm

theorem frame_all (a : Act) (h : a.tmps.size = 109) (hd : a.defers = []) : ∃ u : Nat → Value, a = { tmps := #[u 0, u 1, u 2, u 3, u 4, u 5, u 6, u 7, u 8, u 9, u 10, u 11, u 12, u 13, u 14, u 15, u 16, u 17, u 18, u 19, u 20, u 21, u 22, u 23, u 24, u 25, u 26, u 27, u 28, u 29, u 30, u 31, u 32, u 33, u 34, u 35, u 36, u 37, u 38, u 39, u 40, u 41, u 42, u 43, u 44, u 45, u 46, u 47, u 48, u 49, u 50, u 51, u 52, u 53, u 54, u 55, u 56, u 57, u 58, u 59, u 60, u 61, u 62, u 63, u 64, u 65, u 66, u 67, u 68, u 69, u 70, u 71, u 72, u 73, u 74, u 75, u 76, u 77, u 78, u 79, u 80, u 81, u 82, u 83, u 84, u 85, u 86, u 87, u 88, u 89, u 90, u 91, u 92, u 93, u 94, u 95, u 96, u 97, u 98, u 99, u 100, u 101, u 102, u 103, u 104, u 105, u 106, u 107, u 108], defers := [] } := by
  refine ⟨fun i => a.tmps.toList.getD i undef, ?_⟩
  obtain ⟨⟨l⟩, d⟩ := a
  simp only at hd h
  subst hd
  have e : l = (List.range 109).map (fun i => l.getD i undef) := by
    have h' : l.length = 109 := h
    apply List.ext_getElem
    · simp [h']
    · intro i h1 h2
      simp [List.getD, h1]
  conv => lhs; rw [e]
  rfl
def RJ (s : ByteArray) (xs : List Int) (k : Nat) (w : World) (l : Nat) (a : Act) (w' : World) : Prop :=
  a.tmps.size = 109 ∧ a.defers = [] ∧ ∃ (at_ : Int) (bel frm : Value), a.tmps.getD 0 undef = .string s ∧ a.tmps.getD 1 undef = .int .i64 at_ ∧ a.tmps.getD 4 undef = .pointer (some ⟨w.heap.size, 0, none⟩) ∧ a.tmps.getD 6 undef = .pointer (some ⟨w.heap.size + 1, 0, none⟩) ∧ a.tmps.getD 7 undef = bel ∧ a.tmps.getD 8 undef = frm ∧ ∃ j : Nat, at_ = j ∧ RI xs k w w' l j bel frm
theorem RJ.open {s : ByteArray} {xs : List Int} {k : Nat} {w : World} {l : Nat} {a : Act} {w' : World} (h : RJ s xs k w l a w') : ∃ (u : Nat → Value) (j : Nat) (bel frm : Value), a = { tmps := #[.string s, .int .i64 j, u 2, u 3, .pointer (some ⟨w.heap.size, 0, none⟩), u 5, .pointer (some ⟨w.heap.size + 1, 0, none⟩), bel, frm, u 9, u 10, u 11, u 12, u 13, u 14, u 15, u 16, u 17, u 18, u 19, u 20, u 21, u 22, u 23, u 24, u 25, u 26, u 27, u 28, u 29, u 30, u 31, u 32, u 33, u 34, u 35, u 36, u 37, u 38, u 39, u 40, u 41, u 42, u 43, u 44, u 45, u 46, u 47, u 48, u 49, u 50, u 51, u 52, u 53, u 54, u 55, u 56, u 57, u 58, u 59, u 60, u 61, u 62, u 63, u 64, u 65, u 66, u 67, u 68, u 69, u 70, u 71, u 72, u 73, u 74, u 75, u 76, u 77, u 78, u 79, u 80, u 81, u 82, u 83, u 84, u 85, u 86, u 87, u 88, u 89, u 90, u 91, u 92, u 93, u 94, u 95, u 96, u 97, u 98, u 99, u 100, u 101, u 102, u 103, u 104, u 105, u 106, u 107, u 108], defers := [] } ∧ RI xs k w w' l j bel frm := by
  obtain ⟨h1, h2, at_, bel, frm, e0, e1, e4, e6, e7, e8, j, rfl, I⟩ := h
  obtain ⟨u, rfl⟩ := frame_all a h1 h2
  refine ⟨u, j, bel, frm, ?_, I⟩
  have e0' : u 0 = .string s := e0
  have e1' : u 1 = .int .i64 j := e1
  have e4' : u 4 = .pointer (some ⟨w.heap.size, 0, none⟩) := e4
  have e6' : u 6 = .pointer (some ⟨w.heap.size + 1, 0, none⟩) := e6
  have e7' : u 7 = bel := e7
  have e8' : u 8 = frm := e8
  rw [e0', e1', e4', e6', e7', e8']

def rk : Nat → Nat
  | 0 => 3
  | 2 => 2
  | 1 => 1
  | _ => 0
def rmu (xs : List Int) (l : Nat) (a : Act) (_ : World) : Nat := rk l * (xs.length + 3) + (xs.length + 2 - (match a.tmps.getD 1 undef with | .int _ q => q.toNat | _ => 0))

theorem wp_scope_falls {P : Program} {a : Act} {w : World} {Q : Exit → Act → World → Prop} {c : Code} (J : Nat → Act → World → Prop) (μ : Nat → Act → World → Nat)
    (first : (∀ l' a' w' b', J l' a' w' → findLabel c l' = some (.seq .skip b') → b'.wp P (Exit.jumps J Q) a' w') → c.wp P (Exit.jumps J Q) a w)
    (pass : ∀ l a w, J l a w → ∃ b, findLabel c l = some (.seq .skip b) ∧ ((∀ l' a' w' b', J l' a' w' → μ l' a' w' < μ l a w → findLabel c l' = some (.seq .skip b') → b'.wp P (Exit.jumps (fun l' a' w' => J l' a' w' ∧ μ l' a' w' < μ l a w) Q) a' w') → b.wp P (Exit.jumps (fun l' a' w' => J l' a' w' ∧ μ l' a' w' < μ l a w) Q) a w)) : (Code.scope c).wp P Q a w := by
  have key : ∀ n l a w, μ l a w = n → J l a w → ∃ b, findLabel c l = some (.seq .skip b) ∧ b.wp P (Exit.jumps (fun l' a' w' => J l' a' w' ∧ μ l' a' w' < n) Q) a w := by
    intro n
    induction n using Nat.strongRecOn with
    | _ n ih =>
      intro l a w hn hJ
      obtain ⟨rest, hf, hp⟩ := pass l a w hJ
      rw [hn] at hp
      refine ⟨rest, hf, hp fun l' a' w' rest' hJ' hlt hf' => ?_⟩
      obtain ⟨r2, hf2, h2⟩ := ih _ hlt l' a' w' rfl hJ'
      rw [hf'] at hf2
      cases hf2
      refine wp_mono h2 fun e a1 w1 hq => ?_
      cases e <;> first | exact hq | exact ⟨hq.1, by have := hq.2; omega⟩
  refine wp_scope_labels J μ (first fun l' a' w' rest' hJ' hf' => ?_) fun l a w hJ => ?_
  · obtain ⟨r2, hf2, h2⟩ := key _ l' a' w' rfl hJ'
    rw [hf'] at hf2
    cases hf2
    refine wp_mono h2 fun e a1 w1 hq => ?_
    cases e <;> first | exact hq | exact hq.1
  · obtain ⟨b, hf, hb⟩ := key _ l a w rfl hJ
    exact ⟨_, hf, wp_seq (wp_skip hb)⟩

theorem rd_some {xs : List Int} {k : Nat} {w w' : World} {A B : ByteArray} {sc en : Int} (hs : Sc.some? xs k) (hA : Str A (Sc.lit xs k).ah) (hB : Str B (Sc.lit xs k).bh) (h1 : sc = (Sc.lit xs k).sc) (h2 : en = ((Sc.lit xs k).en : Nat)) (b : Below w.heap.size w w') :
    RdTold xs k w (.returned (.tuple #[.agg #[.bool (decide (Sc.pk xs k = 45)), .string A, .string B, .int .i64 sc, .int .i64 en], .bool true])) w' := by
  subst h1 h2
  exact ⟨.inl ⟨hs, A, B, rfl, hA, hB⟩, b⟩
theorem rd_none {xs : List Int} {k : Nat} {w w' : World} (hs : ¬ Sc.some? xs k) (b : Below w.heap.size w w') :
    RdTold xs k w (.returned (.tuple #[.agg #[.bool false, .string ⟨#[]⟩, .string ⟨#[]⟩, .int .i64 0, .int .i64 0], .bool false])) w' := ⟨.inr ⟨hs, rfl⟩, b⟩
theorem isE_t {x : Int} (h : Sc.isE x = true) : x = 101 ∨ x = 69 := by simpa [Sc.isE] using h
theorem isE_f {x : Int} (h : Sc.isE x = false) : x ≠ 101 ∧ x ≠ 69 := by simpa [Sc.isE] using h
theorem sc_none {xs : List Int} {k : Nat} (h : Sc.hasE xs (Sc.p3 xs k) = false) : (0 : Int) = (Sc.lit xs k).sc ∧ ((Sc.p3 xs k : Nat) : Int) = ((Sc.lit xs k).en : Nat) := by
  unfold Sc.lit; simp [h]
theorem sc_some {xs : List Int} {k : Nat} (h : Sc.hasE xs (Sc.p3 xs k) = true) : (Sc.lit xs k).sc = (if Sc.pk xs (Sc.p3 xs k + 1) = 45 then - Sc.cap ((xs.drop (Sc.p4 xs (Sc.p3 xs k))).take (Sc.run Sc.dg xs (Sc.p4 xs (Sc.p3 xs k)))) else Sc.cap ((xs.drop (Sc.p4 xs (Sc.p3 xs k))).take (Sc.run Sc.dg xs (Sc.p4 xs (Sc.p3 xs k))))) ∧ (Sc.lit xs k).en = Sc.p4 xs (Sc.p3 xs k) + Sc.run Sc.dg xs (Sc.p4 xs (Sc.p3 xs k)) := by
  unfold Sc.lit; simp [h]
theorem ah_len {xs : List Int} {k : Nat} {A : ByteArray} (hA : Str A (Sc.lit xs k).ah) : A.size = Sc.run Sc.dg xs (Sc.p1 xs k) := by
  rw [hA.size]
  have := Sc.run_le Sc.dg xs (Sc.p1 xs k)
  show ((xs.drop _).take _).length = _
  simp; omega
theorem bh_len {xs : List Int} {k : Nat} {B : ByteArray} (hB : Str B (Sc.lit xs k).bh) : B.size = Sc.bn xs k := by
  rw [hB.size]
  show ((xs.drop _).take _).length = _
  have h1 : Sc.bn xs k ≤ xs.length - (Sc.p2 xs k + 1) := by
    unfold Sc.bn
    split
    · exact Sc.run_le _ _ _
    · omega
  simp; omega
theorem cap_more {xs : List Int} {v j : Nat} (h : v ≤ j) (hj : j < xs.length) : Sc.cap ((xs.drop v).take (j + 1 - v)) = min (10 * Sc.cap ((xs.drop v).take (j - v)) + (Sc.pk xs j - 48)) 1000000000000000 := by
  have e := Sc.take_snoc (xs := xs) (v := v) (c := j - v) (by omega)
  rw [show j + 1 - v = j - v + 1 by omega, e, Sc.cap_snoc, show v + (j - v) = j by omega]
theorem cap_bd {xs : List Int} {v j : Nat} (h : v ≤ j) (hr : j + Sc.run Sc.dg xs j = v + Sc.run Sc.dg xs v) : 0 ≤ Sc.cap ((xs.drop v).take (j - v)) ∧ Sc.cap ((xs.drop v).take (j - v)) ≤ 1000000000000000 := by
  apply Sc.cap_b
  intro x hx
  obtain ⟨i, hi, rfl⟩ := List.mem_iff_getElem.1 hx
  rw [List.length_take, List.length_drop] at hi
  have := Sc.run_all (p := Sc.dg) (xs := xs) (i := v) i (by omega)
  have e : Sc.pk xs (v + i) = ((xs.drop v).take (j - v))[i] := by
    have hi2 : v + i < xs.length := by omega
    simp [Sc.pk, List.getD, hi2]
  rw [← e]; exact this
end Go.Proofs.YtaoaniigbooihaaGreatDoor

namespace Go.Proofs.YtaoaniigbooihaaGreatDoor
open Go Go.RowKit Go.Deep

set_option maxRecDepth 100000 in
set_option maxHeartbeats 4000000 in
theorem vread_any (s : ByteArray) (xs : List Int) (k : Nat) (w : World) (hs : Str s xs) (hn : xs.length ≤ 562949953421312) (hk : k ≤ xs.length) : Calls Tryz.prog 37 #[.string s, .int .i64 k] w fun e w' => RdTold xs k w e w' := by
  have PK := hid (fun (j : Nat) (wx : World) => peek_any s xs j wx hs hn)
  have DG := hid (fun (j : Nat) (wx : World) => digit_any (Sc.pk xs j) wx (hs.atb j).1 (hs.atb j).2)
  have PS : Hid (∀ (j p : Nat) (wx : World), p = j + Sc.sg xs j → j ≤ xs.length + 1 → Calls Tryz.prog 66 #[.string s, .int .i64 j] wx fun e w' => e = .returned (.int .i64 (p : Int)) ∧ w' = wx) := fun j p wx hp hj => by subst hp; exact past_any s xs j wx hs hn hj
  have PKz : Hid (∀ (z : Int) (j : Nat) (wx : World), z = j → Calls Tryz.prog 65 #[.string s, .int .i64 z] wx fun e w' => e = .returned (.int .u8 (Sc.pk xs j)) ∧ w' = wx) := fun z j wx hz => by subst hz; exact peek_any s xs j wx hs hn
  have PSz : Hid (∀ (z : Int) (j p : Nat) (wx : World), z = j → p = j + Sc.sg xs j → j ≤ xs.length + 1 → Calls Tryz.prog 66 #[.string s, .int .i64 z] wx fun e w' => e = .returned (.int .i64 (p : Int)) ∧ w' = wx) := fun z j p wx hz hp hj => by subst hz hp; exact past_any s xs j wx hs hn hj
  have HS := hid hs
  have HN := hid hn
  have HK := hid hk
  have hsz := hs.size
  have BE := hid (Sc.en_le xs k hk)
  have B1 := hid (Sc.p1_le xs k hk)
  have B2 := hid (Sc.p2_le xs k hk)
  have B3 := hid (Sc.p3_le xs k hk)
  have B12 : Hid (Sc.p1 xs k ≤ Sc.p2 xs k) := by show _ ≤ _; unfold Sc.p2; omega
  have B23 := hid (Sc.p2_p3 xs k)
  clear hs hn hk
  go_enter Tryz.func37, Tryz.ntmps37
  go_wp2_with fail
  refine wp_scope_falls (RJ s xs k w) (rmu xs) (fun F => ?_) ?_
  · replace F := hid F
    go_wp2_with fail
    refine (PK.out k _).mono ?_
    rintro e w1 ⟨rfl, rfl⟩
    go_wp2_with fail
    refine (PS.out k (Sc.p1 xs k) _ rfl (by have := HK.out; omega)).mono ?_
    rintro e w1 ⟨rfl, rfl⟩
    go_wp2_with fail
    go_step3
    (try simp only [Exit.then])
    rename_i hK
    refine hK _ _ ?_
    exact F.out 0 _ _ _ ⟨rfl, rfl, _, _, _, rfl, rfl, rfl, rfl, rfl, rfl, Sc.p1 xs k, rfl, RI.ahead _ _ (Nat.le_refl _) rfl (RM.new w _)⟩ rfl
  · intro l a w' hJ
    obtain ⟨u, j, bel, frm, rfl, I⟩ := hJ.open
    clear hJ
    cases I with
    | ahead j bel h1 h2 m =>
      refine ⟨_, rfl, fun F => ?_⟩
      replace F := hid F
      replace h1 := hid h1
      replace h2 := hid h2
      have hj : (j : Int) ≤ 562949953421312 := by have := HN.out; have := B2.out; have := h2.out; omega
      have D := hid (fun wx => DG.out j wx)
      cases hd : Sc.dg (Sc.pk xs j) with
      | true =>
        rw [hd] at D
        have R := hid (Sc.run_succ Sc.dg0 hd)
        have hlt : Hid (j < xs.length) := Sc.pk_lt (by have := Sc.dg_iff.1 hd; omega)
        replace m := hid m
        clear hd
        go_wp2_with fail
        refine (PK.out j _).mono ?_; rintro e w1 ⟨rfl, rfl⟩
        go_wp2_with fail
        refine (D.out _).mono ?_; rintro e w1 ⟨rfl, rfl⟩
        go_wp2_with fail
        go_step3; exact ⟨⟨rfl, rfl, _, _, _, rfl, rfl, rfl, rfl, rfl, rfl, j + 1, rfl, RI.ahead _ _ (by have := h1.out; omega) (by have := h2.out; have := R.out; omega) m.out⟩, (show 3 * (xs.length + 3) + (xs.length + 2 - Int.toNat ((j : Int) + 1)) < 3 * (xs.length + 3) + (xs.length + 2 - Int.toNat (j : Int)) by have := HN.out; have := hlt.out; have := B1.out; have := B2.out; have := B3.out; omega)⟩
      | false =>
        rw [hd] at D
        have hj2 : j = Sc.p2 xs k := by have := h2.out; rw [Sc.run_zero Sc.dg0 hd] at this; exact this
        clear hd
        subst hj2
        have q1 : (Sc.p1 xs k : Int) ≤ (Sc.p2 xs k : Int) := by have := B12.out; omega
        have q2 : (Sc.p2 xs k : Int) ≤ (xs.length : Int) := by have := B2.out; omega
        obtain ⟨⟨c0, c1, c2, c3, c4⟩, f0, f1, f2, f3, f4⟩ := m.cells
        have M2 := hid (m.ahead (s.extract (Sc.p1 xs k) (Sc.p2 xs k)))
        have SA : Hid (Str (s.extract (Sc.p1 xs k) (Sc.p2 xs k)) (Sc.lit xs k).ah) := by
          have := HS.out.extract (Sc.p1 xs k) (Sc.p2 xs k)
          rw [show Sc.p2 xs k - Sc.p1 xs k = Sc.run Sc.dg xs (Sc.p1 xs k) by unfold Sc.p2; omega] at this
          exact this
        clear m
        have hp : Sc.pk xs (Sc.p2 xs k) = 46 ∨ ((Sc.pk xs (Sc.p2 xs k) == 46) = false ∧ Sc.pk xs (Sc.p2 xs k) ≠ 46) := by
          by_cases c : Sc.pk xs (Sc.p2 xs k) = 46
          · exact .inl c
          · exact .inr ⟨by rw [beq_eq_false_iff_ne]; exact c, c⟩
        rcases hp with hp | ⟨hp, hp2⟩
        · have HP := hid hp
          clear hp
          go_wp2_with fail
          refine (PK.out (Sc.p2 xs k) _).mono ?_; rintro e w1 ⟨rfl, rfl⟩
          go_wp2_with fail
          refine (D.out _).mono ?_; rintro e w1 ⟨rfl, rfl⟩
          go_wp2_with fail
          refine (PK.out (Sc.p2 xs k) _).mono ?_; rintro e w1 ⟨rfl, rfl⟩
          have hp := HP.out
          go_wp2_with fail
          go_step3; (try simp only [Exit.then]); rename_i hK; refine hK _ _ ?_; exact F.out 2 _ _ _ ⟨rfl, rfl, _, _, _, rfl, rfl, rfl, rfl, rfl, rfl, Sc.p2 xs k + 1, rfl, RI.behind _ _ _ SA.out HP.out (Nat.le_refl _) (by unfold Sc.p3; rw [if_pos HP.out]) M2.out⟩ (show 2 * (xs.length + 3) + (xs.length + 2 - Int.toNat ((Sc.p2 xs k : Int) + 1)) < 3 * (xs.length + 3) + (xs.length + 2 - Int.toNat (Sc.p2 xs k : Int)) by have := HN.out; have := B1.out; have := B2.out; have := B3.out; omega) rfl
        · have hp3 : (Sc.pk xs (Sc.p2 xs k) != 46) = true := by simpa using hp2
          have E3 : Hid (Sc.p3 xs k = Sc.p2 xs k) := by show _ = _; unfold Sc.p3; rw [if_neg hp2]
          have EB : Hid (Str ⟨#[]⟩ (Sc.lit xs k).bh) := by
            show Str _ ((xs.drop _).take (Sc.bn xs k))
            rw [show Sc.bn xs k = 0 by unfold Sc.bn; rw [if_neg hp2]]
            exact str_nil0
          replace hp2 := hid hp2
          go_wp2_with fail
          refine (PK.out (Sc.p2 xs k) _).mono ?_; rintro e w1 ⟨rfl, rfl⟩
          go_wp2_with fail
          refine (D.out _).mono ?_; rintro e w1 ⟨rfl, rfl⟩
          go_wp2_with fail
          refine (PK.out (Sc.p2 xs k) _).mono ?_; rintro e w1 ⟨rfl, rfl⟩
          go_wp2_with fail
          go_step3; exact ⟨⟨rfl, rfl, _, _, _, rfl, rfl, rfl, rfl, rfl, rfl, Sc.p3 xs k, by rw [E3.out], RI.number _ _ _ _ SA.out EB.out M2.out⟩, (show 1 * (xs.length + 3) + (xs.length + 2 - Int.toNat (Sc.p2 xs k : Int)) < 3 * (xs.length + 3) + (xs.length + 2 - Int.toNat (Sc.p2 xs k : Int)) by have := HN.out; have := B1.out; have := B2.out; have := B3.out; omega)⟩
    | behind j bel A hA hp h1 h2 m =>
      refine ⟨_, rfl, fun F => ?_⟩
      replace F := hid F
      replace h1 := hid h1
      replace h2 := hid h2
      replace hp := hid hp
      replace hA := hid hA
      have hj : (j : Int) ≤ 562949953421312 := by have := HN.out; have := B3.out; have := h2.out; omega
      have D := hid (fun wx => DG.out j wx)
      cases hd : Sc.dg (Sc.pk xs j) with
      | true =>
        rw [hd] at D
        have R := hid (Sc.run_succ Sc.dg0 hd)
        have hlt : Hid (j < xs.length) := Sc.pk_lt (by have := Sc.dg_iff.1 hd; omega)
        replace m := hid m
        clear hd
        go_wp2_with fail
        refine (PK.out j _).mono ?_; rintro e w1 ⟨rfl, rfl⟩
        go_wp2_with fail
        refine (D.out _).mono ?_; rintro e w1 ⟨rfl, rfl⟩
        go_wp2_with fail
        go_step3; exact ⟨⟨rfl, rfl, _, _, _, rfl, rfl, rfl, rfl, rfl, rfl, j + 1, rfl, RI.behind _ _ _ hA.out hp.out (by have := h1.out; omega) (by have := h2.out; have := R.out; omega) m.out⟩, (show 2 * (xs.length + 3) + (xs.length + 2 - Int.toNat ((j : Int) + 1)) < 2 * (xs.length + 3) + (xs.length + 2 - Int.toNat (j : Int)) by have := HN.out; have := hlt.out; have := B1.out; have := B2.out; have := B3.out; omega)⟩
      | false =>
        rw [hd] at D
        have hj2 : j = Sc.p3 xs k := by have := h2.out; rw [Sc.run_zero Sc.dg0 hd] at this; exact this
        clear hd
        subst hj2
        have q1 : (Sc.p2 xs k : Int) + 1 ≤ (Sc.p3 xs k : Int) := by have := h1.out; omega
        have q2 : (Sc.p3 xs k : Int) ≤ (xs.length : Int) := by have := B3.out; omega
        obtain ⟨⟨c0, c1, c2, c3, c4⟩, f0, f1, f2, f3, f4⟩ := m.cells
        have M2 := hid (m.behind (s.extract (Sc.p2 xs k + 1) (Sc.p3 xs k)))
        have SB : Hid (Str (s.extract (Sc.p2 xs k + 1) (Sc.p3 xs k)) (Sc.lit xs k).bh) := by
          have := HS.out.extract (Sc.p2 xs k + 1) (Sc.p3 xs k)
          rw [show Sc.p3 xs k - (Sc.p2 xs k + 1) = Sc.bn xs k by unfold Sc.p3 Sc.bn; rw [if_pos hp.out, if_pos hp.out]; omega] at this
          exact this
        clear m
        go_wp2_with fail
        refine (PK.out (Sc.p3 xs k) _).mono ?_; rintro e w1 ⟨rfl, rfl⟩
        go_wp2_with fail
        refine (D.out _).mono ?_; rintro e w1 ⟨rfl, rfl⟩
        go_wp2_with fail
        go_step3; (try simp only [Exit.then]); rename_i hK; refine hK _ _ ?_; exact F.out 1 _ _ _ ⟨rfl, rfl, _, _, _, rfl, rfl, rfl, rfl, rfl, rfl, Sc.p3 xs k, rfl, RI.number _ _ _ _ hA.out SB.out M2.out⟩ (show 1 * (xs.length + 3) + (xs.length + 2 - Int.toNat (Sc.p3 xs k : Int)) < 2 * (xs.length + 3) + (xs.length + 2 - Int.toNat (Sc.p3 xs k : Int)) by have := HN.out; have := B1.out; have := B2.out; have := B3.out; omega) rfl
    | number bel frm A B hA hB m =>
      refine ⟨_, rfl, fun F => ?_⟩
      replace F := hid F
      have sA := ah_len hA
      have sB := bh_len hB
      have hj : (Sc.p3 xs k : Int) ≤ 562949953421312 := by have := HN.out; have := B3.out; omega
      have nA : (Sc.run Sc.dg xs (Sc.p1 xs k) : Int) ≤ 562949953421312 := by have := HN.out; have := Sc.run_le Sc.dg xs (Sc.p1 xs k); omega
      have nB : (Sc.bn xs k : Int) ≤ 562949953421312 := by have := HN.out; have h : Sc.bn xs k ≤ xs.length := (by unfold Sc.bn; split; (exact Nat.le_trans (Sc.run_le _ _ _) (Nat.sub_le _ _)); omega); omega
      replace hA := hid hA
      replace hB := hid hB
      obtain ⟨⟨c0, c1, c2, c3, c4⟩, f0, f1, f2, f3, f4⟩ := m.cells
      obtain ⟨⟨d0, d1, d2, d3, d4⟩, g0, g1, g2, g3, g4⟩ := m.room
      by_cases hs : Sc.some? xs k
      · have hne : ((Sc.run Sc.dg xs (Sc.p1 xs k) : Int) + (Sc.bn xs k : Int) == 0) = false := by
          rw [beq_eq_false_iff_ne]; unfold Sc.some? at hs; omega
        replace hs := hid hs
        have M1 := hid (m.en (Sc.p3 xs k : Nat))
        clear m
        generalize Sc.run Sc.dg xs (Sc.p1 xs k) = rA at *
        generalize Sc.bn xs k = rB at *
        cases hE : Sc.isE (Sc.pk xs (Sc.p3 xs k)) with
        | false =>
          obtain ⟨x1, x2⟩ := isE_f hE
          have y1 : (Sc.pk xs (Sc.p3 xs k) != 101) = true := by simpa using x1
          have y2 : (Sc.pk xs (Sc.p3 xs k) != 69) = true := by simpa using x2
          have y3 : (Sc.pk xs (Sc.p3 xs k) == 101) = false := by rw [beq_eq_false_iff_ne]; exact x1
          have y4 : (Sc.pk xs (Sc.p3 xs k) == 69) = false := by rw [beq_eq_false_iff_ne]; exact x2
          have SN : Hid (_ ∧ _) := sc_none (xs := xs) (k := k) (by unfold Sc.hasE; rw [hE]; rfl)
          clear hE
          go_wp2_with fail
          refine (PK.out (Sc.p3 xs k) _).mono ?_; rintro e w1 ⟨rfl, rfl⟩
          go_wp2_with fail
          (try simp only [Exit.inBlock, Exit.then]); refine bodyPost_ret (results_row_tmp rfl _ _ w.heap.size 71 _ (0, 0) _ rfl (M1.out.put _ _ _ _ _).1 Tryz.underlying71 rfl (by kernel_rfl)) rfl ?_; exact rd_some hs.out hA.out hB.out SN.out.1 SN.out.2 (M1.out.put _ _ _ _ _).2
        | true =>
          have B4 : Hid (Sc.p4 xs (Sc.p3 xs k) ≤ xs.length) := Sc.p4_le xs _ (Sc.isE_lt hE)
          have hj4 : (Sc.p4 xs (Sc.p3 xs k) : Int) ≤ 562949953421312 := by have := HN.out; have := B4.out; omega
          have hE2 := isE_t hE
          have HE := hid hE
          clear hE
          have D4 := hid (fun wx => DG.out (Sc.p4 xs (Sc.p3 xs k)) wx)
          cases hd : Sc.dg (Sc.pk xs (Sc.p4 xs (Sc.p3 xs k))) with
          | false =>
            rw [hd] at D4
            have SN : Hid (_ ∧ _) := sc_none (xs := xs) (k := k) (by unfold Sc.hasE; rw [hd, Bool.and_false])
            clear hd
            rcases hE2 with hE2 | hE2
            all_goals go_wp2_with fail
            all_goals (refine (PK.out (Sc.p3 xs k) _).mono ?_; rintro e w1 ⟨rfl, rfl⟩; go_wp2_with fail; refine (PKz.out _ (Sc.p3 xs k + 1) _ rfl).mono ?_; rintro e w1 ⟨rfl, rfl⟩; go_wp2_with fail; refine (PSz.out _ (Sc.p3 xs k + 1) (Sc.p4 xs (Sc.p3 xs k)) _ rfl rfl (by have := B3.out; omega)).mono ?_; rintro e w1 ⟨rfl, rfl⟩; go_wp2_with fail; refine (PK.out (Sc.p4 xs (Sc.p3 xs k)) _).mono ?_; rintro e w1 ⟨rfl, rfl⟩; go_wp2_with fail; refine (D4.out _).mono ?_; rintro e w1 ⟨rfl, rfl⟩; go_wp2_with fail)
            all_goals ((try simp only [Exit.inBlock, Exit.then]); refine bodyPost_ret (results_row_tmp rfl _ _ w.heap.size 71 _ (0, 0) _ rfl (M1.out.put _ _ _ _ _).1 Tryz.underlying71 rfl (by kernel_rfl)) rfl ?_; exact rd_some hs.out hA.out hB.out SN.out.1 SN.out.2 (M1.out.put _ _ _ _ _).2)
          | true =>
            rw [hd] at D4
            have HH : Hid (Sc.hasE xs (Sc.p3 xs k) = true) := by show _ = _; unfold Sc.hasE; rw [hd, HE.out]; rfl
            clear hd
            have M3 : Hid (RM w (w'.setCell ⟨w.heap.size + 1, 4, none⟩ (.int .i64 (Sc.p3 xs k : Nat))) (decide (Sc.pk xs k = 45)) A B (Sc.cap ((xs.drop (Sc.p4 xs (Sc.p3 xs k))).take (Sc.p4 xs (Sc.p3 xs k) - Sc.p4 xs (Sc.p3 xs k)))) (Sc.p3 xs k : Nat)) := by
              show RM _ _ _ _ _ _ _
              rw [Nat.sub_self]
              exact M1.out
            rcases hE2 with hE2 | hE2
            all_goals go_wp2_with fail
            all_goals (refine (PK.out (Sc.p3 xs k) _).mono ?_; rintro e w1 ⟨rfl, rfl⟩; go_wp2_with fail; refine (PKz.out _ (Sc.p3 xs k + 1) _ rfl).mono ?_; rintro e w1 ⟨rfl, rfl⟩; go_wp2_with fail; refine (PSz.out _ (Sc.p3 xs k + 1) (Sc.p4 xs (Sc.p3 xs k)) _ rfl rfl (by have := B3.out; omega)).mono ?_; rintro e w1 ⟨rfl, rfl⟩; go_wp2_with fail; refine (PK.out (Sc.p4 xs (Sc.p3 xs k)) _).mono ?_; rintro e w1 ⟨rfl, rfl⟩; go_wp2_with fail; refine (D4.out _).mono ?_; rintro e w1 ⟨rfl, rfl⟩; go_wp2_with fail)
            all_goals (go_step3; (try simp only [Exit.then]); rename_i hK; refine hK _ _ ?_; exact F.out 3 _ _ _ ⟨rfl, rfl, _, _, _, rfl, rfl, rfl, rfl, rfl, rfl, Sc.p4 xs (Sc.p3 xs k), rfl, RI.power _ _ _ _ hs.out hA.out hB.out HH.out (Nat.le_refl _) rfl M3.out⟩ (show 0 * (xs.length + 3) + (xs.length + 2 - Int.toNat (Sc.p4 xs (Sc.p3 xs k) : Int)) < 1 * (xs.length + 3) + (xs.length + 2 - Int.toNat (Sc.p3 xs k : Int)) by have := HN.out; have := B4.out; have := B1.out; have := B2.out; have := B3.out; omega) rfl)
      · have z1 : Sc.run Sc.dg xs (Sc.p1 xs k) = 0 := by unfold Sc.some? at hs; omega
        have z2 : Sc.bn xs k = 0 := by unfold Sc.some? at hs; omega
        rw [z1] at sA
        rw [z2] at sB
        clear z1 z2 nA nB
        replace m := hid m
        replace hs := hid hs
        go_wp2_with fail
        (try simp only [Exit.inBlock, Exit.then]); refine bodyPost_ret (results_row_tmp rfl _ _ w.heap.size 71 _ (0, 0) _ rfl (m.out.put _ _ _ _ _).1 Tryz.underlying71 rfl (by kernel_rfl)) rfl ?_; exact rd_none hs.out (m.out.put _ _ _ _ _).2
    | power j frm A B hs hA hB he h1 h2 m =>
      refine ⟨_, rfl, fun F => ?_⟩
      replace F := hid F
      have SS := hid (sc_some he)
      have B4 : Hid (j + Sc.run Sc.dg xs j ≤ xs.length) := by show _ ≤ _; rw [h2, ← (sc_some he).2]; exact BE.out
      have hj : (j : Int) ≤ 562949953421312 := by have := HN.out; have := B4.out; omega
      have cb := cap_bd h1 h2
      replace hs := hid hs
      replace hA := hid hA
      replace hB := hid hB
      replace he := hid he
      have D := hid (fun wx => DG.out j wx)
      obtain ⟨⟨c0, c1, c2, c3, c4⟩, f0, f1, f2, f3, f4⟩ := m.cells
      obtain ⟨⟨d0, d1, d2, d3, d4⟩, g0, g1, g2, g3, g4⟩ := m.room
      cases hd : Sc.dg (Sc.pk xs j) with
      | true =>
        rw [hd] at D
        have R := hid (Sc.run_succ Sc.dg0 hd)
        have hlt : j < xs.length := Sc.pk_lt (by have := Sc.dg_iff.1 hd; omega)
        have hx := HS.out.pk j
        have xb := Sc.dg_iff.1 hd
        have CM := hid (cap_more h1 hlt)
        have HLT := hid hlt
        have hli : (j : Int) < (xs.length : Int) := by omega
        replace h1 := hid h1
        replace h2 := hid h2
        replace m := hid m
        have M2 : Hid (∀ v : Int, v = min (10 * Sc.cap ((xs.drop (Sc.p4 xs (Sc.p3 xs k))).take (j - Sc.p4 xs (Sc.p3 xs k))) + (Sc.pk xs j - 48)) 1000000000000000 → RM w ((w'.setCell ⟨w.heap.size + 1, 3, none⟩ (.int .i64 v)).drew) (decide (Sc.pk xs k = 45)) A B (Sc.cap ((xs.drop (Sc.p4 xs (Sc.p3 xs k))).take (j + 1 - Sc.p4 xs (Sc.p3 xs k)))) (Sc.p3 xs k : Nat)) := fun v hv => by
          rw [CM.out, ← hv]
          exact (m.out.scale v).drew1
        clear hd hlt
        generalize Sc.cap ((xs.drop (Sc.p4 xs (Sc.p3 xs k))).take (j - Sc.p4 xs (Sc.p3 xs k))) = c at *
        have PKj := hid (fun wx => PK.out j wx)
        generalize Sc.pk xs j = x at *
        go_wp2_with fail
        refine (PKj.out _).mono ?_; rintro e w1 ⟨rfl, rfl⟩
        go_wp2_with fail
        refine (D.out _).mono ?_; rintro e w1 ⟨rfl, rfl⟩
        go_upto_region 26 with fail
        go_region
        go_wp2_with fail
        all_goals (go_step3; exact ⟨⟨rfl, rfl, _, _, _, rfl, rfl, rfl, rfl, rfl, rfl, j + 1, rfl, RI.power _ _ _ _ hs.out hA.out hB.out he.out (by have := h1.out; omega) (by have := h2.out; have := R.out; omega) (M2.out _ (by omega))⟩, (show 0 * (xs.length + 3) + (xs.length + 2 - Int.toNat ((j : Int) + 1)) < 0 * (xs.length + 3) + (xs.length + 2 - Int.toNat (j : Int)) by have := HN.out; have := HLT.out; have := B1.out; have := B2.out; have := B3.out; omega)⟩)
      | false =>
        rw [hd] at D
        have hj2 : j = Sc.p4 xs (Sc.p3 xs k) + Sc.run Sc.dg xs (Sc.p4 xs (Sc.p3 xs k)) := by have := h2; rw [Sc.run_zero Sc.dg0 hd] at this; exact this
        have EJ : Hid (j - Sc.p4 xs (Sc.p3 xs k) = Sc.run Sc.dg xs (Sc.p4 xs (Sc.p3 xs k))) := by show _ = _; omega
        have EN : Hid ((j : Int) = ((Sc.lit xs k).en : Nat)) := by show _ = _; rw [SS.out.2, ← hj2]
        clear hd hj2
        replace h1 := hid h1
        replace h2 := hid h2
        by_cases hn : Sc.pk xs (Sc.p3 xs k + 1) = 45
        · have E1 : Hid (- Sc.cap ((xs.drop (Sc.p4 xs (Sc.p3 xs k))).take (j - Sc.p4 xs (Sc.p3 xs k))) = (Sc.lit xs k).sc) := by show _ = _; rw [SS.out.1, if_pos hn, EJ.out]
          have M2 := hid ((m.scale (- Sc.cap ((xs.drop (Sc.p4 xs (Sc.p3 xs k))).take (j - Sc.p4 xs (Sc.p3 xs k))))).en (j : Int))
          rw [decide_eq_true hn]
          clear hn m
          generalize Sc.cap ((xs.drop (Sc.p4 xs (Sc.p3 xs k))).take (j - Sc.p4 xs (Sc.p3 xs k))) = c at *
          go_wp2_with fail
          refine (PK.out j _).mono ?_; rintro e w1 ⟨rfl, rfl⟩
          go_wp2_with fail
          refine (D.out _).mono ?_; rintro e w1 ⟨rfl, rfl⟩
          go_wp2_with fail
          (try simp only [Exit.inBlock, Exit.then]); refine bodyPost_ret (results_row_tmp rfl _ _ w.heap.size 71 _ (0, 0) _ rfl (M2.out.put _ _ _ _ _).1 Tryz.underlying71 rfl (by kernel_rfl)) rfl ?_; exact rd_some hs.out hA.out hB.out E1.out EN.out (M2.out.put _ _ _ _ _).2
        · have E1 : Hid (Sc.cap ((xs.drop (Sc.p4 xs (Sc.p3 xs k))).take (j - Sc.p4 xs (Sc.p3 xs k))) = (Sc.lit xs k).sc) := by show _ = _; rw [SS.out.1, if_neg hn, EJ.out]
          have M2 := hid (m.en (j : Int))
          rw [decide_eq_false hn]
          clear hn m
          generalize Sc.cap ((xs.drop (Sc.p4 xs (Sc.p3 xs k))).take (j - Sc.p4 xs (Sc.p3 xs k))) = c at *
          go_wp2_with fail
          refine (PK.out j _).mono ?_; rintro e w1 ⟨rfl, rfl⟩
          go_wp2_with fail
          refine (D.out _).mono ?_; rintro e w1 ⟨rfl, rfl⟩
          go_wp2_with fail
          (try simp only [Exit.inBlock, Exit.then]); refine bodyPost_ret (results_row_tmp rfl _ _ w.heap.size 71 _ (0, 0) _ rfl (M2.out.put _ _ _ _ _).1 Tryz.underlying71 rfl (by kernel_rfl)) rfl ?_; exact rd_some hs.out hA.out hB.out E1.out EN.out (M2.out.put _ _ _ _ _).2
end Go.Proofs.YtaoaniigbooihaaGreatDoor

namespace Go.Proofs.YtaoaniigbooihaaGreatDoor
open Go Go.RowKit Go.Deep




theorem Str.append {s t : ByteArray} {xs ys : List Int} (h : Str s xs) (k : Str t ys) : Str (s ++ t) (xs ++ ys) := by
  unfold Str at *
  rw [ByteArray.data_append, Array.toList_append, List.map_append, h, k]

/-- A literal's box and room for a Dec. -/
def LitBox (w w' : World) (neg : Bool) (A B : ByteArray) (sc en : Int) : Prop := Below w.heap.size w w' ∧ Row5 w' w.heap.size 71 (.bool neg) (.string A) (.string B) (.int .i64 sc) (.int .i64 en) ∧ Row3 w' (w.heap.size + 1) (.bool false) (.string ⟨#[]⟩) (.int .i64 0)
theorem LitBox.new (w : World) (neg : Bool) (A B : ByteArray) (sc en : Int) : LitBox w ((w.alloc (.cells #[.bool neg, .string A, .string B, .int .i64 sc, .int .i64 en] 71)).alloc (.cells #[.bool false, .string ⟨#[]⟩, .int .i64 0] 39)) neg A B sc en :=
  ⟨below_on (alloc_b _ _) (alloc_b _ _), heap_alloc2_old _ _ _, heap_alloc2_new _ _ _⟩
theorem LitBox.on {w w' w'' : World} {neg : Bool} {A B : ByteArray} {sc en : Int} (h : LitBox w w' neg A B sc en) (k : Below w'.heap.size w' w'') : LitBox w w'' neg A B sc en :=
  ⟨below_on h.1 k, h.2.1.below k h.2.1.lt, h.2.2.below k h.2.2.lt⟩
theorem LitBox.put {w w' : World} {neg : Bool} {A B : ByteArray} {sc en : Int} (h : LitBox w w' neg A B sc en) (x0 x1 x2 : Value) :
    Row3 (((w'.setCell ⟨w.heap.size + 1, 0, none⟩ x0).setCell ⟨w.heap.size + 1, 1, none⟩ x1).setCell ⟨w.heap.size + 1, 2, none⟩ x2) (w.heap.size + 1) x0 x1 x2 ∧ Below w.heap.size w (((w'.setCell ⟨w.heap.size + 1, 0, none⟩ x0).setCell ⟨w.heap.size + 1, 1, none⟩ x1).setCell ⟨w.heap.size + 1, 2, none⟩ x2) :=
  ⟨h.2.2.put _ _ _, set3_below h.1 (Nat.le_succ _)⟩



set_option maxRecDepth 100000 in
set_option maxHeartbeats 1000000 in
theorem ldec_any (neg : Bool) (A B : ByteArray) (xs ys : List Int) (sc en : Int) (w : World) (hA : Str A xs) (hB : Str B ys) (hn : xs.length + ys.length ≤ 281474976710655) (s0 : -1000000000000000 ≤ sc) (s1 : sc ≤ 1000000000000000) :
    Calls Tryz.prog 39 #[litV neg A B sc en] w fun r w' => ∃ v, r = .returned v ∧ DecIs v (Sc.nrm neg (xs ++ ys) (sc - ys.length)) ∧ Below w.heap.size w w' := by
  have T := hid (fun wx => dtrim_any neg (A ++ B) (xs ++ ys) (sc - ys.length) wx (hA.append hB) (by simp; omega) (by omega) (by omega))
  have O : Hid (∀ s wx, Str s (Sc.nrm neg (xs ++ ys) (sc - ys.length)).ds → Calls Tryz.prog 69 #[decV (Sc.nrm neg (xs ++ ys) (sc - ys.length)).neg s (Sc.nrm neg (xs ++ ys) (sc - ys.length)).e] wx fun r w' => r = .returned (decV (Sc.nrm neg (xs ++ ys) (sc - ys.length)).neg s (Sc.nrm neg (xs ++ ys) (sc - ys.length)).e) ∧ Below wx.heap.size wx w') := fun s wx h => own_any _ s _ wx (by rw [h.size]; exact nrm_ds_len _ _ _ (by simp; omega))
  have Z := hid (LitBox.new w neg A B sc en)
  have hsA := hA.size
  have hsB := hB.size
  have yb : (ys.length : Int) ≤ 281474976710655 := by omega
  have ncat : ¬ (9223372036854775807 < xs.length + ys.length) := by omega
  clear hA hB hn
  generalize Sc.nrm neg (xs ++ ys) (sc - ys.length) = D at *
  unfold litV
  unfold decV at T O
  go_enter Tryz.func39, Tryz.ntmps39
  go_wp2_with fail
  refine (T.out _).mono ?_
  rintro r w1 ⟨v, rfl, ⟨s2, hv, h2⟩, hB⟩
  unfold decV at hv
  subst hv
  have O2 := hid (fun wx => O.out s2 wx h2)
  have H2 := hid h2
  have S1 := hid (Z.out.on hB)
  clear h2 hB O T Z
  go_wp2_with fail
  refine (O2.out _).mono ?_
  rintro r w2 ⟨rfl, hB⟩
  have S2 := hid (S1.out.on hB)
  obtain ⟨⟨d0, d1, d2⟩, g0, g1, g2⟩ := S2.out.2.2.cells
  clear hB S1 O2
  go_wp2_with fail
  (try simp only [Exit.inBlock, Exit.then])
  refine bodyPost_ret (results_cell_row rfl _ _ (w.heap.size + 1) 39 _ (0, 0) _ rfl (S2.out.put _ _ _).1 Tryz.underlying39 rfl (by kernel_rfl)) rfl ?_
  exact dec_ret ⟨_, rfl, H2.out⟩ (S2.out.put _ _ _).2

/-- Room for the answer; the literal in its box. -/
def NSt (w wx : World) (b : Nat) (neg : Bool) (A B : ByteArray) (sc en : Int) : Prop :=
  Below w.heap.size w wx ∧ Row3 wx w.heap.size (.bool false) (.string ⟨#[]⟩) (.int .i64 0) ∧ Row5 wx b 71 (.bool neg) (.string A) (.string B) (.int .i64 sc) (.int .i64 en)
theorem NSt.new {w w1 : World} (hB : Below (w.alloc (.cells #[.bool false, .string ⟨#[]⟩, .int .i64 0] 39)).heap.size (w.alloc (.cells #[.bool false, .string ⟨#[]⟩, .int .i64 0] 39)) w1) (neg : Bool) (A B : ByteArray) (sc en : Int) :
    NSt w (w1.alloc (.cells #[.bool neg, .string A, .string B, .int .i64 sc, .int .i64 en] 71)) w1.heap.size neg A B sc en := by
  have r := (Row3.new w (.bool false) (.string ⟨#[]⟩) (.int .i64 0)).below hB (Row3.new w _ _ _).lt
  exact ⟨below_on (below_on (alloc_b _ _) hB) (alloc_b _ _), r.below (alloc_b _ _) r.lt, heap_alloc_new _ _⟩
theorem NSt.on {w wx w' : World} {b : Nat} {neg : Bool} {A B : ByteArray} {sc en : Int} (h : NSt w wx b neg A B sc en) (k : Below wx.heap.size wx w') : NSt w w' b neg A B sc en :=
  ⟨below_on h.1 k, h.2.1.below k h.2.1.lt, h.2.2.below k h.2.2.lt⟩
theorem NSt.drew {w wx : World} {b : Nat} {neg : Bool} {A B : ByteArray} {sc en : Int} (h : NSt w wx b neg A B sc en) : NSt w wx.drew b neg A B sc en :=
  h.on (below_drewN (Below.refl _ _) 1)
theorem NSt.flat {w wx : World} {b : Nat} {neg : Bool} {A B : ByteArray} {sc en : Int} (h : NSt w wx b neg A B sc en) :
    (wx.cell? ⟨b, 0, none⟩ = some (.bool neg) ∧ wx.cell? ⟨b, 1, none⟩ = some (.string A) ∧ wx.cell? ⟨b, 2, none⟩ = some (.string B) ∧ wx.cell? ⟨b, 3, none⟩ = some (.int .i64 sc) ∧ wx.cell? ⟨b, 4, none⟩ = some (.int .i64 en)) ∧
    (wx.cell? ⟨w.heap.size, 0, none⟩ = some (.bool false) ∧ wx.cell? ⟨w.heap.size, 1, none⟩ = some (.string ⟨#[]⟩) ∧ wx.cell? ⟨w.heap.size, 2, none⟩ = some (.int .i64 0)) ∧
    (wx.frozen? ⟨w.heap.size, 0, none⟩ = false ∧ wx.frozen? ⟨w.heap.size, 1, none⟩ = false ∧ wx.frozen? ⟨w.heap.size, 2, none⟩ = false) :=
  ⟨h.2.2.cells.1, h.2.1.cells.1, h.2.1.cells.2⟩
def Five (wx : World) (b : Nat) (neg : Bool) (A B : ByteArray) (sc en : Int) : Prop := wx.cell? ⟨b, 0, none⟩ = some (.bool neg) ∧ wx.cell? ⟨b, 1, none⟩ = some (.string A) ∧ wx.cell? ⟨b, 2, none⟩ = some (.string B) ∧ wx.cell? ⟨b, 3, none⟩ = some (.int .i64 sc) ∧ wx.cell? ⟨b, 4, none⟩ = some (.int .i64 en)
theorem NSt.five {w wx : World} {b : Nat} {neg : Bool} {A B : ByteArray} {sc en : Int} (h : NSt w wx b neg A B sc en) : wx.cell? ⟨b, 0, none⟩ = some (.bool neg) ∧ wx.cell? ⟨b, 1, none⟩ = some (.string A) ∧ wx.cell? ⟨b, 2, none⟩ = some (.string B) ∧ wx.cell? ⟨b, 3, none⟩ = some (.int .i64 sc) ∧ wx.cell? ⟨b, 4, none⟩ = some (.int .i64 en) := h.2.2.cells.1
theorem NSt.fiveP {w wx : World} {b : Nat} {neg : Bool} {A B : ByteArray} {sc en : Int} (h : NSt w wx b neg A B sc en) (hb : w.heap.size ≠ b) (x0 x1 x2 : Value) :
    (((wx.setCell ⟨w.heap.size, 0, none⟩ x0).setCell ⟨w.heap.size, 1, none⟩ x1).setCell ⟨w.heap.size, 2, none⟩ x2).cell? ⟨b, 0, none⟩ = some (.bool neg) ∧ (((wx.setCell ⟨w.heap.size, 0, none⟩ x0).setCell ⟨w.heap.size, 1, none⟩ x1).setCell ⟨w.heap.size, 2, none⟩ x2).cell? ⟨b, 1, none⟩ = some (.string A) ∧ (((wx.setCell ⟨w.heap.size, 0, none⟩ x0).setCell ⟨w.heap.size, 1, none⟩ x1).setCell ⟨w.heap.size, 2, none⟩ x2).cell? ⟨b, 2, none⟩ = some (.string B) ∧ (((wx.setCell ⟨w.heap.size, 0, none⟩ x0).setCell ⟨w.heap.size, 1, none⟩ x1).setCell ⟨w.heap.size, 2, none⟩ x2).cell? ⟨b, 3, none⟩ = some (.int .i64 sc) ∧ (((wx.setCell ⟨w.heap.size, 0, none⟩ x0).setCell ⟨w.heap.size, 1, none⟩ x1).setCell ⟨w.heap.size, 2, none⟩ x2).cell? ⟨b, 4, none⟩ = some (.int .i64 en) :=
  (((h.2.2.set_far hb).set_far hb).set_far hb).cells.1
theorem NSt.put {w wx : World} {b : Nat} {neg : Bool} {A B : ByteArray} {sc en : Int} (h : NSt w wx b neg A B sc en) (x0 x1 x2 : Value) :
    Row3 (((wx.setCell ⟨w.heap.size, 0, none⟩ x0).setCell ⟨w.heap.size, 1, none⟩ x1).setCell ⟨w.heap.size, 2, none⟩ x2) w.heap.size x0 x1 x2 ∧ Below w.heap.size w (((wx.setCell ⟨w.heap.size, 0, none⟩ x0).setCell ⟨w.heap.size, 1, none⟩ x1).setCell ⟨w.heap.size, 2, none⟩ x2) :=
  ⟨h.2.1.put _ _ _, set3_below h.1 (Nat.le_refl _)⟩

/-- What Number tells. -/
def NumTold (xs : List Int) (w : World) (e : Ending) (w' : World) : Prop := ∃ v, e = .returned (.tuple #[v, .int .i64 ((Sc.num xs).2 : Nat)]) ∧ DecIs v (Sc.num xs).1 ∧ Below w.heap.size w w'
def WhlTold (xs : List Int) (w : World) (e : Ending) (w' : World) : Prop := ∃ v, e = .returned (.tuple #[v, .bool (Sc.whl xs).2]) ∧ DecIs v (Sc.whl xs).1 ∧ Below w.heap.size w w'

set_option maxRecDepth 100000 in
set_option maxHeartbeats 2000000 in
theorem number_any (s : ByteArray) (xs : List Int) (w : World) (hs : Str s xs) (hn : xs.length ≤ 562949953421312) (hn2 : Sc.some? xs (Sc.run Sc.bl xs 0) → (Sc.lit xs (Sc.run Sc.bl xs 0)).ah.length + (Sc.lit xs (Sc.run Sc.bl xs 0)).bh.length ≤ 281474976710655) :
    Calls Tryz.prog 34 #[.string s] w fun e w' => NumTold xs w e w' := by
  have BL : Hid (∀ wx, Calls Tryz.prog 38 #[.string s, .int .i64 0] wx fun e w' => e = .returned (.int .i64 (Sc.run Sc.bl xs 0 : Nat)) ∧ w' = wx) := fun wx => by
    have := blanks_any s xs 0 wx hs hn (Nat.zero_le _)
    rw [Nat.zero_add] at this
    exact this
  have RD := hid (fun wx => vread_any s xs (Sc.run Sc.bl xs 0) wx hs hn (by have := Sc.run_le Sc.bl xs 0; omega))
  have NE : Hid (Sc.some? xs (Sc.run Sc.bl xs 0) → Sc.num xs = ((Sc.lit xs (Sc.run Sc.bl xs 0)).d, (Sc.lit xs (Sc.run Sc.bl xs 0)).en)) := fun c => by unfold Sc.num; rw [if_pos c]
  have NZ : Hid (¬ Sc.some? xs (Sc.run Sc.bl xs 0) → Sc.num xs = (⟨false, [], 0⟩, 0)) := fun c => by unfold Sc.num; rw [if_neg c]
  have LS := hid (Sc.lit_sc xs (Sc.run Sc.bl xs 0))
  have H2 := hid hn2
  clear hs hn hn2
  generalize Sc.run Sc.bl xs 0 = K at *
  go_enter Tryz.func34, Tryz.ntmps34
  go_wp2_with fail
  refine (BL.out _).mono ?_
  rintro e w1 ⟨rfl, rfl⟩
  go_wp2_with fail
  refine (RD.out _).mono ?_
  rintro e w1 ⟨h | ⟨h, rfl⟩, hB⟩
  · obtain ⟨hs, A, B, rfl, hA, hB'⟩ := h
    have ST := hid (NSt.new hB (Sc.lit xs K).neg A B (Sc.lit xs K).sc ((Sc.lit xs K).en : Nat))
    have DC := hid (fun wx => ldec_any (Sc.lit xs K).neg A B (Sc.lit xs K).ah (Sc.lit xs K).bh (Sc.lit xs K).sc ((Sc.lit xs K).en : Nat) wx hA hB' (H2.out hs) LS.out.1 LS.out.2)
    have NB0 : Hid (w.heap.size ≠ w1.heap.size) := by
      have := hB.size
      rw [show (w.alloc (.cells #[.bool false, .string ⟨#[]⟩, .int .i64 0] 39)).heap.size = w.heap.size + 1 by simp] at this
      show _ ≠ _; omega
    have NE' := hid (NE.out hs)
    clear hB hA hB' hs H2 LS NE NZ RD BL
    have ED : Hid (Sc.nrm (Sc.lit xs K).neg ((Sc.lit xs K).ah ++ (Sc.lit xs K).bh) ((Sc.lit xs K).sc - (Sc.lit xs K).bh.length) = (Sc.num xs).1) := by rw [NE'.out]; rfl
    have EE : Hid ((Sc.lit xs K).en = (Sc.num xs).2) := by rw [NE'.out]; rfl
    rw [ED.out] at DC
    rw [EE.out] at DC ST
    unfold litV at DC ⊢
    rw [EE.out]
    clear ED EE NE'
    generalize Sc.lit xs K = l at *
    go_upto_region 4 with fail
    generalize w1.alloc (.cells #[.bool l.neg, .string A, .string B, .int .i64 l.sc, .int .i64 ((Sc.num xs).2 : Nat)] 71) = wA at *
    have NB : Hid (w.heap.size ≠ w1.heap.size) := NB0.out
    generalize w1.heap.size = b at *
    have SD := hid ST.out.drew
    have FF : Hid (∀ v, DecIs v (Sc.num xs).1 → ∃ t, v = .agg #[.bool (Sc.num xs).1.neg, .string t, .int .i64 (Sc.num xs).1.e] ∧ Str t (Sc.num xs).1.ds) := fun v h => h
    go_region_held3 (fun w' => w'.cell? ⟨b, 0, none⟩ = some (.bool l.neg) ∧ w'.cell? ⟨b, 1, none⟩ = some (.string A) ∧ w'.cell? ⟨b, 2, none⟩ = some (.string B) ∧ w'.cell? ⟨b, 3, none⟩ = some (.int .i64 l.sc) ∧ w'.cell? ⟨b, 4, none⟩ = some (.int .i64 ((Sc.num xs).2 : Nat))) (first | (with_reducible exact T1.out.fiveP NB.out _ _ _) | (with_reducible exact T1.out.five) | (with_reducible exact SD.out.five)) (first | (go_at_call 39; refine (DC.out _).mono ?_; rintro e w2 ⟨v, rfl, hv, hB⟩; obtain ⟨t, rfl, ht⟩ := FF.out _ hv; have HT := hid ht; have T1 := hid (SD.out.on hB); obtain ⟨-, ⟨d0, d1, d2⟩, g0, g1, g2⟩ := T1.out.flat; clear hv hB ht))
    all_goals go_wp2_with fail
    all_goals (try simp only [Exit.inBlock, Exit.then])
    all_goals (refine bodyPost_ret (results_row_tmp rfl _ _ w.heap.size 39 _ (0, 0) _ rfl (T1.out.put _ _ _).1 Tryz.underlying39 rfl (by kernel_rfl)) rfl ?_; exact ⟨_, rfl, ⟨_, rfl, HT.out⟩, (T1.out.put _ _ _).2⟩)
  · have ST := hid (NSt.new hB false ⟨#[]⟩ ⟨#[]⟩ 0 0)
    obtain ⟨-, ⟨d0, d1, d2⟩, g0, g1, g2⟩ := ST.out.flat
    have NZ' := hid (NZ.out h)
    clear hB h H2 LS NE NZ RD BL
    have EE : Hid ((Sc.num xs).2 = 0) := by rw [NZ'.out]; rfl
    unfold litV
    have F : Hid (∀ w', Below w.heap.size w w' → NumTold xs w (.returned (.tuple #[.agg #[.bool false, .string ⟨#[]⟩, .int .i64 0], .int .i64 0])) w') := fun w' b => ⟨_, by rw [NZ'.out]; rfl, by rw [NZ'.out]; exact ⟨_, rfl, str_nil0⟩, b⟩
    clear EE NZ'
    go_wp2_with fail
    (try simp only [Exit.inBlock, Exit.then])
    refine bodyPost_ret (results_row_tmp rfl _ _ w.heap.size 39 _ (0, 0) _ rfl (ST.out.put _ _ _).1 Tryz.underlying39 rfl (by kernel_rfl)) rfl ?_
    exact F.out _ (ST.out.put _ _ _).2

end Go.Proofs.YtaoaniigbooihaaGreatDoor
