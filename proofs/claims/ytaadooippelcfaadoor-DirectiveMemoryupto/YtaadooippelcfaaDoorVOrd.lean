/-
  THE ORDER OF DECS: by sign, by the highest place, by the digits.
-/
import Derived.Test.YtaadooippelcfaaDoorVNum2
namespace Go.Proofs.YtaadooippelcfaaDoor
namespace Sc

def big : Int := 1152921504606846976
/-- A Dec, by the chapter's words. -/
def IsDec (ds : List Int) (e : Int) : Prop := ds ≠ [] ∧ -1152921504606846976 ≤ e ∧ e ≤ 1152921504606846976 ∧ (∀ x ∈ ds, dg x = true) ∧ (lz ds ≠ ds.length → e + tz ds ≤ 1152921504606846976)
instance (ds : List Int) (e : Int) : Decidable (IsDec ds e) := inferInstanceAs (Decidable (_ ∧ _ ∧ _ ∧ _ ∧ _))

def cmpI (x y : Int) : Int := if x < y then -1 else if y < x then 1 else 0
theorem cmpI_c (x y : Int) : (x < y ∧ cmpI x y = -1) ∨ (x = y ∧ cmpI x y = 0) ∨ (y < x ∧ cmpI x y = 1) := by
  unfold cmpI
  rcases Int.lt_trichotomy x y with h | h | h
  · exact .inl ⟨h, by rw [if_pos h]⟩
  · exact .inr (.inl ⟨h, by rw [if_neg (by omega), if_neg (by omega)]⟩)
  · exact .inr (.inr ⟨h, by rw [if_neg (by omega), if_pos h]⟩)
def lex : List Int → List Int → Int
  | [], [] => 0
  | [], _ :: _ => -1
  | _ :: _, [] => 1
  | a :: as_, b :: bs => if a < b then -1 else if b < a then 1 else lex as_ bs
theorem lex_b (a b : List Int) : lex a b = -1 ∨ lex a b = 0 ∨ lex a b = 1 := by
  induction a generalizing b with
  | nil => cases b <;> simp [lex]
  | cons x a ih =>
    cases b with
    | nil => simp [lex]
    | cons y b => simp only [lex]; split; · simp
                  · split; · simp
                    · exact ih b
theorem lex_anti (a b : List Int) : lex b a = - lex a b := by
  induction a generalizing b with
  | nil => cases b <;> simp [lex]
  | cons x a ih =>
    cases b with
    | nil => simp [lex]
    | cons y b =>
      simp only [lex]
      rcases Int.lt_trichotomy x y with h | h | h
      · rw [if_neg (by omega), if_pos h, if_pos h]; rfl
      · rw [if_neg (by omega), if_neg (by omega), if_neg (by omega), if_neg (by omega)]; exact ih b
      · rw [if_pos h, if_neg (by omega), if_pos h]
theorem lex_zero (a b : List Int) : lex a b = 0 ↔ a = b := by
  induction a generalizing b with
  | nil => cases b <;> simp [lex]
  | cons x a ih =>
    cases b with
    | nil => simp [lex]
    | cons y b =>
      simp only [lex]
      rcases Int.lt_trichotomy x y with h | h | h
      · rw [if_pos h]; simp; omega
      · subst h; simp [ih]
      · rw [if_neg (by omega), if_pos h]; simp; omega
theorem lex_trans (a b c : List Int) : lex a b ≤ 0 → lex b c ≤ 0 → lex a c ≤ 0 ∧ (lex a c = 0 → lex a b = 0 ∧ lex b c = 0) := by
  induction a generalizing b c with
  | nil =>
    cases b with
    | nil => cases c <;> simp [lex]
    | cons y b => cases c <;> simp [lex]
  | cons x a ih =>
    cases b with
    | nil => simp [lex]
    | cons y b =>
      cases c with
      | nil => simp [lex]
      | cons z c =>
        simp only [lex]
        rcases Int.lt_trichotomy x y with h | h | h
        · rcases Int.lt_trichotomy y z with k | k | k
          · rw [if_pos h, if_pos k, if_pos (show x < z by omega)]; simp
          · rw [if_pos h, if_neg (show ¬ y < z by omega), if_neg (show ¬ z < y by omega), if_pos (show x < z by omega)]; simp
          · rw [if_neg (show ¬ y < z by omega), if_pos k]; simp
        · subst h
          rw [if_neg (show ¬ x < x by omega), if_neg (show ¬ x < x by omega)]
          rcases Int.lt_trichotomy x z with k | k | k
          · simp [k]
          · subst k; simp only [Int.lt_irrefl, if_false]; exact ih b c
          · simp [show ¬ x < z by omega, k]
        · rw [if_neg (show ¬ x < y by omega), if_pos h]; simp

/-- Sizes alone. -/
def pl (d : D) : Int := d.e + d.ds.length
def mc (a b : D) : Int := if pl a ≠ pl b then cmpI (pl a) (pl b) else lex a.ds b.ds
def sgn (d : D) : Int := if d.ds = [48] then 0 else if d.neg = true then -1 else 1
/-- What Cmp answers of two normal Decs. -/
def cmpD (a b : D) : Int := if sgn a ≠ sgn b then cmpI (sgn a) (sgn b) else if a.neg = true then mc b a else mc a b

theorem mc_b (a b : D) : mc a b = -1 ∨ mc a b = 0 ∨ mc a b = 1 := by
  unfold mc
  split
  · rcases cmpI_c (pl a) (pl b) with h | h | h <;> omega
  · exact lex_b _ _
theorem mc_anti (a b : D) : mc b a = - mc a b := by
  unfold mc
  by_cases h : pl a = pl b
  · rw [if_neg (by omega), if_neg (by omega)]; exact lex_anti _ _
  · rw [if_pos (by omega), if_pos h]
    rcases cmpI_c (pl a) (pl b) with k | k | k <;> rcases cmpI_c (pl b) (pl a) with l | l | l <;> omega
theorem mc_zero (a b : D) : mc a b = 0 ↔ a.ds = b.ds ∧ a.e = b.e := by
  unfold mc
  by_cases h : pl a = pl b
  · rw [if_neg (by omega), lex_zero]
    unfold pl at h
    constructor
    · intro k; rw [k] at h; exact ⟨k, by omega⟩
    · exact fun k => k.1
  · rw [if_pos h]
    constructor
    · intro k; rcases cmpI_c (pl a) (pl b) with l | l | l <;> omega
    · intro k; exfalso; apply h; unfold pl; rw [k.1, k.2]
theorem mc_trans (a b c : D) : mc a b ≤ 0 → mc b c ≤ 0 → mc a c ≤ 0 ∧ (mc a c = 0 → mc a b = 0 ∧ mc b c = 0) := by
  unfold mc
  have h1 := cmpI_c (pl a) (pl b)
  have h2 := cmpI_c (pl b) (pl c)
  have h3 := cmpI_c (pl a) (pl c)
  have l1 := lex_trans a.ds b.ds c.ds
  split <;> split <;> split <;> omega

/-- A normal Dec. -/
def Nrm (d : D) : Prop := (d.ds = [48] ∧ d.e = 0) ∨ d.ds ≠ [48]
theorem sgn_c (d : D) : (d.ds = [48] ∧ sgn d = 0) ∨ (d.ds ≠ [48] ∧ d.neg = true ∧ sgn d = -1) ∨ (d.ds ≠ [48] ∧ d.neg = false ∧ sgn d = 1) := by
  unfold sgn
  by_cases h : d.ds = [48]
  · exact .inl ⟨h, by rw [if_pos h]⟩
  · cases k : d.neg with
    | true => exact .inr (.inl ⟨h, rfl, by rw [if_neg h]; rfl⟩)
    | false => exact .inr (.inr ⟨h, rfl, by rw [if_neg h]; rfl⟩)
theorem mc_both {a b : D} (ha : Nrm a) (hb : Nrm b) (h1 : a.ds = [48]) (h2 : b.ds = [48]) : mc a b = 0 := by
  rw [mc_zero]
  rcases ha with ha | ha
  · rcases hb with hb | hb
    · exact ⟨by rw [h1, h2], by rw [ha.2, hb.2]⟩
    · exact absurd h2 hb
  · exact absurd h1 ha
/-- Cmp by cases. -/
theorem cmpD_c {a b : D} (ha : Nrm a) (hb : Nrm b) :
    (sgn a < sgn b ∧ cmpD a b = -1) ∨ (sgn b < sgn a ∧ cmpD a b = 1) ∨ (sgn a = 0 ∧ sgn b = 0 ∧ cmpD a b = 0) ∨ (sgn a = -1 ∧ sgn b = -1 ∧ cmpD a b = - mc a b) ∨ (sgn a = 1 ∧ sgn b = 1 ∧ cmpD a b = mc a b) := by
  have e := mc_anti a b
  have z := mc_both ha hb
  unfold cmpD
  rcases sgn_c a with ⟨a1, a2⟩ | ⟨a1, a3, a2⟩ | ⟨a1, a3, a2⟩ <;> rcases sgn_c b with ⟨b1, b2⟩ | ⟨b1, b3, b2⟩ | ⟨b1, b3, b2⟩
  all_goals rw [a2, b2]
  · have := z a1 b1
    rw [if_neg (by omega)]
    split <;> omega
  · rw [if_pos (by omega)]; exact .inr (.inl ⟨by omega, rfl⟩)
  · rw [if_pos (by omega)]; exact .inl ⟨by omega, rfl⟩
  · rw [if_pos (by omega)]; exact .inl ⟨by omega, rfl⟩
  · rw [if_neg (by omega), if_pos a3]; omega
  · rw [if_pos (by omega)]; exact .inl ⟨by omega, rfl⟩
  · rw [if_pos (by omega)]; exact .inr (.inl ⟨by omega, rfl⟩)
  · rw [if_pos (by omega)]; exact .inr (.inl ⟨by omega, rfl⟩)
  · rw [if_neg (by omega), if_neg (by rw [a3]; simp)]; omega

theorem cmpD_b {a b : D} (ha : Nrm a) (hb : Nrm b) : -1 ≤ cmpD a b ∧ cmpD a b ≤ 1 := by
  have h := cmpD_c ha hb
  have k := mc_b a b
  omega
theorem cmpD_anti {a b : D} (ha : Nrm a) (hb : Nrm b) : cmpD b a = - cmpD a b := by
  have h := cmpD_c ha hb
  have k := cmpD_c hb ha
  have e := mc_anti a b
  omega
theorem cmpD_trans {a b c : D} (ha : Nrm a) (hb : Nrm b) (hc : Nrm c) : cmpD a b ≤ 0 → cmpD b c ≤ 0 → cmpD a c ≤ 0 ∧ (cmpD a c = 0 → cmpD a b = 0 ∧ cmpD b c = 0) := by
  have h1 := cmpD_c ha hb
  have h2 := cmpD_c hb hc
  have h3 := cmpD_c ha hc
  have t1 := mc_trans a b c
  have t2 := mc_trans c b a
  have e1 := mc_anti a b
  have e2 := mc_anti b c
  have e3 := mc_anti a c
  have s1 := sgn_c a
  have s2 := sgn_c b
  have s3 := sgn_c c
  omega
theorem cmpD_zero {a b : D} (ha : Nrm a) (hb : Nrm b) : cmpD a b = 0 ↔ (a = b ∨ (a.ds = [48] ∧ b.ds = [48])) := by
  have h1 := cmpD_c ha hb
  have z := mc_zero a b
  constructor
  · intro h
    rcases sgn_c a with ⟨a1, a2⟩ | ⟨a1, a3, a2⟩ | ⟨a1, a3, a2⟩ <;> rcases sgn_c b with ⟨b1, b2⟩ | ⟨b1, b3, b2⟩ | ⟨b1, b3, b2⟩ <;> first | exact .inr ⟨a1, b1⟩ | (exfalso; omega) | skip
    · obtain ⟨z1, z2⟩ := z.1 (by omega)
      left
      cases a; cases b; simp_all
    · obtain ⟨z1, z2⟩ := z.1 (by omega)
      left
      cases a; cases b; simp_all
  · rintro (rfl | ⟨a1, b1⟩)
    · have := z.2 ⟨rfl, rfl⟩
      omega
    · have s1 : sgn a = 0 := by unfold sgn; rw [if_pos a1]
      have s2 : sgn b = 0 := by unfold sgn; rw [if_pos b1]
      omega
/-- The same sizes, the same signs: one answer. -/
theorem cmpD_alike {a b a' b' : D} (ha : Nrm a) (hb : Nrm b) (ha' : Nrm a') (hb' : Nrm b') (h1 : sgn a' = sgn a) (h2 : sgn b' = sgn b) (h : sgn a ≠ 0 → sgn b ≠ 0 → mc a' b' = mc a b) : cmpD a' b' = cmpD a b := by
  have k := cmpD_c ha hb
  have l := cmpD_c ha' hb'
  by_cases c1 : sgn a = 0
  · omega
  · by_cases c2 : sgn b = 0
    · omega
    · have := h c1 c2; omega
theorem cmpD_turn {a b a' b' : D} (ha : Nrm a) (hb : Nrm b) (ha' : Nrm a') (hb' : Nrm b') (h1 : sgn a' = - sgn a) (h2 : sgn b' = - sgn b) (h : sgn a ≠ 0 → sgn b ≠ 0 → mc a' b' = mc a b) : cmpD a' b' = - cmpD a b := by
  have k := cmpD_c ha hb
  have l := cmpD_c ha' hb'
  by_cases c1 : sgn a = 0
  · omega
  · by_cases c2 : sgn b = 0
    · omega
    · have := h c1 c2; omega

theorem nrm_is (neg : Bool) (ds : List Int) (e : Int) : Nrm (nrm neg ds e) := by
  by_cases h : lz ds = ds.length
  · rw [nrm_zero h]; exact .inl ⟨rfl, rfl⟩
  · rw [nrm_pos h]
    right
    intro c
    have h1 := lz_end ds
    have h2 := lz_tz h
    have : pk ((ds.drop (lz ds)).take (ds.length - tz ds - lz ds)) 0 = pk ds (lz ds) := by
      rw [pk_take, if_pos (by omega), pk_drop]; rfl
    simp only at c
    rw [c] at this
    exact h1 this.symm
theorem nrm_ds_one {neg : Bool} {ds : List Int} {e : Int} : (nrm neg ds e).ds = [48] ↔ lz ds = ds.length := by
  constructor
  · intro h
    by_cases c : lz ds = ds.length
    · exact c
    · exfalso
      have := nrm_is neg ds e
      rw [nrm_pos c] at this h
      rcases this with k | k
      · have h1 := lz_end ds
        have h2 := lz_tz c
        have e2 : pk ((ds.drop (lz ds)).take (ds.length - tz ds - lz ds)) 0 = pk ds (lz ds) := by
          rw [pk_take, if_pos (by omega), pk_drop]; rfl
        simp only at h
        rw [h] at e2
        exact h1 e2.symm
      · exact k h
  · intro h; rw [nrm_zero h]
theorem sgn_nrm (neg : Bool) (ds : List Int) (e : Int) : sgn (nrm neg ds e) = if lz ds = ds.length then 0 else if neg = true then -1 else 1 := by
  unfold sgn
  rw [nrm_neg]
  by_cases c : lz ds = ds.length
  · rw [if_pos c, if_pos (nrm_ds_one.2 c)]
  · rw [if_neg c, if_neg (fun h => c (nrm_ds_one.1 h))]
theorem mc_moved {n1 n2 m1 m2 : Bool} {d1 d2 : List Int} {e1 e2 k : Int} (h1 : lz d1 ≠ d1.length) (h2 : lz d2 ≠ d2.length) : mc (nrm m1 d1 (e1 + k)) (nrm m2 d2 (e2 + k)) = mc (nrm n1 d1 e1) (nrm n2 d2 e2) := by
  rw [nrm_pos h1, nrm_pos h2, nrm_pos h1, nrm_pos h2]
  unfold mc pl cmpI
  simp only
  generalize List.length _ = x
  generalize List.length _ = y
  by_cases c : e1 + tz d1 + x = e2 + tz d2 + y
  · rw [if_neg (by omega), if_neg (by omega)]
  · rw [if_pos (by omega), if_pos c]
    by_cases g : e1 + tz d1 + x < e2 + tz d2 + y
    · rw [if_pos (by omega), if_pos g]
    · rw [if_neg (by omega), if_neg g, if_pos (by omega), if_pos (by omega)]
theorem nrm_tail (neg : Bool) (ds : List Int) (e : Int) : nrm neg ([48, 48] ++ ds ++ [48, 48, 48]) (e - 3) = nrm neg ds e := by
  by_cases c : lz ds = ds.length
  · rw [nrm_zero c]
    apply nrm_of_none
    intro i hi
    show pk _ i = 48
    rw [pk_append]
    split
    · rw [pk_append]
      split
      · next h1 h2 => simp at h2; rcases (show i = 0 ∨ i = 1 by omega) with rfl | rfl <;> rfl
      · next h1 h2 => simp at h1 h2; exact lz_at (by simp; omega)
    · next h1 =>
      simp at h1 hi ⊢
      rcases (show i - (ds.length + 1 + 1) = 0 ∨ i - (ds.length + 1 + 1) = 1 ∨ i - (ds.length + 1 + 1) = 2 by omega) with h | h | h <;> rw [h] <;> rfl
  · have h1 := lz_tz c
    have h2 := lz_le ds
    have e1 : lz ([48, 48] ++ ds ++ [48, 48, 48]) = lz ds + 2 := by
      apply lz_is
      · intro i hi
        rw [pk_append, if_pos (by simp; omega), pk_append]
        split
        · next h => simp at h; rcases (show i = 0 ∨ i = 1 by omega) with rfl | rfl <;> rfl
        · next h => simp at h; exact lz_at (by simp; omega)
      · rw [pk_append, if_pos (by simp; omega), pk_append, if_neg (by simp)]
        simp only [List.length_cons, List.length_nil, Nat.add_sub_cancel]
        exact lz_end ds
    have e2 : tz ([48, 48] ++ ds ++ [48, 48, 48]) = tz ds + 3 := by
      have h3 := tz_le ds
      have := tz_is (ds := [48, 48] ++ ds ++ [48, 48, 48]) (k := ds.length - tz ds + 2) (by simp; omega) ?_ ?_
      · rw [this]; simp; omega
      · intro i hi1 hi2
        rw [pk_append]
        split
        · next h =>
          simp at h
          rw [pk_append, if_neg (by simp; omega)]
          exact tz_at (by simp; omega) (by simp; omega)
        · next h =>
          simp at h hi2 ⊢
          rcases (show i - (ds.length + 1 + 1) = 0 ∨ i - (ds.length + 1 + 1) = 1 ∨ i - (ds.length + 1 + 1) = 2 by omega) with h | h | h <;> rw [h] <;> rfl
      · intro _
        rw [pk_append, if_pos (by simp; omega), pk_append, if_neg (by simp; omega)]
        have := tz_end (ds := ds) (by omega)
        simp only [List.length_cons, List.length_nil]
        rw [show ds.length - tz ds + 2 - 1 - (0 + 1 + 1) = ds.length - tz ds - 1 by omega]; exact this
    rw [nrm_pos (by rw [e1]; simp; omega), nrm_pos c, e1, e2]
    have el : ([48, 48] ++ ds ++ [48, 48, 48]).length - (tz ds + 3) - (lz ds + 2) = ds.length - tz ds - lz ds := by simp; omega
    rw [el]
    have ed : (List.drop (lz ds + 2) ([48, 48] ++ ds ++ [48, 48, 48])).take (ds.length - tz ds - lz ds) = (ds.drop (lz ds)).take (ds.length - tz ds - lz ds) := by
      rw [List.append_assoc, List.drop_append, List.drop_of_length_le (by simp)]
      simp only [List.length_cons, List.length_nil, List.nil_append]
      rw [show lz ds + 2 - (0 + 1 + 1) = lz ds by omega, List.drop_append_of_le_length h2, List.take_append_of_le_length (by simp; omega)]
    rw [ed]
    congr 1
    push_cast
    omega
end Sc
end Go.Proofs.YtaadooippelcfaaDoor
