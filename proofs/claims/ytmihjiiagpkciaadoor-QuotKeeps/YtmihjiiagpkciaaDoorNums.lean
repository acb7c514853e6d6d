/-
  Texts put together: Num, BitNum, QPowNum, NNum, QLogNum, QNum, DivNum.
-/

namespace Go.Proofs.YtmihjiiagpkciaaDoor
namespace Nm

/-- The number that a list of limbs stands for. -/
def val : List Int → Int
  | [] => 0
  | z :: zs => z + 18446744073709551616 * val zs

/-- 2^(64 k). -/
def pw : Nat → Int
  | 0 => 1
  | k + 1 => 18446744073709551616 * pw k

/-- Each limb is one of 64 bits. -/
def Limbs (zs : List Int) : Prop := ∀ z ∈ zs, 0 ≤ z ∧ z < 18446744073709551616

/-- The length without the zeros at the high end. -/
def tsize : List Int → Nat
  | [] => 0
  | z :: zs => if tsize zs = 0 ∧ z = 0 then 0 else tsize zs + 1

theorem pw_pos : ∀ k, 0 < pw k
  | 0 => by simp [pw]
  | k + 1 => by have := pw_pos k; simp only [pw]; omega

theorem pw_succ (k : Nat) : pw (k + 1) = 18446744073709551616 * pw k := rfl

theorem pw_add (a : Nat) : ∀ b, pw (a + b) = pw a * pw b
  | 0 => by simp [pw]
  | b + 1 => by
    have := pw_add a b
    rw [← Nat.add_assoc, pw_succ, pw_succ, this, Int.mul_left_comm]

theorem pw_mono {a b : Nat} (h : a ≤ b) : pw a ≤ pw b := by
  obtain ⟨c, rfl⟩ := Nat.exists_eq_add_of_le h
  rw [pw_add]
  have h1 := pw_pos a
  have h2 := pw_pos c
  have : pw a * 1 ≤ pw a * pw c := Int.mul_le_mul_of_nonneg_left (by omega) (by omega)
  omega

theorem Limbs.nil : Limbs [] := by intro z h; simp at h

theorem Limbs.cons {z : Int} {zs : List Int} (h : Limbs (z :: zs)) : (0 ≤ z ∧ z < 18446744073709551616) ∧ Limbs zs :=
  ⟨h z (by simp), fun y hy => h y (by simp [hy])⟩

theorem Limbs.mk {z : Int} {zs : List Int} (h0 : 0 ≤ z) (h1 : z < 18446744073709551616) (h : Limbs zs) : Limbs (z :: zs) := by
  intro y hy
  rcases List.mem_cons.1 hy with rfl | hy
  · exact ⟨h0, h1⟩
  · exact h y hy

theorem Limbs.take {zs : List Int} (h : Limbs zs) (k : Nat) : Limbs (zs.take k) := fun z hz => h z (List.mem_of_mem_take hz)

theorem Limbs.drop {zs : List Int} (h : Limbs zs) (k : Nat) : Limbs (zs.drop k) := fun z hz => h z (List.mem_of_mem_drop hz)

theorem Limbs.append {a b : List Int} (h : Limbs a) (k : Limbs b) : Limbs (a ++ b) := by
  intro z hz
  rcases List.mem_append.1 hz with hz | hz
  · exact h z hz
  · exact k z hz

theorem Limbs.set {zs : List Int} (h : Limbs zs) (i : Nat) {s : Int} (h0 : 0 ≤ s) (h1 : s < 18446744073709551616) : Limbs (zs.set i s) := by
  intro z hz
  rcases List.mem_or_eq_of_mem_set hz with hz | rfl
  · exact h z hz
  · exact ⟨h0, h1⟩

theorem Limbs.replicate (n : Nat) : Limbs (List.replicate n 0) := by
  intro z hz
  have := List.eq_of_mem_replicate hz
  subst this
  decide

theorem Limbs.at {zs : List Int} (h : Limbs zs) (i : Nat) : 0 ≤ zs.getD i 0 ∧ zs.getD i 0 < 18446744073709551616 := by
  by_cases hi : i < zs.length
  · have e : zs.getD i 0 = zs[i] := by simp [List.getD, hi]
    rw [e]
    exact h _ (List.getElem_mem hi)
  · have e : zs.getD i 0 = 0 := by simp [List.getD, List.getElem?_eq_none (Nat.le_of_not_lt hi)]
    rw [e]
    decide

theorem val_append : ∀ (a b : List Int), val (a ++ b) = val a + pw a.length * val b
  | [], b => by simp [val, pw]
  | z :: a, b => by
    have := val_append a b
    simp only [List.cons_append, val, List.length_cons, pw, this, Int.mul_add, Int.mul_assoc]
    omega

theorem val_replicate : ∀ n, val (List.replicate n 0) = 0
  | 0 => by simp [val]
  | n + 1 => by simp [List.replicate_succ, val, val_replicate n]

theorem val_take_succ : ∀ (zs : List Int) (k : Nat), k < zs.length → val (zs.take (k + 1)) = val (zs.take k) + pw k * zs.getD k 0
  | [], k, h => by simp at h
  | z :: zs, 0, _ => by simp [val, pw]
  | z :: zs, k + 1, h => by
    have := val_take_succ zs k (by simpa using h)
    simp only [List.take_succ_cons, val, this, pw, List.getD_cons_succ, Int.mul_add, Int.mul_assoc]
    omega

theorem val_set : ∀ (zs : List Int) (i : Nat) (s : Int), i < zs.length → val (zs.set i s) = val zs + pw i * (s - zs.getD i 0)
  | [], i, s, h => by simp at h
  | z :: zs, 0, s, _ => by simp [val, pw]; omega
  | z :: zs, i + 1, s, h => by
    have := val_set zs i s (by simpa using h)
    simp only [List.set_cons_succ, val, this, pw, List.getD_cons_succ, Int.mul_add, Int.mul_assoc]
    omega

theorem val_bd : ∀ (zs : List Int), Limbs zs → 0 ≤ val zs ∧ val zs < pw zs.length
  | [], _ => by simp [val, pw]
  | z :: zs, h => by
    have h1 := val_bd zs h.cons.2
    have h2 := h.cons.1
    simp only [val, List.length_cons, pw]
    omega

theorem val_take_of_zero : ∀ (zs : List Int) (k : Nat), (∀ j, k ≤ j → zs.getD j 0 = 0) → val (zs.take k) = val zs
  | [], k, _ => by simp
  | z :: zs, 0, h => by
    have h0 := h 0 (Nat.le_refl _)
    have h1 := val_take_of_zero zs 0 (fun j _ => by simpa using h (j + 1) (by omega))
    simp at h0 h1
    simp [val, h0, ← h1]
  | z :: zs, k + 1, h => by
    have := val_take_of_zero zs k (fun j hj => by simpa using h (j + 1) (by omega))
    simp [val, this]

theorem tsize_le : ∀ (zs : List Int), tsize zs ≤ zs.length
  | [] => by simp [tsize]
  | z :: zs => by
    have := tsize_le zs
    simp only [tsize, List.length_cons]
    split <;> omega

theorem tsize_zero : ∀ (zs : List Int) (j : Nat), tsize zs ≤ j → zs.getD j 0 = 0
  | [], j, _ => by simp
  | z :: zs, j, h => by
    simp only [tsize] at h
    split at h
    · rename_i hz
      cases j with
      | zero => simpa using hz.2
      | succ j => simpa using tsize_zero zs j (by omega)
    · cases j with
      | zero => omega
      | succ j => simpa using tsize_zero zs j (by omega)

theorem tsize_top : ∀ (zs : List Int), 0 < tsize zs → zs.getD (tsize zs - 1) 0 ≠ 0
  | [], h => by simp [tsize] at h
  | z :: zs, h => by
    simp only [tsize] at h ⊢
    split at h
    · omega
    · rename_i hz
      rw [if_neg hz]
      by_cases h0 : tsize zs = 0
      · simp [h0] at hz ⊢
        exact hz
      · have := tsize_top zs (by omega)
        obtain ⟨t, ht⟩ : ∃ t, tsize zs = t + 1 := ⟨tsize zs - 1, by omega⟩
        rw [ht] at this ⊢
        simpa using this

theorem tsize_unique (zs : List Int) (k : Nat) (h1 : ∀ j, k ≤ j → zs.getD j 0 = 0) (h2 : k = 0 ∨ zs.getD (k - 1) 0 ≠ 0) : tsize zs = k := by
  rcases Nat.lt_trichotomy (tsize zs) k with h | h | h
  · rcases h2 with rfl | h2
    · omega
    · exact absurd (tsize_zero zs (k - 1) (by omega)) h2
  · exact h
  · exact absurd (h1 (tsize zs - 1) (by omega)) (tsize_top zs (by omega))

/-- The trimmed list. -/
def trim (zs : List Int) : List Int := zs.take (tsize zs)

theorem Limbs.trim {zs : List Int} (h : Limbs zs) : Limbs (trim zs) := h.take _

theorem trim_length (zs : List Int) : (trim zs).length = tsize zs := by
  have := tsize_le zs
  simp [trim]; omega

theorem getD_take (zs : List Int) (k j : Nat) : (zs.take k).getD j 0 = if j < k then zs.getD j 0 else 0 := by
  simp only [List.getD, List.getElem?_take]
  split <;> simp

theorem trim_trim (zs : List Int) : tsize (trim zs) = tsize zs := by
  refine tsize_unique _ _ (fun j hj => ?_) ?_
  · rw [trim, getD_take, if_neg (by omega)]
  · by_cases h : tsize zs = 0
    · exact .inl h
    · right
      rw [trim, getD_take, if_pos (by omega)]
      exact tsize_top zs (by omega)

theorem val_trim (zs : List Int) : val (trim zs) = val zs := val_take_of_zero zs _ (tsize_zero zs)

theorem val_lt_tsize {zs : List Int} (h : Limbs zs) : val zs < pw (tsize zs) := by
  have h1 := (val_bd _ (h.take (tsize zs))).2
  have h2 := val_trim zs
  have h3 := trim_length zs
  rw [trim] at h2 h3
  rw [h2, h3] at h1
  exact h1

theorem val_ge_top {zs : List Int} (h : Limbs zs) (h0 : 0 < tsize zs) : pw (tsize zs - 1) ≤ val zs := by
  have h1 := tsize_top zs h0
  have h2 := h.at (tsize zs - 1)
  have h3 := tsize_le zs
  have h4 := val_take_succ zs (tsize zs - 1) (by omega)
  have h5 := val_trim zs
  have h6 := (val_bd _ (h.take (tsize zs - 1))).1
  rw [Nat.sub_add_cancel h0] at h4
  rw [trim, h4] at h5
  have h7 := pw_pos (tsize zs - 1)
  have h8 : pw (tsize zs - 1) * 1 ≤ pw (tsize zs - 1) * zs.getD (tsize zs - 1) 0 := Int.mul_le_mul_of_nonneg_left (by omega) (by omega)
  omega

theorem tsize_le_iff {zs : List Int} (h : Limbs zs) (n : Nat) : tsize zs ≤ n ↔ val zs < pw n := by
  constructor
  · intro hn
    have h1 := val_lt_tsize h
    have h2 := pw_mono hn
    omega
  · intro hv
    rcases Nat.lt_or_ge n (tsize zs) with hn | hn
    · have h1 := val_ge_top h (by omega)
      have h2 := pw_mono (show n ≤ tsize zs - 1 by omega)
      omega
    · exact hn

/-- Of a number below 2^(64 k) the limbs from k on are 0. -/
theorem zero_of_lt {zs : List Int} (h : Limbs zs) {k : Nat} (hv : val zs < pw k) (j : Nat) (hj : k ≤ j) : zs.getD j 0 = 0 :=
  tsize_zero zs j (Nat.le_trans ((tsize_le_iff h k).2 hv) hj)

theorem tsize_congr {a b : List Int} (ha : Limbs a) (hb : Limbs b) (h : val a = val b) : tsize a = tsize b := by
  have h1 := (tsize_le_iff ha (tsize b)).2 (by rw [h]; exact val_lt_tsize hb)
  have h2 := (tsize_le_iff hb (tsize a)).2 (by rw [← h]; exact val_lt_tsize ha)
  omega

theorem val_inj : ∀ {a b : List Int}, Limbs a → Limbs b → a.length = b.length → val a = val b → a = b
  | [], [], _, _, _, _ => rfl
  | [], _ :: _, _, _, h, _ => by simp at h
  | _ :: _, [], _, _, h, _ => by simp at h
  | x :: a, y :: b, ha, hb, hl, hv => by
    have h1 := ha.cons.1
    have h2 := hb.cons.1
    simp only [val] at hv
    have e1 : x = y := by omega
    have e2 : val a = val b := by omega
    rw [e1, val_inj ha.cons.2 hb.cons.2 (by simpa using hl) e2]

/-- Two trimmed lists of one number are the same list. -/
theorem canon {a b : List Int} (ha : Limbs a) (hb : Limbs b) (ta : tsize a = a.length) (tb : tsize b = b.length) (h : val a = val b) : a = b :=
  val_inj ha hb (by rw [← ta, ← tb, tsize_congr ha hb h]) h

theorem tsize_zero_iff {zs : List Int} (h : Limbs zs) : tsize zs = 0 ↔ val zs = 0 := by
  have h1 := tsize_le_iff h 0
  have h2 := (val_bd zs h).1
  simp only [pw] at h1
  omega

/-! Which of two lists of one length is the greater: the highest limb at which they part. -/
theorem val_drop (zs : List Int) (k : Nat) (h : k ≤ zs.length) : val zs = val (zs.take k) + pw k * val (zs.drop k) := by
  have := val_append (zs.take k) (zs.drop k)
  rw [List.take_append_drop, List.length_take, Nat.min_eq_left h] at this
  exact this

theorem val_lt_at {a b : List Int} (ha : Limbs a) (hb : Limbs b) (i : Nat) (hi : i < a.length) (hl : a.length = b.length) (h : a.getD i 0 < b.getD i 0) (he : a.drop (i + 1) = b.drop (i + 1)) : val a < val b := by
  have h1 := val_drop a (i + 1) (by omega)
  have h2 := val_drop b (i + 1) (by omega)
  rw [val_take_succ a i hi] at h1
  rw [val_take_succ b i (by omega), ← he] at h2
  have h3 := val_bd _ (ha.take i)
  have h4 := val_bd _ (hb.take i)
  rw [List.length_take, Nat.min_eq_left (by omega)] at h3 h4
  have h5 : pw i * (a.getD i 0 + 1) ≤ pw i * b.getD i 0 := Int.mul_le_mul_of_nonneg_left (by omega) (by have := pw_pos i; omega)
  rw [Int.mul_add, Int.mul_one] at h5
  omega

theorem drop_eq_of_getD {a b : List Int} (hl : a.length = b.length) (k : Nat) (h : ∀ j, k ≤ j → a.getD j 0 = b.getD j 0) : a.drop k = b.drop k := by
  apply List.ext_getElem (by simp [hl])
  intro i h1 h2
  simp only [List.length_drop] at h1 h2
  have := h (k + i) (by omega)
  simp only [List.getD, List.getElem?_eq_getElem (show k + i < a.length by omega), List.getElem?_eq_getElem (show k + i < b.length by omega), Option.getD_some] at this
  simpa using this

/-! The steps of the loops. -/
theorem getD_set (zs : List Int) (i j : Nat) (s : Int) (hi : i < zs.length) : (zs.set i s).getD j 0 = if j = i then s else zs.getD j 0 := by
  simp only [List.getD, List.getElem?_set]
  by_cases h : i = j
  · subst h; simp [hi]
  · rw [if_neg h, if_neg (fun e => h e.symm)]

/-- One limb of a sum: 's + 2^64 c' = out[k] + x + c'. -/
theorem add_step {os : List Int} {k : Nat} {s x c c' T : Int} (hk : k < os.length) (hs : s + 18446744073709551616 * c' = os.getD k 0 + x + c) (h : val os + pw k * c = T) :
    val (os.set k s) + pw (k + 1) * c' = T + pw k * x := by
  rw [val_set os k s hk, pw_succ]
  have e : pw k * (s - os.getD k 0) + 18446744073709551616 * pw k * c' = pw k * x + pw k * c := by
    have : pw k * (s + 18446744073709551616 * c') = pw k * (os.getD k 0 + x + c) := by rw [hs]
    simp only [Int.mul_add, Int.mul_sub] at this ⊢
    rw [← Int.mul_assoc, Int.mul_comm (pw k) 18446744073709551616] at this
    omega
  omega

end Nm
end Go.Proofs.YtmihjiiagpkciaaDoor

namespace Go.Proofs.YtmihjiiagpkciaaDoor
namespace Nm

theorem two_pos (n : Nat) : (0 : Int) < 2 ^ n := by
  have : 0 < 2 ^ n := Nat.pow_pos (by omega)
  have e : ((2 ^ n : Nat) : Int) = (2 : Int) ^ n := by simp
  omega

theorem two_add (a b : Nat) : (2 : Int) ^ (a + b) = 2 ^ a * 2 ^ b := Int.pow_add 2 a b

theorem two_succ (a : Nat) : (2 : Int) ^ (a + 1) = 2 * 2 ^ a := by rw [two_add, Int.mul_comm]; rfl

theorem two_64 : (2 : Int) ^ 64 = 18446744073709551616 := by decide

theorem pw_two : ∀ k, pw k = 2 ^ (64 * k)
  | 0 => by simp [pw]
  | k + 1 => by rw [pw, pw_two k, Nat.mul_add, Nat.mul_one, two_add, two_64, Int.mul_comm]

theorem two_mono {a b : Nat} (h : a ≤ b) : (2 : Int) ^ a ≤ 2 ^ b := by
  obtain ⟨c, rfl⟩ := Nat.exists_eq_add_of_le h
  rw [two_add]
  have h1 := two_pos a
  have h2 := two_pos c
  have : (2 : Int) ^ a * 1 ≤ 2 ^ a * 2 ^ c := Int.mul_le_mul_of_nonneg_left (by omega) (by omega)
  omega

/-- v has L binary digits. -/
def BLen (v : Int) (L : Nat) : Prop := v < 2 ^ L ∧ (v = 0 → L = 0) ∧ (0 < v → 1 ≤ L ∧ 2 ^ (L - 1) ≤ v)

theorem BLen.unique {v : Int} {a b : Nat} (hv : 0 ≤ v) (ha : BLen v a) (hb : BLen v b) : a = b := by
  rcases Nat.lt_trichotomy a b with h | h | h
  · exfalso
    by_cases h0 : v = 0
    · have := hb.2.1 h0; omega
    · have h1 := hb.2.2 (by omega)
      have h2 := ha.1
      have h3 := two_mono (show a ≤ b - 1 by omega)
      omega
  · exact h
  · exfalso
    by_cases h0 : v = 0
    · have := ha.2.1 h0; omega
    · have h1 := ha.2.2 (by omega)
      have h2 := hb.1
      have h3 := two_mono (show b ≤ a - 1 by omega)
      omega

/-- The lowest binary digit 1 of v stands at t. -/
def Trl (v : Int) (t : Nat) : Prop := (v = 0 ∧ t = 0) ∨ ∃ m, v = 2 ^ t * (2 * m + 1)

theorem odd_unique {a : Nat} {m n : Int} (h : 2 * m + 1 = 2 ^ (a + 1) * n) : False := by
  rw [two_succ, Int.mul_assoc] at h
  omega

theorem Trl.unique {v : Int} {a b : Nat} (ha : Trl v a) (hb : Trl v b) : a = b := by
  rcases ha with ⟨h0, h1⟩ | ⟨m, hm⟩
  · rcases hb with ⟨_, h2⟩ | ⟨k, hk⟩
    · omega
    · exfalso
      have := two_pos b
      rw [h0] at hk
      rcases Int.mul_eq_zero.1 hk.symm with h | h <;> omega
  · rcases hb with ⟨h0, h2⟩ | ⟨k, hk⟩
    · exfalso
      have := two_pos a
      rw [h0] at hm
      rcases Int.mul_eq_zero.1 hm.symm with h | h <;> omega
    · rcases Nat.lt_trichotomy a b with h | h | h
      · exfalso
        obtain ⟨c, rfl⟩ := Nat.exists_eq_add_of_lt h
        rw [hm, Nat.add_assoc, two_add, Int.mul_assoc] at hk
        exact odd_unique (Int.eq_of_mul_eq_mul_left (by have := two_pos a; omega) hk)
      · exact h
      · exfalso
        obtain ⟨c, rfl⟩ := Nat.exists_eq_add_of_lt h
        rw [hk, Nat.add_assoc, two_add, Int.mul_assoc] at hm
        exact odd_unique (Int.eq_of_mul_eq_mul_left (by have := two_pos b; omega) hm)

/-- The lowest limb that isn't 0 tells. -/
theorem trl_at (zs : List Int) (i t : Nat) (m : Int) (hi : i < zs.length) (h0 : ∀ j, j < i → zs.getD j 0 = 0) (hz : zs.getD i 0 = 2 ^ t * (2 * m + 1)) (ht : t ≤ 63) : Trl (val zs) (64 * i + t) := by
  right
  have hd := val_drop zs i (by omega)
  have e1 : val (zs.take i) = 0 := by
    have : ∀ k, k ≤ i → val (zs.take k) = 0 := by
      intro k
      induction k with
      | zero => intro _; simp [val]
      | succ k ih =>
        intro hk
        rw [val_take_succ zs k (by omega), ih (by omega), h0 k (by omega)]
        simp
    exact this i (Nat.le_refl _)
  have e2 : val (zs.drop i) = zs.getD i 0 + 18446744073709551616 * val (zs.drop (i + 1)) := by
    rw [List.drop_eq_getElem_cons hi, val]
    simp [List.getD, hi]
  refine ⟨m + 2 ^ (63 - t) * val (zs.drop (i + 1)), ?_⟩
  have e3 : (18446744073709551616 : Int) = 2 ^ t * (2 * 2 ^ (63 - t)) := by
    rw [← two_succ, ← two_add, show t + (63 - t + 1) = 64 by omega, two_64]
  rw [hd, e1, Int.zero_add, pw_two, e2, hz, e3, two_add]
  rw [Int.mul_assoc (2 ^ (64 * i))]
  congr 1
  rw [Int.mul_assoc, ← Int.mul_add]
  congr 1
  rw [Int.mul_add, Int.mul_assoc]
  omega

/-- How many binary digits there are: by the highest limb. -/
theorem blen_at (zs : List Int) (t l : Nat) (hz : Limbs zs) (ht : tsize zs = t + 1) (h1 : 1 ≤ l) (h2 : 2 ^ (l - 1) ≤ zs.getD t 0) (h3 : zs.getD t 0 < 2 ^ l) : BLen (val zs) (64 * t + l) := by
  have hle := tsize_le zs
  have hv := val_trim zs
  rw [trim, ht, val_take_succ zs t (by omega)] at hv
  have hb := val_bd _ (hz.take t)
  rw [List.length_take, Nat.min_eq_left (by omega)] at hb
  have hp := pw_pos t
  have a1 : pw t * 2 ^ (l - 1) ≤ pw t * zs.getD t 0 := Int.mul_le_mul_of_nonneg_left h2 (by omega)
  have a2 : pw t * (zs.getD t 0 + 1) ≤ pw t * 2 ^ l := Int.mul_le_mul_of_nonneg_left (by omega) (by omega)
  rw [Int.mul_add, Int.mul_one] at a2
  have p1 := two_pos (l - 1)
  have a3 : 0 < pw t * 2 ^ (l - 1) := Int.mul_pos hp p1
  refine ⟨?_, fun h => by omega, fun _ => ⟨by omega, ?_⟩⟩
  · rw [two_add, ← pw_two]; omega
  · rw [show 64 * t + l - 1 = 64 * t + (l - 1) by omega, two_add, ← pw_two]; omega

/-- One binary digit: by the limb that holds it. -/
theorem bit_at (zs : List Int) (i k r : Nat) (hi : i = 64 * k + r) (hr : r < 64) (hz : Limbs zs) (hk : k < zs.length) : val zs / 2 ^ i % 2 = zs.getD k 0 / 2 ^ r % 2 := by
  have hd := val_drop zs k (by omega)
  have hb := val_bd _ (hz.take k)
  rw [List.length_take, Nat.min_eq_left (by omega)] at hb
  have e2 : val (zs.drop k) = zs.getD k 0 + 18446744073709551616 * val (zs.drop (k + 1)) := by
    rw [List.drop_eq_getElem_cons hk, val]
    simp [List.getD, hk]
  have hp := pw_pos k
  have e1 : val zs / pw k = val (zs.drop k) := by
    rw [hd, Int.add_mul_ediv_left _ _ (by omega), Int.ediv_eq_zero_of_lt hb.1 hb.2, Int.zero_add]
  rw [hi, two_add, ← pw_two, ← Int.ediv_ediv_of_nonneg (by omega), e1, e2]
  have e3 : (18446744073709551616 : Int) = 2 ^ r * (2 * 2 ^ (63 - r)) := by
    rw [← two_succ, ← two_add, show r + (63 - r + 1) = 64 by omega, two_64]
  rw [e3, Int.mul_assoc, Int.add_mul_ediv_left _ _ (by have := two_pos r; omega), Int.mul_assoc]
  omega
end Nm
end Go.Proofs.YtmihjiiagpkciaaDoor

namespace Go.Proofs.YtmihjiiagpkciaaDoor
namespace Pn

theorem pow_pos' {A : Int} (h : 1 ≤ A) (n : Nat) : 1 ≤ A ^ n := by
  have : (0 : Int) < A ^ n := Int.pow_pos (by omega)
  omega

theorem pow_mono {A : Int} (h : 1 ≤ A) {a b : Nat} (hab : a ≤ b) : A ^ a ≤ A ^ b := by
  obtain ⟨c, rfl⟩ := Nat.exists_eq_add_of_le hab
  rw [Int.pow_add]
  have h1 := pow_pos' h a
  have h2 := pow_pos' h c
  have : A ^ a * 1 ≤ A ^ a * A ^ c := Int.mul_le_mul_of_nonneg_left h2 (by omega)
  omega

theorem pow_base {a A : Int} (h0 : 0 ≤ a) (h : a ≤ A) : ∀ n : Nat, a ^ n ≤ A ^ n
  | 0 => by simp
  | n + 1 => by
    rw [Int.pow_succ, Int.pow_succ]
    exact Int.mul_le_mul (pow_base h0 h n) h h0 (Int.pow_nonneg (by omega))

/-- What is found out early is too big. -/
theorem early {A : Int} {L n k : Nat} (hL : (2 : Int) ^ L ≤ A) (h : 64 * k ≤ L * n) : Nm.pw k ≤ A ^ n := by
  have h1 := pow_base (a := 2 ^ L) (A := A) (by have := Nm.two_pos L; omega) hL n
  rw [← Int.pow_mul] at h1
  have h2 := Nm.two_mono h
  rw [Nm.pw_two]
  omega

/-- One binary digit of the exponent. -/
theorem half (n t : Nat) : n / 2 ^ t = 2 * (n / 2 ^ (t + 1)) + n / 2 ^ t % 2 := by
  have : n / 2 ^ (t + 1) = n / 2 ^ t / 2 := by rw [Nat.pow_succ, Nat.div_div_eq_div_mul]
  omega

theorem square (A : Int) (n t : Nat) (h : n / 2 ^ t % 2 = 0) : A ^ (n / 2 ^ (t + 1)) * A ^ (n / 2 ^ (t + 1)) = A ^ (n / 2 ^ t) := by
  rw [← Int.pow_add]
  have := half n t
  congr 1
  omega

theorem square_odd (A : Int) (n t : Nat) (h : n / 2 ^ t % 2 = 1) : A ^ (n / 2 ^ (t + 1)) * A ^ (n / 2 ^ (t + 1)) * A = A ^ (n / 2 ^ t) := by
  rw [← Int.pow_add, ← Int.pow_succ]
  have := half n t
  congr 1
  omega

theorem square_le {A : Int} (hA : 1 ≤ A) (n t : Nat) : A ^ (n / 2 ^ (t + 1)) * A ^ (n / 2 ^ (t + 1)) ≤ A ^ n := by
  rw [← Int.pow_add]
  refine pow_mono hA ?_
  have := half n t
  have h2 : n / 2 ^ t ≤ n := Nat.div_le_self _ _
  omega

theorem part_le {A : Int} (hA : 1 ≤ A) (n t : Nat) : A ^ (n / 2 ^ t) ≤ A ^ n := pow_mono hA (Nat.div_le_self _ _)
end Pn
end Go.Proofs.YtmihjiiagpkciaaDoor

namespace Go.Proofs.YtmihjiiagpkciaaDoor
namespace Dn

/-- The digits of V in base B, L of them, the highest first. -/
def dg (B : Int) : Nat → Int → List Int
  | 0, _ => []
  | L + 1, V => dg B L (V / B) ++ [V % B]

theorem dg_length (B : Int) : ∀ L V, (dg B L V).length = L
  | 0, _ => rfl
  | L + 1, V => by simp [dg, dg_length B L]

theorem dm {a b q r : Int} (hb : 0 < b) (h : r + b * q = a) (h0 : 0 ≤ r) (h1 : r < b) : a / b = q ∧ a % b = r :=
  (Int.ediv_emod_unique hb).2 ⟨h, h0, h1⟩

theorem split_mod {B : Int} (hB : 0 < B) (n : Nat) (V : Int) : V / B / B ^ n = V / B ^ (n + 1) ∧ V % B ^ (n + 1) / B = V / B % B ^ n ∧ V % B ^ (n + 1) % B = V % B := by
  have hP : 0 < B ^ n := Int.pow_pos hB
  have hQ : 0 < B ^ (n + 1) := Int.pow_pos hB
  have h1 := Int.emod_add_mul_ediv V B
  have h2 := Int.emod_add_mul_ediv (V / B) (B ^ n)
  have a1 := Int.emod_nonneg V (show B ≠ 0 by omega)
  have a2 := Int.emod_lt_of_pos V hB
  have b1 := Int.emod_nonneg (V / B) (show B ^ n ≠ 0 by omega)
  have b2 := Int.emod_lt_of_pos (V / B) hP
  have e : B ^ (n + 1) = B * B ^ n := by rw [Int.pow_succ, Int.mul_comm]
  have key : V / B ^ (n + 1) = V / B / B ^ n ∧ V % B ^ (n + 1) = V % B + B * (V / B % B ^ n) := by
    apply dm hQ
    · rw [e]
      calc V % B + B * (V / B % B ^ n) + B * B ^ n * (V / B / B ^ n) = V % B + B * (V / B % B ^ n + B ^ n * (V / B / B ^ n)) := by
            rw [Int.mul_add, Int.mul_assoc, Int.add_assoc]
        _ = V := by rw [h2, h1]
    · have := Int.mul_nonneg (show 0 ≤ B by omega) b1
      omega
    · rw [e]
      have h3 : B * (V / B % B ^ n + 1) ≤ B * B ^ n := Int.mul_le_mul_of_nonneg_left (by omega) (by omega)
      rw [Int.mul_add, Int.mul_one] at h3
      omega
  have k2 := dm hB (a := V % B ^ (n + 1)) (q := V / B % B ^ n) (r := V % B) key.2.symm a1 a2
  exact ⟨key.1.symm, k2.1, k2.2⟩

theorem dg_split {B : Int} (hB : 0 < B) (L : Nat) : ∀ (n : Nat) (V : Int), dg B (L + n) V = dg B L (V / B ^ n) ++ dg B n (V % B ^ n)
  | 0, V => by simp [dg]
  | n + 1, V => by
    obtain ⟨e1, e2, e3⟩ := split_mod hB n V
    rw [← Nat.add_assoc, dg, dg_split hB L n (V / B), dg, e1, e2, e3, List.append_assoc]

theorem dg_one {B : Int} (V : Int) : dg B 1 V = [V % B] := by simp [dg]

/-- One digit more, at the head. -/
theorem dg_head {B : Int} (hB : 0 < B) (n : Nat) (V : Int) : dg B (n + 1) V = V / B ^ n % B :: dg B n (V % B ^ n) := by
  rw [Nat.add_comm, dg_split hB 1 n V, dg_one]
  rfl

theorem dg_mod {B : Int} (hB : 0 < B) (n : Nat) (V : Int) : dg B n (V % B ^ n) = dg B n V := by
  have := dg_split hB 0 n V
  rw [Nat.zero_add] at this
  rw [this]
  rfl

theorem dg_mem {B : Int} (hB : 0 < B) : ∀ (L : Nat) (V d : Int), d ∈ dg B L V → 0 ≤ d ∧ d < B
  | 0, _, d, h => by simp [dg] at h
  | L + 1, V, d, h => by
    rw [dg, List.mem_append] at h
    rcases h with h | h
    · exact dg_mem hB L _ d h
    · simp at h
      subst h
      exact ⟨Int.emod_nonneg _ (by omega), Int.emod_lt_of_pos _ hB⟩

/-- The number of a row of digits, the highest first. -/
def tv (B : Int) : Int → List Int → Int
  | a, [] => a
  | a, d :: ds => tv B (a * B + d) ds

theorem tv_append (B : Int) : ∀ (a : Int) (xs ys : List Int), tv B a (xs ++ ys) = tv B (tv B a xs) ys
  | a, [], ys => rfl
  | a, x :: xs, ys => by simp only [List.cons_append, tv]; exact tv_append B _ xs ys

theorem tv_acc (B : Int) : ∀ (a : Int) (ds : List Int), tv B a ds = a * B ^ ds.length + tv B 0 ds
  | a, [] => by simp [tv]
  | a, d :: ds => by
    simp only [tv, List.length_cons]
    rw [tv_acc B (a * B + d) ds, tv_acc B (0 * B + d) ds, Int.zero_mul, Int.zero_add, Int.add_mul, Int.pow_succ, Int.mul_comm (B ^ ds.length) B, Int.mul_assoc, Int.add_assoc]

theorem tv_dg {B : Int} (hB : 0 < B) : ∀ (L : Nat) (V : Int), 0 ≤ V → V < B ^ L → tv B 0 (dg B L V) = V
  | 0, V, h0, h1 => by simp at h1; simp [dg, tv]; omega
  | L + 1, V, h0, h1 => by
    have h2 : V / B < B ^ L := by
      apply Int.ediv_lt_of_lt_mul hB
      rw [← Int.pow_succ]
      exact h1
    rw [dg, tv_append, tv_dg hB L (V / B) (Int.ediv_nonneg h0 (by omega)) h2]
    simp only [tv]
    have := Int.emod_add_mul_ediv V B
    rw [Int.mul_comm]
    omega

theorem tv_nonneg {B : Int} (hB : 0 ≤ B) : ∀ (a : Int) (ds : List Int), 0 ≤ a → (∀ d ∈ ds, 0 ≤ d) → 0 ≤ tv B a ds
  | a, [], h, _ => h
  | a, d :: ds, h, hd => tv_nonneg hB _ ds (by have := Int.mul_nonneg h hB; have := hd d (by simp); omega) (fun x hx => hd x (by simp [hx]))

theorem tv_lt {B : Int} (hB : 0 < B) : ∀ (ds : List Int), (∀ d ∈ ds, 0 ≤ d ∧ d < B) → tv B 0 ds < B ^ ds.length
  | [], _ => by simp [tv]
  | d :: ds, h => by
    simp only [tv, List.length_cons, Int.zero_mul, Int.zero_add]
    rw [tv_acc]
    have h1 := tv_lt hB ds (fun x hx => h x (by simp [hx]))
    have h2 := h d (by simp)
    have h3 : (d + 1) * B ^ ds.length ≤ B * B ^ ds.length := Int.mul_le_mul_of_nonneg_right (by omega) (Int.le_of_lt (Int.pow_pos hB))
    rw [Int.add_mul, Int.one_mul] at h3
    rw [Int.pow_succ, Int.mul_comm (B ^ ds.length) B]
    omega

/-- Without the zeros at the head. -/
def strip (ds : List Int) : List Int := ds.dropWhile (fun d => decide (d = 0))

theorem tv_strip (B : Int) : ∀ ds, tv B 0 (strip ds) = tv B 0 ds
  | [] => rfl
  | d :: ds => by
    unfold strip
    rw [List.dropWhile_cons]
    by_cases h : d = 0
    · subst h
      simp only [decide_true, if_true, tv, Int.zero_mul, Int.zero_add]
      exact tv_strip B ds
    · simp [h]

theorem strip_mem {ds : List Int} {d : Int} (h : d ∈ strip ds) : d ∈ ds := (List.dropWhile_sublist _).subset h

theorem strip_zeros (k : Nat) (ds : List Int) : strip (List.replicate k 0 ++ ds) = strip ds := by
  induction k with
  | zero => rfl
  | succ k ih =>
    rw [List.replicate_succ, List.cons_append]
    unfold strip
    rw [List.dropWhile_cons]
    simp [strip] at ih ⊢

/-- The row of a number's digits comes back. -/
theorem dg_tv {B : Int} (hB : 0 < B) : ∀ (n : Nat) (ds : List Int), ds.length = n → (∀ d ∈ ds, 0 ≤ d ∧ d < B) → dg B n (tv B 0 ds) = ds
  | 0, ds, hl, _ => by rw [List.eq_nil_of_length_eq_zero hl]; rfl
  | n + 1, ds, hl, h => by
    cases ds with
    | nil => simp at hl
    | cons d ds =>
      simp only [List.length_cons, Nat.add_right_cancel_iff] at hl
      have h1 := tv_lt hB ds (fun x hx => h x (by simp [hx]))
      have h2 := tv_nonneg (Int.le_of_lt hB) 0 ds (Int.le_refl _) (fun x hx => (h x (by simp [hx])).1)
      have hd := h d (by simp)
      rw [hl] at h1
      have e : tv B 0 (d :: ds) = tv B 0 ds + B ^ n * d := by
        simp only [tv, Int.zero_mul, Int.zero_add]
        rw [tv_acc, hl, Int.mul_comm]
        omega
      have k := dm (Int.pow_pos hB) e.symm h2 h1
      rw [dg_head hB, k.1, k.2, dg_tv hB n ds hl (fun x hx => h x (by simp [hx])), Int.emod_eq_of_lt hd.1 hd.2]

theorem dg_zero {B : Int} (hB : 0 < B) : ∀ n, dg B n 0 = List.replicate n 0
  | 0 => rfl
  | n + 1 => by
    rw [dg_head hB, Int.zero_ediv, Int.zero_emod, Int.zero_emod, dg_zero hB n]
    rfl

/-- More places add zeros alone. -/
theorem dg_more {B : Int} (hB : 0 < B) (k n : Nat) {V : Int} (h0 : 0 ≤ V) (h1 : V < B ^ n) : dg B (k + n) V = List.replicate k 0 ++ dg B n V := by
  rw [dg_split hB k n V, Int.ediv_eq_zero_of_lt h0 h1, dg_zero hB, Int.emod_eq_of_lt h0 h1]

theorem strip_dg {B : Int} (hB : 0 < B) {m n : Nat} {V : Int} (h0 : 0 ≤ V) (hm : V < B ^ m) (hn : V < B ^ n) : strip (dg B m V) = strip (dg B n V) := by
  rcases Nat.le_total m n with c | c
  · rw [show n = (n - m) + m by omega, dg_more hB _ _ h0 hm, strip_zeros]
  · rw [show m = (m - n) + n by omega, dg_more hB _ _ h0 hn, strip_zeros]

/-- Of a number above nothing something is left, and it opens with no zero. -/
theorem strip_head {ds : List Int} {d : Int} {rest : List Int} (h : strip ds = d :: rest) : d ≠ 0 := by
  have := List.head?_dropWhile_not (fun d => decide (d = 0)) ds
  unfold strip at h
  rw [h] at this
  simpa using this

theorem strip_ne {B : Int} {ds : List Int} (h : tv B 0 ds ≠ 0) : strip ds ≠ [] := by
  intro c
  have := tv_strip B ds
  rw [c] at this
  exact h this.symm
end Dn
end Go.Proofs.YtmihjiiagpkciaaDoor

namespace Go.Proofs.YtmihjiiagpkciaaDoor
namespace Ln

/-- n is the greatest exponent with b^n at most A. -/
def IsLog (A b : Int) (n : Nat) : Prop := b ^ n ≤ A ∧ A < b ^ (n + 1)

theorem unique {A b : Int} (hb : 2 ≤ b) {m n : Nat} (h : IsLog A b m) (k : IsLog A b n) : m = n := by
  rcases Nat.lt_trichotomy m n with c | c | c
  · have := Pn.pow_mono (show 1 ≤ b by omega) (show m + 1 ≤ n by omega)
    have h2 := h.2
    have k1 := k.1
    omega
  · exact c
  · have := Pn.pow_mono (show 1 ≤ b by omega) (show n + 1 ≤ m by omega)
    have k2 := k.2
    have h1 := h.1
    omega

/-- On the way: 2^j is what n may still lack. -/
def Way (A b : Int) (n j : Nat) : Prop := b ^ n ≤ A ∧ A < b ^ (n + 2 ^ j)

theorem Way.last {A b : Int} {n : Nat} (h : Way A b n 0) : IsLog A b n := h

theorem Way.first {A b : Int} {m : Nat} (hA : 1 ≤ A) (h : A < b ^ (2 ^ m)) : Way A b 0 m := ⟨by rw [Int.pow_zero]; exact hA, by rw [Nat.zero_add]; exact h⟩

theorem Way.take {A b : Int} {n i : Nat} (h : Way A b n (i + 1)) (hle : b ^ n * b ^ (2 ^ i) ≤ A) : Way A b (n + 2 ^ i) i := by
  refine ⟨by rw [Int.pow_add]; exact hle, ?_⟩
  have := h.2
  rw [show n + 2 ^ i + 2 ^ i = n + 2 ^ (i + 1) by rw [Nat.pow_succ]; omega]
  exact this

theorem Way.skip {A b : Int} {n i : Nat} (h : Way A b n (i + 1)) (hlt : A < b ^ n * b ^ (2 ^ i)) : Way A b n i := ⟨h.1, by rw [Int.pow_add]; exact hlt⟩

/-- An exponent is small where the power is. -/
theorem small {A b : Int} {n L : Nat} (hb : 2 ≤ b) (h : b ^ n ≤ A) (hA : A < 2 ^ L) : n < L := by
  have h1 := Pn.pow_base (a := 2) (A := b) (by omega) hb n
  rcases Nat.lt_or_ge n L with c | c
  · exact c
  · have := Nm.two_mono c
    omega

theorem square (b : Int) (k : Nat) : b ^ (2 ^ k) * b ^ (2 ^ k) = b ^ (2 ^ (k + 1)) := by
  rw [← Int.pow_add]
  congr 1
  rw [Nat.pow_succ]
  omega

/-- So many squares at most. -/
theorem few {A b : Int} {k : Nat} (hb : 2 ≤ b) (h : b ^ (2 ^ k) ≤ A) (hA : A < 2 ^ 262144) : k < 18 := by
  have h1 := small hb h hA
  rcases Nat.lt_or_ge k 18 with c | c
  · exact c
  · have : 2 ^ 18 ≤ 2 ^ k := Nat.pow_le_pow_right (by omega) c
    omega
end Ln
end Go.Proofs.YtmihjiiagpkciaaDoor

namespace Go.Proofs.YtmihjiiagpkciaaDoor
namespace Qd
open Nm

/-- What limb i - 1 sends up into limb i when all is moved up: T * U is 2^64. -/
def up (zs : List Int) (U : Int) : Nat → Int
  | 0 => 0
  | i + 1 => zs.getD i 0 / U

/-- Limb i of the number moved up. -/
def limb (zs : List Int) (T U : Int) (i : Nat) : Int := zs.getD i 0 % U * T + up zs U i

/-- The first i limbs moved up, without what goes beyond them. -/
def low (zs : List Int) (T U : Int) (i : Nat) : Int := val (zs.take i) * T - up zs U i * pw i

theorem low_succ {zs : List Int} {T U : Int} (hTU : T * U = 18446744073709551616) (i : Nat) (hi : i < zs.length) : low zs T U (i + 1) = low zs T U i + pw i * limb zs T U i := by
  have h1 := val_take_succ zs i hi
  have h2 := Int.emod_add_mul_ediv (zs.getD i 0) U
  have e0 : up zs U (i + 1) = zs.getD i 0 / U := rfl
  simp only [low, limb, e0, h1, pw_succ]
  clear e0
  generalize up zs U i = u
  generalize zs.getD i 0 = z at *
  have e : z * T = z % U * T + z / U * 18446744073709551616 := by
    rw [← hTU]
    have : (z % U + U * (z / U)) * T = z * T := by rw [h2]
    rw [Int.add_mul] at this
    rw [← this, Int.mul_comm U, Int.mul_assoc, Int.mul_comm U T]
  rw [Int.add_mul, Int.mul_assoc, e, Int.mul_add, Int.mul_add]
  have e2 : z / U * (18446744073709551616 * pw i) = pw i * (z / U * 18446744073709551616) := by
    rw [Int.mul_left_comm, ← Int.mul_assoc, Int.mul_comm _ (pw i), Int.mul_comm (z / U)]
  have e3 : u * pw i = pw i * u := Int.mul_comm _ _
  omega

theorem up_bd {zs : List Int} (h : Limbs zs) {T U : Int} (hT : 0 < T) (hU : 0 < U) (hTU : T * U = 18446744073709551616) (i : Nat) : 0 ≤ up zs U i ∧ up zs U i < T := by
  cases i with
  | zero => exact ⟨Int.le_refl _, hT⟩
  | succ i =>
    have := h.at i
    refine ⟨Int.ediv_nonneg this.1 (by omega), ?_⟩
    show zs.getD i 0 / U < T
    rw [Int.ediv_lt_iff_lt_mul hU, hTU]
    exact this.2

theorem part_bd {z T U : Int} (hT : 0 < T) (hU : 0 < U) (hTU : T * U = 18446744073709551616) : 0 ≤ z % U * T ∧ z % U * T + T ≤ 18446744073709551616 := by
  have d2 := Int.emod_nonneg z (show U ≠ 0 by omega)
  have d3 := Int.emod_lt_of_pos z hU
  have a5 : (z % U + 1) * T ≤ U * T := Int.mul_le_mul_of_nonneg_right (by omega) (by omega)
  rw [Int.add_mul, Int.one_mul, Int.mul_comm U T, hTU] at a5
  exact ⟨Int.mul_nonneg d2 (by omega), a5⟩

theorem limb_bd {zs : List Int} (h : Limbs zs) {T U : Int} (hT : 0 < T) (hU : 0 < U) (hTU : T * U = 18446744073709551616) (i : Nat) : 0 ≤ limb zs T U i ∧ limb zs T U i < 18446744073709551616 := by
  have h1 := up_bd h hT hU hTU i
  have h2 := part_bd (z := zs.getD i 0) hT hU hTU
  simp only [limb]
  omega

theorem low_bd {zs : List Int} (h : Limbs zs) {T U : Int} (hT : 0 < T) (hU : 0 < U) (hTU : T * U = 18446744073709551616) : ∀ i, i ≤ zs.length → 0 ≤ low zs T U i ∧ low zs T U i < pw i
  | 0, _ => by simp [low, up, pw, val]
  | i + 1, hi => by
    have h1 := low_bd h hT hU hTU i (by omega)
    have h2 := limb_bd h hT hU hTU i
    rw [low_succ hTU i (by omega), pw_succ]
    have hp := pw_pos i
    have h3 : 0 ≤ pw i * limb zs T U i := Int.mul_nonneg (by omega) h2.1
    have h4 : pw i * (limb zs T U i + 1) ≤ pw i * 18446744073709551616 := Int.mul_le_mul_of_nonneg_left (by omega) (by omega)
    rw [Int.mul_add, Int.mul_one] at h4
    omega

/-- The whole, moved up: nothing goes beyond its limbs where it has room. -/
theorem whole {zs : List Int} (h : Limbs zs) {T U : Int} (hT : 0 < T) (hU : 0 < U) (hTU : T * U = 18446744073709551616) (hv : val zs * T < pw zs.length) : low zs T U zs.length = val zs * T := by
  have h1 := low_bd h hT hU hTU zs.length (Nat.le_refl _)
  have h2 := up_bd h hT hU hTU zs.length
  simp only [low, List.take_length] at h1 ⊢
  have hp := pw_pos zs.length
  have h3 : up zs U zs.length = 0 := by
    rcases (show up zs U zs.length = 0 ∨ 1 ≤ up zs U zs.length by omega) with h3 | h3
    · exact h3
    · have : 1 * pw zs.length ≤ up zs U zs.length * pw zs.length := Int.mul_le_mul_of_nonneg_right h3 (by omega)
      omega
  rw [h3]
  omega

/-- What a digit q keeps to, told from the three highest limbs of the part and the two of the divisor. -/
def Fits (q f s h m l : Int) : Prop := 0 ≤ q ∧ q < 18446744073709551616 ∧ q * (f * 18446744073709551616 + s) ≤ (h * 18446744073709551616 + m) * 18446744073709551616 + l

/-- The limbs that the guess is told from: the divisor bs has k + 2 limbs, the part ps one more, and it is below 2^64 times the divisor. -/
theorem fits {bs ps : List Int} (hb : Limbs bs) (hp : Limbs ps) {T U : Int} (hT : 0 < T) (hU : 0 < U) (hTU : T * U = 18446744073709551616) {k : Nat} (lb : bs.length = k + 2) (lp : ps.length = k + 3)
    (hv : val bs * T < pw (k + 2)) (hpb : val ps < val bs * 18446744073709551616) :
    limb ps T U (k + 2) ≤ limb bs T U (k + 1) ∧ ∀ q, 0 ≤ q → q * val bs ≤ val ps → Fits q (limb bs T U (k + 1)) (limb bs T U k) (limb ps T U (k + 2)) (limb ps T U (k + 1)) (limb ps T U k) := by
  have w1 := whole hb hT hU hTU (by rw [lb]; exact hv)
  rw [lb] at w1
  have e1 : low bs T U (k + 2) = low bs T U (k + 1) + pw (k + 1) * limb bs T U (k + 1) := low_succ (zs := bs) hTU (k + 1) (by omega)
  have e2 := low_succ (zs := bs) hTU k (by omega)
  have hpT : val ps * T < val bs * T * 18446744073709551616 := by
    have := Int.mul_lt_mul_of_pos_right hpb hT
    rw [Int.mul_right_comm] at this
    exact this
  have hb0 : 0 ≤ val bs * T := Int.mul_nonneg (val_bd bs hb).1 (by omega)
  have w2 := whole hp hT hU hTU (by rw [lp, pw_succ]; omega)
  rw [lp] at w2
  have e3 : low ps T U (k + 3) = low ps T U (k + 2) + pw (k + 2) * limb ps T U (k + 2) := low_succ (zs := ps) hTU (k + 2) (by omega)
  have e4 : low ps T U (k + 2) = low ps T U (k + 1) + pw (k + 1) * limb ps T U (k + 1) := low_succ (zs := ps) hTU (k + 1) (by omega)
  have e5 := low_succ (zs := ps) hTU k (by omega)
  have b1 := low_bd hb hT hU hTU k (by omega)
  have b2 := low_bd hb hT hU hTU (k + 1) (by omega)
  have b3 := low_bd hp hT hU hTU k (by omega)
  have b4 := low_bd hp hT hU hTU (k + 2) (by omega)
  have pk := pw_pos k
  generalize limb bs T U (k + 1) = f at *
  generalize limb bs T U k = s at *
  generalize limb ps T U (k + 2) = h at *
  generalize limb ps T U (k + 1) = m at *
  generalize limb ps T U k = l at *
  generalize low bs T U k = x0 at *
  generalize low ps T U k = y0 at *
  rw [pw_succ (k + 1), pw_succ k] at *
  constructor
  · rcases (show h ≤ f ∨ f + 1 ≤ h by omega) with c | c
    · exact c
    · exfalso
      have : 18446744073709551616 * (18446744073709551616 * pw k) * (f + 1) ≤ 18446744073709551616 * (18446744073709551616 * pw k) * h := Int.mul_le_mul_of_nonneg_left c (by omega)
      rw [Int.mul_add, Int.mul_one, Int.mul_assoc 18446744073709551616 (18446744073709551616 * pw k) f] at this
      omega
  · intro q q0 hq
    have hqT : q * (val bs * T) ≤ val ps * T := by
      rw [← Int.mul_assoc]
      exact Int.mul_le_mul_of_nonneg_right hq (by omega)
    have q1 : q < 18446744073709551616 := by
      rcases (show q < 18446744073709551616 ∨ 18446744073709551616 ≤ q by omega) with c | c
      · exact c
      · exfalso
        have : 18446744073709551616 * val bs ≤ q * val bs := Int.mul_le_mul_of_nonneg_right c (val_bd bs hb).1
        omega
    refine ⟨q0, q1, ?_⟩
    have g1 : val bs * T = x0 + pw k * (f * 18446744073709551616 + s) := by
      rw [Int.mul_add, ← Int.mul_assoc, Int.mul_right_comm (pw k) f, Int.mul_comm (pw k) 18446744073709551616]
      omega
    have g2 : val ps * T = y0 + pw k * ((h * 18446744073709551616 + m) * 18446744073709551616 + l) := by
      rw [Int.mul_add, Int.add_mul, Int.mul_add]
      have t1 : pw k * (h * 18446744073709551616 * 18446744073709551616) = 18446744073709551616 * (18446744073709551616 * pw k) * h := by
        rw [Int.mul_assoc h, Int.mul_left_comm, ← Int.mul_assoc 18446744073709551616 18446744073709551616, Int.mul_assoc (18446744073709551616 * 18446744073709551616), Int.mul_left_comm h, Int.mul_comm h, Int.mul_left_comm]
      have t2 : pw k * (m * 18446744073709551616) = 18446744073709551616 * pw k * m := by
        rw [← Int.mul_assoc, Int.mul_right_comm, Int.mul_comm (pw k)]
      rw [t1, t2]
      omega
    rw [g1, g2, Int.mul_add] at hqT
    have g3 : 0 ≤ q * x0 := Int.mul_nonneg q0 b1.1
    have g4 : q * (pw k * (f * 18446744073709551616 + s)) = pw k * (q * (f * 18446744073709551616 + s)) := Int.mul_left_comm _ _ _
    generalize q * (f * 18446744073709551616 + s) = X at *
    generalize (h * 18446744073709551616 + m) * 18446744073709551616 + l = Y at *
    rcases (show X ≤ Y ∨ Y + 1 ≤ X by omega) with c | c
    · exact c
    · exfalso
      have : pw k * (Y + 1) ≤ pw k * X := Int.mul_le_mul_of_nonneg_left c (by omega)
      rw [Int.mul_add, Int.mul_one] at this
      omega

/-- No digit is above d, which leaves 'left' of the two highest limbs. -/
def Over (Q : Int → Prop) (f hm d left : Int) : Prop := (0 ≤ d ∧ d < 18446744073709551616) ∧ (0 ≤ left ∧ left < 18446744073709551616) ∧ d * f + left = hm ∧ ∀ q, Q q → q ≤ d

/-- The second limb shows that d is too great. -/
theorem over_down {Q : Int → Prop} {f s h m l d left : Int} (hQ : ∀ q, Q q → Fits q f s h m l) (hl : 0 ≤ l) (_hf : 0 ≤ f) (H : Over Q f (h * 18446744073709551616 + m) d left) (hc : left * 18446744073709551616 + l < d * s) :
    1 ≤ d ∧ (d - 1) * f + (left + f) = h * 18446744073709551616 + m ∧ ∀ q, Q q → q ≤ d - 1 := by
  obtain ⟨⟨d0, d1⟩, ⟨l0, l1⟩, e, hq⟩ := H
  have hd : 1 ≤ d := by
    rcases (show d = 0 ∨ 1 ≤ d by omega) with c | c
    · subst c; rw [Int.zero_mul] at hc; omega
    · exact c
  refine ⟨hd, by rw [Int.sub_mul, Int.one_mul]; omega, fun q hQq => ?_⟩
  have h1 := hq q hQq
  obtain ⟨q0, q1, q2⟩ := hQ q hQq
  rcases (show q ≤ d - 1 ∨ q = d by omega) with c | c
  · exact c
  · subst c
    exfalso
    rw [Int.mul_add, ← Int.mul_assoc, ← e, Int.add_mul] at q2
    omega

theorem over_on {Q : Int → Prop} {f s h m l d left : Int} (hQ : ∀ q, Q q → Fits q f s h m l) (hl : 0 ≤ l) (hf : 0 ≤ f) (H : Over Q f (h * 18446744073709551616 + m) d left) (hc : left * 18446744073709551616 + l < d * s) (hr : left + f < 18446744073709551616) :
    Over Q f (h * 18446744073709551616 + m) (d - 1) (left + f) := by
  obtain ⟨h1, h2, h3⟩ := over_down hQ hl hf H hc
  exact ⟨by have := H.1; omega, by have := H.2.1; omega, h2, h3⟩

/-- The first guess. -/
theorem over_first {Q : Int → Prop} {f s h m l d left : Int} (hQ : ∀ q, Q q → Fits q f s h m l) (hs : 0 ≤ s) (hl : l < 18446744073709551616) (hd : 0 ≤ d ∧ d < 18446744073709551616) (h0 : 0 ≤ left) (h1 : left < f) (hf : f < 18446744073709551616) (e : d * f + left = h * 18446744073709551616 + m) :
    Over Q f (h * 18446744073709551616 + m) d left := by
  refine ⟨hd, by omega, e, fun q hQq => ?_⟩
  obtain ⟨q0, q1, q2⟩ := hQ q hQq
  rcases (show q ≤ d ∨ d + 1 ≤ q by omega) with c | c
  · exact c
  · exfalso
    have t1 : (d + 1) * f ≤ q * f := Int.mul_le_mul_of_nonneg_right c (by omega)
    rw [Int.add_mul, Int.one_mul] at t1
    have t2 : 0 ≤ q * s := Int.mul_nonneg q0 hs
    rw [Int.mul_add, ← Int.mul_assoc] at q2
    omega

/-- The highest limbs are alike: the guess is the greatest limb. -/
theorem over_even {Q : Int → Prop} {f s h m l : Int} (hQ : ∀ q, Q q → Fits q f s h m l) (e : h = f) (hm : 0 ≤ m + f) (hmf : m + f < 18446744073709551616) :
    Over Q f (h * 18446744073709551616 + m) 18446744073709551615 (m + f) := by
  refine ⟨by omega, by omega, by rw [e]; omega, fun q hQq => ?_⟩
  obtain ⟨q0, q1, q2⟩ := hQ q hQq
  omega

theorem over_most {Q : Int → Prop} {f s h m l : Int} (hQ : ∀ q, Q q → Fits q f s h m l) (q : Int) (hq : Q q) : q ≤ 18446744073709551615 := by
  obtain ⟨q0, q1, q2⟩ := hQ q hq
  omega
end Qd
end Go.Proofs.YtmihjiiagpkciaaDoor

namespace Go.Proofs.YtmihjiiagpkciaaDoor
namespace Dv

/-- q is the digit: U * 2^32 + u divided by Y. -/
def Dig (U u Y q : Int) : Prop := 0 ≤ q ∧ q < 4294967296 ∧ q * Y ≤ U * 4294967296 + u ∧ U * 4294967296 + u < q * Y + Y

/-- The estimate is never too small, and what is left of the highest digits goes with it. -/
def Est (U u Y v1 q r : Int) : Prop := 0 ≤ q ∧ 0 ≤ r ∧ r < 4294967296 ∧ q * v1 + r = U ∧ U * 4294967296 + u < q * Y + Y

/-- The divisor: two digits, the higher one at least 2^31. -/
def Nrm (Y v1 v0 : Int) : Prop := Y = v1 * 4294967296 + v0 ∧ 0 ≤ v0 ∧ v0 < 4294967296 ∧ 2147483648 ≤ v1 ∧ v1 < 4294967296

theorem mulY {Y v1 v0 : Int} (h : Nrm Y v1 v0) (q : Int) : q * Y = q * v1 * 4294967296 + q * v0 := by
  rw [h.1, Int.mul_add, Int.mul_assoc]

theorem est_first {U u Y v1 v0 : Int} (hY : Nrm Y v1 v0) (hU : 0 ≤ U) (hu0 : 0 ≤ u) (hu : u < 4294967296) : Est U u Y v1 (U / v1) (U - U / v1 * v1) := by
  have hv := hY.2.2.2.1
  have hv' := hY.2.2.2.2
  have h1 := Int.emod_add_mul_ediv U v1
  have h2 := Int.emod_nonneg U (show v1 ≠ 0 by omega)
  have h3 := Int.emod_lt_of_pos U (show 0 < v1 by omega)
  have h4 : 0 ≤ U / v1 := Int.ediv_nonneg hU (by omega)
  rw [Int.mul_comm v1] at h1
  have h5 := mulY hY (U / v1)
  have h6 : 0 ≤ U / v1 * v0 := Int.mul_nonneg h4 hY.2.1
  have h7 := hY.1
  have h8 := hY.2.1
  refine ⟨h4, by omega, by omega, by omega, ?_⟩
  omega

theorem est_down {U u Y v1 v0 q r : Int} (hY : Nrm Y v1 v0) (hUY : U < Y) (_hu0 : 0 ≤ u) (hu : u < 4294967296) (h : Est U u Y v1 q r) (hc : 4294967296 ≤ q ∨ 4294967296 * r + u < q * v0) :
    1 ≤ q ∧ (q - 1) * v1 + (r + v1) = U ∧ U * 4294967296 + u < (q - 1) * Y + Y := by
  obtain ⟨h1, h2, h3, h4, h5⟩ := h
  have hq : 1 ≤ q := by
    rcases hc with hc | hc
    · omega
    · rcases (show q < 1 ∨ 1 ≤ q by omega) with hq | hq
      · have : q = 0 := by omega
        subst this
        rw [Int.zero_mul] at hc
        omega
      · exact hq
  have e1 := mulY hY q
  refine ⟨hq, ?_, ?_⟩
  · rw [Int.sub_mul, Int.one_mul]; omega
  · rw [Int.sub_mul, Int.one_mul]
    rcases hc with hc | hc
    · have : 4294967296 * Y ≤ q * Y := Int.mul_le_mul_of_nonneg_right hc (by have := hY.1; have := hY.2.1; have := hY.2.2.2.1; omega)
      omega
    · omega

/-- Another round. -/
theorem est_on {U u Y v1 v0 q r : Int} (hY : Nrm Y v1 v0) (hUY : U < Y) (hu0 : 0 ≤ u) (hu : u < 4294967296) (h : Est U u Y v1 q r) (hc : 4294967296 ≤ q ∨ 4294967296 * r + u < q * v0) (hr : r + v1 < 4294967296) : Est U u Y v1 (q - 1) (r + v1) := by
  obtain ⟨h1, h2, h3⟩ := est_down hY hUY hu0 hu h hc
  exact ⟨by omega, by have := h.2.1; have := hY.2.2.2.1; omega, hr, h2, h3⟩

/-- Left because the rest has a digit more. -/
theorem dig_break {U u Y v1 v0 q r : Int} (hY : Nrm Y v1 v0) (hUY : U < Y) (hu0 : 0 ≤ u) (hu : u < 4294967296) (h : Est U u Y v1 q r) (hc : 4294967296 ≤ q ∨ 4294967296 * r + u < q * v0) (hr : 4294967296 ≤ r + v1) : Dig U u Y (q - 1) := by
  obtain ⟨h1, h2, h3⟩ := est_down hY hUY hu0 hu h hc
  obtain ⟨y1, y2, y3, y4, y5⟩ := hY
  have hq : q - 1 < 4294967296 := by
    rcases (show (q - 1) < 4294967296 ∨ 4294967296 ≤ (q - 1) by omega) with hq | hq
    · exact hq
    · have : 4294967296 * v1 ≤ (q - 1) * v1 := Int.mul_le_mul_of_nonneg_right hq (by omega)
      omega
  have e1 := mulY ⟨y1, y2, y3, y4, y5⟩ (q - 1)
  have e2 : (q - 1) * v0 ≤ 4294967296 * v0 := Int.mul_le_mul_of_nonneg_right (by omega) y2
  exact ⟨by omega, hq, by omega, h3⟩

/-- Left because the estimate is right. -/
theorem dig_exit {U u Y v1 v0 q r : Int} (hY : Nrm Y v1 v0) (h : Est U u Y v1 q r) (h1 : q < 4294967296) (h2 : q * v0 ≤ 4294967296 * r + u) : Dig U u Y q := by
  have e1 := mulY hY q
  obtain ⟨a1, a2, a3, a4, a5⟩ := h
  exact ⟨a1, h1, by omega, a5⟩

/-- What is made of the two digits. -/
theorem whole {hi lo y P Y U L u1 u0 q1 q0 R R0 : Int} (hP : 0 < P) (hYP : Y = y * P) (hN : U * 18446744073709551616 + L = (hi * 18446744073709551616 + lo) * P) (hL : L = u1 * 4294967296 + u0)
    (hR : R = U * 4294967296 + u1 - q1 * Y) (hR0 : R0 = R * 4294967296 + u0 - q0 * Y) (h0 : 0 ≤ R0) (h1 : R0 < Y) (_hy : 0 < y) :
    (hi * 18446744073709551616 + lo) / y = q1 * 4294967296 + q0 ∧ (hi * 18446744073709551616 + lo) % y = R0 / P := by
  obtain ⟨N, hNe⟩ : ∃ N, N = hi * 18446744073709551616 + lo := ⟨_, rfl⟩
  rw [← hNe] at hN ⊢
  have e1 : N * P = (q1 * 4294967296 + q0) * Y + R0 := by
    rw [Int.add_mul, Int.mul_right_comm q1 4294967296 Y]
    omega
  have e2 : R0 = (N - (q1 * 4294967296 + q0) * y) * P := by
    rw [Int.sub_mul, Int.mul_assoc, ← hYP]
    omega
  obtain ⟨Q, hQ⟩ : ∃ Q, Q = q1 * 4294967296 + q0 := ⟨_, rfl⟩
  rw [← hQ] at e2 ⊢
  obtain ⟨ρ, hρ⟩ : ∃ ρ, ρ = N - Q * y := ⟨_, rfl⟩
  rw [← hρ] at e2
  have r0 : 0 ≤ ρ := by
    rcases (show ρ < 0 ∨ 0 ≤ ρ by omega) with h | h
    · have : ρ * P ≤ (-1) * P := Int.mul_le_mul_of_nonneg_right (by omega) (by omega)
      omega
    · exact h
  have r1 : ρ < y := by
    rcases (show ρ < y ∨ y ≤ ρ by omega) with h | h
    · exact h
    · have : y * P ≤ ρ * P := Int.mul_le_mul_of_nonneg_right h (by omega)
      omega
  have e3 : R0 / P = ρ := by rw [e2, Int.mul_ediv_cancel _ (by omega)]
  have e4 : N = ρ + y * Q := by rw [Int.mul_comm y]; omega
  rw [e3, e4]
  refine ⟨?_, ?_⟩
  · rw [Int.add_mul_ediv_left _ _ (by omega), Int.ediv_eq_zero_of_lt r0 r1, Int.zero_add]
  · rw [Int.add_mul_emod_self_left, Int.emod_eq_of_lt r0 r1]

/-- The operands moved up by s binary digits: P is 2^s, Q what makes 2^64 of it. -/
theorem moved {hi lo y P Q : Int} (hP : 0 < P) (hQ : 0 < Q) (hPQ : P * Q = 18446744073709551616) (h0 : 0 ≤ hi) (hy : hi < y) (l0 : 0 ≤ lo) (l1 : lo < 18446744073709551616) :
    0 ≤ lo / Q ∧ lo / Q < P ∧ 0 ≤ hi * P ∧ hi * P + lo / Q < y * P ∧ (lo * P) % 18446744073709551616 = lo % Q * P ∧ (hi * P + lo / Q) * 18446744073709551616 + lo % Q * P = (hi * 18446744073709551616 + lo) * P := by
  have d1 := Int.emod_add_mul_ediv lo Q
  have d2 := Int.emod_nonneg lo (show Q ≠ 0 by omega)
  have d3 := Int.emod_lt_of_pos lo hQ
  have a0 : 0 ≤ lo / Q := Int.ediv_nonneg l0 (by omega)
  have a1 : lo / Q < P := by
    rw [Int.ediv_lt_iff_lt_mul hQ, hPQ]
    exact l1
  have a2 : 0 ≤ hi * P := Int.mul_nonneg h0 (by omega)
  have a3 : (hi + 1) * P ≤ y * P := Int.mul_le_mul_of_nonneg_right (by omega) (by omega)
  rw [Int.add_mul, Int.one_mul] at a3
  have a4 : lo * P = lo % Q * P + 18446744073709551616 * (lo / Q) := by
    have : (lo % Q + Q * (lo / Q)) * P = lo * P := by rw [d1]
    rw [Int.add_mul, Int.mul_right_comm, Int.mul_comm Q P, hPQ] at this
    omega
  have a5 : lo % Q * P < Q * P := Int.mul_lt_mul_of_pos_right d3 hP
  have a6 : 0 ≤ lo % Q * P := Int.mul_nonneg d2 (by omega)
  rw [Int.mul_comm Q P, hPQ] at a5
  refine ⟨a0, a1, a2, by omega, by omega, ?_⟩
  rw [Int.add_mul (hi * 18446744073709551616), Int.mul_right_comm]
  omega
end Dv
end Go.Proofs.YtmihjiiagpkciaaDoor
