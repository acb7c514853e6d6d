/-
  PLAIN MATHEMATICS OF LISTS OF LIMBS (base 2^64, the lowest first): their number, their trimmed length, what a change of one limb does. No Go in it.
-/
namespace Go.Proofs.Ytdolimhddmddnaa
namespace Nm

/-- The number that a list of limbs stands for. -/
def val : List Int → Int
  | [] => 0
  | z :: zs => z + 18446744073709551616 * val zs

/-- 2^(64 k). -/
def pw : Nat → Int
  | 0 => 1
  | k + 1 => 18446744073709551616 * pw k

/-- Each limb is one of 64 bits. -/
def Limbs (zs : List Int) : Prop := ∀ z ∈ zs, 0 ≤ z ∧ z < 18446744073709551616

/-- The length without the zeros at the high end. -/
def tsize : List Int → Nat
  | [] => 0
  | z :: zs => if tsize zs = 0 ∧ z = 0 then 0 else tsize zs + 1

theorem pw_pos : ∀ k, 0 < pw k
  | 0 => by simp [pw]
  | k + 1 => by have := pw_pos k; simp only [pw]; omega

theorem pw_succ (k : Nat) : pw (k + 1) = 18446744073709551616 * pw k := rfl

theorem pw_add (a : Nat) : ∀ b, pw (a + b) = pw a * pw b
  | 0 => by simp [pw]
  | b + 1 => by
    have := pw_add a b
    rw [← Nat.add_assoc, pw_succ, pw_succ, this, Int.mul_left_comm]

theorem pw_mono {a b : Nat} (h : a ≤ b) : pw a ≤ pw b := by
  obtain ⟨c, rfl⟩ := Nat.exists_eq_add_of_le h
  rw [pw_add]
  have h1 := pw_pos a
  have h2 := pw_pos c
  have : pw a * 1 ≤ pw a * pw c := Int.mul_le_mul_of_nonneg_left (by omega) (by omega)
  omega

theorem Limbs.nil : Limbs [] := by intro z h; simp at h

theorem Limbs.cons {z : Int} {zs : List Int} (h : Limbs (z :: zs)) : (0 ≤ z ∧ z < 18446744073709551616) ∧ Limbs zs :=
  ⟨h z (by simp), fun y hy => h y (by simp [hy])⟩

theorem Limbs.mk {z : Int} {zs : List Int} (h0 : 0 ≤ z) (h1 : z < 18446744073709551616) (h : Limbs zs) : Limbs (z :: zs) := by
  intro y hy
  rcases List.mem_cons.1 hy with rfl | hy
  · exact ⟨h0, h1⟩
  · exact h y hy

theorem Limbs.take {zs : List Int} (h : Limbs zs) (k : Nat) : Limbs (zs.take k) := fun z hz => h z (List.mem_of_mem_take hz)

theorem Limbs.drop {zs : List Int} (h : Limbs zs) (k : Nat) : Limbs (zs.drop k) := fun z hz => h z (List.mem_of_mem_drop hz)

theorem Limbs.append {a b : List Int} (h : Limbs a) (k : Limbs b) : Limbs (a ++ b) := by
  intro z hz
  rcases List.mem_append.1 hz with hz | hz
  · exact h z hz
  · exact k z hz

theorem Limbs.set {zs : List Int} (h : Limbs zs) (i : Nat) {s : Int} (h0 : 0 ≤ s) (h1 : s < 18446744073709551616) : Limbs (zs.set i s) := by
  intro z hz
  rcases List.mem_or_eq_of_mem_set hz with hz | rfl
  · exact h z hz
  · exact ⟨h0, h1⟩

theorem Limbs.replicate (n : Nat) : Limbs (List.replicate n 0) := by
  intro z hz
  have := List.eq_of_mem_replicate hz
  subst this
  decide

theorem Limbs.at {zs : List Int} (h : Limbs zs) (i : Nat) : 0 ≤ zs.getD i 0 ∧ zs.getD i 0 < 18446744073709551616 := by
  by_cases hi : i < zs.length
  · have e : zs.getD i 0 = zs[i] := by simp [List.getD, hi]
    rw [e]
    exact h _ (List.getElem_mem hi)
  · have e : zs.getD i 0 = 0 := by simp [List.getD, List.getElem?_eq_none (Nat.le_of_not_lt hi)]
    rw [e]
    decide

theorem val_append : ∀ (a b : List Int), val (a ++ b) = val a + pw a.length * val b
  | [], b => by simp [val, pw]
  | z :: a, b => by
    have := val_append a b
    simp only [List.cons_append, val, List.length_cons, pw, this, Int.mul_add, Int.mul_assoc]
    omega

theorem val_replicate : ∀ n, val (List.replicate n 0) = 0
  | 0 => by simp [val]
  | n + 1 => by simp [List.replicate_succ, val, val_replicate n]

theorem val_take_succ : ∀ (zs : List Int) (k : Nat), k < zs.length → val (zs.take (k + 1)) = val (zs.take k) + pw k * zs.getD k 0
  | [], k, h => by simp at h
  | z :: zs, 0, _ => by simp [val, pw]
  | z :: zs, k + 1, h => by
    have := val_take_succ zs k (by simpa using h)
    simp only [List.take_succ_cons, val, this, pw, List.getD_cons_succ, Int.mul_add, Int.mul_assoc]
    omega

theorem val_set : ∀ (zs : List Int) (i : Nat) (s : Int), i < zs.length → val (zs.set i s) = val zs + pw i * (s - zs.getD i 0)
  | [], i, s, h => by simp at h
  | z :: zs, 0, s, _ => by simp [val, pw]; omega
  | z :: zs, i + 1, s, h => by
    have := val_set zs i s (by simpa using h)
    simp only [List.set_cons_succ, val, this, pw, List.getD_cons_succ, Int.mul_add, Int.mul_assoc]
    omega

theorem val_bd : ∀ (zs : List Int), Limbs zs → 0 ≤ val zs ∧ val zs < pw zs.length
  | [], _ => by simp [val, pw]
  | z :: zs, h => by
    have h1 := val_bd zs h.cons.2
    have h2 := h.cons.1
    simp only [val, List.length_cons, pw]
    omega

theorem val_take_of_zero : ∀ (zs : List Int) (k : Nat), (∀ j, k ≤ j → zs.getD j 0 = 0) → val (zs.take k) = val zs
  | [], k, _ => by simp
  | z :: zs, 0, h => by
    have h0 := h 0 (Nat.le_refl _)
    have h1 := val_take_of_zero zs 0 (fun j _ => by simpa using h (j + 1) (by omega))
    simp at h0 h1
    simp [val, h0, ← h1]
  | z :: zs, k + 1, h => by
    have := val_take_of_zero zs k (fun j hj => by simpa using h (j + 1) (by omega))
    simp [val, this]

theorem tsize_le : ∀ (zs : List Int), tsize zs ≤ zs.length
  | [] => by simp [tsize]
  | z :: zs => by
    have := tsize_le zs
    simp only [tsize, List.length_cons]
    split <;> omega

theorem tsize_zero : ∀ (zs : List Int) (j : Nat), tsize zs ≤ j → zs.getD j 0 = 0
  | [], j, _ => by simp
  | z :: zs, j, h => by
    simp only [tsize] at h
    split at h
    · rename_i hz
      cases j with
      | zero => simpa using hz.2
      | succ j => simpa using tsize_zero zs j (by omega)
    · cases j with
      | zero => omega
      | succ j => simpa using tsize_zero zs j (by omega)

theorem tsize_top : ∀ (zs : List Int), 0 < tsize zs → zs.getD (tsize zs - 1) 0 ≠ 0
  | [], h => by simp [tsize] at h
  | z :: zs, h => by
    simp only [tsize] at h ⊢
    split at h
    · omega
    · rename_i hz
      rw [if_neg hz]
      by_cases h0 : tsize zs = 0
      · simp [h0] at hz ⊢
        exact hz
      · have := tsize_top zs (by omega)
        obtain ⟨t, ht⟩ : ∃ t, tsize zs = t + 1 := ⟨tsize zs - 1, by omega⟩
        rw [ht] at this ⊢
        simpa using this

theorem tsize_unique (zs : List Int) (k : Nat) (h1 : ∀ j, k ≤ j → zs.getD j 0 = 0) (h2 : k = 0 ∨ zs.getD (k - 1) 0 ≠ 0) : tsize zs = k := by
  rcases Nat.lt_trichotomy (tsize zs) k with h | h | h
  · rcases h2 with rfl | h2
    · omega
    · exact absurd (tsize_zero zs (k - 1) (by omega)) h2
  · exact h
  · exact absurd (h1 (tsize zs - 1) (by omega)) (tsize_top zs (by omega))

/-- The trimmed list. -/
def trim (zs : List Int) : List Int := zs.take (tsize zs)

theorem Limbs.trim {zs : List Int} (h : Limbs zs) : Limbs (trim zs) := h.take _

theorem trim_length (zs : List Int) : (trim zs).length = tsize zs := by
  have := tsize_le zs
  simp [trim]; omega

theorem getD_take (zs : List Int) (k j : Nat) : (zs.take k).getD j 0 = if j < k then zs.getD j 0 else 0 := by
  simp only [List.getD, List.getElem?_take]
  split <;> simp

theorem trim_trim (zs : List Int) : tsize (trim zs) = tsize zs := by
  refine tsize_unique _ _ (fun j hj => ?_) ?_
  · rw [trim, getD_take, if_neg (by omega)]
  · by_cases h : tsize zs = 0
    · exact .inl h
    · right
      rw [trim, getD_take, if_pos (by omega)]
      exact tsize_top zs (by omega)

theorem val_trim (zs : List Int) : val (trim zs) = val zs := val_take_of_zero zs _ (tsize_zero zs)

theorem val_lt_tsize {zs : List Int} (h : Limbs zs) : val zs < pw (tsize zs) := by
  have h1 := (val_bd _ (h.take (tsize zs))).2
  have h2 := val_trim zs
  have h3 := trim_length zs
  rw [trim] at h2 h3
  rw [h2, h3] at h1
  exact h1

theorem val_ge_top {zs : List Int} (h : Limbs zs) (h0 : 0 < tsize zs) : pw (tsize zs - 1) ≤ val zs := by
  have h1 := tsize_top zs h0
  have h2 := h.at (tsize zs - 1)
  have h3 := tsize_le zs
  have h4 := val_take_succ zs (tsize zs - 1) (by omega)
  have h5 := val_trim zs
  have h6 := (val_bd _ (h.take (tsize zs - 1))).1
  rw [Nat.sub_add_cancel h0] at h4
  rw [trim, h4] at h5
  have h7 := pw_pos (tsize zs - 1)
  have h8 : pw (tsize zs - 1) * 1 ≤ pw (tsize zs - 1) * zs.getD (tsize zs - 1) 0 := Int.mul_le_mul_of_nonneg_left (by omega) (by omega)
  omega

theorem tsize_le_iff {zs : List Int} (h : Limbs zs) (n : Nat) : tsize zs ≤ n ↔ val zs < pw n := by
  constructor
  · intro hn
    have h1 := val_lt_tsize h
    have h2 := pw_mono hn
    omega
  · intro hv
    rcases Nat.lt_or_ge n (tsize zs) with hn | hn
    · have h1 := val_ge_top h (by omega)
      have h2 := pw_mono (show n ≤ tsize zs - 1 by omega)
      omega
    · exact hn

/-- Of a number below 2^(64 k) the limbs from k on are 0. -/
theorem zero_of_lt {zs : List Int} (h : Limbs zs) {k : Nat} (hv : val zs < pw k) (j : Nat) (hj : k ≤ j) : zs.getD j 0 = 0 :=
  tsize_zero zs j (Nat.le_trans ((tsize_le_iff h k).2 hv) hj)

theorem tsize_congr {a b : List Int} (ha : Limbs a) (hb : Limbs b) (h : val a = val b) : tsize a = tsize b := by
  have h1 := (tsize_le_iff ha (tsize b)).2 (by rw [h]; exact val_lt_tsize hb)
  have h2 := (tsize_le_iff hb (tsize a)).2 (by rw [← h]; exact val_lt_tsize ha)
  omega

theorem val_inj : ∀ {a b : List Int}, Limbs a → Limbs b → a.length = b.length → val a = val b → a = b
  | [], [], _, _, _, _ => rfl
  | [], _ :: _, _, _, h, _ => by simp at h
  | _ :: _, [], _, _, h, _ => by simp at h
  | x :: a, y :: b, ha, hb, hl, hv => by
    have h1 := ha.cons.1
    have h2 := hb.cons.1
    simp only [val] at hv
    have e1 : x = y := by omega
    have e2 : val a = val b := by omega
    rw [e1, val_inj ha.cons.2 hb.cons.2 (by simpa using hl) e2]

/-- Two trimmed lists of one number are the same list. -/
theorem canon {a b : List Int} (ha : Limbs a) (hb : Limbs b) (ta : tsize a = a.length) (tb : tsize b = b.length) (h : val a = val b) : a = b :=
  val_inj ha hb (by rw [← ta, ← tb, tsize_congr ha hb h]) h

theorem tsize_zero_iff {zs : List Int} (h : Limbs zs) : tsize zs = 0 ↔ val zs = 0 := by
  have h1 := tsize_le_iff h 0
  have h2 := (val_bd zs h).1
  simp only [pw] at h1
  omega

/-! Which of two lists of one length is the greater: the highest limb at which they part. -/
theorem val_drop (zs : List Int) (k : Nat) (h : k ≤ zs.length) : val zs = val (zs.take k) + pw k * val (zs.drop k) := by
  have := val_append (zs.take k) (zs.drop k)
  rw [List.take_append_drop, List.length_take, Nat.min_eq_left h] at this
  exact this

theorem val_lt_at {a b : List Int} (ha : Limbs a) (hb : Limbs b) (i : Nat) (hi : i < a.length) (hl : a.length = b.length) (h : a.getD i 0 < b.getD i 0) (he : a.drop (i + 1) = b.drop (i + 1)) : val a < val b := by
  have h1 := val_drop a (i + 1) (by omega)
  have h2 := val_drop b (i + 1) (by omega)
  rw [val_take_succ a i hi] at h1
  rw [val_take_succ b i (by omega), ← he] at h2
  have h3 := val_bd _ (ha.take i)
  have h4 := val_bd _ (hb.take i)
  rw [List.length_take, Nat.min_eq_left (by omega)] at h3 h4
  have h5 : pw i * (a.getD i 0 + 1) ≤ pw i * b.getD i 0 := Int.mul_le_mul_of_nonneg_left (by omega) (by have := pw_pos i; omega)
  rw [Int.mul_add, Int.mul_one] at h5
  omega

theorem drop_eq_of_getD {a b : List Int} (hl : a.length = b.length) (k : Nat) (h : ∀ j, k ≤ j → a.getD j 0 = b.getD j 0) : a.drop k = b.drop k := by
  apply List.ext_getElem (by simp [hl])
  intro i h1 h2
  simp only [List.length_drop] at h1 h2
  have := h (k + i) (by omega)
  simp only [List.getD, List.getElem?_eq_getElem (show k + i < a.length by omega), List.getElem?_eq_getElem (show k + i < b.length by omega), Option.getD_some] at this
  simpa using this

/-! The steps of the loops. -/
theorem getD_set (zs : List Int) (i j : Nat) (s : Int) (hi : i < zs.length) : (zs.set i s).getD j 0 = if j = i then s else zs.getD j 0 := by
  simp only [List.getD, List.getElem?_set]
  by_cases h : i = j
  · subst h; simp [hi]
  · rw [if_neg h, if_neg (fun e => h e.symm)]

/-- One limb of a sum: 's + 2^64 c' = out[k] + x + c'. -/
theorem add_step {os : List Int} {k : Nat} {s x c c' T : Int} (hk : k < os.length) (hs : s + 18446744073709551616 * c' = os.getD k 0 + x + c) (h : val os + pw k * c = T) :
    val (os.set k s) + pw (k + 1) * c' = T + pw k * x := by
  rw [val_set os k s hk, pw_succ]
  have e : pw k * (s - os.getD k 0) + 18446744073709551616 * pw k * c' = pw k * x + pw k * c := by
    have : pw k * (s + 18446744073709551616 * c') = pw k * (os.getD k 0 + x + c) := by rw [hs]
    simp only [Int.mul_add, Int.mul_sub] at this ⊢
    rw [← Int.mul_assoc, Int.mul_comm (pw k) 18446744073709551616] at this
    omega
  omega

end Nm
end Go.Proofs.Ytdolimhddmddnaa
