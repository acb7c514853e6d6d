/-
  Texts put together: Nums, Mem, Walk1, Walk5a, NMem, V0, VNum, VStr, NStr, VNum2, VOrd, INum, INum2, IBit, IWalk1C, IWalk1B, XMem, FRow3, LEqD, BitsA, Bits, Walk2a, Bare, ShA, Len, BitLenW, SmallA, BlenIs, NToU, NSpread0, QLimbs, FromW, TrimW, QRows, NGroup, VTrimL, VClone, VDig, IWalk1A, IOrdD, IUp, IDown, IWalk1, TrailW, VCompare, VCmpI, VItoa, LPuL, VDl, LNmN, FTrimR, KNum, KNum2, IAnsS, NSTrim, NearEx.
-/
import Derived.Test.YtjkefcikepnbpaaGreatDoorRows
import Derived.WalkKit
import Derived.WalkSpells
import Derived.Deep.OwnRows
import Derived.Laws.CopyRow
import Derived.Laws.IdiomCopy
import Derived.Laws.AppendOwn
import Derived.Laws.MakeOwn
import Derived.OpenShut
import Derived.Deep.QuietTactic
import Derived.BigQuiet
import Derived.Laws.Rows
import Derived.Laws.Concat
import Derived.WalkMore
import Derived.ScopeJumps
import Derived.Deep.RegionWith
import Derived.Laws.ResultCell
import Derived.Laws.BytesArg
import Derived.Laws.IdiomStrings
import Derived.Laws.Strings3
import Derived.Laws.DeepStrings4
import Derived.Laws.BitsAllLaws
import Derived.Laws.Externs
import Derived.Shelf.Bits.Mul64
import Derived.Shelf.Strconv.Itoa0
import Derived.Laws.Bits64b
import Derived.Lib.ItoaNum
import Derived.BigRegion
import Derived.Laws.OwnMore
import Derived.Shelf.Pu.Clone
import Derived.Shelf.Spec.TrailingZeros
import Derived.Shelf.Small.Strs
import Derived.Shelf.Strconv.Itoa3
import Derived.Shelf.Pu.ParseUintPublic10
namespace Go.Proofs.YtjkefcikepnbpaaGreatDoor
namespace Nm

/-- The number that a list of limbs stands for. -/
def val : List Int → Int
  | [] => 0
  | z :: zs => z + 18446744073709551616 * val zs

/-- 2^(64 k). -/
def pw : Nat → Int
  | 0 => 1
  | k + 1 => 18446744073709551616 * pw k

/-- Each limb is one of 64 bits. -/
def Limbs (zs : List Int) : Prop := ∀ z ∈ zs, 0 ≤ z ∧ z < 18446744073709551616

/-- The length without the zeros at the high end. -/
def tsize : List Int → Nat
  | [] => 0
  | z :: zs => if tsize zs = 0 ∧ z = 0 then 0 else tsize zs + 1

theorem pw_pos : ∀ k, 0 < pw k
  | 0 => by simp [pw]
  | k + 1 => by have := pw_pos k; simp only [pw]; omega

theorem pw_succ (k : Nat) : pw (k + 1) = 18446744073709551616 * pw k := rfl

theorem pw_add (a : Nat) : ∀ b, pw (a + b) = pw a * pw b
  | 0 => by simp [pw]
  | b + 1 => by
    have := pw_add a b
    rw [← Nat.add_assoc, pw_succ, pw_succ, this, Int.mul_left_comm]

theorem pw_mono {a b : Nat} (h : a ≤ b) : pw a ≤ pw b := by
  obtain ⟨c, rfl⟩ := Nat.exists_eq_add_of_le h
  rw [pw_add]
  have h1 := pw_pos a
  have h2 := pw_pos c
  have : pw a * 1 ≤ pw a * pw c := Int.mul_le_mul_of_nonneg_left (by omega) (by omega)
  omega

theorem Limbs.nil : Limbs [] := by intro z h; simp at h

theorem Limbs.cons {z : Int} {zs : List Int} (h : Limbs (z :: zs)) : (0 ≤ z ∧ z < 18446744073709551616) ∧ Limbs zs :=
  ⟨h z (by simp), fun y hy => h y (by simp [hy])⟩

theorem Limbs.mk {z : Int} {zs : List Int} (h0 : 0 ≤ z) (h1 : z < 18446744073709551616) (h : Limbs zs) : Limbs (z :: zs) := by
  intro y hy
  rcases List.mem_cons.1 hy with rfl | hy
  · exact ⟨h0, h1⟩
  · exact h y hy

theorem Limbs.take {zs : List Int} (h : Limbs zs) (k : Nat) : Limbs (zs.take k) := fun z hz => h z (List.mem_of_mem_take hz)

theorem Limbs.drop {zs : List Int} (h : Limbs zs) (k : Nat) : Limbs (zs.drop k) := fun z hz => h z (List.mem_of_mem_drop hz)

theorem Limbs.append {a b : List Int} (h : Limbs a) (k : Limbs b) : Limbs (a ++ b) := by
  intro z hz
  rcases List.mem_append.1 hz with hz | hz
  · exact h z hz
  · exact k z hz

theorem Limbs.set {zs : List Int} (h : Limbs zs) (i : Nat) {s : Int} (h0 : 0 ≤ s) (h1 : s < 18446744073709551616) : Limbs (zs.set i s) := by
  intro z hz
  rcases List.mem_or_eq_of_mem_set hz with hz | rfl
  · exact h z hz
  · exact ⟨h0, h1⟩

theorem Limbs.replicate (n : Nat) : Limbs (List.replicate n 0) := by
  intro z hz
  have := List.eq_of_mem_replicate hz
  subst this
  decide

theorem Limbs.at {zs : List Int} (h : Limbs zs) (i : Nat) : 0 ≤ zs.getD i 0 ∧ zs.getD i 0 < 18446744073709551616 := by
  by_cases hi : i < zs.length
  · have e : zs.getD i 0 = zs[i] := by simp [List.getD, hi]
    rw [e]
    exact h _ (List.getElem_mem hi)
  · have e : zs.getD i 0 = 0 := by simp [List.getD, List.getElem?_eq_none (Nat.le_of_not_lt hi)]
    rw [e]
    decide

theorem val_append : ∀ (a b : List Int), val (a ++ b) = val a + pw a.length * val b
  | [], b => by simp [val, pw]
  | z :: a, b => by
    have := val_append a b
    simp only [List.cons_append, val, List.length_cons, pw, this, Int.mul_add, Int.mul_assoc]
    omega

theorem val_replicate : ∀ n, val (List.replicate n 0) = 0
  | 0 => by simp [val]
  | n + 1 => by simp [List.replicate_succ, val, val_replicate n]

theorem val_take_succ : ∀ (zs : List Int) (k : Nat), k < zs.length → val (zs.take (k + 1)) = val (zs.take k) + pw k * zs.getD k 0
  | [], k, h => by simp at h
  | z :: zs, 0, _ => by simp [val, pw]
  | z :: zs, k + 1, h => by
    have := val_take_succ zs k (by simpa using h)
    simp only [List.take_succ_cons, val, this, pw, List.getD_cons_succ, Int.mul_add, Int.mul_assoc]
    omega

theorem val_set : ∀ (zs : List Int) (i : Nat) (s : Int), i < zs.length → val (zs.set i s) = val zs + pw i * (s - zs.getD i 0)
  | [], i, s, h => by simp at h
  | z :: zs, 0, s, _ => by simp [val, pw]; omega
  | z :: zs, i + 1, s, h => by
    have := val_set zs i s (by simpa using h)
    simp only [List.set_cons_succ, val, this, pw, List.getD_cons_succ, Int.mul_add, Int.mul_assoc]
    omega

theorem val_bd : ∀ (zs : List Int), Limbs zs → 0 ≤ val zs ∧ val zs < pw zs.length
  | [], _ => by simp [val, pw]
  | z :: zs, h => by
    have h1 := val_bd zs h.cons.2
    have h2 := h.cons.1
    simp only [val, List.length_cons, pw]
    omega

theorem val_take_of_zero : ∀ (zs : List Int) (k : Nat), (∀ j, k ≤ j → zs.getD j 0 = 0) → val (zs.take k) = val zs
  | [], k, _ => by simp
  | z :: zs, 0, h => by
    have h0 := h 0 (Nat.le_refl _)
    have h1 := val_take_of_zero zs 0 (fun j _ => by simpa using h (j + 1) (by omega))
    simp at h0 h1
    simp [val, h0, ← h1]
  | z :: zs, k + 1, h => by
    have := val_take_of_zero zs k (fun j hj => by simpa using h (j + 1) (by omega))
    simp [val, this]

theorem tsize_le : ∀ (zs : List Int), tsize zs ≤ zs.length
  | [] => by simp [tsize]
  | z :: zs => by
    have := tsize_le zs
    simp only [tsize, List.length_cons]
    split <;> omega

theorem tsize_zero : ∀ (zs : List Int) (j : Nat), tsize zs ≤ j → zs.getD j 0 = 0
  | [], j, _ => by simp
  | z :: zs, j, h => by
    simp only [tsize] at h
    split at h
    · rename_i hz
      cases j with
      | zero => simpa using hz.2
      | succ j => simpa using tsize_zero zs j (by omega)
    · cases j with
      | zero => omega
      | succ j => simpa using tsize_zero zs j (by omega)

theorem tsize_top : ∀ (zs : List Int), 0 < tsize zs → zs.getD (tsize zs - 1) 0 ≠ 0
  | [], h => by simp [tsize] at h
  | z :: zs, h => by
    simp only [tsize] at h ⊢
    split at h
    · omega
    · rename_i hz
      rw [if_neg hz]
      by_cases h0 : tsize zs = 0
      · simp [h0] at hz ⊢
        exact hz
      · have := tsize_top zs (by omega)
        obtain ⟨t, ht⟩ : ∃ t, tsize zs = t + 1 := ⟨tsize zs - 1, by omega⟩
        rw [ht] at this ⊢
        simpa using this

theorem tsize_unique (zs : List Int) (k : Nat) (h1 : ∀ j, k ≤ j → zs.getD j 0 = 0) (h2 : k = 0 ∨ zs.getD (k - 1) 0 ≠ 0) : tsize zs = k := by
  rcases Nat.lt_trichotomy (tsize zs) k with h | h | h
  · rcases h2 with rfl | h2
    · omega
    · exact absurd (tsize_zero zs (k - 1) (by omega)) h2
  · exact h
  · exact absurd (h1 (tsize zs - 1) (by omega)) (tsize_top zs (by omega))

/-- The trimmed list. -/
def trim (zs : List Int) : List Int := zs.take (tsize zs)

theorem Limbs.trim {zs : List Int} (h : Limbs zs) : Limbs (trim zs) := h.take _

theorem trim_length (zs : List Int) : (trim zs).length = tsize zs := by
  have := tsize_le zs
  simp [trim]; omega

theorem getD_take (zs : List Int) (k j : Nat) : (zs.take k).getD j 0 = if j < k then zs.getD j 0 else 0 := by
  simp only [List.getD, List.getElem?_take]
  split <;> simp

theorem trim_trim (zs : List Int) : tsize (trim zs) = tsize zs := by
  refine tsize_unique _ _ (fun j hj => ?_) ?_
  · rw [trim, getD_take, if_neg (by omega)]
  · by_cases h : tsize zs = 0
    · exact .inl h
    · right
      rw [trim, getD_take, if_pos (by omega)]
      exact tsize_top zs (by omega)

theorem val_trim (zs : List Int) : val (trim zs) = val zs := val_take_of_zero zs _ (tsize_zero zs)

theorem val_lt_tsize {zs : List Int} (h : Limbs zs) : val zs < pw (tsize zs) := by
  have h1 := (val_bd _ (h.take (tsize zs))).2
  have h2 := val_trim zs
  have h3 := trim_length zs
  rw [trim] at h2 h3
  rw [h2, h3] at h1
  exact h1

theorem val_ge_top {zs : List Int} (h : Limbs zs) (h0 : 0 < tsize zs) : pw (tsize zs - 1) ≤ val zs := by
  have h1 := tsize_top zs h0
  have h2 := h.at (tsize zs - 1)
  have h3 := tsize_le zs
  have h4 := val_take_succ zs (tsize zs - 1) (by omega)
  have h5 := val_trim zs
  have h6 := (val_bd _ (h.take (tsize zs - 1))).1
  rw [Nat.sub_add_cancel h0] at h4
  rw [trim, h4] at h5
  have h7 := pw_pos (tsize zs - 1)
  have h8 : pw (tsize zs - 1) * 1 ≤ pw (tsize zs - 1) * zs.getD (tsize zs - 1) 0 := Int.mul_le_mul_of_nonneg_left (by omega) (by omega)
  omega

theorem tsize_le_iff {zs : List Int} (h : Limbs zs) (n : Nat) : tsize zs ≤ n ↔ val zs < pw n := by
  constructor
  · intro hn
    have h1 := val_lt_tsize h
    have h2 := pw_mono hn
    omega
  · intro hv
    rcases Nat.lt_or_ge n (tsize zs) with hn | hn
    · have h1 := val_ge_top h (by omega)
      have h2 := pw_mono (show n ≤ tsize zs - 1 by omega)
      omega
    · exact hn

/-- Of a number below 2^(64 k) the limbs from k on are 0. -/
theorem zero_of_lt {zs : List Int} (h : Limbs zs) {k : Nat} (hv : val zs < pw k) (j : Nat) (hj : k ≤ j) : zs.getD j 0 = 0 :=
  tsize_zero zs j (Nat.le_trans ((tsize_le_iff h k).2 hv) hj)

theorem tsize_congr {a b : List Int} (ha : Limbs a) (hb : Limbs b) (h : val a = val b) : tsize a = tsize b := by
  have h1 := (tsize_le_iff ha (tsize b)).2 (by rw [h]; exact val_lt_tsize hb)
  have h2 := (tsize_le_iff hb (tsize a)).2 (by rw [← h]; exact val_lt_tsize ha)
  omega

theorem tsize_zero_iff {zs : List Int} (h : Limbs zs) : tsize zs = 0 ↔ val zs = 0 := by
  have h1 := tsize_le_iff h 0
  have h2 := (val_bd zs h).1
  simp only [pw] at h1
  omega

/-! Which of two lists of one length is the greater: the highest limb at which they part. -/
theorem val_drop (zs : List Int) (k : Nat) (h : k ≤ zs.length) : val zs = val (zs.take k) + pw k * val (zs.drop k) := by
  have := val_append (zs.take k) (zs.drop k)
  rw [List.take_append_drop, List.length_take, Nat.min_eq_left h] at this
  exact this

theorem val_lt_at {a b : List Int} (ha : Limbs a) (hb : Limbs b) (i : Nat) (hi : i < a.length) (hl : a.length = b.length) (h : a.getD i 0 < b.getD i 0) (he : a.drop (i + 1) = b.drop (i + 1)) : val a < val b := by
  have h1 := val_drop a (i + 1) (by omega)
  have h2 := val_drop b (i + 1) (by omega)
  rw [val_take_succ a i hi] at h1
  rw [val_take_succ b i (by omega), ← he] at h2
  have h3 := val_bd _ (ha.take i)
  have h4 := val_bd _ (hb.take i)
  rw [List.length_take, Nat.min_eq_left (by omega)] at h3 h4
  have h5 : pw i * (a.getD i 0 + 1) ≤ pw i * b.getD i 0 := Int.mul_le_mul_of_nonneg_left (by omega) (by have := pw_pos i; omega)
  rw [Int.mul_add, Int.mul_one] at h5
  omega

theorem drop_eq_of_getD {a b : List Int} (hl : a.length = b.length) (k : Nat) (h : ∀ j, k ≤ j → a.getD j 0 = b.getD j 0) : a.drop k = b.drop k := by
  apply List.ext_getElem (by simp [hl])
  intro i h1 h2
  simp only [List.length_drop] at h1 h2
  have := h (k + i) (by omega)
  simp only [List.getD, List.getElem?_eq_getElem (show k + i < a.length by omega), List.getElem?_eq_getElem (show k + i < b.length by omega), Option.getD_some] at this
  simpa using this

/-! The steps of the loops. -/
theorem getD_set (zs : List Int) (i j : Nat) (s : Int) (hi : i < zs.length) : (zs.set i s).getD j 0 = if j = i then s else zs.getD j 0 := by
  simp only [List.getD, List.getElem?_set]
  by_cases h : i = j
  · subst h; simp [hi]
  · rw [if_neg h, if_neg (fun e => h e.symm)]

/-- One limb of a sum: 's + 2^64 c' = out[k] + x + c'. -/
theorem add_step {os : List Int} {k : Nat} {s x c c' T : Int} (hk : k < os.length) (hs : s + 18446744073709551616 * c' = os.getD k 0 + x + c) (h : val os + pw k * c = T) :
    val (os.set k s) + pw (k + 1) * c' = T + pw k * x := by
  rw [val_set os k s hk, pw_succ]
  have e : pw k * (s - os.getD k 0) + 18446744073709551616 * pw k * c' = pw k * x + pw k * c := by
    have : pw k * (s + 18446744073709551616 * c') = pw k * (os.getD k 0 + x + c) := by rw [hs]
    simp only [Int.mul_add, Int.mul_sub] at this ⊢
    rw [← Int.mul_assoc, Int.mul_comm (pw k) 18446744073709551616] at this
    omega
  omega

end Nm
end Go.Proofs.YtjkefcikepnbpaaGreatDoor

namespace Go.Proofs.YtjkefcikepnbpaaGreatDoor
namespace Nm

theorem two_pos (n : Nat) : (0 : Int) < 2 ^ n := by
  have : 0 < 2 ^ n := Nat.pow_pos (by omega)
  have e : ((2 ^ n : Nat) : Int) = (2 : Int) ^ n := by simp
  omega

theorem two_add (a b : Nat) : (2 : Int) ^ (a + b) = 2 ^ a * 2 ^ b := Int.pow_add 2 a b

theorem two_succ (a : Nat) : (2 : Int) ^ (a + 1) = 2 * 2 ^ a := by rw [two_add, Int.mul_comm]; rfl

theorem two_64 : (2 : Int) ^ 64 = 18446744073709551616 := by decide

theorem pw_two : ∀ k, pw k = 2 ^ (64 * k)
  | 0 => by simp [pw]
  | k + 1 => by rw [pw, pw_two k, Nat.mul_add, Nat.mul_one, two_add, two_64, Int.mul_comm]

theorem two_mono {a b : Nat} (h : a ≤ b) : (2 : Int) ^ a ≤ 2 ^ b := by
  obtain ⟨c, rfl⟩ := Nat.exists_eq_add_of_le h
  rw [two_add]
  have h1 := two_pos a
  have h2 := two_pos c
  have : (2 : Int) ^ a * 1 ≤ 2 ^ a * 2 ^ c := Int.mul_le_mul_of_nonneg_left (by omega) (by omega)
  omega

/-- v has L binary digits. -/
def BLen (v : Int) (L : Nat) : Prop := v < 2 ^ L ∧ (v = 0 → L = 0) ∧ (0 < v → 1 ≤ L ∧ 2 ^ (L - 1) ≤ v)

theorem BLen.unique {v : Int} {a b : Nat} (hv : 0 ≤ v) (ha : BLen v a) (hb : BLen v b) : a = b := by
  rcases Nat.lt_trichotomy a b with h | h | h
  · exfalso
    by_cases h0 : v = 0
    · have := hb.2.1 h0; omega
    · have h1 := hb.2.2 (by omega)
      have h2 := ha.1
      have h3 := two_mono (show a ≤ b - 1 by omega)
      omega
  · exact h
  · exfalso
    by_cases h0 : v = 0
    · have := ha.2.1 h0; omega
    · have h1 := ha.2.2 (by omega)
      have h2 := hb.1
      have h3 := two_mono (show b ≤ a - 1 by omega)
      omega

/-- The lowest binary digit 1 of v stands at t. -/
def Trl (v : Int) (t : Nat) : Prop := (v = 0 ∧ t = 0) ∨ ∃ m, v = 2 ^ t * (2 * m + 1)

theorem odd_unique {a : Nat} {m n : Int} (h : 2 * m + 1 = 2 ^ (a + 1) * n) : False := by
  rw [two_succ, Int.mul_assoc] at h
  omega

theorem Trl.unique {v : Int} {a b : Nat} (ha : Trl v a) (hb : Trl v b) : a = b := by
  rcases ha with ⟨h0, h1⟩ | ⟨m, hm⟩
  · rcases hb with ⟨_, h2⟩ | ⟨k, hk⟩
    · omega
    · exfalso
      have := two_pos b
      rw [h0] at hk
      rcases Int.mul_eq_zero.1 hk.symm with h | h <;> omega
  · rcases hb with ⟨h0, h2⟩ | ⟨k, hk⟩
    · exfalso
      have := two_pos a
      rw [h0] at hm
      rcases Int.mul_eq_zero.1 hm.symm with h | h <;> omega
    · rcases Nat.lt_trichotomy a b with h | h | h
      · exfalso
        obtain ⟨c, rfl⟩ := Nat.exists_eq_add_of_lt h
        rw [hm, Nat.add_assoc, two_add, Int.mul_assoc] at hk
        exact odd_unique (Int.eq_of_mul_eq_mul_left (by have := two_pos a; omega) hk)
      · exact h
      · exfalso
        obtain ⟨c, rfl⟩ := Nat.exists_eq_add_of_lt h
        rw [hk, Nat.add_assoc, two_add, Int.mul_assoc] at hm
        exact odd_unique (Int.eq_of_mul_eq_mul_left (by have := two_pos b; omega) hm)

/-- The lowest limb that isn't 0 tells. -/
theorem trl_at (zs : List Int) (i t : Nat) (m : Int) (hi : i < zs.length) (h0 : ∀ j, j < i → zs.getD j 0 = 0) (hz : zs.getD i 0 = 2 ^ t * (2 * m + 1)) (ht : t ≤ 63) : Trl (val zs) (64 * i + t) := by
  right
  have hd := val_drop zs i (by omega)
  have e1 : val (zs.take i) = 0 := by
    have : ∀ k, k ≤ i → val (zs.take k) = 0 := by
      intro k
      induction k with
      | zero => intro _; simp [val]
      | succ k ih =>
        intro hk
        rw [val_take_succ zs k (by omega), ih (by omega), h0 k (by omega)]
        simp
    exact this i (Nat.le_refl _)
  have e2 : val (zs.drop i) = zs.getD i 0 + 18446744073709551616 * val (zs.drop (i + 1)) := by
    rw [List.drop_eq_getElem_cons hi, val]
    simp [List.getD, hi]
  refine ⟨m + 2 ^ (63 - t) * val (zs.drop (i + 1)), ?_⟩
  have e3 : (18446744073709551616 : Int) = 2 ^ t * (2 * 2 ^ (63 - t)) := by
    rw [← two_succ, ← two_add, show t + (63 - t + 1) = 64 by omega, two_64]
  rw [hd, e1, Int.zero_add, pw_two, e2, hz, e3, two_add]
  rw [Int.mul_assoc (2 ^ (64 * i))]
  congr 1
  rw [Int.mul_assoc, ← Int.mul_add]
  congr 1
  rw [Int.mul_add, Int.mul_assoc]
  omega

/-- How many binary digits there are: by the highest limb. -/
theorem blen_at (zs : List Int) (t l : Nat) (hz : Limbs zs) (ht : tsize zs = t + 1) (h1 : 1 ≤ l) (h2 : 2 ^ (l - 1) ≤ zs.getD t 0) (h3 : zs.getD t 0 < 2 ^ l) : BLen (val zs) (64 * t + l) := by
  have hle := tsize_le zs
  have hv := val_trim zs
  rw [trim, ht, val_take_succ zs t (by omega)] at hv
  have hb := val_bd _ (hz.take t)
  rw [List.length_take, Nat.min_eq_left (by omega)] at hb
  have hp := pw_pos t
  have a1 : pw t * 2 ^ (l - 1) ≤ pw t * zs.getD t 0 := Int.mul_le_mul_of_nonneg_left h2 (by omega)
  have a2 : pw t * (zs.getD t 0 + 1) ≤ pw t * 2 ^ l := Int.mul_le_mul_of_nonneg_left (by omega) (by omega)
  rw [Int.mul_add, Int.mul_one] at a2
  have p1 := two_pos (l - 1)
  have a3 : 0 < pw t * 2 ^ (l - 1) := Int.mul_pos hp p1
  refine ⟨?_, fun h => by omega, fun _ => ⟨by omega, ?_⟩⟩
  · rw [two_add, ← pw_two]; omega
  · rw [show 64 * t + l - 1 = 64 * t + (l - 1) by omega, two_add, ← pw_two]; omega

/-- One binary digit: by the limb that holds it. -/
theorem bit_at (zs : List Int) (i k r : Nat) (hi : i = 64 * k + r) (hr : r < 64) (hz : Limbs zs) (hk : k < zs.length) : val zs / 2 ^ i % 2 = zs.getD k 0 / 2 ^ r % 2 := by
  have hd := val_drop zs k (by omega)
  have hb := val_bd _ (hz.take k)
  rw [List.length_take, Nat.min_eq_left (by omega)] at hb
  have e2 : val (zs.drop k) = zs.getD k 0 + 18446744073709551616 * val (zs.drop (k + 1)) := by
    rw [List.drop_eq_getElem_cons hk, val]
    simp [List.getD, hk]
  have hp := pw_pos k
  have e1 : val zs / pw k = val (zs.drop k) := by
    rw [hd, Int.add_mul_ediv_left _ _ (by omega), Int.ediv_eq_zero_of_lt hb.1 hb.2, Int.zero_add]
  rw [hi, two_add, ← pw_two, ← Int.ediv_ediv_of_nonneg (by omega), e1, e2]
  have e3 : (18446744073709551616 : Int) = 2 ^ r * (2 * 2 ^ (63 - r)) := by
    rw [← two_succ, ← two_add, show r + (63 - r + 1) = 64 by omega, two_64]
  rw [e3, Int.mul_assoc, Int.add_mul_ediv_left _ _ (by have := two_pos r; omega), Int.mul_assoc]
  omega
end Nm
end Go.Proofs.YtjkefcikepnbpaaGreatDoor

namespace Go.Proofs.YtjkefcikepnbpaaGreatDoor
namespace Pn

theorem pow_pos' {A : Int} (h : 1 ≤ A) (n : Nat) : 1 ≤ A ^ n := by
  have : (0 : Int) < A ^ n := Int.pow_pos (by omega)
  omega

theorem pow_mono {A : Int} (h : 1 ≤ A) {a b : Nat} (hab : a ≤ b) : A ^ a ≤ A ^ b := by
  obtain ⟨c, rfl⟩ := Nat.exists_eq_add_of_le hab
  rw [Int.pow_add]
  have h1 := pow_pos' h a
  have h2 := pow_pos' h c
  have : A ^ a * 1 ≤ A ^ a * A ^ c := Int.mul_le_mul_of_nonneg_left h2 (by omega)
  omega

theorem pow_base {a A : Int} (h0 : 0 ≤ a) (h : a ≤ A) : ∀ n : Nat, a ^ n ≤ A ^ n
  | 0 => by simp
  | n + 1 => by
    rw [Int.pow_succ, Int.pow_succ]
    exact Int.mul_le_mul (pow_base h0 h n) h h0 (Int.pow_nonneg (by omega))

/-- What is found out early is too big. -/
theorem early {A : Int} {L n k : Nat} (hL : (2 : Int) ^ L ≤ A) (h : 64 * k ≤ L * n) : Nm.pw k ≤ A ^ n := by
  have h1 := pow_base (a := 2 ^ L) (A := A) (by have := Nm.two_pos L; omega) hL n
  rw [← Int.pow_mul] at h1
  have h2 := Nm.two_mono h
  rw [Nm.pw_two]
  omega

/-- One binary digit of the exponent. -/
theorem half (n t : Nat) : n / 2 ^ t = 2 * (n / 2 ^ (t + 1)) + n / 2 ^ t % 2 := by
  have : n / 2 ^ (t + 1) = n / 2 ^ t / 2 := by rw [Nat.pow_succ, Nat.div_div_eq_div_mul]
  omega

theorem square (A : Int) (n t : Nat) (h : n / 2 ^ t % 2 = 0) : A ^ (n / 2 ^ (t + 1)) * A ^ (n / 2 ^ (t + 1)) = A ^ (n / 2 ^ t) := by
  rw [← Int.pow_add]
  have := half n t
  congr 1
  omega

theorem square_odd (A : Int) (n t : Nat) (h : n / 2 ^ t % 2 = 1) : A ^ (n / 2 ^ (t + 1)) * A ^ (n / 2 ^ (t + 1)) * A = A ^ (n / 2 ^ t) := by
  rw [← Int.pow_add, ← Int.pow_succ]
  have := half n t
  congr 1
  omega

theorem square_le {A : Int} (hA : 1 ≤ A) (n t : Nat) : A ^ (n / 2 ^ (t + 1)) * A ^ (n / 2 ^ (t + 1)) ≤ A ^ n := by
  rw [← Int.pow_add]
  refine pow_mono hA ?_
  have := half n t
  have h2 : n / 2 ^ t ≤ n := Nat.div_le_self _ _
  omega

theorem part_le {A : Int} (hA : 1 ≤ A) (n t : Nat) : A ^ (n / 2 ^ t) ≤ A ^ n := pow_mono hA (Nat.div_le_self _ _)
end Pn
end Go.Proofs.YtjkefcikepnbpaaGreatDoor

namespace Go.Proofs.YtjkefcikepnbpaaGreatDoor
namespace Dn

/-- The digits of V in base B, L of them, the highest first. -/
def dg (B : Int) : Nat → Int → List Int
  | 0, _ => []
  | L + 1, V => dg B L (V / B) ++ [V % B]

theorem dg_length (B : Int) : ∀ L V, (dg B L V).length = L
  | 0, _ => rfl
  | L + 1, V => by simp [dg, dg_length B L]

theorem dm {a b q r : Int} (hb : 0 < b) (h : r + b * q = a) (h0 : 0 ≤ r) (h1 : r < b) : a / b = q ∧ a % b = r :=
  (Int.ediv_emod_unique hb).2 ⟨h, h0, h1⟩

theorem split_mod {B : Int} (hB : 0 < B) (n : Nat) (V : Int) : V / B / B ^ n = V / B ^ (n + 1) ∧ V % B ^ (n + 1) / B = V / B % B ^ n ∧ V % B ^ (n + 1) % B = V % B := by
  have hP : 0 < B ^ n := Int.pow_pos hB
  have hQ : 0 < B ^ (n + 1) := Int.pow_pos hB
  have h1 := Int.emod_add_mul_ediv V B
  have h2 := Int.emod_add_mul_ediv (V / B) (B ^ n)
  have a1 := Int.emod_nonneg V (show B ≠ 0 by omega)
  have a2 := Int.emod_lt_of_pos V hB
  have b1 := Int.emod_nonneg (V / B) (show B ^ n ≠ 0 by omega)
  have b2 := Int.emod_lt_of_pos (V / B) hP
  have e : B ^ (n + 1) = B * B ^ n := by rw [Int.pow_succ, Int.mul_comm]
  have key : V / B ^ (n + 1) = V / B / B ^ n ∧ V % B ^ (n + 1) = V % B + B * (V / B % B ^ n) := by
    apply dm hQ
    · rw [e]
      calc V % B + B * (V / B % B ^ n) + B * B ^ n * (V / B / B ^ n) = V % B + B * (V / B % B ^ n + B ^ n * (V / B / B ^ n)) := by
            rw [Int.mul_add, Int.mul_assoc, Int.add_assoc]
        _ = V := by rw [h2, h1]
    · have := Int.mul_nonneg (show 0 ≤ B by omega) b1
      omega
    · rw [e]
      have h3 : B * (V / B % B ^ n + 1) ≤ B * B ^ n := Int.mul_le_mul_of_nonneg_left (by omega) (by omega)
      rw [Int.mul_add, Int.mul_one] at h3
      omega
  have k2 := dm hB (a := V % B ^ (n + 1)) (q := V / B % B ^ n) (r := V % B) key.2.symm a1 a2
  exact ⟨key.1.symm, k2.1, k2.2⟩

theorem dg_split {B : Int} (hB : 0 < B) (L : Nat) : ∀ (n : Nat) (V : Int), dg B (L + n) V = dg B L (V / B ^ n) ++ dg B n (V % B ^ n)
  | 0, V => by simp [dg]
  | n + 1, V => by
    obtain ⟨e1, e2, e3⟩ := split_mod hB n V
    rw [← Nat.add_assoc, dg, dg_split hB L n (V / B), dg, e1, e2, e3, List.append_assoc]

theorem dg_one {B : Int} (V : Int) : dg B 1 V = [V % B] := by simp [dg]

/-- One digit more, at the head. -/
theorem dg_head {B : Int} (hB : 0 < B) (n : Nat) (V : Int) : dg B (n + 1) V = V / B ^ n % B :: dg B n (V % B ^ n) := by
  rw [Nat.add_comm, dg_split hB 1 n V, dg_one]
  rfl

theorem dg_mod {B : Int} (hB : 0 < B) (n : Nat) (V : Int) : dg B n (V % B ^ n) = dg B n V := by
  have := dg_split hB 0 n V
  rw [Nat.zero_add] at this
  rw [this]
  rfl

theorem dg_mem {B : Int} (hB : 0 < B) : ∀ (L : Nat) (V d : Int), d ∈ dg B L V → 0 ≤ d ∧ d < B
  | 0, _, d, h => by simp [dg] at h
  | L + 1, V, d, h => by
    rw [dg, List.mem_append] at h
    rcases h with h | h
    · exact dg_mem hB L _ d h
    · simp at h
      subst h
      exact ⟨Int.emod_nonneg _ (by omega), Int.emod_lt_of_pos _ hB⟩

/-- The number of a row of digits, the highest first. -/
def tv (B : Int) : Int → List Int → Int
  | a, [] => a
  | a, d :: ds => tv B (a * B + d) ds

theorem tv_append (B : Int) : ∀ (a : Int) (xs ys : List Int), tv B a (xs ++ ys) = tv B (tv B a xs) ys
  | a, [], ys => rfl
  | a, x :: xs, ys => by simp only [List.cons_append, tv]; exact tv_append B _ xs ys

theorem tv_acc (B : Int) : ∀ (a : Int) (ds : List Int), tv B a ds = a * B ^ ds.length + tv B 0 ds
  | a, [] => by simp [tv]
  | a, d :: ds => by
    simp only [tv, List.length_cons]
    rw [tv_acc B (a * B + d) ds, tv_acc B (0 * B + d) ds, Int.zero_mul, Int.zero_add, Int.add_mul, Int.pow_succ, Int.mul_comm (B ^ ds.length) B, Int.mul_assoc, Int.add_assoc]

theorem tv_dg {B : Int} (hB : 0 < B) : ∀ (L : Nat) (V : Int), 0 ≤ V → V < B ^ L → tv B 0 (dg B L V) = V
  | 0, V, h0, h1 => by simp at h1; simp [dg, tv]; omega
  | L + 1, V, h0, h1 => by
    have h2 : V / B < B ^ L := by
      apply Int.ediv_lt_of_lt_mul hB
      rw [← Int.pow_succ]
      exact h1
    rw [dg, tv_append, tv_dg hB L (V / B) (Int.ediv_nonneg h0 (by omega)) h2]
    simp only [tv]
    have := Int.emod_add_mul_ediv V B
    rw [Int.mul_comm]
    omega

theorem tv_nonneg {B : Int} (hB : 0 ≤ B) : ∀ (a : Int) (ds : List Int), 0 ≤ a → (∀ d ∈ ds, 0 ≤ d) → 0 ≤ tv B a ds
  | a, [], h, _ => h
  | a, d :: ds, h, hd => tv_nonneg hB _ ds (by have := Int.mul_nonneg h hB; have := hd d (by simp); omega) (fun x hx => hd x (by simp [hx]))

theorem tv_lt {B : Int} (hB : 0 < B) : ∀ (ds : List Int), (∀ d ∈ ds, 0 ≤ d ∧ d < B) → tv B 0 ds < B ^ ds.length
  | [], _ => by simp [tv]
  | d :: ds, h => by
    simp only [tv, List.length_cons, Int.zero_mul, Int.zero_add]
    rw [tv_acc]
    have h1 := tv_lt hB ds (fun x hx => h x (by simp [hx]))
    have h2 := h d (by simp)
    have h3 : (d + 1) * B ^ ds.length ≤ B * B ^ ds.length := Int.mul_le_mul_of_nonneg_right (by omega) (Int.le_of_lt (Int.pow_pos hB))
    rw [Int.add_mul, Int.one_mul] at h3
    rw [Int.pow_succ, Int.mul_comm (B ^ ds.length) B]
    omega

/-- Without the zeros at the head. -/
def strip (ds : List Int) : List Int := ds.dropWhile (fun d => decide (d = 0))

theorem tv_strip (B : Int) : ∀ ds, tv B 0 (strip ds) = tv B 0 ds
  | [] => rfl
  | d :: ds => by
    unfold strip
    rw [List.dropWhile_cons]
    by_cases h : d = 0
    · subst h
      simp only [decide_true, if_true, tv, Int.zero_mul, Int.zero_add]
      exact tv_strip B ds
    · simp [h]

theorem strip_mem {ds : List Int} {d : Int} (h : d ∈ strip ds) : d ∈ ds := (List.dropWhile_sublist _).subset h

/-- The row of a number's digits comes back. -/
theorem dg_tv {B : Int} (hB : 0 < B) : ∀ (n : Nat) (ds : List Int), ds.length = n → (∀ d ∈ ds, 0 ≤ d ∧ d < B) → dg B n (tv B 0 ds) = ds
  | 0, ds, hl, _ => by rw [List.eq_nil_of_length_eq_zero hl]; rfl
  | n + 1, ds, hl, h => by
    cases ds with
    | nil => simp at hl
    | cons d ds =>
      simp only [List.length_cons, Nat.add_right_cancel_iff] at hl
      have h1 := tv_lt hB ds (fun x hx => h x (by simp [hx]))
      have h2 := tv_nonneg (Int.le_of_lt hB) 0 ds (Int.le_refl _) (fun x hx => (h x (by simp [hx])).1)
      have hd := h d (by simp)
      rw [hl] at h1
      have e : tv B 0 (d :: ds) = tv B 0 ds + B ^ n * d := by
        simp only [tv, Int.zero_mul, Int.zero_add]
        rw [tv_acc, hl, Int.mul_comm]
        omega
      have k := dm (Int.pow_pos hB) e.symm h2 h1
      rw [dg_head hB, k.1, k.2, dg_tv hB n ds hl (fun x hx => h x (by simp [hx])), Int.emod_eq_of_lt hd.1 hd.2]

theorem dg_zero {B : Int} (hB : 0 < B) : ∀ n, dg B n 0 = List.replicate n 0
  | 0 => rfl
  | n + 1 => by
    rw [dg_head hB, Int.zero_ediv, Int.zero_emod, Int.zero_emod, dg_zero hB n]
    rfl

/-- Of a number above nothing something is left, and it opens with no zero. -/
theorem strip_head {ds : List Int} {d : Int} {rest : List Int} (h : strip ds = d :: rest) : d ≠ 0 := by
  have := List.head?_dropWhile_not (fun d => decide (d = 0)) ds
  unfold strip at h
  rw [h] at this
  simpa using this

theorem strip_ne {B : Int} {ds : List Int} (h : tv B 0 ds ≠ 0) : strip ds ≠ [] := by
  intro c
  have := tv_strip B ds
  rw [c] at this
  exact h this.symm
end Dn
end Go.Proofs.YtjkefcikepnbpaaGreatDoor

namespace Go.Proofs.YtjkefcikepnbpaaGreatDoor
namespace Ln

/-- n is the greatest exponent with b^n at most A. -/
def IsLog (A b : Int) (n : Nat) : Prop := b ^ n ≤ A ∧ A < b ^ (n + 1)

theorem unique {A b : Int} (hb : 2 ≤ b) {m n : Nat} (h : IsLog A b m) (k : IsLog A b n) : m = n := by
  rcases Nat.lt_trichotomy m n with c | c | c
  · have := Pn.pow_mono (show 1 ≤ b by omega) (show m + 1 ≤ n by omega)
    have h2 := h.2
    have k1 := k.1
    omega
  · exact c
  · have := Pn.pow_mono (show 1 ≤ b by omega) (show n + 1 ≤ m by omega)
    have k2 := k.2
    have h1 := h.1
    omega

/-- On the way: 2^j is what n may still lack. -/
def Way (A b : Int) (n j : Nat) : Prop := b ^ n ≤ A ∧ A < b ^ (n + 2 ^ j)

theorem Way.last {A b : Int} {n : Nat} (h : Way A b n 0) : IsLog A b n := h

theorem Way.first {A b : Int} {m : Nat} (hA : 1 ≤ A) (h : A < b ^ (2 ^ m)) : Way A b 0 m := ⟨by rw [Int.pow_zero]; exact hA, by rw [Nat.zero_add]; exact h⟩

theorem Way.take {A b : Int} {n i : Nat} (h : Way A b n (i + 1)) (hle : b ^ n * b ^ (2 ^ i) ≤ A) : Way A b (n + 2 ^ i) i := by
  refine ⟨by rw [Int.pow_add]; exact hle, ?_⟩
  have := h.2
  rw [show n + 2 ^ i + 2 ^ i = n + 2 ^ (i + 1) by rw [Nat.pow_succ]; omega]
  exact this

theorem Way.skip {A b : Int} {n i : Nat} (h : Way A b n (i + 1)) (hlt : A < b ^ n * b ^ (2 ^ i)) : Way A b n i := ⟨h.1, by rw [Int.pow_add]; exact hlt⟩

/-- An exponent is small where the power is. -/
theorem small {A b : Int} {n L : Nat} (hb : 2 ≤ b) (h : b ^ n ≤ A) (hA : A < 2 ^ L) : n < L := by
  have h1 := Pn.pow_base (a := 2) (A := b) (by omega) hb n
  rcases Nat.lt_or_ge n L with c | c
  · exact c
  · have := Nm.two_mono c
    omega

theorem square (b : Int) (k : Nat) : b ^ (2 ^ k) * b ^ (2 ^ k) = b ^ (2 ^ (k + 1)) := by
  rw [← Int.pow_add]
  congr 1
  rw [Nat.pow_succ]
  omega

/-- So many squares at most. -/
theorem few {A b : Int} {k : Nat} (hb : 2 ≤ b) (h : b ^ (2 ^ k) ≤ A) (hA : A < 2 ^ 262144) : k < 18 := by
  have h1 := small hb h hA
  rcases Nat.lt_or_ge k 18 with c | c
  · exact c
  · have : 2 ^ 18 ≤ 2 ^ k := Nat.pow_le_pow_right (by omega) c
    omega
end Ln
end Go.Proofs.YtjkefcikepnbpaaGreatDoor

namespace Go.Proofs.YtjkefcikepnbpaaGreatDoor
namespace Qd
open Nm

/-- What limb i - 1 sends up into limb i when all is moved up: T * U is 2^64. -/
def up (zs : List Int) (U : Int) : Nat → Int
  | 0 => 0
  | i + 1 => zs.getD i 0 / U

/-- Limb i of the number moved up. -/
def limb (zs : List Int) (T U : Int) (i : Nat) : Int := zs.getD i 0 % U * T + up zs U i

/-- The first i limbs moved up, without what goes beyond them. -/
def low (zs : List Int) (T U : Int) (i : Nat) : Int := val (zs.take i) * T - up zs U i * pw i

theorem low_succ {zs : List Int} {T U : Int} (hTU : T * U = 18446744073709551616) (i : Nat) (hi : i < zs.length) : low zs T U (i + 1) = low zs T U i + pw i * limb zs T U i := by
  have h1 := val_take_succ zs i hi
  have h2 := Int.emod_add_mul_ediv (zs.getD i 0) U
  have e0 : up zs U (i + 1) = zs.getD i 0 / U := rfl
  simp only [low, limb, e0, h1, pw_succ]
  clear e0
  generalize up zs U i = u
  generalize zs.getD i 0 = z at *
  have e : z * T = z % U * T + z / U * 18446744073709551616 := by
    rw [← hTU]
    have : (z % U + U * (z / U)) * T = z * T := by rw [h2]
    rw [Int.add_mul] at this
    rw [← this, Int.mul_comm U, Int.mul_assoc, Int.mul_comm U T]
  rw [Int.add_mul, Int.mul_assoc, e, Int.mul_add, Int.mul_add]
  have e2 : z / U * (18446744073709551616 * pw i) = pw i * (z / U * 18446744073709551616) := by
    rw [Int.mul_left_comm, ← Int.mul_assoc, Int.mul_comm _ (pw i), Int.mul_comm (z / U)]
  have e3 : u * pw i = pw i * u := Int.mul_comm _ _
  omega

theorem up_bd {zs : List Int} (h : Limbs zs) {T U : Int} (hT : 0 < T) (hU : 0 < U) (hTU : T * U = 18446744073709551616) (i : Nat) : 0 ≤ up zs U i ∧ up zs U i < T := by
  cases i with
  | zero => exact ⟨Int.le_refl _, hT⟩
  | succ i =>
    have := h.at i
    refine ⟨Int.ediv_nonneg this.1 (by omega), ?_⟩
    show zs.getD i 0 / U < T
    rw [Int.ediv_lt_iff_lt_mul hU, hTU]
    exact this.2

theorem part_bd {z T U : Int} (hT : 0 < T) (hU : 0 < U) (hTU : T * U = 18446744073709551616) : 0 ≤ z % U * T ∧ z % U * T + T ≤ 18446744073709551616 := by
  have d2 := Int.emod_nonneg z (show U ≠ 0 by omega)
  have d3 := Int.emod_lt_of_pos z hU
  have a5 : (z % U + 1) * T ≤ U * T := Int.mul_le_mul_of_nonneg_right (by omega) (by omega)
  rw [Int.add_mul, Int.one_mul, Int.mul_comm U T, hTU] at a5
  exact ⟨Int.mul_nonneg d2 (by omega), a5⟩

theorem limb_bd {zs : List Int} (h : Limbs zs) {T U : Int} (hT : 0 < T) (hU : 0 < U) (hTU : T * U = 18446744073709551616) (i : Nat) : 0 ≤ limb zs T U i ∧ limb zs T U i < 18446744073709551616 := by
  have h1 := up_bd h hT hU hTU i
  have h2 := part_bd (z := zs.getD i 0) hT hU hTU
  simp only [limb]
  omega

theorem low_bd {zs : List Int} (h : Limbs zs) {T U : Int} (hT : 0 < T) (hU : 0 < U) (hTU : T * U = 18446744073709551616) : ∀ i, i ≤ zs.length → 0 ≤ low zs T U i ∧ low zs T U i < pw i
  | 0, _ => by simp [low, up, pw, val]
  | i + 1, hi => by
    have h1 := low_bd h hT hU hTU i (by omega)
    have h2 := limb_bd h hT hU hTU i
    rw [low_succ hTU i (by omega), pw_succ]
    have hp := pw_pos i
    have h3 : 0 ≤ pw i * limb zs T U i := Int.mul_nonneg (by omega) h2.1
    have h4 : pw i * (limb zs T U i + 1) ≤ pw i * 18446744073709551616 := Int.mul_le_mul_of_nonneg_left (by omega) (by omega)
    rw [Int.mul_add, Int.mul_one] at h4
    omega

/-- The whole, moved up: nothing goes beyond its limbs where it has room. -/
theorem whole {zs : List Int} (h : Limbs zs) {T U : Int} (hT : 0 < T) (hU : 0 < U) (hTU : T * U = 18446744073709551616) (hv : val zs * T < pw zs.length) : low zs T U zs.length = val zs * T := by
  have h1 := low_bd h hT hU hTU zs.length (Nat.le_refl _)
  have h2 := up_bd h hT hU hTU zs.length
  simp only [low, List.take_length] at h1 ⊢
  have hp := pw_pos zs.length
  have h3 : up zs U zs.length = 0 := by
    rcases (show up zs U zs.length = 0 ∨ 1 ≤ up zs U zs.length by omega) with h3 | h3
    · exact h3
    · have : 1 * pw zs.length ≤ up zs U zs.length * pw zs.length := Int.mul_le_mul_of_nonneg_right h3 (by omega)
      omega
  rw [h3]
  omega

/-- What a digit q keeps to, told from the three highest limbs of the part and the two of the divisor. -/
def Fits (q f s h m l : Int) : Prop := 0 ≤ q ∧ q < 18446744073709551616 ∧ q * (f * 18446744073709551616 + s) ≤ (h * 18446744073709551616 + m) * 18446744073709551616 + l

/-- The limbs that the guess is told from: the divisor bs has k + 2 limbs, the part ps one more, and it is below 2^64 times the divisor. -/
theorem fits {bs ps : List Int} (hb : Limbs bs) (hp : Limbs ps) {T U : Int} (hT : 0 < T) (hU : 0 < U) (hTU : T * U = 18446744073709551616) {k : Nat} (lb : bs.length = k + 2) (lp : ps.length = k + 3)
    (hv : val bs * T < pw (k + 2)) (hpb : val ps < val bs * 18446744073709551616) :
    limb ps T U (k + 2) ≤ limb bs T U (k + 1) ∧ ∀ q, 0 ≤ q → q * val bs ≤ val ps → Fits q (limb bs T U (k + 1)) (limb bs T U k) (limb ps T U (k + 2)) (limb ps T U (k + 1)) (limb ps T U k) := by
  have w1 := whole hb hT hU hTU (by rw [lb]; exact hv)
  rw [lb] at w1
  have e1 : low bs T U (k + 2) = low bs T U (k + 1) + pw (k + 1) * limb bs T U (k + 1) := low_succ (zs := bs) hTU (k + 1) (by omega)
  have e2 := low_succ (zs := bs) hTU k (by omega)
  have hpT : val ps * T < val bs * T * 18446744073709551616 := by
    have := Int.mul_lt_mul_of_pos_right hpb hT
    rw [Int.mul_right_comm] at this
    exact this
  have hb0 : 0 ≤ val bs * T := Int.mul_nonneg (val_bd bs hb).1 (by omega)
  have w2 := whole hp hT hU hTU (by rw [lp, pw_succ]; omega)
  rw [lp] at w2
  have e3 : low ps T U (k + 3) = low ps T U (k + 2) + pw (k + 2) * limb ps T U (k + 2) := low_succ (zs := ps) hTU (k + 2) (by omega)
  have e4 : low ps T U (k + 2) = low ps T U (k + 1) + pw (k + 1) * limb ps T U (k + 1) := low_succ (zs := ps) hTU (k + 1) (by omega)
  have e5 := low_succ (zs := ps) hTU k (by omega)
  have b1 := low_bd hb hT hU hTU k (by omega)
  have b2 := low_bd hb hT hU hTU (k + 1) (by omega)
  have b3 := low_bd hp hT hU hTU k (by omega)
  have b4 := low_bd hp hT hU hTU (k + 2) (by omega)
  have pk := pw_pos k
  generalize limb bs T U (k + 1) = f at *
  generalize limb bs T U k = s at *
  generalize limb ps T U (k + 2) = h at *
  generalize limb ps T U (k + 1) = m at *
  generalize limb ps T U k = l at *
  generalize low bs T U k = x0 at *
  generalize low ps T U k = y0 at *
  rw [pw_succ (k + 1), pw_succ k] at *
  constructor
  · rcases (show h ≤ f ∨ f + 1 ≤ h by omega) with c | c
    · exact c
    · exfalso
      have : 18446744073709551616 * (18446744073709551616 * pw k) * (f + 1) ≤ 18446744073709551616 * (18446744073709551616 * pw k) * h := Int.mul_le_mul_of_nonneg_left c (by omega)
      rw [Int.mul_add, Int.mul_one, Int.mul_assoc 18446744073709551616 (18446744073709551616 * pw k) f] at this
      omega
  · intro q q0 hq
    have hqT : q * (val bs * T) ≤ val ps * T := by
      rw [← Int.mul_assoc]
      exact Int.mul_le_mul_of_nonneg_right hq (by omega)
    have q1 : q < 18446744073709551616 := by
      rcases (show q < 18446744073709551616 ∨ 18446744073709551616 ≤ q by omega) with c | c
      · exact c
      · exfalso
        have : 18446744073709551616 * val bs ≤ q * val bs := Int.mul_le_mul_of_nonneg_right c (val_bd bs hb).1
        omega
    refine ⟨q0, q1, ?_⟩
    have g1 : val bs * T = x0 + pw k * (f * 18446744073709551616 + s) := by
      rw [Int.mul_add, ← Int.mul_assoc, Int.mul_right_comm (pw k) f, Int.mul_comm (pw k) 18446744073709551616]
      omega
    have g2 : val ps * T = y0 + pw k * ((h * 18446744073709551616 + m) * 18446744073709551616 + l) := by
      rw [Int.mul_add, Int.add_mul, Int.mul_add]
      have t1 : pw k * (h * 18446744073709551616 * 18446744073709551616) = 18446744073709551616 * (18446744073709551616 * pw k) * h := by
        rw [Int.mul_assoc h, Int.mul_left_comm, ← Int.mul_assoc 18446744073709551616 18446744073709551616, Int.mul_assoc (18446744073709551616 * 18446744073709551616), Int.mul_left_comm h, Int.mul_comm h, Int.mul_left_comm]
      have t2 : pw k * (m * 18446744073709551616) = 18446744073709551616 * pw k * m := by
        rw [← Int.mul_assoc, Int.mul_right_comm, Int.mul_comm (pw k)]
      rw [t1, t2]
      omega
    rw [g1, g2, Int.mul_add] at hqT
    have g3 : 0 ≤ q * x0 := Int.mul_nonneg q0 b1.1
    have g4 : q * (pw k * (f * 18446744073709551616 + s)) = pw k * (q * (f * 18446744073709551616 + s)) := Int.mul_left_comm _ _ _
    generalize q * (f * 18446744073709551616 + s) = X at *
    generalize (h * 18446744073709551616 + m) * 18446744073709551616 + l = Y at *
    rcases (show X ≤ Y ∨ Y + 1 ≤ X by omega) with c | c
    · exact c
    · exfalso
      have : pw k * (Y + 1) ≤ pw k * X := Int.mul_le_mul_of_nonneg_left c (by omega)
      rw [Int.mul_add, Int.mul_one] at this
      omega

/-- No digit is above d, which leaves 'left' of the two highest limbs. -/
def Over (Q : Int → Prop) (f hm d left : Int) : Prop := (0 ≤ d ∧ d < 18446744073709551616) ∧ (0 ≤ left ∧ left < 18446744073709551616) ∧ d * f + left = hm ∧ ∀ q, Q q → q ≤ d

/-- The second limb shows that d is too great. -/
theorem over_down {Q : Int → Prop} {f s h m l d left : Int} (hQ : ∀ q, Q q → Fits q f s h m l) (hl : 0 ≤ l) (_hf : 0 ≤ f) (H : Over Q f (h * 18446744073709551616 + m) d left) (hc : left * 18446744073709551616 + l < d * s) :
    1 ≤ d ∧ (d - 1) * f + (left + f) = h * 18446744073709551616 + m ∧ ∀ q, Q q → q ≤ d - 1 := by
  obtain ⟨⟨d0, d1⟩, ⟨l0, l1⟩, e, hq⟩ := H
  have hd : 1 ≤ d := by
    rcases (show d = 0 ∨ 1 ≤ d by omega) with c | c
    · subst c; rw [Int.zero_mul] at hc; omega
    · exact c
  refine ⟨hd, by rw [Int.sub_mul, Int.one_mul]; omega, fun q hQq => ?_⟩
  have h1 := hq q hQq
  obtain ⟨q0, q1, q2⟩ := hQ q hQq
  rcases (show q ≤ d - 1 ∨ q = d by omega) with c | c
  · exact c
  · subst c
    exfalso
    rw [Int.mul_add, ← Int.mul_assoc, ← e, Int.add_mul] at q2
    omega

theorem over_on {Q : Int → Prop} {f s h m l d left : Int} (hQ : ∀ q, Q q → Fits q f s h m l) (hl : 0 ≤ l) (hf : 0 ≤ f) (H : Over Q f (h * 18446744073709551616 + m) d left) (hc : left * 18446744073709551616 + l < d * s) (hr : left + f < 18446744073709551616) :
    Over Q f (h * 18446744073709551616 + m) (d - 1) (left + f) := by
  obtain ⟨h1, h2, h3⟩ := over_down hQ hl hf H hc
  exact ⟨by have := H.1; omega, by have := H.2.1; omega, h2, h3⟩

/-- The first guess. -/
theorem over_first {Q : Int → Prop} {f s h m l d left : Int} (hQ : ∀ q, Q q → Fits q f s h m l) (hs : 0 ≤ s) (hl : l < 18446744073709551616) (hd : 0 ≤ d ∧ d < 18446744073709551616) (h0 : 0 ≤ left) (h1 : left < f) (hf : f < 18446744073709551616) (e : d * f + left = h * 18446744073709551616 + m) :
    Over Q f (h * 18446744073709551616 + m) d left := by
  refine ⟨hd, by omega, e, fun q hQq => ?_⟩
  obtain ⟨q0, q1, q2⟩ := hQ q hQq
  rcases (show q ≤ d ∨ d + 1 ≤ q by omega) with c | c
  · exact c
  · exfalso
    have t1 : (d + 1) * f ≤ q * f := Int.mul_le_mul_of_nonneg_right c (by omega)
    rw [Int.add_mul, Int.one_mul] at t1
    have t2 : 0 ≤ q * s := Int.mul_nonneg q0 hs
    rw [Int.mul_add, ← Int.mul_assoc] at q2
    omega

/-- The highest limbs are alike: the guess is the greatest limb. -/
theorem over_even {Q : Int → Prop} {f s h m l : Int} (hQ : ∀ q, Q q → Fits q f s h m l) (e : h = f) (hm : 0 ≤ m + f) (hmf : m + f < 18446744073709551616) :
    Over Q f (h * 18446744073709551616 + m) 18446744073709551615 (m + f) := by
  refine ⟨by omega, by omega, by rw [e]; omega, fun q hQq => ?_⟩
  obtain ⟨q0, q1, q2⟩ := hQ q hQq
  omega

theorem over_most {Q : Int → Prop} {f s h m l : Int} (hQ : ∀ q, Q q → Fits q f s h m l) (q : Int) (hq : Q q) : q ≤ 18446744073709551615 := by
  obtain ⟨q0, q1, q2⟩ := hQ q hq
  omega
end Qd
end Go.Proofs.YtjkefcikepnbpaaGreatDoor

namespace Go.Proofs.YtjkefcikepnbpaaGreatDoor
namespace Dv

/-- q is the digit: U * 2^32 + u divided by Y. -/
def Dig (U u Y q : Int) : Prop := 0 ≤ q ∧ q < 4294967296 ∧ q * Y ≤ U * 4294967296 + u ∧ U * 4294967296 + u < q * Y + Y

/-- The estimate is never too small, and what is left of the highest digits goes with it. -/
def Est (U u Y v1 q r : Int) : Prop := 0 ≤ q ∧ 0 ≤ r ∧ r < 4294967296 ∧ q * v1 + r = U ∧ U * 4294967296 + u < q * Y + Y

/-- The divisor: two digits, the higher one at least 2^31. -/
def Nrm (Y v1 v0 : Int) : Prop := Y = v1 * 4294967296 + v0 ∧ 0 ≤ v0 ∧ v0 < 4294967296 ∧ 2147483648 ≤ v1 ∧ v1 < 4294967296

theorem mulY {Y v1 v0 : Int} (h : Nrm Y v1 v0) (q : Int) : q * Y = q * v1 * 4294967296 + q * v0 := by
  rw [h.1, Int.mul_add, Int.mul_assoc]

theorem est_first {U u Y v1 v0 : Int} (hY : Nrm Y v1 v0) (hU : 0 ≤ U) (hu0 : 0 ≤ u) (hu : u < 4294967296) : Est U u Y v1 (U / v1) (U - U / v1 * v1) := by
  have hv := hY.2.2.2.1
  have hv' := hY.2.2.2.2
  have h1 := Int.emod_add_mul_ediv U v1
  have h2 := Int.emod_nonneg U (show v1 ≠ 0 by omega)
  have h3 := Int.emod_lt_of_pos U (show 0 < v1 by omega)
  have h4 : 0 ≤ U / v1 := Int.ediv_nonneg hU (by omega)
  rw [Int.mul_comm v1] at h1
  have h5 := mulY hY (U / v1)
  have h6 : 0 ≤ U / v1 * v0 := Int.mul_nonneg h4 hY.2.1
  have h7 := hY.1
  have h8 := hY.2.1
  refine ⟨h4, by omega, by omega, by omega, ?_⟩
  omega

theorem est_down {U u Y v1 v0 q r : Int} (hY : Nrm Y v1 v0) (hUY : U < Y) (_hu0 : 0 ≤ u) (hu : u < 4294967296) (h : Est U u Y v1 q r) (hc : 4294967296 ≤ q ∨ 4294967296 * r + u < q * v0) :
    1 ≤ q ∧ (q - 1) * v1 + (r + v1) = U ∧ U * 4294967296 + u < (q - 1) * Y + Y := by
  obtain ⟨h1, h2, h3, h4, h5⟩ := h
  have hq : 1 ≤ q := by
    rcases hc with hc | hc
    · omega
    · rcases (show q < 1 ∨ 1 ≤ q by omega) with hq | hq
      · have : q = 0 := by omega
        subst this
        rw [Int.zero_mul] at hc
        omega
      · exact hq
  have e1 := mulY hY q
  refine ⟨hq, ?_, ?_⟩
  · rw [Int.sub_mul, Int.one_mul]; omega
  · rw [Int.sub_mul, Int.one_mul]
    rcases hc with hc | hc
    · have : 4294967296 * Y ≤ q * Y := Int.mul_le_mul_of_nonneg_right hc (by have := hY.1; have := hY.2.1; have := hY.2.2.2.1; omega)
      omega
    · omega

/-- Another round. -/
theorem est_on {U u Y v1 v0 q r : Int} (hY : Nrm Y v1 v0) (hUY : U < Y) (hu0 : 0 ≤ u) (hu : u < 4294967296) (h : Est U u Y v1 q r) (hc : 4294967296 ≤ q ∨ 4294967296 * r + u < q * v0) (hr : r + v1 < 4294967296) : Est U u Y v1 (q - 1) (r + v1) := by
  obtain ⟨h1, h2, h3⟩ := est_down hY hUY hu0 hu h hc
  exact ⟨by omega, by have := h.2.1; have := hY.2.2.2.1; omega, hr, h2, h3⟩

/-- Left because the rest has a digit more. -/
theorem dig_break {U u Y v1 v0 q r : Int} (hY : Nrm Y v1 v0) (hUY : U < Y) (hu0 : 0 ≤ u) (hu : u < 4294967296) (h : Est U u Y v1 q r) (hc : 4294967296 ≤ q ∨ 4294967296 * r + u < q * v0) (hr : 4294967296 ≤ r + v1) : Dig U u Y (q - 1) := by
  obtain ⟨h1, h2, h3⟩ := est_down hY hUY hu0 hu h hc
  obtain ⟨y1, y2, y3, y4, y5⟩ := hY
  have hq : q - 1 < 4294967296 := by
    rcases (show (q - 1) < 4294967296 ∨ 4294967296 ≤ (q - 1) by omega) with hq | hq
    · exact hq
    · have : 4294967296 * v1 ≤ (q - 1) * v1 := Int.mul_le_mul_of_nonneg_right hq (by omega)
      omega
  have e1 := mulY ⟨y1, y2, y3, y4, y5⟩ (q - 1)
  have e2 : (q - 1) * v0 ≤ 4294967296 * v0 := Int.mul_le_mul_of_nonneg_right (by omega) y2
  exact ⟨by omega, hq, by omega, h3⟩

/-- Left because the estimate is right. -/
theorem dig_exit {U u Y v1 v0 q r : Int} (hY : Nrm Y v1 v0) (h : Est U u Y v1 q r) (h1 : q < 4294967296) (h2 : q * v0 ≤ 4294967296 * r + u) : Dig U u Y q := by
  have e1 := mulY hY q
  obtain ⟨a1, a2, a3, a4, a5⟩ := h
  exact ⟨a1, h1, by omega, a5⟩

/-- What is made of the two digits. -/
theorem whole {hi lo y P Y U L u1 u0 q1 q0 R R0 : Int} (hP : 0 < P) (hYP : Y = y * P) (hN : U * 18446744073709551616 + L = (hi * 18446744073709551616 + lo) * P) (hL : L = u1 * 4294967296 + u0)
    (hR : R = U * 4294967296 + u1 - q1 * Y) (hR0 : R0 = R * 4294967296 + u0 - q0 * Y) (h0 : 0 ≤ R0) (h1 : R0 < Y) (_hy : 0 < y) :
    (hi * 18446744073709551616 + lo) / y = q1 * 4294967296 + q0 ∧ (hi * 18446744073709551616 + lo) % y = R0 / P := by
  obtain ⟨N, hNe⟩ : ∃ N, N = hi * 18446744073709551616 + lo := ⟨_, rfl⟩
  rw [← hNe] at hN ⊢
  have e1 : N * P = (q1 * 4294967296 + q0) * Y + R0 := by
    rw [Int.add_mul, Int.mul_right_comm q1 4294967296 Y]
    omega
  have e2 : R0 = (N - (q1 * 4294967296 + q0) * y) * P := by
    rw [Int.sub_mul, Int.mul_assoc, ← hYP]
    omega
  obtain ⟨Q, hQ⟩ : ∃ Q, Q = q1 * 4294967296 + q0 := ⟨_, rfl⟩
  rw [← hQ] at e2 ⊢
  obtain ⟨ρ, hρ⟩ : ∃ ρ, ρ = N - Q * y := ⟨_, rfl⟩
  rw [← hρ] at e2
  have r0 : 0 ≤ ρ := by
    rcases (show ρ < 0 ∨ 0 ≤ ρ by omega) with h | h
    · have : ρ * P ≤ (-1) * P := Int.mul_le_mul_of_nonneg_right (by omega) (by omega)
      omega
    · exact h
  have r1 : ρ < y := by
    rcases (show ρ < y ∨ y ≤ ρ by omega) with h | h
    · exact h
    · have : y * P ≤ ρ * P := Int.mul_le_mul_of_nonneg_right h (by omega)
      omega
  have e3 : R0 / P = ρ := by rw [e2, Int.mul_ediv_cancel _ (by omega)]
  have e4 : N = ρ + y * Q := by rw [Int.mul_comm y]; omega
  rw [e3, e4]
  refine ⟨?_, ?_⟩
  · rw [Int.add_mul_ediv_left _ _ (by omega), Int.ediv_eq_zero_of_lt r0 r1, Int.zero_add]
  · rw [Int.add_mul_emod_self_left, Int.emod_eq_of_lt r0 r1]

/-- The operands moved up by s binary digits: P is 2^s, Q what makes 2^64 of it. -/
theorem moved {hi lo y P Q : Int} (hP : 0 < P) (hQ : 0 < Q) (hPQ : P * Q = 18446744073709551616) (h0 : 0 ≤ hi) (hy : hi < y) (l0 : 0 ≤ lo) (l1 : lo < 18446744073709551616) :
    0 ≤ lo / Q ∧ lo / Q < P ∧ 0 ≤ hi * P ∧ hi * P + lo / Q < y * P ∧ (lo * P) % 18446744073709551616 = lo % Q * P ∧ (hi * P + lo / Q) * 18446744073709551616 + lo % Q * P = (hi * 18446744073709551616 + lo) * P := by
  have d1 := Int.emod_add_mul_ediv lo Q
  have d2 := Int.emod_nonneg lo (show Q ≠ 0 by omega)
  have d3 := Int.emod_lt_of_pos lo hQ
  have a0 : 0 ≤ lo / Q := Int.ediv_nonneg l0 (by omega)
  have a1 : lo / Q < P := by
    rw [Int.ediv_lt_iff_lt_mul hQ, hPQ]
    exact l1
  have a2 : 0 ≤ hi * P := Int.mul_nonneg h0 (by omega)
  have a3 : (hi + 1) * P ≤ y * P := Int.mul_le_mul_of_nonneg_right (by omega) (by omega)
  rw [Int.add_mul, Int.one_mul] at a3
  have a4 : lo * P = lo % Q * P + 18446744073709551616 * (lo / Q) := by
    have : (lo % Q + Q * (lo / Q)) * P = lo * P := by rw [d1]
    rw [Int.add_mul, Int.mul_right_comm, Int.mul_comm Q P, hPQ] at this
    omega
  have a5 : lo % Q * P < Q * P := Int.mul_lt_mul_of_pos_right d3 hP
  have a6 : 0 ≤ lo % Q * P := Int.mul_nonneg d2 (by omega)
  rw [Int.mul_comm Q P, hPQ] at a5
  refine ⟨a0, a1, a2, by omega, by omega, ?_⟩
  rw [Int.add_mul (hi * 18446744073709551616), Int.mul_right_comm]
  omega
end Dv
end Go.Proofs.YtjkefcikepnbpaaGreatDoor

namespace Go.Proofs.YtjkefcikepnbpaaGreatDoor
open Go.RowKit Go.Deep

theorem hid {p : Prop} (h : p) : Hid p := h

theorem cell_lt {w : World} {a : Addr} {v : Value} (h : w.cell? a = some v) : a.block < w.heap.size := by
  rcases Nat.lt_or_ge a.block w.heap.size with hl | hl
  · exact hl
  · simp [World.cell?, Array.getElem?_eq_none hl] at h

/-- The limbs zs lie at p (nowhere, where there are none). -/
def Lies (w : World) (p : Option Addr) (zs : List Int) : Prop :=
  zs = [] ∨ ∃ b off, p = some ⟨b, off, none⟩ ∧ ∀ i, i < zs.length → w.cell? ⟨b, off + i, none⟩ = some (.int .u64 (zs.getD i 0))

/-- The limbs zs are the whole of block g, which may be written. -/
def Own (w : World) (g : Nat) (zs : List Int) : Prop := w.heap[g]? = some (.cells (zs.map (Value.int .u64)).toArray 22 (0, 0))

theorem Lies.nil (w : World) (p : Option Addr) : Lies w p [] := .inl rfl

theorem Lies.take {w : World} {p : Option Addr} {zs : List Int} (h : Lies w p zs) (k : Nat) : Lies w p (zs.take k) := by
  rcases h with rfl | ⟨b, off, hp, h⟩
  · exact .inl (by simp)
  · refine .inr ⟨b, off, hp, fun i hi => ?_⟩
    rw [List.length_take] at hi
    rw [h i (by omega), Nm.getD_take, if_pos (by omega)]

theorem Lies.trim {w : World} {p : Option Addr} {zs : List Int} (h : Lies w p zs) : Lies w p (Nm.trim zs) := h.take _

theorem Lies.below {w w' : World} {B : Nat} {p : Option Addr} {zs : List Int} (h : Lies w p zs) (hb : Below B w w') (hB : w.heap.size ≤ B) : Lies w' p zs := by
  rcases h with rfl | ⟨b, off, hp, h⟩
  · exact .inl rfl
  · refine .inr ⟨b, off, hp, fun i hi => ?_⟩
    have hc := h i hi
    have hlt : b < w.heap.size := cell_lt hc
    rw [hb.cell (p := ⟨b, off + i, none⟩) (Nat.lt_of_lt_of_le hlt hB)]
    exact hc

theorem Own.cell {w : World} {g : Nat} {zs : List Int} (h : Own w g zs) (i : Nat) (hi : i < zs.length) : w.cell? ⟨g, i, none⟩ = some (.int .u64 (zs.getD i 0)) := by
  simp only [Own] at h
  simp [World.cell?, h, List.getD, hi]

theorem Own.free {w : World} {g : Nat} {zs : List Int} (h : Own w g zs) (i : Nat) : w.frozen? ⟨g, i, none⟩ = false := by
  simp only [Own] at h
  simp [World.frozen?, h]

theorem Own.lies {w : World} {g : Nat} {zs : List Int} (h : Own w g zs) : Lies w (some ⟨g, 0, none⟩) zs :=
  .inr ⟨g, 0, rfl, fun i hi => by rw [Nat.zero_add]; exact h.cell i hi⟩

theorem Own.lt {w : World} {g : Nat} {zs : List Int} (h : Own w g zs) : g < w.heap.size := by
  rcases Nat.lt_or_ge g w.heap.size with hl | hl
  · exact hl
  · simp [Own, Array.getElem?_eq_none hl] at h

theorem Own.set {w : World} {g : Nat} {zs : List Int} (h : Own w g zs) (i : Nat) (s : Int) : Own (w.setCell ⟨g, i, none⟩ (.int .u64 s)) g (zs.set i s) := by
  have hl := h.lt
  simp only [Own] at h ⊢
  simp [World.setCell, Array.getElem?_modify, h, List.map_set]

theorem Own.below {w w' : World} {B g : Nat} {zs : List Int} (h : Own w g zs) (hb : Below B w w') (hg : g < B) : Own w' g zs := by
  simp only [Own] at h ⊢
  rw [hb.block g hg, h]

theorem Own.alloc (w : World) (zs : List Int) : Own (w.alloc (.cells (zs.map (Value.int .u64)).toArray 22)) w.heap.size zs := by
  show (w.heap.push _)[w.heap.size]? = _
  rw [Array.getElem?_push, if_pos rfl]

theorem made_zero (n : Nat) : madeCells #[Value.int .u64 0] n = ((List.replicate n (0 : Int)).map (Value.int .u64)).toArray := by
  apply Array.toList_inj.1
  rw [toList_madeCells_one]
  simp

/-- The longest list that can come in has at most 2^44 limbs. -/
def Arg (w : World) (p : Option Addr) (n cap : Nat) (zs : List Int) : Prop := zs.length = n ∧ n ≤ cap ∧ cap ≤ 17592186044416 ∧ Lies w p zs ∧ Nm.Limbs zs

theorem Arg.below {B : Nat} {w w' : World} {p : Option Addr} {n cap : Nat} {zs : List Int} (h : Arg w p n cap zs) (hb : Below B w w') (hB : w.heap.size ≤ B) : Arg w' p n cap zs :=
  ⟨h.1, h.2.1, h.2.2.1, h.2.2.2.1.below hb hB, h.2.2.2.2⟩

theorem Lies.lt {w : World} {p : Option Addr} {zs : List Int} (h : Lies w p zs) (h0 : 0 < zs.length) : ∀ a, p = some a → a.block < w.heap.size := by
  intro a ha
  rcases h with rfl | ⟨b, off, hp, h⟩
  · simp at h0
  · rw [hp] at ha
    cases ha
    exact cell_lt (h 0 h0)

/-- What is answered: the trimmed list of the number n, in memory that is new since block B. -/
def Ans (B : Nat) (w : World) (p : Option Addr) (ys : List Int) (n : Int) : Prop :=
  Lies w p ys ∧ Nm.Limbs ys ∧ Nm.tsize ys = ys.length ∧ Nm.val ys = n ∧ ∀ a, p = some a → B ≤ a.block

theorem Ans.below {B B' : Nat} {w w' : World} {p : Option Addr} {ys : List Int} {n : Int} (h : Ans B w p ys n) (hb : Below B' w w') (hB : w.heap.size ≤ B') : Ans B w' p ys n :=
  ⟨h.1.below hb hB, h.2⟩

theorem Ans.arg {B : Nat} {w : World} {p : Option Addr} {ys : List Int} {n : Int} (h : Ans B w p ys n) (hs : ys.length ≤ 17592186044416) : Arg w p ys.length ys.length ys :=
  ⟨rfl, Nat.le_refl _, hs, h.1, h.2.1⟩

theorem info64 : (Tryz.prog.info? 22).map (fun i => (i.zero, i.size, i.bytes)) = some (some (.int .u64 0), 1, 8) := by kernel_rfl
theorem size64 : (Tryz.prog.info? 22).map (·.size) = some 1 := by kernel_rfl

/-- make([]uint64, n), n a natural. -/
theorem make64 (n : Nat) (h : n ≤ 35184372088832) (w : World) :
    (Instr.makeSlice 96 (.int .i64 (n : Int)) (.int .i64 (n : Int))).run Tryz.prog w = .ok (.slice (some ⟨w.heap.size, 0, none⟩) n n) (w.alloc (.cells (madeCells #[.int .u64 0] n) 22)) :=
  run_make_row' 96 22 (.int .u64 0) 8 Tryz.underlying96 info64 rfl .i64 .i64 n (by omega) (by omega) w

theorem ints_oneCell64 (zs : List Int) : ∀ v ∈ zs.map (Value.int .u64), v.oneCell' = true := by
  intro v hv
  obtain ⟨z, _, rfl⟩ := List.mem_map.1 hv
  rfl

/-- copy(out, a): out a block of our own, at least as long. -/
theorem copy64 (g k : Nat) (ds : List Int) (p : Option Addr) (n cap : Nat) (zs : List Int) (ty : TypeId) (w : World) (hk : ds.length = k) (hn : zs.length = n) (hle : n ≤ k) (ho : Own w g ds) (hl : Lies w p zs) :
    ∃ w', (Builtin.copy_ #[96, 96] ty #[.slice (some ⟨g, 0, none⟩) k k, .slice p n cap]).run Tryz.prog w = .ok (.int .i64 (n : Int)) w' ∧ Own w' g (zs ++ ds.drop n) ∧ Below g w w' ∧ w'.heap.size = w.heap.size := by
  rcases hl with rfl | ⟨b, off, rfl, hcell⟩
  · have hn0 : n = 0 := by simpa using hn.symm
    subst hn0
    refine ⟨w, ?_, by simpa using ho, Below.refl _ _, rfl⟩
    exact run_copy_none w 96 96 ty 22 _ _ _ _ _ _ Tryz.underlying96 size64 (by simp)
  · have hr := run_copy_row (P := Tryz.prog) w 96 96 ty 22 g 0 k k ⟨b, off, none⟩ n cap (ds.map (Value.int .u64)).toArray 22 (zs.map (Value.int .u64)) Tryz.underlying96 size64 ho
      (by rw [List.length_map, hn]; exact (Nat.min_eq_left hle).symm)
      (fun j v hv => by
        simp only [List.getElem?_map, Option.map_eq_some_iff] at hv
        obtain ⟨z, hz, rfl⟩ := hv
        have hj : j < zs.length := (List.getElem?_eq_some_iff.1 hz).1
        rw [Go.WideShapes.add_plain, hcell j hj]
        simp [List.getD, hz])
      (by simp; omega) (ints_oneCell64 zs)
    rw [List.length_map, hn] at hr
    have hsh := setRow_heap w g (ds.map (Value.int .u64)).toArray ((zs ++ ds.drop n).map (Value.int .u64)).toArray 22 (0, 0) ho
    have e : (((ds.map (Value.int .u64)).toArray.toList.take 0 ++ zs.map (Value.int .u64) ++ (ds.map (Value.int .u64)).toArray.toList.drop (0 + n)).toArray) = ((zs ++ ds.drop n).map (Value.int .u64)).toArray := by
      simp [List.map_append, List.map_drop]
    rw [e] at hr
    refine ⟨_, hr, hsh, ⟨rfl, rfl, rfl, by simp [World.setRow], fun j hj => ?_⟩, by simp [World.setRow]⟩
    simp only [World.setRow, Array.getElem?_modify]
    rw [if_neg (by omega)]

end Go.Proofs.YtjkefcikepnbpaaGreatDoor

namespace Go.Proofs.YtjkefcikepnbpaaGreatDoor
open Go.RowKit Go.Deep

theorem ret_slice {p : Option Addr} {a b : Nat} (h : a = b) : Ending.returned (.slice p a a) = .returned (.slice p b b) := by rw [h]

set_option maxHeartbeats 400000 in
theorem trimmed_any (p : Option Addr) (n cap : Nat) (zs : List Int) (w : World) (hn : zs.length = n) (hc : n ≤ cap) (hm : cap ≤ 140737488355328) (h : Lies w p zs) :
    Calls Tryz.prog 78 #[.slice p n cap] w fun e w' => e = .returned (.slice p (Nm.tsize zs) (Nm.tsize zs)) ∧ w' = w := by
  rcases h with rfl | ⟨b, off, rfl, hcell⟩
  · have hn0 : n = 0 := by simpa using hn.symm
    subst hn0
    go_enter Tryz.func78, Tryz.ntmps78
    go_wp2
    refine wp_loop_rounds 1 ?_
    rw [rounds_succ]
    go_wp2
    go_ret
    exact ⟨rfl, rfl⟩
  · have H : Hid (zs.length = n) := hn
    have HC : Hid (∀ i, i < zs.length → w.cell? ⟨b, off + i, none⟩ = some (.int .u64 (zs.getD i 0))) := hcell
    clear hn hcell
    go_enter Tryz.func78, Tryz.ntmps78
    go_wp2
    go_loop [3] (fun t => ∃ k : Nat, k ≤ n ∧ t = .int .i64 k ∧ Hid (∀ j, k ≤ j → zs.getD j 0 = 0)) (fun t => (intOf t).toNat)
    case atStart => exact ⟨n, Nat.le_refl _, rfl, fun j hj => by simp [List.getD, List.getElem?_eq_none (show zs.length ≤ j by have := H.out; omega)]⟩
    case round =>
      obtain ⟨k, hk, rfl, hz⟩ := hrel
      by_cases h0 : k = 0
      · subst h0
        go_wp2
        go_ret
        exact ⟨ret_slice (Nm.tsize_unique zs 0 hz.out (.inl rfl)).symm, rfl⟩
      · obtain ⟨j, rfl⟩ : ∃ j, k = j + 1 := ⟨k - 1, by omega⟩
        obtain ⟨x, hx, X⟩ : ∃ x, w.cell? ⟨b, off + j, none⟩ = some (.int .u64 x) ∧ Hid (x = zs.getD j 0) := ⟨_, HC.out j (by have := H.out; omega), rfl⟩
        by_cases hx0 : x = 0
        · subst hx0
          go_wp2
          go_round
          case rel =>
            refine ⟨j, by omega, rfl, fun i hi => ?_⟩
            by_cases e : i = j
            · subst e; exact X.out.symm
            · exact hz.out i (by omega)
          case measure => simp [intOf]
        · go_wp2
          go_ret
          exact ⟨ret_slice (Nm.tsize_unique zs (j + 1) hz.out (.inr (by rw [Nat.add_sub_cancel, ← X.out]; exact hx0))).symm, rfl⟩

/-- Of an operand that is not too big: trimmed, to be read. -/
theorem limited_ok (p : Option Addr) (n cap : Nat) (zs : List Int) (w : World) (hn : zs.length = n) (hc : n ≤ cap) (hm : cap ≤ 140737488355328) (h : Lies w p zs) (hs : Nm.tsize zs ≤ 4096) :
    Calls Tryz.prog 89 #[.slice p n cap] w fun e w' => e = .returned (.tuple #[.slice p (Nm.tsize zs) (Nm.tsize zs), .int .i64 0]) ∧ w' = w := by
  have hsz : (Nm.tsize zs : Int) ≤ 4096 := by omega
  go_enter Tryz.func89, Tryz.ntmps89
  go_wp2_with (go_at_call 78; refine (trimmed_any p n cap zs _ hn hc hm h).mono ?_; rintro e w' ⟨rfl, rfl⟩)
  go_ret2
  exact ⟨rfl, rfl⟩

theorem limited_big (p : Option Addr) (n cap : Nat) (zs : List Int) (w : World) (hn : zs.length = n) (hc : n ≤ cap) (hm : cap ≤ 140737488355328) (h : Lies w p zs) (hs : 4096 < Nm.tsize zs) :
    Calls Tryz.prog 89 #[.slice p n cap] w fun e w' => e = .returned (.tuple #[.slice none 0 0, .int .i64 2]) ∧ w' = w := by
  have hsz : (4096 : Int) < (Nm.tsize zs : Int) := by omega
  go_enter Tryz.func89, Tryz.ntmps89
  go_wp2_with (go_at_call 78; refine (trimmed_any p n cap zs _ hn hc hm h).mono ?_; rintro e w' ⟨rfl, rfl⟩)
  go_ret2
  exact ⟨rfl, rfl⟩

/-- A copy with m limbs 0 on top, in a new block. -/
theorem widened_any (p : Option Addr) (n cap m : Nat) (mi : Int) (zs : List Int) (w : World) (hmi : mi = (m : Int)) (hn : zs.length = n) (hnm : n + m ≤ 35184372088832) (h : Lies w p zs) :
    Calls Tryz.prog 144 #[.slice p n cap, .int .i64 mi] w fun e w' => e = .returned (.slice (some ⟨w.heap.size, 0, none⟩) (n + m) (n + m)) ∧ Own w' w.heap.size (zs ++ List.replicate m 0) ∧ Below w.heap.size w w' ∧ w'.heap.size = w.heap.size + 1 := by
  subst hmi
  have hmk := make64 (n + m) hnm w
  have em : ((n + m : Nat) : Int) = (n : Int) + (m : Int) := by omega
  rw [em] at hmk
  clear em
  have hb0 : Below w.heap.size w (w.alloc (.cells (madeCells #[.int .u64 0] (n + m)) 22)) := (Below.refl _ _).alloc (Nat.le_refl _) _
  have ho : Own (w.alloc (.cells (madeCells #[.int .u64 0] (n + m)) 22)) w.heap.size (List.replicate (n + m) 0) := by
    rw [made_zero]; exact Own.alloc w _
  obtain ⟨w1, hcp, ho1, hb1, hz1⟩ := copy64 w.heap.size (n + m) (List.replicate (n + m) 0) p n cap zs 3 _ (by simp) hn (by omega) ho (h.below hb0 (Nat.le_refl _))
  have E : Hid (Own w1 w.heap.size (zs ++ List.replicate m 0)) := by
    have e : List.drop n (List.replicate (n + m) (0 : Int)) = List.replicate m 0 := by simp
    rw [e] at ho1
    exact ho1
  have F : Hid (Below w.heap.size w w1) := hb0.trans hb1
  have G : Hid (w1.heap.size = w.heap.size + 1) := hz1.trans (World.size_alloc _ _)
  clear hb0 ho ho1 hb1 hz1 h hn
  go_enter Tryz.func144, Tryz.ntmps144
  go_wp2
  go_ret
  exact ⟨rfl, E.out, F.out, G.out⟩

theorem pair_ok (p q : Option Addr) (n cap m cap' : Nat) (zs ys : List Int) (w : World) (hn : zs.length = n) (hc : n ≤ cap) (hm : cap ≤ 140737488355328) (h : Lies w p zs) (hs : Nm.tsize zs ≤ 4096)
    (hn' : ys.length = m) (hc' : m ≤ cap') (hm' : cap' ≤ 140737488355328) (h' : Lies w q ys) (hs' : Nm.tsize ys ≤ 4096) :
    Calls Tryz.prog 87 #[.slice p n cap, .slice q m cap'] w fun e w' => e = .returned (.tuple #[.slice p (Nm.tsize zs) (Nm.tsize zs), .slice q (Nm.tsize ys) (Nm.tsize ys), .int .i64 0]) ∧ w' = w := by
  go_enter Tryz.func87, Tryz.ntmps87
  go_wp2_with fail
  refine (limited_ok p n cap zs _ hn hc hm h hs).mono ?_
  rintro e w' ⟨rfl, rfl⟩
  go_wp2_with fail
  refine (limited_ok q m cap' ys _ hn' hc' hm' h' hs').mono ?_
  rintro e w' ⟨rfl, rfl⟩
  go_wp2_with fail
  go_ret3
  exact ⟨rfl, rfl⟩

/-- Of a list of our own: answered trimmed, if it isn't too big. -/
theorem limited_own (g n : Nat) (zs : List Int) (w : World) (hn : zs.length = n) (hm : n ≤ 140737488355328) (h : Own w g zs) (hl : Nm.Limbs zs) (B : Nat) (hB : B ≤ g) (hs : Nm.val zs < Nm.pw 4096) :
    Calls Tryz.prog 89 #[.slice (some ⟨g, 0, none⟩) n n] w fun e w' => ∃ p ys, e = .returned (.tuple #[.slice p (List.length ys) (List.length ys), .int .i64 0]) ∧ Ans B w p ys (Nm.val zs) ∧ w' = w := by
  refine (limited_ok (some ⟨g, 0, none⟩) n n zs w hn (Nat.le_refl _) hm h.lies ((Nm.tsize_le_iff hl 4096).2 hs)).mono ?_
  rintro e w' ⟨rfl, rfl⟩
  refine ⟨some ⟨g, 0, none⟩, Nm.trim zs, ?_, ⟨h.lies.take _, hl.take _, ?_, Nm.val_trim zs, ?_⟩, rfl⟩
  · rw [Nm.trim_length]
  · rw [Nm.trim_trim, Nm.trim_length]
  · intro a ha
    cases ha
    exact hB

theorem limited_own_big (g n : Nat) (zs : List Int) (w : World) (hn : zs.length = n) (hm : n ≤ 140737488355328) (h : Own w g zs) (hl : Nm.Limbs zs) (hs : Nm.pw 4096 ≤ Nm.val zs) :
    Calls Tryz.prog 89 #[.slice (some ⟨g, 0, none⟩) n n] w fun e w' => e = .returned (.tuple #[.slice none 0 0, .int .i64 2]) ∧ w' = w := by
  refine limited_big (some ⟨g, 0, none⟩) n n zs w hn (Nat.le_refl _) hm h.lies ?_
  have := Nm.tsize_le_iff hl 4096
  omega

end Go.Proofs.YtjkefcikepnbpaaGreatDoor

namespace Go.Proofs.YtjkefcikepnbpaaGreatDoor
open Go.RowKit Go.Deep

/-- -1, 0 or 1. -/
def cmpI (x y : Int) : Int := if x < y then -1 else if x = y then 0 else 1

theorem cmpI_lt {x y : Int} (h : x < y) : cmpI x y = -1 := by rw [cmpI, if_pos h]
theorem cmpI_eq {x y : Int} (h : x = y) : cmpI x y = 0 := by rw [cmpI, if_neg (by omega), if_pos h]
theorem cmpI_gt {x y : Int} (h : y < x) : cmpI x y = 1 := by rw [cmpI, if_neg (by omega), if_neg (by omega)]

theorem below_drewN {B : Nat} {a w : World} (h : Below B a w) : ∀ n, Below B a (w.drewN n) := by
  intro n
  exact ⟨h.os, h.tape, h.output, h.size, h.block⟩

/-- A slice with an element in it has an address. -/
theorem Lies.at {w : World} {p : Option Addr} {zs : List Int} (h : Lies w p zs) (h0 : 0 < zs.length) :
    ∃ b off, p = some ⟨b, off, none⟩ ∧ b < w.heap.size ∧ Hid (∀ i, i < zs.length → w.cell? ⟨b, off + i, none⟩ = some (.int .u64 (zs.getD i 0))) := by
  rcases h with rfl | ⟨b, off, hp, h⟩
  · simp at h0
  · exact ⟨b, off, hp, cell_lt (h 0 h0), h⟩

theorem val_lt_of_tsize {zs ys : List Int} (hz : Nm.Limbs zs) (hy : Nm.Limbs ys) (h : Nm.tsize zs < Nm.tsize ys) : Nm.val zs < Nm.val ys := by
  have h1 := Nm.val_lt_tsize hz
  have h2 := Nm.val_ge_top hy (by omega)
  have h3 := Nm.pw_mono (show Nm.tsize zs ≤ Nm.tsize ys - 1 by omega)
  omega

theorem ret_i64 {a b : Int} (h : a = b) : Ending.returned (.int .i64 a) = .returned (.int .i64 b) := by rw [h]
end Go.Proofs.YtjkefcikepnbpaaGreatDoor

namespace Go.Proofs.YtjkefcikepnbpaaGreatDoor
open Go.RowKit Go.Deep

def OwnB (w : World) (g : Nat) (zs : List Int) : Prop := w.heap[g]? = some (.cells (zs.map (Value.int .u8)).toArray 5 (0, 0))

theorem OwnB.cell {w : World} {g : Nat} {zs : List Int} (h : OwnB w g zs) (i : Nat) (hi : i < zs.length) : w.cell? ⟨g, i, none⟩ = some (.int .u8 (zs.getD i 0)) := by
  simp only [OwnB] at h
  simp [World.cell?, h, List.getD, hi]

theorem OwnB.free {w : World} {g : Nat} {zs : List Int} (h : OwnB w g zs) (i : Nat) : w.frozen? ⟨g, i, none⟩ = false := by
  simp only [OwnB] at h
  simp [World.frozen?, h]

theorem OwnB.lt {w : World} {g : Nat} {zs : List Int} (h : OwnB w g zs) : g < w.heap.size := by
  rcases Nat.lt_or_ge g w.heap.size with hl | hl
  · exact hl
  · simp [OwnB, Array.getElem?_eq_none hl] at h

theorem OwnB.set {w : World} {g : Nat} {zs : List Int} (h : OwnB w g zs) (i : Nat) (s : Int) : OwnB (w.setCell ⟨g, i, none⟩ (.int .u8 s)) g (zs.set i s) := by
  have hl := h.lt
  simp only [OwnB] at h ⊢
  simp [World.setCell, Array.getElem?_modify, h, List.map_set]

theorem OwnB.below {w w' : World} {B g : Nat} {zs : List Int} (h : OwnB w g zs) (hb : Below B w w') (hg : g < B) : OwnB w' g zs := by
  simp only [OwnB] at h ⊢
  rw [hb.block g hg, h]

theorem OwnB.drewN {w : World} {g : Nat} {zs : List Int} (h : OwnB w g zs) (n : Nat) : OwnB (w.drewN n) g zs := h

theorem OwnB.alloc (w : World) (zs : List Int) : OwnB (w.alloc (.cells (zs.map (Value.int .u8)).toArray 5)) w.heap.size zs := by
  show (w.heap.push _)[w.heap.size]? = _
  rw [Array.getElem?_push, if_pos rfl]

theorem made_zero8 (n : Nat) : madeCells #[Value.int .u8 0] n = ((List.replicate n (0 : Int)).map (Value.int .u8)).toArray := by
  apply Array.toList_inj.1
  rw [toList_madeCells_one]
  simp

theorem info8 : (Tryz.prog.info? 5).map (fun i => (i.zero, i.size, i.bytes)) = some (some (.int .u8 0), 1, 1) := by kernel_rfl

/-- make([]byte, n). -/
theorem make8 (n : Nat) (h : n ≤ 35184372088832) (w : World) :
    (Instr.makeSlice 38 (.int .i64 (n : Int)) (.int .i64 (n : Int))).run Tryz.prog w = .ok (.slice (some ⟨w.heap.size, 0, none⟩) n n) (w.alloc (.cells (madeCells #[.int .u8 0] n) 5)) :=
  run_make_row' 38 5 (.int .u8 0) 1 Tryz.underlying38 info8 rfl .i64 .i64 n (by omega) (by omega) w

/-- Only the block g, and new ones, have changed. -/
structure Only (g : Nat) (w w' : World) : Prop where
  os : w'.os = w.os
  tape : w'.tape = w.tape
  output : w'.output = w.output
  size : w.heap.size ≤ w'.heap.size
  block : ∀ j, j < w.heap.size → j ≠ g → w'.heap[j]? = w.heap[j]?

theorem Only.refl (g : Nat) (w : World) : Only g w w := ⟨rfl, rfl, rfl, Nat.le_refl _, fun _ _ _ => rfl⟩
theorem Only.trans {g : Nat} {a b c : World} (h : Only g a b) (k : Only g b c) : Only g a c :=
  ⟨k.os.trans h.os, k.tape.trans h.tape, k.output.trans h.output, Nat.le_trans h.size k.size, fun i hi hs => (k.block i (Nat.lt_of_lt_of_le hi h.size) hs).trans (h.block i hi hs)⟩
theorem Only.of_below {g : Nat} {a b : World} (h : Below a.heap.size a b) : Only g a b := ⟨h.os, h.tape, h.output, h.size, fun i hi _ => h.block i hi⟩
theorem Only.below {g B : Nat} {a b : World} (h : Only g a b) (hg : B ≤ g) (hB : B ≤ a.heap.size) : Below B a b := ⟨h.os, h.tape, h.output, h.size, fun i hi => h.block i (by omega) (by omega)⟩
theorem Only.set {w : World} {g : Nat} (i : Nat) (v : Value) : Only g w (w.setCell ⟨g, i, none⟩ v) := by
  refine ⟨rfl, rfl, rfl, by simp [World.setCell], fun j _ hne => ?_⟩
  simp only [World.setCell, Array.getElem?_modify]
  rw [if_neg (fun h => hne h.symm)]
theorem Only.drewN {g : Nat} {a b : World} (h : Only g a b) (n : Nat) : Only g a (b.drewN n) := ⟨h.os, h.tape, h.output, h.size, h.block⟩
theorem Only.cell {g : Nat} {a b : World} (h : Only g a b) {p : Addr} {v : Value} (hc : a.cell? p = some v) (hp : p.block ≠ g) : b.cell? p = some v := by
  have := h.block p.block (cell_lt hc) hp
  rw [← hc]
  simp only [World.cell?, this]

theorem Lies.only {w w' : World} {g : Nat} {p : Option Addr} {zs : List Int} (h : Lies w p zs) (k : Only g w w') (hp : ∀ a, p = some a → a.block ≠ g) : Lies w' p zs := by
  rcases h with h | ⟨b, off, rfl, h⟩
  · exact .inl h
  · exact .inr ⟨b, off, rfl, fun i hi => k.cell (h i hi) (hp ⟨b, off, none⟩ rfl)⟩

theorem Arg.only {w w' : World} {g : Nat} {p : Option Addr} {n cap : Nat} {zs : List Int} (h : Arg w p n cap zs) (k : Only g w w') (hp : ∀ a, p = some a → a.block ≠ g) : Arg w' p n cap zs := ⟨h.1, h.2.1, h.2.2.1, h.2.2.2.1.only k hp, h.2.2.2.2⟩

/-- Digits written into a row of bytes, from a place on. -/
def put (ds : List Int) (o : Nat) (xs : List Int) : List Int := ds.take o ++ xs ++ ds.drop (o + xs.length)

theorem put_length (ds : List Int) (o : Nat) (xs : List Int) (h : o + xs.length ≤ ds.length) : (put ds o xs).length = ds.length := by
  simp [put]
  omega

theorem put_nil (ds : List Int) (o : Nat) : put ds o [] = ds := by simp [put]

/-- One more at the head. -/
theorem put_head (ds : List Int) (o : Nat) (x : Int) (xs : List Int) (h : o + 1 + xs.length ≤ ds.length) : (put ds (o + 1) xs).set o x = put ds o (x :: xs) := by
  have h1 : ds.take (o + 1) = ds.take o ++ [ds.getD o 0] := by
    rw [List.take_add_one]
    simp [List.getElem?_eq_getElem (show o < ds.length by omega)]
  simp only [put, h1, List.length_cons]
  rw [List.append_assoc, List.append_assoc, List.set_append_right _ _ (by simp; omega)]
  simp [show min o ds.length = o by omega, show o + 1 + xs.length = o + (xs.length + 1) by omega]

/-- Two rows side by side. -/
theorem put_two (ds : List Int) (o : Nat) (xs ys : List Int) (h : o + xs.length + ys.length ≤ ds.length) : put (put ds o xs) (o + xs.length) ys = put ds o (xs ++ ys) := by
  have hl : (ds.take o ++ xs).length = o + xs.length := by simp; omega
  simp only [put]
  rw [List.take_append_of_le_length (by omega), List.take_of_length_le (by omega), ← hl, List.drop_append, List.drop_of_length_le (by omega), List.nil_append, List.drop_drop]
  simp only [hl, List.length_append, List.append_assoc]
  congr 4
  omega
end Go.Proofs.YtjkefcikepnbpaaGreatDoor

namespace Go.Proofs.YtjkefcikepnbpaaGreatDoor
open Go Go.RowKit Go.Deep

theorem alloc_b (w : World) (A : Obj) : Below w.heap.size w (w.alloc A) := Below.alloc (w := w) (Below.refl w.heap.size w) (Nat.le_refl _) A

theorem below_on {a b c : World} (h : Below a.heap.size a b) (k : Below b.heap.size b c) : Below a.heap.size a c := h.trans (k.mono h.size)

/-- Five cells that may be written. -/
def Row5 (w : World) (b t : Nat) (v0 v1 v2 v3 v4 : Value) : Prop := w.heap[b]? = some (.cells #[v0, v1, v2, v3, v4] t (0, 0))

theorem Row5.below {B : Nat} {w w' : World} {b t : Nat} {v0 v1 v2 v3 v4 : Value} (h : Row5 w b t v0 v1 v2 v3 v4) (hB : Below B w w') (hb : b < B) : Row5 w' b t v0 v1 v2 v3 v4 := by
  rw [Row5, hB.block b hb]; exact h

theorem Row5.lt {w : World} {b t : Nat} {v0 v1 v2 v3 v4 : Value} (h : Row5 w b t v0 v1 v2 v3 v4) : b < w.heap.size := by
  rcases Nat.lt_or_ge b w.heap.size with hl | hl
  · exact hl
  · simp [Row5, Array.getElem?_eq_none hl] at h

theorem Row5.cells {w : World} {b t : Nat} {v0 v1 v2 v3 v4 : Value} (h : Row5 w b t v0 v1 v2 v3 v4) :
    (w.cell? ⟨b, 0, none⟩ = some v0 ∧ w.cell? ⟨b, 1, none⟩ = some v1 ∧ w.cell? ⟨b, 2, none⟩ = some v2 ∧ w.cell? ⟨b, 3, none⟩ = some v3 ∧ w.cell? ⟨b, 4, none⟩ = some v4) ∧
    (w.frozen? ⟨b, 0, none⟩ = false ∧ w.frozen? ⟨b, 1, none⟩ = false ∧ w.frozen? ⟨b, 2, none⟩ = false ∧ w.frozen? ⟨b, 3, none⟩ = false ∧ w.frozen? ⟨b, 4, none⟩ = false) := by
  simp only [Row5] at h
  refine ⟨⟨?_, ?_, ?_, ?_, ?_⟩, ⟨?_, ?_, ?_, ?_, ?_⟩⟩ <;> simp [World.cell?, World.frozen?, h]

theorem Row5.new (w : World) (t : Nat) (v0 v1 v2 v3 v4 : Value) : Row5 (w.alloc (.cells #[v0, v1, v2, v3, v4] t)) w.heap.size t v0 v1 v2 v3 v4 := heap_alloc_new w _

theorem set1 {w : World} {b o t : Nat} {v : Value} {c c' : Array Value} (h : w.heap[b]? = some (.cells c t (0, 0))) (e : c.setIfInBounds o v = c') : (w.setCell ⟨b, o, none⟩ v).heap[b]? = some (.cells c' t (0, 0)) := by
  subst e
  simp [World.setCell, Array.getElem?_modify, h]

theorem Row5.set_far {w : World} {b t c o : Nat} {v v0 v1 v2 v3 v4 : Value} (h : Row5 w b t v0 v1 v2 v3 v4) (hc : c ≠ b) : Row5 (w.setCell ⟨c, o, none⟩ v) b t v0 v1 v2 v3 v4 := by
  simp only [Row5] at *
  simp only [World.setCell, Array.getElem?_modify]
  rw [if_neg hc]; exact h

theorem results_row_tmp {P : Program} {fn : Func} {p u : Tmp} {ty : TypeId} (h : fn.results = #[.cell p ty, .tmp u]) (tmps : Array Value) (w : World) (g : Nat) (t : TypeId) (cs : Array Value) (fr : Nat × Nat) (d : TypeDesc)
    (hp : tmps.getD p undef = .pointer (some ⟨g, 0, none⟩)) (hg : w.heap[g]? = some (.cells cs t fr))
    (hu : P.underlying ty = some d) (hd : (match d with | .struct _ | .array _ _ => true | _ => false) = true) (hi : (P.info? ty).map (·.size) = some cs.size) :
    (results fn tmps).run P w = .ok (.tuple #[.agg cs, tmps.getD u undef]) w := by
  rw [results_cell_tmp h, hp]
  simp [asAddr, run_loadVar_row w g t ty cs fr d hg hu hd hi, Result.andThen]

end Go.Proofs.YtjkefcikepnbpaaGreatDoor

namespace Go.Proofs.YtjkefcikepnbpaaGreatDoor
namespace Sc

def pk (xs : List Int) (i : Nat) : Int := xs.getD i 0
def dg (x : Int) : Bool := decide (48 ≤ x) && decide (x ≤ 57)
def bl (x : Int) : Bool := decide (x = 32) || (decide (9 ≤ x) && decide (x ≤ 13))
/-- How many bytes from place i on have p, one behind the other. -/
def run (p : Int → Bool) (xs : List Int) (i : Nat) : Nat := ((xs.drop i).takeWhile p).length
def sg (xs : List Int) (i : Nat) : Nat := if pk xs i = 43 ∨ pk xs i = 45 then 1 else 0

theorem dg_iff {x : Int} : dg x = true ↔ 48 ≤ x ∧ x ≤ 57 := by simp [dg]
theorem pk_ge {xs : List Int} {i : Nat} (h : xs.length ≤ i) : pk xs i = 0 := by simp [pk, List.getD, List.getElem?_eq_none h]
theorem pk_take (xs : List Int) (m i : Nat) : pk (xs.take m) i = if i < m then pk xs i else 0 := by
  unfold pk
  by_cases h : i < m
  · simp [List.getD, h]
  · simp [List.getD, List.getElem?_take, h]
theorem pk_drop (xs : List Int) (m i : Nat) : pk (xs.drop m) i = pk xs (m + i) := by simp [pk, List.getD, List.getElem?_drop]
theorem run_step {p : Int → Bool} (hp : p 0 = false) (xs : List Int) (i : Nat) : run p xs i = if p (pk xs i) = true then run p xs (i + 1) + 1 else 0 := by
  unfold run
  rcases Nat.lt_or_ge i xs.length with h | h
  · rw [List.drop_eq_getElem_cons h, List.takeWhile_cons]
    have e : pk xs i = xs[i] := by simp [pk, List.getD, h]
    rw [e]
    split <;> simp
  · rw [List.drop_of_length_le h, pk_ge h, hp]
    simp

theorem run_zero {p : Int → Bool} (hp : p 0 = false) {xs : List Int} {i : Nat} (h : p (pk xs i) = false) : run p xs i = 0 := by
  rw [run_step hp, h]; simp
theorem run_succ {p : Int → Bool} (hp : p 0 = false) {xs : List Int} {i : Nat} (h : p (pk xs i) = true) : run p xs i = run p xs (i + 1) + 1 := by
  rw [run_step hp, h]; simp
theorem run_pos {p : Int → Bool} (hp : p 0 = false) {xs : List Int} {i : Nat} (h : 0 < run p xs i) : p (pk xs i) = true := by
  cases c : p (pk xs i) with
  | true => rfl
  | false => rw [run_zero hp c] at h; omega
theorem run_le (p : Int → Bool) (xs : List Int) (i : Nat) : run p xs i ≤ xs.length - i := by
  unfold run
  have := List.IsPrefix.length_le (List.takeWhile_prefix p (l := xs.drop i))
  rw [List.length_drop] at this
  exact this
theorem run_all {p : Int → Bool} {xs : List Int} {i : Nat} : ∀ j, j < run p xs i → p (pk xs (i + j)) = true := by
  intro j hj
  have h1 := List.takeWhile_prefix p (l := xs.drop i)
  obtain ⟨t, ht⟩ := h1
  have h2 : (xs.drop i)[j]? = ((xs.drop i).takeWhile p)[j]? := by
    conv => lhs; rw [← ht]
    rw [List.getElem?_append_left hj]
  rw [List.getElem?_drop, List.getElem?_eq_getElem hj] at h2
  have h3 : pk xs (i + j) = ((xs.drop i).takeWhile p)[j] := by simp [pk, List.getD, h2]
  rw [h3]
  have := List.all_takeWhile (p := p) (l := xs.drop i)
  rw [List.all_eq_true] at this
  exact this _ (List.getElem_mem hj)
theorem run_end {p : Int → Bool} (hp : p 0 = false) {xs : List Int} : ∀ (n i : Nat), run p xs i = n → p (pk xs (i + n)) = false := by
  intro n
  induction n with
  | zero =>
    intro i h
    rw [Nat.add_zero]
    cases c : p (pk xs i) with
    | false => rfl
    | true => rw [run_succ hp c] at h; omega
  | succ n ih =>
    intro i h
    have h1 := run_pos hp (show 0 < run p xs i by omega)
    rw [run_succ hp h1] at h
    have := ih (i + 1) (by omega)
    rw [show i + (n + 1) = i + 1 + n by omega]
    exact this
/-- A run is what it is: n bytes have p, the next one has not. -/
theorem run_is {p : Int → Bool} (hp : p 0 = false) {xs : List Int} : ∀ (n i : Nat), (∀ j, j < n → p (pk xs (i + j)) = true) → p (pk xs (i + n)) = false → run p xs i = n := by
  intro n
  induction n with
  | zero => intro i _ h; exact run_zero hp h
  | succ n ih =>
    intro i h1 h2
    have h0 := h1 0 (by omega)
    rw [Nat.add_zero] at h0
    rw [run_succ hp h0]
    rw [ih (i + 1) (fun j hj => by rw [show i + 1 + j = i + (j + 1) by omega]; exact h1 (j + 1) (by omega)) (by rw [show i + 1 + n = i + (n + 1) by omega]; exact h2)]
/-- A literal's parts: its sign, the digits ahead of and behind the point, the exponent that is written, the place behind it. -/
structure Lt where
  neg : Bool
  ah : List Int
  bh : List Int
  sc : Int
  en : Nat

/-- An exponent's digits as a number, cut at 10^15. -/
def cap (l : List Int) : Int := l.foldl (fun s x => min (10 * s + (x - 48)) 1000000000000000) 0
theorem cap_nil : cap [] = 0 := rfl
theorem cap_snoc (l : List Int) (x : Int) : cap (l ++ [x]) = min (10 * cap l + (x - 48)) 1000000000000000 := by simp [cap]
theorem take_snoc {xs : List Int} {v c : Nat} (h : v + c < xs.length) : (xs.drop v).take (c + 1) = (xs.drop v).take c ++ [pk xs (v + c)] := by
  rw [List.take_add_one, List.getElem?_drop, List.getElem?_eq_getElem h]
  simp [pk, List.getD, h]
/-- Where the digits behind the sign begin. -/
def p1 (xs : List Int) (k : Nat) : Nat := k + sg xs k
/-- Where they end. -/
def p2 (xs : List Int) (k : Nat) : Nat := p1 xs k + run dg xs (p1 xs k)
/-- How many digits stand behind the point. -/
def bn (xs : List Int) (k : Nat) : Nat := if pk xs (p2 xs k) = 46 then run dg xs (p2 xs k + 1) else 0
/-- The place behind the digits and the point. -/
def p3 (xs : List Int) (k : Nat) : Nat := if pk xs (p2 xs k) = 46 then p2 xs k + 1 + run dg xs (p2 xs k + 1) else p2 xs k
/-- Where the exponent's digits begin, behind a letter at t. -/
def p4 (xs : List Int) (t : Nat) : Nat := t + 1 + sg xs (t + 1)
def isE (x : Int) : Bool := decide (x = 101) || decide (x = 69)
/-- Has it an exponent? -/
def hasE (xs : List Int) (t : Nat) : Bool := isE (pk xs t) && dg (pk xs (p4 xs t))
def some? (xs : List Int) (k : Nat) : Prop := run dg xs (p1 xs k) + bn xs k ≠ 0
instance (xs : List Int) (k : Nat) : Decidable (some? xs k) := inferInstanceAs (Decidable (_ ≠ _))
def lit (xs : List Int) (k : Nat) : Lt :=
  { neg := decide (pk xs k = 45)
    ah := (xs.drop (p1 xs k)).take (run dg xs (p1 xs k))
    bh := (xs.drop (p2 xs k + 1)).take (bn xs k)
    sc := if hasE xs (p3 xs k) = true then (if pk xs (p3 xs k + 1) = 45 then - cap ((xs.drop (p4 xs (p3 xs k))).take (run dg xs (p4 xs (p3 xs k)))) else cap ((xs.drop (p4 xs (p3 xs k))).take (run dg xs (p4 xs (p3 xs k))))) else 0
    en := if hasE xs (p3 xs k) = true then p4 xs (p3 xs k) + run dg xs (p4 xs (p3 xs k)) else p3 xs k }
/-- A Dec. -/
structure D where
  neg : Bool
  ds : List Int
  e : Int
deriving DecidableEq

def z (x : Int) : Bool := decide (x = 48)
/-- Zeros at the head, at the end. -/
def lz (ds : List Int) : Nat := (ds.takeWhile z).length
def tz (ds : List Int) : Nat := lz ds.reverse
/-- The normal form of digits with an exponent. -/
def nrm (neg : Bool) (ds : List Int) (e : Int) : D :=
  if lz ds = ds.length then ⟨neg, [48], 0⟩ else ⟨neg, (ds.drop (lz ds)).take (ds.length - tz ds - lz ds), e + tz ds⟩
def Lt.d (l : Lt) : D := nrm l.neg (l.ah ++ l.bh) (l.sc - l.bh.length)
end Sc
end Go.Proofs.YtjkefcikepnbpaaGreatDoor

namespace Go.Proofs.YtjkefcikepnbpaaGreatDoor
open Go.RowKit Go.Deep

/-- s has just these bytes. -/
def Str (s : ByteArray) (xs : List Int) : Prop := s.data.toList.map (fun b => (b.toNat : Int)) = xs

theorem Str.size {s : ByteArray} {xs : List Int} (h : Str s xs) : s.size = xs.length := by
  rw [← h, List.length_map, Array.length_toList]
  rfl

theorem Str.at {s : ByteArray} {xs : List Int} (h : Str s xs) (t : Nat) (ht : t < s.size) : ((s[t]'ht).toNat : Int) = xs.getD t 0 := by
  rw [← h]
  have : t < s.data.toList.length := by rw [Array.length_toList]; exact ht
  simp only [List.getD_eq_getElem?_getD, List.getElem?_map, List.getElem?_eq_getElem this, Option.map_some, Option.getD_some]
  rfl

theorem Str.mem {s : ByteArray} {xs : List Int} (h : Str s xs) {x : Int} (hx : x ∈ xs) : 0 ≤ x ∧ x < 256 := by
  rw [← h] at hx
  obtain ⟨b, _, rfl⟩ := List.mem_map.1 hx
  have := b.toNat_lt
  omega

theorem Str.atb {s : ByteArray} {xs : List Int} (h : Str s xs) (t : Nat) : 0 ≤ xs.getD t 0 ∧ xs.getD t 0 < 256 := by
  by_cases ht : t < xs.length
  · have : xs.getD t 0 = xs[t] := by simp [List.getD, ht]
    rw [this]
    exact h.mem (List.getElem_mem ht)
  · rw [show xs.getD t 0 = 0 by simp [List.getD, List.getElem?_eq_none (show xs.length ≤ t by omega)]]
    omega

theorem Str.extract {s : ByteArray} {xs : List Int} (h : Str s xs) (a b : Nat) : Str (s.extract a b) ((xs.drop a).take (b - a)) := by
  unfold Str at *
  rw [← h, ByteArray.data_extract]
  simp [List.map_drop, List.map_take]

theorem Str.of_nums {xs : List Int} (h : ∀ x ∈ xs, 0 ≤ x ∧ x < 256) : Str (strOfNums xs) xs := by
  unfold Str
  rw [strOfNums_data, List.map_map]
  conv => rhs; rw [← List.map_id xs]
  apply List.map_congr_left
  intro x hx
  have := h x hx
  simp only [Function.comp, id]
  rw [UInt8.toNat_ofNat_of_lt' (by show x.toNat < 256; omega)]
  omega

theorem Str.inj {s t : ByteArray} {xs : List Int} (h : Str s xs) (k : Str t xs) : s = t := by
  unfold Str at h k
  have e : s.data.toList = t.data.toList := by
    rw [← k] at h
    exact List.map_inj_right (fun a b hab => by
      have : a.toNat = b.toNat := by omega
      exact UInt8.toNat_inj.1 this) |>.1 h
  cases s
  cases t
  simp only at e
  rw [Array.toList_inj.1 e]

/-- s == t, asked by the bytes. -/
theorem Str.eq {s t : ByteArray} {xs ys : List Int} (h : Str s xs) (k : Str t ys) : (s.toList == t.toList) = decide (xs = ys) := by
  by_cases e : xs = ys
  · subst e
    rw [h.inj k]
    simp
  · rw [decide_eq_false e, beq_eq_false_iff_ne]
    intro c
    apply e
    rw [ByteArray.toList_eq, ByteArray.toList_eq] at c
    rw [← h, ← k, c]
theorem str_nil0 : Str ⟨#[]⟩ [] := rfl
end Go.Proofs.YtjkefcikepnbpaaGreatDoor



namespace Go.Proofs.YtjkefcikepnbpaaGreatDoor
namespace Sc

theorem z_iff {x : Int} : z x = true ↔ x = 48 := by simp [z]
theorem z_not {x : Int} : z x = false ↔ x ≠ 48 := by simp [z]
theorem z0 : z 0 = false := rfl
theorem lz_run (ds : List Int) : lz ds = run z ds 0 := by simp [lz, run]
theorem pk_rev (ds : List Int) (i : Nat) (h : i < ds.length) : pk ds.reverse i = pk ds (ds.length - 1 - i) := by
  simp only [pk, List.getD]
  rw [List.getElem?_reverse h]
theorem lz_is {ds : List Int} {j : Nat} (h1 : ∀ i, i < j → pk ds i = 48) (h2 : pk ds j ≠ 48) : lz ds = j := by
  rw [lz_run]
  apply run_is z0
  · intro i hi; rw [Nat.zero_add, z_iff]; exact h1 i hi
  · rw [Nat.zero_add, z_not]; exact h2
theorem tz_is {ds : List Int} {k : Nat} (hk : k ≤ ds.length) (h1 : ∀ i, k ≤ i → i < ds.length → pk ds i = 48) (h2 : 0 < k → pk ds (k - 1) ≠ 48) : tz ds = ds.length - k := by
  unfold tz
  apply lz_is
  · intro i hi; rw [pk_rev ds i (by omega)]; exact h1 _ (by omega) (by omega)
  · by_cases c : k = 0
    · subst c; rw [pk_ge (by simp)]; omega
    · rw [pk_rev ds _ (by omega), show ds.length - 1 - (ds.length - k) = k - 1 by omega]; exact h2 (by omega)
theorem lz_le (ds : List Int) : lz ds ≤ ds.length := by rw [lz_run]; have := run_le z ds 0; omega
theorem lz_at {ds : List Int} {i : Nat} (h : i < lz ds) : pk ds i = 48 := by
  rw [lz_run] at h
  have := run_all i h
  rw [Nat.zero_add, z_iff] at this; exact this
theorem lz_end (ds : List Int) : pk ds (lz ds) ≠ 48 := by
  rw [lz_run]
  have := run_end z0 (xs := ds) _ 0 rfl
  rw [Nat.zero_add, z_not] at this; exact this
theorem tz_le (ds : List Int) : tz ds ≤ ds.length := by unfold tz; have := lz_le ds.reverse; simpa using this
theorem tz_at {ds : List Int} {i : Nat} (h : ds.length - tz ds ≤ i) (hi : i < ds.length) : pk ds i = 48 := by
  have := lz_at (ds := ds.reverse) (i := ds.length - 1 - i) (by unfold tz at h; have := tz_le ds; unfold tz at this; omega)
  rw [pk_rev ds _ (by omega)] at this
  rw [show ds.length - 1 - (ds.length - 1 - i) = i by omega] at this; exact this
theorem tz_end {ds : List Int} (h : tz ds < ds.length) : pk ds (ds.length - tz ds - 1) ≠ 48 := by
  have := lz_end ds.reverse
  unfold tz at *
  rw [pk_rev ds _ h] at this
  rw [show ds.length - lz ds.reverse - 1 = ds.length - 1 - lz ds.reverse by omega]; exact this
/-- Where not all digits are zeros, the zeros at the head and at the end don't meet. -/
theorem lz_tz {ds : List Int} (h : lz ds ≠ ds.length) : lz ds + tz ds < ds.length := by
  have h1 := lz_le ds
  have h2 := lz_end ds
  have h3 := tz_le ds
  rcases Nat.lt_or_ge (lz ds + tz ds) ds.length with c | c
  · exact c
  · exact absurd (tz_at (ds := ds) (i := lz ds) (by omega) (by omega)) h2

theorem nrm_zero {neg : Bool} {ds : List Int} {e : Int} (h : lz ds = ds.length) : nrm neg ds e = ⟨neg, [48], 0⟩ := by unfold nrm; rw [if_pos h]
theorem nrm_pos {neg : Bool} {ds : List Int} {e : Int} (h : lz ds ≠ ds.length) : nrm neg ds e = ⟨neg, (ds.drop (lz ds)).take (ds.length - tz ds - lz ds), e + tz ds⟩ := by unfold nrm; rw [if_neg h]
theorem nrm_neg (neg : Bool) (ds : List Int) (e : Int) : (nrm neg ds e).neg = neg := by unfold nrm; split <;> rfl

/-- What two trims leave is the normal form. -/
theorem nrm_of_trims {neg : Bool} {ds : List Int} {e : Int} {j k : Nat} (hj : j < ds.length) (h1 : ∀ i, i < j → ds.getD i 0 = 48) (h2 : ds.getD j 0 ≠ 48)
    (hk : k ≤ (ds.drop j).length) (h3 : ∀ i, k ≤ i → i < (ds.drop j).length → (ds.drop j).getD i 0 = 48) (h4 : 0 < k → (ds.drop j).getD (k - 1) 0 ≠ 48) :
    nrm neg ds e = ⟨neg, (ds.drop j).take k, e + (ds.drop j).length - k⟩ ∧ 0 < k := by
  have e1 : lz ds = j := lz_is h1 h2
  have hd : ∀ i, (ds.drop j).getD i 0 = pk ds (j + i) := fun i => pk_drop ds j i
  rw [List.length_drop] at *
  have k0 : 0 < k := by
    rcases Nat.eq_zero_or_pos k with c | c
    · subst c
      have := h3 0 (Nat.le_refl _) (by omega)
      rw [hd] at this
      exact absurd this h2
    · exact c
  have e2 : tz ds = ds.length - (j + k) := by
    apply tz_is (by omega)
    · intro i hi1 hi2
      have := h3 (i - j) (by omega) (by omega)
      rw [hd, show j + (i - j) = i by omega] at this; exact this
    · intro _
      have := h4 k0
      rw [hd, show j + (k - 1) = j + k - 1 by omega] at this; exact this
  refine ⟨?_, k0⟩
  rw [nrm_pos (by omega), e1, e2, show ds.length - (ds.length - (j + k)) - j = k by omega]
  congr 1
  omega
theorem nrm_of_none {neg : Bool} {ds : List Int} {e : Int} (h : ∀ i, i < ds.length → ds.getD i 0 = 48) : nrm neg ds e = ⟨neg, [48], 0⟩ := by
  apply nrm_zero
  have h1 := lz_le ds
  have h2 := lz_end ds
  rcases Nat.lt_or_ge (lz ds) ds.length with c | c
  · exact absurd (h _ c) h2
  · omega

/-- What Number answers: the Dec and the place. -/
def num (xs : List Int) : D × Nat := if some? xs (run bl xs 0) then ((lit xs (run bl xs 0)).d, (lit xs (run bl xs 0)).en) else (⟨false, [], 0⟩, 0)
theorem nrm_len (neg : Bool) (ds : List Int) (e : Int) : (nrm neg ds e).ds.length ≤ ds.length + 1 := by
  unfold nrm
  split
  · simp
  · simp only [List.length_take, List.length_drop]; omega
theorem nrm_e (neg : Bool) (ds : List Int) (e : Int) : (nrm neg ds e).e = 0 ∨ (e ≤ (nrm neg ds e).e ∧ (nrm neg ds e).e ≤ e + ds.length) := by
  unfold nrm
  split
  · exact .inl rfl
  · have := tz_le ds
    refine .inr ⟨?_, ?_⟩
    · show e ≤ e + tz ds; omega
    · show e + (tz ds : Int) ≤ e + ds.length; omega
end Sc
end Go.Proofs.YtjkefcikepnbpaaGreatDoor

namespace Go.Proofs.YtjkefcikepnbpaaGreatDoor
namespace Sc

def big : Int := 1152921504606846976
/-- A Dec, by the chapter's words. -/
def IsDec (ds : List Int) (e : Int) : Prop := ds ≠ [] ∧ -1152921504606846976 ≤ e ∧ e ≤ 1152921504606846976 ∧ (∀ x ∈ ds, dg x = true) ∧ (lz ds ≠ ds.length → e + tz ds ≤ 1152921504606846976)
instance (ds : List Int) (e : Int) : Decidable (IsDec ds e) := inferInstanceAs (Decidable (_ ∧ _ ∧ _ ∧ _ ∧ _))

def cmpI (x y : Int) : Int := if x < y then -1 else if y < x then 1 else 0
theorem cmpI_c (x y : Int) : (x < y ∧ cmpI x y = -1) ∨ (x = y ∧ cmpI x y = 0) ∨ (y < x ∧ cmpI x y = 1) := by
  unfold cmpI
  rcases Int.lt_trichotomy x y with h | h | h
  · exact .inl ⟨h, by rw [if_pos h]⟩
  · exact .inr (.inl ⟨h, by rw [if_neg (by omega), if_neg (by omega)]⟩)
  · exact .inr (.inr ⟨h, by rw [if_neg (by omega), if_pos h]⟩)
def lex : List Int → List Int → Int
  | [], [] => 0
  | [], _ :: _ => -1
  | _ :: _, [] => 1
  | a :: as_, b :: bs => if a < b then -1 else if b < a then 1 else lex as_ bs
theorem lex_b (a b : List Int) : lex a b = -1 ∨ lex a b = 0 ∨ lex a b = 1 := by
  induction a generalizing b with
  | nil => cases b <;> simp [lex]
  | cons x a ih =>
    cases b with
    | nil => simp [lex]
    | cons y b => simp only [lex]; split; · simp
                  · split; · simp
                    · exact ih b
theorem lex_anti (a b : List Int) : lex b a = - lex a b := by
  induction a generalizing b with
  | nil => cases b <;> simp [lex]
  | cons x a ih =>
    cases b with
    | nil => simp [lex]
    | cons y b =>
      simp only [lex]
      rcases Int.lt_trichotomy x y with h | h | h
      · rw [if_neg (by omega), if_pos h, if_pos h]; rfl
      · rw [if_neg (by omega), if_neg (by omega), if_neg (by omega), if_neg (by omega)]; exact ih b
      · rw [if_pos h, if_neg (by omega), if_pos h]
theorem lex_zero (a b : List Int) : lex a b = 0 ↔ a = b := by
  induction a generalizing b with
  | nil => cases b <;> simp [lex]
  | cons x a ih =>
    cases b with
    | nil => simp [lex]
    | cons y b =>
      simp only [lex]
      rcases Int.lt_trichotomy x y with h | h | h
      · rw [if_pos h]; simp; omega
      · subst h; simp [ih]
      · rw [if_neg (by omega), if_pos h]; simp; omega
/-- Sizes alone. -/
def pl (d : D) : Int := d.e + d.ds.length
def mc (a b : D) : Int := if pl a ≠ pl b then cmpI (pl a) (pl b) else lex a.ds b.ds
def sgn (d : D) : Int := if d.ds = [48] then 0 else if d.neg = true then -1 else 1
/-- What Cmp answers of two normal Decs. -/
def cmpD (a b : D) : Int := if sgn a ≠ sgn b then cmpI (sgn a) (sgn b) else if a.neg = true then mc b a else mc a b

theorem mc_b (a b : D) : mc a b = -1 ∨ mc a b = 0 ∨ mc a b = 1 := by
  unfold mc
  split
  · rcases cmpI_c (pl a) (pl b) with h | h | h <;> omega
  · exact lex_b _ _
theorem mc_anti (a b : D) : mc b a = - mc a b := by
  unfold mc
  by_cases h : pl a = pl b
  · rw [if_neg (by omega), if_neg (by omega)]; exact lex_anti _ _
  · rw [if_pos (by omega), if_pos h]
    rcases cmpI_c (pl a) (pl b) with k | k | k <;> rcases cmpI_c (pl b) (pl a) with l | l | l <;> omega
theorem mc_zero (a b : D) : mc a b = 0 ↔ a.ds = b.ds ∧ a.e = b.e := by
  unfold mc
  by_cases h : pl a = pl b
  · rw [if_neg (by omega), lex_zero]
    unfold pl at h
    constructor
    · intro k; rw [k] at h; exact ⟨k, by omega⟩
    · exact fun k => k.1
  · rw [if_pos h]
    constructor
    · intro k; rcases cmpI_c (pl a) (pl b) with l | l | l <;> omega
    · intro k; exfalso; apply h; unfold pl; rw [k.1, k.2]
/-- A normal Dec. -/
def Nrm (d : D) : Prop := (d.ds = [48] ∧ d.e = 0) ∨ d.ds ≠ [48]
theorem sgn_c (d : D) : (d.ds = [48] ∧ sgn d = 0) ∨ (d.ds ≠ [48] ∧ d.neg = true ∧ sgn d = -1) ∨ (d.ds ≠ [48] ∧ d.neg = false ∧ sgn d = 1) := by
  unfold sgn
  by_cases h : d.ds = [48]
  · exact .inl ⟨h, by rw [if_pos h]⟩
  · cases k : d.neg with
    | true => exact .inr (.inl ⟨h, rfl, by rw [if_neg h]; rfl⟩)
    | false => exact .inr (.inr ⟨h, rfl, by rw [if_neg h]; rfl⟩)
end Sc
end Go.Proofs.YtjkefcikepnbpaaGreatDoor

/-
  Doubles as numbers: mantissa, exponent, middles; what it is to be rounded.
-/
namespace Go.Proofs.YtjkefcikepnbpaaGreatDoor
namespace Ie

/-- The mantissa of the double x (its bits, no sign). -/
def man (x : Int) : Int := if x < 4503599627370496 then x else 4503599627370496 + x % 4503599627370496

/-- Its exponent and 1074. -/
def ex (x : Int) : Nat := (x / 4503599627370496 - 1).toNat

/-- Its value, in units of 2^-1075. -/
def vl (x : Int) : Int := 2 * man x * 2 ^ ex x

/-- The middle between it and the next one. -/
def md (x : Int) : Int := (2 * man x + 1) * 2 ^ ex x

theorem md_eq (x : Int) : md x = vl x + 2 ^ ex x := by rw [md, vl, Int.add_mul, Int.one_mul]

theorem vl_lt_md (x : Int) : vl x < md x := by have := md_eq x; have := Nm.two_pos (ex x); omega

theorem vl_succ (x : Int) (h : 0 ≤ x) : vl (x + 1) = vl x + 2 * 2 ^ ex x := by
  have hp := Nm.two_pos (ex x)
  by_cases h1 : x + 1 < 4503599627370496
  · have e : ex (x + 1) = ex x := by simp only [ex]; omega
    rw [vl, e, vl, man, man, if_pos h1, if_pos (by omega), Int.mul_add, Int.add_mul]
    omega
  · by_cases h2 : x < 4503599627370496
    · have hx : x = 4503599627370495 := by omega
      subst hx
      decide
    · by_cases h3 : x % 4503599627370496 = 4503599627370495
      · have e : ex (x + 1) = ex x + 1 := by simp only [ex]; omega
        have m : (x + 1) % 4503599627370496 = 0 := by omega
        rw [vl, e, vl, man, man, if_neg h1, if_neg h2, m, h3, Nm.two_succ]
        omega
      · have e : ex (x + 1) = ex x := by simp only [ex]; omega
        have m : (x + 1) % 4503599627370496 = x % 4503599627370496 + 1 := by omega
        rw [vl, e, vl, man, man, if_neg h1, if_neg h2, m, Int.mul_add, Int.mul_add, Int.mul_add, Int.add_mul, Int.add_mul, Int.add_mul]
        omega

theorem md_lt_vl (x : Int) (h : 0 ≤ x) : md x < vl (x + 1) := by
  have := md_eq x; have := vl_succ x h; have := Nm.two_pos (ex x); omega

theorem vl_mono (x : Int) (h : 0 ≤ x) : ∀ k : Nat, vl x ≤ vl (x + k)
  | 0 => by simp
  | k + 1 => by
    have := vl_mono x h k
    have h1 := vl_succ (x + k) (by omega)
    have := Nm.two_pos (ex (x + k))
    have e : x + ((k + 1 : Nat) : Int) = x + (k : Int) + 1 := by omega
    rw [e]
    omega

theorem vl_le {x y : Int} (h : 0 ≤ x) (hxy : x ≤ y) : vl x ≤ vl y := by
  have := vl_mono x h (y - x).toNat
  rwa [show x + ((y - x).toNat : Int) = y by omega] at this

theorem md_lt {x y : Int} (h : 0 ≤ x) (hxy : x < y) : md x < md y := by
  have := md_lt_vl x h
  have := vl_le (x := x + 1) (y := y) (by omega) (by omega)
  have := vl_lt_md y
  omega

theorem man_nn (x : Int) (h : 0 ≤ x) : 0 ≤ man x ∧ man x < 9007199254740992 := by
  simp only [man]; split <;> omega

theorem vl_zero : vl 0 = 0 := by decide
theorem md_zero : md 0 = 1 := by decide
theorem md_nn (x : Int) (h : 0 ≤ x) : 0 < md x := by
  have h1 := man_nn x h
  exact Int.mul_pos (by omega) (Nm.two_pos _)

/-- The double x is what the number P / Q (in units of 2^-1075) is rounded to; more: a trifle above. -/
def Near (P Q : Int) (more : Bool) (x : Int) : Prop :=
  (0 ≤ x ∧ x ≤ 9218868437227405312) ∧ (0 < x → md (x - 1) * Q < P ∨ (md (x - 1) * Q = P ∧ (x % 2 = 0 ∨ more = true))) ∧
    (x < 9218868437227405312 → P < md x * Q ∨ (P = md x * Q ∧ x % 2 = 0 ∧ more = false))

theorem Near.mono {P Q P' Q' : Int} {m m' : Bool} {x y : Int} (hQ : 0 < Q) (hQ' : 0 < Q') (h : Near P Q m x) (h' : Near P' Q' m' y) (hv : P * Q' < P' * Q ∨ (P * Q' = P' * Q ∧ (m = true → m' = true))) : x ≤ y := by
  rcases (show y < x ∨ x ≤ y by omega) with hl | hl
  · exfalso
    have h1 := h.2.1 (by have := h'.1.1; omega)
    have h2 := h'.2.2 (by have := h.1.2; omega)
    have a1 : md (x - 1) * Q ≤ P := by rcases h1 with h | h <;> omega
    have a2 : P' ≤ md y * Q' := by rcases h2 with h | h <;> omega
    have b1 : md (x - 1) * Q * Q' ≤ P * Q' := Int.mul_le_mul_of_nonneg_right a1 (by omega)
    have b2 : P' * Q ≤ md y * Q' * Q := Int.mul_le_mul_of_nonneg_right a2 (by omega)
    have c1 : md (x - 1) * Q * Q' = md (x - 1) * (Q * Q') := Int.mul_assoc _ _ _
    have c2 : md y * Q' * Q = md y * (Q * Q') := by rw [Int.mul_assoc, Int.mul_comm Q' Q]
    have hq := Int.mul_pos hQ hQ'
    by_cases hxy : x - 1 = y
    · rw [hxy] at a1 b1 c1 h1
      have e1 : P * Q' = P' * Q := by rcases hv with h | h <;> omega
      have e2 : md y * (Q * Q') = P * Q' := by omega
      have e3 : md y * Q = P := by
        rcases h1 with h | h
        · have := Int.mul_lt_mul_of_pos_right h hQ'
          omega
        · exact h.1
      have e4 : P' = md y * Q' := by
        rcases h2 with h | h
        · have := Int.mul_lt_mul_of_pos_right h hQ
          omega
        · exact h.1
      rcases h1 with h | ⟨_, h⟩
      · omega
      · rcases h2 with h2 | ⟨_, h2, h3⟩
        · omega
        · rcases h with h | h
          · omega
          · rcases hv with hv | ⟨_, hv⟩
            · omega
            · rw [hv h] at h3; cases h3
    · have := md_lt h'.1.1 (show y < x - 1 by omega)
      have := Int.mul_lt_mul_of_pos_right this hq
      rcases hv with h | h <;> omega
  · exact hl

theorem Near.one {P Q P' Q' : Int} {m : Bool} {x y : Int} (hQ : 0 < Q) (hQ' : 0 < Q') (h : Near P Q m x) (h' : Near P' Q' m y) (hv : P * Q' = P' * Q) : x = y := by
  have h1 := h.mono hQ hQ' h' (.inr ⟨hv, id⟩)
  have h2 := h'.mono hQ' hQ h (.inr ⟨hv.symm, id⟩)
  omega

/-- How the mantissa m at the exponent U - 1074, and what the bits below say, make a double. -/
theorem near_of (P Q : Int) (more : Bool) (m : Int) (U : Nat) (hQ : 0 < Q) (h0 : 0 ≤ m) (h1 : m < 9007199254740992) (hU : 0 < U → 4503599627370496 ≤ m) (hU2 : U ≤ 2045)
    (lo : 2 * m * 2 ^ U * Q ≤ P) (hi : P < (2 * m + 2) * 2 ^ U * Q) (up : Bool)
    (hup : up = true → (2 * m + 1) * 2 ^ U * Q < P ∨ ((2 * m + 1) * 2 ^ U * Q = P ∧ (m % 2 = 1 ∨ more = true)))
    (hno : up = false → P < (2 * m + 1) * 2 ^ U * Q ∨ (P = (2 * m + 1) * 2 ^ U * Q ∧ m % 2 = 0 ∧ more = false)) :
    Near P Q more ((U : Int) * 4503599627370496 + m + if up = true then 1 else 0) := by
  obtain ⟨x, hx⟩ : ∃ x : Int, x = (U : Int) * 4503599627370496 + m := ⟨_, rfl⟩
  rw [← hx]
  have hm : man x = m := by
    simp only [man]
    split
    · rcases Nat.eq_zero_or_pos U with h | h
      · subst h; omega
      · have := hU h; omega
    · rcases Nat.eq_zero_or_pos U with h | h
      · subst h; omega
      · have := hU h; omega
  have he : ex x = U := by
    simp only [ex]
    rcases Nat.eq_zero_or_pos U with h | h
    · subst h; omega
    · have := hU h; omega
  have x0 : 0 ≤ x := by omega
  have hmd : md x = (2 * m + 1) * 2 ^ U := by rw [md, hm, he]
  have hvl : vl x = 2 * m * 2 ^ U := by rw [vl, hm, he]
  have hvs : vl (x + 1) = (2 * m + 2) * 2 ^ U := by rw [vl_succ x x0, hvl, he, Int.add_mul]
  cases up
  · have := hno rfl
    simp only [Bool.false_eq_true, if_false, Int.add_zero]
    refine ⟨⟨x0, by omega⟩, fun hp => .inl ?_, fun _ => ?_⟩
    · have h2 := md_lt_vl (x - 1) (by omega)
      rw [show x - 1 + 1 = x by omega] at h2
      have := Int.mul_lt_mul_of_pos_right h2 hQ
      rw [hvl] at this
      omega
    · rw [hmd]
      rcases this with h | ⟨h, h', h''⟩
      · exact .inl h
      · exact .inr ⟨h, by omega, h''⟩
  · have := hup rfl
    simp only [if_true]
    refine ⟨⟨by omega, by omega⟩, fun hp => ?_, fun _ => .inl ?_⟩
    · rw [show x + 1 - 1 = x by omega, hmd]
      rcases this with h | ⟨h, h'⟩
      · exact .inl h
      · refine .inr ⟨h, ?_⟩
        rcases h' with h' | h'
        · left; omega
        · exact .inr h'
    · have h2 := vl_lt_md (x + 1)
      have := Int.mul_lt_mul_of_pos_right h2 hQ
      rw [hvs] at this
      omega

/-- n * 2^e rounds to x. -/
def Rnd (n d e : Int) (more : Bool) (x : Int) : Prop := ∀ a b : Nat, (a : Int) - b = e + 1075 → Near (n * 2 ^ a) (d * 2 ^ b) more x

theorem md_last : md 9218868437227405311 = 18014398509481983 * 2 ^ 2045 := by
  have h1 : man 9218868437227405311 = 9007199254740991 := by decide
  have h2 : ex 9218868437227405311 = 2045 := by decide
  rw [md, h1, h2]
  rfl

theorem rnd_zero (d e : Int) (more : Bool) (hd : 0 < d) : Rnd 0 d e more 0 := by
  intro a b h
  refine ⟨⟨by omega, by omega⟩, fun h => absurd h (by omega), fun _ => .inl ?_⟩
  rw [Int.zero_mul, md_zero, Int.one_mul]
  exact Int.mul_pos hd (Nm.two_pos b)

/-- So great that it is infinity. -/
theorem rnd_inf (n d e : Int) (L M : Nat) (more : Bool) (hn : 2 ^ L ≤ n) (hd : d ≤ 2 ^ M) (he : 1024 ≤ (L : Int) - M + e) : Rnd n d e more 9218868437227405312 := by
  intro a b h
  refine ⟨⟨by omega, by omega⟩, fun _ => .inl ?_, fun h => absurd h (by omega)⟩
  rw [show (9218868437227405312 : Int) - 1 = 9218868437227405311 by omega, md_last]
  have h1 : (2 : Int) ^ (L + a) ≤ n * 2 ^ a := by rw [Nm.two_add]; exact Int.mul_le_mul_of_nonneg_right hn (by have := Nm.two_pos a; omega)
  have h2 : d * 2 ^ b ≤ 2 ^ (M + b) := by rw [Nm.two_add]; exact Int.mul_le_mul_of_nonneg_right hd (by have := Nm.two_pos b; omega)
  have h3 : (18014398509481983 : Int) * 2 ^ 2045 * (d * 2 ^ b) ≤ 18014398509481983 * 2 ^ 2045 * 2 ^ (M + b) :=
    Int.mul_le_mul_of_nonneg_left h2 (Int.mul_nonneg (by omega) (by have := Nm.two_pos 2045; omega))
  have h4 : (2 : Int) ^ (54 + (2045 + (M + b))) ≤ 2 ^ (L + a) := Nm.two_mono (by omega)
  rw [Nm.two_add 54, Nm.two_add 2045] at h4
  rw [Int.mul_assoc 18014398509481983 (2 ^ 2045) (2 ^ (M + b))] at h3
  have h5 := Int.mul_pos (Nm.two_pos 2045) (Nm.two_pos (M + b))
  have h6 : (2 : Int) ^ 54 = 18014398509481984 := by decide
  rw [h6] at h4
  generalize (2 : Int) ^ 2045 * 2 ^ (M + b) = z at h3 h4 h5
  omega

/-- So small that it is zero. -/
theorem rnd_small (n d e : Int) (L M : Nat) (more : Bool) (hn : n < 2 ^ L) (hd : 2 ^ M ≤ d) (he : (L : Int) - M + e ≤ -1075) : Rnd n d e more 0 := by
  intro a b h
  refine ⟨⟨by omega, by omega⟩, fun h => absurd h (by omega), fun _ => .inl ?_⟩
  rw [md_zero, Int.one_mul]
  have h1 : n * 2 ^ a < 2 ^ (L + a) := by rw [Nm.two_add]; exact Int.mul_lt_mul_of_pos_right hn (Nm.two_pos a)
  have h2 : (2 : Int) ^ (M + b) ≤ d * 2 ^ b := by rw [Nm.two_add]; exact Int.mul_le_mul_of_nonneg_right hd (by have := Nm.two_pos b; omega)
  have h3 : (2 : Int) ^ (L + a) ≤ 2 ^ (M + b) := Nm.two_mono (by omega)
  omega

theorem Rnd.at {n d e : Int} {more : Bool} {x : Int} (h : Rnd n d e more x) : ∃ a b : Nat, (a : Int) - b = e + 1075 ∧ Near (n * 2 ^ a) (d * 2 ^ b) more x := by
  refine ⟨(e + 1075).toNat, (-(e + 1075)).toNat, by omega, h _ _ (by omega)⟩

theorem Rnd.bd {n d e : Int} {more : Bool} {x : Int} (h : Rnd n d e more x) : 0 ≤ x ∧ x ≤ 9218868437227405312 := by
  obtain ⟨a, b, _, h⟩ := h.at
  exact h.1

theorem Rnd.of {n d e : Int} {more : Bool} {x : Int} {a b : Nat} (h : (a : Int) - b = e + 1075) (hn : Near (n * 2 ^ a) (d * 2 ^ b) more x) : Rnd n d e more x := by
  intro a' b' h'
  have e1 : (2 : Int) ^ a * 2 ^ b' = 2 ^ a' * 2 ^ b := by rw [← Nm.two_add, ← Nm.two_add]; congr 1; omega
  have hb := Nm.two_pos b
  have hb' := Nm.two_pos b'
  have key : ∀ y : Int, (y * (d * 2 ^ b') < n * 2 ^ a' ↔ y * (d * 2 ^ b) < n * 2 ^ a) ∧ (y * (d * 2 ^ b') = n * 2 ^ a' ↔ y * (d * 2 ^ b) = n * 2 ^ a) ∧ (n * 2 ^ a' < y * (d * 2 ^ b') ↔ n * 2 ^ a < y * (d * 2 ^ b)) := by
    intro y
    have f1 : y * (d * 2 ^ b') * 2 ^ b = y * d * (2 ^ b' * 2 ^ b) := by simp only [Int.mul_assoc]
    have f2 : y * (d * 2 ^ b) * 2 ^ b' = y * d * (2 ^ b' * 2 ^ b) := by rw [Int.mul_comm (2 ^ b') (2 ^ b)]; simp only [Int.mul_assoc]
    have f3 : n * 2 ^ a' * 2 ^ b = n * (2 ^ a' * 2 ^ b) := Int.mul_assoc _ _ _
    have f4 : n * 2 ^ a * 2 ^ b' = n * (2 ^ a' * 2 ^ b) := by rw [← e1, Int.mul_assoc]
    refine ⟨⟨fun g => ?_, fun g => ?_⟩, ⟨fun g => ?_, fun g => ?_⟩, ⟨fun g => ?_, fun g => ?_⟩⟩
    · have := Int.mul_lt_mul_of_pos_right g hb
      exact Int.lt_of_mul_lt_mul_right (a := 2 ^ b') (by omega) (by omega)
    · have := Int.mul_lt_mul_of_pos_right g hb'
      exact Int.lt_of_mul_lt_mul_right (a := 2 ^ b) (by omega) (by omega)
    · rw [g] at f1
      exact Int.eq_of_mul_eq_mul_right (a := 2 ^ b') (by omega) (by omega)
    · rw [g] at f2
      exact Int.eq_of_mul_eq_mul_right (a := 2 ^ b) (by omega) (by omega)
    · have := Int.mul_lt_mul_of_pos_right g hb
      exact Int.lt_of_mul_lt_mul_right (a := 2 ^ b') (by omega) (by omega)
    · have := Int.mul_lt_mul_of_pos_right g hb'
      exact Int.lt_of_mul_lt_mul_right (a := 2 ^ b) (by omega) (by omega)
  refine ⟨hn.1, fun hx => ?_, fun hx => ?_⟩
  · rcases hn.2.1 hx with g | ⟨g, g'⟩
    · exact .inl ((key _).1.2 g)
    · exact .inr ⟨(key _).2.1.2 g, g'⟩
  · rcases hn.2.2 hx with g | ⟨g, g'⟩
    · exact .inl ((key _).2.2.2 g)
    · exact .inr ⟨((key _).2.1.2 g.symm).symm, g'⟩

theorem Rnd.mono {n d e n' d' e' : Int} {m m' : Bool} {x y : Int} (hd : 0 < d) (hd' : 0 < d') (h : Rnd n d e m x) (h' : Rnd n' d' e' m' y) {a a' : Nat} (haa : (a : Int) - a' = e - e')
    (hv : n * d' * 2 ^ a < n' * d * 2 ^ a' ∨ (n * d' * 2 ^ a = n' * d * 2 ^ a' ∧ (m = true → m' = true))) : x ≤ y := by
  obtain ⟨p, q, hpq, hN⟩ := h'.at
  -- e' + 1075 = p - q; e + 1075 = p - q + a - a'
  have hN2 := h (p + a) (q + a') (by omega)
  have hp := Nm.two_pos p
  have hq := Nm.two_pos q
  have ha' := Nm.two_pos a'
  refine hN2.mono (Int.mul_pos hd (Nm.two_pos _)) (Int.mul_pos hd' hq) hN ?_
  have e1 : n * 2 ^ (p + a) * (d' * 2 ^ q) = n * d' * 2 ^ a * (2 ^ p * 2 ^ q) := by
    rw [Nm.two_add]; ac_rfl
  have e2 : n' * 2 ^ p * (d * 2 ^ (q + a')) = n' * d * 2 ^ a' * (2 ^ p * 2 ^ q) := by
    rw [Nm.two_add]; ac_rfl
  rw [e1, e2]
  rcases hv with g | ⟨g, g'⟩
  · exact .inl (Int.mul_lt_mul_of_pos_right g (Int.mul_pos hp hq))
  · exact .inr ⟨by rw [g], g'⟩

theorem Rnd.one {n d e n' d' e' : Int} {m : Bool} {x y : Int} (hd : 0 < d) (hd' : 0 < d') (h : Rnd n d e m x) (h' : Rnd n' d' e' m y) {a a' : Nat} (haa : (a : Int) - a' = e - e')
    (hv : n * d' * 2 ^ a = n' * d * 2 ^ a') : x = y := by
  have h1 := h.mono hd hd' h' haa (.inr ⟨hv, id⟩)
  have h2 := h'.mono hd' hd h (a := a') (a' := a) (by omega) (.inr ⟨hv.symm, id⟩)
  omega

/-- A number that is exact at its mantissa. -/
theorem rnd_exact (n e : Int) (L j U : Nat) (more : Bool) (hn : 0 < n) (h1 : 2 ^ (L - 1) ≤ n) (hl : 1 ≤ L) (h2 : n < 2 ^ L) (hj : L + j ≤ 53) (hU : 0 < U → L + j = 53) (hU2 : U ≤ 2045) (he : (j : Int) + U = e + 1074) :
    Rnd n 1 e more ((U : Int) * 4503599627370496 + n * 2 ^ j) := by
  intro a b hab
  have e53 : (2 : Int) ^ 53 = 9007199254740992 := by decide
  have e52 : (2 : Int) ^ 52 = 4503599627370496 := by decide
  have hp := Nm.two_pos j
  have hb := Nm.two_pos b
  have m0 : 0 < n * 2 ^ j := Int.mul_pos hn hp
  have m1 : n * 2 ^ j < 9007199254740992 := by
    have g1 : n * 2 ^ j < 2 ^ (L + j) := by rw [Nm.two_add]; exact Int.mul_lt_mul_of_pos_right h2 hp
    have g2 := Nm.two_mono hj
    omega
  have m2 : 0 < U → 4503599627370496 ≤ n * 2 ^ j := by
    intro h
    have g1 : (2 : Int) ^ (L - 1 + j) ≤ n * 2 ^ j := by rw [Nm.two_add]; exact Int.mul_le_mul_of_nonneg_right h1 (by omega)
    rw [show L - 1 + j = 52 by have := hU h; omega] at g1
    omega
  have key : n * 2 ^ a = 2 * (n * 2 ^ j) * 2 ^ U * (1 * 2 ^ b) := by
    rw [show a = 1 + (j + (U + b)) by omega, Nm.two_add, Nm.two_add, Nm.two_add, Int.one_mul, show (2 : Int) ^ 1 = 2 by rfl]
    ac_rfl
  have hw := Int.mul_pos (Nm.two_pos U) hb
  have := near_of (n * 2 ^ a) (1 * 2 ^ b) more (n * 2 ^ j) U (by omega) (by omega) m1 m2 hU2 (by omega)
    (by
      rw [key, Int.one_mul, Int.mul_assoc, Int.mul_assoc (2 * (n * 2 ^ j) + 2)]
      exact Int.mul_lt_mul_of_pos_right (by omega) hw) false (fun h => by cases h)
    (fun _ => .inl (by
      rw [key, Int.one_mul, Int.mul_assoc, Int.mul_assoc (2 * (n * 2 ^ j) + 1)]
      exact Int.mul_lt_mul_of_pos_right (by omega) hw))
  simpa using this

/-- A number whose k lowest bits are cut off. -/
theorem rnd_cut (n e : Int) (L k U : Nat) (more up : Bool) (hn : 0 < n) (h1 : 2 ^ (L - 1) ≤ n) (_hl : 1 ≤ L) (h2 : n < 2 ^ L) (hk : L ≤ k + 53) (hU : 0 < U → L = k + 53) (hU2 : U ≤ 2045) (he : (U : Int) = e + 1074 + k)
    (hup : up = true ↔ (1 ≤ k ∧ n / 2 ^ (k - 1) % 2 = 1 ∧ (more = true ∨ n / 2 ^ k % 2 = 1 ∨ n % 2 ^ (k - 1) ≠ 0))) :
    Rnd n 1 e more ((U : Int) * 4503599627370496 + n / 2 ^ k + if up = true then 1 else 0) := by
  intro a b hab
  have e53 : (2 : Int) ^ 53 = 9007199254740992 := by decide
  have e52 : (2 : Int) ^ 52 = 4503599627370496 := by decide
  have hp := Nm.two_pos k
  have hb := Nm.two_pos b
  have ha := Nm.two_pos a
  have dm := Int.mul_ediv_add_emod n (2 ^ k)
  have r0 := Int.emod_nonneg n (show (2 : Int) ^ k ≠ 0 by omega)
  have r1 := Int.emod_lt_of_pos n hp
  obtain ⟨m, hm⟩ : ∃ m, n / 2 ^ k = m := ⟨_, rfl⟩
  obtain ⟨r, hr⟩ : ∃ r, n % 2 ^ k = r := ⟨_, rfl⟩
  rw [hm, hr] at dm
  rw [hr] at r0 r1
  rw [hm]
  have m0 : 0 ≤ m := by rw [← hm]; exact Int.ediv_nonneg (by omega) (by omega)
  have m1 : m < 9007199254740992 := by
    rw [← hm, Int.ediv_lt_iff_lt_mul hp]
    have g := Nm.two_mono hk
    rw [Nm.two_add, e53] at g
    rw [Int.mul_comm]
    omega
  have m2 : 0 < U → 4503599627370496 ≤ m := by
    intro h
    rw [← hm, Int.le_ediv_iff_mul_le hp]
    rw [show L - 1 = 52 + k by have := hU h; omega, Nm.two_add, e52] at h1
    exact h1
  have hw := Int.mul_pos (Nm.two_pos U) hb
  have ka : (2 : Int) ^ k * 2 ^ a = 2 * (2 ^ U * 2 ^ b) := by
    rw [← Nm.two_add, ← Nm.two_add, ← Nm.two_succ]; congr 1; omega
  have fl : n * 2 ^ a = m * (2 * (2 ^ U * 2 ^ b)) + r * 2 ^ a := by
    rw [← ka, ← dm, Int.add_mul, Int.mul_comm (2 ^ k) m, Int.mul_assoc]
  have rr : 0 ≤ r * 2 ^ a := Int.mul_nonneg r0 (by omega)
  have rl : r * 2 ^ a < 2 * (2 ^ U * 2 ^ b) := by rw [← ka]; exact Int.mul_lt_mul_of_pos_right r1 ha
  have x1 : ∀ c : Int, (2 * m + c) * 2 ^ U * (1 * 2 ^ b) = m * (2 * (2 ^ U * 2 ^ b)) + c * (2 ^ U * 2 ^ b) := by
    intro c
    rw [Int.one_mul, Int.mul_assoc, Int.add_mul, Int.mul_comm 2 m, Int.mul_assoc]
  have half : (1 ≤ k ∧ ∃ s t : Int, n / 2 ^ (k - 1) % 2 = s ∧ n % 2 ^ (k - 1) = t ∧ (s = 0 ∨ s = 1) ∧ 0 ≤ t ∧ r * 2 ^ a = s * (2 ^ U * 2 ^ b) + t * 2 ^ a ∧ t * 2 ^ a < 2 ^ U * 2 ^ b) ∨ (k = 0 ∧ r = 0) := by
    rcases Nat.eq_zero_or_pos k with h | h
    · right
      refine ⟨h, ?_⟩
      subst h
      have : (2 : Int) ^ 0 = 1 := rfl
      omega
    · left
      have hq := Nm.two_pos (k - 1)
      have dq := Int.mul_ediv_add_emod n (2 ^ (k - 1))
      have ds : n / 2 ^ (k - 1) / 2 = m := by
        rw [Int.ediv_ediv_of_nonneg (by omega), ← hm]
        congr 1
        rw [Int.mul_comm, ← Nm.two_succ]; congr 1; omega
      have kk : (2 : Int) ^ (k - 1) * 2 ^ a = 2 ^ U * 2 ^ b := by
        rw [← Nm.two_add, ← Nm.two_add]; congr 1; omega
      have t0 := Int.emod_nonneg n (show (2 : Int) ^ (k - 1) ≠ 0 by omega)
      have t1 := Int.emod_lt_of_pos n hq
      refine ⟨h, _, _, rfl, rfl, by omega, t0, ?_, ?_⟩
      · generalize n % 2 ^ (k - 1) = t at *
        obtain ⟨y, hy⟩ : ∃ y, n / 2 ^ (k - 1) = y := ⟨_, rfl⟩
        rw [hy] at dq ds ⊢
        have hy2 : y = 2 * m + y % 2 := by omega
        have : n * 2 ^ a = (2 * m + y % 2) * (2 ^ U * 2 ^ b) + t * 2 ^ a := by
          rw [← hy2, ← kk, ← dq, Int.add_mul, Int.mul_comm (2 ^ (k - 1)) y, Int.mul_assoc]
        rw [fl, Int.add_mul, Int.mul_comm 2 m, Int.mul_assoc] at this
        omega
      · rw [← kk]; exact Int.mul_lt_mul_of_pos_right t1 ha
  have hx0 := x1 0
  rw [Int.add_zero, Int.zero_mul, Int.add_zero] at hx0
  refine near_of (n * 2 ^ a) (1 * 2 ^ b) more m U (by omega) m0 m1 m2 hU2 (by rw [hx0, fl]; omega) (by rw [x1, fl]; omega) up ?_ ?_
  · intro h
    obtain ⟨g0, g1, g2⟩ := hup.1 h
    rcases half with ⟨_, s, t, hs, ht, _, t0, ht2, _⟩ | ⟨h, _⟩
    · rw [hs] at g1
      rw [ht, hm] at g2
      rw [x1, fl, ht2, g1]
      rcases (show t = 0 ∨ 0 < t by omega) with h0 | h0
      · refine .inr ⟨by rw [h0]; omega, ?_⟩
        rcases g2 with g | g | g
        · exact .inr g
        · exact .inl g
        · exact absurd h0 g
      · have := Int.mul_pos h0 ha
        left; omega
    · omega
  · intro h
    have hn' : ¬ _ := fun g => by rw [hup.2 g] at h; cases h
    rcases half with ⟨hk1, s, t, hs, ht, hs2, t0, ht2, ht3⟩ | ⟨h, h'⟩
    · rw [hs, ht, hm] at hn'
      rw [x1, fl, ht2]
      rcases hs2 with rfl | rfl
      · left; omega
      · right
        have : ¬ (more = true ∨ m % 2 = 1 ∨ t ≠ 0) := fun g => hn' ⟨hk1, rfl, g⟩
        have f1 : t = 0 := by
          rcases (show t = 0 ∨ t ≠ 0 by omega) with h | h
          · exact h
          · exact absurd (.inr (.inr h)) this
        have f2 : m % 2 = 0 := by
          rcases (show m % 2 = 0 ∨ m % 2 = 1 by omega) with h | h
          · exact h
          · exact absurd (.inr (.inl h)) this
        refine ⟨by rw [f1]; omega, f2, ?_⟩
        cases more
        · rfl
        · exact absurd (.inl rfl) this
    · left
      rw [x1, fl, h']
      omega

theorem md_form (x : Int) (h : 0 ≤ x) : ∃ (M : Int) (E : Nat), md x = M * 2 ^ E ∧ 0 < M ∧ M < 18014398509481984 := by
  have := man_nn x h
  exact ⟨_, _, rfl, by omega, by omega⟩

/-- What is known of a fraction by its whole part, which has 55 bits at least, and whether there is a rest. -/
theorem rnd_floor (N D e x : Int) (hD : 0 < D) (hq : 18014398509481984 ≤ N / D) (h : Rnd (N / D) 1 e (decide (N % D ≠ 0)) x) : Rnd N D e false x := by
  obtain ⟨a, b, hab, hN⟩ := h.at
  refine Rnd.of hab ?_
  have dm := Int.mul_ediv_add_emod N D
  have r0 := Int.emod_nonneg N (show D ≠ 0 by omega)
  have r1 := Int.emod_lt_of_pos N hD
  generalize N / D = q at *
  generalize N % D = r at *
  have ha := Nm.two_pos a
  have hb := Nm.two_pos b
  rw [Int.one_mul] at hN
  have fl : N * 2 ^ a = q * 2 ^ a * D + r * 2 ^ a := by rw [← dm, Int.add_mul, Int.mul_comm D q, Int.mul_right_comm]
  have rr := Int.mul_nonneg r0 (show (0 : Int) ≤ 2 ^ a by omega)
  have cm : ∀ y : Int, y * (D * 2 ^ b) = y * 2 ^ b * D := by intro y; rw [Int.mul_comm D, Int.mul_assoc]
  refine ⟨hN.1, fun hx => ?_, fun hx => ?_⟩
  · rw [cm, fl]
    rcases hN.2.1 hx with g | ⟨g, g'⟩
    · have := Int.mul_lt_mul_of_pos_right g hD
      left; omega
    · rw [g]
      rcases (show r = 0 ∨ 0 < r by omega) with h0 | h0
      · refine .inr ⟨by rw [h0]; omega, .inl ?_⟩
        rcases g' with g' | g'
        · exact g'
        · simp [h0] at g'
      · have := Int.mul_pos h0 ha
        left; omega
  · rw [cm, fl]
    rcases hN.2.2 hx with g | ⟨g, g', g''⟩
    · left
      obtain ⟨M, E, hM, M0, M1⟩ := md_form x hN.1.1
      have e54 : (2 : Int) ^ 54 = 18014398509481984 := by decide
      have hEb := Nm.two_pos (E + b)
      rw [hM, Int.mul_assoc, ← Nm.two_add] at g
      have lt : a < E + b := by
        rcases Nat.lt_or_ge a (E + b) with h | h
        · exact h
        · exfalso
          have g1 := Nm.two_mono h
          have g2 : M * 2 ^ (E + b) ≤ 18014398509481984 * 2 ^ (E + b) := Int.mul_le_mul_of_nonneg_right (by omega) (by omega)
          have g3 : 18014398509481984 * 2 ^ a ≤ q * 2 ^ a := Int.mul_le_mul_of_nonneg_right hq (by omega)
          omega
      rw [show E + b = (E + b - a) + a by omega, Nm.two_add, ← Int.mul_assoc] at g
      have g1 := Int.lt_of_mul_lt_mul_right g (by omega)
      have g2 : q * 2 ^ a * D + r * 2 ^ a < (q + 1) * (2 ^ a * D) := by
        have := Int.mul_lt_mul_of_pos_right r1 ha
        rw [Int.add_mul, Int.one_mul, Int.mul_assoc, Int.mul_comm (2 ^ a) D]
        omega
      have g3 : (q + 1) * (2 ^ a * D) ≤ M * 2 ^ (E + b - a) * (2 ^ a * D) := Int.mul_le_mul_of_nonneg_right (by omega) (by have := Int.mul_pos ha hD; omega)
      have g4 : M * 2 ^ (E + b - a) * (2 ^ a * D) = md x * 2 ^ b * D := by
        rw [hM, ← Int.mul_assoc, Int.mul_assoc M, ← Nm.two_add, show E + b - a + a = E + b by omega, Nm.two_add]
        ac_rfl
      omega
    · have h0 : r = 0 := by
        rcases (show r = 0 ∨ r ≠ 0 by omega) with h | h
        · exact h
        · simp [h] at g''
      refine .inr ⟨by rw [h0, g]; omega, g', rfl⟩

theorem Rnd.num {n d e x : Int} {more : Bool} (s : Nat) (h : Rnd (n * 2 ^ s) d (e - s) more x) : Rnd n d e more x := by
  obtain ⟨a, b, hab, hN⟩ := h.at
  rw [Int.mul_assoc, ← Nm.two_add] at hN
  exact Rnd.of (a := s + a) (b := b) (by omega) hN

theorem Rnd.den {n d e x : Int} {more : Bool} (s : Nat) (h : Rnd n (d * 2 ^ s) (e + s) more x) : Rnd n d e more x := by
  obtain ⟨a, b, hab, hN⟩ := h.at
  rw [Int.mul_assoc, ← Nm.two_add] at hN
  exact Rnd.of (a := a) (b := s + b) (by omega) hN

end Ie
end Go.Proofs.YtjkefcikepnbpaaGreatDoor

/-
  Doubles as numbers: what the laws need.
-/
namespace Go.Proofs.YtjkefcikepnbpaaGreatDoor
namespace Ie

theorem Rnd.next {n d e x u : Int} (hd : 0 < d) (h : Rnd n d e false x) (h' : Rnd n d e true u) : u = x ∨ u = x + 1 := by
  have h1 : x ≤ u := h.mono hd hd h' (a := 0) (a' := 0) (by omega) (.inr ⟨rfl, fun h => by cases h⟩)
  rcases (show u ≤ x + 1 ∨ x + 1 < u by omega) with h2 | h2
  · omega
  · exfalso
    obtain ⟨a, b, hab, hN⟩ := h.at
    have hN' := h' a b hab
    have g1 := hN.2.2 (by have := hN'.1.2; omega)
    have g2 := hN'.2.1 (by have := hN.1.1; omega)
    have g3 := Int.mul_lt_mul_of_pos_right (md_lt hN.1.1 (show x < u - 1 by omega)) (Int.mul_pos hd (Nm.two_pos b))
    rcases g1 with g | g <;> rcases g2 with g' | g' <;> omega

theorem vl_lt_iff {x y : Int} (hx : 0 ≤ x) (hy : 0 ≤ y) : vl x < vl y ↔ x < y := by
  constructor
  · intro h
    rcases (show x < y ∨ y ≤ x by omega) with g | g
    · exact g
    · have := vl_le hy g; omega
  · intro h
    have h1 := vl_succ x hx
    have h2 := vl_le (x := x + 1) (y := y) (by omega) (by omega)
    have := Nm.two_pos (ex x)
    omega

/-- Below the middle above it. -/
theorem Rnd.hi {n d e x : Int} (h : Rnd n d e false x) (hx : x < 9218868437227405312) {M : Int} {E s t : Nat} (hM : md x = M * 2 ^ E) (hst : (s : Int) - t = E - 1075 - e) :
    n * 2 ^ t < M * d * 2 ^ s ∨ (n * 2 ^ t = M * d * 2 ^ s ∧ x % 2 = 0) := by
  have hN := h (t + E) s (by omega)
  have hE := Nm.two_pos E
  have e1 : n * 2 ^ (t + E) = n * 2 ^ t * 2 ^ E := by rw [Nm.two_add, Int.mul_assoc]
  have e2 : md x * (d * 2 ^ s) = M * d * 2 ^ s * 2 ^ E := by rw [hM]; ac_rfl
  rcases hN.2.2 hx with g | ⟨g, g', _⟩
  · rw [e1, e2] at g
    exact .inl (Int.lt_of_mul_lt_mul_right g (by omega))
  · rw [e1, e2] at g
    exact .inr ⟨Int.eq_of_mul_eq_mul_right (by omega) g, g'⟩

/-- Above the middle below it. -/
theorem Rnd.lo {n d e x : Int} (h : Rnd n d e false x) (hx : 0 < x) {M : Int} {E s t : Nat} (hM : md (x - 1) = M * 2 ^ E) (hst : (s : Int) - t = E - 1075 - e) :
    M * d * 2 ^ s < n * 2 ^ t ∨ (M * d * 2 ^ s = n * 2 ^ t ∧ x % 2 = 0) := by
  have hN := h (t + E) s (by omega)
  have hE := Nm.two_pos E
  have e1 : n * 2 ^ (t + E) = n * 2 ^ t * 2 ^ E := by rw [Nm.two_add, Int.mul_assoc]
  have e2 : md (x - 1) * (d * 2 ^ s) = M * d * 2 ^ s * 2 ^ E := by rw [hM]; ac_rfl
  rcases hN.2.1 hx with g | ⟨g, g'⟩
  · rw [e1, e2] at g
    exact .inl (Int.lt_of_mul_lt_mul_right g (by omega))
  · rw [e1, e2] at g
    refine .inr ⟨Int.eq_of_mul_eq_mul_right (by omega) g, ?_⟩
    rcases g' with g' | g'
    · exact g'
    · cases g'

/-- The middle below, as the gap below a power of two is half as wide. -/
theorem md_pred (x : Int) (hx : 0 < x) (h : ¬ (man x = 4503599627370496 ∧ 0 < ex x)) : md (x - 1) = (2 * man x - 1) * 2 ^ ex x := by
  have h1 := vl_succ (x - 1) (by omega)
  rw [show x - 1 + 1 = x by omega] at h1
  have h2 := md_eq (x - 1)
  have e : ex (x - 1) = ex x := by
    simp only [ex, man] at h ⊢
    split at h <;> omega
  rw [e] at h1 h2
  rw [Int.sub_mul, Int.one_mul]
  have : vl x = 2 * man x * 2 ^ ex x := rfl
  omega

theorem md_pred' (x : Int) (hx : 0 < x) (h : man x = 4503599627370496 ∧ 0 < ex x) : md (x - 1) = 18014398509481983 * 2 ^ (ex x - 1) := by
  have e : ex (x - 1) = ex x - 1 := by
    simp only [ex, man] at h ⊢
    split at h <;> omega
  have m : man (x - 1) = 9007199254740991 := by
    simp only [ex, man] at h ⊢
    split at h <;> split <;> omega
  rw [md, m, e]
  rfl
end Ie
end Go.Proofs.YtjkefcikepnbpaaGreatDoor

/-
  The bits of a double as numbers.
-/
namespace Go.Proofs.YtjkefcikepnbpaaGreatDoor
open Go
namespace Ib
theorem sign_and (d : Int) (h0 : 0 ≤ d) (h1 : d < 18446744073709551616) : bits .and .u64 d 9223372036854775808 = d / 9223372036854775808 * 9223372036854775808 := by
  obtain ⟨a, rfl⟩ := Int.eq_ofNat_of_zero_le h0
  have h := u64_and_nat a 9223372036854775808 (by omega) (by omega)
  rw [show ((9223372036854775808 : Nat) : Int) = 9223372036854775808 from rfl] at h
  rw [h, show (9223372036854775808 : Nat) = 2 ^ 63 from rfl, nat_bit]
  omega

theorem frac_and (d : Int) (h0 : 0 ≤ d) (h1 : d < 18446744073709551616) : bits .and .u64 d 4503599627370495 = d % 4503599627370496 := by
  obtain ⟨a, rfl⟩ := Int.eq_ofNat_of_zero_le h0
  have h := u64_and_nat a 4503599627370495 (by omega) (by omega)
  rw [show ((4503599627370495 : Nat) : Int) = 4503599627370495 from rfl] at h
  rw [h, nat_mask52]
  omega

theorem field_and (d : Int) (h0 : 0 ≤ d) (h1 : d < 18446744073709551616) : bits .and .u64 d 2047 = d % 2048 := by
  obtain ⟨a, rfl⟩ := Int.eq_ofNat_of_zero_le h0
  have h := u64_and_nat a 2047 (by omega) (by omega)
  rw [show ((2047 : Nat) : Int) = 2047 from rfl] at h
  rw [h, nat_mask11]
  omega

theorem one_and (d : Int) (h0 : 0 ≤ d) (h1 : d < 18446744073709551616) : bits .and .u64 d 1 = d % 2 := by
  obtain ⟨a, rfl⟩ := Int.eq_ofNat_of_zero_le h0
  have h := u64_and_nat a 1 (by omega) (by omega)
  rw [show ((1 : Nat) : Int) = 1 from rfl] at h
  rw [h, nat_mask1]
  omega

theorem hidden_or (d : Int) (h0 : 0 ≤ d) (h1 : d < 4503599627370496) : bits .or .u64 4503599627370496 d = 4503599627370496 + d := by
  obtain ⟨a, rfl⟩ := Int.eq_ofNat_of_zero_le h0
  have h := u64_or_nat 4503599627370496 a (by omega) (by omega)
  rw [show ((4503599627370496 : Nat) : Int) = 4503599627370496 from rfl] at h
  rw [h, nat_join 52 _ _ (by decide) (by omega)]
  omega

theorem sign_or (d : Int) (h0 : 0 ≤ d) (h1 : d < 9223372036854775808) : bits .or .u64 d 9223372036854775808 = d + 9223372036854775808 := by
  obtain ⟨a, rfl⟩ := Int.eq_ofNat_of_zero_le h0
  have h := u64_or_nat a 9223372036854775808 (by omega) (by omega)
  rw [show ((9223372036854775808 : Nat) : Int) = 9223372036854775808 from rfl] at h
  rw [h, Nat.or_comm, nat_join 63 _ _ (by decide) (by omega)]
  omega

theorem xor_lo (a : Nat) (h : a < 2 ^ 63) : a ^^^ 2 ^ 63 = a + 2 ^ 63 := by
  have hj : 2 ^ 63 ||| a = 2 ^ 63 + a := nat_join 63 _ _ (by decide) h
  rw [Nat.add_comm, ← hj]
  apply Nat.eq_of_testBit_eq
  intro j
  rw [Nat.testBit_xor, Nat.testBit_or, Nat.testBit_two_pow]
  by_cases e : 63 = j
  · subst e
    rw [Nat.testBit_lt_two_pow h]
    decide
  · simp [e]

theorem sign_xor (d : Int) (h0 : 0 ≤ d) (h1 : d < 18446744073709551616) : bits .xor .u64 d 9223372036854775808 = if d < 9223372036854775808 then d + 9223372036854775808 else d - 9223372036854775808 := by
  obtain ⟨a, rfl⟩ := Int.eq_ofNat_of_zero_le h0
  have h := u64_xor_nat a 9223372036854775808 (by omega) (by omega)
  rw [show ((9223372036854775808 : Nat) : Int) = 9223372036854775808 from rfl] at h
  rw [h, show (9223372036854775808 : Nat) = 2 ^ 63 from rfl]
  by_cases ha : a < 2 ^ 63
  · rw [xor_lo a ha, if_pos (by omega)]
    omega
  · obtain ⟨b, rfl⟩ : ∃ b, a = b + 2 ^ 63 := ⟨a - 2 ^ 63, by omega⟩
    rw [← xor_lo b (by omega), Nat.xor_assoc, Nat.xor_self, Nat.xor_zero, xor_lo b (by omega), if_neg (by omega)]
    omega

theorem sign_andNot (d : Int) (h0 : 0 ≤ d) (h1 : d < 18446744073709551616) : bits .andNot .u64 d 9223372036854775808 = d % 9223372036854775808 := by
  obtain ⟨a, rfl⟩ := Int.eq_ofNat_of_zero_le h0
  have h := u64_andNot_nat a 9223372036854775808 (by omega) (by omega)
  rw [show ((9223372036854775808 : Nat) : Int) = 9223372036854775808 from rfl] at h
  rw [h, show (18446744073709551615 - 9223372036854775808 : Nat) = 2 ^ 63 - 1 from rfl, Nat.and_two_pow_sub_one_eq_mod]
  omega

end Ib
end Go.Proofs.YtjkefcikepnbpaaGreatDoor

/-
  ieee: field, Class, signed, within, Neg, Abs, place; cmp.Compare of two int64.
-/
namespace Go.Proofs.YtjkefcikepnbpaaGreatDoor
open Go Go.RowKit Go.Deep

namespace Ie
/-- The exponent field. -/
def fld (d : Int) : Int := d / 4503599627370496 % 2048

/-- The class. -/
def cls (d : Int) : Int :=
  if fld d = 0 then (if d % 4503599627370496 = 0 then 0 else 1)
  else if fld d = 2047 then (if d % 4503599627370496 = 0 then 3 else 4) else 2
end Ie

theorem i_retI {a b : Int} (h : a = b) : Ending.returned (.int .i64 a) = .returned (.int .i64 b) := by rw [h]
theorem i_retU {a b : Int} (h : a = b) : Ending.returned (.int .u64 a) = .returned (.int .u64 b) := by rw [h]

/-- The bits of a double with a sign. -/
def Ie.sg (neg : Bool) (x : Int) : Int := if neg = true then x + 9223372036854775808 else x

set_option maxRecDepth 100000 in
theorem signed_any (neg : Bool) (d : Int) (w : World) (h0 : 0 ≤ d) (h1 : d < 9223372036854775808) :
    Calls Tryz.prog 202 #[.bool neg, .int .u64 d] w fun e w' => e = .returned (.int .u64 (Ie.sg neg d)) ∧ w' = w := by
  have B := Ib.sign_or d h0 h1
  cases neg
  · go_enter Tryz.func202, Tryz.ntmps202
    go_wp2
    go_ret
    exact ⟨rfl, rfl⟩
  · go_enter Tryz.func202, Tryz.ntmps202
    go_wp2
    go_ret
    exact ⟨rfl, rfl⟩

/-- An exponent held near to 0. -/
def Ie.win (e : Int) : Int := min (max e (-2097152)) 2097152

set_option maxRecDepth 100000 in
theorem within_any (x : Int) (w : World) :
    Calls Tryz.prog 205 #[.int .i64 x] w fun e w' => e = .returned (.int .i64 (Ie.win x)) ∧ w' = w := by
  rcases (show x < -2097152 ∨ (-2097152 ≤ x ∧ x ≤ 2097152) ∨ 2097152 < x by omega) with h | ⟨h, h'⟩ | h
  · have E : Hid (Ie.win x = -2097152) := by rw [Hid, Ie.win]; omega
    go_enter Tryz.func205, Tryz.ntmps205
    go_wp2
    go_ret
    exact ⟨i_retI E.out.symm, rfl⟩
  · have E : Hid (Ie.win x = x) := by rw [Hid, Ie.win]; omega
    go_enter Tryz.func205, Tryz.ntmps205
    go_wp2
    go_ret
    exact ⟨i_retI E.out.symm, rfl⟩
  · have E : Hid (Ie.win x = 2097152) := by rw [Hid, Ie.win]; omega
    go_enter Tryz.func205, Tryz.ntmps205
    go_wp2
    go_ret
    exact ⟨i_retI E.out.symm, rfl⟩


/-- The sign bit turned. -/
def Ie.ng (d : Int) : Int := if d < 9223372036854775808 then d + 9223372036854775808 else d - 9223372036854775808
end Go.Proofs.YtjkefcikepnbpaaGreatDoor

/-
  ieee: field, Class.
-/
namespace Go.Proofs.YtjkefcikepnbpaaGreatDoor
open Go Go.RowKit Go.Deep

set_option maxRecDepth 100000 in
set_option maxHeartbeats 1000000 in
theorem field_any (d : Int) (w : World) (h0 : 0 ≤ d) (h1 : d < 18446744073709551616) :
    Calls Tryz.prog 49 #[.int .u64 d] w fun e w' => e = .returned (.int .i64 (Ie.fld d)) ∧ w' = w := by
  obtain ⟨q, hq⟩ : ∃ q, d / 4503599627370496 = q := ⟨_, rfl⟩
  have q0 : 0 ≤ q := by omega
  have q1 : q < 18446744073709551616 := by omega
  have B := Ib.field_and q q0 q1
  have E : Hid (Ie.fld d = q % 2048) := by rw [Hid, Ie.fld, hq]
  have m0 : 0 ≤ q % 2048 := by omega
  have m1 : q % 2048 ≤ 2047 := by omega
  go_enter Tryz.func49, Tryz.ntmps49
  go_wp2
  go_ret
  exact ⟨i_retI E.out.symm, rfl⟩

set_option maxRecDepth 100000 in
set_option maxHeartbeats 1000000 in
theorem class_any (d : Int) (w : World) (h0 : 0 ≤ d) (h1 : d < 18446744073709551616) :
    Calls Tryz.prog 30 #[.int .u64 d] w fun e w' => e = .returned (.int .i64 (Ie.cls d)) ∧ w' = w := by
  have B := Ib.frac_and d h0 h1
  have F := hid (field_any d w h0 h1)
  obtain ⟨f, hf⟩ : ∃ f, Ie.fld d = f := ⟨_, rfl⟩
  rw [hf] at F
  have f0 : 0 ≤ f ∧ f < 2048 := by rw [← hf]; simp only [Ie.fld]; omega
  by_cases hz : d % 4503599627370496 = 0
  · by_cases e1 : f = 0
    · subst e1
      have E : Hid (Ie.cls d = 0) := by rw [Hid, Ie.cls, if_pos hf, if_pos hz]
      clear hf f0
      go_enter Tryz.func30, Tryz.ntmps30
      go_wp2_with fail
      refine F.out.mono ?_
      rintro e w' ⟨rfl, rfl⟩
      go_wp2_with fail
      go_ret
      exact ⟨i_retI E.out.symm, rfl⟩
    · by_cases e2 : f = 2047
      · subst e2
        have E : Hid (Ie.cls d = 3) := by rw [Hid, Ie.cls, if_neg (by omega), if_pos hf, if_pos hz]
        clear hf f0 e1
        go_enter Tryz.func30, Tryz.ntmps30
        go_wp2_with fail
        refine F.out.mono ?_
        rintro e w' ⟨rfl, rfl⟩
        go_wp2_with fail
        go_ret
        exact ⟨i_retI E.out.symm, rfl⟩
      · have E : Hid (Ie.cls d = 2) := by rw [Hid, Ie.cls, if_neg (by omega), if_neg (by omega)]
        have e1' : (f == 0) = false := by rw [beq_eq_false_iff_ne]; exact e1
        have e2' : (f == 2047) = false := by rw [beq_eq_false_iff_ne]; exact e2
        clear hf f0
        go_enter Tryz.func30, Tryz.ntmps30
        go_wp2_with fail
        refine F.out.mono ?_
        rintro e w' ⟨rfl, rfl⟩
        go_wp2_with fail
        go_ret
        exact ⟨i_retI E.out.symm, rfl⟩
  · have hz' : (d % 4503599627370496 == 0) = false := by rw [beq_eq_false_iff_ne]; exact hz
    by_cases e1 : f = 0
    · subst e1
      have E : Hid (Ie.cls d = 1) := by rw [Hid, Ie.cls, if_pos hf, if_neg hz]
      clear hf f0
      go_enter Tryz.func30, Tryz.ntmps30
      go_wp2_with fail
      refine F.out.mono ?_
      rintro e w' ⟨rfl, rfl⟩
      go_wp2_with fail
      go_ret
      exact ⟨i_retI E.out.symm, rfl⟩
    · by_cases e2 : f = 2047
      · subst e2
        have E : Hid (Ie.cls d = 4) := by rw [Hid, Ie.cls, if_neg (by omega), if_pos hf, if_neg hz]
        clear hf f0 e1
        go_enter Tryz.func30, Tryz.ntmps30
        go_wp2_with fail
        refine F.out.mono ?_
        rintro e w' ⟨rfl, rfl⟩
        go_wp2_with fail
        go_ret
        exact ⟨i_retI E.out.symm, rfl⟩
      · have E : Hid (Ie.cls d = 2) := by rw [Hid, Ie.cls, if_neg (by omega), if_neg (by omega)]
        have e1' : (f == 0) = false := by rw [beq_eq_false_iff_ne]; exact e1
        have e2' : (f == 2047) = false := by rw [beq_eq_false_iff_ne]; exact e2
        clear hf f0
        go_enter Tryz.func30, Tryz.ntmps30
        go_wp2_with fail
        refine F.out.mono ?_
        rintro e w' ⟨rfl, rfl⟩
        go_wp2_with fail
        go_ret
        exact ⟨i_retI E.out.symm, rfl⟩

end Go.Proofs.YtjkefcikepnbpaaGreatDoor

/-
  Small structs in memory: an exact (four cells), a num (two).
-/
namespace Go.Proofs.YtjkefcikepnbpaaGreatDoor
open Go Go.RowKit Go.Deep

/-- Four cells that may be written. -/
def Row4 (w : World) (b t : Nat) (v0 v1 v2 v3 : Value) : Prop := w.heap[b]? = some (.cells #[v0, v1, v2, v3] t (0, 0))

theorem Row4.below {B : Nat} {w w' : World} {b t : Nat} {v0 v1 v2 v3 : Value} (h : Row4 w b t v0 v1 v2 v3) (hB : Below B w w') (hb : b < B) : Row4 w' b t v0 v1 v2 v3 := by
  rw [Row4, hB.block b hb]; exact h

theorem Row4.lt {w : World} {b t : Nat} {v0 v1 v2 v3 : Value} (h : Row4 w b t v0 v1 v2 v3) : b < w.heap.size := by
  rcases Nat.lt_or_ge b w.heap.size with hl | hl
  · exact hl
  · simp [Row4, Array.getElem?_eq_none hl] at h

theorem Row4.cells {w : World} {b t : Nat} {v0 v1 v2 v3 : Value} (h : Row4 w b t v0 v1 v2 v3) :
    (w.cell? ⟨b, 0, none⟩ = some v0 ∧ w.cell? ⟨b, 1, none⟩ = some v1 ∧ w.cell? ⟨b, 2, none⟩ = some v2 ∧ w.cell? ⟨b, 3, none⟩ = some v3) ∧
    (w.frozen? ⟨b, 0, none⟩ = false ∧ w.frozen? ⟨b, 1, none⟩ = false ∧ w.frozen? ⟨b, 2, none⟩ = false ∧ w.frozen? ⟨b, 3, none⟩ = false) := by
  simp only [Row4] at h
  refine ⟨⟨?_, ?_, ?_, ?_⟩, ⟨?_, ?_, ?_, ?_⟩⟩ <;> simp [World.cell?, World.frozen?, h]

theorem Row4.heap {w w' : World} {b t : Nat} {v0 v1 v2 v3 : Value} (h : Row4 w b t v0 v1 v2 v3) (e : w'.heap = w.heap) : Row4 w' b t v0 v1 v2 v3 := by
  rw [Row4, e]; exact h

theorem Row4.new (w : World) (t : Nat) (v0 v1 v2 v3 : Value) : Row4 (w.alloc (.cells #[v0, v1, v2, v3] t)) w.heap.size t v0 v1 v2 v3 := heap_alloc_new w _

theorem Row4.set {w : World} {b t : Nat} {v0 v1 v2 v3 u0 u1 u2 u3 : Value} (h : Row4 w b t v0 v1 v2 v3) :
    Row4 ((((w.setCell ⟨b, 0, none⟩ u0).setCell ⟨b, 1, none⟩ u1).setCell ⟨b, 2, none⟩ u2).setCell ⟨b, 3, none⟩ u3) b t u0 u1 u2 u3 := by
  have h0 := set1 (o := 0) (v := u0) (c' := #[u0, v1, v2, v3]) h (by simp [Array.setIfInBounds])
  have h1 := set1 (o := 1) (v := u1) (c' := #[u0, u1, v2, v3]) h0 (by simp [Array.setIfInBounds])
  have h2 := set1 (o := 2) (v := u2) (c' := #[u0, u1, u2, v3]) h1 (by simp [Array.setIfInBounds])
  exact set1 (o := 3) (v := u3) (c' := #[u0, u1, u2, u3]) h2 (by simp [Array.setIfInBounds])

/-- A list somewhere else stays. -/
theorem Lies.set {w : World} {p : Option Addr} {zs : List Int} {b o : Nat} {v : Value} (h : Lies w p zs) (hne : ∀ a, p = some a → a.block ≠ b) : Lies (w.setCell ⟨b, o, none⟩ v) p zs := by
  rcases h with rfl | ⟨b', off, hp, h⟩
  · exact .inl rfl
  · refine .inr ⟨b', off, hp, fun i hi => ?_⟩
    rw [← h i hi]
    have := hne _ hp
    simp only [World.cell?, World.setCell, Array.getElem?_modify]
    rw [if_neg (by simp only at this; omega)]

/-- Two cells that may be written. -/
def Row2 (w : World) (b t : Nat) (v0 v1 : Value) : Prop := w.heap[b]? = some (.cells #[v0, v1] t (0, 0))

theorem Row2.below {B : Nat} {w w' : World} {b t : Nat} {v0 v1 : Value} (h : Row2 w b t v0 v1) (hB : Below B w w') (hb : b < B) : Row2 w' b t v0 v1 := by
  rw [Row2, hB.block b hb]; exact h

theorem Row2.lt {w : World} {b t : Nat} {v0 v1 : Value} (h : Row2 w b t v0 v1) : b < w.heap.size := by
  rcases Nat.lt_or_ge b w.heap.size with hl | hl
  · exact hl
  · simp [Row2, Array.getElem?_eq_none hl] at h

theorem Row2.cells {w : World} {b t : Nat} {v0 v1 : Value} (h : Row2 w b t v0 v1) :
    (w.cell? ⟨b, 0, none⟩ = some v0 ∧ w.cell? ⟨b, 1, none⟩ = some v1) ∧ (w.frozen? ⟨b, 0, none⟩ = false ∧ w.frozen? ⟨b, 1, none⟩ = false) := by
  simp only [Row2] at h
  refine ⟨⟨?_, ?_⟩, ⟨?_, ?_⟩⟩ <;> simp [World.cell?, World.frozen?, h]

theorem Row2.new (w : World) (t : Nat) (v0 v1 : Value) : Row2 (w.alloc (.cells #[v0, v1] t)) w.heap.size t v0 v1 := heap_alloc_new w _

theorem Row2.set {w : World} {b t : Nat} {v0 v1 u0 u1 : Value} (h : Row2 w b t v0 v1) : Row2 ((w.setCell ⟨b, 0, none⟩ u0).setCell ⟨b, 1, none⟩ u1) b t u0 u1 := by
  have h0 := set1 (o := 0) (v := u0) (c' := #[u0, v1]) h (by simp [Array.setIfInBounds])
  exact set1 (o := 1) (v := u1) (c' := #[u0, u1]) h0 (by simp [Array.setIfInBounds])

end Go.Proofs.YtjkefcikepnbpaaGreatDoor

namespace Go.Proofs.YtjkefcikepnbpaaGreatDoor
open Go Go.RowKit Go.Deep

theorem fset1 {w : World} {b o t : Nat} {v : Value} {c c' : Array Value} (h : w.heap[b]? = some (.cells c t (0, 0))) (e : c.setIfInBounds o v = c') : (w.setCell ⟨b, o, none⟩ v).heap[b]? = some (.cells c' t (0, 0)) := by
  subst e
  simp [World.setCell, Array.getElem?_modify, h]


/-- Three cells that may be written. -/
def FR3 (w : World) (b : Nat) (v0 v1 v2 : Value) : Prop := w.heap[b]? = some (.cells #[v0, v1, v2] 25 (0, 0))
theorem FR3.new (w : World) (v0 v1 v2 : Value) : FR3 (w.alloc (.cells #[v0, v1, v2] 25)) w.heap.size v0 v1 v2 := heap_alloc_new w _
theorem FR3.below {B : Nat} {w w' : World} {b : Nat} {v0 v1 v2 : Value} (h : FR3 w b v0 v1 v2) (hB : Below B w w') (hb : b < B) : FR3 w' b v0 v1 v2 := by
  rw [FR3, hB.block b hb]; exact h
theorem FR3.lt {w : World} {b : Nat} {v0 v1 v2 : Value} (h : FR3 w b v0 v1 v2) : b < w.heap.size := by
  rcases Nat.lt_or_ge b w.heap.size with hl | hl
  · exact hl
  · simp [FR3, Array.getElem?_eq_none hl] at h
theorem FR3.cells {w : World} {b : Nat} {v0 v1 v2 : Value} (h : FR3 w b v0 v1 v2) :
    (w.cell? ⟨b, 0, none⟩ = some v0 ∧ w.cell? ⟨b, 1, none⟩ = some v1 ∧ w.cell? ⟨b, 2, none⟩ = some v2) ∧
    (w.frozen? ⟨b, 0, none⟩ = false ∧ w.frozen? ⟨b, 1, none⟩ = false ∧ w.frozen? ⟨b, 2, none⟩ = false) := by
  simp only [FR3] at h
  refine ⟨⟨?_, ?_, ?_⟩, ⟨?_, ?_, ?_⟩⟩ <;> simp [World.cell?, World.frozen?, h]
theorem FR3.put {w : World} {b : Nat} {v0 v1 v2 : Value} (h : FR3 w b v0 v1 v2) (u0 u1 u2 : Value) :
    FR3 (((w.setCell ⟨b, 0, none⟩ u0).setCell ⟨b, 1, none⟩ u1).setCell ⟨b, 2, none⟩ u2) b u0 u1 u2 := by
  have h0 := fset1 (o := 0) (v := u0) (c' := #[u0, v1, v2]) h (by simp [Array.setIfInBounds])
  have h1 := fset1 (o := 1) (v := u1) (c' := #[u0, u1, v2]) h0 (by simp [Array.setIfInBounds])
  exact fset1 (o := 2) (v := u2) (c' := #[u0, u1, u2]) h1 (by simp [Array.setIfInBounds])
theorem FR3.far {w : World} {b c o : Nat} {v v0 v1 v2 : Value} (h : FR3 w b v0 v1 v2) (hc : c ≠ b) : FR3 (w.setCell ⟨c, o, none⟩ v) b v0 v1 v2 := by
  simp only [FR3] at *
  simp only [World.setCell, Array.getElem?_modify]
  rw [if_neg hc]; exact h
theorem fset3_below {B : Nat} {w w' : World} {b : Nat} {u0 u1 u2 : Value} (h : Below B w w') (hb : B ≤ b) : Below B w (((w'.setCell ⟨b, 0, none⟩ u0).setCell ⟨b, 1, none⟩ u1).setCell ⟨b, 2, none⟩ u2) :=
  ((h.setCell (p := ⟨b, 0, none⟩) hb u0).setCell (p := ⟨b, 1, none⟩) hb u1).setCell (p := ⟨b, 2, none⟩) hb u2


theorem fresults_row_tmp {P : Program} {fn : Func} {p u : Tmp} {ty : TypeId} (h : fn.results = #[.cell p ty, .tmp u]) (tmps : Array Value) (w : World) (g : Nat) (t : TypeId) (cs : Array Value) (fr : Nat × Nat) (d : TypeDesc)
    (hp : tmps.getD p undef = .pointer (some ⟨g, 0, none⟩)) (hg : w.heap[g]? = some (.cells cs t fr))
    (hu : P.underlying ty = some d) (hd : (match d with | .struct _ | .array _ _ => true | _ => false) = true) (hi : (P.info? ty).map (·.size) = some cs.size) :
    (results fn tmps).run P w = .ok (.tuple #[.agg cs, tmps.getD u undef]) w := by
  rw [results_cell_tmp h, hp]
  simp [asAddr, run_loadVar_row w g t ty cs fr d hg hu hd hi, Result.andThen]

end Go.Proofs.YtjkefcikepnbpaaGreatDoor

namespace Go.Proofs.YtjkefcikepnbpaaGreatDoor
open Go Go.RowKit Go.Deep

theorem leq_dec (a : Bool) (s : ByteArray) (e : Int) (w : World) : (Op.equalIn 10000 25 (.agg #[.bool a, .string s, .int .i64 e]) (.agg #[.bool a, .string s, .int .i64 e])).run Tryz.prog w = .ok true w := by
  have u3 := Tryz.underlying3
  have a3 := Tryz.isAgg3
  have z3 := Tryz.sizeOf3
  have u4 := Tryz.underlying4
  have a4 := Tryz.isAgg4
  have z4 := Tryz.sizeOf4
  have u9 := Tryz.underlying9
  have a9 := Tryz.isAgg9
  have z9 := Tryz.sizeOf9
  have hS : Tryz.prog.underlying 25 = some (.struct (Tryz.prog.fieldsOf 25)) := by kernel_rfl
  rw [show (10000 : Nat) = 9999 + 1 from rfl, run_equalIn_struct w 9999 25 _ _ hS (by kernel_rfl)]
  simp only [Program.fieldsOf, Tryz.underlying25]
  go_simp

end Go.Proofs.YtjkefcikepnbpaaGreatDoor

namespace Go.Proofs.YtjkefcikepnbpaaGreatDoor
open Go.RowKit Go.Deep

theorem add64 (x y c : Int) (hx : 0 ≤ x) (hy : 0 ≤ y) (hc0 : 0 ≤ c) (hc : c ≤ 1) (w : World) :
    (callFunc 121 #[.int .u64 x, .int .u64 y, .int .u64 c]).run Tryz.prog w = .ok (.value (.tuple #[.int .u64 ((x + y + c) % 18446744073709551616), .int .u64 ((x + y + c) / 18446744073709551616)])) w := by
  rw [run_callFunc_extern Tryz.func121 (by kernel_rfl) (by kernel_rfl) (by kernel_rfl) (e := add64Entry) (by kernel_rfl), run_add64 x y c hx hy hc0 hc]
  rfl

/-- Its two answers under names. -/
theorem add64' (x y c s c' : Int) (hx : 0 ≤ x) (hy : 0 ≤ y) (hc0 : 0 ≤ c) (hc : c ≤ 1) (hs : s = (x + y + c) % 18446744073709551616) (hc' : c' = (x + y + c) / 18446744073709551616) (w : World) :
    (callFunc 121 #[.int .u64 x, .int .u64 y, .int .u64 c]).run Tryz.prog w = .ok (.value (.tuple #[.int .u64 s, .int .u64 c'])) w := by
  rw [hs, hc']
  exact add64 x y c hx hy hc0 hc w
end Go.Proofs.YtjkefcikepnbpaaGreatDoor

namespace Go.Proofs.YtjkefcikepnbpaaGreatDoor
open Go.RowKit Go.Deep

/-- The kit's contract for Mul64, laid at this program. -/
def mulRen : Go.Shelf.Ren := ⟨fun _ => 120, fun t => if t = 53 then 22 else 76, fun g => g⟩
theorem mulLays : Lays.n264 Tryz.prog mulRen where
  mixed := by kernel_rfl
  f264 := by kernel_rfl
  t46 := by kernel_rfl
  a46 := fun _ => by kernel_rfl
  z46 := fun _ => by kernel_rfl
  v46 := fun _ => by kernel_rfl
  t53 := by kernel_rfl
  a53 := fun _ => by kernel_rfl
  z53 := fun _ => by kernel_rfl
  v53 := fun _ => by kernel_rfl

theorem mul64_nat (x y : Nat) (hx : x < 18446744073709551616) (hy : y < 18446744073709551616) (w : World) :
    Calls Tryz.prog 120 #[.int .u64 x, .int .u64 y] w fun e w' => e = .returned (.tuple #[.int .u64 ((x * y / 18446744073709551616 : Nat) : Int), .int .u64 ((x * y % 18446744073709551616 : Nat) : Int)]) ∧ w' = w :=
  Any.bits_Mul64 mulLays x y hx hy w

/-- Mul64: the two limbs of the product, under names. -/
theorem mul64 (x y : Int) (hx : 0 ≤ x) (hx' : x < 18446744073709551616) (hy : 0 ≤ y) (hy' : y < 18446744073709551616) (w : World) :
    Calls Tryz.prog 120 #[.int .u64 x, .int .u64 y] w fun e w' => ∃ h l : Int, e = .returned (.tuple #[.int .u64 h, .int .u64 l]) ∧ (0 ≤ h ∧ h ≤ 18446744073709551614 ∧ 0 ≤ l ∧ l < 18446744073709551616) ∧ Hid (l + 18446744073709551616 * h = x * y) ∧ Hid (h = x * y / 18446744073709551616) ∧ w' = w := by
  obtain ⟨x, rfl⟩ := Int.eq_ofNat_of_zero_le hx
  obtain ⟨y, rfl⟩ := Int.eq_ofNat_of_zero_le hy
  refine (mul64_nat x y (by omega) (by omega) w).mono ?_
  rintro e w' ⟨rfl, rfl⟩
  have hb : x * y ≤ 18446744073709551615 * 18446744073709551615 := Nat.mul_le_mul (by omega) (by omega)
  have hc : ((x * y : Nat) : Int) = (x : Int) * (y : Int) := Int.natCast_mul x y
  rw [← hc]
  refine ⟨_, _, rfl, ?_, ?_, ?_, rfl⟩
  · generalize x * y = t at hb
    omega
  · show _ = _
    generalize x * y = t
    omega
  · show _ = _
    generalize x * y = t
    omega
end Go.Proofs.YtjkefcikepnbpaaGreatDoor

namespace Go.Proofs.YtjkefcikepnbpaaGreatDoor
open Go.RowKit Go.Deep

theorem Ans.small {B : Nat} {w : World} {p : Option Addr} {ys : List Int} {n : Int} (h : Ans B w p ys n) (hn : n < Nm.pw 4096) : ys.length ≤ 4096 := by
  have h1 := (Nm.tsize_le_iff h.2.1 4096).2 (by rw [h.2.2.2.1]; exact hn)
  have h2 := h.2.2.1
  omega

theorem Arg.small {w : World} {p : Option Addr} {n cap : Nat} {zs : List Int} (h : Arg w p n cap zs) (hn : Nm.val zs < Nm.pw 4096) : Nm.tsize zs ≤ 4096 := (Nm.tsize_le_iff h.2.2.2.2 4096).2 hn

/-- Behind j limbs of a sum: what is in the block, and the carry beyond it, is T. -/
def AddInv (g k : Nat) (w : World) (T : Int) (j : Nat) (c : Int) (os : List Int) (wr : World) : Prop :=
  Own wr g os ∧ os.length = k ∧ Nm.Limbs os ∧ Nm.val os + Nm.pw j * c = T ∧ Below g w wr ∧ wr.heap.size = w.heap.size

theorem AddInv.step {g k : Nat} {w : World} {T : Int} {j : Nat} {c : Int} {os : List Int} {wr : World} (h : AddInv g k w T j c os wr) (hj : j < k) {x s c' : Int}
    (hs : s = (os.getD j 0 + x + c) % 18446744073709551616) (hc : c' = (os.getD j 0 + x + c) / 18446744073709551616) :
    AddInv g k w (T + Nm.pw j * x) (j + 1) c' (os.set j s) (wr.setCell ⟨g, j, none⟩ (.int .u64 s)) := by
  obtain ⟨h1, h2, h3, h4, h5, h6⟩ := h
  refine ⟨h1.set j s, by simpa using h2, h3.set j (by omega) (by omega), Nm.add_step (by omega) (by omega) h4, h5.setCell (Nat.le_refl _) _, by simpa [World.setCell] using h6⟩

theorem AddInv.end {g k : Nat} {w : World} {T : Int} {j : Nat} {c : Int} {os : List Int} {wr : World} (h : AddInv g k w T j c os wr) (hT : T < Nm.pw k) (hc : 1 ≤ c) : j < k := by
  obtain ⟨h1, h2, h3, h4, h5, h6⟩ := h
  rcases Nat.lt_or_ge j k with hj | hj
  · exact hj
  · have e1 := Nm.pw_mono hj
    have e2 := (Nm.val_bd os h3).1
    have e3 := Nm.pw_pos j
    have e4 : Nm.pw j * 1 ≤ Nm.pw j * c := Int.mul_le_mul_of_nonneg_left hc (by omega)
    omega

/-- Behind j limbs of a product added in, from limb o on: what is in the block, and the carry beyond, is T; behind limb 'top' nothing has turned. -/
def MulInv (g k top : Nat) (w : World) (zs : List Int) (T : Int) (j : Nat) (c : Int) (os : List Int) (wr : World) : Prop :=
  AddInv g k w T j c os wr ∧ (0 ≤ c ∧ c < 18446744073709551616) ∧ ∀ i, top ≤ i → os.getD i 0 = zs.getD i 0

/-- One limb: s + 2^64 c' = out[j] + x m + c. -/
theorem MulInv.step {g k top : Nat} {w : World} {zs : List Int} {T : Int} {j : Nat} {c : Int} {os : List Int} {wr : World} (h : MulInv g k top w zs T j c os wr) (hj : j < k) (ht : j < top) {x s c' : Int}
    (hs0 : 0 ≤ s ∧ s < 18446744073709551616) (hc0 : 0 ≤ c' ∧ c' < 18446744073709551616) (hs : s + 18446744073709551616 * c' = os.getD j 0 + x + c) :
    MulInv g k top w zs (T + Nm.pw j * x) (j + 1) c' (os.set j s) (wr.setCell ⟨g, j, none⟩ (.int .u64 s)) := by
  obtain ⟨⟨h1, h2, h3, h4, h5, h6⟩, h7, h8⟩ := h
  refine ⟨⟨h1.set j s, by simpa using h2, h3.set j hs0.1 hs0.2, Nm.add_step (by omega) hs h4, h5.setCell (Nat.le_refl _) _, by simpa [World.setCell] using h6⟩, hc0, fun i hi => ?_⟩
  rw [Nm.getD_set _ _ _ _ (by omega), if_neg (by omega)]
  exact h8 i hi

/-- The limbs of one round of addTimes. -/
theorem times_step {x m y c p l h : Int} {s1 k1 s2 k2 : Int} (hp : l + 18446744073709551616 * h = p) (hl : 0 ≤ l ∧ l < 18446744073709551616) (hh : 0 ≤ h) (hx : 0 ≤ x ∧ x < 18446744073709551616) (hm : 0 ≤ m ∧ m < 18446744073709551616) (hxm : p = x * m)
    (hy : 0 ≤ y ∧ y < 18446744073709551616) (hc : 0 ≤ c ∧ c < 18446744073709551616)
    (e1 : s1 = (l + y + 0) % 18446744073709551616) (e2 : k1 = (l + y + 0) / 18446744073709551616) (e3 : s2 = (s1 + c + 0) % 18446744073709551616) (e4 : k2 = (s1 + c + 0) / 18446744073709551616) :
    (0 ≤ s2 ∧ s2 < 18446744073709551616) ∧ (0 ≤ h + k1 + k2 ∧ h + k1 + k2 < 18446744073709551616) ∧ s2 + 18446744073709551616 * (h + k1 + k2) = y + x * m + c := by
  have hb : x * m ≤ 18446744073709551615 * 18446744073709551615 := Int.mul_le_mul (by omega) (by omega) (by omega) (by omega)
  rw [← hxm] at hb ⊢
  clear hxm
  omega

set_option maxHeartbeats 1000000 in
theorem addTimes_any (g k o n cap : Nat) (zs : List Int) (q : Option Addr) (cap' : Nat) (ys : List Int) (m : Int) (w : World) (hk : zs.length = k) (hkm : k ≤ 35184372088832) (ho : Own w g zs) (hl : Nm.Limbs zs)
    (hn : ys.length = n) (hon : o + n ≤ k) (hy : Lies w q ys) (hly : Nm.Limbs ys) (hq : 0 < ys.length → ∀ a, q = some a → a.block < g) (hm0 : 0 ≤ m) (hm1 : m < 18446744073709551616) :
    Calls Tryz.prog 88 #[.slice (some ⟨g, o, none⟩) n cap, .slice q n cap', .int .u64 m] w fun e w' => ∃ (c : Int) (os : List Int), e = .returned (.int .u64 c) ∧
      MulInv g k (o + n) w zs (Nm.val zs + Nm.pw o * (Nm.val ys * m)) (o + n) c os w' := by
  rcases hy with rfl | ⟨b, off, rfl, hcell⟩
  · have hn0 : n = 0 := by simpa using hn.symm
    subst hn0
    have E : MulInv g k (o + 0) w zs (Nm.val zs + Nm.pw o * (Nm.val [] * m)) (o + 0) 0 zs w := ⟨⟨ho, hk, hl, by simp [Nm.val], Below.refl _ _, rfl⟩, by omega, fun _ _ => rfl⟩
    clear ho hl hq hn hk
    go_enter Tryz.func88, Tryz.ntmps88
    go_wp2
    refine wp_loop_rounds 1 ?_
    rw [rounds_succ]
    go_wp2
    go_ret
    exact ⟨0, zs, rfl, E⟩
  · have hbg : 0 < ys.length → b < g := fun h => hq h _ rfl
    have I0 : MulInv g k (o + n) w zs (Nm.val zs + Nm.pw o * (Nm.val (ys.take 0) * m)) (o + 0) 0 zs w := ⟨⟨ho, hk, hl, by simp [Nm.val], Below.refl _ _, rfl⟩, by omega, fun _ _ => rfl⟩
    have HC : Hid (∀ i, i < ys.length → w.cell? ⟨b, off + i, none⟩ = some (.int .u64 (ys.getD i 0))) := hcell
    have HM : Hid (ys.length = n) := hn
    have HY : Hid (Nm.Limbs ys) := hly
    clear hcell hn hly hq ho hk hl
    go_enter Tryz.func88, Tryz.ntmps88
    go_wp2
    go_loopw [7, 15] (fun c i wr => ∃ (j : Nat) (cc : Int) (os : List Int), j ≤ n ∧ i = .int .i64 j ∧ c = .int .u64 cc ∧ MulInv g k (o + n) w zs (Nm.val zs + Nm.pw o * (Nm.val (ys.take j) * m)) (o + j) cc os wr) (fun _ i _ => n - (intOf i).toNat)
    case atStart => exact ⟨0, 0, zs, Nat.zero_le _, rfl, rfl, I0⟩
    case round =>
      clear I0
      obtain ⟨j, cc, os, hj, rfl, rfl, I⟩ := hrel
      by_cases hlt : j < n
      · obtain ⟨x, hx, X⟩ : ∃ x, wr.cell? ⟨b, off + j, none⟩ = some (.int .u64 x) ∧ Hid (x = ys.getD j 0) :=
          ⟨_, (I.1.2.2.2.2.1.cell (p := ⟨b, off + j, none⟩) (hbg (by have := HM.out; omega))).trans (HC.out j (by have := HM.out; omega)), rfl⟩
        obtain ⟨y, hyc, Y⟩ : ∃ y, wr.cell? ⟨g, o + j, none⟩ = some (.int .u64 y) ∧ Hid (y = os.getD (o + j) 0) := ⟨_, I.1.1.cell (o + j) (by have := I.1.2.1; omega), rfl⟩
        have hfr := I.1.1.free (o + j)
        have hx0 : 0 ≤ x ∧ x < 18446744073709551616 := by have := HY.out.at j; have := X.out; omega
        have hy0 : 0 ≤ y ∧ y < 18446744073709551616 := by have := I.1.2.2.1.at (o + j); have := Y.out; omega
        have hcc := I.2.1
        obtain ⟨hx0, hx1⟩ := hx0
        obtain ⟨hy0, hy1⟩ := hy0
        obtain ⟨hcc0, hcc1⟩ := hcc
        go_wp2_with fail
        refine (mul64 x m hx0 hx1 hm0 hm1 _).mono ?_
        rintro e w' ⟨h, l, rfl, ⟨hh0, hh1, hl0, hl1⟩, P1, _, rfl⟩
        obtain ⟨s1, S1⟩ : ∃ s, Hid (s = (l + y + 0) % 18446744073709551616) := ⟨_, rfl⟩
        obtain ⟨k1, K1⟩ : ∃ c, Hid (c = (l + y + 0) / 18446744073709551616) := ⟨_, rfl⟩
        obtain ⟨s2, S2⟩ : ∃ s, Hid (s = (s1 + cc + 0) % 18446744073709551616) := ⟨_, rfl⟩
        obtain ⟨k2, K2⟩ : ∃ c, Hid (c = (s1 + cc + 0) / 18446744073709551616) := ⟨_, rfl⟩
        have hs1 : 0 ≤ s1 := by have := S1.out; omega
        have ST := hid (times_step P1.out ⟨hl0, hl1⟩ hh0 ⟨hx0, hx1⟩ ⟨hm0, hm1⟩ rfl ⟨hy0, hy1⟩ ⟨hcc0, hcc1⟩ S1.out K1.out S2.out K2.out)
        have hk1 : 0 ≤ k1 := by have := K1.out; omega
        have hk2 : 0 ≤ k2 := by have := K2.out; omega
        have hkk : h + k1 + k2 < 18446744073709551616 := ST.out.2.1.2
        go_wp2_with (first | simp only [add64' l y 0 s1 k1 hl0 hy0 (Int.le_refl 0) (by decide) S1.out K1.out] | simp only [add64' s1 cc 0 s2 k2 hs1 hcc0 (Int.le_refl 0) (by decide) S2.out K2.out])
        go_roundw
        case rel =>
          have hst := I.step (by omega) (by omega) (x := x * m) (s := s2) (c' := h + k1 + k2) ST.out.1 ST.out.2.1 (by rw [← Y.out]; exact ST.out.2.2)
          refine ⟨j + 1, h + k1 + k2, os.set (o + j) s2, by omega, by go_num, rfl, ?_⟩
          have e : Nm.val zs + Nm.pw o * (Nm.val (ys.take (j + 1)) * m) = Nm.val zs + Nm.pw o * (Nm.val (ys.take j) * m) + Nm.pw (o + j) * (x * m) := by
            rw [Nm.val_take_succ ys j (by have := HM.out; omega), ← X.out, Nm.pw_add, Int.add_mul, Int.mul_add, Int.mul_assoc, Int.mul_assoc]
            omega
          rw [e]
          exact hst
        case measure => simp [intOf]; omega
      · have hjn : j = n := by omega
        subst hjn
        rw [List.take_of_length_le (by have := HM.out; omega)] at I
        go_wp2
        go_ret
        exact ⟨cc, os, rfl, I⟩
end Go.Proofs.YtjkefcikepnbpaaGreatDoor

namespace Go.Proofs.YtjkefcikepnbpaaGreatDoor
open Go.RowKit Go.Deep

/-- Behind j limbs of a * m + c: what is in the block, and the carry beyond, is T; from limb j on the block is 0. -/
def MaInv (g k : Nat) (w : World) (T : Int) (j : Nat) (c : Int) (os : List Int) (wr : World) : Prop :=
  AddInv g k w T j c os wr ∧ (0 ≤ c ∧ c < 18446744073709551616) ∧ ∀ i, j ≤ i → os.getD i 0 = 0

theorem MaInv.step {g k : Nat} {w : World} {T : Int} {j : Nat} {c : Int} {os : List Int} {wr : World} (h : MaInv g k w T j c os wr) (hj : j < k) {x s c' : Int}
    (hs0 : 0 ≤ s ∧ s < 18446744073709551616) (hc0 : 0 ≤ c' ∧ c' < 18446744073709551616) (hs : s + 18446744073709551616 * c' = x + c) :
    MaInv g k w (T + Nm.pw j * x) (j + 1) c' (os.set j s) (wr.setCell ⟨g, j, none⟩ (.int .u64 s)) := by
  obtain ⟨⟨h1, h2, h3, h4, h5, h6⟩, h7, h8⟩ := h
  have hz := h8 j (Nat.le_refl _)
  refine ⟨⟨h1.set j s, by simpa using h2, h3.set j hs0.1 hs0.2, Nm.add_step (by omega) (by omega) h4, h5.setCell (Nat.le_refl _) _, by simpa [World.setCell] using h6⟩, hc0, fun i hi => ?_⟩
  rw [Nm.getD_set _ _ _ _ (by omega), if_neg (by omega)]
  exact h8 i (by omega)

theorem getD_replicate (n i : Nat) : (List.replicate n (0 : Int)).getD i 0 = 0 := by
  simp only [List.getD, List.getElem?_replicate]
  split <;> rfl

end Go.Proofs.YtjkefcikepnbpaaGreatDoor

namespace Go.Proofs.YtjkefcikepnbpaaGreatDoor
open Go.RowKit Go.Deep

namespace Sh
theorem wrap_mod (x : Int) : IntKind.u64.wrap x = x % 18446744073709551616 := by rw [IntKind.wrap_u64]

/-- Digits that don't meet: 'or' is a sum. -/
theorem or_sum (hi c : Int) (s : Nat) (h0 : 0 ≤ hi) (hc0 : 0 ≤ c) (hc : c < 2 ^ s) (h1 : hi * 2 ^ s < 18446744073709551616) (h2 : c < 18446744073709551616) : bits .or .u64 (hi * 2 ^ s) c = hi * 2 ^ s + c := by
  obtain ⟨a, rfl⟩ := Int.eq_ofNat_of_zero_le h0
  obtain ⟨b, rfl⟩ := Int.eq_ofNat_of_zero_le hc0
  have hP : (2 : Int) ^ s = ((2 ^ s : Nat) : Int) := by simp
  rw [hP] at hc h1 ⊢
  have hb : b < 2 ^ s := by omega
  rw [← Int.natCast_mul] at h1 ⊢
  have h := bits_or_u64_nat (a * 2 ^ s) b (by omega) (by omega)
  rw [h, Nat.mul_comm a, ← Nat.two_pow_add_eq_or_of_lt hb a]
  omega

theorem split64 (r : Nat) (hr : r ≤ 63) : (2 : Int) ^ r * 2 ^ (64 - r) = 18446744073709551616 := by
  rw [← Nm.two_add, show r + (64 - r) = 64 by omega, Nm.two_64]

/-- One limb moved up by r binary digits, with what came up from below: the limb s, and what goes on. -/
theorem up (x sp : Int) (r : Nat) (hr : r ≤ 63) (x0 : 0 ≤ x) (x1 : x < 18446744073709551616) (s0 : 0 ≤ sp) (s1 : sp < 2 ^ r) :
    ∃ A s sp', IntKind.u64.wrap (x * 2 ^ r) = A ∧ bits .or .u64 A sp = s ∧ x / 2 ^ (64 - r) = sp' ∧ (0 ≤ s ∧ s < 18446744073709551616) ∧ (0 ≤ sp' ∧ sp' < 2 ^ r) ∧ Hid (s + 18446744073709551616 * sp' = x * 2 ^ r + sp) := by
  have hP := Nm.two_pos r
  have hQ := Nm.two_pos (64 - r)
  have hPQ := split64 r hr
  obtain ⟨P, hPe⟩ : ∃ P : Int, 2 ^ r = P := ⟨_, rfl⟩
  obtain ⟨Q, hQe⟩ : ∃ Q : Int, 2 ^ (64 - r) = Q := ⟨_, rfl⟩
  have d1 := Int.emod_add_mul_ediv x Q
  have d2 := Int.emod_nonneg x (show Q ≠ 0 by omega)
  have d3 := Int.emod_lt_of_pos x (show 0 < Q by omega)
  have a0 : 0 ≤ x / Q := Int.ediv_nonneg x0 (by omega)
  rw [hPe] at hP s1 hPQ
  rw [hQe] at hQ hPQ
  have a1 : x / Q < P := by
    rw [Int.ediv_lt_iff_lt_mul hQ, hPQ]
    exact x1
  have a4 : x * P = x % Q * P + 18446744073709551616 * (x / Q) := by
    have : (x % Q + Q * (x / Q)) * P = x * P := by rw [d1]
    rw [Int.add_mul, Int.mul_right_comm, Int.mul_comm Q P, hPQ] at this
    omega
  have a5 : (x % Q + 1) * P ≤ Q * P := Int.mul_le_mul_of_nonneg_right (by omega) (by omega)
  rw [Int.add_mul, Int.one_mul, Int.mul_comm Q P, hPQ] at a5
  have a6 : 0 ≤ x % Q * P := Int.mul_nonneg d2 (by omega)
  have hA : IntKind.u64.wrap (x * P) = x % Q * P := by rw [wrap_mod]; omega
  have hO := or_sum (x % Q) sp r d2 s0 (by rw [hPe]; exact s1) (by rw [hPe]; omega) (by omega)
  rw [hPe] at hO
  rw [hPe, hQe]
  exact ⟨_, _, _, hA, hO, rfl, by omega, ⟨a0, a1⟩, show _ = _ by omega⟩
end Sh
end Go.Proofs.YtjkefcikepnbpaaGreatDoor

namespace Go.Proofs.YtjkefcikepnbpaaGreatDoor
open Go.RowKit Go.Deep

/-- The kit's contract for Len64, laid at this program. -/
def lenRen : Go.Shelf.Ren := ⟨fun _ => 108, fun t => if t = 53 then 22 else if t = 46 then 76 else if t = 5 then 5 else if t = 9 then 9 else if t = 4 then 4 else 3, fun g => g⟩
theorem lenLays : Lays.n129 Tryz.prog lenRen where
  mixed := by kernel_rfl
  f129 := by kernel_rfl
  t3 := by kernel_rfl
  a3 := fun _ => by kernel_rfl
  z3 := fun _ => by kernel_rfl
  v3 := fun _ => by kernel_rfl
  t4 := by kernel_rfl
  a4 := fun _ => by kernel_rfl
  z4 := fun _ => by kernel_rfl
  v4 := fun _ => by kernel_rfl
  t5 := by kernel_rfl
  a5 := fun _ => by kernel_rfl
  z5 := fun _ => by kernel_rfl
  v5 := fun _ => by kernel_rfl
  t9 := by kernel_rfl
  a9 := fun _ => by kernel_rfl
  z9 := fun _ => by kernel_rfl
  v9 := fun _ => by kernel_rfl
  t46 := by kernel_rfl
  a46 := fun _ => by kernel_rfl
  z46 := fun _ => by kernel_rfl
  v46 := fun _ => by kernel_rfl
  t53 := by kernel_rfl
  a53 := fun _ => by kernel_rfl
  z53 := fun _ => by kernel_rfl
  v53 := fun _ => by kernel_rfl

theorem len64 (x : Int) (w : World) (h0 : 0 ≤ x) (h1 : x < 18446744073709551616) :
    Calls Tryz.prog 108 #[.int .u64 x] w fun e w' => e = .returned (.int .i64 (Lib.bitLen x.toNat)) ∧ w' = w :=
  Any.bits_Len64 lenLays x w h0 (by omega)

theorem bitLen_small (x : Nat) (h : x < 18446744073709551616) : Lib.bitLen x ≤ 64 := Lib.bitLen_le x 64 (Nat.le_refl _) (by simpa using h)

end Go.Proofs.YtjkefcikepnbpaaGreatDoor

namespace Go.Proofs.YtjkefcikepnbpaaGreatDoor
open Go.RowKit Go.Deep

/-- The number of binary digits. -/
def blen (zs : List Int) : Int := if Nm.tsize zs = 0 then 0 else ((Nm.tsize zs : Int) - 1) * 64 + Lib.bitLen (zs.getD (Nm.tsize zs - 1) 0).toNat

theorem blen_trim (zs : List Int) (t : Nat) (ht : Nm.tsize zs = t + 1) : blen zs = (t : Int) * 64 + Lib.bitLen ((Nm.trim zs).getD t 0).toNat := by
  have e : (Nm.trim zs).getD t 0 = zs.getD t 0 := by rw [Nm.trim, Nm.getD_take, if_pos (by omega)]
  rw [blen, if_neg (by omega), e, ht]
  simp

theorem retI {a b : Int} (h : a = b) : Ending.returned (.int .i64 a) = .returned (.int .i64 b) := by rw [h]

set_option maxRecDepth 100000 in
set_option maxHeartbeats 1000000 in
theorem bitLen_any (p : Option Addr) (n cap : Nat) (zs : List Int) (w : World) (ha : Arg w p n cap zs) :
    Calls Tryz.prog 77 #[.slice p n cap] w fun e w' => e = .returned (.int .i64 (blen zs)) ∧ w' = w := by
  obtain ⟨a1, a2, a3, a4, a5⟩ := ha
  have tl := Nm.tsize_le zs
  by_cases h0 : Nm.tsize zs = 0
  · have h0' : ((Nm.tsize zs : Int) == 0) = true := by simp [h0]
    have E : Hid (blen zs = 0) := by rw [Hid, blen, if_pos h0]
    clear h0 tl
    go_enter Tryz.func77, Tryz.ntmps77
    go_wp2_with fail
    refine (trimmed_any p n cap zs _ a1 a2 (by omega) a4).mono ?_
    rintro e w' ⟨rfl, rfl⟩
    go_wp2_with fail
    go_ret
    exact ⟨retI E.out.symm, rfl⟩
  · obtain ⟨t, ht⟩ : ∃ t, Nm.tsize zs = t + 1 := ⟨Nm.tsize zs - 1, by omega⟩
    have T1 := trimmed_any p n cap zs w a1 a2 (by omega) a4
    rw [ht] at T1
    have h0' : ((t : Int) + 1 == 0) = false := by rw [beq_eq_false_iff_ne]; omega
    have E := hid (blen_trim zs t ht)
    have L := hid ((Nm.trim_length zs).trans ht)
    obtain ⟨b, off, rfl, hc⟩ : ∃ b off, p = some ⟨b, off, none⟩ ∧ w.cell? ⟨b, off + t, none⟩ = some (.int .u64 ((Nm.trim zs).getD t 0)) := by
      have l := L.out
      rcases a4.trim with h | ⟨b, off, hp, h⟩
      · rw [h] at l
        simp at l
      · exact ⟨b, off, hp, h t (by omega)⟩
    obtain ⟨x, X⟩ : ∃ x, Hid (x = (Nm.trim zs).getD t 0) := ⟨_, rfl⟩
    rw [← X.out] at hc
    have hx0 := a5.trim.at t
    rw [← X.out] at hx0
    obtain ⟨hx0, hx1⟩ := hx0
    have E2 : Hid (blen zs = (t : Int) * 64 + Lib.bitLen x.toNat) := by rw [Hid, X.out]; exact E.out
    obtain ⟨l, hl⟩ : ∃ l, Lib.bitLen x.toNat = l := ⟨_, rfl⟩
    have hl64 : l ≤ 64 := by rw [← hl]; exact bitLen_small _ (by omega)
    have hl64' : (l : Int) ≤ 64 := by omega
    have L64 := len64 x w hx0 hx1
    rw [hl] at L64 E2
    have HT := hid T1
    have HL := hid L64
    have ht44 : (t : Int) < 17592186044416 := by omega
    clear T1 L64 hl E X h0 ht tl a1 a2 a4 a5 L
    go_enter Tryz.func77, Tryz.ntmps77
    go_wp2_with fail
    refine HT.out.mono ?_
    rintro e w' ⟨rfl, rfl⟩
    go_wp2_with fail
    refine HL.out.mono ?_
    rintro e w' ⟨rfl, rfl⟩
    go_wp2_with fail
    go_ret
    exact ⟨retI E2.out.symm, rfl⟩
end Go.Proofs.YtjkefcikepnbpaaGreatDoor

namespace Go.Proofs.YtjkefcikepnbpaaGreatDoor
open Go.RowKit Go.Deep

theorem chain {B : Nat} {w w1 w2 : World} (h : Below B w w1) (k : Below w1.heap.size w1 w2) (hB : B ≤ w.heap.size) : Below B w w2 := h.trans (k.mono (by have := h.size; omega))

theorem Arg.tl {w : World} {p : Option Addr} {n cap : Nat} {zs : List Int} (h : Arg w p n cap zs) : Nm.tsize zs ≤ n := by have := Nm.tsize_le zs; have := h.1; omega

/-- The number of an answer's limbs, by the number itself. -/
theorem Ans.len {B : Nat} {w : World} {p : Option Addr} {ys zs : List Int} {n : Int} (h : Ans B w p ys n) (hz : Nm.Limbs zs) (hv : n = Nm.val zs) : ys.length = Nm.tsize zs := by
  rw [← h.2.2.1]
  exact Nm.tsize_congr h.2.1 hz (h.2.2.2.1.trans hv)
end Go.Proofs.YtjkefcikepnbpaaGreatDoor

namespace Go.Proofs.YtjkefcikepnbpaaGreatDoor
open Go.RowKit Go.Deep

/-- What BitLen tells. -/
theorem blen_is (zs : List Int) (hz : Nm.Limbs zs) : ∃ L : Nat, blen zs = (L : Int) ∧ Nm.BLen (Nm.val zs) L ∧ L ≤ 64 * Nm.tsize zs ∧ (0 < Nm.tsize zs → 64 * Nm.tsize zs < L + 64) := by
  by_cases h0 : Nm.tsize zs = 0
  · have hv := (Nm.tsize_zero_iff hz).1 h0
    exact ⟨0, by rw [blen, if_pos h0]; rfl, ⟨by rw [hv]; decide, fun _ => rfl, fun h => by omega⟩, by omega, fun h => by omega⟩
  · obtain ⟨t, ht⟩ : ∃ t, Nm.tsize zs = t + 1 := ⟨Nm.tsize zs - 1, by omega⟩
    have hx := hz.at t
    have hx0 := Nm.tsize_top zs (by omega)
    rw [show Nm.tsize zs - 1 = t by omega] at hx0
    obtain ⟨n, hn⟩ := Int.eq_ofNat_of_zero_le hx.1
    have hb := Lib.bitLenAux_bounds 64 n (by simpa using (show n < 18446744073709551616 by omega)) (by omega)
    rw [show Lib.bitLenAux 64 n = Lib.bitLen n from rfl] at hb
    have hs := bitLen_small n (by omega)
    obtain ⟨l, hl⟩ : ∃ l, Lib.bitLen n = l := ⟨_, rfl⟩
    rw [hl] at hb hs
    have e1 : ((2 ^ (l - 1) : Nat) : Int) = (2 : Int) ^ (l - 1) := by simp
    have e2 : ((2 ^ l : Nat) : Int) = (2 : Int) ^ l := by simp
    refine ⟨64 * t + l, ?_, Nm.blen_at zs t l hz ht hb.1 (by omega) (by omega), by omega, fun _ => by omega⟩
    rw [blen, if_neg h0, show Nm.tsize zs - 1 = t by omega, hn, Int.toNat_natCast, hl, ht]
    omega
end Go.Proofs.YtjkefcikepnbpaaGreatDoor

namespace Go.Proofs.YtjkefcikepnbpaaGreatDoor
open Go.RowKit Go.Deep

/-- What ToUint answers: the limb, and whether it is one. -/
def toU (zs : List Int) : Int := if Nm.tsize zs = 1 then zs.getD 0 0 else 0

theorem ret_to {a b : Int} {c d : Bool} (h : a = b) (k : c = d) : Ending.returned (.tuple #[.int .u64 a, .bool c]) = .returned (.tuple #[.int .u64 b, .bool d]) := by rw [h, k]

theorem toUint_any (p : Option Addr) (n cap : Nat) (zs : List Int) (w : World) (ha : Arg w p n cap zs) :
    Calls Tryz.prog 150 #[.slice p n cap] w fun e w' => e = .returned (.tuple #[.int .u64 (toU zs), .bool (decide (Nm.tsize zs ≤ 1))]) ∧ w' = w := by
  obtain ⟨a1, a2, a3, a4, a5⟩ := ha
  have tl := Nm.tsize_le zs
  have S1 := trimmed_any p n cap zs w a1 a2 (by omega) a4
  rcases (show Nm.tsize zs = 0 ∨ Nm.tsize zs = 1 ∨ 1 < Nm.tsize zs by omega) with h | h | h
  · have E : Hid (0 = toU zs ∧ true = decide (Nm.tsize zs ≤ 1)) := by simp [Hid, toU, h]
    rw [h] at S1
    have HS := hid S1
    clear S1 h
    go_enter Tryz.func150, Tryz.ntmps150
    go_wp2_with fail
    refine HS.out.mono ?_
    rintro e w' ⟨rfl, rfl⟩
    go_wp2
    go_ret2
    exact ⟨ret_to E.out.1 E.out.2, rfl⟩
  · have E : Hid (zs.getD 0 0 = toU zs ∧ true = decide (Nm.tsize zs ≤ 1)) := by simp [Hid, toU, h]
    obtain ⟨b, off, rfl, hbw, HC⟩ := a4.at (by omega)
    have hc := HC.out 0 (by omega)
    rw [Nat.add_zero] at hc
    rw [h] at S1
    have HS := hid S1
    clear S1 h
    go_enter Tryz.func150, Tryz.ntmps150
    go_wp2_with fail
    refine HS.out.mono ?_
    rintro e w' ⟨rfl, rfl⟩
    go_wp2
    go_ret2
    exact ⟨ret_to E.out.1 E.out.2, rfl⟩
  · have E : Hid (0 = toU zs ∧ false = decide (Nm.tsize zs ≤ 1)) := by
      refine ⟨?_, ?_⟩
      · rw [toU, if_neg (by omega)]
      · simp; omega
    have h1 : ((Nm.tsize zs : Int) == 0) = false := by rw [beq_eq_false_iff_ne]; omega
    have h2 : ((Nm.tsize zs : Int) == 1) = false := by rw [beq_eq_false_iff_ne]; omega
    have HS := hid S1
    clear S1 h
    go_enter Tryz.func150, Tryz.ntmps150
    go_wp2_with fail
    refine HS.out.mono ?_
    rintro e w' ⟨rfl, rfl⟩
    go_wp2
    go_ret2
    exact ⟨ret_to E.out.1 E.out.2, rfl⟩

theorem toU_val {zs : List Int} (hl : Nm.Limbs zs) (hv : Nm.val zs < 18446744073709551616) : toU zs = Nm.val zs := by
  have h1 : Nm.tsize zs ≤ 1 := (Nm.tsize_le_iff hl 1).2 (by simpa [Nm.pw] using hv)
  by_cases h : Nm.tsize zs = 1
  · rw [toU, if_pos h, ← Nm.val_trim zs, Nm.trim, h]
    cases zs with
    | nil => simp [Nm.val]
    | cons z zs => simp [Nm.val]
  · have h0 : Nm.tsize zs = 0 := by omega
    rw [toU, if_neg h, ← Nm.val_trim zs, Nm.trim, h0]
    simp [Nm.val]
end Go.Proofs.YtjkefcikepnbpaaGreatDoor

namespace Go.Proofs.YtjkefcikepnbpaaGreatDoor
open Go.RowKit Go.Deep

set_option maxRecDepth 100000 in
set_option maxHeartbeats 4000000 in
theorem spread_zero (B : Int) (W g o cap cp n c : Nat) (p pm : Option Addr) (za ds : List Int) (V : Int) (w : World) (h2 : 2 ≤ B) (h36 : B ≤ 36) (hW : W ≤ 63) (hd : OwnB w g ds) (hol : o + W ≤ ds.length) (ha : Arg w p n c za) (hV : Nm.val za = V) (hV1 : V < 18446744073709551616) :
    Calls Tryz.prog 137 #[.slice (some ⟨g, o, none⟩) W cap, .slice p n c, .slice pm 0 cp, .int .u64 B] w fun e w' => e = .returned (.tuple #[]) ∧ OwnB w' g (put ds o (Dn.dg B W V)) ∧ Only g w w' := by
  have hB0 : (B == 0) = false := by rw [beq_eq_false_iff_ne]; omega
  have hV0 : 0 ≤ V := by rw [← hV]; exact (Nm.val_bd za ha.2.2.2.2).1
  have TU : Hid (Calls Tryz.prog 150 #[.slice p n c] w fun e w' => e = .returned (.tuple #[.int .u64 V, .bool (decide (Nm.tsize za ≤ 1))]) ∧ w' = w) := by
    have := toUint_any p n c za w ha
    rw [toU_val ha.2.2.2.2 (by rw [hV]; exact hV1), hV] at this
    exact this
  have hWi : (W : Int) ≤ 63 := by omega
  have OB := hid hd
  have HOL := hid hol
  clear ha hV hd hol
  go_enter Tryz.func137, Tryz.ntmps137
  go_wp2_with fail
  refine TU.out.mono ?_
  rintro e w' ⟨rfl, rfl⟩
  clear TU
  go_wp2_with fail
  go_loopw [8, 10] (fun a i wr => ∃ (j : Nat) (N : Int), a = .int .u64 N ∧ i = .int .i64 ((j : Int) - 1) ∧ j ≤ W ∧ 0 ≤ N ∧ N < 18446744073709551616 ∧ Hid (N = V / B ^ (W - j) ∧ OwnB wr g (put ds (o + j) (Dn.dg B (W - j) V)) ∧ Only g w' wr)) (fun _ i _ => (intOf i + 1).toNat)
  case atStart =>
    refine ⟨W, V, rfl, rfl, Nat.le_refl _, hV0, hV1, ?_, ?_, Only.refl _ _⟩
    · rw [Nat.sub_self, Int.pow_zero, Int.ediv_one]
    · rw [Nat.sub_self, Dn.dg, put_nil]
      exact OB.out
  case round =>
    obtain ⟨j, N, rfl, rfl, hj, hN0, hN1, I⟩ := hrel
    cases j with
    | zero =>
      have F : Hid (OwnB wr g (put ds o (Dn.dg B W V)) ∧ Only g w' wr) := ⟨I.out.2.1, I.out.2.2⟩
      clear I
      go_wp2_with fail
      (try simp only [Exit.inBlock, Exit.then])
      refine bodyPost_ret (results_none rfl _ _ _) rfl ?_
      exact ⟨rfl, F.out⟩
    | succ u =>
      rw [show ((u + 1 : Nat) : Int) - 1 = (u : Int) by omega]
      have hu : (u : Int) < (W : Int) := by omega
      have hB1 : 0 < B := by omega
      obtain ⟨d, hd⟩ : ∃ d, N % B = d := ⟨_, rfl⟩
      obtain ⟨M, hM⟩ : ∃ M, N / B = M := ⟨_, rfl⟩
      have hd0 : 0 ≤ d := by rw [← hd]; exact Int.emod_nonneg _ (by omega)
      have hd1 : d < 36 := by have := Int.emod_lt_of_pos N hB1; omega
      have hM0 : 0 ≤ M := by rw [← hM]; exact Int.ediv_nonneg hN0 (by omega)
      have hM1 : M < 18446744073709551616 := by have := Int.ediv_le_self B hN0; omega
      have hlen : (put ds (o + (u + 1)) (Dn.dg B (W - (u + 1)) V)).length = ds.length := put_length _ _ _ (by rw [Dn.dg_length]; have := HOL.out; omega)
      have ST : Hid (∀ wq, Below wr.heap.size wr wq → OwnB (wq.setCell ⟨g, o + u, none⟩ (.int .u8 d)) g (put ds (o + u) (Dn.dg B (W - u) V)) ∧ Only g w' (wq.setCell ⟨g, o + u, none⟩ (.int .u8 d))) := by
        intro wq hb
        have h1 := (I.out.2.1.below hb I.out.2.1.lt).set (o + u) d
        rw [show o + (u + 1) = o + u + 1 by omega, put_head _ _ _ _ (by rw [Dn.dg_length]; have := HOL.out; omega)] at h1
        have e1 : d :: Dn.dg B (W - (u + 1)) V = Dn.dg B (W - u) V := by
          rw [show W - u = W - (u + 1) + 1 by omega, Dn.dg_head hB1, ← I.out.1, hd, Dn.dg_mod hB1]
        rw [e1] at h1
        exact ⟨h1, (I.out.2.2.trans (Only.of_below hb)).trans (Only.set _ _)⟩
      have EM : Hid (M = V / B ^ (W - u)) := by
        show _ = _
        rw [← hM, I.out.1, show W - u = W - (u + 1) + 1 by omega, Int.pow_succ, Int.ediv_ediv_of_nonneg (Int.le_of_lt (Int.pow_pos hB1))]
      obtain ⟨y, hy⟩ : ∃ y, wr.cell? ⟨g, o + u, none⟩ = some (.int .u8 y) := ⟨_, I.out.2.1.cell (o + u) (by rw [hlen]; have := HOL.out; omega)⟩
      have hfr := I.out.2.1.free (o + u)
      clear I hlen
      go_wp2_with fail
      go_region
      all_goals
        go_wp2
        go_roundw
        case rel => exact ⟨u, M, by first | rfl | rw [hM], by go_num, by omega, hM0, hM1, EM.out, ST.out _ (below_drewN (Below.refl _ _) _)⟩
        case measure => simp [intOf]
end Go.Proofs.YtjkefcikepnbpaaGreatDoor

namespace Go.Proofs.YtjkefcikepnbpaaGreatDoor
open Go.RowKit Go.Deep

theorem limbs_any (p : Option Addr) (n cap : Nat) (zs : List Int) (w : World) (ha : Arg w p n cap zs) :
    Calls Tryz.prog 117 #[.slice p n cap] w fun e w' => e = .returned (.int .i64 (Nm.tsize zs : Int)) ∧ w' = w := by
  obtain ⟨L, h1, _, h3, h4⟩ := blen_is zs ha.2.2.2.2
  have tl := Nm.tsize_le zs
  have hn := ha.1
  have hc := ha.2.2.1
  have hc' := ha.2.1
  have H := bitLen_any p n cap zs w ha
  rw [h1] at H
  have HB := hid H
  obtain ⟨N, HN⟩ : ∃ N, Hid (Nm.tsize zs = N) := ⟨_, rfl⟩
  rw [HN.out] at h3 h4 ⊢
  have hL : (L : Int) ≤ 1125899906842624000 := by have := HN.out; omega
  have hL0 : (0 : Int) ≤ (L : Int) := by omega
  have E : Hid (((L : Int) + 64 - 1) / 64 = (N : Int)) := by show _ = _; omega
  have E2 : Hid (((L : Int) + 64 - 1).tdiv 64 = (N : Int)) := by show _ = _; rw [Int.tdiv_eq_ediv_of_nonneg (by omega)]; exact E.out
  clear h1 h3 h4 H hn hc hc' tl ha
  go_enter Tryz.func117, Tryz.ntmps117
  go_wp2_with fail
  refine HB.out.mono ?_
  rintro e w' ⟨rfl, rfl⟩
  go_wp2_with fail
  go_ret
  exact ⟨ret_i64 (by first | exact E.out | exact E2.out), rfl⟩
end Go.Proofs.YtjkefcikepnbpaaGreatDoor

namespace Go.Proofs.YtjkefcikepnbpaaGreatDoor
open Go.RowKit Go.Deep

theorem ans_none (B : Nat) (w : World) (p : Option Addr) (h : ∀ a, p = some a → B ≤ a.block) : Ans B w p [] 0 :=
  ⟨Lies.nil _ _, Nm.Limbs.nil, rfl, rfl, h⟩

theorem limb_one {x : Int} (h : 0 ≤ x ∧ x < 18446744073709551616) : Nm.Limbs [x] := Nm.Limbs.mk h.1 h.2 Nm.Limbs.nil

theorem fromUint_any (x : Int) (w : World) (h0 : 0 ≤ x) (h1 : x < 18446744073709551616) :
    Calls Tryz.prog 56 #[.int .u64 x] w fun e w' => ∃ r os, e = .returned (.slice r (List.length os) (List.length os)) ∧ Ans w.heap.size w' r os x ∧ Below w.heap.size w w' := by
  by_cases hx : x = 0
  · subst hx
    go_enter Tryz.func56, Tryz.ntmps56
    go_wp2
    go_ret
    exact ⟨none, [], rfl, ans_none _ _ _ (fun a h => by cases h), Below.refl _ _⟩
  · have hx' : (x == 0) = false := by rw [beq_eq_false_iff_ne]; exact hx
    have D : Hid (Below w.heap.size w (w.alloc (.cells #[.int .u64 x] 22))) := (Below.refl _ _).alloc (Nat.le_refl _) _
    have A : Hid (Ans w.heap.size (w.alloc (.cells #[.int .u64 x] 22)) (some ⟨w.heap.size, 0, none⟩) [x] x) := ⟨(Own.alloc w [x]).lies, limb_one ⟨h0, h1⟩, by simp [Nm.tsize, hx], by simp [Nm.val], fun a h => by cases h; exact Nat.le_refl _⟩
    go_enter Tryz.func56, Tryz.ntmps56
    go_wp2
    go_ret
    exact ⟨some ⟨w.heap.size, 0, none⟩, [x], rfl, A.out, D.out⟩
end Go.Proofs.YtjkefcikepnbpaaGreatDoor

namespace Go.Proofs.YtjkefcikepnbpaaGreatDoor
open Go.RowKit Go.Deep

/-- Trim: the trimmed list, in new memory. -/
theorem trim_any (p : Option Addr) (n cap : Nat) (zs : List Int) (w : World) (ha : Arg w p n cap zs) :
    Calls Tryz.prog 118 #[.slice p n cap] w fun e w' => ∃ r os, e = .returned (.slice r (List.length os) (List.length os)) ∧ os = Nm.trim zs ∧ Ans w.heap.size w' r os (Nm.val zs) ∧ Below w.heap.size w w' := by
  obtain ⟨a1, a2, a3, a4, a5⟩ := ha
  have tl := Nm.tsize_le zs
  go_enter Tryz.func118, Tryz.ntmps118
  go_wp2_with fail
  refine (trimmed_any p n cap zs _ a1 a2 (by omega) a4).mono ?_
  rintro e w' ⟨rfl, rfl⟩
  go_wp2_with fail
  refine (widened_any p (Nm.tsize zs) (Nm.tsize zs) 0 0 (Nm.trim zs) _ rfl (Nm.trim_length zs) (by omega) a4.trim).mono ?_
  rintro e w1 ⟨rfl, ho, hb1, hz1⟩
  have HO := hid ho
  have HB := hid hb1
  clear ho hb1 hz1 tl
  go_wp2
  go_ret
  refine ⟨some ⟨w'.heap.size, 0, none⟩, Nm.trim zs, ?_, rfl, ⟨?_, a5.trim, ?_, Nm.val_trim zs, ?_⟩, HB.out⟩
  · rw [Nm.trim_length]; rfl
  · have := HO.out
    simp only [List.replicate_zero, List.append_nil] at this
    exact this.lies
  · rw [Nm.trim_trim, Nm.trim_length]
  · intro a h
    cases h
    exact Nat.le_refl _
end Go.Proofs.YtjkefcikepnbpaaGreatDoor

namespace Go.Proofs.YtjkefcikepnbpaaGreatDoor
open Go.RowKit Go.Deep

theorem info64r : (Tryz.prog.info? 96).map (fun i => (i.zero, i.size, i.bytes)) = some (some (.slice none 0 0), 1, 24) := by kernel_rfl

/-- The list of headers, behind another one is appended: in its block, or in a new one at the heap's end. -/
theorem pushRow (base n : Nat) (mv : Value) (xs : List Value) (v : Value) (w : World) (hn : n ≤ 1000) (hv : v.oneCell' = true) (hb : base ≤ w.heap.size) (ho : w.ownsRow base 96 1 mv n xs) :
    ∃ mv' w', (Builtin.append_ #[174, 174] 174 #[mv, .slice (some ⟨w.heap.size, 0, none⟩) 1 1]).run Tryz.prog (w.alloc (.cells #[v] 96)) = .ok mv' w' ∧ w'.ownsRow base 96 1 mv' (n + 1) (xs ++ [v]) ∧ Below base w w' ∧ w.heap.size ≤ w'.heap.size ∧
      (∀ j, j < w.heap.size → some j ≠ mv.ownBlock → w'.heap[j]? = w.heap[j]?) ∧ (∀ k, mv'.ownBlock = some k → mv.ownBlock = some k ∨ w.heap.size ≤ k) := by
  obtain ⟨i, hi, hz⟩ := Option.map_eq_some_iff.1 info64r
  simp only [Prod.mk.injEq] at hz
  obtain ⟨z1, z2, z3⟩ := hz
  have bm : Below w.heap.size w (w.alloc (.cells #[v] 96)) := (Below.refl _ _).alloc (Nat.le_refl _) _
  have hs : (w.alloc (.cells #[v] 96)).heap.size = w.heap.size + 1 := World.size_alloc _ _
  have ho' := ho.alloc (.cells #[v] 96)
  have hcell : (w.alloc (.cells #[v] 96)).cell? ⟨w.heap.size, 0, none⟩ = some v := by
    have : (w.alloc (.cells #[v] 96)).heap[w.heap.size]? = some (.cells #[v] 96 (0, 0)) := by
      show (w.heap.push _)[w.heap.size]? = _
      rw [Array.getElem?_push, if_pos rfl]
    simp only [World.cell?, this]
    rfl
  have hnews : ∀ j u, [v][j]? = some u → (w.alloc (.cells #[v] 96)).cell? ((⟨w.heap.size, 0, none⟩ : Addr).add j) = some u := fun j u hu => by
    cases j with
    | zero =>
      simp at hu
      subst hu
      rw [Go.WideShapes.add_plain]
      exact hcell
    | succ j => simp at hu
  have h1v : ∀ u ∈ [v], u.oneCell' = true := fun u hu => by simp at hu; subst hu; exact hv
  obtain ⟨v', w', hr, h1, h2, _⟩ := run_append_own (P := Tryz.prog) (w.alloc (.cells #[v] 96)) base 174 174 96 i (.slice none 0 0) 1 24 Tryz.underlying174 hi z1 z2 z3 rfl (by omega) mv n xs ho'
    ⟨w.heap.size, 0, none⟩ 1 1 [v] rfl hnews h1v (by simp only [maxLen]; omega) (by omega) (by rw [hs]; omega)
  refine ⟨v', w', hr, h1, ?_, by have := h2.size; omega, fun j hj hne => ?_, ?_⟩
  · have hb2 : Below base (w.alloc (.cells #[v] 96)) w' := by
      refine ⟨h2.os, h2.tape, h2.output, h2.size, fun j hj => h2.block j (by rw [hs]; omega) ?_⟩
      intro hk
      have := (ho'.lt j hk.symm).1
      omega
    exact (bm.mono hb).trans hb2
  · rw [h2.block j (by rw [hs]; omega) hne]
    exact bm.block j hj
  · intro k hk
    rcases ho'.2 with ⟨rfl, h0⟩ | ⟨g, cap, cur, rfl, _, hcur, hnc, hcm, hcs, htk⟩
    · right
      subst h0
      have hr2 := run_append_nil (P := Tryz.prog) (w.alloc (.cells #[v] 96)) 174 174 96 i (.slice none 0 0) Tryz.underlying174 hi z1 ⟨w.heap.size, 0, none⟩ 1 1 [v] (by rw [z2]; rfl) hnews (by omega) (by omega) (by rw [z3]; omega)
      rw [hr] at hr2
      simp only [Result.ok.injEq] at hr2
      obtain ⟨rfl, _⟩ := hr2
      simp only [Value.ownBlock, Option.some.injEq] at hk
      omega
    · by_cases hroom : n + 1 ≤ cap
      · left
        have hr2 := run_append_room (P := Tryz.prog) (w.alloc (.cells #[v] 96)) 174 174 96 i Tryz.underlying174 hi g n cap cur hcur ⟨w.heap.size, 0, none⟩ 1 1 [v] (by rw [z2]; rfl) hnews h1v hroom (by rw [z2, hcs]; simp; omega)
        rw [hr] at hr2
        simp only [Result.ok.injEq] at hr2
        obtain ⟨rfl, _⟩ := hr2
        simpa [Value.ownBlock] using hk
      · right
        have holds : ∀ j u, xs[j]? = some u → (w.alloc (.cells #[v] 96)).cell? ((⟨g, 0, none⟩ : Addr).add j) = some u := ho'.cells (g := g) rfl
        have hr2 := run_append_grow (P := Tryz.prog) (w.alloc (.cells #[v] 96)) 174 174 96 i (.slice none 0 0) Tryz.underlying174 hi z1 ⟨g, 0, none⟩ n cap xs (by rw [z2]; exact ho.1) holds ⟨w.heap.size, 0, none⟩ 1 1 [v] (by rw [z2]; rfl) hnews (by omega) (by omega) (growslice_fits (by omega) (by rw [z3]; omega))
        rw [hr] at hr2
        simp only [Result.ok.injEq] at hr2
        obtain ⟨rfl, _⟩ := hr2
        simp only [Value.ownBlock, Option.some.injEq] at hk
        omega

/-- A row: a trimmed list of the number V, in another block than the headers. -/
def RowIn (w : World) (mv : Value) (e : Option Addr × List Int) (V : Int) : Prop :=
  Lies w e.1 e.2 ∧ Nm.Limbs e.2 ∧ Nm.tsize e.2 = e.2.length ∧ Nm.val e.2 = V ∧ ∀ a, e.1 = some a → a.block < w.heap.size ∧ some a.block ≠ mv.ownBlock

def rowV (e : Option Addr × List Int) : Value := .slice e.1 e.2.length e.2.length

theorem RowIn.below {w w' : World} {mv : Value} {e : Option Addr × List Int} {V : Int} (h : RowIn w mv e V) (hb : Below w.heap.size w w') : RowIn w' mv e V :=
  ⟨h.1.below hb (Nat.le_refl _), h.2.1, h.2.2.1, h.2.2.2.1, fun a ha => ⟨Nat.lt_of_lt_of_le (h.2.2.2.2 a ha).1 hb.size, (h.2.2.2.2 a ha).2⟩⟩

theorem RowIn.pushed {w w' : World} {mv mv' : Value} {e : Option Addr × List Int} {V : Int} (h : RowIn w mv e V) (hz : w.heap.size ≤ w'.heap.size) (hb : ∀ j, j < w.heap.size → some j ≠ mv.ownBlock → w'.heap[j]? = w.heap[j]?) (hk : ∀ k, mv'.ownBlock = some k → mv.ownBlock = some k ∨ w.heap.size ≤ k) : RowIn w' mv' e V := by
  obtain ⟨h1, h2, h3, h4, h5⟩ := h
  refine ⟨?_, h2, h3, h4, fun a ha => ⟨Nat.lt_of_lt_of_le (h5 a ha).1 hz, fun hc => ?_⟩⟩
  · rcases h1 with h1 | ⟨b, off, hp, h1⟩
    · exact .inl h1
    · refine .inr ⟨b, off, hp, fun i hi => ?_⟩
      have h6 := h5 _ hp
      have := hb b h6.1 h6.2
      rw [← h1 i hi]
      simp only [World.cell?, this]
  · have h6 := h5 a ha
    rcases hk a.block hc.symm with c | c
    · exact h6.2 c.symm
    · omega

theorem RowIn.arg {w : World} {mv : Value} {e : Option Addr × List Int} {V : Int} (h : RowIn w mv e V) (hl : e.2.length ≤ 17592186044416) : Arg w e.1 e.2.length e.2.length e.2 := ⟨rfl, Nat.le_refl _, hl, h.1, h.2.1⟩

/-- An answer that is newer than the headers is such a row. -/
theorem Ans.row {B base n : Nat} {w w' : World} {r : Option Addr} {os : List Int} {V : Int} {mv : Value} {xs : List Value} (h : Ans B w' r os V) (hB : B = w.heap.size) (ho : w.ownsRow base 96 1 mv n xs) (h0 : 0 < V) : RowIn w' mv (r, os) V := by
  refine ⟨h.1, h.2.1, h.2.2.1, h.2.2.2.1, fun a ha => ⟨?_, fun hc => ?_⟩⟩
  · have hne : 0 < os.length := by
      rcases Nat.eq_zero_or_pos os.length with c | c
      · have := h.2.2.2.1
        rw [List.eq_nil_of_length_eq_zero c] at this
        simp [Nm.val] at this
        omega
      · exact c
    exact h.1.lt hne a ha
  · have h1 := h.2.2.2.2 a ha
    have h2 := ho.lt a.block hc.symm
    omega
end Go.Proofs.YtjkefcikepnbpaaGreatDoor

namespace Go.Proofs.YtjkefcikepnbpaaGreatDoor
open Go.RowKit Go.Deep

structure ShutG (p : Prop) : Prop where
  out : p

/-- So many digits a limb holds. -/
theorem few64 {B : Int} {W : Nat} (hB : 2 ≤ B) (h : B ^ W < 18446744073709551616) : W ≤ 63 := by
  have := Ln.small (A := B ^ W) (L := 64) hB (Int.le_refl _) (by rw [show (2 : Int) ^ 64 = 18446744073709551616 by decide]; exact h)
  omega

set_option maxRecDepth 100000 in
set_option maxHeartbeats 1000000 in
theorem group_any (B : Int) (w : World) (h2 : 2 ≤ B) (h36 : B ≤ 36) :
    Calls Tryz.prog 135 #[.int .u64 B] w fun e w' => (∃ (W : Nat) (P : Int), e = .returned (.tuple #[.int .u64 P, .int .i64 (W : Int)]) ∧ P = B ^ W ∧ 1 ≤ W ∧ W ≤ 63 ∧ P < 18446744073709551616) ∧ w' = w := by
  have hB0 : (B == 0) = false := by rw [beq_eq_false_iff_ne]; omega
  go_enter Tryz.func135, Tryz.ntmps135
  go_wp2_with fail
  go_loop [4, 5] (fun p c => ∃ (P : Int) (W : Nat), p = .int .u64 P ∧ c = .int .i64 (W : Int) ∧ 1 ≤ P ∧ P ≤ 18446744073709551615 ∧ Hid (P = B ^ W ∧ 1 ≤ W ∧ W ≤ 63)) (fun _ c => 64 - (intOf c).toNat)
  case atStart => exact ⟨B, 1, rfl, rfl, by omega, by omega, by rw [Int.pow_succ, Int.pow_zero, Int.one_mul], by omega, by omega⟩
  case round =>
    obtain ⟨P, W, rfl, rfl, hP1, hP2, F⟩ := hrel
    have hW : (W : Int) ≤ 63 := by have := F.out.2.2; omega
    by_cases hle : P ≤ 18446744073709551615 / B
    · have hm : P * B ≤ 18446744073709551615 := (Int.le_ediv_iff_mul_le (by omega)).1 hle
      have hm0 : 0 ≤ P * B := Int.mul_nonneg (by omega) (by omega)
      have hm1 : 1 ≤ P * B := by have := Int.mul_le_mul (a := 1) (b := 1) hP1 (show 1 ≤ B by omega) (by omega) (by omega); omega
      have q1 : IntKind.u64.wrap (P * B) = P * B := by rw [IntKind.wrap_u64]; omega
      have W2 : Hid (W + 1 ≤ 63) := few64 h2 (by rw [Int.pow_succ, ← F.out.1]; omega)
      have HM := hid hm
      have HM1 := hid hm1
      clear hm hm0 hm1
      go_wp2_with fail
      go_round
      case rel => exact ⟨P * B, W + 1, rfl, by go_num, HM1.out, HM.out, by rw [Int.pow_succ, ← F.out.1], by omega, W2.out⟩
      case measure => simp [intOf]; have := F.out.2; omega
    · go_wp2_with fail
      go_ret2
      exact ⟨⟨W, P, rfl, F.out.1, F.out.2.1, F.out.2.2, by omega⟩, rfl⟩
end Go.Proofs.YtjkefcikepnbpaaGreatDoor

namespace Go.Proofs.YtjkefcikepnbpaaGreatDoor
open Go.RowKit Go.Deep

/-- s' is s without some zeros at its head, and opens with none. -/
def Bared (xs : List Int) (s' : ByteArray) (j : Nat) : Prop := Str s' (xs.drop j) ∧ j ≤ xs.length ∧ (∀ i, i < j → xs.getD i 0 = 48)

def STold (xs : List Int) (e : Ending) : Prop := ∃ s' j, e = .returned (.string s') ∧ Bared xs s' j ∧ (j < xs.length → xs.getD j 0 ≠ 48)

set_option maxRecDepth 100000 in
set_option maxHeartbeats 1000000 in
theorem strim1_any (s : ByteArray) (xs : List Int) (w : World) (hs : Str s xs) (hn1 : xs.length ≤ 562949953421312) :
    Calls Tryz.prog 132 #[.string s, .int .u8 48] w fun e w' => STold xs e ∧ w' = w := by
  have HS := hid hs
  have HN := hid hn1
  clear hs hn1
  go_enter Tryz.func132, Tryz.ntmps132
  go_wp2_with fail
  go_loop [0] (fun c => ∃ s' j, c = .string s' ∧ Hid (Bared xs s' j)) (fun c => match c with | .string s' => s'.size | _ => 0)
  case atStart => exact ⟨s, 0, rfl, HS.out, Nat.zero_le _, fun i hi => by omega⟩
  case round =>
    obtain ⟨s', j, rfl, I⟩ := hrel
    obtain ⟨m, HM⟩ : ∃ m, Hid (s'.size = m) := ⟨_, rfl⟩
    have hsz : s'.size = m := HM.out
    have hjm : Hid (j + m = xs.length) := by show _ = _; have := I.out.1.size; have := I.out.2.1; have := HM.out; simp at *; omega
    have hmb : (m : Int) ≤ 562949953421312 := by have := HN.out; have := hjm.out; omega
    by_cases h0 : m = 0
    · subst h0
      have F : Hid (STold xs (.returned (.string s'))) := ⟨s', j, rfl, I.out, fun h => by have := hjm.out; omega⟩
      clear I
      go_wp2_with fail
      go_ret
      exact ⟨F.out, rfl⟩
    · have hm : 0 < m := by omega
      have hmi : (0 : Int) < (m : Int) := by omega
      obtain ⟨x, X⟩ : ∃ x, Hid (xs.getD j 0 = x) := ⟨_, rfl⟩
      have hx : ∀ h : 0 < s'.size, ((s'[0]'h).toNat : Int) = x := fun h => by rw [I.out.1.at 0 h, ← X.out]; simp [List.getD]
      by_cases hd : x = 48
      · subst hd
        have F : Hid (Bared xs (s'.extract 1 s'.size) (j + 1)) := by
          refine ⟨?_, by have := hjm.out; omega, fun i hi => ?_⟩
          · have := I.out.1.extract 1 s'.size
            rw [List.drop_drop, List.take_of_length_le (by have := hjm.out; have := HM.out; simp; omega)] at this
            exact this
          · by_cases e : i = j
            · subst e; exact X.out
            · exact I.out.2.2 i (by omega)
        rw [hsz] at F
        have SZ : Hid ((s'.extract 1 m).size < s'.size) := by
          show _ < _
          have e1 := F.out.1.size
          have e2 := HM.out
          have e3 := hjm.out
          simp only [List.length_drop] at e1
          omega
        clear I
        go_wp2_with fail
        go_round
        case rel => exact ⟨_, _, rfl, F.out⟩
        case measure => exact SZ.out
      · have hd2 : (x == 48) = false := by rw [beq_eq_false_iff_ne]; exact hd
        have F : Hid (STold xs (.returned (.string s'))) := ⟨s', j, rfl, I.out, fun _ => by rw [X.out]; exact hd⟩
        clear I
        go_wp2_with fail
        go_ret
        exact ⟨F.out, rfl⟩

set_option maxRecDepth 100000 in
theorem strim_any (s : ByteArray) (xs : List Int) (w : World) (hs : Str s xs) (hn1 : xs.length ≤ 562949953421312) :
    Calls Tryz.prog 107 #[.string s, .string ⟨#[48]⟩] w fun e w' => STold xs e ∧ w' = w := by
  have T := hid (strim1_any s xs w hs hn1)
  by_cases h : xs = []
  · have F : Hid (STold xs (.returned (.string s))) := ⟨s, 0, rfl, ⟨by simpa using hs, Nat.zero_le _, fun i hi => by omega⟩, fun hlt => by rw [h] at hlt; simp at hlt⟩
    have hs0 : s = ⟨#[]⟩ := hs.inj (by rw [h]; rfl)
    subst hs0
    clear hs hn1 h
    go_enter Tryz.func107, Tryz.ntmps107
    go_wp2_with fail
    go_ret
    exact ⟨F.out, rfl⟩
  · have e0 := hs.eq (t := ⟨#[]⟩) (ys := []) rfl
    rw [decide_eq_false h] at e0
    have e1 : s.toList ≠ [] := by
      intro c
      apply h
      rw [ByteArray.toList_eq] at c
      rw [← hs, c]
      rfl
    have e2 : (s.toList == []) = false := by rw [beq_eq_false_iff_ne]; exact e1
    have e3 : s.toList.isEmpty = false := by rw [List.isEmpty_eq_false_iff]; exact e1
    clear hs hn1 h
    go_enter Tryz.func107, Tryz.ntmps107
    go_wp2_with fail
    refine T.out.mono ?_
    rintro e w' ⟨h1, rfl⟩
    obtain ⟨s', j, rfl, h2⟩ := h1
    have F : Hid (STold xs (.returned (.string s'))) := ⟨s', j, rfl, h2⟩
    clear h2 T
    go_wp2_with fail
    go_ret
    exact ⟨F.out, rfl⟩
end Go.Proofs.YtjkefcikepnbpaaGreatDoor

namespace Go.Proofs.YtjkefcikepnbpaaGreatDoor
open Go.RowKit Go.Deep Go.Shelf

def vcloneRen : Go.Shelf.Ren := ⟨fun _ => 113, fun t => if t = 37 then 38 else if t = 47 then 171 else if t = 5 then 5 else if t = 9 then 9 else if t = 3 then 3 else t, fun g => g⟩
theorem vcloneLays : LaysPu.n25 Tryz.prog vcloneRen where
  mixed := by kernel_rfl
  f25 := by kernel_rfl
  t0 := by kernel_rfl
  a0 := fun _ => by kernel_rfl
  z0 := fun _ => by kernel_rfl
  v0 := fun _ => by kernel_rfl
  i0 := by kernel_rfl
  t3 := by kernel_rfl
  a3 := fun _ => by kernel_rfl
  z3 := fun _ => by kernel_rfl
  v3 := fun _ => by kernel_rfl
  i3 := by kernel_rfl
  t4 := by kernel_rfl
  a4 := fun _ => by kernel_rfl
  z4 := fun _ => by kernel_rfl
  v4 := fun _ => by kernel_rfl
  i4 := by kernel_rfl
  t5 := by kernel_rfl
  a5 := fun _ => by kernel_rfl
  z5 := fun _ => by kernel_rfl
  v5 := fun _ => by kernel_rfl
  i5 := by kernel_rfl
  t9 := by kernel_rfl
  a9 := fun _ => by kernel_rfl
  z9 := fun _ => by kernel_rfl
  v9 := fun _ => by kernel_rfl
  i9 := by kernel_rfl
  t37 := by kernel_rfl
  a37 := fun _ => by kernel_rfl
  z37 := fun _ => by kernel_rfl
  v37 := fun _ => by kernel_rfl
  i37 := by kernel_rfl
  t47 := by kernel_rfl
  a47 := fun _ => by kernel_rfl
  z47 := fun _ => by kernel_rfl
  v47 := fun _ => by kernel_rfl
  i47 := by kernel_rfl

theorem vclone_any (s : ByteArray) (w : World) (hs : s.size ≤ 281474976710656) : Calls Tryz.prog 84 #[.string s] w fun e w' => e = .returned (.string s) ∧ Below w.heap.size w w' := by
  have C : Hid (Calls Tryz.prog 113 #[.string s] w fun e w' => e = .returned (.string s) ∧ Below w.heap.size w w') := AnyPu.stringslite_Clone vcloneLays s w (by omega)
  go_enter Tryz.func84, Tryz.ntmps84
  go_wp2_with fail
  refine C.out.mono ?_
  rintro e w1 ⟨rfl, d1⟩
  have D := hid d1
  clear d1
  go_wp2_with fail
  go_ret
  exact ⟨rfl, D.out⟩
end Go.Proofs.YtjkefcikepnbpaaGreatDoor

namespace Go.Proofs.YtjkefcikepnbpaaGreatDoor
open Go Go.RowKit Go.Deep

theorem vret_bool {a b : Bool} (h : a = b) : Ending.returned (.bool a) = .returned (.bool b) := by rw [h]

theorem digit_any (x : Int) (w : World) (h0 : 0 ≤ x) (h1 : x < 256) : Calls Tryz.prog 73 #[.int .u8 x] w fun e w' => e = .returned (.bool (Sc.dg x)) ∧ w' = w := by
  go_enter Tryz.func73, Tryz.ntmps73
  go_wp2
  all_goals (go_ret; refine ⟨vret_bool ?_, rfl⟩)
  all_goals (rw [Bool.eq_iff_iff]; simp [Sc.dg]; omega)

theorem Str.pk {s : ByteArray} {xs : List Int} (h : Str s xs) (t : Nat) : ∀ ht : t < s.size, ((s[t]'ht).toNat : Int) = Sc.pk xs t := fun ht => h.at t ht
end Go.Proofs.YtjkefcikepnbpaaGreatDoor

/-
  ieee: Neg.
-/
namespace Go.Proofs.YtjkefcikepnbpaaGreatDoor
open Go Go.RowKit Go.Deep

set_option maxRecDepth 100000 in
theorem neg_any (d : Int) (w : World) (h0 : 0 ≤ d) (h1 : d < 18446744073709551616) :
    Calls Tryz.prog 39 #[.int .u64 d] w fun e w' => e = .returned (.int .u64 (Ie.ng d)) ∧ w' = w := by
  have B : bits .xor .u64 d 9223372036854775808 = Ie.ng d := Ib.sign_xor d h0 h1
  go_enter Tryz.func39, Tryz.ntmps39
  go_wp2
  go_ret
  exact ⟨rfl, rfl⟩
end Go.Proofs.YtjkefcikepnbpaaGreatDoor

/-
  ieee: the order of doubles, in numbers.
-/
namespace Go.Proofs.YtjkefcikepnbpaaGreatDoor
open Go Go.RowKit Go.Deep

namespace Ie
/-- No NaN. -/
def okd (d : Int) : Bool := decide (d % 9223372036854775808 ≤ 9218868437227405312)
theorem cls4 (d : Int) : cls d = 4 ↔ okd d = false := by
  rw [okd, decide_eq_false_iff_not, cls]
  by_cases a : fld d = 0
  · rw [if_pos a]
    simp only [fld] at a
    by_cases b : d % 4503599627370496 = 0
    · rw [if_pos b]; omega
    · rw [if_neg b]; omega
  · rw [if_neg a]
    by_cases c : fld d = 2047
    · rw [if_pos c]
      simp only [fld] at a c
      by_cases b : d % 4503599627370496 = 0
      · rw [if_pos b]; omega
      · rw [if_neg b]; omega
    · rw [if_neg c]
      simp only [fld] at a c
      omega
/-- The next one above. -/
def upd (d : Int) : Int :=
  if okd d = false then 9221120237041090560 else if d = 9218868437227405312 then d else if d = 9223372036854775808 then 1 else if 9223372036854775808 < d then d - 1 else d + 1
/-- The next one below. -/
def dnd (d : Int) : Int := if okd d = false then 9221120237041090560 else ng (upd (ng d))
end Ie

end Go.Proofs.YtjkefcikepnbpaaGreatDoor

/-
  ieee: Up, Down.
-/
namespace Go.Proofs.YtjkefcikepnbpaaGreatDoor
open Go Go.RowKit Go.Deep

set_option maxRecDepth 100000 in
set_option maxHeartbeats 2000000 in
theorem up_any (d : Int) (w : World) (h0 : 0 ≤ d) (h1 : d < 18446744073709551616) :
    Calls Tryz.prog 22 #[.int .u64 d] w fun e w' => e = .returned (.int .u64 (Ie.upd d)) ∧ w' = w := by
  have B := Ib.sign_and d h0 h1
  have CL := hid (class_any d w h0 h1)
  have c4 := Ie.cls4 d
  obtain ⟨c, hc⟩ : ∃ c, Ie.cls d = c := ⟨_, rfl⟩
  rw [hc] at CL c4
  obtain ⟨sv, hsv⟩ : ∃ sv, d / 9223372036854775808 * 9223372036854775808 = sv := ⟨_, rfl⟩
  rw [hsv] at B
  by_cases hn : c = 4
  · have E : Hid (9221120237041090560 = Ie.upd d) := by rw [Hid, Ie.upd, if_pos (c4.1 hn)]
    subst hn
    clear hc hsv c4
    go_enter Tryz.func22, Tryz.ntmps22
    go_wp2_with fail
    refine CL.out.mono ?_
    rintro e w' ⟨rfl, rfl⟩
    go_wp2_with fail
    go_ret
    exact ⟨i_retU E.out, rfl⟩
  · have ok : Ie.okd d = true := by
      cases h : Ie.okd d
      · exact absurd (c4.2 h) hn
      · rfl
    have hn' : (c == 4) = false := by rw [beq_eq_false_iff_ne]; exact hn
    have E0 : Ie.upd d = if d = 9218868437227405312 then d else if d = 9223372036854775808 then 1 else if 9223372036854775808 < d then d - 1 else d + 1 := by rw [Ie.upd, ok, if_neg (by decide)]
    by_cases e1 : d = 9218868437227405312
    · subst e1
      rw [if_pos rfl] at E0
      have E := hid E0
      clear hc hsv c4 ok E0 hn
      go_enter Tryz.func22, Tryz.ntmps22
      go_wp2_with fail
      refine CL.out.mono ?_
      rintro e w' ⟨rfl, rfl⟩
      go_wp2_with fail
      go_ret
      exact ⟨i_retU E.out.symm, rfl⟩
    · have e1' : (d == 9218868437227405312) = false := by rw [beq_eq_false_iff_ne]; exact e1
      rw [if_neg e1] at E0
      by_cases e2 : d = 9223372036854775808
      · subst e2
        rw [if_pos rfl] at E0
        have E := hid E0
        clear hc hsv c4 ok E0 hn
        go_enter Tryz.func22, Tryz.ntmps22
        go_wp2_with fail
        refine CL.out.mono ?_
        rintro e w' ⟨rfl, rfl⟩
        go_wp2_with fail
        go_ret
        exact ⟨i_retU E.out.symm, rfl⟩
      · have e2' : (d == 9223372036854775808) = false := by rw [beq_eq_false_iff_ne]; exact e2
        rw [if_neg e2] at E0
        by_cases e3 : 9223372036854775808 < d
        · rw [if_pos e3] at E0
          have E := hid E0
          have hz : sv = 9223372036854775808 := by omega
          subst hz
          clear hc hsv c4 ok E0 hn e1 e2
          go_enter Tryz.func22, Tryz.ntmps22
          go_wp2_with fail
          refine CL.out.mono ?_
          rintro e w' ⟨rfl, rfl⟩
          go_wp2_with fail
          go_ret
          exact ⟨i_retU E.out.symm, rfl⟩
        · rw [if_neg e3] at E0
          have E := hid E0
          have hz : sv = 0 := by omega
          subst hz
          have lt : d < 9223372036854775808 := by omega
          clear hc hsv c4 ok E0 hn e1 e2 e3
          go_enter Tryz.func22, Tryz.ntmps22
          go_wp2_with fail
          refine CL.out.mono ?_
          rintro e w' ⟨rfl, rfl⟩
          go_wp2_with fail
          go_ret
          exact ⟨i_retU E.out.symm, rfl⟩

end Go.Proofs.YtjkefcikepnbpaaGreatDoor

/-
  ieee: Down.
-/
namespace Go.Proofs.YtjkefcikepnbpaaGreatDoor
open Go Go.RowKit Go.Deep

theorem Ie.ng_bd (d : Int) (h0 : 0 ≤ d) (h1 : d < 18446744073709551616) : 0 ≤ Ie.ng d ∧ Ie.ng d < 18446744073709551616 := by
  simp only [Ie.ng]; split <;> omega

theorem Ie.upd_bd (d : Int) (h0 : 0 ≤ d) (h1 : d < 18446744073709551616) : 0 ≤ Ie.upd d ∧ Ie.upd d < 18446744073709551616 := by
  simp only [Ie.upd]
  split
  · omega
  · split
    · omega
    · split
      · omega
      · split <;> omega

set_option maxRecDepth 100000 in
set_option maxHeartbeats 2000000 in
theorem down_any (d : Int) (w : World) (h0 : 0 ≤ d) (h1 : d < 18446744073709551616) :
    Calls Tryz.prog 21 #[.int .u64 d] w fun e w' => e = .returned (.int .u64 (Ie.dnd d)) ∧ w' = w := by
  have CL := hid (class_any d w h0 h1)
  have c4 := Ie.cls4 d
  obtain ⟨c, hc⟩ : ∃ c, Ie.cls d = c := ⟨_, rfl⟩
  rw [hc] at CL c4
  by_cases hn : c = 4
  · have E : Hid (9221120237041090560 = Ie.dnd d) := by rw [Hid, Ie.dnd, if_pos (c4.1 hn)]
    subst hn
    clear hc c4
    go_enter Tryz.func21, Tryz.ntmps21
    go_wp2_with fail
    refine CL.out.mono ?_
    rintro e w' ⟨rfl, rfl⟩
    go_wp2_with fail
    go_ret
    exact ⟨i_retU E.out, rfl⟩
  · have ok : Ie.okd d = true := by
      cases h : Ie.okd d
      · exact absurd (c4.2 h) hn
      · rfl
    have hn' : (c == 4) = false := by rw [beq_eq_false_iff_ne]; exact hn
    have E : Hid (Ie.dnd d = Ie.ng (Ie.upd (Ie.ng d))) := by rw [Hid, Ie.dnd, ok, if_neg (by decide)]
    have b1 := Ie.ng_bd d h0 h1
    have b2 := Ie.upd_bd _ b1.1 b1.2
    have N1 := hid (neg_any d w h0 h1)
    have U1 := hid (up_any _ w b1.1 b1.2)
    have N2 := hid (neg_any _ w b2.1 b2.2)
    clear hc c4 ok hn b1 b2
    go_enter Tryz.func21, Tryz.ntmps21
    go_wp2_with fail
    refine CL.out.mono ?_
    rintro e w' ⟨rfl, rfl⟩
    go_wp2_with fail
    refine N1.out.mono ?_
    rintro e w' ⟨rfl, rfl⟩
    go_wp2_with fail
    refine U1.out.mono ?_
    rintro e w' ⟨rfl, rfl⟩
    go_wp2_with fail
    refine N2.out.mono ?_
    rintro e w' ⟨rfl, rfl⟩
    go_wp2_with fail
    go_ret
    exact ⟨i_retU E.out.symm, rfl⟩
end Go.Proofs.YtjkefcikepnbpaaGreatDoor

/-
  ieee: Abs.
-/
namespace Go.Proofs.YtjkefcikepnbpaaGreatDoor
open Go Go.RowKit Go.Deep

set_option maxRecDepth 100000 in
theorem abs_any (d : Int) (w : World) (h0 : 0 ≤ d) (h1 : d < 18446744073709551616) :
    Calls Tryz.prog 42 #[.int .u64 d] w fun e w' => e = .returned (.int .u64 (d % 9223372036854775808)) ∧ w' = w := by
  have B := Ib.sign_andNot d h0 h1
  go_enter Tryz.func42, Tryz.ntmps42
  go_wp2
  go_ret
  exact ⟨rfl, rfl⟩
end Go.Proofs.YtjkefcikepnbpaaGreatDoor

namespace Go.Proofs.YtjkefcikepnbpaaGreatDoor
open Go.RowKit Go.Deep

/-- The kit's contract for TrailingZeros64, laid at this program. -/
def tzRen : Go.Shelf.Ren := ⟨fun _ => 55, fun t => if t = 22 then 22 else if t = 25 then 76 else if t = 54 then 112 else if t = 5 then 5 else if t = 4 then 4 else if t = 0 then 0 else 3, fun _ => 0⟩
theorem tzLays : Lays7.n29 Tryz.prog tzRen where
  mixed := by kernel_rfl
  f29 := by kernel_rfl
  t0 := by kernel_rfl
  a0 := fun _ => by kernel_rfl
  z0 := fun _ => by kernel_rfl
  v0 := fun _ => by kernel_rfl
  i0 := by kernel_rfl
  t3 := by kernel_rfl
  a3 := fun _ => by kernel_rfl
  z3 := fun _ => by kernel_rfl
  v3 := fun _ => by kernel_rfl
  i3 := by kernel_rfl
  t4 := by kernel_rfl
  a4 := fun _ => by kernel_rfl
  z4 := fun _ => by kernel_rfl
  v4 := fun _ => by kernel_rfl
  i4 := by kernel_rfl
  t5 := by kernel_rfl
  a5 := fun _ => by kernel_rfl
  z5 := fun _ => by kernel_rfl
  v5 := fun _ => by kernel_rfl
  i5 := by kernel_rfl
  t22 := by kernel_rfl
  a22 := fun _ => by kernel_rfl
  z22 := fun _ => by kernel_rfl
  v22 := fun _ => by kernel_rfl
  i22 := by kernel_rfl
  t25 := by kernel_rfl
  a25 := fun _ => by kernel_rfl
  z25 := fun _ => by kernel_rfl
  v25 := fun _ => by kernel_rfl
  i25 := by kernel_rfl
  t54 := by kernel_rfl
  a54 := fun _ => by kernel_rfl
  z54 := fun _ => by kernel_rfl
  g1 := by kernel_rfl

/-- The table that TrailingZeros64 reads. -/
def Tab (w : World) : Prop := TabAt 0 Lib.deBruijn64tab w

theorem Tab.below {w w' : World} (h : Tab w) (hb : Below w.heap.size w w') : Tab w' := by
  intro j hj
  have hc := h j hj
  rw [hb.cell (p := ⟨0, j, none⟩) (cell_lt hc)]
  exact hc

theorem tz64 (x : Int) (w : World) (h0 : 0 < x) (h1 : x < 18446744073709551616) (hT : Tab w) :
    Calls Tryz.prog 55 #[.int .u64 x] w fun e w' => ∃ (t : Nat) (m : Int), e = .returned (.int .i64 t) ∧ t ≤ 63 ∧ Hid (x = 2 ^ t * (2 * m + 1)) ∧ w' = w := by
  obtain ⟨n, rfl⟩ := Int.eq_ofNat_of_zero_le (show 0 ≤ x by omega)
  refine (Any7.bits_TrailingZeros64 tzLays n (by omega) w (fun _ => hT)).mono ?_
  rintro e w' ⟨rfl, rfl⟩
  obtain ⟨m, hm, hlt⟩ := Lib.ctzFrom_spec 64 n (by omega) (by simpa using (show n < 18446744073709551616 by omega))
  refine ⟨Lib.ctzFrom 64 n, m, by rw [Lib.ctz, if_neg (by omega)], by omega, ?_, rfl⟩
  show (n : Int) = _
  have e : ((2 ^ Lib.ctzFrom 64 n * (2 * m + 1) : Nat) : Int) = 2 ^ Lib.ctzFrom 64 n * (2 * (m : Int) + 1) := by simp
  rw [← e, ← hm]

set_option maxHeartbeats 1000000 in
theorem trail_any (p : Option Addr) (n cap : Nat) (zs : List Int) (w : World) (ha : Arg w p n cap zs) (hT : Tab w) :
    Calls Tryz.prog 217 #[.slice p n cap] w fun e w' => ∃ t : Nat, e = .returned (.int .i64 t) ∧ Nm.Trl (Nm.val zs) t ∧ w' = w := by
  obtain ⟨a1, a2, a3, a4, a5⟩ := ha
  rcases a4 with rfl | ⟨b, off, rfl, hcell⟩
  · have hn0 : n = 0 := by simpa using a1.symm
    subst hn0
    go_enter Tryz.func217, Tryz.ntmps217
    go_wp2
    refine wp_loop_rounds 1 ?_
    rw [rounds_succ]
    go_wp2
    go_ret
    exact ⟨0, rfl, .inl ⟨rfl, rfl⟩, rfl⟩
  · have H := hid a1
    have HC := hid hcell
    have HT := hid hT
    clear a1 hcell hT
    go_enter Tryz.func217, Tryz.ntmps217
    go_wp2
    go_loop [7] (fun t => ∃ k : Nat, k ≤ n ∧ t = .int .i64 k ∧ Hid (∀ j, j < k → zs.getD j 0 = 0)) (fun t => n - (intOf t).toNat)
    case atStart => exact ⟨0, Nat.zero_le _, rfl, fun j hj => by omega⟩
    case round =>
      obtain ⟨k, hk, rfl, hz⟩ := hrel
      by_cases hlt : k < n
      · obtain ⟨x, hx, X⟩ : ∃ x, w.cell? ⟨b, off + k, none⟩ = some (.int .u64 x) ∧ Hid (x = zs.getD k 0) := ⟨_, HC.out k (by have := H.out; omega), rfl⟩
        by_cases hx0 : x = 0
        · have hx0' : (x != 0) = false := by simp [hx0]
          have X0 := hid hx0
          clear hx0
          go_wp2
          go_round
          case rel =>
            refine ⟨k + 1, by omega, by go_num, fun i hi => ?_⟩
            by_cases e : i = k
            · subst e; rw [← X.out]; exact X0.out
            · exact hz.out i (by omega)
          case measure => simp [intOf]; omega
        · have hx0' : (x != 0) = true := by simp [hx0]
          have hxb := a5.at k
          rw [← X.out] at hxb
          have hx1 : 0 < x := by omega
          obtain ⟨hxa, hxb⟩ := hxb
          go_wp2_with fail
          refine (tz64 x _ hx1 hxb HT.out).mono ?_
          rintro e w' ⟨t, m, rfl, ht, E, rfl⟩
          go_wp2_with fail
          go_ret
          refine ⟨64 * k + t, retI (by omega), Nm.trl_at zs k t m (by have := H.out; omega) hz.out (by rw [← X.out]; exact E.out) ht, rfl⟩
      · have E : Hid (Nm.val zs = 0) := by
          have h0 : Nm.tsize zs = 0 := Nm.tsize_unique zs 0 (fun j _ => by
            by_cases hj : j < k
            · exact hz.out j hj
            · simp [List.getD, List.getElem?_eq_none (show zs.length ≤ j by have := H.out; omega)]) (.inl rfl)
          exact (Nm.tsize_zero_iff a5).1 h0
        go_wp2
        go_ret
        exact ⟨0, rfl, .inl ⟨E.out, rfl⟩, rfl⟩

end Go.Proofs.YtjkefcikepnbpaaGreatDoor

namespace Go.Proofs.YtjkefcikepnbpaaGreatDoor
open Go Go.RowKit Go.Deep Go.Shelf

def compLays_ren : Go.Shelf.Ren := ⟨fun | 106 => 116 | 213 => 143 | 265 => 161 | n => n, fun | 9 => 9 | 3 => 3 | n => n, fun | n => n⟩
theorem compLays : Go.Proofs.Lays.n106 Tryz.prog compLays_ren := {
  mixed := by kernel_rfl
  f106 := Tryz.func116.trans (congrArg some (by kernel_rfl))
  f213 := Tryz.func143.trans (congrArg some (by kernel_rfl))
  f265 := Tryz.func161.trans (congrArg some (by kernel_rfl))
  t3 := Tryz.underlying3
  a3 := Tryz.isAgg3
  z3 := Tryz.sizeOf3
  v3 := Tryz.zeroValue3
  t9 := Tryz.underlying9
  a9 := Tryz.isAgg9
  z9 := Tryz.sizeOf9
  v9 := Tryz.zeroValue9 }

theorem lex_bytes (a b : List UInt8) : Lib.compareBytes a b = Sc.lex (a.map fun x => (x.toNat : Int)) (b.map fun x => (x.toNat : Int)) := by
  induction a generalizing b with
  | nil => cases b <;> rfl
  | cons x a ih =>
    cases b with
    | nil => rfl
    | cons y b =>
      simp only [Lib.compareBytes, List.map_cons, Sc.lex, ih]
      have h1 : (x < y) ↔ ((x.toNat : Int) < (y.toNat : Int)) := by rw [UInt8.lt_iff_toNat_lt]; omega
      have h2 : (y < x) ↔ ((y.toNat : Int) < (x.toNat : Int)) := by rw [UInt8.lt_iff_toNat_lt]; omega
      simp only [h1, h2]

theorem scompare_any (s t : ByteArray) (xs ys : List Int) (w : World) (hs : Str s xs) (ht : Str t ys) :
    Calls Tryz.prog 116 #[.string s, .string t] w fun e w' => e = .returned (.int .i64 (Sc.lex xs ys)) ∧ w' = w := by
  refine (Any.strings_Compare compLays s t w).mono ?_
  rintro e w' ⟨rfl, rfl⟩
  rw [lex_bytes]
  unfold Str at hs ht
  rw [hs, ht]
  exact ⟨rfl, rfl⟩
end Go.Proofs.YtjkefcikepnbpaaGreatDoor

namespace Go.Proofs.YtjkefcikepnbpaaGreatDoor
open Go Go.RowKit Go.Deep

theorem isnan_any (x : Int) (w : World) : Calls Tryz.prog 142 #[.int .i64 x] w fun e w' => e = .returned (.bool false) ∧ w' = w := by
  have h : (x != x) = false := by simp
  go_enter Tryz.func142, Tryz.ntmps142
  go_wp2_with fail
  go_ret
  exact ⟨by simp, rfl⟩

theorem cmpint_any (x y : Int) (w : World) : Calls Tryz.prog 115 #[.int .i64 x, .int .i64 y] w fun e w' => e = .returned (.int .i64 (Sc.cmpI x y)) ∧ w' = w := by
  have X := hid (fun wx => isnan_any x wx)
  have Y := hid (fun wx => isnan_any y wx)
  have C := hid (Sc.cmpI_c x y)
  go_enter Tryz.func115, Tryz.ntmps115
  go_wp2_with fail
  refine (X.out _).mono ?_
  rintro e w1 ⟨rfl, rfl⟩
  go_wp2_with fail
  refine (Y.out _).mono ?_
  rintro e w1 ⟨rfl, rfl⟩
  go_wp2_with fail
  all_goals (go_ret; exact ⟨congrArg (fun z => Ending.returned (.int .i64 z)) (by have := C.out; omega), rfl⟩)
end Go.Proofs.YtjkefcikepnbpaaGreatDoor

namespace Go.Proofs.YtjkefcikepnbpaaGreatDoor
open Go Go.RowKit Go.Deep Go.Shelf

def itoaLays_ren : Go.Shelf.Ren := ⟨fun | 171 => 70 | 243 => 106 | 246 => 131 | 283 => 96 | 284 => 97 | 285 => 98 | 286 => 99 | 129 => 108 | 317 => 123 | 318 => 124 | 319 => 125 | 320 => 126 | 337 => 146 | 338 => 55 | n => n, fun | 3 => 3 | 9 => 9 | 2 => 2 | 4 => 4 | 171 => 135 | 0 => 0 | 53 => 22 | 37 => 38 | 5 => 5 | 173 => 137 | 212 => 165 | 51 => 166 | 20 => 20 | 213 => 167 | 46 => 76 | 232 => 197 | 233 => 112 | n => n, fun | 17 => 3 | 18 => 5 | 19 => 0 | n => n⟩
theorem itoaLays : Go.Proofs.LaysM.n171 Tryz.prog itoaLays_ren := {
  mixed := by kernel_rfl
  f129 := Tryz.func108.trans (congrArg some (by kernel_rfl))
  f171 := Tryz.func70.trans (congrArg some (by kernel_rfl))
  f243 := Tryz.func106.trans (congrArg some (by kernel_rfl))
  f246 := Tryz.func131.trans (congrArg some (by kernel_rfl))
  f283 := Tryz.func96.trans (congrArg some (by kernel_rfl))
  f284 := Tryz.func97.trans (congrArg some (by kernel_rfl))
  f285 := Tryz.func98.trans (congrArg some (by kernel_rfl))
  f286 := Tryz.func99.trans (congrArg some (by kernel_rfl))
  f317 := Tryz.func123.trans (congrArg some (by kernel_rfl))
  f318 := Tryz.func124.trans (congrArg some (by kernel_rfl))
  f319 := Tryz.func125.trans (congrArg some (by kernel_rfl))
  f320 := Tryz.func126.trans (congrArg some (by kernel_rfl))
  f337 := Tryz.func146.trans (congrArg some (by kernel_rfl))
  f338 := Tryz.func55.trans (congrArg some (by kernel_rfl))
  t0 := Tryz.underlying0
  a0 := Tryz.isAgg0
  z0 := Tryz.sizeOf0
  v0 := Tryz.zeroValue0
  t2 := Tryz.underlying2
  a2 := Tryz.isAgg2
  z2 := Tryz.sizeOf2
  v2 := Tryz.zeroValue2
  t3 := Tryz.underlying3
  a3 := Tryz.isAgg3
  z3 := Tryz.sizeOf3
  v3 := Tryz.zeroValue3
  t4 := Tryz.underlying4
  a4 := Tryz.isAgg4
  z4 := Tryz.sizeOf4
  v4 := Tryz.zeroValue4
  t5 := Tryz.underlying5
  a5 := Tryz.isAgg5
  z5 := Tryz.sizeOf5
  v5 := Tryz.zeroValue5
  t9 := Tryz.underlying9
  a9 := Tryz.isAgg9
  z9 := Tryz.sizeOf9
  v9 := Tryz.zeroValue9
  t20 := Tryz.underlying20
  a20 := Tryz.isAgg20
  z20 := Tryz.sizeOf20
  v20 := Tryz.zeroValue20
  t37 := Tryz.underlying38
  a37 := Tryz.isAgg38
  z37 := Tryz.sizeOf38
  v37 := Tryz.zeroValue38
  t46 := Tryz.underlying76
  a46 := Tryz.isAgg76
  z46 := Tryz.sizeOf76
  v46 := Tryz.zeroValue76
  t51 := Tryz.underlying166
  a51 := Tryz.isAgg166
  z51 := Tryz.sizeOf166
  v51 := Tryz.zeroValue166
  t53 := Tryz.underlying22
  a53 := Tryz.isAgg22
  z53 := Tryz.sizeOf22
  v53 := Tryz.zeroValue22
  t171 := Tryz.underlying135
  a171 := Tryz.isAgg135
  z171 := Tryz.sizeOf135
  v171 := Tryz.zeroValue135
  t173 := Tryz.underlying137
  a173 := Tryz.isAgg137
  z173 := Tryz.sizeOf137
  v173 := Tryz.zeroValue137
  t212 := Tryz.underlying165
  a212 := Tryz.isAgg165
  z212 := Tryz.sizeOf165
  v212 := Tryz.zeroValue165
  t213 := Tryz.underlying167
  a213 := Tryz.isAgg167
  z213 := Tryz.sizeOf167
  t232 := Tryz.underlying197
  a232 := Tryz.isAgg197
  z232 := Tryz.sizeOf197
  v232 := Tryz.zeroValue197
  t233 := Tryz.underlying112
  a233 := Tryz.isAgg112
  z233 := Tryz.sizeOf112
  v233 := Tryz.zeroValue112
  g17 := by kernel_rfl
  g18 := by kernel_rfl
  g19 := by kernel_rfl
  i0 := by kernel_rfl
  i2 := by kernel_rfl
  i3 := by kernel_rfl
  i4 := by kernel_rfl
  i5 := by kernel_rfl
  i9 := by kernel_rfl
  i20 := by kernel_rfl
  i37 := by kernel_rfl
  i46 := by kernel_rfl
  i51 := by kernel_rfl
  i53 := by kernel_rfl
  i171 := by kernel_rfl
  i173 := by kernel_rfl
  i212 := by kernel_rfl
  i232 := by kernel_rfl
  i233 := by kernel_rfl
  m17 := by kernel_rfl
  m18 := by kernel_rfl
  m19 := by kernel_rfl }

/-- The table of powers of ten lies as the text lays it. -/
def Tab10 (w : World) : Prop := Lib.TabIs Tryz.prog w "internal/strconv.uint64pow10" .u64 Lib.pow10Tab

theorem below_grown {w : World} (k : Nat) (os : Array Obj) : Below w.heap.size w (Go.Sort.grow (w.drewN k) os) := by
  refine ⟨rfl, rfl, rfl, ?_, fun j hj => ?_⟩
  · show w.heap.size ≤ (w.heap ++ os).size
    simp
  · show (w.heap ++ os)[j]? = w.heap[j]?
    rw [Array.getElem?_append_left hj]

end Go.Proofs.YtjkefcikepnbpaaGreatDoor

namespace Go.Proofs.YtjkefcikepnbpaaGreatDoor
open Go Go.RowKit Go.Deep Go.Shelf

def puLays_ren : Go.Shelf.Ren := ⟨fun | 14 => 46 | 16 => 66 | 17 => 67 | 19 => 90 | 20 => 91 | 21 => 92 | 22 => 93 | 23 => 94 | 24 => 95 | 25 => 113 | 27 => 70 | 26 => 122 | 28 => 106 | 29 => 131 | 30 => 96 | 31 => 97 | 32 => 98 | 33 => 99 | 35 => 108 | 34 => 123 | 36 => 124 | 37 => 125 | 38 => 126 | 39 => 146 | 40 => 55 | n => n, fun | 9 => 9 | 3 => 3 | 22 => 22 | 24 => 78 | 25 => 79 | 4 => 4 | 34 => 130 | 5 => 5 | 36 => 76 | 37 => 38 | 0 => 0 | 39 => 132 | 21 => 21 | 44 => 161 | 47 => 171 | 50 => 182 | 48 => 180 | 2 => 2 | 52 => 135 | 55 => 137 | 59 => 165 | 60 => 166 | 20 => 20 | 61 => 167 | 65 => 197 | 66 => 112 | 67 => 149 | n => n, fun | 0 => 1 | 1 => 2 | 2 => 3 | 3 => 5 | 4 => 0 | n => n⟩
theorem puLays : Go.Proofs.LaysPu.n14 Tryz.prog puLays_ren := {
  mixed := by kernel_rfl
  f14 := Tryz.func46.trans (congrArg some (by kernel_rfl))
  f16 := Tryz.func66.trans (congrArg some (by kernel_rfl))
  f17 := Tryz.func67.trans (congrArg some (by kernel_rfl))
  f19 := Tryz.func90.trans (congrArg some (by kernel_rfl))
  f20 := Tryz.func91.trans (congrArg some (by kernel_rfl))
  f21 := Tryz.func92.trans (congrArg some (by kernel_rfl))
  f22 := Tryz.func93.trans (congrArg some (by kernel_rfl))
  f23 := Tryz.func94.trans (congrArg some (by kernel_rfl))
  f24 := Tryz.func95.trans (congrArg some (by kernel_rfl))
  f25 := Tryz.func113.trans (congrArg some (by kernel_rfl))
  f26 := Tryz.func122.trans (congrArg some (by kernel_rfl))
  f27 := Tryz.func70.trans (congrArg some (by kernel_rfl))
  f28 := Tryz.func106.trans (congrArg some (by kernel_rfl))
  f29 := Tryz.func131.trans (congrArg some (by kernel_rfl))
  f30 := Tryz.func96.trans (congrArg some (by kernel_rfl))
  f31 := Tryz.func97.trans (congrArg some (by kernel_rfl))
  f32 := Tryz.func98.trans (congrArg some (by kernel_rfl))
  f33 := Tryz.func99.trans (congrArg some (by kernel_rfl))
  f34 := Tryz.func123.trans (congrArg some (by kernel_rfl))
  f35 := Tryz.func108.trans (congrArg some (by kernel_rfl))
  f36 := Tryz.func124.trans (congrArg some (by kernel_rfl))
  f37 := Tryz.func125.trans (congrArg some (by kernel_rfl))
  f38 := Tryz.func126.trans (congrArg some (by kernel_rfl))
  f39 := Tryz.func146.trans (congrArg some (by kernel_rfl))
  f40 := Tryz.func55.trans (congrArg some (by kernel_rfl))
  t0 := Tryz.underlying0
  a0 := Tryz.isAgg0
  z0 := Tryz.sizeOf0
  v0 := Tryz.zeroValue0
  i0 := by kernel_rfl
  t2 := Tryz.underlying2
  a2 := Tryz.isAgg2
  z2 := Tryz.sizeOf2
  v2 := Tryz.zeroValue2
  i2 := by kernel_rfl
  t3 := Tryz.underlying3
  a3 := Tryz.isAgg3
  z3 := Tryz.sizeOf3
  v3 := Tryz.zeroValue3
  i3 := by kernel_rfl
  t4 := Tryz.underlying4
  a4 := Tryz.isAgg4
  z4 := Tryz.sizeOf4
  v4 := Tryz.zeroValue4
  i4 := by kernel_rfl
  t5 := Tryz.underlying5
  a5 := Tryz.isAgg5
  z5 := Tryz.sizeOf5
  v5 := Tryz.zeroValue5
  i5 := by kernel_rfl
  t9 := Tryz.underlying9
  a9 := Tryz.isAgg9
  z9 := Tryz.sizeOf9
  v9 := Tryz.zeroValue9
  i9 := by kernel_rfl
  t20 := Tryz.underlying20
  a20 := Tryz.isAgg20
  z20 := Tryz.sizeOf20
  v20 := Tryz.zeroValue20
  i20 := by kernel_rfl
  t21 := Tryz.underlying21
  a21 := Tryz.isAgg21
  z21 := Tryz.sizeOf21
  v21 := Tryz.zeroValue21
  i21 := by kernel_rfl
  t22 := Tryz.underlying22
  a22 := Tryz.isAgg22
  z22 := Tryz.sizeOf22
  v22 := Tryz.zeroValue22
  i22 := by kernel_rfl
  t24 := Tryz.underlying78
  a24 := Tryz.isAgg78
  z24 := Tryz.sizeOf78
  v24 := Tryz.zeroValue78
  i24 := by kernel_rfl
  t25 := Tryz.underlying79
  a25 := Tryz.isAgg79
  z25 := Tryz.sizeOf79
  v25 := Tryz.zeroValue79
  i25 := by kernel_rfl
  t34 := Tryz.underlying130
  a34 := Tryz.isAgg130
  z34 := Tryz.sizeOf130
  v34 := Tryz.zeroValue130
  i34 := by kernel_rfl
  c34 := by kernel_rfl
  t36 := Tryz.underlying76
  a36 := Tryz.isAgg76
  z36 := Tryz.sizeOf76
  v36 := Tryz.zeroValue76
  i36 := by kernel_rfl
  t37 := Tryz.underlying38
  a37 := Tryz.isAgg38
  z37 := Tryz.sizeOf38
  v37 := Tryz.zeroValue38
  i37 := by kernel_rfl
  t39 := Tryz.underlying132
  a39 := Tryz.isAgg132
  z39 := Tryz.sizeOf132
  v39 := Tryz.zeroValue132
  i39 := by kernel_rfl
  t44 := Tryz.underlying161
  a44 := Tryz.isAgg161
  z44 := Tryz.sizeOf161
  v44 := Tryz.zeroValue161
  i44 := by kernel_rfl
  t47 := Tryz.underlying171
  a47 := Tryz.isAgg171
  z47 := Tryz.sizeOf171
  v47 := Tryz.zeroValue171
  i47 := by kernel_rfl
  t48 := Tryz.underlying180
  a48 := Tryz.isAgg180
  z48 := Tryz.sizeOf180
  v48 := Tryz.zeroValue180
  i48 := by kernel_rfl
  t50 := Tryz.underlying182
  a50 := Tryz.isAgg182
  z50 := Tryz.sizeOf182
  v50 := Tryz.zeroValue182
  i50 := by kernel_rfl
  t52 := Tryz.underlying135
  a52 := Tryz.isAgg135
  z52 := Tryz.sizeOf135
  v52 := Tryz.zeroValue135
  i52 := by kernel_rfl
  t55 := Tryz.underlying137
  a55 := Tryz.isAgg137
  z55 := Tryz.sizeOf137
  v55 := Tryz.zeroValue137
  i55 := by kernel_rfl
  t59 := Tryz.underlying165
  a59 := Tryz.isAgg165
  z59 := Tryz.sizeOf165
  v59 := Tryz.zeroValue165
  i59 := by kernel_rfl
  t60 := Tryz.underlying166
  a60 := Tryz.isAgg166
  z60 := Tryz.sizeOf166
  v60 := Tryz.zeroValue166
  i60 := by kernel_rfl
  t61 := Tryz.underlying167
  a61 := Tryz.isAgg167
  z61 := Tryz.sizeOf167
  t65 := Tryz.underlying197
  a65 := Tryz.isAgg197
  z65 := Tryz.sizeOf197
  v65 := Tryz.zeroValue197
  i65 := by kernel_rfl
  t66 := Tryz.underlying112
  a66 := Tryz.isAgg112
  z66 := Tryz.sizeOf112
  v66 := Tryz.zeroValue112
  i66 := by kernel_rfl
  t67 := Tryz.underlying149
  a67 := Tryz.isAgg149
  z67 := Tryz.sizeOf149
  v67 := Tryz.zeroValue149
  i67 := by kernel_rfl
  g0 := by kernel_rfl
  m0 := by kernel_rfl
  g1 := by kernel_rfl
  m1 := by kernel_rfl
  g2 := by kernel_rfl
  m2 := by kernel_rfl
  g3 := by kernel_rfl
  m3 := by kernel_rfl
  g4 := by kernel_rfl
  m4 := by kernel_rfl }
end Go.Proofs.YtjkefcikepnbpaaGreatDoor

namespace Go.Proofs.YtjkefcikepnbpaaGreatDoor
namespace Sc

/-- A number's digits, as bytes. -/
def dl (u : Nat) : List Int := (Lib.decDigits u).map fun b => (b.toNat : Int)
theorem dl_small {u : Nat} (h : u < 10) : dl u = [48 + (u : Int)] := by
  unfold dl
  rw [Lib.decDigits_one h]
  simp only [List.map_cons, List.map_nil]
  rw [UInt8.toNat_ofNat_of_lt' (by show 48 + u < 256; omega)]
  simp
theorem dl_big {u : Nat} (h : ¬ u < 10) : dl u = dl (u / 10) ++ [48 + ((u % 10 : Nat) : Int)] := by
  unfold dl
  rw [Lib.decDigits, dif_neg h, List.map_append]
  simp only [List.map_cons, List.map_nil]
  rw [UInt8.toNat_ofNat_of_lt' (by show 48 + u % 10 < 256; omega)]
  simp
theorem dl_is (u : Nat) : (∀ x ∈ dl u, dg x = true) ∧ dl u ≠ [] ∧ cap (dl u) = min (u : Int) 1000000000000000 := by
  induction u using Nat.strongRecOn with
  | _ u ih =>
    by_cases h : u < 10
    · rw [dl_small h]
      refine ⟨fun x hx => ?_, by simp, ?_⟩
      · rw [List.mem_singleton] at hx; subst hx; rw [dg_iff]; omega
      · have := cap_snoc [] (48 + (u : Int))
        rw [List.nil_append, cap_nil] at this
        rw [this]; omega
    · obtain ⟨h1, h2, h3⟩ := ih (u / 10) (by omega)
      rw [dl_big h]
      refine ⟨fun x hx => ?_, by simp, ?_⟩
      · rw [List.mem_append, List.mem_singleton] at hx
        rcases hx with hx | hx
        · exact h1 x hx
        · subst hx; rw [dg_iff]; omega
      · rw [cap_snoc, h3]; omega

/-- Digits that are there, all digits. -/
def Dig (ds : List Int) : Prop := ds ≠ [] ∧ ∀ x ∈ ds, dg x = true
end Sc
end Go.Proofs.YtjkefcikepnbpaaGreatDoor

namespace Go.Proofs.YtjkefcikepnbpaaGreatDoor

end Go.Proofs.YtjkefcikepnbpaaGreatDoor

namespace Go.Proofs.YtjkefcikepnbpaaGreatDoor
open Go.RowKit Go.Deep

/-- s' is s without some zeros at its end, and ends with none. -/
def FTail (xs : List Int) (e : Ending) : Prop := ∃ s' k, e = .returned (.string s') ∧ Str s' (xs.take k) ∧ k ≤ xs.length ∧ (∀ i, k ≤ i → i < xs.length → xs.getD i 0 = 48) ∧ (0 < k → xs.getD (k - 1) 0 ≠ 48)

set_option maxRecDepth 100000 in
set_option maxHeartbeats 1000000 in
theorem frtrim_any (s : ByteArray) (xs : List Int) (w : World) (hs : Str s xs) (hn1 : xs.length ≤ 562949953421312) :
    Calls Tryz.prog 80 #[.string s, .int .u8 48] w fun e w' => FTail xs e ∧ w' = w := by
  have HS := hid hs
  have HN := hid hn1
  clear hs hn1
  go_enter Tryz.func80, Tryz.ntmps80
  go_wp2_with fail
  go_loop [0] (fun c => ∃ s' m, c = .string s' ∧ Hid (Str s' (xs.take m) ∧ m ≤ xs.length ∧ s'.size = m ∧ (∀ i, m ≤ i → i < xs.length → xs.getD i 0 = 48))) (fun c => match c with | .string s' => s'.size | _ => 0)
  case atStart => exact ⟨s, xs.length, rfl, by rw [List.take_length]; exact HS.out, Nat.le_refl _, HS.out.size, fun i h1 h2 => by omega⟩
  case round =>
    obtain ⟨s', m, rfl, I⟩ := hrel
    have hsz : s'.size = m := I.out.2.2.1
    have hmb : (m : Int) ≤ 562949953421312 := by have := HN.out; have := I.out.2.1; omega
    by_cases h0 : m = 0
    · subst h0
      have F : Hid (FTail xs (.returned (.string s'))) := ⟨s', 0, rfl, I.out.1, Nat.zero_le _, I.out.2.2.2, fun h => by omega⟩
      clear I
      go_wp2_with fail
      go_ret
      exact ⟨F.out, rfl⟩
    · obtain ⟨u, hu⟩ : ∃ u, m = u + 1 := ⟨m - 1, by omega⟩
      have hmi : (0 : Int) < (m : Int) := by omega
      have hmu : (m : Int) - 1 = (u : Int) := by omega
      have hum : (u : Int) < (m : Int) := by omega
      obtain ⟨x, X⟩ : ∃ x, Hid (xs.getD u 0 = x) := ⟨_, rfl⟩
      have hx : ∀ h : u < s'.size, ((s'[u]'h).toNat : Int) = x := fun h => by
        rw [I.out.1.at u h, ← X.out]
        simp [List.getD, show u < m by omega]
      have HU := hid hu
      by_cases hd : x = 48
      · subst hd
        have F : Hid (Str (s'.extract 0 u) (xs.take u) ∧ u ≤ xs.length ∧ (s'.extract 0 u).size = u ∧ (∀ i, u ≤ i → i < xs.length → xs.getD i 0 = 48)) := by
          have e := I.out.1.extract 0 u
          rw [List.drop_zero, Nat.sub_zero, List.take_take, show min u m = u by omega] at e
          refine ⟨e, by have := I.out.2.1; omega, by rw [e.size]; have := I.out.2.1; simp; omega, fun i h1 h2 => ?_⟩
          by_cases c : i = u
          · subst c; exact X.out
          · exact I.out.2.2.2 i (by omega) h2
        have SZ : Hid ((s'.extract 0 u).size < s'.size) := by show _ < _; rw [F.out.2.2.1, hsz]; omega
        clear I hu h0
        go_wp2_with fail
        go_round
        case rel => exact ⟨_, _, rfl, F.out⟩
        case measure => exact SZ.out
      · have hd2 : (x == 48) = false := by rw [beq_eq_false_iff_ne]; exact hd
        have F : Hid (FTail xs (.returned (.string s'))) := ⟨s', m, rfl, I.out.1, I.out.2.1, I.out.2.2.2, fun _ => by rw [show m - 1 = u by omega, X.out]; exact hd⟩
        clear I hu h0
        go_wp2_with fail
        go_ret
        exact ⟨F.out, rfl⟩


set_option maxRecDepth 100000 in
theorem frtrim0_any (s : ByteArray) (xs : List Int) (w : World) (hs : Str s xs) (hn1 : xs.length ≤ 562949953421312) :
    Calls Tryz.prog 60 #[.string s, .string ⟨#[48]⟩] w fun e w' => FTail xs e ∧ w' = w := by
  have T := hid (frtrim_any s xs w hs hn1)
  by_cases h : xs = []
  · have F : Hid (FTail xs (.returned (.string s))) := ⟨s, 0, rfl, by rw [h] at hs ⊢; exact hs, Nat.zero_le _, fun i _ hi => by rw [h] at hi; simp at hi, fun hlt => by omega⟩
    have hs0 : s = ⟨#[]⟩ := hs.inj (by rw [h]; rfl)
    subst hs0
    clear hs hn1 h
    go_enter Tryz.func60, Tryz.ntmps60
    go_wp2_with fail
    go_ret
    exact ⟨F.out, rfl⟩
  · have e1 : s.toList ≠ [] := by
      intro c
      apply h
      rw [ByteArray.toList_eq] at c
      rw [← hs, c]
      rfl
    have e2 : (s.toList == []) = false := by rw [beq_eq_false_iff_ne]; exact e1
    have e3 : s.toList.isEmpty = false := by rw [List.isEmpty_eq_false_iff]; exact e1
    clear hs hn1 h
    go_enter Tryz.func60, Tryz.ntmps60
    go_wp2_with fail
    refine T.out.mono ?_
    rintro e w' ⟨h1, rfl⟩
    obtain ⟨s', j, rfl, h2⟩ := h1
    have F : Hid (FTail xs (.returned (.string s'))) := ⟨s', j, rfl, h2⟩
    clear h2 T
    go_wp2_with fail
    go_ret
    exact ⟨F.out, rfl⟩
end Go.Proofs.YtjkefcikepnbpaaGreatDoor

/-
  The rows of the table, and what is rounded by them: plain numbers.
-/
namespace Go.Proofs.YtjkefcikepnbpaaGreatDoor
namespace Ie

/-- Between two numbers with one head, of 55 bits at least, and something behind it, there is no middle. -/
theorem head_side (h l l' : Int) (y : Int) (a b : Nat) (h0 : 18014398509481984 ≤ h) (l0 : 0 < l) (l1 : l < 18446744073709551616) (k0 : 0 < l') (k1 : l' < 18446744073709551616) (hy : 0 ≤ y) :
    (md y * 2 ^ b < (h * 18446744073709551616 + l) * 2 ^ a ∧ md y * 2 ^ b < (h * 18446744073709551616 + l') * 2 ^ a) ∨
      ((h * 18446744073709551616 + l) * 2 ^ a < md y * 2 ^ b ∧ (h * 18446744073709551616 + l') * 2 ^ a < md y * 2 ^ b) := by
  obtain ⟨M, E, hM, M0, M1⟩ := md_form y hy
  have ha := Nm.two_pos a
  have e64 : (2 : Int) ^ 64 = 18446744073709551616 := by decide
  rw [hM, Int.mul_assoc, ← Nm.two_add]
  rcases Nat.lt_or_ge (E + b) (a + 64) with g | g
  · left
    have g1 := Nm.two_mono (show E + b ≤ a + 64 by omega)
    rw [Nm.two_add a 64, e64] at g1
    have g2 : M * 2 ^ (E + b) ≤ M * (2 ^ a * 18446744073709551616) := Int.mul_le_mul_of_nonneg_left g1 (by omega)
    have g3 : M * (2 ^ a * 18446744073709551616) ≤ h * (2 ^ a * 18446744073709551616) := Int.mul_le_mul_of_nonneg_right (by omega) (by omega)
    have e1 : ∀ l : Int, (h * 18446744073709551616 + l) * 2 ^ a = h * (2 ^ a * 18446744073709551616) + l * 2 ^ a := by
      intro l; rw [Int.add_mul]; congr 1; ac_rfl
    rw [e1, e1]
    have := Int.mul_pos l0 ha
    have := Int.mul_pos k0 ha
    omega
  · obtain ⟨k, hk⟩ : ∃ k, E + b = k + 64 + a := ⟨E + b - 64 - a, by omega⟩
    rw [hk, Nm.two_add, Nm.two_add, e64, ← Int.mul_assoc, ← Int.mul_assoc]
    generalize M * 2 ^ k = R
    rcases Int.lt_or_le h R with g | g
    · right
      exact ⟨Int.mul_lt_mul_of_pos_right (by omega) ha, Int.mul_lt_mul_of_pos_right (by omega) ha⟩
    · left
      exact ⟨Int.mul_lt_mul_of_pos_right (by omega) ha, Int.mul_lt_mul_of_pos_right (by omega) ha⟩

theorem head_rnd {h l l' e x : Int} (h0 : 18014398509481984 ≤ h) (l0 : 0 < l) (l1 : l < 18446744073709551616) (k0 : 0 < l') (k1 : l' < 18446744073709551616)
    (hr : Rnd (h * 18446744073709551616 + l) 1 e false x) : Rnd (h * 18446744073709551616 + l') 1 e false x := by
  intro a b hab
  have hN := hr a b hab
  rw [Int.one_mul] at hN ⊢
  refine ⟨hN.1, fun hx => ?_, fun hx => ?_⟩
  · left
    rcases head_side h l l' (x - 1) a b h0 l0 l1 k0 k1 (by omega) with g | g
    · exact g.2
    · rcases hN.2.1 hx with k | k <;> omega
  · left
    rcases head_side h l l' x a b h0 l0 l1 k0 k1 hN.1.1 with g | g
    · rcases hN.2.2 hx with k | k <;> omega
    · exact g.2

/-- P and e are the row of q: P * 2^e <= 5^q < (P + 1) * 2^e, and the same just from 0 to 55. -/
structure Row (q P e : Int) : Prop where
  lo : 170141183460469231731687303715884105728 ≤ P
  hi : P < 340282366920938463463374607431768211456
  le : P * 2 ^ e.toNat * 5 ^ (-q).toNat ≤ 5 ^ q.toNat * 2 ^ (-e).toNat
  lt : 5 ^ q.toNat * 2 ^ (-e).toNat < (P + 1) * 2 ^ e.toNat * 5 ^ (-q).toNat
  eq : 0 ≤ q → q ≤ 55 → P * 2 ^ e.toNat * 5 ^ (-q).toNat = 5 ^ q.toNat * 2 ^ (-e).toNat
  ne : q < 0 ∨ 55 < q → P * 2 ^ e.toNat * 5 ^ (-q).toNat ≠ 5 ^ q.toNat * 2 ^ (-e).toNat
  eb : -1000 ≤ e ∧ e ≤ 1000

theorem ten_pow (n : Nat) : (10 : Int) ^ n = 2 ^ n * 5 ^ n := by rw [← Int.mul_pow, show (2 : Int) * 5 = 10 from rfl]

theorem five_pos (n : Nat) : (0 : Int) < 5 ^ n := Int.pow_pos (by decide)

theorem scale_le (w P D V : Int) (a a' ep en qp qn : Nat) (h : a + en + qn = a' + ep + qp) (w0 : 0 ≤ w) (D0 : 0 ≤ D)
    (h1 : P * 2 ^ ep * 5 ^ qn ≤ 5 ^ qp * 2 ^ en) (h2 : w * 10 ^ qp * D ≤ V * 10 ^ qn) : w * P * D * 2 ^ a ≤ V * 2 ^ a' := by
  have k : (0 : Int) < 2 ^ (en + qn) * 5 ^ qn := Int.mul_pos (Nm.two_pos _) (five_pos _)
  refine Int.le_of_mul_le_mul_right ?_ k
  have e1 : w * P * D * 2 ^ a * (2 ^ (en + qn) * 5 ^ qn) = w * D * 2 ^ (a' + qp) * (P * 2 ^ ep * 5 ^ qn) := by
    have : (2 : Int) ^ a * 2 ^ (en + qn) = 2 ^ (a' + qp) * 2 ^ ep := by rw [← Nm.two_add, ← Nm.two_add]; congr 1; omega
    calc w * P * D * 2 ^ a * (2 ^ (en + qn) * 5 ^ qn) = w * P * D * (2 ^ a * 2 ^ (en + qn)) * 5 ^ qn := by ac_rfl
      _ = w * P * D * (2 ^ (a' + qp) * 2 ^ ep) * 5 ^ qn := by rw [this]
      _ = _ := by ac_rfl
  have e2 : w * D * 2 ^ (a' + qp) * (5 ^ qp * 2 ^ en) = w * 10 ^ qp * D * 2 ^ (a' + en) := by
    rw [ten_pow, Nm.two_add, Nm.two_add]; ac_rfl
  have e3 : V * 10 ^ qn * 2 ^ (a' + en) = V * 2 ^ a' * (2 ^ (en + qn) * 5 ^ qn) := by
    rw [ten_pow, Nm.two_add, Nm.two_add]; ac_rfl
  rw [e1, ← e3]
  have s1 : w * D * 2 ^ (a' + qp) * (P * 2 ^ ep * 5 ^ qn) ≤ w * D * 2 ^ (a' + qp) * (5 ^ qp * 2 ^ en) :=
    Int.mul_le_mul_of_nonneg_left h1 (Int.mul_nonneg (Int.mul_nonneg w0 D0) (by have := Nm.two_pos (a' + qp); omega))
  have s2 : w * 10 ^ qp * D * 2 ^ (a' + en) ≤ V * 10 ^ qn * 2 ^ (a' + en) := Int.mul_le_mul_of_nonneg_right h2 (by have := Nm.two_pos (a' + en); omega)
  rw [e2] at s1
  exact Int.le_trans s1 s2

theorem scale_ge (w P D V : Int) (a a' ep en qp qn : Nat) (h : a + en + qn = a' + ep + qp) (w0 : 0 ≤ w) (D0 : 0 ≤ D)
    (h1 : 5 ^ qp * 2 ^ en ≤ P * 2 ^ ep * 5 ^ qn) (h2 : V * 10 ^ qn ≤ w * 10 ^ qp * D) : V * 2 ^ a' ≤ w * P * D * 2 ^ a := by
  have k : (0 : Int) < 2 ^ (en + qn) * 5 ^ qn := Int.mul_pos (Nm.two_pos _) (five_pos _)
  refine Int.le_of_mul_le_mul_right ?_ k
  have e1 : w * P * D * 2 ^ a * (2 ^ (en + qn) * 5 ^ qn) = w * D * 2 ^ (a' + qp) * (P * 2 ^ ep * 5 ^ qn) := by
    have : (2 : Int) ^ a * 2 ^ (en + qn) = 2 ^ (a' + qp) * 2 ^ ep := by rw [← Nm.two_add, ← Nm.two_add]; congr 1; omega
    calc w * P * D * 2 ^ a * (2 ^ (en + qn) * 5 ^ qn) = w * P * D * (2 ^ a * 2 ^ (en + qn)) * 5 ^ qn := by ac_rfl
      _ = w * P * D * (2 ^ (a' + qp) * 2 ^ ep) * 5 ^ qn := by rw [this]
      _ = _ := by ac_rfl
  have e2 : w * D * 2 ^ (a' + qp) * (5 ^ qp * 2 ^ en) = w * 10 ^ qp * D * 2 ^ (a' + en) := by
    rw [ten_pow, Nm.two_add, Nm.two_add]; ac_rfl
  have e3 : V * 10 ^ qn * 2 ^ (a' + en) = V * 2 ^ a' * (2 ^ (en + qn) * 5 ^ qn) := by
    rw [ten_pow, Nm.two_add, Nm.two_add]; ac_rfl
  rw [e1, ← e3]
  have s1 : w * D * 2 ^ (a' + qp) * (5 ^ qp * 2 ^ en) ≤ w * D * 2 ^ (a' + qp) * (P * 2 ^ ep * 5 ^ qn) :=
    Int.mul_le_mul_of_nonneg_left h1 (Int.mul_nonneg (Int.mul_nonneg w0 D0) (by have := Nm.two_pos (a' + qp); omega))
  have s2 : V * 10 ^ qn * 2 ^ (a' + en) ≤ w * 10 ^ qp * D * 2 ^ (a' + en) := Int.mul_le_mul_of_nonneg_right h2 (by have := Nm.two_pos (a' + en); omega)
  rw [e2] at s1
  exact Int.le_trans s2 s1

theorem le_or {a b : Int} {p : Prop} (h : a ≤ b) : a < b ∨ (a = b ∧ (p → p)) := by
  rcases Int.lt_or_eq_of_le h with h | h
  · exact .inl h
  · exact .inr ⟨h, id⟩

/-- The lower end lies at most at the number itself. -/
theorem Row.below {q P e : Int} (r : Row q P e) {w V D x y : Int} (w0 : 0 ≤ w) (D0 : 0 < D) (hx : Rnd (w * P) 1 (e + q) false x) (hy : Rnd V D 0 false y)
    (h : w * 10 ^ q.toNat * D ≤ V * 10 ^ (-q).toNat) : x ≤ y := by
  refine hx.mono (a := (e + q).toNat) (a' := (-(e + q)).toNat) (by decide) D0 hy (by omega) ?_
  rw [Int.mul_one]
  exact le_or (scale_le w P D V _ _ e.toNat (-e).toNat q.toNat (-q).toNat (by omega) w0 (by omega) r.le h)

theorem Row.above {q P e : Int} (r : Row q P e) {w V D x y : Int} (w0 : 0 ≤ w) (D0 : 0 < D) (hx : Rnd (w * (P + 1)) 1 (e + q) false x) (hy : Rnd V D 0 false y)
    (h : V * 10 ^ (-q).toNat ≤ w * 10 ^ q.toNat * D) : y ≤ x := by
  refine hy.mono (a := (-(e + q)).toNat) (a' := (e + q).toNat) D0 (by decide) hx (by omega) ?_
  rw [Int.mul_one]
  exact le_or (scale_ge w (P + 1) D V _ _ e.toNat (-e).toNat q.toNat (-q).toNat (by omega) w0 (by omega) (Int.le_of_lt r.lt) h)

theorem Row.above_eq {q P e : Int} (r : Row q P e) (q0 : 0 ≤ q) (q1 : q ≤ 55) {w V D x y : Int} (w0 : 0 ≤ w) (D0 : 0 < D) (hx : Rnd (w * P) 1 (e + q) false x) (hy : Rnd V D 0 false y)
    (h : V * 10 ^ (-q).toNat ≤ w * 10 ^ q.toNat * D) : y ≤ x := by
  refine hy.mono (a := (-(e + q)).toNat) (a' := (e + q).toNat) D0 (by decide) hx (by omega) ?_
  rw [Int.mul_one]
  exact le_or (scale_ge w P D V _ _ e.toNat (-e).toNat q.toNat (-q).toNat (by omega) w0 (by omega) (Int.le_of_eq (r.eq q0 q1).symm) h)

theorem five_odd : ∀ n : Nat, (5 : Int) ^ n % 2 = 1
  | 0 => rfl
  | n + 1 => by have := five_odd n; rw [Int.pow_succ]; omega

theorem two_five : ∀ n : Nat, (2 : Int) ^ n % 5 ≠ 0
  | 0 => by decide
  | n + 1 => by have := two_five n; rw [Int.pow_succ]; omega

theorem five_le {m n : Nat} (h : m ≤ n) : (5 : Int) ^ m ≤ 5 ^ n := by
  have h1 := Nat.pow_le_pow_right (show 0 < 5 by decide) h
  have e : ∀ k : Nat, ((5 ^ k : Nat) : Int) = 5 ^ k := by intro k; simp
  have := e m
  have := e n
  omega

theorem two_lt_of {a b : Nat} (h : (2 : Int) ^ a < 2 ^ b) : a < b := by
  rcases Nat.lt_or_ge a b with g | g
  · exact g
  · have := Nm.two_mono g; omega

theorem row_len {n L : Nat} (hn : n ≤ 342) (hL : Nm.BLen (5 ^ n) L) : 1 ≤ L ∧ L ≤ 800 ∧ (n ≤ 55 → L ≤ 128) ∧ (55 < n → 128 < L) := by
  have h1 := hL.2.2 (five_pos n)
  refine ⟨h1.1, ?_, fun h => ?_, fun h => ?_⟩
  · have g := five_le hn
    have k : (5 : Int) ^ 342 < 2 ^ 800 := by decide +kernel
    have := two_lt_of (a := L - 1) (b := 800) (by omega)
    omega
  · have g := five_le h
    have k : (5 : Int) ^ 55 < 2 ^ 128 := by decide +kernel
    have := two_lt_of (a := L - 1) (b := 128) (by omega)
    omega
  · have g := five_le (show 56 ≤ n from h)
    have k : (2 : Int) ^ 128 < 5 ^ 56 := by decide +kernel
    have := two_lt_of (a := 128) (b := L) (by have := hL.1; omega)
    omega

theorem e128 : (2 : Int) ^ 128 = 340282366920938463463374607431768211456 := by decide +kernel
theorem e127 : (2 : Int) ^ 127 = 170141183460469231731687303715884105728 := by decide +kernel

theorem row_up {n L k : Nat} (hn : n ≤ 308) (hL : Nm.BLen (5 ^ n) L) (hk : L + k = 128) : Row n (5 ^ n * 2 ^ k) ((L : Int) - 128) := by
  obtain ⟨l1, l2, l3, l4⟩ := row_len (by omega) hL
  have hp := Nm.two_pos k
  have b := (hL.2.2 (five_pos n)).2
  have t1 : ((L : Int) - 128).toNat = 0 := by omega
  have t2 : (-((L : Int) - 128)).toNat = k := by omega
  have t3 : (-(n : Int)).toNat = 0 := by omega
  have t4 : ((n : Int)).toNat = n := by omega
  have E : (5 : Int) ^ n * 2 ^ k * 2 ^ ((L : Int) - 128).toNat * 5 ^ (-(n : Int)).toNat = 5 ^ (n : Int).toNat * 2 ^ (-((L : Int) - 128)).toNat := by
    rw [t1, t2, t3, t4]; simp
  refine ⟨?_, ?_, Int.le_of_eq E, ?_, fun _ _ => E, fun h => ?_, by omega⟩
  · have g : (2 : Int) ^ (L - 1) * 2 ^ k ≤ 5 ^ n * 2 ^ k := Int.mul_le_mul_of_nonneg_right b (by omega)
    rw [← Nm.two_add, show L - 1 + k = 127 by omega, e127] at g
    exact g
  · have g : (5 : Int) ^ n * 2 ^ k < 2 ^ L * 2 ^ k := Int.mul_lt_mul_of_pos_right hL.1 hp
    rw [← Nm.two_add, hk, e128] at g
    exact g
  · rw [← E, t1, t3, Int.pow_zero, Int.pow_zero]; omega
  · exfalso
    have := l4 (by omega)
    omega

theorem row_down {n L k : Nat} (hn : n ≤ 308) (hL : Nm.BLen (5 ^ n) L) (hk : L = 128 + k) (k0 : 0 < k) : Row n (5 ^ n / 2 ^ k) ((L : Int) - 128) := by
  obtain ⟨l1, l2, l3, l4⟩ := row_len (by omega) hL
  have hp := Nm.two_pos k
  have b := (hL.2.2 (five_pos n)).2
  have t1 : ((L : Int) - 128).toNat = k := by omega
  have t2 : (-((L : Int) - 128)).toNat = 0 := by omega
  have t3 : (-(n : Int)).toNat = 0 := by omega
  have t4 : ((n : Int)).toNat = n := by omega
  have dm := Int.mul_ediv_add_emod (5 ^ n) (2 ^ k)
  have r0 := Int.emod_nonneg (5 ^ n) (show (2 : Int) ^ k ≠ 0 by omega)
  have r1 := Int.emod_lt_of_pos (5 ^ n) hp
  refine ⟨?_, ?_, ?_, ?_, fun h g => ?_, fun h => ?_, by omega⟩
  · rw [Int.le_ediv_iff_mul_le hp, ← e127, ← Nm.two_add, show 127 + k = L - 1 by omega]; exact b
  · rw [Int.ediv_lt_iff_lt_mul hp, ← e128, ← Nm.two_add, ← hk]; exact hL.1
  · rw [t1, t2, t3, t4, Int.pow_zero, Int.pow_zero, Int.mul_one, Int.mul_one, Int.mul_comm]; omega
  · rw [t1, t2, t3, t4, Int.pow_zero, Int.pow_zero, Int.mul_one, Int.mul_one, Int.add_mul, Int.one_mul, Int.mul_comm (5 ^ n / 2 ^ k)]; omega
  · exfalso
    have := l3 (by omega)
    omega
  · rw [t1, t2, t3, t4, Int.pow_zero, Int.pow_zero, Int.mul_one, Int.mul_one]
    obtain ⟨j, rfl⟩ : ∃ j, k = j + 1 := ⟨k - 1, by omega⟩
    have := five_odd n
    intro g
    rw [← g, Int.pow_succ, ← Int.mul_assoc] at this
    omega

theorem row_neg {n L : Nat} (hn : n ≤ 342) (n0 : 0 < n) (hL : Nm.BLen (5 ^ n) L) : Row (-(n : Int)) (2 ^ (L + 127) / 5 ^ n) (-((L : Int) + 127)) := by
  obtain ⟨l1, l2, l3, l4⟩ := row_len (by omega) hL
  have hp := five_pos n
  have b := (hL.2.2 (five_pos n)).2
  have t1 : (-((L : Int) + 127)).toNat = 0 := by omega
  have t2 : (-(-((L : Int) + 127))).toNat = L + 127 := by omega
  have t3 : (-(n : Int)).toNat = 0 := by omega
  have t4 : (-(-(n : Int))).toNat = n := by omega
  have dm := Int.mul_ediv_add_emod (2 ^ (L + 127)) (5 ^ n)
  have r0 := Int.emod_nonneg (2 ^ (L + 127)) (show (5 : Int) ^ n ≠ 0 by omega)
  have r1 := Int.emod_lt_of_pos (2 ^ (L + 127)) hp
  refine ⟨?_, ?_, ?_, ?_, fun h => by omega, fun _ => ?_, by omega⟩
  · rw [Int.le_ediv_iff_mul_le hp, ← e127, Nm.two_add, Int.mul_comm]
    exact Int.mul_le_mul_of_nonneg_right (Int.le_of_lt hL.1) (by have := Nm.two_pos 127; omega)
  · rw [Int.ediv_lt_iff_lt_mul hp, ← e128, show L + 127 = 128 + (L - 1) by omega, Nm.two_add]
    refine Int.mul_lt_mul_of_pos_left ?_ (Nm.two_pos 128)
    rcases Int.lt_or_eq_of_le b with g | g
    · exact g
    · exfalso
      have o := five_odd n
      rcases (show L - 1 = 0 ∨ 0 < L - 1 by omega) with h | h
      · rw [h, Int.pow_zero] at g
        have := five_le (show 1 ≤ n from n0)
        omega
      · rw [← g, show L - 1 = (L - 2) + 1 by omega, Int.pow_succ] at o
        omega
  · rw [t1, t2, t3, t4, Int.pow_zero, Int.pow_zero, Int.mul_one, Int.one_mul, Int.mul_comm]; omega
  · rw [t1, t2, t3, t4, Int.pow_zero, Int.pow_zero, Int.mul_one, Int.one_mul, Int.add_mul, Int.one_mul, Int.mul_comm (2 ^ (L + 127) / 5 ^ n)]; omega
  · rw [t1, t2, t3, t4, Int.pow_zero, Int.pow_zero, Int.mul_one, Int.one_mul]
    obtain ⟨j, rfl⟩ : ∃ j, n = j + 1 := ⟨n - 1, by omega⟩
    have := two_five (L + 127)
    intro g
    rw [← g, Int.pow_succ 5 j, ← Int.mul_assoc] at this
    omega

/-- What Step tells. -/
def Stp (w q : Int) (x : Int) (sure : Bool) : Prop :=
  (w = 0 ∧ x = 0 ∧ sure = true) ∨ (0 < w ∧ (q < -342 ∨ 308 < q) ∧ x = 0 ∧ sure = false) ∨
    (0 < w ∧ -342 ≤ q ∧ q ≤ 308 ∧ ∃ P e A B, Row q P e ∧ Rnd (w * P) 1 (e + q) false A ∧ ((0 ≤ q ∧ q ≤ 55 ∧ B = A) ∨ ((q < 0 ∨ 55 < q) ∧ Rnd (w * (P + 1)) 1 (e + q) false B)) ∧
      ((A = B ∧ x = A ∧ sure = true) ∨ (A ≠ B ∧ x = 0 ∧ sure = false)))

theorem Stp.le {w q x : Int} {sure : Bool} (h : Stp w q x sure) (hs : sure = true) (w0 : 0 ≤ w) {V D y : Int} (D0 : 0 < D) (hy : Rnd V D 0 false y)
    (hv : w * 10 ^ q.toNat * D ≤ V * 10 ^ (-q).toNat) : x ≤ y := by
  rcases h with ⟨_, rfl, _⟩ | ⟨_, _, _, rfl⟩ | ⟨_, _, _, P, e, A, B, r, hA, _, h⟩
  · exact hy.bd.1
  · cases hs
  · rcases h with ⟨_, rfl, _⟩ | ⟨_, _, rfl⟩
    · exact r.below w0 D0 hA hy hv
    · cases hs

theorem Stp.ge {w q x : Int} {sure : Bool} (h : Stp w q x sure) (hs : sure = true) (w0 : 0 ≤ w) {V D y : Int} (V0 : 0 ≤ V) (D0 : 0 < D) (hy : Rnd V D 0 false y)
    (hv : V * 10 ^ (-q).toNat ≤ w * 10 ^ q.toNat * D) : y ≤ x := by
  rcases h with ⟨rfl, rfl, _⟩ | ⟨_, _, _, rfl⟩ | ⟨_, _, _, P, e, A, B, r, hA, hB, h⟩
  · have p : (0 : Int) < 10 ^ (-q).toNat := Int.pow_pos (by decide)
    rw [Int.zero_mul, Int.zero_mul] at hv
    have hV : V = 0 := by
      rcases Int.lt_or_eq_of_le V0 with g | g
      · have := Int.mul_pos g p; omega
      · exact g.symm
    subst hV
    have := Rnd.one (a := 0) (a' := 0) D0 D0 hy (rnd_zero D 0 false D0) (by omega) rfl
    omega
  · cases hs
  · rcases h with ⟨rfl, rfl, _⟩ | ⟨_, _, rfl⟩
    · rcases hB with ⟨q0, q1, _⟩ | ⟨_, hB⟩
      · exact r.above_eq q0 q1 w0 D0 hA hy hv
      · exact r.above w0 D0 hB hy hv
    · cases hs

/-- Where Step is sure, it tells the number itself, rounded. -/
theorem Stp.true {w q x : Int} {sure : Bool} (h : Stp w q x sure) (hs : sure = true) (w0 : 0 ≤ w) {V D y : Int} (V0 : 0 ≤ V) (D0 : 0 < D) (hy : Rnd V D 0 false y)
    (hv : V * 10 ^ (-q).toNat = w * 10 ^ q.toNat * D) : x = y := by
  have := h.le hs w0 D0 hy (by omega)
  have := h.ge hs w0 V0 D0 hy (by omega)
  omega

theorem Stp.bd {w q x : Int} {sure : Bool} (h : Stp w q x sure) : 0 ≤ x ∧ x ≤ 9218868437227405312 := by
  rcases h with ⟨_, rfl, _⟩ | ⟨_, _, rfl, _⟩ | ⟨_, _, _, P, e, A, B, r, hA, _, h⟩
  · decide
  · decide
  · rcases h with ⟨_, rfl, _⟩ | ⟨_, rfl, _⟩
    · exact hA.bd
    · decide
end Ie
end Go.Proofs.YtjkefcikepnbpaaGreatDoor

/-
  The rows as functions of q, and some roundings at fixed numbers.
-/
namespace Go.Proofs.YtjkefcikepnbpaaGreatDoor
namespace Ie

/-- The length of 5^n in bits. -/
def bl (n : Nat) : Nat := Nat.log2 (5 ^ n) + 1

theorem bl_is (n : Nat) : Nm.BLen (5 ^ n) (bl n) := by
  have e : ((5 ^ n : Nat) : Int) = 5 ^ n := by simp
  have e1 : ∀ k : Nat, ((2 ^ k : Nat) : Int) = 2 ^ k := by intro k; simp
  have h0 : (5 ^ n : Nat) ≠ 0 := by have := Nat.pow_pos (n := n) (show 0 < 5 by decide); omega
  have p := five_pos n
  refine ⟨?_, fun h => by omega, fun _ => ⟨by unfold bl; omega, ?_⟩⟩
  · have h := (Nat.log2_lt h0 (k := bl n)).1 (by unfold bl; omega)
    have := e1 (bl n)
    omega
  · have h := Nat.log2_self_le h0
    have := e1 (Nat.log2 (5 ^ n))
    rw [show bl n - 1 = Nat.log2 (5 ^ n) by unfold bl; omega]
    omega

/-- The row of q. -/
def rowE (q : Int) : Int := if 0 ≤ q then (bl q.toNat : Int) - 128 else -((bl (-q).toNat : Int) + 127)
def rowP (q : Int) : Int := if 0 ≤ q then (if bl q.toNat ≤ 128 then 5 ^ q.toNat * 2 ^ (128 - bl q.toNat) else 5 ^ q.toNat / 2 ^ (bl q.toNat - 128)) else 2 ^ (bl (-q).toNat + 127) / 5 ^ (-q).toNat

theorem row_is {q : Int} (h0 : -342 ≤ q) (h1 : q ≤ 308) : Row q (rowP q) (rowE q) := by
  rcases (show 0 ≤ q ∨ q < 0 by omega) with h | h
  · obtain ⟨n, rfl⟩ := Int.eq_ofNat_of_zero_le h
    rw [rowP, rowE, if_pos h, if_pos h, Int.toNat_natCast]
    split
    · exact row_up (by omega) (bl_is n) (by omega)
    · exact row_down (by omega) (bl_is n) (by omega) (by omega)
  · obtain ⟨n, hn⟩ := Int.eq_ofNat_of_zero_le (show 0 ≤ -q by omega)
    have hq : q = -(n : Int) := by omega
    rw [rowP, rowE, if_neg (by omega), if_neg (by omega), show (-q).toNat = n by omega, hq]
    exact row_neg (by omega) (by omega) (bl_is n)

/-- What Step tells, at the row that there is. -/
def Stq (w q : Int) (x : Int) (sure : Bool) : Prop :=
  (w = 0 ∧ x = 0 ∧ sure = true) ∨ (0 < w ∧ (q < -342 ∨ 308 < q) ∧ x = 0 ∧ sure = false) ∨
    (0 < w ∧ -342 ≤ q ∧ q ≤ 308 ∧ ∃ A B, Rnd (w * rowP q) 1 (rowE q + q) false A ∧ ((0 ≤ q ∧ q ≤ 55 ∧ B = A) ∨ ((q < 0 ∨ 55 < q) ∧ Rnd (w * (rowP q + 1)) 1 (rowE q + q) false B)) ∧
      ((A = B ∧ x = A ∧ sure = true) ∨ (A ≠ B ∧ x = 0 ∧ sure = false)))

theorem Stq.stp {w q x : Int} {sure : Bool} (h : Stq w q x sure) : Stp w q x sure := by
  rcases h with h | h | ⟨h0, h1, h2, A, B, h⟩
  · exact .inl h
  · exact .inr (.inl h)
  · exact .inr (.inr ⟨h0, h1, h2, rowP q, rowE q, A, B, row_is h1 h2, h⟩)

/-- What is told leaves one answer. -/
theorem Stq.one {w q x y : Int} {s t : Bool} (h : Stq w q x s) (k : Stq w q y t) : x = y ∧ s = t := by
  rcases h with h | h | ⟨h0, h1, h2, A, B, a, b, h⟩ <;> rcases k with k | k | ⟨k0, k1, k2, A', B', a', b', k⟩
  · exact ⟨by omega, by rw [h.2.2, k.2.2]⟩
  · omega
  · omega
  · omega
  · exact ⟨by omega, by rw [h.2.2.2, k.2.2.2]⟩
  · omega
  · omega
  · omega
  · have e1 := Rnd.one (a := 0) (a' := 0) (by decide) (by decide) a a' (by omega) rfl
    have e2 : B = B' := by
      rcases b with b | b <;> rcases b' with b' | b'
      · omega
      · omega
      · omega
      · exact Rnd.one (a := 0) (a' := 0) (by decide) (by decide) b.2 b'.2 (by omega) rfl
    rcases h with h | h <;> rcases k with k | k
    · exact ⟨by omega, by rw [h.2.2, k.2.2]⟩
    · omega
    · omega
    · exact ⟨by omega, by rw [h.2.2, k.2.2]⟩
end Ie
end Go.Proofs.YtjkefcikepnbpaaGreatDoor

namespace Go.Proofs.YtjkefcikepnbpaaGreatDoor
open Go Go.RowKit Go.Deep

theorem ans_small {B : Nat} {w : World} {r : Option Addr} {os : List Int} {v : Int} (h : Ans B w r os v) (k : Nat) (hv : v < Nm.pw k) : os.length ≤ k := by
  have := (Nm.tsize_le_iff h.2.1 k).2 (by rw [h.2.2.2.1]; exact hv)
  rw [h.2.2.1] at this
  exact this
end Go.Proofs.YtjkefcikepnbpaaGreatDoor



namespace Go.Proofs.YtjkefcikepnbpaaGreatDoor

end Go.Proofs.YtjkefcikepnbpaaGreatDoor
