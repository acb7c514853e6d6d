/-
  REPLACED TEXTS: mathematics over lists of bytes.
-/
import Derived.Test.YtgliefdefklfeaaChN
namespace Go.Proofs.Ytgliefdefklfeaa
open Go
namespace Ch

/-- The empty text replaced: ahead of each of the first bytes. -/
def rz (new : L8) : Nat → L8 → L8
  | 0, s => s
  | k + 1, [] => new ++ rz new k []
  | k + 1, c :: r => new ++ c :: rz new k r
/-- old replaced at its first k places. -/
def rk (old new : L8) (k : Nat) (s : L8) : L8 := if old = [] then rz new k s else Lib.replaceK old new k s
/-- How often old stands in s. -/
def cn (s old : L8) : Nat := if old = [] then s.length + 1 else Lib.count s old
/-- How often it is replaced. -/
def rn (s old : L8) (most : Int) : Nat := if most < 0 then cn s old else min (cn s old) most.toNat
def rE (s old new : L8) (most : Int) : Int := if (rk old new (rn s old most) s).length ≤ 16777216 then 0 else 3
def rT (s old new : L8) (most : Int) : ByteArray := if (rk old new (rn s old most) s).length ≤ 16777216 then tx (rk old new (rn s old most) s) else tx []
def rC (s old new : L8) (most : Int) : Nat := if (rk old new (rn s old most) s).length ≤ 16777216 then rn s old most else 0

theorem rn_le (s old : L8) (most : Int) : rn s old most ≤ cn s old := by
  unfold rn
  split
  · exact Nat.le_refl _
  · exact Nat.min_le_left _ _
theorem occ_room {s old : L8} (hold : old ≠ []) {i : Nat} (ho : Lib.occAt s old i = true) : i + old.length ≤ s.length := by
  rcases Lib.occAt_room ho with h | h
  · exact h
  · exact absurd h hold
/-- Where old stands still: its first place. -/
theorem count_at {s old : L8} (hold : old ≠ []) {k : Nat} (h : k + 1 ≤ Lib.count s old) : ∃ i : Nat, Lib.index s old = i ∧ i + old.length ≤ s.length ∧ k ≤ Lib.count (s.drop (i + old.length)) old ∧ (s.drop i).take old.length = old := by
  rcases Lib.index_spec s old with ⟨h1, _⟩ | ⟨i, h1, hi, ho, _⟩
  · rw [Lib.count_miss h1] at h; omega
  · have hr := occ_room hold ho
    have hc := Lib.count_hit hold h1
    have h2 := Lib.occAt_iff_take s old i hr
    rw [ho] at h2
    exact ⟨i, h1, hr, by omega, by simpa using h2.symm⟩
theorem rz_len (new : L8) : ∀ (k : Nat) (s : L8), (rz new k s).length = s.length + k * new.length
  | 0, s => by simp [rz]
  | k + 1, [] => by rw [rz, List.length_append, rz_len new k []]; simp [Nat.succ_mul]; omega
  | k + 1, c :: r => by rw [rz, List.length_append, List.length_cons, rz_len new k r]; simp [Nat.succ_mul]; omega
theorem replaceK_len (old new : L8) (hold : old ≠ []) : ∀ (k : Nat) (s : L8), k ≤ Lib.count s old → (Lib.replaceK old new k s).length + k * old.length = s.length + k * new.length
  | 0, s, _ => by simp [Lib.replaceK]
  | k + 1, s, h => by
    obtain ⟨i, h1, h2, h3, _⟩ := count_at hold h
    rw [Lib.replaceK_hit old new k s i h1, List.length_append, List.length_append]
    have ih := replaceK_len old new hold k _ h3
    rw [List.length_drop] at ih
    have e1 : (k + 1) * old.length = k * old.length + old.length := Nat.succ_mul _ _
    have e2 : (k + 1) * new.length = k * new.length + new.length := Nat.succ_mul _ _
    rw [List.length_take, e1, e2]
    omega
theorem rk_len (old new : L8) (k : Nat) (s : L8) (h : k ≤ cn s old) : (rk old new k s).length + k * old.length = s.length + k * new.length := by
  by_cases h0 : old = []
  · rw [rk, if_pos h0, h0, rz_len]; simp
  · rw [rk, if_neg h0]
    rw [cn, if_neg h0] at h
    exact replaceK_len old new h0 k s h
/-- As often as it may stand, its bytes fit into the text. -/
theorem cn_room (old : L8) : ∀ (k : Nat) (s : L8), k ≤ cn s old → k * old.length ≤ s.length := by
  intro k s h
  have := rk_len old [] k s h
  simp at this
  omega
theorem rk_int (old new : L8) (k : Nat) (s : L8) (h : k ≤ cn s old) : ((rk old new k s).length : Int) = (s.length : Int) + (k : Int) * ((new.length : Int) - (old.length : Int)) := by
  have h1 := rk_len old new k s h
  have h2 : (k : Int) * ((new.length : Int) - (old.length : Int)) = ((k * new.length : Nat) : Int) - ((k * old.length : Nat) : Int) := by rw [Int.mul_sub]; push_cast; rfl
  rw [h2]
  omega
theorem cn_le (s old : L8) : cn s old ≤ s.length + 1 := by
  unfold cn
  split
  · exact Nat.le_refl _
  · exact Lib.count_le s old

/-- Cut k times at old, and joined by new: replaced k times. -/
theorem join_splitR (old new : L8) (hold : old ≠ []) : ∀ (k : Nat) (s : L8), ∃ x r, Lib.splitK old 0 k s = x :: r ∧ x ++ ja new (r.map tx) = Lib.replaceK old new k s
  | 0, s => ⟨s, [], rfl, by simp [ja, Lib.replaceK]⟩
  | k + 1, s => by
    unfold Lib.splitK
    rcases Lib.index_spec s old with ⟨h, _⟩ | ⟨i, h, hi, ho, _⟩
    · rw [if_pos (by simp [h])]
      refine ⟨s, [], rfl, ?_⟩
      unfold Lib.replaceK
      rw [if_pos (by simp [h])]
      simp [ja]
    · rw [if_neg (by rw [h]; simp), h]
      obtain ⟨y, r, e1, e2⟩ := join_splitR old new hold k (s.drop (i + old.length))
      refine ⟨s.take i, y :: r, by rw [← e1]; simp, ?_⟩
      rw [List.map_cons, ja, tx_data, e2, Lib.replaceK_hit old new k s i h, List.append_assoc]
theorem replaceK_self (old : L8) (hold : old ≠ []) (k : Nat) (s : L8) : Lib.replaceK old old k s = s := by
  obtain ⟨x, r, e1, e2⟩ := join_splitR old old hold k s
  obtain ⟨x', r', e3, e4⟩ := join_splitK old hold k s
  rw [e1] at e3
  cases e3
  rw [← e2, e4]
theorem cut_replace (s old : ByteArray) (new : L8) (h : 1 ≤ old.size) : jn new (cut s old) = Lib.replaceK old.data.toList new (Lib.count s.data.toList old.data.toList) s.data.toList := by
  obtain ⟨x, r, e1, e2⟩ := join_splitR old.data.toList new (sep_ne h) (Lib.count s.data.toList old.data.toList) s.data.toList
  have e3 := cut_data s old
  rw [e1] at e3
  have e4 : cut s old = tx x :: r.map tx := by rw [← map_tx (cut s old), e3]; rfl
  rw [e4, jn_cons, tx_data, e2]
theorem jn_ja (new : L8) (xs : List ByteArray) (h : xs ≠ []) : ja new xs = new ++ jn new xs := by
  cases xs with
  | nil => exact absurd rfl h
  | cons x r => rw [ja, jn_cons]
theorem splitK_ne (old : L8) (k : Nat) (s : L8) : Lib.splitK old 0 k s ≠ [] := by
  cases k with
  | zero => intro h; cases h
  | succ k => unfold Lib.splitK; split <;> (intro h; cases h)
/-- The first k replaced: the first k cuts joined by new, the rest by old. -/
theorem part_replace (old new : L8) (hold : old ≠ []) : ∀ (k : Nat) (s : L8), k ≤ Lib.count s old → ∀ P : List ByteArray, P = (Lib.splitK old 0 (Lib.count s old) s).map tx → k < P.length ∧
    Lib.replaceK old new k s = jn new (P.take (k + 1)) ++ (jn old (P.drop k)).drop (P.getD k ByteArray.empty).size
  | 0, s, _, P, hP => by
    obtain ⟨x, r, e1, e2⟩ := join_splitK old hold (Lib.count s old) s
    rw [e1, List.map_cons] at hP
    subst hP
    refine ⟨by simp, ?_⟩
    rw [List.drop_zero, jn_cons, tx_data, e2, List.take_succ_cons, List.take_zero, jn_cons, tx_data]
    have e : ((tx x :: r.map tx).getD 0 ByteArray.empty).size = x.length := tx_size x
    rw [e, ja, List.append_nil]
    show s = x ++ s.drop x.length
    conv => rhs; rw [← e2, List.drop_left, e2]
  | k + 1, s, h, P, hP => by
    obtain ⟨i, h1, h2, h3, h4⟩ := count_at hold h
    have hc := Lib.count_hit hold h1
    obtain ⟨l1, ih⟩ := part_replace old new hold k _ h3 ((Lib.splitK old 0 (Lib.count (s.drop (i + old.length)) old) (s.drop (i + old.length))).map tx) rfl
    have e : Lib.splitK old 0 (Lib.count s old) s = s.take i :: Lib.splitK old 0 (Lib.count (s.drop (i + old.length)) old) (s.drop (i + old.length)) := by
      rw [hc, Nat.add_comm, Lib.splitK, if_neg (by rw [h1]; simp), h1]
      simp
    have hne : (Lib.splitK old 0 (Lib.count (s.drop (i + old.length)) old) (s.drop (i + old.length))).map tx ≠ [] := by
      intro q
      exact splitK_ne _ _ _ (List.map_eq_nil_iff.1 q)
    rw [e, List.map_cons] at hP
    subst hP
    generalize (Lib.splitK old 0 (Lib.count (s.drop (i + old.length)) old) (s.drop (i + old.length))).map tx = Q at *
    refine ⟨by simpa using l1, ?_⟩
    rw [Lib.replaceK_hit old new k s i h1, ih, List.take_succ_cons, jn_cons, tx_data, List.drop_succ_cons, jn_ja new (Q.take (k + 1)) (by intro q; exact hne (by cases Q with
      | nil => rfl
      | cons a b => simp at q))]
    simp [List.append_assoc]
end Ch
end Go.Proofs.Ytgliefdefklfeaa
