/-
  abacusref20's Replace: the places, and the text that they make.
-/
import Derived.Test.YtgliefdefklfeaaChRN
namespace Go.Proofs.Ytgliefdefklfeaa
open Go
namespace Ch

/-- How far the look goes on behind a place. -/
def fw (old : L8) : Nat := if old = [] then 1 else old.length
/-- The places from i on, at most k of them. -/
inductive Sc (l old : L8) : Nat → Nat → List Nat → Prop
  | stop {i k : Nat} : (l.length < i ∨ k = 0) → Sc l old i k []
  | hit {i k : Nat} {ps : List Nat} : i ≤ l.length → 0 < k → Lib.occAt l old i = true → Sc l old (i + fw old) (k - 1) ps → Sc l old i k (i :: ps)
  | miss {i k : Nat} {ps : List Nat} : i ≤ l.length → 0 < k → Lib.occAt l old i = false → Sc l old (i + 1) k ps → Sc l old i k ps
theorem fw_pos (old : L8) : 1 ≤ fw old := by
  unfold fw
  split
  · exact Nat.le_refl _
  · rename_i h
    exact List.length_pos_iff.2 h
theorem sc_ex (l old : L8) : ∀ (n i k : Nat), l.length + 1 - i ≤ n → ∃ ps, Sc l old i k ps
  | 0, i, k, h => ⟨[], .stop (.inl (by omega))⟩
  | n + 1, i, k, h => by
    by_cases h1 : l.length < i ∨ k = 0
    · exact ⟨[], .stop h1⟩
    · have h2 : i ≤ l.length := by omega
      have h3 : 0 < k := by omega
      have hf := fw_pos old
      cases ho : Lib.occAt l old i with
      | true =>
        obtain ⟨ps, hp⟩ := sc_ex l old n (i + fw old) (k - 1) (by omega)
        exact ⟨_, .hit h2 h3 ho hp⟩
      | false =>
        obtain ⟨ps, hp⟩ := sc_ex l old n (i + 1) k (by omega)
        exact ⟨_, .miss h2 h3 ho hp⟩
theorem Sc.stop' {l old : L8} {i k : Nat} {ps : List Nat} (h : Sc l old i k ps) (hs : l.length < i ∨ k = 0) : ps = [] := by
  cases h with
  | stop _ => rfl
  | hit h1 h2 _ _ => omega
  | miss h1 h2 _ _ => omega
theorem Sc.hit' {l old : L8} {i k : Nat} {ps : List Nat} (h : Sc l old i k ps) (h1 : i ≤ l.length) (h2 : 0 < k) (ho : Lib.occAt l old i = true) : ∃ r, ps = i :: r ∧ Sc l old (i + fw old) (k - 1) r := by
  cases h with
  | stop q => omega
  | hit _ _ _ r => exact ⟨_, rfl, r⟩
  | miss _ _ q _ => rw [ho] at q; cases q
theorem Sc.miss' {l old : L8} {i k : Nat} {ps : List Nat} (h : Sc l old i k ps) (h1 : i ≤ l.length) (h2 : 0 < k) (ho : Lib.occAt l old i = false) : Sc l old (i + 1) k ps := by
  cases h with
  | stop q => omega
  | hit _ _ q _ => rw [ho] at q; cases q
  | miss _ _ _ r => exact r
/-- The text from a on that the places make. -/
def tb (l new : L8) (ol : Nat) : Nat → List Nat → L8
  | a, [] => l.drop a
  | a, p :: r => (l.drop a).take (p - a) ++ new ++ tb l new ol (p + ol) r
/-- The places lie in the text, one behind the other. -/
def okp (n ol : Nat) : Nat → List Nat → Prop
  | a, [] => a ≤ n
  | a, p :: r => a ≤ p ∧ p + ol ≤ n ∧ okp n ol (p + ol) r
theorem sc_ne {l old : L8} (hold : old ≠ []) (new : L8) {i k : Nat} {ps : List Nat} (h : Sc l old i k ps) : ∀ a, a ≤ i → a ≤ l.length → Lib.NoOcc (l.drop a) old (i - a) →
    tb l new old.length a ps = rk old new (min k (cn (l.drop a) old)) (l.drop a) ∧ ps.length = min k (cn (l.drop a) old) ∧ okp l.length old.length a ps := by
  induction h with
  | @stop i k q =>
    intro a h1 h2 h3
    have e : min k (cn (l.drop a) old) = 0 := by
      rcases q with q | q
      · rw [cn, if_neg hold, Lib.count_miss (Lib.index_past hold h3 (by rw [List.length_drop]; have := List.length_pos_iff.2 hold; omega))]
        omega
      · rw [q]; omega
    rw [e]
    refine ⟨?_, rfl, h2⟩
    rw [tb, rk, if_neg hold]
    rfl
  | @hit i k ps q1 q2 ho _ ih =>
    intro a h1 h2 h3
    have hr := occ_room hold ho
    have ho' : Lib.occAt (l.drop a) old (i - a) = true := by
      unfold Lib.occAt at ho ⊢
      rw [List.drop_drop, show a + (i - a) = i by omega]
      exact ho
    have hx : Lib.index (l.drop a) old = ((i - a : Nat) : Int) := Lib.index_hit h3 (by rw [List.length_drop]; omega) ho'
    have hf : fw old = old.length := by rw [fw, if_neg hold]
    rw [hf] at ih
    obtain ⟨g1, g2, g3⟩ := ih (i + old.length) (Nat.le_refl _) hr (by rw [Nat.sub_self]; exact Lib.NoOcc.zero _ _)
    have hc : cn (l.drop a) old = 1 + cn (l.drop (i + old.length)) old := by
      rw [cn, if_neg hold, cn, if_neg hold, Lib.count_hit hold hx, List.drop_drop, show a + (i - a + old.length) = i + old.length by omega]
    have hm : min k (cn (l.drop a) old) = min (k - 1) (cn (l.drop (i + old.length)) old) + 1 := by rw [hc]; omega
    refine ⟨?_, ?_, h1, hr, g3⟩
    · rw [tb, g1, hm, rk, if_neg hold, rk, if_neg hold, Lib.replaceK_hit old new _ _ _ hx, List.drop_drop, show a + (i - a + old.length) = i + old.length by omega]
    · rw [List.length_cons, g2, hm]
  | @miss i k ps q1 q2 ho _ ih =>
    intro a h1 h2 h3
    have ho' : Lib.occAt (l.drop a) old (i - a) = false := by
      unfold Lib.occAt at ho ⊢
      rw [List.drop_drop, show a + (i - a) = i by omega]
      exact ho
    exact ih a (by omega) h2 (by rw [show i + 1 - a = (i - a) + 1 by omega]; exact h3.succ ho')
theorem sc_e {l : L8} (new : L8) {i k : Nat} {ps : List Nat} (h : Sc l [] i k ps) : ∀ a, a ≤ i → i ≤ a + 1 → a ≤ l.length → i ≤ l.length + 1 →
    tb l new 0 a ps = (l.drop a).take (i - a) ++ rk [] new (min k (l.length + 1 - i)) (l.drop i) ∧ ps.length = min k (l.length + 1 - i) ∧ okp l.length 0 a ps := by
  induction h with
  | @stop i k q =>
    intro a h1 h2 h3 h4
    have e : min k (l.length + 1 - i) = 0 := by omega
    rw [e]
    refine ⟨?_, rfl, h3⟩
    rw [tb, rk, if_pos rfl, rz]
    conv => lhs; rw [← List.take_append_drop (i - a) (l.drop a), List.drop_drop, show a + (i - a) = i by omega]
  | @hit i k ps q1 q2 ho _ ih =>
    intro a h1 h2 h3 h4
    have hf : fw [] = 1 := rfl
    rw [hf] at ih
    obtain ⟨g1, g2, g3⟩ := ih i (by omega) (Nat.le_refl _) q1 (by omega)
    have hm : min k (l.length + 1 - i) = min (k - 1) (l.length + 1 - (i + 1)) + 1 := by omega
    refine ⟨?_, by rw [List.length_cons, g2, hm], h1, q1, g3⟩
    rw [tb, Nat.add_zero, g1, hm, Nat.add_sub_cancel_left, List.append_assoc]
    congr 1
    rcases Nat.lt_or_ge i l.length with hi | hi
    · rw [List.drop_eq_getElem_cons hi]
      simp only [rk, if_true, rz, List.take_succ_cons, List.take_zero]
      rfl
    · rw [List.drop_eq_nil_of_le hi, List.drop_eq_nil_of_le (show l.length ≤ i + 1 by omega), show min (k - 1) (l.length + 1 - (i + 1)) = 0 by omega]
      simp [rk, rz]
  | miss q1 q2 ho _ ih =>
    exfalso
    unfold Lib.occAt at ho
    simp at ho
/-- How many places are looked for. -/
def bud (l : L8) (most : Int) : Nat := if most < 0 then l.length + 2 else most.toNat
theorem sc_all {l old : L8} (new : L8) {most : Int} {ps : List Nat} (h : Sc l old 0 (bud l most) ps) : tb l new old.length 0 ps = rk old new (rn l old most) l ∧ ps.length = rn l old most ∧ okp l.length old.length 0 ps := by
  have hb : min (bud l most) (cn l old) = rn l old most := by
    have := cn_le l old
    unfold bud rn
    split <;> omega
  by_cases h0 : old = []
  · subst h0
    obtain ⟨g1, g2, g3⟩ := sc_e new h 0 (Nat.le_refl _) (by omega) (Nat.zero_le _) (by omega)
    have e : l.length + 1 - 0 = cn l [] := by rw [cn, if_pos rfl]; rfl
    rw [e, hb] at g1 g2
    exact ⟨by simpa using g1, g2, g3⟩
  · obtain ⟨g1, g2, g3⟩ := sc_ne h0 new h 0 (Nat.le_refl _) (Nat.zero_le _) (by rw [Nat.sub_self]; exact Lib.NoOcc.zero _ _)
    rw [List.drop_zero, hb] at g1 g2
    exact ⟨g1, g2, g3⟩
theorem sc_len {l old : L8} {i k : Nat} {ps : List Nat} (h : Sc l old i k ps) : ps.length ≤ l.length + 1 - i := by
  induction h with
  | stop _ => exact Nat.zero_le _
  | hit h1 _ _ _ ih => have := fw_pos old; rw [List.length_cons]; omega
  | miss h1 _ _ _ ih => omega
end Ch
end Go.Proofs.Ytgliefdefklfeaa
