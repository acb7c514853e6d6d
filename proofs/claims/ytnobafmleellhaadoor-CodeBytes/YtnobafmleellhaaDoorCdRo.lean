/-
  code's reader: doubles, in numbers.
-/
import Derived.Test.YtnobafmleellhaaDoorCdRn
import Derived.Test.YtnobafmleellhaaDoorCdRp
namespace Go.Proofs.YtnobafmleellhaaDoor
open Go Go.RowKit Go.Deep Go.Shelf

namespace Cd
theorem nbe_le (first i n : Nat) (c : UInt8) (B : Ch.L8) (s : Rd) : (nbe first i n c B s).1 ≤ 2147483647 := by
  by_cases h : (c.toNat = 0 ∧ 0 < i) ∨ 2147483647 < n
  · rw [nbe_yes h]; exact Nat.zero_le _
  · rw [nbe_no h]
    show (if s.f.isSome then 0 else n) ≤ _
    split <;> omega
theorem nbl_le (first : Nat) : ∀ (k i n : Nat) (B : Ch.L8) (s : Rd), (nbl first k i n B s).1 ≤ 2147483647
  | 0, _, _, _, _ => Nat.zero_le _
  | k + 1, i, n, B, s => by
    show ((if 128 ≤ (next B s).1.toNat then nbl first k (i + 1) (n + (next B s).1.toNat % 128 * 2 ^ (7 * i)) else nbe first i (n + (next B s).1.toNat % 128 * 2 ^ (7 * i)) (next B s).1) B (next B s).2).1 ≤ _
    split
    · exact nbl_le first k _ _ _ _
    · exact nbe_le _ _ _ _ _ _
theorem nb_le (B : Ch.L8) (s : Rd) : (nb B s).1 ≤ 2147483647 := nbl_le _ _ _ _ _ _
theorem take_len (n : Nat) (B : Ch.L8) (s : Rd) : (take n B s).1.length = n ∨ (take n B s).1.length = 0 := by
  unfold take
  split
  · exact .inr rfl
  · split
    · exact .inr rfl
    · left; rw [List.length_take, List.length_drop]; omega
theorem take_le (n : Nat) (B : Ch.L8) (s : Rd) : (take n B s).1.length ≤ B.length := by
  unfold take
  split
  · exact Nat.zero_le _
  · split
    · exact Nat.zero_le _
    · rw [List.length_take, List.length_drop]; omega
theorem le_lt : ∀ l : Ch.L8, le l < 256 ^ l.length
  | [] => by simp [le]
  | c :: l => by
    have := le_lt l
    have hc := c.toNat_lt
    rw [le, List.length_cons, Nat.pow_succ]
    have : le l + 1 ≤ 256 ^ l.length := this
    have h2 : 256 * (le l + 1) ≤ 256 * 256 ^ l.length := Nat.mul_le_mul_left _ this
    omega
theorem le_app (l : Ch.L8) (c : UInt8) : le (l ++ [c]) = le l + c.toNat * 256 ^ l.length := by
  induction l with
  | nil => simp [le]
  | cons a l ih =>
    rw [List.cons_append, le, ih, le, List.length_cons, Nat.pow_succ, Nat.mul_add]
    have : 256 * (c.toNat * 256 ^ l.length) = c.toNat * (256 ^ l.length * 256) := by rw [Nat.mul_comm 256, Nat.mul_assoc]
    omega
/-- The words when so many bytes are in. -/
def wp (L : Ch.L8) (N m : Nat) : List Int := wds N (L.take m)
theorem wp_len (L : Ch.L8) (N m : Nat) : (wp L N m).length = N := by simp [wp, wds]
theorem wp_zero (L : Ch.L8) (N : Nat) : wp L N 0 = List.replicate N 0 := by
  refine List.ext_getElem? fun i => ?_
  by_cases h : i < N
  · simp [wp, wds, h, wd, le]
  · simp [wp, wds, h]
theorem wp_all (L : Ch.L8) (N : Nat) : wp L N L.length = wds N L := by rw [wp, List.take_length]
theorem wp_step {L : Ch.L8} {N j r : Nat} {c : UInt8} (hr : r < 8) (hc : L[8 * j + r]? = some c) (hj : j < N) : wp L N (8 * j + r + 1) = (wp L N (8 * j + r)).set j ((wp L N (8 * j + r)).getD j 0 + c.toNat * 256 ^ r) ∧ 0 ≤ (wp L N (8 * j + r)).getD j 0 ∧ (wp L N (8 * j + r)).getD j 0 < 256 ^ r := by
  have hm : 8 * j + r < L.length := (List.getElem?_eq_some_iff.1 hc).1
  have e0 : (wp L N (8 * j + r)).getD j 0 = wd (L.take (8 * j + r)) j := by simp [wp, wds, hj]
  have tk : L.take (8 * j + r + 1) = L.take (8 * j + r) ++ [c] := by
    rw [List.take_add_one, hc]; rfl
  have ln : ((L.take (8 * j + r)).drop (8 * j)).length = r := by rw [List.length_drop, List.length_take]; omega
  have e1 : wd (L.take (8 * j + r)) j = (le ((L.take (8 * j + r)).drop (8 * j)) : Nat) := by
    unfold wd; rw [List.take_of_length_le (by omega)]
  have e2 : wd (L.take (8 * j + r + 1)) j = (le ((L.take (8 * j + r)).drop (8 * j)) : Nat) + c.toNat * 256 ^ r := by
    unfold wd
    rw [tk, List.drop_append_of_le_length (by rw [List.length_take]; omega), List.take_of_length_le (by rw [List.length_append, ln]; simp; omega), le_app, ln]
    simp
  refine ⟨?_, ?_, ?_⟩
  · refine List.ext_getElem? fun i => ?_
    rw [List.getElem?_set]
    by_cases hi : i < N
    · by_cases hij : j = i
      · subst hij
        rw [if_pos rfl, if_pos (by rw [wp_len]; exact hj), e0, e1, ← e2]
        simp [wp, wds, hj]
      · rw [if_neg hij]
        simp only [wp, wds, List.getElem?_map, List.getElem?_range hi, Option.map_some]
        congr 1
        unfold wd
        rw [tk]
        by_cases hlt : j < i
        · rw [List.drop_eq_nil_of_le (by rw [List.length_append, List.length_take]; simp; omega), List.drop_eq_nil_of_le (by rw [List.length_take]; omega)]
        · rw [List.drop_append_of_le_length (by rw [List.length_take]; omega), List.take_append_of_le_length (by rw [List.length_drop, List.length_take]; omega)]
    · rw [List.getElem?_eq_none (by rw [wp_len]; omega)]
      split
      · omega
      · rw [List.getElem?_eq_none (by rw [wp_len]; omega)]
  · rw [e0, e1]; omega
  · rw [e0, e1]
    have := le_lt ((L.take (8 * j + r)).drop (8 * j))
    rw [ln] at this
    have q : (((256 ^ r : Nat)) : Int) = (256 : Int) ^ r := by rw [Int.natCast_pow]; rfl
    rw [← q]
    exact Int.ofNat_lt.2 this
end Cd
end Go.Proofs.YtnobafmleellhaaDoor
