/-
  code's reader: what is written is read again.
-/
import Derived.Test.YtnobafmleellhaaDoorCdRa
namespace Go.Proofs.YtnobafmleellhaaDoor
open Go Go.RowKit Go.Deep Go.Shelf

namespace Cd
theorem reads_nbe {first i n : Nat} {c : UInt8} (h : ¬ ((c.toNat = 0 ∧ 0 < i) ∨ 2147483647 < n)) : Reads (nbe first i n c) [] n := by
  refine ⟨fun pre post => ?_, fun pre j hj => by simp at hj⟩
  unfold nbe
  simp only [if_neg h]
  simp
theorem reads_nbl (first : Nat) : ∀ (k i acc m : Nat), m < 128 ^ k → (i = 0 ∧ 0 < k ∨ m ≠ 0) → acc + m * 2 ^ (7 * i) ≤ 2147483647 → Reads (nbl first k i acc) (num m) (acc + m * 2 ^ (7 * i))
  | 0, i, acc, m, h, hi, hb => by
    rw [Nat.pow_zero] at h
    omega
  | k + 1, i, acc, m, h, hi, hb => by
    rw [nbl]
    by_cases c : m < 128
    · rw [num_lt c]
      have ht : (UInt8.ofNat m).toNat = m := by rw [UInt8.toNat_ofNat_of_lt' (by show m < 256; omega)]
      refine reads_bnd (F := []) (reads_next _) ?_ (fun x => ?_)
      · rw [if_neg (by rw [ht]; omega), ht, Nat.mod_eq_of_lt c]
        exact reads_nbe (by rw [ht]; rintro (z | z); omega; omega)
      · split
        · exact stuck_nbl _ _ _ _
        · exact stuck_nbe _ _ _ _
    · rw [num_ge c]
      have ht : (UInt8.ofNat (m % 128 + 128)).toNat = m % 128 + 128 := by rw [UInt8.toNat_ofNat_of_lt' (by show m % 128 + 128 < 256; omega)]
      have e : acc + m * 2 ^ (7 * i) = acc + m % 128 * 2 ^ (7 * i) + m / 128 * 2 ^ (7 * (i + 1)) := by
        rw [show 7 * (i + 1) = 7 * i + 7 by omega, Nat.pow_add, show (2 : Nat) ^ 7 = 128 from rfl]
        have q : m = m % 128 + 128 * (m / 128) := by omega
        generalize 2 ^ (7 * i) = P
        have q2 : m * P = m % 128 * P + 128 * (m / 128) * P := by rw [← Nat.add_mul, ← q]
        have q3 : m / 128 * (P * 128) = 128 * (m / 128) * P := by rw [Nat.mul_comm P 128, ← Nat.mul_assoc, Nat.mul_comm (m / 128) 128]
        rw [q2, q3, Nat.add_assoc]
      refine reads_bnd (E := [UInt8.ofNat (m % 128 + 128)]) (reads_next _) ?_ (fun x => ?_)
      · rw [if_pos (by rw [ht]; omega), ht, show (m % 128 + 128) % 128 = m % 128 by omega, e]
        rw [e] at hb
        exact reads_nbl first k (i + 1) _ (m / 128) (by rw [Nat.pow_succ] at h; omega) (.inr (by omega)) hb
      · split
        · exact stuck_nbl _ _ _ _
        · exact stuck_nbe _ _ _ _
theorem reads_nb {n : Nat} (h : n ≤ 2147483647) : Reads nb (num n) n := by
  have key : ∀ a, Reads (nbl a 5 0 0) (num n) n := fun a => by
    have := reads_nbl a 5 0 0 n (by omega) (.inl ⟨rfl, by omega⟩) (by simpa using h)
    simpa using this
  exact ⟨fun pre post => (key pre.length).ok pre post, fun pre j hj => (key pre.length).cut pre j hj⟩
theorem reads_take' {n : Nat} {E : Ch.L8} (h : E.length = n) : Reads (take n) E E := by rw [← h]; exact reads_take E
theorem dbl_len (x : Int) : (dbl x).length = 8 := rfl
theorem flat8_len (l : List Int) : (l.flatMap dbl).length = 8 * l.length := by
  induction l with
  | nil => rfl
  | cons a l ih => rw [List.flatMap_cons, List.length_append, ih, dbl_len, List.length_cons]; omega
theorem le_dbl {x : Int} (h0 : 0 ≤ x) (h1 : x < 18446744073709551616) : ((le (dbl x) : Nat) : Int) = x := by
  obtain ⟨n, rfl⟩ : ∃ n : Nat, x = (n : Int) := ⟨x.toNat, by omega⟩
  have b : ∀ k, (by8 (n : Int) k).toNat = n / 256 ^ k % 256 := fun k => by
    rw [by8, Int.toNat_natCast, UInt8.toNat_ofNat_of_lt' (by show _ < 256; exact Nat.mod_lt _ (by omega))]
  have st : ∀ k, n / 256 ^ (k + 1) = n / 256 ^ k / 256 := fun k => by rw [Nat.pow_succ, Nat.div_div_eq_div_mul]
  simp only [dbl, le, b, Nat.mul_zero, Nat.add_zero]
  have s0 : n / 256 ^ 1 = n / 256 ^ 0 / 256 := st 0
  have s1 : n / 256 ^ 2 = n / 256 ^ 1 / 256 := st 1
  have s2 : n / 256 ^ 3 = n / 256 ^ 2 / 256 := st 2
  have s3 : n / 256 ^ 4 = n / 256 ^ 3 / 256 := st 3
  have s4 : n / 256 ^ 5 = n / 256 ^ 4 / 256 := st 4
  have s5 : n / 256 ^ 6 = n / 256 ^ 5 / 256 := st 5
  have s6 : n / 256 ^ 7 = n / 256 ^ 6 / 256 := st 6
  have s7 : n / 256 ^ 8 = n / 256 ^ 7 / 256 := st 7
  have e8 : n / 256 ^ 8 = 0 := Nat.div_eq_of_lt (by omega)
  have e0 : n / 256 ^ 0 = n := by simp
  rw [e8] at s7
  rw [e0] at s0
  rw [e0]
  have t0 : n % 256 + 256 * (n / 256 ^ 1) = n := by rw [Nat.pow_one]; exact Nat.mod_add_div n 256
  clear s0
  generalize n / 256 ^ 1 = q1 at *
  generalize n / 256 ^ 2 = q2 at *
  generalize n / 256 ^ 3 = q3 at *
  generalize n / 256 ^ 4 = q4 at *
  generalize n / 256 ^ 5 = q5 at *
  generalize n / 256 ^ 6 = q6 at *
  generalize n / 256 ^ 7 = q7 at *
  clear b st e8 e0 h0 h1
  have t7 : q7 % 256 = q7 := by omega
  have t6 : q6 % 256 + 256 * q7 = q6 := by omega
  have t5 : q5 % 256 + 256 * q6 = q5 := by omega
  have t4 : q4 % 256 + 256 * q5 = q4 := by omega
  have t3 : q3 % 256 + 256 * q4 = q3 := by omega
  have t2 : q2 % 256 + 256 * q3 = q2 := by omega
  have t1 : q1 % 256 + 256 * q2 = q1 := by omega
  rw [t7, t6, t5, t4, t3, t2, t1, t0]
theorem wds_flat : ∀ {l : List Int}, U64 l → wds l.length (l.flatMap dbl) = l
  | [], _ => rfl
  | a :: l, h => by
    have ha := h a (List.mem_cons_self ..)
    have ih := wds_flat (l := l) (fun x hx => h x (List.mem_cons_of_mem _ hx))
    unfold wds at ih ⊢
    rw [List.length_cons, List.range_succ_eq_map, List.map_cons, List.map_map, List.flatMap_cons]
    refine congr (congrArg List.cons ?_) ?_
    · unfold wd
      rw [Nat.mul_zero, List.drop_zero, List.take_append_of_le_length (by rw [dbl_len]; omega), List.take_of_length_le (by rw [dbl_len]; omega)]
      exact le_dbl ha.1 ha.2
    · refine Eq.trans (List.map_congr_left fun j _ => ?_) ih
      simp only [Function.comp, wd]
      rw [List.drop_append, dbl_len, List.drop_eq_nil_of_le (by rw [dbl_len]; omega), List.nil_append, show 8 * Nat.succ j - 8 = 8 * j by omega]
theorem reads_dbs {l : List Int} (h : U64 l) (hl : l.length ≤ 2147483647) : Reads dbs (num l.length ++ l.flatMap dbl) l := by
  refine reads_bnd (reads_nb hl) ?_ (fun _ => stuck_bnd (stuck_take _) fun _ => stuck_ret _)
  have := reads_bnd (k := fun L => ret (wds (L.length / 8) L)) (F := []) (u := l) (reads_take' (n := 8 * l.length) (flat8_len l)) (by
    rw [flat8_len, Nat.mul_div_cancel_left _ (by omega), wds_flat h]
    exact reads_ret l) (fun _ => stuck_ret _)
  rwa [List.append_nil] at this
theorem reads_tx1 {s : ByteArray} (h : s.size ≤ 2147483647) : Reads tx1r (tx1 s) s := by
  refine reads_bnd (reads_nb h) ?_ (fun _ => stuck_bnd (stuck_take _) fun _ => stuck_ret _)
  have := reads_bnd (k := fun L => ret (⟨L.toArray⟩ : ByteArray)) (F := []) (u := s) (reads_take' (E := s.data.toList) (n := s.size) (by rfl)) (by
    have e : (⟨s.data.toList.toArray⟩ : ByteArray) = s := by cases s; rfl
    rw [e]
    exact reads_ret s) (fun _ => stuck_ret _)
  rwa [List.append_nil] at this
theorem reads_rep {α : Type} {r : Rdr α} {e : α → Ch.L8} (st : Stuck r) : ∀ {l : List α}, (∀ x ∈ l, Reads r (e x) x) → Reads (rep r l.length) (l.flatMap e) l
  | [], _ => reads_ret _
  | x :: l, h => by
    have ih := reads_rep st (l := l) fun y hy => h y (List.mem_cons_of_mem _ hy)
    have h2 : Reads (bnd r (fun x => bnd (rep r l.length) fun l => ret (x :: l))) (e x ++ l.flatMap e) (x :: l) := by
      refine reads_bnd (h x (List.mem_cons_self ..)) ?_ (fun _ => stuck_bnd (stuck_rep _) fun _ => stuck_ret _)
      have := reads_bnd (k := fun l => ret (x :: l)) (F := []) (u := x :: l) ih (reads_ret _) (fun _ => stuck_ret _)
      rwa [List.append_nil] at this
    rw [List.flatMap_cons]
    exact ⟨fun pre post => h2.ok pre post, fun pre j hj => h2.cut pre j hj⟩
theorem reads_txs {l : List ByteArray} (h : ∀ s ∈ l, s.size ≤ 2147483647) (hl : l.length ≤ 2147483647) : Reads txs (num l.length ++ l.flatMap tx1) l :=
  reads_bnd (reads_nb hl) (reads_rep stuck_tx1r fun s hs => reads_tx1 (h s hs)) fun _ => stuck_rep _
end Cd
end Go.Proofs.YtnobafmleellhaaDoor
