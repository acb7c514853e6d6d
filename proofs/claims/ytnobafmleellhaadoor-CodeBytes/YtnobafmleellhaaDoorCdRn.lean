/-
  code's reader: instructions, and all of it.
-/
import Derived.Test.YtnobafmleellhaaDoorCdRm
namespace Go.Proofs.YtnobafmleellhaaDoor
open Go Go.RowKit Go.Deep Go.Shelf

namespace Cd
/-- An instruction that can be read back. -/
structure Rdb (x : In) : Prop where
  w : 1 ≤ x.w ∧ x.w ≤ 33
  a : 0 ≤ x.a ∧ x.a ≤ 2147483647 ∧ ((rx x).a = 0 → x.a = 0)
  b : 0 ≤ x.b ∧ x.b ≤ 2147483647 ∧ ((rx x).b = 0 → x.b = 0)
theorem reads_fld {b : Bool} {n : Nat} (h : n ≤ 2147483647) (h0 : b = false → n = 0) : Reads (fld b) (if b then num n else []) n := by
  cases b with
  | true => exact reads_nb h
  | false => rw [h0 rfl]; exact reads_ret 0
theorem op1_eq (x : In) : op1 x = UInt8.ofNat x.w.toNat :: ((if decide ((row x.w.toNat).a ≠ 0) then num x.a.toNat else []) ++ (if decide ((row x.w.toNat).b ≠ 0) then num x.b.toNat else [])) := by
  unfold op1 fs rx
  by_cases h1 : (row x.w.toNat).a = 0 <;> by_cases h2 : (row x.w.toNat).b = 0 <;> simp [h1, h2, nf]
theorem reads_in1 {x : In} (h : Rdb x) : Reads in1 (op1 x) x := by
  have hw := h.w
  have ht : (UInt8.ofNat x.w.toNat).toNat = x.w.toNat := by rw [UInt8.toNat_ofNat_of_lt' (by show x.w.toNat < 256; omega)]
  have key : ∀ a : Nat, Reads (bnd next (fun c => if 1 ≤ c.toNat ∧ c.toNat ≤ 33 then bnd (fld (decide ((row c.toNat).a ≠ 0))) fun a => bnd (fld (decide ((row c.toNat).b ≠ 0))) fun b => ret (⟨c.toNat, a, b⟩ : In)
    else fun _ s' => ((⟨0, 0, 0⟩ : In), rf s' a))) (op1 x) x := fun a => by
    rw [op1_eq]
    refine reads_bnd (E := [UInt8.ofNat x.w.toNat]) (reads_next _) ?_ (fun c => ?_)
    · rw [ht, if_pos (by omega)]
      have e : x = ⟨((x.w.toNat : Nat) : Int), ((x.a.toNat : Nat) : Int), ((x.b.toNat : Nat) : Int)⟩ := by
        have ha := h.a.1
        have hb := h.b.1
        obtain ⟨p, q, r⟩ := x
        simp only at *
        congr 1 <;> omega
      refine reads_bnd (reads_fld (n := x.a.toNat) (by have := h.a; omega) (fun z => by
        have := h.a.2.2 (by unfold rx; exact Decidable.not_not.1 (of_decide_eq_false z))
        omega)) ?_ (fun _ => stuck_bnd (stuck_fld _) fun _ => stuck_ret _)
      have := reads_bnd (k := fun b : Nat => ret (⟨((x.w.toNat : Nat) : Int), ((x.a.toNat : Nat) : Int), (b : Int)⟩ : In)) (F := []) (u := x) (reads_fld (b := decide ((row x.w.toNat).b ≠ 0)) (n := x.b.toNat) (by have := h.b; omega) (fun z => by
        have := h.b.2.2 (by unfold rx; exact Decidable.not_not.1 (of_decide_eq_false z))
        omega)) (by rw [← e]; exact reads_ret x) (fun _ => stuck_ret _)
      rwa [List.append_nil] at this
    · split
      · exact stuck_bnd (stuck_fld _) fun _ => stuck_bnd (stuck_fld _) fun _ => stuck_ret _
      · exact fun _ s' hs' => rf_stuck hs'
  exact ⟨fun pre post => (key pre.length).ok pre post, fun pre j hj => (key pre.length).cut pre j hj⟩
theorem reads_ins {l : List In} (h : ∀ x ∈ l, Rdb x) (hl : l.length ≤ 2147483647) : Reads ins (num l.length ++ l.flatMap op1) l :=
  reads_bnd (reads_nb hl) (reads_rep stuck_in1 fun x hx => reads_in1 (h x hx)) fun _ => stuck_rep _
/-- All of it, without the last test. -/
def dcd0 : Rdr (List Int × List ByteArray × List In) := bnd mark fun _ => bnd dbs fun d => bnd txs fun t => bnd ins fun o => ret (d, t, o)
theorem reads_dcd {l : List In} {nums : List Int} {strs : List ByteArray} (h1 : ∀ x ∈ l, Rdb x) (h2 : U64 nums) (h3 : ∀ s ∈ strs, s.size ≤ 2147483647) (n1 : l.length ≤ 2147483647) (n2 : nums.length ≤ 2147483647) (n3 : strs.length ≤ 2147483647) : Reads dcd0 (enc l nums strs) (nums, strs, l) := by
  have e : enc l nums strs = [65, 66, 67, 49] ++ ((num nums.length ++ nums.flatMap dbl) ++ ((num strs.length ++ strs.flatMap tx1) ++ ((num l.length ++ l.flatMap op1) ++ []))) := by
    unfold enc; simp only [List.append_assoc, List.append_nil]
  rw [e]
  refine reads_bnd reads_mark (reads_bnd (reads_dbs h2 n2) (reads_bnd (reads_txs h3 n3) (reads_bnd (reads_ins h1 n1) (reads_ret _) fun _ => stuck_ret _) fun _ => ?_) fun _ => ?_) fun _ => ?_
  · exact stuck_bnd stuck_ins fun _ => stuck_ret _
  · exact stuck_bnd stuck_txs fun _ => stuck_bnd stuck_ins fun _ => stuck_ret _
  · exact stuck_bnd stuck_dbs fun _ => stuck_bnd stuck_txs fun _ => stuck_bnd stuck_ins fun _ => stuck_ret _
/-- A code that is taken and whose bytes are few can be read back. -/
theorem hd0 {x : Int} (h : hd 0 x = true) : x = 0 := by
  unfold hd at h
  simp at h
  exact h
theorem rt_rdb {n N S i : Nat} {x : In} (h : rt n N S i x = true) (hn : n ≤ 2147483647) (hN : N ≤ 2147483647) (hS : S ≤ 2147483647) : Rdb x := by
  obtain ⟨h1, h2, h3, h4⟩ := rt_ok h
  obtain ⟨w1, w2, f⟩ := ok_ft h1
  have rb := row_b x.w.toNat
  have rg := rx_rng x
  unfold RwR at rg
  unfold ft at f
  refine ⟨⟨w1, w2⟩, ?_, ?_⟩
  · by_cases h10 : (rx x).a = 10
    · rw [if_pos h10] at f
      have := args_rng (of_decide_eq_true f)
      exact ⟨by omega, by omega, fun z => by omega⟩
    · rw [if_neg h10, Bool.and_eq_true] at f
      obtain ⟨a0, a1⟩ := hd_rng f.1
      refine ⟨a0, ?_, fun z => hd0 (by rw [z] at f; exact f.1)⟩
      rcases a1 with (a1 | a1 | a1) | a1
      · have := h3 a1; omega
      · have := h4 a1; omega
      · have := h2 a1; omega
      · omega
  · by_cases h10 : (rx x).a = 10
    · rw [if_pos h10] at f
      have := args_rng (of_decide_eq_true f)
      have hb := (rg.2.2.2.2.2.2.2.2.1 h10).1
      exact ⟨by omega, by omega, fun z => by omega⟩
    · rw [if_neg h10, Bool.and_eq_true] at f
      obtain ⟨b0, b1⟩ := hd_rng f.2
      have : (rx x).b ≠ 1 ∧ (rx x).b ≠ 2 ∧ (rx x).b ≠ 3 := rb
      exact ⟨b0, by omega, fun z => hd0 (by rw [z] at f; exact f.2)⟩
theorem num_pos (n : Nat) : 1 ≤ (num n).length := by
  rw [num]
  split
  · exact Nat.le_refl _
  · rw [List.length_cons]; omega
theorem flat_ge {α : Type} {f : α → Ch.L8} (h : ∀ x, 1 ≤ (f x).length) : ∀ l : List α, l.length ≤ (l.flatMap f).length
  | [] => Nat.zero_le _
  | a :: l => by
    have := flat_ge h l
    have ha := h a
    rw [List.flatMap_cons, List.length_append, List.length_cons]; omega
theorem flat_mem {α : Type} {f : α → Ch.L8} : ∀ {l : List α} {x : α}, x ∈ l → (f x).length ≤ (l.flatMap f).length
  | a :: l, x, h => by
    rw [List.flatMap_cons, List.length_append]
    rcases List.mem_cons.1 h with rfl | h
    · omega
    · have := flat_mem (f := f) h; omega
theorem enc_len (l : List In) (nums : List Int) (strs : List ByteArray) : l.length ≤ (enc l nums strs).length ∧ nums.length ≤ (enc l nums strs).length ∧ strs.length ≤ (enc l nums strs).length ∧ (∀ s ∈ strs, s.size ≤ (enc l nums strs).length) ∧ 4 ≤ (enc l nums strs).length := by
  have e1 := flat_ge (f := op1) (fun x => by rw [op1, List.length_cons]; omega) l
  have e2 := flat8_len nums
  have e3 := flat_ge (f := tx1) (fun x => by rw [tx1, List.length_append]; have := num_pos x.size; omega) strs
  have e4 : ∀ s ∈ strs, s.size ≤ (strs.flatMap tx1).length := fun s hs => by
    have := flat_mem (f := tx1) hs
    rw [tx1, List.length_append] at this
    have q : s.data.toList.length = s.size := by rw [Array.length_toList]; rfl
    omega
  unfold enc
  simp only [List.length_append, List.length_cons, List.length_nil]
  refine ⟨by omega, by omega, by omega, fun s hs => ?_, by omega⟩
  have := e4 s hs
  omega
theorem reads_taken {l : List In} {nums : List Int} {strs : List ByteArray} (h : (chk l nums.length strs.length).2.2 = 0) (hU : U64 nums) (hE : (enc l nums strs).length ≤ 16777216) : Reads dcd0 (enc l nums strs) (nums, strs, l) := by
  obtain ⟨l1, l2, l3, l4, _⟩ := enc_len l nums strs
  rcases chk_err l nums.length strs.length with ⟨_, hx⟩ | h2
  · exact reads_dcd (fun x hx' => by
      obtain ⟨i, hi⟩ := hx x hx'
      exact rt_rdb hi (by omega) (by omega) (by omega)) hU (fun s hs => by have := l4 s hs; omega) (by omega) (by omega) (by omega)
  · rw [h] at h2; cases h2
end Cd
end Go.Proofs.YtnobafmleellhaaDoor
