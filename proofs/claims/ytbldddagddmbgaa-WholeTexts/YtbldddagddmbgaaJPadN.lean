/-
  WHAT Pad, Char AND Text RENDER, as lists of bytes.
-/
import Derived.Test.YtbldddagddmbgaaVStr
namespace Go.Proofs.Ytbldddagddmbgaa
open Go.RowKit Go.Deep
namespace Wh

/-- The error of a raw directive, its verb left out. -/
def chk (F W P : Int) : Int := if F < 0 ∨ 31 < F ∨ W < 0 ∨ P < -1 then 1 else if 4096 < W ∨ 4096 < P then 6 else 0
theorem chk_ok {F W P : Int} (h : chk F W P = 0) : (0 ≤ F ∧ F ≤ 31) ∧ (0 ≤ W ∧ W ≤ 4096) ∧ (-1 ≤ P ∧ P ≤ 4096) := by
  unfold chk at h
  split at h
  · omega
  · split at h
    · omega
    · omega
theorem chk_of {F W P : Int} (h : (0 ≤ F ∧ F ≤ 31) ∧ (0 ≤ W ∧ W ≤ 4096) ∧ (-1 ≤ P ∧ P ≤ 4096)) : chk F W P = 0 := by
  unfold chk
  rw [if_neg (by omega), if_neg (by omega)]
theorem chk_three (F W P : Int) : chk F W P = 0 ∨ chk F W P = 1 ∨ chk F W P = 6 := by
  unfold chk
  split
  · omega
  · split <;> omega

/-- A flag of a sum of flags. -/
def bit (F k : Int) : Bool := decide (F / k % 2 = 1)
/-- n times the byte c. -/
def rep (c n : Int) : List Int := List.replicate n.toNat c
theorem rep_len (c n : Int) : (rep c n).length = n.toNat := List.length_replicate
theorem rep_neg {c n : Int} (h : n ≤ 0) : rep c n = [] := by
  rw [rep, show n.toNat = 0 by omega]; rfl
theorem rep_by {c n x : Int} (h0 : 0 ≤ c ∧ c < 256) (h : x ∈ rep c n) : 0 ≤ x ∧ x < 256 := by
  rw [rep, List.mem_replicate] at h
  rw [h.2]; exact h0

/-- A text's bytes. -/
def By (xs : List Int) : Prop := ∀ x ∈ xs, 0 ≤ x ∧ x < 256
theorem By.nil : By [] := by intro x h; simp at h
theorem By.app {a b : List Int} (h : By a) (k : By b) : By (a ++ b) := by
  intro x hx
  rcases List.mem_append.1 hx with q | q
  · exact h x q
  · exact k x q
theorem By.rep {c n : Int} (h0 : 0 ≤ c ∧ c < 256) : By (rep c n) := fun _ h => rep_by h0 h
theorem By.take {a : List Int} (h : By a) (k : Nat) : By (a.take k) := fun x hx => h x (List.mem_of_mem_take hx)
theorem By.cons {c : Int} {a : List Int} (h0 : 0 ≤ c ∧ c < 256) (h : By a) : By (c :: a) := by
  intro x hx
  rcases List.mem_cons.1 hx with q | q
  · rw [q]; exact h0
  · exact h x q

/-- Head and body brought to the width. -/
def padT (F W : Int) (z : Bool) (h b : List Int) : List Int :=
  if bit F 1 = true then h ++ b ++ rep 32 (W - h.length - b.length)
  else if bit F 16 = true ∧ z = true then h ++ rep 48 (W - h.length - b.length) ++ b
  else rep 32 (W - h.length - b.length) ++ h ++ b
def padE (F W P : Int) (h b : List Int) : Int := if chk F W P = 0 then (if 16777216 < h.length + b.length then 3 else 0) else chk F W P
def pad (F W P : Int) (z : Bool) (h b : List Int) : List Int := if padE F W P h b = 0 then padT F W z h b else []
theorem padT_by {F W : Int} {z : Bool} {h b : List Int} (hh : By h) (hb : By b) : By (padT F W z h b) := by
  unfold padT
  split
  · exact (hh.app hb).app (By.rep (by omega))
  · split
    · exact (hh.app (By.rep (by omega))).app hb
    · exact ((By.rep (by omega)).app hh).app hb
theorem padT_zero (F : Int) (z : Bool) (h b : List Int) : padT F 0 z h b = h ++ b := by
  have e : ∀ c, rep c (0 - (h.length : Int) - (b.length : Int)) = [] := fun c => rep_neg (by omega)
  unfold padT
  rw [e, e]
  split
  · simp
  · split <;> simp
theorem padT_len (F W : Int) (z : Bool) (h b : List Int) : (padT F W z h b).length = h.length + b.length + (W - h.length - b.length).toNat := by
  unfold padT
  split
  · simp [rep_len] <;> omega
  · split <;> simp [rep_len] <;> omega

/-- Char, Text. -/
def chrE (V F W P : Int) : Int := if V = 99 then chk F W P else 140
def chr (V F W P : Int) (t : List Int) : List Int := if chrE V F W P = 0 then padT F W false [] (t.take 1) else []
def cut (P : Int) (t : List Int) : List Int := if P = -1 then t else t.take P.toNat
def texE (V F W P : Int) (t : List Int) : Int := if V = 115 then padE F W P [] (cut P t) else 140
def tex (V F W P : Int) (t : List Int) : List Int := if texE V F W P t = 0 then padT F W false [] (cut P t) else []
end Wh
end Go.Proofs.Ytbldddagddmbgaa
