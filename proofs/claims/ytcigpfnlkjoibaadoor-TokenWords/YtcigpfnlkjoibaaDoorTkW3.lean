/-
  token: Word. abacusref23: Word.
-/
import Derived.Test.YtcigpfnlkjoibaaDoorTkW2
namespace Go.Proofs.YtcigpfnlkjoibaaDoor
open Go Go.RowKit Go.Deep Go.Shelf

namespace Tk
theorem ne_lst {s : ByteArray} (l : List UInt8) (h : ¬ s = ⟨l.toArray⟩) : (s.toList == l) = false := by
  rw [beq_eq_false_iff_ne]
  intro c
  apply h
  rw [ByteArray.toList_eq] at c
  rw [← Ch.tx_self s, c]
  rfl
def kp (s : ByteArray) : Nat := pos s keys 1
theorem pos_mem {s : ByteArray} : ∀ {l : List ByteArray} {k : Nat}, pos s l (k + 1) ≠ 0 → s ∈ l
  | [], _, h => absurd rfl h
  | x :: r, k, h => by
    rw [pos] at h
    by_cases e : x = s
    · rw [e]; exact List.mem_cons_self
    · rw [if_neg e] at h
      exact List.mem_cons_of_mem _ (pos_mem h)
theorem pos_zero {s : ByteArray} : ∀ {l : List ByteArray} {k : Nat}, pos s l (k + 1) = 0 → ∀ x ∈ l, ¬ s = x
  | [], _, _, _, hx => by cases hx
  | y :: r, k, h, x, hx => by
    rw [pos] at h
    by_cases e : y = s
    · rw [if_pos e] at h; omega
    · rw [if_neg e] at h
      rcases List.mem_cons.1 hx with rfl | hx
      · exact fun c => e c.symm
      · exact pos_zero h x hx
/-- What is no name. -/
def bad (xs : List Int) : Bool := decide (xs.length = 0) || dg (xs.getD 0 0) || decide (run xs < xs.length)
def wd (s : ByteArray) (xs : List Int) : Int := if bad xs = true then 0 else if kp s ≠ 0 then 5 else if fn s ≠ 0 then 4 else 3
theorem bad_nr {xs : List Int} (h : xs.length ≠ 0) : (nr xs = xs.length) ↔ bad xs = false := by
  have hr := run_le xs
  have h0 : 0 < xs.length := Nat.pos_of_ne_zero h
  cases hl : lt (xs.getD 0 0) with
  | true =>
    have hd : dg (xs.getD 0 0) = false := by
      simp only [lt, decide_eq_true_eq] at hl
      exact decide_eq_false (by omega)
    rw [nr, if_pos hl, bad, hd, decide_eq_false h]
    simp only [Bool.false_or, decide_eq_false_iff_not]
    omega
  | false =>
    rw [nr, if_neg (by rw [hl]; decide), bad, decide_eq_false h]
    cases hd : dg (xs.getD 0 0) with
    | true => exact ⟨fun c => absurd c.symm h, fun c => by simp at c⟩
    | false =>
      have e : run xs = 0 := by
        have := run_no (xs := xs) (k := 0) h0 (by rw [nm, hl, hd]; rfl)
        rwa [List.drop_zero] at this
      rw [e, decide_eq_true h0]
      exact ⟨fun c => absurd c.symm h, fun c => by simp at c⟩

theorem key_cases {s : ByteArray} (h : kp s ≠ 0) : s = ⟨#[66, 69, 71, 73, 78]⟩ ∨ s = ⟨#[69, 78, 68]⟩ ∨ s = ⟨#[105, 102]⟩ ∨ s = ⟨#[101, 108, 115, 101]⟩ ∨ s = ⟨#[119, 104, 105, 108, 101]⟩ ∨ s = ⟨#[102, 111, 114]⟩ ∨ s = ⟨#[105, 110]⟩ ∨ s = ⟨#[98, 114, 101, 97, 107]⟩ ∨ s = ⟨#[99, 111, 110, 116, 105, 110, 117, 101]⟩ ∨ s = ⟨#[110, 101, 120, 116]⟩ ∨ s = ⟨#[101, 120, 105, 116]⟩ ∨ s = ⟨#[112, 114, 105, 110, 116]⟩ ∨ s = ⟨#[112, 114, 105, 110, 116, 102]⟩ ∨ s = ⟨#[100, 101, 108, 101, 116, 101]⟩ := by
  have := pos_mem h
  simpa only [keys, List.mem_cons, List.not_mem_nil, or_false] using this
theorem key_none {s : ByteArray} (h : kp s = 0) : (s.toList == [66, 69, 71, 73, 78]) = false ∧ (s.toList == [69, 78, 68]) = false ∧ (s.toList == [105, 102]) = false ∧ (s.toList == [101, 108, 115, 101]) = false ∧ (s.toList == [119, 104, 105, 108, 101]) = false ∧ (s.toList == [102, 111, 114]) = false ∧ (s.toList == [105, 110]) = false ∧ (s.toList == [98, 114, 101, 97, 107]) = false ∧ (s.toList == [99, 111, 110, 116, 105, 110, 117, 101]) = false ∧ (s.toList == [110, 101, 120, 116]) = false ∧ (s.toList == [101, 120, 105, 116]) = false ∧ (s.toList == [112, 114, 105, 110, 116]) = false ∧ (s.toList == [112, 114, 105, 110, 116, 102]) = false ∧ (s.toList == [100, 101, 108, 101, 116, 101]) = false := by
  have q := pos_zero h
  exact ⟨ne_lst [66, 69, 71, 73, 78] (q _ (by simp [keys])), ne_lst [69, 78, 68] (q _ (by simp [keys])), ne_lst [105, 102] (q _ (by simp [keys])), ne_lst [101, 108, 115, 101] (q _ (by simp [keys])), ne_lst [119, 104, 105, 108, 101] (q _ (by simp [keys])), ne_lst [102, 111, 114] (q _ (by simp [keys])), ne_lst [105, 110] (q _ (by simp [keys])), ne_lst [98, 114, 101, 97, 107] (q _ (by simp [keys])), ne_lst [99, 111, 110, 116, 105, 110, 117, 101] (q _ (by simp [keys])), ne_lst [110, 101, 120, 116] (q _ (by simp [keys])), ne_lst [101, 120, 105, 116] (q _ (by simp [keys])), ne_lst [112, 114, 105, 110, 116] (q _ (by simp [keys])), ne_lst [112, 114, 105, 110, 116, 102] (q _ (by simp [keys])), ne_lst [100, 101, 108, 101, 116, 101] (q _ (by simp [keys]))⟩
theorem fn_kp {s : ByteArray} (h : fn s ≠ 0) : kp s = 0 := by
  have := pos_mem h
  simp only [funcs, List.mem_cons, List.not_mem_nil, or_false] at this
  rcases this with rfl | rfl | rfl | rfl | rfl | rfl | rfl | rfl | rfl | rfl | rfl | rfl | rfl <;> decide +kernel
end Tk

set_option maxRecDepth 100000 in
theorem tword_k0 (w : World) :
    Calls Tryd.prog 5 #[.string ⟨#[66, 69, 71, 73, 78]⟩] w fun e w' => e = .returned (.int .i64 5) ∧ w' = w := by
  have D : Hid (Calls Tryd.prog 8 #[.int .u8 66] w fun e w' => e = .returned (.bool false) ∧ w' = w) := tdigit_any 66 w (by decide) (by decide)
  have P : Hid (Calls Tryd.prog 9 #[.string ⟨#[66, 69, 71, 73, 78]⟩, .int .i64 0] w fun e w' => e = .returned (.int .i64 5) ∧ w' = w) := tpast_any ⟨#[66, 69, 71, 73, 78]⟩ [66, 69, 71, 73, 78] rfl 0 w (Nat.zero_le _) (by decide)
  go_enter Tryd.func5, Tryd.ntmps5
  go_wp2_with fail
  refine D.out.mono ?_
  rintro e w2 ⟨rfl, hw2⟩
  rw [hw2]
  go_wp2_with fail
  refine P.out.mono ?_
  rintro e w3 ⟨rfl, hw3⟩
  rw [hw3]
  go_wp2_with fail
  go_ret
  exact ⟨rfl, rfl⟩
set_option maxRecDepth 100000 in
theorem tword_k1 (w : World) :
    Calls Tryd.prog 5 #[.string ⟨#[69, 78, 68]⟩] w fun e w' => e = .returned (.int .i64 5) ∧ w' = w := by
  have D : Hid (Calls Tryd.prog 8 #[.int .u8 69] w fun e w' => e = .returned (.bool false) ∧ w' = w) := tdigit_any 69 w (by decide) (by decide)
  have P : Hid (Calls Tryd.prog 9 #[.string ⟨#[69, 78, 68]⟩, .int .i64 0] w fun e w' => e = .returned (.int .i64 3) ∧ w' = w) := tpast_any ⟨#[69, 78, 68]⟩ [69, 78, 68] rfl 0 w (Nat.zero_le _) (by decide)
  go_enter Tryd.func5, Tryd.ntmps5
  go_wp2_with fail
  refine D.out.mono ?_
  rintro e w2 ⟨rfl, hw2⟩
  rw [hw2]
  go_wp2_with fail
  refine P.out.mono ?_
  rintro e w3 ⟨rfl, hw3⟩
  rw [hw3]
  go_wp2_with fail
  go_ret
  exact ⟨rfl, rfl⟩
set_option maxRecDepth 100000 in
theorem tword_k2 (w : World) :
    Calls Tryd.prog 5 #[.string ⟨#[105, 102]⟩] w fun e w' => e = .returned (.int .i64 5) ∧ w' = w := by
  have D : Hid (Calls Tryd.prog 8 #[.int .u8 105] w fun e w' => e = .returned (.bool false) ∧ w' = w) := tdigit_any 105 w (by decide) (by decide)
  have P : Hid (Calls Tryd.prog 9 #[.string ⟨#[105, 102]⟩, .int .i64 0] w fun e w' => e = .returned (.int .i64 2) ∧ w' = w) := tpast_any ⟨#[105, 102]⟩ [105, 102] rfl 0 w (Nat.zero_le _) (by decide)
  go_enter Tryd.func5, Tryd.ntmps5
  go_wp2_with fail
  refine D.out.mono ?_
  rintro e w2 ⟨rfl, hw2⟩
  rw [hw2]
  go_wp2_with fail
  refine P.out.mono ?_
  rintro e w3 ⟨rfl, hw3⟩
  rw [hw3]
  go_wp2_with fail
  go_ret
  exact ⟨rfl, rfl⟩
set_option maxRecDepth 100000 in
theorem tword_k3 (w : World) :
    Calls Tryd.prog 5 #[.string ⟨#[101, 108, 115, 101]⟩] w fun e w' => e = .returned (.int .i64 5) ∧ w' = w := by
  have D : Hid (Calls Tryd.prog 8 #[.int .u8 101] w fun e w' => e = .returned (.bool false) ∧ w' = w) := tdigit_any 101 w (by decide) (by decide)
  have P : Hid (Calls Tryd.prog 9 #[.string ⟨#[101, 108, 115, 101]⟩, .int .i64 0] w fun e w' => e = .returned (.int .i64 4) ∧ w' = w) := tpast_any ⟨#[101, 108, 115, 101]⟩ [101, 108, 115, 101] rfl 0 w (Nat.zero_le _) (by decide)
  go_enter Tryd.func5, Tryd.ntmps5
  go_wp2_with fail
  refine D.out.mono ?_
  rintro e w2 ⟨rfl, hw2⟩
  rw [hw2]
  go_wp2_with fail
  refine P.out.mono ?_
  rintro e w3 ⟨rfl, hw3⟩
  rw [hw3]
  go_wp2_with fail
  go_ret
  exact ⟨rfl, rfl⟩
set_option maxRecDepth 100000 in
theorem tword_k4 (w : World) :
    Calls Tryd.prog 5 #[.string ⟨#[119, 104, 105, 108, 101]⟩] w fun e w' => e = .returned (.int .i64 5) ∧ w' = w := by
  have D : Hid (Calls Tryd.prog 8 #[.int .u8 119] w fun e w' => e = .returned (.bool false) ∧ w' = w) := tdigit_any 119 w (by decide) (by decide)
  have P : Hid (Calls Tryd.prog 9 #[.string ⟨#[119, 104, 105, 108, 101]⟩, .int .i64 0] w fun e w' => e = .returned (.int .i64 5) ∧ w' = w) := tpast_any ⟨#[119, 104, 105, 108, 101]⟩ [119, 104, 105, 108, 101] rfl 0 w (Nat.zero_le _) (by decide)
  go_enter Tryd.func5, Tryd.ntmps5
  go_wp2_with fail
  refine D.out.mono ?_
  rintro e w2 ⟨rfl, hw2⟩
  rw [hw2]
  go_wp2_with fail
  refine P.out.mono ?_
  rintro e w3 ⟨rfl, hw3⟩
  rw [hw3]
  go_wp2_with fail
  go_ret
  exact ⟨rfl, rfl⟩
set_option maxRecDepth 100000 in
theorem tword_k5 (w : World) :
    Calls Tryd.prog 5 #[.string ⟨#[102, 111, 114]⟩] w fun e w' => e = .returned (.int .i64 5) ∧ w' = w := by
  have D : Hid (Calls Tryd.prog 8 #[.int .u8 102] w fun e w' => e = .returned (.bool false) ∧ w' = w) := tdigit_any 102 w (by decide) (by decide)
  have P : Hid (Calls Tryd.prog 9 #[.string ⟨#[102, 111, 114]⟩, .int .i64 0] w fun e w' => e = .returned (.int .i64 3) ∧ w' = w) := tpast_any ⟨#[102, 111, 114]⟩ [102, 111, 114] rfl 0 w (Nat.zero_le _) (by decide)
  go_enter Tryd.func5, Tryd.ntmps5
  go_wp2_with fail
  refine D.out.mono ?_
  rintro e w2 ⟨rfl, hw2⟩
  rw [hw2]
  go_wp2_with fail
  refine P.out.mono ?_
  rintro e w3 ⟨rfl, hw3⟩
  rw [hw3]
  go_wp2_with fail
  go_ret
  exact ⟨rfl, rfl⟩
set_option maxRecDepth 100000 in
theorem tword_k6 (w : World) :
    Calls Tryd.prog 5 #[.string ⟨#[105, 110]⟩] w fun e w' => e = .returned (.int .i64 5) ∧ w' = w := by
  have D : Hid (Calls Tryd.prog 8 #[.int .u8 105] w fun e w' => e = .returned (.bool false) ∧ w' = w) := tdigit_any 105 w (by decide) (by decide)
  have P : Hid (Calls Tryd.prog 9 #[.string ⟨#[105, 110]⟩, .int .i64 0] w fun e w' => e = .returned (.int .i64 2) ∧ w' = w) := tpast_any ⟨#[105, 110]⟩ [105, 110] rfl 0 w (Nat.zero_le _) (by decide)
  go_enter Tryd.func5, Tryd.ntmps5
  go_wp2_with fail
  refine D.out.mono ?_
  rintro e w2 ⟨rfl, hw2⟩
  rw [hw2]
  go_wp2_with fail
  refine P.out.mono ?_
  rintro e w3 ⟨rfl, hw3⟩
  rw [hw3]
  go_wp2_with fail
  go_ret
  exact ⟨rfl, rfl⟩
set_option maxRecDepth 100000 in
theorem tword_k7 (w : World) :
    Calls Tryd.prog 5 #[.string ⟨#[98, 114, 101, 97, 107]⟩] w fun e w' => e = .returned (.int .i64 5) ∧ w' = w := by
  have D : Hid (Calls Tryd.prog 8 #[.int .u8 98] w fun e w' => e = .returned (.bool false) ∧ w' = w) := tdigit_any 98 w (by decide) (by decide)
  have P : Hid (Calls Tryd.prog 9 #[.string ⟨#[98, 114, 101, 97, 107]⟩, .int .i64 0] w fun e w' => e = .returned (.int .i64 5) ∧ w' = w) := tpast_any ⟨#[98, 114, 101, 97, 107]⟩ [98, 114, 101, 97, 107] rfl 0 w (Nat.zero_le _) (by decide)
  go_enter Tryd.func5, Tryd.ntmps5
  go_wp2_with fail
  refine D.out.mono ?_
  rintro e w2 ⟨rfl, hw2⟩
  rw [hw2]
  go_wp2_with fail
  refine P.out.mono ?_
  rintro e w3 ⟨rfl, hw3⟩
  rw [hw3]
  go_wp2_with fail
  go_ret
  exact ⟨rfl, rfl⟩
set_option maxRecDepth 100000 in
theorem tword_k8 (w : World) :
    Calls Tryd.prog 5 #[.string ⟨#[99, 111, 110, 116, 105, 110, 117, 101]⟩] w fun e w' => e = .returned (.int .i64 5) ∧ w' = w := by
  have D : Hid (Calls Tryd.prog 8 #[.int .u8 99] w fun e w' => e = .returned (.bool false) ∧ w' = w) := tdigit_any 99 w (by decide) (by decide)
  have P : Hid (Calls Tryd.prog 9 #[.string ⟨#[99, 111, 110, 116, 105, 110, 117, 101]⟩, .int .i64 0] w fun e w' => e = .returned (.int .i64 8) ∧ w' = w) := tpast_any ⟨#[99, 111, 110, 116, 105, 110, 117, 101]⟩ [99, 111, 110, 116, 105, 110, 117, 101] rfl 0 w (Nat.zero_le _) (by decide)
  go_enter Tryd.func5, Tryd.ntmps5
  go_wp2_with fail
  refine D.out.mono ?_
  rintro e w2 ⟨rfl, hw2⟩
  rw [hw2]
  go_wp2_with fail
  refine P.out.mono ?_
  rintro e w3 ⟨rfl, hw3⟩
  rw [hw3]
  go_wp2_with fail
  go_ret
  exact ⟨rfl, rfl⟩
set_option maxRecDepth 100000 in
theorem tword_k9 (w : World) :
    Calls Tryd.prog 5 #[.string ⟨#[110, 101, 120, 116]⟩] w fun e w' => e = .returned (.int .i64 5) ∧ w' = w := by
  have D : Hid (Calls Tryd.prog 8 #[.int .u8 110] w fun e w' => e = .returned (.bool false) ∧ w' = w) := tdigit_any 110 w (by decide) (by decide)
  have P : Hid (Calls Tryd.prog 9 #[.string ⟨#[110, 101, 120, 116]⟩, .int .i64 0] w fun e w' => e = .returned (.int .i64 4) ∧ w' = w) := tpast_any ⟨#[110, 101, 120, 116]⟩ [110, 101, 120, 116] rfl 0 w (Nat.zero_le _) (by decide)
  go_enter Tryd.func5, Tryd.ntmps5
  go_wp2_with fail
  refine D.out.mono ?_
  rintro e w2 ⟨rfl, hw2⟩
  rw [hw2]
  go_wp2_with fail
  refine P.out.mono ?_
  rintro e w3 ⟨rfl, hw3⟩
  rw [hw3]
  go_wp2_with fail
  go_ret
  exact ⟨rfl, rfl⟩
set_option maxRecDepth 100000 in
theorem tword_k10 (w : World) :
    Calls Tryd.prog 5 #[.string ⟨#[101, 120, 105, 116]⟩] w fun e w' => e = .returned (.int .i64 5) ∧ w' = w := by
  have D : Hid (Calls Tryd.prog 8 #[.int .u8 101] w fun e w' => e = .returned (.bool false) ∧ w' = w) := tdigit_any 101 w (by decide) (by decide)
  have P : Hid (Calls Tryd.prog 9 #[.string ⟨#[101, 120, 105, 116]⟩, .int .i64 0] w fun e w' => e = .returned (.int .i64 4) ∧ w' = w) := tpast_any ⟨#[101, 120, 105, 116]⟩ [101, 120, 105, 116] rfl 0 w (Nat.zero_le _) (by decide)
  go_enter Tryd.func5, Tryd.ntmps5
  go_wp2_with fail
  refine D.out.mono ?_
  rintro e w2 ⟨rfl, hw2⟩
  rw [hw2]
  go_wp2_with fail
  refine P.out.mono ?_
  rintro e w3 ⟨rfl, hw3⟩
  rw [hw3]
  go_wp2_with fail
  go_ret
  exact ⟨rfl, rfl⟩
set_option maxRecDepth 100000 in
theorem tword_k11 (w : World) :
    Calls Tryd.prog 5 #[.string ⟨#[112, 114, 105, 110, 116]⟩] w fun e w' => e = .returned (.int .i64 5) ∧ w' = w := by
  have D : Hid (Calls Tryd.prog 8 #[.int .u8 112] w fun e w' => e = .returned (.bool false) ∧ w' = w) := tdigit_any 112 w (by decide) (by decide)
  have P : Hid (Calls Tryd.prog 9 #[.string ⟨#[112, 114, 105, 110, 116]⟩, .int .i64 0] w fun e w' => e = .returned (.int .i64 5) ∧ w' = w) := tpast_any ⟨#[112, 114, 105, 110, 116]⟩ [112, 114, 105, 110, 116] rfl 0 w (Nat.zero_le _) (by decide)
  go_enter Tryd.func5, Tryd.ntmps5
  go_wp2_with fail
  refine D.out.mono ?_
  rintro e w2 ⟨rfl, hw2⟩
  rw [hw2]
  go_wp2_with fail
  refine P.out.mono ?_
  rintro e w3 ⟨rfl, hw3⟩
  rw [hw3]
  go_wp2_with fail
  go_ret
  exact ⟨rfl, rfl⟩
set_option maxRecDepth 100000 in
theorem tword_k12 (w : World) :
    Calls Tryd.prog 5 #[.string ⟨#[112, 114, 105, 110, 116, 102]⟩] w fun e w' => e = .returned (.int .i64 5) ∧ w' = w := by
  have D : Hid (Calls Tryd.prog 8 #[.int .u8 112] w fun e w' => e = .returned (.bool false) ∧ w' = w) := tdigit_any 112 w (by decide) (by decide)
  have P : Hid (Calls Tryd.prog 9 #[.string ⟨#[112, 114, 105, 110, 116, 102]⟩, .int .i64 0] w fun e w' => e = .returned (.int .i64 6) ∧ w' = w) := tpast_any ⟨#[112, 114, 105, 110, 116, 102]⟩ [112, 114, 105, 110, 116, 102] rfl 0 w (Nat.zero_le _) (by decide)
  go_enter Tryd.func5, Tryd.ntmps5
  go_wp2_with fail
  refine D.out.mono ?_
  rintro e w2 ⟨rfl, hw2⟩
  rw [hw2]
  go_wp2_with fail
  refine P.out.mono ?_
  rintro e w3 ⟨rfl, hw3⟩
  rw [hw3]
  go_wp2_with fail
  go_ret
  exact ⟨rfl, rfl⟩
set_option maxRecDepth 100000 in
theorem tword_k13 (w : World) :
    Calls Tryd.prog 5 #[.string ⟨#[100, 101, 108, 101, 116, 101]⟩] w fun e w' => e = .returned (.int .i64 5) ∧ w' = w := by
  have D : Hid (Calls Tryd.prog 8 #[.int .u8 100] w fun e w' => e = .returned (.bool false) ∧ w' = w) := tdigit_any 100 w (by decide) (by decide)
  have P : Hid (Calls Tryd.prog 9 #[.string ⟨#[100, 101, 108, 101, 116, 101]⟩, .int .i64 0] w fun e w' => e = .returned (.int .i64 6) ∧ w' = w) := tpast_any ⟨#[100, 101, 108, 101, 116, 101]⟩ [100, 101, 108, 101, 116, 101] rfl 0 w (Nat.zero_le _) (by decide)
  go_enter Tryd.func5, Tryd.ntmps5
  go_wp2_with fail
  refine D.out.mono ?_
  rintro e w2 ⟨rfl, hw2⟩
  rw [hw2]
  go_wp2_with fail
  refine P.out.mono ?_
  rintro e w3 ⟨rfl, hw3⟩
  rw [hw3]
  go_wp2_with fail
  go_ret
  exact ⟨rfl, rfl⟩
set_option maxRecDepth 100000 in
set_option maxHeartbeats 2000000 in
theorem tword_any (s : ByteArray) (xs : List Int) (hS : Str s xs) (w : World) (hT : FT w) (hs : s.size ≤ 140737488355328) :
    Calls Tryd.prog 5 #[.string s] w fun e w' => e = .returned (.int .i64 (Tk.wd s xs)) ∧ w' = w := by
  by_cases hk : Tk.kp s = 0
  · have q := Tk.key_none hk
    have HL := hS.size
    have FU := hid (tfunc_any s w hT)
    have DG := hid (fun h : 0 < s.size => tdigit_any (xs.getD 0 0) w (hS.atb 0).1 (hS.atb 0).2)
    have B0 := hid (fun h : 0 < s.size => hS.at 0 h)
    have PW := hid (tpast_any s xs hS 0 w (Nat.zero_le _) hs)
    have hsi : (s.size : Int) ≤ 140737488355328 := by omega
    have PB := hid hS
    generalize hv : Tk.wd s xs = V
    unfold Tk.wd at hv
    rw [if_neg (show ¬ Tk.kp s ≠ 0 from fun c => c hk)] at hv
    rw [List.drop_zero, Nat.zero_add] at PW
    by_cases h0 : s.size = 0
    · have es : s = ⟨#[]⟩ := by
        rw [← Ch.tx_self s, List.eq_nil_of_length_eq_zero (show s.data.toList.length = 0 by rw [Ch.size_len]; exact h0)]
        rfl
      rw [Tk.bad, show decide (xs.length = 0) = true from decide_eq_true (by omega)] at hv
      have E : Hid (V = 0) := hv.symm
      clear hv FU DG B0 PW PB hS hT q hk HL h0 hs hsi
      subst es
      go_enter Tryd.func5, Tryd.ntmps5
      go_wp2_with fail
      go_ret
      exact ⟨by rw [E.out]; rfl, rfl⟩
    · have hp : 0 < s.size := Nat.pos_of_ne_zero h0
      have hpi : (0 : Int) < (s.size : Int) := by omega
      have e0 : (s.toList == []) = false := Tk.ne_lst [] (fun c => h0 (by rw [c]; rfl))
      have BJ := B0.out hp
      have D := hid (DG.out hp)
      clear DG B0 hS hT hk PB
      rw [Tk.bad, show decide (xs.length = 0) = false from decide_eq_false (by omega), Bool.false_or] at hv
      have RL := Tk.run_le xs
      cases hd : Tk.dg (xs.getD 0 0) with
      | true =>
        rw [hd] at D hv
        have E : Hid (V = 0) := hv.symm
        clear hv hd FU PW q RL
        generalize xs.getD 0 0 = n at *
        go_enter Tryd.func5, Tryd.ntmps5
        go_wp2_with fail
        refine D.out.mono ?_
        rintro e w2 ⟨rfl, hw2⟩
        rw [hw2]
        go_wp2_with fail
        go_ret
        exact ⟨by rw [E.out]; rfl, rfl⟩
      | false =>
        rw [hd, Bool.false_or] at hv
        rw [hd] at D
        clear hd
        by_cases hr : Tk.run xs < xs.length
        · rw [decide_eq_true hr] at hv
          have E : Hid (V = 0) := hv.symm
          have hri : (Tk.run xs : Int) < (s.size : Int) := by omega
          clear hv FU q RL
          generalize xs.getD 0 0 = n at *
          generalize Tk.run xs = R at *
          go_enter Tryd.func5, Tryd.ntmps5
          go_wp2_with fail
          refine D.out.mono ?_
          rintro e w2 ⟨rfl, hw2⟩
          rw [hw2]
          go_wp2_with fail
          refine PW.out.mono ?_
          rintro e w3 ⟨rfl, hw3⟩
          rw [hw3]
          go_wp2_with fail
          go_ret
          exact ⟨by rw [E.out]; rfl, rfl⟩
        · rw [decide_eq_false hr, if_neg (by decide)] at hv
          have hri : ¬ (Tk.run xs : Int) < (s.size : Int) := by omega
          clear RL
          obtain ⟨q0, q1, q2, q3, q4, q5, q6, q7, q8, q9, q10, q11, q12, q13⟩ := q
          by_cases hf : Tk.fn s = 0
          · rw [if_neg (show ¬ Tk.fn s ≠ 0 from fun c => c hf)] at hv
            rw [hf] at FU
            have E : Hid (V = 3) := hv.symm
            clear hv hf
            generalize xs.getD 0 0 = n at *
            generalize Tk.run xs = R at *
            go_enter Tryd.func5, Tryd.ntmps5
            go_wp2_with fail
            refine D.out.mono ?_
            rintro e w2 ⟨rfl, hw2⟩
            rw [hw2]
            go_wp2_with fail
            refine PW.out.mono ?_
            rintro e w3 ⟨rfl, hw3⟩
            rw [hw3]
            go_wp2_with fail
            refine FU.out.mono ?_
            rintro e w4 ⟨rfl, hw4⟩
            rw [hw4]
            go_wp2_with fail
            go_ret
            exact ⟨by rw [E.out]; rfl, rfl⟩
          · rw [if_pos hf] at hv
            have E : Hid (V = 4) := hv.symm
            have hfi : ¬ (Tk.fn s : Int) = 0 := by omega
            have hfb : ((Tk.fn s : Int) == 0) = false := beq_eq_false_iff_ne.2 hfi
            clear hv hf
            generalize xs.getD 0 0 = n at *
            generalize Tk.run xs = R at *
            generalize Tk.fn s = G at *
            go_enter Tryd.func5, Tryd.ntmps5
            go_wp2_with fail
            refine D.out.mono ?_
            rintro e w2 ⟨rfl, hw2⟩
            rw [hw2]
            go_wp2_with fail
            refine PW.out.mono ?_
            rintro e w3 ⟨rfl, hw3⟩
            rw [hw3]
            go_wp2_with fail
            refine FU.out.mono ?_
            rintro e w4 ⟨rfl, hw4⟩
            rw [hw4]
            go_wp2_with fail
            go_ret
            exact ⟨by rw [E.out]; rfl, rfl⟩
  · rcases Tk.key_cases hk with rfl | rfl | rfl | rfl | rfl | rfl | rfl | rfl | rfl | rfl | rfl | rfl | rfl | rfl
    · obtain rfl : xs = [66, 69, 71, 73, 78] := hS.symm.trans rfl
      rw [show Tk.wd ⟨#[66, 69, 71, 73, 78]⟩ [66, 69, 71, 73, 78] = 5 by decide +kernel]
      exact tword_k0 w
    · obtain rfl : xs = [69, 78, 68] := hS.symm.trans rfl
      rw [show Tk.wd ⟨#[69, 78, 68]⟩ [69, 78, 68] = 5 by decide +kernel]
      exact tword_k1 w
    · obtain rfl : xs = [105, 102] := hS.symm.trans rfl
      rw [show Tk.wd ⟨#[105, 102]⟩ [105, 102] = 5 by decide +kernel]
      exact tword_k2 w
    · obtain rfl : xs = [101, 108, 115, 101] := hS.symm.trans rfl
      rw [show Tk.wd ⟨#[101, 108, 115, 101]⟩ [101, 108, 115, 101] = 5 by decide +kernel]
      exact tword_k3 w
    · obtain rfl : xs = [119, 104, 105, 108, 101] := hS.symm.trans rfl
      rw [show Tk.wd ⟨#[119, 104, 105, 108, 101]⟩ [119, 104, 105, 108, 101] = 5 by decide +kernel]
      exact tword_k4 w
    · obtain rfl : xs = [102, 111, 114] := hS.symm.trans rfl
      rw [show Tk.wd ⟨#[102, 111, 114]⟩ [102, 111, 114] = 5 by decide +kernel]
      exact tword_k5 w
    · obtain rfl : xs = [105, 110] := hS.symm.trans rfl
      rw [show Tk.wd ⟨#[105, 110]⟩ [105, 110] = 5 by decide +kernel]
      exact tword_k6 w
    · obtain rfl : xs = [98, 114, 101, 97, 107] := hS.symm.trans rfl
      rw [show Tk.wd ⟨#[98, 114, 101, 97, 107]⟩ [98, 114, 101, 97, 107] = 5 by decide +kernel]
      exact tword_k7 w
    · obtain rfl : xs = [99, 111, 110, 116, 105, 110, 117, 101] := hS.symm.trans rfl
      rw [show Tk.wd ⟨#[99, 111, 110, 116, 105, 110, 117, 101]⟩ [99, 111, 110, 116, 105, 110, 117, 101] = 5 by decide +kernel]
      exact tword_k8 w
    · obtain rfl : xs = [110, 101, 120, 116] := hS.symm.trans rfl
      rw [show Tk.wd ⟨#[110, 101, 120, 116]⟩ [110, 101, 120, 116] = 5 by decide +kernel]
      exact tword_k9 w
    · obtain rfl : xs = [101, 120, 105, 116] := hS.symm.trans rfl
      rw [show Tk.wd ⟨#[101, 120, 105, 116]⟩ [101, 120, 105, 116] = 5 by decide +kernel]
      exact tword_k10 w
    · obtain rfl : xs = [112, 114, 105, 110, 116] := hS.symm.trans rfl
      rw [show Tk.wd ⟨#[112, 114, 105, 110, 116]⟩ [112, 114, 105, 110, 116] = 5 by decide +kernel]
      exact tword_k11 w
    · obtain rfl : xs = [112, 114, 105, 110, 116, 102] := hS.symm.trans rfl
      rw [show Tk.wd ⟨#[112, 114, 105, 110, 116, 102]⟩ [112, 114, 105, 110, 116, 102] = 5 by decide +kernel]
      exact tword_k12 w
    · obtain rfl : xs = [100, 101, 108, 101, 116, 101] := hS.symm.trans rfl
      rw [show Tk.wd ⟨#[100, 101, 108, 101, 116, 101]⟩ [100, 101, 108, 101, 116, 101] = 5 by decide +kernel]
      exact tword_k13 w
set_option maxRecDepth 100000 in
set_option maxHeartbeats 2000000 in
theorem rword_any (s : ByteArray) (xs : List Int) (hS : Str s xs) (w : World) (hs : s.size ≤ 140737488355328) :
    Calls Tryd.prog 7 #[.string s] w fun e w' => e = .returned (.int .i64 (Tk.wd s xs)) ∧ Below w.heap.size w w' := by
  have HL := hS.size
  have NA := hid (rname_any s xs hS w hs)
  have FU := hid (rfunc_any s w)
  have KE := hid (fun wx => rkeys_any wx)
  have hsi : (s.size : Int) ≤ 140737488355328 := by omega
  have KY := hid (fun (k T : Nat) (h : k < 14) => Tk.pos_yes (s := s) (l := Tk.keys) (k := k) (i := k + 1) (T := T) h)
  have KN := hid (fun (k T : Nat) (h : k < 14) => Tk.pos_no (s := s) (l := Tk.keys) (k := k) (i := k + 1) (T := T) h)
  have KZ := hid (fun (T : Nat) => Tk.pos_end (s := s) (l := Tk.keys) (k := 14) (i := 15) (T := T) (Nat.le_refl _))
  generalize hv : Tk.wd s xs = V
  unfold Tk.wd at hv
  by_cases h0 : s.size = 0
  · have es : s = ⟨#[]⟩ := by
      rw [← Ch.tx_self s, List.eq_nil_of_length_eq_zero (show s.data.toList.length = 0 by rw [Ch.size_len]; exact h0)]
      rfl
    rw [Tk.bad, show decide (xs.length = 0) = true from decide_eq_true (by omega)] at hv
    have E : Hid (V = 0) := hv.symm
    clear hv NA FU KE KY KN KZ hS HL h0 hs hsi
    subst es
    go_enter Tryd.func7, Tryd.ntmps7
    go_wp2_with fail
    go_ret
    exact ⟨by rw [E.out]; rfl, Below.refl _ _⟩
  · have e0 : (s.toList == []) = false := Tk.ne_lst [] (fun c => h0 (by rw [c]; rfl))
    have BN := Tk.bad_nr (xs := xs) (by omega)
    clear hS
    by_cases hn : Tk.nr xs = xs.length
    · rw [BN.1 hn, if_neg (by decide)] at hv
      rw [hn, ← HL] at NA
      clear BN hn HL
      by_cases hf : Tk.fn s = 0
      · rw [if_neg (show ¬ Tk.fn s ≠ 0 from fun c => c hf)] at hv
        rw [hf] at FU
        have E := hid hv
        clear hv hf
        go_enter Tryd.func7, Tryd.ntmps7
        go_wp2_with fail
        refine NA.out.mono ?_
        rintro e w2 ⟨rfl, hw2⟩
        rw [hw2]
        go_wp2_with fail
        refine FU.out.mono ?_
        rintro e w3 ⟨rfl, hB⟩
        have B3 := hid hB
        clear hB FU NA
        go_wp2_with fail
        refine (KE.out w3).mono ?_
        rintro e w4 ⟨rfl, hC, hB⟩
        have C := hid hC
        have B : Hid (Below w.heap.size w w4) := B3.out.trans (hB.mono B3.out.size)
        clear hC hB KE B3
        generalize hT : Tk.kp s = T at *
        have P0 : Hid (Tk.pos s (Tk.keys.drop 0) (0 + 1) = T) := hT
        clear hT
        generalize w3.heap.size = g at *
        go_wp2_with fail
        go_loopg [19] 14 (fun m jv wr => ∃ j : Nat, j + m = 14 ∧ jv = .int .i64 (j : Int) ∧ Hid (Tk.pos s (Tk.keys.drop j) (j + 1) = T ∧ wr = w4))
        case atStart => exact ⟨0, rfl, rfl, P0.out, rfl⟩
        case round =>
          obtain ⟨j, hj, rfl, J⟩ := hrel
          clear P0
          obtain ⟨hp, hw⟩ := J.out
          subst hw
          have HP := hid hp
          clear hp J
          by_cases jl : j < 14
          · have jli : (j : Int) < 14 := by omega
            have hc := C.out j jl
            have Y2 := hid (KY.out j T jl HP.out)
            have N2 := hid (KN.out j T jl HP.out)
            clear KY KN KZ HP C
            generalize Tk.keys.getD j ByteArray.empty = x at *
            by_cases e : x = s
            · have F : Hid (V = 5) := by show _ = _; rw [← E.out, if_pos (by rw [Y2.out e]; omega)]
              clear Y2 N2
              go_wp2_with fail
              go_ret
              exact ⟨by rw [F.out]; rfl, B.out⟩
            · have eb : (x.toList == s.toList) = false := Tk.ne_lit e
              have F := hid (N2.out e)
              clear Y2 N2
              go_wp2_with fail
              go_roundg (14 - (j + 1))
              case measure => omega
              case rel => exact ⟨j + 1, by omega, by go_num, F.out, rfl⟩
          · have j9 : j = 14 := by omega
            subst j9
            have F : Hid (V = 3) := by show _ = _; rw [← E.out, if_neg (by rw [KZ.out T HP.out]; decide)]
            clear KY KN KZ HP
            go_wp2_with fail
            go_ret
            exact ⟨by rw [F.out]; rfl, B.out⟩
      · rw [if_neg (by rw [Tk.fn_kp hf]; decide), if_pos hf] at hv
        have E : Hid (V = 4) := hv.symm
        have hfi : ¬ (Tk.fn s : Int) = 0 := by omega
        have hfb : ((Tk.fn s : Int) == 0) = false := beq_eq_false_iff_ne.2 hfi
        clear hv hf KE KY KN KZ
        generalize Tk.fn s = G at *
        go_enter Tryd.func7, Tryd.ntmps7
        go_wp2_with fail
        refine NA.out.mono ?_
        rintro e w2 ⟨rfl, hw2⟩
        rw [hw2]
        go_wp2_with fail
        refine FU.out.mono ?_
        rintro e w3 ⟨rfl, hB⟩
        have B3 := hid hB
        clear hB FU NA
        go_wp2_with fail
        go_ret
        exact ⟨by rw [E.out]; rfl, B3.out⟩
    · have hbt : Tk.bad xs = true := by
        cases hb : Tk.bad xs with
        | true => rfl
        | false => exact absurd (BN.2 hb) hn
      rw [hbt, if_pos rfl] at hv
      have E : Hid (V = 0) := hv.symm
      have hni : ¬ (Tk.nr xs : Int) = (s.size : Int) := by omega
      have hnb : ((Tk.nr xs : Int) == (s.size : Int)) = false := beq_eq_false_iff_ne.2 hni
      clear hv hbt BN KE KY KN KZ FU hn
      generalize Tk.nr xs = R at *
      go_enter Tryd.func7, Tryd.ntmps7
      go_wp2_with fail
      refine NA.out.mono ?_
      rintro e w2 ⟨rfl, hw2⟩
      rw [hw2]
      go_wp2_with fail
      go_ret
      exact ⟨by rw [E.out]; rfl, Below.refl _ _⟩
end Go.Proofs.YtcigpfnlkjoibaaDoor
