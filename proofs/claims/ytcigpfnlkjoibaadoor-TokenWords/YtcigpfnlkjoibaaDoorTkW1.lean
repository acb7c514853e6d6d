/-
  token: pastWord. abacusref23: name.
-/
import Derived.Test.YtcigpfnlkjoibaaDoorTkW0
namespace Go.Proofs.YtcigpfnlkjoibaaDoor
open Go Go.RowKit Go.Deep Go.Shelf

namespace Tk
/-- How long the run of letters, digits and _ at the head is. -/
def run (xs : List Int) : Nat := (xs.takeWhile nm).length
theorem run_le (xs : List Int) : run xs ≤ xs.length := (List.takeWhile_sublist _).length_le
theorem drop_at {xs : List Int} {k : Nat} (h : k < xs.length) : xs.drop k = xs.getD k 0 :: xs.drop (k + 1) := by
  rw [List.drop_eq_getElem_cons h]
  simp [List.getD, List.getElem?_eq_getElem h]
theorem run_yes {xs : List Int} {k : Nat} (h : k < xs.length) (hn : nm (xs.getD k 0) = true) : run (xs.drop k) = run (xs.drop (k + 1)) + 1 := by
  rw [drop_at h, run, List.takeWhile_cons, if_pos hn, List.length_cons]
  rfl
theorem run_no {xs : List Int} {k : Nat} (h : k < xs.length) (hn : nm (xs.getD k 0) = false) : run (xs.drop k) = 0 := by
  rw [drop_at h, run, List.takeWhile_cons, if_neg (by rw [hn]; decide)]
  rfl
theorem run_end {xs : List Int} {k : Nat} (h : xs.length ≤ k) : run (xs.drop k) = 0 := by
  rw [List.drop_eq_nil_of_le h]
  rfl
/-- The same where the first byte must be no digit. -/
def nr (xs : List Int) : Nat := if lt (xs.getD 0 0) = true then run xs else 0
end Tk

set_option maxRecDepth 100000 in
set_option maxHeartbeats 2000000 in
theorem tpast_any (s : ByteArray) (xs : List Int) (hS : Str s xs) (a : Nat) (w : World) (ha : a ≤ s.size) (hs : s.size ≤ 140737488355328) :
    Calls Tryd.prog 9 #[.string s, .int .i64 (a : Int)] w fun e w' => e = .returned (.int .i64 ((a + Tk.run (xs.drop a) : Nat) : Int)) ∧ w' = w := by
  have HL := hid hS.size
  have BA : Hid (∀ j (h : j < s.size), ((s[j]'h).toNat : Int) = xs.getD j 0) := fun j h => hS.at j h
  have BB := hid hS.atb
  have hsi : (s.size : Int) ≤ 140737488355328 := by omega
  generalize hT : a + Tk.run (xs.drop a) = T
  have HT := hid hT
  clear hT hs hS
  go_enter Tryd.func9, Tryd.ntmps9
  go_wp2_with fail
  go_loopg [1] (s.size - a) (fun m av wr => ∃ k : Nat, k + m = s.size ∧ av = .int .i64 (k : Int) ∧ Hid (k + Tk.run (xs.drop k) = T ∧ wr = w))
  case atStart => exact ⟨a, by omega, rfl, HT.out, rfl⟩
  case round =>
    obtain ⟨k, hk, rfl, J⟩ := hrel
    obtain ⟨hr, hw⟩ := J.out
    subst hw
    clear HT J
    by_cases kl : k < s.size
    · have kli : (k : Int) < (s.size : Int) := by omega
      have BJ := BA.out k
      have kx : k < xs.length := by rw [← HL.out]; exact kl
      cases hn : Tk.nm (xs.getD k 0) with
      | true =>
        have N := hid (tinname_any (xs.getD k 0) wr (BB.out k).1 (BB.out k).2)
        rw [hn] at N
        have F : Hid ((k + 1) + Tk.run (xs.drop (k + 1)) = T) := by show _ = _; rw [← hr, Tk.run_yes kx hn]; omega
        clear hn hr kx
        generalize xs.getD k 0 = n at *
        go_wp2_with fail
        refine N.out.mono ?_
        rintro e w2 ⟨rfl, hw2⟩
        rw [hw2]
        go_wp2_with fail
        go_roundg (s.size - (k + 1))
        case measure => omega
        case rel => exact ⟨k + 1, by omega, by go_num, F.out, rfl⟩
      | false =>
        have N := hid (tinname_any (xs.getD k 0) wr (BB.out k).1 (BB.out k).2)
        rw [hn] at N
        have F : Hid (k = T) := by show _ = _; rw [← hr, Tk.run_no kx hn]; omega
        clear hn hr kx
        generalize xs.getD k 0 = n at *
        go_wp2_with fail
        refine N.out.mono ?_
        rintro e w2 ⟨rfl, hw2⟩
        rw [hw2]
        go_wp2_with fail
        go_ret
        exact ⟨by rw [F.out]; rfl, rfl⟩
    · have kli : ¬ (k : Int) < (s.size : Int) := by omega
      have F : Hid (k = T) := by show _ = _; rw [← hr, Tk.run_end (by rw [← HL.out]; omega)]; omega
      clear hr
      go_wp2_with fail
      go_ret
      exact ⟨by rw [F.out]; rfl, rfl⟩
set_option maxRecDepth 100000 in
set_option maxHeartbeats 2000000 in
theorem rname_any (s : ByteArray) (xs : List Int) (hS : Str s xs) (w : World) (hs : s.size ≤ 140737488355328) :
    Calls Tryd.prog 11 #[.string s] w fun e w' => e = .returned (.int .i64 ((Tk.nr xs : Nat) : Int)) ∧ w' = w := by
  have HL := hid hS.size
  have BA : Hid (∀ j (h : j < s.size), ((s[j]'h).toNat : Int) = xs.getD j 0) := fun j h => hS.at j h
  have BB := hid hS.atb
  have hsi : (s.size : Int) ≤ 140737488355328 := by omega
  clear hs hS
  go_enter Tryd.func11, Tryd.ntmps11
  go_wp2_with fail
  go_loopg [3] s.size (fun m nv wr => ∃ k : Nat, k + m = s.size ∧ nv = .int .i64 (k : Int) ∧ Hid ((k = 0 ∨ Tk.lt (xs.getD 0 0) = true) ∧ k + Tk.run (xs.drop k) = Tk.run xs ∧ wr = w))
  case atStart => exact ⟨0, by omega, rfl, .inl rfl, by rw [List.drop_zero]; omega, rfl⟩
  case round =>
    obtain ⟨k, hk, rfl, J⟩ := hrel
    obtain ⟨h0, hr, hw⟩ := J.out
    subst hw
    clear J
    by_cases kl : k < s.size
    · have kli : (k : Int) < (s.size : Int) := by omega
      have BJ := BA.out k
      have kx : k < xs.length := by rw [← HL.out]; exact kl
      have N := hid (rletter_any (xs.getD k 0) wr (BB.out k).1 (BB.out k).2)
      have D := hid (rdigit_any (xs.getD k 0) wr (BB.out k).1 (BB.out k).2)
      cases hl : Tk.lt (xs.getD k 0) with
      | true =>
        rw [hl] at N
        have F : Hid ((k + 1 = 0 ∨ Tk.lt (xs.getD 0 0) = true) ∧ (k + 1) + Tk.run (xs.drop (k + 1)) = Tk.run xs) := by
          refine ⟨.inr ?_, by rw [← hr, Tk.run_yes kx (by rw [Tk.nm, hl]; rfl)]; omega⟩
          rcases h0 with h0 | h0
          · subst h0; exact hl
          · exact h0
        clear hl hr kx D h0
        generalize xs.getD k 0 = n at *
        go_wp2_with fail
        refine N.out.mono ?_
        rintro e w2 ⟨rfl, hw2⟩
        rw [hw2]
        go_wp2_with fail
        go_roundg (s.size - (k + 1))
        case measure => omega
        case rel => exact ⟨k + 1, by omega, by go_num, F.out.1, F.out.2, rfl⟩
      | false =>
        rw [hl] at N
        by_cases k0 : k = 0
        · subst k0
          have F : Hid (Tk.nr xs = 0) := by show _ = _; rw [Tk.nr, if_neg (by rw [hl]; decide)]
          clear hl hr kx D h0
          generalize xs.getD 0 0 = n at *
          go_wp2_with fail
          refine N.out.mono ?_
          rintro e w2 ⟨rfl, hw2⟩
          rw [hw2]
          go_wp2_with fail
          go_ret
          exact ⟨by rw [F.out]; rfl, rfl⟩
        · have k0i : (0 : Int) < (k : Int) := by omega
          have l0 : Tk.lt (xs.getD 0 0) = true := by rcases h0 with h0 | h0; exact absurd h0 k0; exact h0
          cases hd : Tk.dg (xs.getD k 0) with
          | true =>
            rw [hd] at D
            have F : Hid ((k + 1 = 0 ∨ Tk.lt (xs.getD 0 0) = true) ∧ (k + 1) + Tk.run (xs.drop (k + 1)) = Tk.run xs) :=
              ⟨.inr l0, by rw [← hr, Tk.run_yes kx (by rw [Tk.nm, hl, hd]; rfl)]; omega⟩
            clear hl hd hr kx l0 h0
            generalize xs.getD k 0 = n at *
            go_wp2_with fail
            refine N.out.mono ?_
            rintro e w2 ⟨rfl, hw2⟩
            rw [hw2]
            go_wp2_with fail
            refine D.out.mono ?_
            rintro e w3 ⟨rfl, hw3⟩
            rw [hw3]
            go_wp2_with fail
            go_roundg (s.size - (k + 1))
            case measure => omega
            case rel => exact ⟨k + 1, by omega, by go_num, F.out.1, F.out.2, rfl⟩
          | false =>
            rw [hd] at D
            have F : Hid (Tk.nr xs = k) := by show _ = _; rw [Tk.nr, if_pos l0, ← hr, Tk.run_no kx (by rw [Tk.nm, hl, hd]; rfl)]; omega
            clear hl hd hr kx l0 h0
            generalize xs.getD k 0 = n at *
            go_wp2_with fail
            refine N.out.mono ?_
            rintro e w2 ⟨rfl, hw2⟩
            rw [hw2]
            go_wp2_with fail
            refine D.out.mono ?_
            rintro e w3 ⟨rfl, hw3⟩
            rw [hw3]
            go_wp2_with fail
            go_ret
            exact ⟨by rw [F.out]; rfl, rfl⟩
    · have kli : ¬ (k : Int) < (s.size : Int) := by omega
      have F : Hid (Tk.nr xs = k) := by
        show _ = _
        have e : xs.length ≤ k := by rw [← HL.out]; omega
        rw [Tk.run_end e] at hr
        by_cases k0 : k = 0
        · subst k0
          obtain rfl := List.eq_nil_of_length_eq_zero (Nat.le_zero.1 e)
          rfl
        · rw [Tk.nr, if_pos (by rcases h0 with h0 | h0; exact absurd h0 k0; exact h0)]
          omega
      clear hr h0
      go_wp2_with fail
      go_ret
      exact ⟨by rw [F.out]; rfl, rfl⟩
end Go.Proofs.YtcigpfnlkjoibaaDoor
