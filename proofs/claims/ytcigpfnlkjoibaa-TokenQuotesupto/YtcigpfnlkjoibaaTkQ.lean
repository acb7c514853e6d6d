/-
  token: appendByte.
-/
import Derived.Test.YtcigpfnlkjoibaaTkN
namespace Go.Proofs.Ytcigpfnlkjoibaa
open Go Go.RowKit Go.Deep Go.Shelf

set_option maxRecDepth 100000 in
set_option maxHeartbeats 2000000 in
theorem tput_any {base : Nat} {w : World} {mv : Value} {l : Ch.L8} (c : UInt8) (ho : B8 base w mv l) (hn : l.length + 4 ≤ 140737488351232) (hb : base ≤ w.heap.size) :
    Calls Try.prog 6 #[mv, .int .u8 (c.toNat : Int)] w fun e w' => ∃ mv', e = .returned mv' ∧ B8 base w' mv' (l ++ Tk.esc c) ∧ w.heap.size ≤ w'.heap.size ∧ Below base w w' := by
  have b0 : (0 : Int) ≤ (c.toNat : Int) := by omega
  have b1 : (c.toNat : Int) < 256 := by have := c.toNat_lt; omega
  by_cases h1 : c.toNat = 34 ∨ c.toNat = 92
  · obtain ⟨mv', w', ap, g1, g2, g3⟩ := ho.esc2 c (by omega) hb
    have F : Hid (B8 base w' mv' (l ++ Tk.esc c) ∧ w.heap.size ≤ w'.heap.size ∧ Below base w w') := ⟨by rw [Tk.esc, if_pos h1]; exact g1, g2, g3⟩
    have AP := hid ap
    clear ap g1 g2 g3 ho hn hb
    rcases h1 with h1 | h1
    · have e1 : (c.toNat : Int) = 34 := by omega
      rw [e1] at AP ⊢
      clear e1 b0 b1 h1
      go_enter Try.func6, Try.ntmps6
      go_wp2_with (at_builtin; refine wpList_append_d rfl _ _ rfl AP.out (by rfl) (by rfl) ?_; clear AP)
      go_ret
      exact ⟨_, rfl, F.out⟩
    · have e1 : (c.toNat : Int) = 92 := by omega
      rw [e1] at AP ⊢
      clear e1 b0 b1 h1
      go_enter Try.func6, Try.ntmps6
      go_wp2_with (at_builtin; refine wpList_append_d rfl _ _ rfl AP.out (by rfl) (by rfl) ?_; clear AP)
      go_ret
      exact ⟨_, rfl, F.out⟩
  · by_cases h2 : 7 ≤ c.toNat ∧ c.toNat ≤ 13
    · obtain ⟨mv', w', ap, g1, g2, g3⟩ := ho.esc2 (Tk.letter (c.toNat - 7)) (by omega) hb
      have F : Hid (B8 base w' mv' (l ++ Tk.esc c) ∧ w.heap.size ≤ w'.heap.size ∧ Below base w w') := ⟨by rw [Tk.esc, if_neg h1, if_pos h2]; exact g1, g2, g3⟩
      have AP := hid ap
      clear ap g1 g2 g3 ho hn hb b0 b1 h1
      have h3 : c.toNat = 7 ∨ c.toNat = 8 ∨ c.toNat = 9 ∨ c.toNat = 10 ∨ c.toNat = 11 ∨ c.toNat = 12 ∨ c.toNat = 13 := by omega
      clear h2
      rcases h3 with h3 | h3 | h3 | h3 | h3 | h3 | h3 <;>
      · rw [h3] at AP ⊢
        clear h3
        simp only [Tk.letter] at AP
        go_enter Try.func6, Try.ntmps6
        go_wp2_with (at_builtin; refine wpList_append_d rfl _ _ rfl AP.out (by rfl) (by rfl) ?_; clear AP)
        go_ret
        exact ⟨_, rfl, F.out⟩
    · by_cases h3 : 32 ≤ c.toNat ∧ c.toNat ≤ 126
      · obtain ⟨mv', w', ap, g1, g2, g3⟩ := ho.put1 c (by omega) hb
        have F : Hid (B8 base w' mv' (l ++ Tk.esc c) ∧ w.heap.size ≤ w'.heap.size ∧ Below base w w') := ⟨by rw [Tk.esc, if_neg h1, if_neg h2, if_pos h3]; exact g1, g2, g3⟩
        have AP := hid ap
        clear ap g1 g2 g3 ho hn hb
        have e1 : ¬ (c.toNat : Int) = 34 := by omega
        have e2 : ¬ (c.toNat : Int) = 92 := by omega
        have e3 : (7 : Int) ≤ (c.toNat : Int) := by omega
        have e4 : ¬ (c.toNat : Int) ≤ 13 := by omega
        have e5 : (32 : Int) ≤ (c.toNat : Int) := by omega
        have e6 : (c.toNat : Int) ≤ 126 := by omega
        clear h1 h2 h3
        generalize (c.toNat : Int) = n at *
        go_enter Try.func6, Try.ntmps6
        go_wp2_with (at_builtin; refine wpList_append_d rfl _ _ rfl AP.out (by rfl) (by rfl) ?_; clear AP)
        go_ret
        exact ⟨_, rfl, F.out⟩
      · obtain ⟨mv', w', ap, g1, g2, g3⟩ := ho.esc4 c.toNat c.toNat_lt (by omega) hb
        have F : Hid (B8 base w' mv' (l ++ Tk.esc c) ∧ w.heap.size ≤ w'.heap.size ∧ Below base w w') := ⟨by rw [Tk.esc, if_neg h1, if_neg h2, if_neg h3]; exact g1, g2, g3⟩
        have AP := hid ap
        clear ap g1 g2 g3 ho hn hb
        have e1 : ¬ (c.toNat : Int) = 34 := by omega
        have e2 : ¬ (c.toNat : Int) = 92 := by omega
        have h4 : c.toNat < 7 ∨ (13 < c.toNat ∧ c.toNat < 32) ∨ 126 < c.toNat := by omega
        rcases h4 with h4 | h4 | h4
        · have e3 : ¬ (7 : Int) ≤ (c.toNat : Int) := by omega
          have e5 : ¬ (32 : Int) ≤ (c.toNat : Int) := by omega
          clear h1 h2 h3 h4
          generalize (c.toNat : Int) = n at *
          go_enter Try.func6, Try.ntmps6
          go_wp2_with (at_builtin; refine wpList_append_d rfl _ _ rfl AP.out (by rfl) (by rfl) ?_; clear AP)
          go_ret
          exact ⟨_, rfl, F.out⟩
        · have e3 : (7 : Int) ≤ (c.toNat : Int) := by omega
          have e4 : ¬ (c.toNat : Int) ≤ 13 := by omega
          have e5 : ¬ (32 : Int) ≤ (c.toNat : Int) := by omega
          clear h1 h2 h3 h4
          generalize (c.toNat : Int) = n at *
          go_enter Try.func6, Try.ntmps6
          go_wp2_with (at_builtin; refine wpList_append_d rfl _ _ rfl AP.out (by rfl) (by rfl) ?_; clear AP)
          go_ret
          exact ⟨_, rfl, F.out⟩
        · have e3 : (7 : Int) ≤ (c.toNat : Int) := by omega
          have e4 : ¬ (c.toNat : Int) ≤ 13 := by omega
          have e5 : (32 : Int) ≤ (c.toNat : Int) := by omega
          have e6 : ¬ (c.toNat : Int) ≤ 126 := by omega
          clear h1 h2 h3 h4
          generalize (c.toNat : Int) = n at *
          go_enter Try.func6, Try.ntmps6
          go_wp2_with (at_builtin; refine wpList_append_d rfl _ _ rfl AP.out (by rfl) (by rfl) ?_; clear AP)
          go_ret
          exact ⟨_, rfl, F.out⟩
end Go.Proofs.Ytcigpfnlkjoibaa
