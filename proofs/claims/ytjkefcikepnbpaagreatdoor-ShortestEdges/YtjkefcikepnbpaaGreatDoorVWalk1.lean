/-
  scan's small functions: Blank, digit, peek, pastSign, blanks.
-/
import Derived.Test.YtjkefcikepnbpaaGreatDoorVDig
namespace Go.Proofs.YtjkefcikepnbpaaGreatDoor
open Go Go.RowKit Go.Deep


theorem blank_any (x : Int) (w : World) (h0 : 0 ≤ x) (h1 : x < 256) : Calls Tryz.prog 74 #[.int .u8 x] w fun e w' => e = .returned (.bool (Sc.bl x)) ∧ w' = w := by
  go_enter Tryz.func74, Tryz.ntmps74
  go_wp2
  all_goals (go_ret; refine ⟨vret_bool ?_, rfl⟩)
  all_goals (rw [Bool.eq_iff_iff]; simp [Sc.bl]; omega)





theorem peek_any (s : ByteArray) (xs : List Int) (k : Nat) (w : World) (hs : Str s xs) (hn : xs.length ≤ 562949953421312) : Calls Tryz.prog 71 #[.string s, .int .i64 k] w fun e w' => e = .returned (.int .u8 (Sc.pk xs k)) ∧ w' = w := by
  have hsz := hs.size
  have hx := hs.pk k
  have HS := hid hs
  have HN := hid hn
  clear hs hn
  by_cases h : k < xs.length
  · have h1 : (k : Int) < (xs.length : Int) := by omega
    go_enter Tryz.func71, Tryz.ntmps71
    go_wp2
    all_goals (go_ret; first | exact ⟨rfl, rfl⟩ | omega)
  · have h1 : ¬ (k : Int) < (xs.length : Int) := by omega
    have e : Sc.pk xs k = 0 := Sc.pk_ge (by omega)
    go_enter Tryz.func71, Tryz.ntmps71
    go_wp2
    all_goals (go_ret; first | exact ⟨rfl, rfl⟩ | exact ⟨by rw [e], rfl⟩ | omega)

theorem past_any (s : ByteArray) (xs : List Int) (k : Nat) (w : World) (hs : Str s xs) (hn : xs.length ≤ 562949953421312) (hk : k ≤ xs.length + 1) : Calls Tryz.prog 72 #[.string s, .int .i64 k] w fun e w' => e = .returned (.int .i64 ((k + Sc.sg xs k : Nat) : Int)) ∧ w' = w := by
  have P := hid (peek_any s xs k w hs hn)
  have b := hs.atb k
  have hx : Sc.pk xs k = xs.getD k 0 := rfl
  rw [← hx] at b
  have hk2 : (k : Int) ≤ 562949953421313 := by omega
  have S : Hid (∀ r : Int, (Sc.pk xs k = 43 ∨ Sc.pk xs k = 45 → r = (k : Int) + 1) → (¬ (Sc.pk xs k = 43 ∨ Sc.pk xs k = 45) → r = (k : Int)) → Ending.returned (.int .i64 r) = .returned (.int .i64 ((k + Sc.sg xs k : Nat) : Int))) := fun r h1 h2 => by
    unfold Sc.sg
    by_cases c : Sc.pk xs k = 43 ∨ Sc.pk xs k = 45
    · rw [if_pos c, h1 c]; rfl
    · rw [if_neg c, h2 c]; rfl
  clear hs hn hk hx
  generalize Sc.pk xs k = x at *
  have hc : x = 43 ∨ x = 45 ∨ ((x == 43) = false ∧ (x == 45) = false ∧ x ≠ 43 ∧ x ≠ 45) := by
    by_cases c1 : x = 43
    · exact .inl c1
    · by_cases c2 : x = 45
      · exact .inr (.inl c2)
      · exact .inr (.inr ⟨by rw [beq_eq_false_iff_ne]; exact c1, by rw [beq_eq_false_iff_ne]; exact c2, c1, c2⟩)
  rcases hc with rfl | rfl | ⟨c1, c2, c3, c4⟩
  all_goals go_enter Tryz.func72, Tryz.ntmps72
  all_goals (go_wp2_with fail; refine P.out.mono ?_; rintro e w1 ⟨rfl, rfl⟩; clear P; go_wp2_with fail; go_ret; refine ⟨?_, rfl⟩; refine S.out _ ?_ ?_)
  all_goals (intro hh; first | omega | (exfalso; revert hh; decide))

set_option maxRecDepth 100000 in
theorem blanks_any (s : ByteArray) (xs : List Int) (k : Nat) (w : World) (hs : Str s xs) (hn : xs.length ≤ 562949953421312) (hk : k ≤ xs.length) : Calls Tryz.prog 53 #[.string s, .int .i64 k] w fun e w' => e = .returned (.int .i64 ((k + Sc.run Sc.bl xs k : Nat) : Int)) ∧ w' = w := by
  have HS := hid hs
  have HN := hid hn
  have hsz := hs.size
  have HK := hid hk
  clear hs hn hk
  go_enter Tryz.func53, Tryz.ntmps53
  go_wp2_with fail
  go_loop [1] (fun c => ∃ j : Nat, c = .int .i64 j ∧ Hid (j ≤ xs.length ∧ k + Sc.run Sc.bl xs k = j + Sc.run Sc.bl xs j)) (fun c => match c with | .int _ j => xs.length - j.toNat | _ => 0)
  case atStart => exact ⟨k, rfl, HK.out, rfl⟩
  case round =>
    obtain ⟨j, rfl, I⟩ := hrel
    have hj : (j : Int) ≤ 562949953421312 := by have := I.out.1; have := HN.out; omega
    have hx := HS.out.pk j
    by_cases h : j < xs.length
    · have hji : (j : Int) < (xs.length : Int) := by omega
      have b : 0 ≤ Sc.pk xs j ∧ Sc.pk xs j < 256 := HS.out.atb j
      have B := hid (blank_any (Sc.pk xs j) w b.1 b.2)
      cases hb : Sc.bl (Sc.pk xs j) with
      | true =>
        have R := hid (Sc.run_succ Sc.bl0 hb)
        rw [hb] at B
        clear hb
        generalize Sc.pk xs j = x at *
        go_wp2_with fail
        refine B.out.mono ?_
        rintro e w1 ⟨rfl, rfl⟩
        go_wp2_with fail
        go_round
        case rel => exact ⟨j + 1, by go_num, by have := I.out.2; have := R.out; show _ ∧ _; omega⟩
        case measure => simp; omega
      | false =>
        have R := hid (Sc.run_zero Sc.bl0 hb)
        rw [hb] at B
        clear hb
        generalize Sc.pk xs j = x at *
        go_wp2_with fail
        refine B.out.mono ?_
        rintro e w1 ⟨rfl, rfl⟩
        go_wp2_with fail
        go_ret
        exact ⟨congrArg (fun z => Ending.returned (.int .i64 z)) (by have := I.out.2; have := R.out; omega), rfl⟩
    · have hji : ¬ (j : Int) < (xs.length : Int) := by omega
      have R : Hid (Sc.run Sc.bl xs j = 0) := Sc.run_zero Sc.bl0 (by rw [Sc.pk_ge (by omega)]; rfl)
      go_wp2_with fail
      go_ret
      exact ⟨congrArg (fun z => Ending.returned (.int .i64 z)) (by have := I.out.2; have := R.out; omega), rfl⟩
end Go.Proofs.YtjkefcikepnbpaaGreatDoor
