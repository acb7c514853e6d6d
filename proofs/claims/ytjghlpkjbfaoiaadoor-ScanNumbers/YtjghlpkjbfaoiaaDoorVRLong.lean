/-
  abacusref08: ends, Blank, Blanks, Longest.
-/
import Derived.Test.YtjghlpkjbfaoiaaDoorVRStep
namespace Go.Proofs.YtjghlpkjbfaoiaaDoor
open Go Go.RowKit Go.Deep

theorem ends_any (s : Nat) (w : World) (hs : s < 10) : Calls Tryd.prog 59 #[.int .i64 (s : Int)] w fun e w' => e = .returned (.bool (Sc.fin s)) ∧ w' = w := by
  rcases (show s = 0 ∨ s = 1 ∨ s = 2 ∨ s = 3 ∨ s = 4 ∨ s = 5 ∨ s = 6 ∨ s = 7 ∨ s = 8 ∨ s = 9 by omega) with rfl | rfl | rfl | rfl | rfl | rfl | rfl | rfl | rfl | rfl
  all_goals
    go_enter Tryd.func59, Tryd.ntmps59
    go_wp2_with fail
    go_ret
    exact ⟨rfl, rfl⟩

theorem nx_le (s k : Nat) (hs : s < 9) (hk : k < 5) : Sc.nx s k < 10 := by
  rcases (show s = 0 ∨ s = 1 ∨ s = 2 ∨ s = 3 ∨ s = 4 ∨ s = 5 ∨ s = 6 ∨ s = 7 ∨ s = 8 by omega) with rfl | rfl | rfl | rfl | rfl | rfl | rfl | rfl | rfl <;>
    rcases (show k = 0 ∨ k = 1 ∨ k = 2 ∨ k = 3 ∨ k = 4 by omega) with rfl | rfl | rfl | rfl | rfl <;> decide

theorem rblank_any (x : Int) (w : World) (h0 : 0 ≤ x) (h1 : x < 256) : Calls Tryd.prog 57 #[.int .u8 x] w fun e w' => e = .returned (.bool (Sc.bl x)) ∧ w' = w := by
  go_enter Tryd.func57, Tryd.ntmps57
  go_wp2
  all_goals (go_ret; refine ⟨vret_bool ?_, rfl⟩)
  all_goals (rw [Bool.eq_iff_iff]; simp [Sc.bl]; omega)

set_option maxRecDepth 100000 in
theorem rblanks_any (s : ByteArray) (xs : List Int) (w : World) (hs : Str s xs) (hn : xs.length ≤ 562949953421312) : Calls Tryd.prog 43 #[.string s] w fun e w' => e = .returned (.int .i64 ((Sc.run Sc.bl xs 0 : Nat) : Int)) ∧ w' = w := by
  have HS := hid hs
  have HN := hid hn
  have hsz := hs.size
  clear hs hn
  go_enter Tryd.func43, Tryd.ntmps43
  go_wp2_with fail
  go_loop [3] (fun c => ∃ j : Nat, c = .int .i64 j ∧ Hid (j ≤ xs.length ∧ Sc.run Sc.bl xs 0 = j + Sc.run Sc.bl xs j)) (fun c => match c with | .int _ j => xs.length - j.toNat | _ => 0)
  case atStart => exact ⟨0, rfl, Nat.zero_le _, (Nat.zero_add _).symm⟩
  case round =>
    obtain ⟨j, rfl, I⟩ := hrel
    have hj : (j : Int) ≤ 562949953421312 := by have := I.out.1; have := HN.out; omega
    have hx := HS.out.pk j
    by_cases h : j < xs.length
    · have hji : (j : Int) < (xs.length : Int) := by omega
      have b : 0 ≤ Sc.pk xs j ∧ Sc.pk xs j < 256 := HS.out.atb j
      have B := hid (rblank_any (Sc.pk xs j) w b.1 b.2)
      cases hb : Sc.bl (Sc.pk xs j) with
      | true =>
        have R := hid (Sc.run_succ Sc.bl0 hb)
        rw [hb] at B
        clear hb
        generalize Sc.pk xs j = x at *
        go_wp2_with fail
        refine B.out.mono ?_
        rintro e w1 ⟨rfl, rfl⟩
        go_wp2_with fail
        go_round
        case rel => exact ⟨j + 1, by go_num, by have := I.out.2; have := R.out; show _ ∧ _; omega⟩
        case measure => simp; omega
      | false =>
        have R := hid (Sc.run_zero Sc.bl0 hb)
        rw [hb] at B
        clear hb
        generalize Sc.pk xs j = x at *
        go_wp2_with fail
        refine B.out.mono ?_
        rintro e w1 ⟨rfl, rfl⟩
        go_wp2_with fail
        go_ret
        exact ⟨congrArg (fun z => Ending.returned (.int .i64 z)) (by have := I.out.2; have := R.out; omega), rfl⟩
    · have hji : ¬ (j : Int) < (xs.length : Int) := by omega
      have R : Hid (Sc.run Sc.bl xs j = 0) := Sc.run_zero Sc.bl0 (by rw [Sc.pk_ge (by omega)]; rfl)
      go_wp2_with fail
      go_ret
      exact ⟨congrArg (fun z => Ending.returned (.int .i64 z)) (by have := I.out.2; have := R.out; omega), rfl⟩

set_option maxRecDepth 100000 in
set_option maxHeartbeats 2000000 in
theorem rlongest_any (s : ByteArray) (xs : List Int) (k : Nat) (w : World) (hs : Str s xs) (hn : xs.length ≤ 562949953421312) (hk : k ≤ xs.length) :
    Calls Tryd.prog 44 #[.string s, .int .i64 k] w fun e w' => e = .returned (.int .i64 (Sc.res xs k : Nat)) ∧ Below w.heap.size w w' := by
  have HS := hid hs
  have HN := hid hn
  have hsz := hs.size
  have SP := hid (fun (j s' : Nat) wx (h : s' < 9) => step_any s' (Sc.pk xs j) wx h (hs.atb j).1 (hs.atb j).2)
  have I0 : Hid (Sc.LI xs k k 0 k ∧ k ≤ xs.length) := ⟨.s0, hk⟩
  clear hs hn hk
  go_enter Tryd.func44, Tryd.ntmps44
  go_wp2_with fail
  go_loopw [5, 6, 7] (fun st la i wr => ∃ s' last j : Nat, st = .int .i64 s' ∧ la = .int .i64 last ∧ i = .int .i64 j ∧ Hid (Sc.LI xs k j s' last ∧ j ≤ xs.length ∧ Below w.heap.size w wr)) (fun _ _ i _ => xs.length - (vInt i).toNat)
  case atStart => exact ⟨0, k, k, rfl, rfl, rfl, I0.out.1, I0.out.2, Below.refl _ _⟩
  case round =>
    obtain ⟨s', last, j, rfl, rfl, rfl, I⟩ := hrel
    have hjb : (j : Int) ≤ 562949953421312 := by have := I.out.2.1; have := HN.out; omega
    by_cases hj : j < xs.length
    · obtain ⟨q1, q2, q3, q4, q5⟩ := I.out.1.step
      have hji : (j : Int) < (xs.length : Int) := by omega
      have hx := HS.out.pk j
      have S1 := hid (fun wx => SP.out j s' wx q1)
      have hn10 := nx_le s' _ q1 (Sc.srt_lt (Sc.pk xs j))
      generalize Sc.nx s' (Sc.srt (Sc.pk xs j)) = n at *
      by_cases h9 : n = 9
      · have F := hid (q4 h9)
        subst h9
        clear q4 q5 q2 q3 q1 hn10
        generalize Sc.pk xs j = x at *
        go_wp2_with fail
        refine (S1.out _).mono ?_
        rintro e w1 ⟨rfl, hB⟩
        have D := hid (below_on I.out.2.2 hB)
        clear hB
        go_wp2_with fail
        go_ret
        exact ⟨vret_i (by rw [F.out]), D.out⟩
      · have Q := hid (q5 h9)
        have h9b : ((n : Int) == 9) = false := by rw [beq_eq_false_iff_ne]; omega
        have h9c : ¬ (n : Int) = 9 := by omega
        have E := hid (fun wx => ends_any n wx hn10)
        clear q4 q5 q2 q3 q1 hn10 h9
        generalize Sc.pk xs j = x at *
        cases hf : Sc.fin n with
        | true =>
          rw [hf] at Q E
          clear hf
          go_wp2_with fail
          refine (S1.out _).mono ?_
          rintro e w1 ⟨rfl, hB⟩
          have D := hid (below_on I.out.2.2 hB)
          clear hB
          go_wp2_with fail
          refine (E.out _).mono ?_
          rintro e w2 ⟨rfl, rfl⟩
          go_wp2_with fail
          go_roundw
          case rel => exact ⟨n, j + 1, j + 1, rfl, by go_num, by go_num, Q.out, hj, D.out⟩
          case measure => simp [vInt]; omega
        | false =>
          rw [hf] at Q E
          clear hf
          go_wp2_with fail
          refine (S1.out _).mono ?_
          rintro e w1 ⟨rfl, hB⟩
          have D := hid (below_on I.out.2.2 hB)
          clear hB
          go_wp2_with fail
          refine (E.out _).mono ?_
          rintro e w2 ⟨rfl, rfl⟩
          go_wp2_with fail
          go_roundw
          case rel => exact ⟨n, last, j + 1, rfl, rfl, by go_num, Q.out, hj, D.out⟩
          case measure => simp [vInt]; omega
    · have hji : ¬ (j : Int) < (xs.length : Int) := by omega
      have F := hid (I.out.1.done (by omega))
      go_wp2_with fail
      go_ret
      exact ⟨vret_i (by rw [F.out]), I.out.2.2⟩
end Go.Proofs.YtjghlpkjbfaoiaaDoor
