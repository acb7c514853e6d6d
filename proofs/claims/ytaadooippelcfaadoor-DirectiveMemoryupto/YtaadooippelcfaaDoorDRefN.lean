/-
  abacusref13's bit, number.
-/
import Derived.Test.YtaadooippelcfaaDoorGD
namespace Go.Proofs.YtaadooippelcfaaDoor
open Go Go.RowKit Go.Deep

set_option maxRecDepth 100000 in
theorem rbit_any (c : Int) (w : World) (hc : 0 ≤ Dr.idx Dr.marks c) :
    Calls Tryd.prog 24 #[.int .u8 c] w fun e w' => e = .returned (.int .i64 (2 ^ (Dr.idx Dr.marks c).toNat)) ∧ w' = w := by
  have IX := hid (fun W => rat_any ⟨#[45, 43, 32, 35, 48]⟩ Dr.marks c W rfl (by decide))
  have lt := Dr.idx_lt Dr.marks c
  rw [show ((Dr.marks.length : Nat) : Int) = 5 from rfl] at lt
  generalize Dr.idx Dr.marks c = i at *
  rcases (show i = 0 ∨ i = 1 ∨ i = 2 ∨ i = 3 ∨ i = 4 by omega) with rfl | rfl | rfl | rfl | rfl
  all_goals
    clear hc lt
    go_enter Tryd.func24, Tryd.ntmps24
    go_wp2_with (go_at_call 26; refine (IX.out _).mono ?_; rintro e w2 ⟨rfl, rfl⟩)
    refine wp_loop_rounds 5 ?_
    iterate 5
      (try rw [rounds_succ]; go_wp2_with fail)
    go_ret
    exact ⟨rfl, rfl⟩

theorem dN_step {xs : List Int} {i : Nat} {n : Int} (hi : i < xs.length) (hd : Dr.isD (xs.getD i 0) = true) : Dr.dN n (xs.drop i) = Dr.dN (min (10 * n + (xs.getD i 0 - 48)) 4097) (xs.drop (i + 1)) := by
  rw [List.drop_eq_getElem_cons hi, Dr.dN]
  have e : xs.getD i 0 = xs[i] := by rw [List.getD_eq_getElem?_getD, List.getElem?_eq_getElem hi]; rfl
  rw [e] at hd ⊢
  rw [if_pos hd]

set_option maxRecDepth 100000 in
set_option maxHeartbeats 1000000 in
theorem rnumber_any (s : ByteArray) (xs : List Int) (w : World) (hs : Str s xs) (hl : xs.length ≤ 140737488355328) (hd : ∀ i, i < xs.length → Dr.isD (xs.getD i 0) = true) :
    Calls Tryd.prog 25 #[.string s] w fun e w' => e = .returned (.int .i64 (Dr.dN 0 xs)) ∧ w' = w := by
  have SX := hid hs.size
  have HL := hid hl
  have HS := hid hs
  have HD := hid hd
  clear hs hl hd
  go_enter Tryd.func25, Tryd.ntmps25
  go_wp2_with fail
  go_loopg [3, 4] s.size (fun m nv k wr => ∃ (i : Nat) (n : Int), i + m = s.size ∧ nv = .int .i64 n ∧ k = .int .i64 (i : Int) ∧ wr = w ∧ Hid (0 ≤ n ∧ n ≤ 4097 ∧ Dr.dN n (xs.drop i) = Dr.dN 0 xs))
  case atStart => exact ⟨0, 0, by omega, rfl, rfl, rfl, by omega, by omega, by rw [List.drop_zero]⟩
  case round =>
    obtain ⟨i, n, hi, rfl, rfl, rfl, I⟩ := hrel
    obtain ⟨n0, n1, nE⟩ := I.out
    by_cases il : i < s.size
    · have ili : (i : Int) < (s.size : Int) := by omega
      have ib : (i : Int) ≤ 140737488355328 := by have := HL.out; have := SX.out; omega
      have dg := HD.out i (by have := SX.out; omega)
      have ST := dN_step (n := n) (by have := SX.out; omega : i < xs.length) dg
      obtain ⟨x, hx⟩ : ∃ x, xs.getD i 0 = x := ⟨_, rfl⟩
      have ki : ∀ h : i < s.size, ((s[i]'h).toNat : Int) = x := fun h => hx ▸ HS.out.at i h
      rw [hx] at dg ST
      obtain ⟨x0, x1⟩ := Dr.isD_iff.1 dg
      have NX := hid (ST.symm.trans nE)
      clear I nE ST dg hx
      by_cases hb : 4096 < 10 * n + (x - 48)
      · rw [Int.min_eq_right (by omega)] at NX
        go_wp2_with fail
        go_roundg (s.size - (i + 1))
        case measure => omega
        case rel => exact ⟨i + 1, 4097, by omega, rfl, by go_num, rfl, by omega, by omega, NX.out⟩
      · rw [Int.min_eq_left (by omega)] at NX
        go_wp2_with fail
        go_roundg (s.size - (i + 1))
        case measure => omega
        case rel => exact ⟨i + 1, _, by omega, rfl, by go_num, rfl, by omega, by omega, NX.out⟩
    · have ili : ¬ (i : Int) < (s.size : Int) := by omega
      have E : Hid (n = Dr.dN 0 xs) := by
        rw [List.drop_of_length_le (by have := SX.out; omega)] at nE
        exact nE
      clear I nE
      go_wp2_with fail
      go_ret
      exact ⟨by rw [← E.out]; rfl, rfl⟩
end Go.Proofs.YtaadooippelcfaaDoor
