/-
  THE REFERENCE's BitLen.
-/
import Derived.Test.YtmglogncpfoldaaDoorRef6
namespace Go.Proofs.YtmglogncpfoldaaDoor
open Go.RowKit Go.Deep

theorem half_more (x0 : Int) (c : Nat) : x0 / 2 ^ c / 2 = x0 / 2 ^ (c + 1) := by
  rw [Nm.two_add, ← Int.ediv_ediv_of_nonneg (by have := Nm.two_pos c; omega)]
  rfl

set_option maxRecDepth 20000 in
set_option maxHeartbeats 2000000 in
theorem refBitLen_any (p : Option Addr) (n cap : Nat) (zs : List Int) (w : World) (ha : Arg w p n cap zs) :
    Calls Tryd.prog 18 #[.slice p n cap] w fun e w' => (∃ L : Nat, e = .returned (.int .i64 (L : Int)) ∧ Nm.BLen (Nm.val zs) L) ∧ w' = w := by
  obtain ⟨a1, a2, a3, a4, a5⟩ := ha
  have tl := Nm.tsize_le zs
  have S1 := refSize_any p n cap zs w a1 (by omega) a4
  by_cases h0 : Nm.tsize zs = 0
  · rw [h0] at S1
    have HS := hid S1
    have hv := (Nm.tsize_zero_iff a5).1 h0
    have B0 : Hid (Nm.BLen (Nm.val zs) 0) := ⟨by rw [hv]; decide, fun _ => rfl, fun h => by omega⟩
    clear S1 h0 hv
    go_enter Tryd.func18, Tryd.ntmps18
    go_wp2_with fail
    refine HS.out.mono ?_
    rintro e w' ⟨rfl, rfl⟩
    go_wp2
    go_ret
    exact ⟨⟨0, rfl, B0.out⟩, rfl⟩
  · obtain ⟨t, ht⟩ : ∃ t, Nm.tsize zs = t + 1 := ⟨Nm.tsize zs - 1, by omega⟩
    obtain ⟨b, off, rfl, hbw, HC⟩ := a4.at (by omega)
    obtain ⟨x0, hx, X⟩ : ∃ x0, w.cell? ⟨b, off + t, none⟩ = some (.int .u64 x0) ∧ Hid (x0 = zs.getD t 0) := ⟨_, HC.out t (by omega), rfl⟩
    have hx0 : 0 ≤ x0 := by have := a5.at t; have := X.out; omega
    have hx1 : x0 < 18446744073709551616 := by have := a5.at t; have := X.out; omega
    have XP : Hid (0 < x0) := by
      have h := Nm.tsize_top zs (by omega)
      rw [ht, Nat.add_sub_cancel, ← X.out] at h
      show 0 < x0
      omega
    have FIN : Hid (∀ c : Nat, x0 / 2 ^ c = 0 → (c = 0 ∨ 2 ^ (c - 1) ≤ x0) → Nm.BLen (Nm.val zs) (64 * t + c)) := by
      intro c h1 h2
      have hp := Nm.two_pos c
      have hlt : x0 < 2 ^ c := by
        rcases Int.lt_or_le x0 (2 ^ c) with h | h
        · exact h
        · have : 1 ≤ x0 / 2 ^ c := (Int.le_ediv_iff_mul_le hp).2 (by omega)
          omega
      have hc : 1 ≤ c := by
        rcases Nat.eq_zero_or_pos c with h | h
        · subst h
          have := XP.out
          have e : (2 : Int) ^ 0 = 1 := rfl
          omega
        · exact h
      have h3 : (2 : Int) ^ (c - 1) ≤ x0 := by
        rcases h2 with h | h
        · omega
        · exact h
      exact Nm.blen_at zs t c a5 ht hc (by rw [← X.out]; exact h3) (by rw [← X.out]; exact hlt)
    have CB : Hid (∀ c : Nat, 2 ^ (c - 1) ≤ x0 → c ≤ 64) := by
      intro c h
      have h2 : (2 : Int) ^ (c - 1) < 2 ^ 64 := by rw [Nm.two_64]; omega
      rcases Nat.lt_or_ge (c - 1) 64 with h3 | h3
      · omega
      · have := Nm.two_mono h3
        omega
    rw [ht] at S1
    have hS : ((t + 1 : Nat) : Int) = (t : Int) + 1 := by omega
    rw [hS] at S1
    have HS := hid S1
    have htn : (t : Int) < (n : Int) := by omega
    have htb : t ≤ 17592186044000 := by omega
    clear S1 h0 hS ht tl a4
    go_enter Tryd.func18, Tryd.ntmps18
    go_wp2_with fail
    refine HS.out.mono ?_
    rintro e w' ⟨rfl, rfl⟩
    go_wp2_with fail
    go_loop [4, 5] (fun s y => ∃ (c S : Nat) (x : Int), Hid (S = 64 * t + c) ∧ S ≤ 1125899906842688 ∧ s = .int .i64 S ∧ y = .int .u64 x ∧ 0 ≤ x ∧ x ≤ x0 ∧ Hid (x = x0 / 2 ^ c) ∧ Hid (c = 0 ∨ 2 ^ (c - 1) ≤ x0)) (fun _ y => (intOf y).toNat)
    case atStart => exact ⟨0, 64 * t, x0, rfl, by omega, by first | rfl | go_num, rfl, hx0, by omega, by simp [Hid], .inl rfl⟩
    case round =>
      obtain ⟨c, S, x, HSS, hS, rfl, rfl, h1, h2, HX, HCc⟩ := hrel
      by_cases hz : x = 0
      · have hz' : ¬ (0 : Int) < x := by omega
        have E : Hid (Nm.BLen (Nm.val zs) S) := by rw [HSS.out]; exact FIN.out c (by rw [← HX.out]; exact hz) HCc.out
        clear hz
        go_wp2
        go_ret
        exact ⟨⟨S, rfl, E.out⟩, rfl⟩
      · have hz' : (0 : Int) < x := by omega
        have P1 : Hid (2 ^ c ≤ x0) := by
          have h := HX.out
          have hp := Nm.two_pos c
          have : 1 ≤ x0 / 2 ^ c := by omega
          have := (Int.le_ediv_iff_mul_le hp).1 this
          show _ ≤ _
          omega
        have hc64 : c + 1 ≤ 64 := CB.out (c + 1) (by rw [Nat.add_sub_cancel]; exact P1.out)
        have hS2 : S + 1 ≤ 1125899906842688 := by have := HSS.out; omega
        obtain ⟨y, hy, Y⟩ : ∃ y, x / 2 = y ∧ Hid (y = x / 2) := ⟨_, rfl, rfl⟩
        have hy0 : 0 ≤ y := by omega
        have hyx : y < x := by omega
        have YX : Hid (y = x0 / 2 ^ (c + 1)) := by rw [Hid, Y.out, HX.out, half_more]
        clear hz
        go_wp2
        go_round
        case rel => exact ⟨c + 1, S + 1, y, by have := HSS.out; show _ = _; omega, hS2, by go_num, by rw [hy], hy0, by omega, YX.out, .inr (by rw [Nat.add_sub_cancel]; exact P1.out)⟩
        case measure => simp [intOf]; omega
end Go.Proofs.YtmglogncpfoldaaDoor
