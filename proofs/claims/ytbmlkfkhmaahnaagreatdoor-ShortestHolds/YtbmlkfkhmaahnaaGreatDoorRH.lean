/-
  Texts put together: INear2, IRoundN, IRound, KNum, KNum2, KWide, KRow, KStep.
-/
import Derived.Test.YtbmlkfkhmaahnaaGreatDoorRG
import Derived.Test.YtbmlkfkhmaahnaaGreatDoorRC
import Derived.Test.YtbmlkfkhmaahnaaGreatDoorBits
import Derived.Test.YtbmlkfkhmaahnaaGreatDoorBitsA
import Derived.Test.YtbmlkfkhmaahnaaGreatDoorV0
import Derived.Deep.Cut
import Derived.Deep.RegionHeld3
import Derived.Test.YtbmlkfkhmaahnaaGreatDoorRB
import Derived.Test.YtbmlkfkhmaahnaaGreatDoorQDivOk
/-
  ieee: nearest (made by mknear.py).
-/
namespace Go.Proofs.YtbmlkfkhmaahnaaGreatDoor
open Go Go.RowKit Go.Deep

set_option maxRecDepth 100000 in
set_option maxHeartbeats 2000000 in
theorem nearest_up (p : Option Addr) (n cap : Nat) (zs : List Int) (w : World) (ha : Arg w p n cap zs) (hT : Tab w) (tz : Nm.tsize zs ≤ 4096) (V e u : Int) (L j U : Nat) (more : Bool) (hV : Nm.val zs = V) (hL : blen zs = (L : Int)) (hL0 : 0 < L) (hL2 : L ≤ 262144) (hbig : (L : Int) + e ≤ 1024) (hsm : -8000000 ≤ e)
    (hj : e - u = (j : Int)) (hj2 : j ≤ 64) (hU : u + 1074 = (U : Int)) (hU2 : U ≤ 2045) (hm : V * 2 ^ j < 9007199254740992) (hmax : ((L : Int) + e - 53 < -1074 ∧ u = -1074) ∨ (-1074 ≤ (L : Int) + e - 53 ∧ u = (L : Int) + e - 53)) :
    Calls Tryz.prog 192 #[.slice p n cap, .int .i64 e, .bool more] w fun r w' => r = .returned (.int .u64 ((U : Int) * 4503599627370496 + V * 2 ^ j)) ∧ Below w.heap.size w w' := by
  have v0 : 0 ≤ V := by rw [← hV]; exact (Nm.val_bd zs ha.2.2.2.2).1
  have BL : Hid (Calls Tryz.prog 65 #[.slice p n cap] w fun e w' => e = .returned (.int .i64 (L : Int)) ∧ w' = w) := by
    have := bitLen_any p n cap zs w ha
    rw [hL] at this
    exact this
  obtain ⟨m, hme⟩ : ∃ m, V * 2 ^ j = m := ⟨_, rfl⟩
  have SC : Hid (∀ s : Int, s = (j : Int) → Calls Tryz.prog 198 #[.slice p n cap, .int .i64 s] w fun e w' => e = .returned (.int .u64 m) ∧ Below w.heap.size w w') := by
    intro s hs
    rcases Nat.eq_zero_or_pos j with hj0 | hj0
    · subst hj0
      have e1 : V / 2 ^ 0 = m := by rw [← hme, Int.pow_zero, Int.mul_one, Int.ediv_one]
      have := scaled_down p n cap zs w ha hT tz V s 0 hV (by omega) (by omega) (by rw [e1]; omega)
      rw [e1] at this
      exact this
    · have := scaled_up p n cap zs w ha V s j hV hs hj0 hj2 (by omega)
      rw [hme] at this
      refine this.mono ?_
      rintro e' w' ⟨rfl, rfl⟩
      exact ⟨rfl, Below.refl _ _⟩
  have RU := hid (fun (wx : World) (s : Int) (half : Bool) (h : s ≤ 0) (h2 : -8000000 ≤ s) => up_none p n cap wx s half h h2)
  have m0 : 0 ≤ m := by rw [← hme]; exact Int.mul_nonneg v0 (by have := Nm.two_pos j; omega)
  rw [hme] at hm ⊢
  have B := Ib.one_and m m0 (by omega)
  have l0 : ((L : Int) == 0) = false := by rw [beq_eq_false_iff_ne]; omega
  have l1 : ¬ 1024 < (L : Int) + e := by omega
  have l2 : (L : Int) ≤ 262144 := by omega
  clear ha hV hL hme hL2 v0 hT tz
  rcases hmax with ⟨h, rfl⟩ | ⟨h, rfl⟩ <;> cases more
  · go_enter Tryz.func192, Tryz.ntmps192
    go_wp2_with fail
    refine BL.out.mono ?_
    rintro e' w' ⟨rfl, rfl⟩
    go_wp2_with fail
    refine (SC.out _ (by omega)).mono ?_
    rintro e' w' ⟨rfl, HB⟩
    have HB := hid HB
    go_wp2_with fail
    refine (RU.out _ _ _ (by omega) (by omega)).mono ?_
    rintro e' w' ⟨rfl, rfl⟩
    go_wp2_with fail
    go_ret
    exact ⟨i_retU (by omega), HB.out⟩
  · go_enter Tryz.func192, Tryz.ntmps192
    go_wp2_with fail
    refine BL.out.mono ?_
    rintro e' w' ⟨rfl, rfl⟩
    go_wp2_with fail
    refine (SC.out _ (by omega)).mono ?_
    rintro e' w' ⟨rfl, HB⟩
    have HB := hid HB
    go_wp2_with fail
    refine (RU.out _ _ _ (by omega) (by omega)).mono ?_
    rintro e' w' ⟨rfl, rfl⟩
    go_wp2_with fail
    go_ret
    exact ⟨i_retU (by omega), HB.out⟩
  · go_enter Tryz.func192, Tryz.ntmps192
    go_wp2_with fail
    refine BL.out.mono ?_
    rintro e' w' ⟨rfl, rfl⟩
    go_wp2_with fail
    refine (SC.out _ (by omega)).mono ?_
    rintro e' w' ⟨rfl, HB⟩
    have HB := hid HB
    go_wp2_with fail
    refine (RU.out _ _ _ (by omega) (by omega)).mono ?_
    rintro e' w' ⟨rfl, rfl⟩
    go_wp2_with fail
    go_ret
    exact ⟨i_retU (by omega), HB.out⟩
  · go_enter Tryz.func192, Tryz.ntmps192
    go_wp2_with fail
    refine BL.out.mono ?_
    rintro e' w' ⟨rfl, rfl⟩
    go_wp2_with fail
    refine (SC.out _ (by omega)).mono ?_
    rintro e' w' ⟨rfl, HB⟩
    have HB := hid HB
    go_wp2_with fail
    refine (RU.out _ _ _ (by omega) (by omega)).mono ?_
    rintro e' w' ⟨rfl, rfl⟩
    go_wp2_with fail
    go_ret
    exact ⟨i_retU (by omega), HB.out⟩

set_option maxRecDepth 100000 in
set_option maxHeartbeats 2000000 in
theorem nearest_down (p : Option Addr) (n cap : Nat) (zs : List Int) (w : World) (ha : Arg w p n cap zs) (hT : Tab w) (tz : Nm.tsize zs ≤ 4096) (V e u : Int) (L k U : Nat) (more : Bool) (hV : Nm.val zs = V) (hv : 0 < V) (hL : blen zs = (L : Int)) (hL0 : 0 < L) (hL2 : L ≤ 262144) (hbig : (L : Int) + e ≤ 1024) (hsm : -7000000 ≤ e)
    (hk : u - e = (k : Int) + 1) (hU : u + 1074 = (U : Int)) (hU2 : U ≤ 2045) (hm : V / 2 ^ (k + 1) < 9007199254740992) (hmax : ((L : Int) + e - 53 < -1074 ∧ u = -1074) ∨ (-1074 ≤ (L : Int) + e - 53 ∧ u = (L : Int) + e - 53)) :
    Calls Tryz.prog 192 #[.slice p n cap, .int .i64 e, .bool more] w fun r w' => ∃ up : Bool, r = .returned (.int .u64 ((U : Int) * 4503599627370496 + V / 2 ^ (k + 1) + if up = true then 1 else 0)) ∧
      (up = true ↔ (V / 2 ^ k % 2 = 1 ∧ ((more = true ∨ V / 2 ^ (k + 1) % 2 = 1) ∨ V % 2 ^ k ≠ 0))) ∧ Below w.heap.size w w' := by
  have BL : Hid (Calls Tryz.prog 65 #[.slice p n cap] w fun e w' => e = .returned (.int .i64 (L : Int)) ∧ w' = w) := by
    have := bitLen_any p n cap zs w ha
    rw [hL] at this
    exact this
  obtain ⟨m, hme⟩ : ∃ m, V / 2 ^ (k + 1) = m := ⟨_, rfl⟩
  have SC : Hid (∀ s : Int, s = -((k + 1 : Nat) : Int) → Calls Tryz.prog 198 #[.slice p n cap, .int .i64 s] w fun e w' => e = .returned (.int .u64 m) ∧ Below w.heap.size w w') := by
    intro s hs
    have := scaled_down p n cap zs w ha hT tz V s (k + 1) hV hs (by omega) (by omega)
    rw [hme] at this
    exact this
  have RS : Hid (∀ w' : World, Below w.heap.size w w' → ∀ (s : Int) (half : Bool), s = (k : Int) + 1 → Calls Tryz.prog 199 #[.slice p n cap, .int .i64 s, .bool half] w' fun e w'' => ∃ up, e = .returned (.bool up) ∧ (up = true ↔ (V / 2 ^ k % 2 = 1 ∧ (half = true ∨ V % 2 ^ k ≠ 0))) ∧ w'' = w') := by
    intro w' hB s half hs
    exact up_some p n cap zs w' (ha.below hB (Nat.le_refl _)) (hT.below hB) V s k half hV hv hs (by omega)
  have m0 : 0 ≤ m := by rw [← hme]; exact Int.ediv_nonneg (by omega) (by have := Nm.two_pos (k + 1); omega)
  rw [hme] at hm ⊢
  have B := Ib.one_and m m0 (by omega)
  have l0 : ((L : Int) == 0) = false := by rw [beq_eq_false_iff_ne]; omega
  have l1 : ¬ 1024 < (L : Int) + e := by omega
  have l2 : (L : Int) ≤ 262144 := by omega
  clear ha hV hL hme hL2 hT tz hv
  rcases hmax with ⟨h, rfl⟩ | ⟨h, rfl⟩ <;> cases more
  · go_enter Tryz.func192, Tryz.ntmps192
    go_wp2_with fail
    refine BL.out.mono ?_
    rintro e' w' ⟨rfl, rfl⟩
    go_wp2_with fail
    refine (SC.out _ (by omega)).mono ?_
    rintro e' w' ⟨rfl, HB⟩
    have RU := hid (RS.out w' HB)
    have HB := hid HB
    go_wp2_with fail
    refine (RU.out _ _ (by omega)).mono ?_
    rintro e' w'' ⟨up, rfl, hup, rfl⟩
    have UP := hid hup
    clear hup
    cases up
    · go_wp2_with fail
      go_ret
      exact ⟨false, i_retU (by simp; omega), by simpa using UP.out, HB.out⟩
    · go_wp2_with fail
      go_ret
      exact ⟨true, i_retU (by simp; omega), by simpa using UP.out, HB.out⟩
  · go_enter Tryz.func192, Tryz.ntmps192
    go_wp2_with fail
    refine BL.out.mono ?_
    rintro e' w' ⟨rfl, rfl⟩
    go_wp2_with fail
    refine (SC.out _ (by omega)).mono ?_
    rintro e' w' ⟨rfl, HB⟩
    have RU := hid (RS.out w' HB)
    have HB := hid HB
    go_wp2_with fail
    refine (RU.out _ _ (by omega)).mono ?_
    rintro e' w'' ⟨up, rfl, hup, rfl⟩
    have UP := hid hup
    clear hup
    cases up
    · go_wp2_with fail
      go_ret
      exact ⟨false, i_retU (by simp; omega), by simpa using UP.out, HB.out⟩
    · go_wp2_with fail
      go_ret
      exact ⟨true, i_retU (by simp; omega), by simpa using UP.out, HB.out⟩
  · go_enter Tryz.func192, Tryz.ntmps192
    go_wp2_with fail
    refine BL.out.mono ?_
    rintro e' w' ⟨rfl, rfl⟩
    go_wp2_with fail
    refine (SC.out _ (by omega)).mono ?_
    rintro e' w' ⟨rfl, HB⟩
    have RU := hid (RS.out w' HB)
    have HB := hid HB
    go_wp2_with fail
    refine (RU.out _ _ (by omega)).mono ?_
    rintro e' w'' ⟨up, rfl, hup, rfl⟩
    have UP := hid hup
    clear hup
    cases up
    · go_wp2_with fail
      go_ret
      exact ⟨false, i_retU (by simp; omega), by simpa using UP.out, HB.out⟩
    · go_wp2_with fail
      go_ret
      exact ⟨true, i_retU (by simp; omega), by simpa using UP.out, HB.out⟩
  · go_enter Tryz.func192, Tryz.ntmps192
    go_wp2_with fail
    refine BL.out.mono ?_
    rintro e' w' ⟨rfl, rfl⟩
    go_wp2_with fail
    refine (SC.out _ (by omega)).mono ?_
    rintro e' w' ⟨rfl, HB⟩
    have RU := hid (RS.out w' HB)
    have HB := hid HB
    go_wp2_with fail
    refine (RU.out _ _ (by omega)).mono ?_
    rintro e' w'' ⟨up, rfl, hup, rfl⟩
    have UP := hid hup
    clear hup
    cases up
    · go_wp2_with fail
      go_ret
      exact ⟨false, i_retU (by simp; omega), by simpa using UP.out, HB.out⟩
    · go_wp2_with fail
      go_ret
      exact ⟨true, i_retU (by simp; omega), by simpa using UP.out, HB.out⟩

set_option maxRecDepth 100000 in
theorem nearest_any (p : Option Addr) (n cap : Nat) (zs : List Int) (w : World) (ha : Arg w p n cap zs) (hT : Tab w) (tz : Nm.tsize zs ≤ 4096) (V e : Int) (more : Bool) (hV : Nm.val zs = V) (h0 : -7000000 ≤ e) (h1 : e ≤ 7000000) :
    Calls Tryz.prog 192 #[.slice p n cap, .int .i64 e, .bool more] w fun r w' => ∃ x, r = .returned (.int .u64 x) ∧ Ie.Rnd V 1 e more x ∧ Below w.heap.size w w' := by
  obtain ⟨L, hL, BL, hl, _⟩ := blen_is zs ha.2.2.2.2
  have v0 : 0 ≤ V := by rw [← hV]; exact (Nm.val_bd zs ha.2.2.2.2).1
  rw [hV] at BL
  have hL2 : L ≤ 262144 := by omega
  have B : Hid (Calls Tryz.prog 65 #[.slice p n cap] w fun e w' => e = .returned (.int .i64 (L : Int)) ∧ w' = w) := by
    have := bitLen_any p n cap zs w ha
    rw [hL] at this
    exact this
  rcases (show V = 0 ∨ 0 < V by omega) with hv | hv
  · have hL0 : L = 0 := BL.2.1 hv
    subst hL0
    have R := hid (Ie.rnd_zero 1 e more (by omega))
    rw [hv]
    clear ha hT tz hV hL BL hl hL2 v0 hv
    go_enter Tryz.func192, Tryz.ntmps192
    go_wp2_with fail
    refine B.out.mono ?_
    rintro e' w' ⟨rfl, rfl⟩
    go_wp2_with fail
    go_ret
    exact ⟨0, rfl, R.out, Below.refl _ _⟩
  · obtain ⟨hL1, hp⟩ := BL.2.2 hv
    rcases (show 1024 < (L : Int) + e ∨ (L : Int) + e ≤ 1024 by omega) with hb | hb
    · have R := hid (Ie.rnd_inf V 1 e (L - 1) 0 more hp (by decide) (by omega))
      have l0 : ((L : Int) == 0) = false := by rw [beq_eq_false_iff_ne]; omega
      have l2 : (L : Int) ≤ 262144 := by omega
      clear ha hT tz hV hL BL hl hL2 v0 hv hp hL1
      go_enter Tryz.func192, Tryz.ntmps192
      go_wp2_with fail
      refine B.out.mono ?_
      rintro e' w' ⟨rfl, rfl⟩
      go_wp2_with fail
      go_ret
      exact ⟨_, rfl, R.out, Below.refl _ _⟩
    · obtain ⟨u, hu⟩ : ∃ u : Int, ((L : Int) + e - 53 < -1074 ∧ u = -1074) ∨ (-1074 ≤ (L : Int) + e - 53 ∧ u = (L : Int) + e - 53) := by
        rcases (show (L : Int) + e - 53 < -1074 ∨ -1074 ≤ (L : Int) + e - 53 by omega) with h | h
        · exact ⟨_, .inl ⟨h, rfl⟩⟩
        · exact ⟨_, .inr ⟨h, rfl⟩⟩
      obtain ⟨U, hU⟩ : ∃ U : Nat, u + 1074 = (U : Int) := ⟨(u + 1074).toNat, by omega⟩
      have e53 : (2 : Int) ^ 53 = 9007199254740992 := by decide
      rcases (show u ≤ e ∨ e < u by omega) with hd | hd
      · obtain ⟨j, hj⟩ : ∃ j : Nat, e - u = (j : Int) := ⟨(e - u).toNat, by omega⟩
        have hj53 : L + j ≤ 53 := by omega
        have hm : V * 2 ^ j < 9007199254740992 := by
          have g1 : V * 2 ^ j < 2 ^ (L + j) := by rw [Nm.two_add]; exact Int.mul_lt_mul_of_pos_right BL.1 (Nm.two_pos j)
          have g2 := Nm.two_mono hj53
          omega
        refine (nearest_up p n cap zs w ha hT tz V e u L j U more hV hL (by omega) hL2 hb (by omega) hj (by omega) hU (by omega) hm hu).mono ?_
        rintro r w' ⟨rfl, hB⟩
        exact ⟨_, rfl, Ie.rnd_exact V e L j U more hv hp hL1 BL.1 hj53 (by omega) (by omega) (by omega), hB⟩
      · obtain ⟨k, hk⟩ : ∃ k : Nat, u - e = (k : Int) + 1 := ⟨(u - e - 1).toNat, by omega⟩
        have hk53 : L ≤ k + 1 + 53 := by omega
        have hm : V / 2 ^ (k + 1) < 9007199254740992 := by
          rw [Int.ediv_lt_iff_lt_mul (Nm.two_pos _)]
          have g := Nm.two_mono hk53
          rw [Nm.two_add, e53] at g
          rw [Int.mul_comm]
          have := BL.1
          omega
        refine (nearest_down p n cap zs w ha hT tz V e u L k U more hV hv hL (by omega) hL2 hb (by omega) hk hU (by omega) hm hu).mono ?_
        rintro r w' ⟨up, rfl, hup, hB⟩
        refine ⟨_, rfl, Ie.rnd_cut V e L (k + 1) U more up hv hp hL1 BL.1 (by omega) (by omega) (by omega) (by omega) ?_, hB⟩
        rw [hup, Nat.add_sub_cancel]
        constructor
        · rintro ⟨g1, (g | g) | g⟩
          · exact ⟨by omega, g1, .inl g⟩
          · exact ⟨by omega, g1, .inr (.inl g)⟩
          · exact ⟨by omega, g1, .inr (.inr g)⟩
        · rintro ⟨_, g1, g | g | g⟩
          · exact ⟨g1, .inl (.inl g)⟩
          · exact ⟨g1, .inl (.inr g)⟩
          · exact ⟨g1, .inr g⟩
end Go.Proofs.YtbmlkfkhmaahnaaGreatDoor

/-
  ieee: Round.
-/
namespace Go.Proofs.YtbmlkfkhmaahnaaGreatDoor
open Go Go.RowKit Go.Deep

namespace Ie
theorem win_ok {n d e x : Int} {more : Bool} (L M : Nat) (n0 : 0 ≤ n) (hn : n < 2 ^ L) (d0 : 0 < d) (hd : d ≤ 2 ^ M) (hL : L ≤ 262144) (hM : M ≤ 262144) (h : Rnd n d (win e) more x) : Rnd n d e more x := by
  rcases (show win e = e ∨ (win e = 2097152 ∧ 2097152 < e) ∨ (win e = -2097152 ∧ e < -2097152) by simp only [win]; omega) with g | ⟨g, g'⟩ | ⟨g, g'⟩
  · rw [g] at h; exact h
  · rw [g] at h
    rcases (show n = 0 ∨ 0 < n by omega) with h0 | h0
    · subst h0
      have := h.one d0 d0 (rnd_zero d 2097152 more d0) (a := 0) (a' := 0) (by omega) rfl
      rw [this]
      exact rnd_zero d e more d0
    · have p0 : (2 : Int) ^ 0 ≤ n := by rw [Int.pow_zero]; omega
      have := h.one d0 d0 (rnd_inf n d 2097152 0 M more p0 hd (by omega)) (a := 0) (a' := 0) (by omega) rfl
      rw [this]
      exact rnd_inf n d e 0 M more p0 hd (by omega)
  · rw [g] at h
    have p0 : (2 : Int) ^ 0 ≤ d := by rw [Int.pow_zero]; omega
    have := h.one d0 d0 (rnd_small n d (-2097152) L 0 more hn p0 (by omega)) (a := 0) (a' := 0) (by omega) rfl
    rw [this]
    exact rnd_small n d e L 0 more hn p0 (by omega)

theorem win_bd (e : Int) : -2097152 ≤ win e ∧ win e ≤ 2097152 := by simp only [win]; omega
end Ie
end Go.Proofs.YtbmlkfkhmaahnaaGreatDoor

/-
  ieee: Round.
-/
namespace Go.Proofs.YtbmlkfkhmaahnaaGreatDoor
open Go Go.RowKit Go.Deep


set_option maxRecDepth 100000 in
set_option maxHeartbeats 2000000 in
theorem round_any (neg : Bool) (p : Option Addr) (n cap : Nat) (zs : List Int) (w : World) (ha : Arg w p n cap zs) (hT : Tab w) (tz : Nm.tsize zs ≤ 4096) (V e : Int) (more : Bool) (hV : Nm.val zs = V) :
    Calls Tryz.prog 188 #[.bool neg, .slice p n cap, .int .i64 e, .bool more] w fun r w' => ∃ x, r = .returned (.tuple #[.int .u64 (Ie.sg neg x), .int .i64 0]) ∧ Ie.Rnd V 1 e more x ∧ Below w.heap.size w w' := by
  obtain ⟨L, hL, BL, hl, _⟩ := blen_is zs ha.2.2.2.2
  rw [hV] at BL
  have B1 := hid (bitLen_n L p n cap zs w ha hL)
  have v0 : 0 ≤ V := by rw [← hV]; exact (Nm.val_bd zs ha.2.2.2.2).1
  have WI := hid (fun (x : Int) => Ie.win_ok (n := V) (d := 1) (e := e) (x := x) (more := more) L 0 v0 BL.1 (by omega) (by decide) (by omega) (by omega))
  have W0 := hid (within_any e w)
  obtain ⟨we, hwe⟩ : ∃ we, Ie.win e = we := ⟨_, rfl⟩
  have wb := Ie.win_bd e
  rw [hwe] at wb W0 WI
  have NR := hid (nearest_any p n cap zs w ha hT tz V we more hV (by omega) (by omega))
  have l1 : decide (262144 < (L : Int)) = false := by simp; omega
  clear ha hT tz hV hL BL hl v0 hwe wb
  go_enter Tryz.func188, Tryz.ntmps188
  go_wp2_with fail
  refine B1.out.mono ?_
  rintro e' w' ⟨rfl, rfl⟩
  go_wp2_with fail
  refine W0.out.mono ?_
  rintro e' w' ⟨rfl, rfl⟩
  go_wp2_with fail
  refine NR.out.mono ?_
  rintro e' w1 ⟨x, rfl, R, hB⟩
  have bd := R.bd
  have R1 := hid (WI.out x R)
  have SG := hid (signed_any neg x w1 bd.1 (by omega))
  have HB := hid hB
  clear R bd hB
  go_wp2_with fail
  refine SG.out.mono ?_
  rintro e' w2 ⟨rfl, rfl⟩
  go_wp2_with fail
  go_ret2
  exact ⟨x, rfl, R1.out, HB.out⟩
end Go.Proofs.YtbmlkfkhmaahnaaGreatDoor

/-
  The rows of the table, and what is rounded by them: plain numbers.
-/
namespace Go.Proofs.YtbmlkfkhmaahnaaGreatDoor
namespace Ie

/-- Between two numbers with one head, of 55 bits at least, and something behind it, there is no middle. -/
theorem head_side (h l l' : Int) (y : Int) (a b : Nat) (h0 : 18014398509481984 ≤ h) (l0 : 0 < l) (l1 : l < 18446744073709551616) (k0 : 0 < l') (k1 : l' < 18446744073709551616) (hy : 0 ≤ y) :
    (md y * 2 ^ b < (h * 18446744073709551616 + l) * 2 ^ a ∧ md y * 2 ^ b < (h * 18446744073709551616 + l') * 2 ^ a) ∨
      ((h * 18446744073709551616 + l) * 2 ^ a < md y * 2 ^ b ∧ (h * 18446744073709551616 + l') * 2 ^ a < md y * 2 ^ b) := by
  obtain ⟨M, E, hM, M0, M1⟩ := md_form y hy
  have ha := Nm.two_pos a
  have e64 : (2 : Int) ^ 64 = 18446744073709551616 := by decide
  rw [hM, Int.mul_assoc, ← Nm.two_add]
  rcases Nat.lt_or_ge (E + b) (a + 64) with g | g
  · left
    have g1 := Nm.two_mono (show E + b ≤ a + 64 by omega)
    rw [Nm.two_add a 64, e64] at g1
    have g2 : M * 2 ^ (E + b) ≤ M * (2 ^ a * 18446744073709551616) := Int.mul_le_mul_of_nonneg_left g1 (by omega)
    have g3 : M * (2 ^ a * 18446744073709551616) ≤ h * (2 ^ a * 18446744073709551616) := Int.mul_le_mul_of_nonneg_right (by omega) (by omega)
    have e1 : ∀ l : Int, (h * 18446744073709551616 + l) * 2 ^ a = h * (2 ^ a * 18446744073709551616) + l * 2 ^ a := by
      intro l; rw [Int.add_mul]; congr 1; ac_rfl
    rw [e1, e1]
    have := Int.mul_pos l0 ha
    have := Int.mul_pos k0 ha
    omega
  · obtain ⟨k, hk⟩ : ∃ k, E + b = k + 64 + a := ⟨E + b - 64 - a, by omega⟩
    rw [hk, Nm.two_add, Nm.two_add, e64, ← Int.mul_assoc, ← Int.mul_assoc]
    generalize M * 2 ^ k = R
    rcases Int.lt_or_le h R with g | g
    · right
      exact ⟨Int.mul_lt_mul_of_pos_right (by omega) ha, Int.mul_lt_mul_of_pos_right (by omega) ha⟩
    · left
      exact ⟨Int.mul_lt_mul_of_pos_right (by omega) ha, Int.mul_lt_mul_of_pos_right (by omega) ha⟩

theorem head_rnd {h l l' e x : Int} (h0 : 18014398509481984 ≤ h) (l0 : 0 < l) (l1 : l < 18446744073709551616) (k0 : 0 < l') (k1 : l' < 18446744073709551616)
    (hr : Rnd (h * 18446744073709551616 + l) 1 e false x) : Rnd (h * 18446744073709551616 + l') 1 e false x := by
  intro a b hab
  have hN := hr a b hab
  rw [Int.one_mul] at hN ⊢
  refine ⟨hN.1, fun hx => ?_, fun hx => ?_⟩
  · left
    rcases head_side h l l' (x - 1) a b h0 l0 l1 k0 k1 (by omega) with g | g
    · exact g.2
    · rcases hN.2.1 hx with k | k <;> omega
  · left
    rcases head_side h l l' x a b h0 l0 l1 k0 k1 hN.1.1 with g | g
    · rcases hN.2.2 hx with k | k <;> omega
    · exact g.2

/-- P and e are the row of q: P * 2^e <= 5^q < (P + 1) * 2^e, and the same just from 0 to 55. -/
structure Row (q P e : Int) : Prop where
  lo : 170141183460469231731687303715884105728 ≤ P
  hi : P < 340282366920938463463374607431768211456
  le : P * 2 ^ e.toNat * 5 ^ (-q).toNat ≤ 5 ^ q.toNat * 2 ^ (-e).toNat
  lt : 5 ^ q.toNat * 2 ^ (-e).toNat < (P + 1) * 2 ^ e.toNat * 5 ^ (-q).toNat
  eq : 0 ≤ q → q ≤ 55 → P * 2 ^ e.toNat * 5 ^ (-q).toNat = 5 ^ q.toNat * 2 ^ (-e).toNat
  ne : q < 0 ∨ 55 < q → P * 2 ^ e.toNat * 5 ^ (-q).toNat ≠ 5 ^ q.toNat * 2 ^ (-e).toNat
  eb : -1000 ≤ e ∧ e ≤ 1000

theorem ten_pow (n : Nat) : (10 : Int) ^ n = 2 ^ n * 5 ^ n := by rw [← Int.mul_pow, show (2 : Int) * 5 = 10 from rfl]

theorem five_pos (n : Nat) : (0 : Int) < 5 ^ n := Int.pow_pos (by decide)

theorem scale_le (w P D V : Int) (a a' ep en qp qn : Nat) (h : a + en + qn = a' + ep + qp) (w0 : 0 ≤ w) (D0 : 0 ≤ D)
    (h1 : P * 2 ^ ep * 5 ^ qn ≤ 5 ^ qp * 2 ^ en) (h2 : w * 10 ^ qp * D ≤ V * 10 ^ qn) : w * P * D * 2 ^ a ≤ V * 2 ^ a' := by
  have k : (0 : Int) < 2 ^ (en + qn) * 5 ^ qn := Int.mul_pos (Nm.two_pos _) (five_pos _)
  refine Int.le_of_mul_le_mul_right ?_ k
  have e1 : w * P * D * 2 ^ a * (2 ^ (en + qn) * 5 ^ qn) = w * D * 2 ^ (a' + qp) * (P * 2 ^ ep * 5 ^ qn) := by
    have : (2 : Int) ^ a * 2 ^ (en + qn) = 2 ^ (a' + qp) * 2 ^ ep := by rw [← Nm.two_add, ← Nm.two_add]; congr 1; omega
    calc w * P * D * 2 ^ a * (2 ^ (en + qn) * 5 ^ qn) = w * P * D * (2 ^ a * 2 ^ (en + qn)) * 5 ^ qn := by ac_rfl
      _ = w * P * D * (2 ^ (a' + qp) * 2 ^ ep) * 5 ^ qn := by rw [this]
      _ = _ := by ac_rfl
  have e2 : w * D * 2 ^ (a' + qp) * (5 ^ qp * 2 ^ en) = w * 10 ^ qp * D * 2 ^ (a' + en) := by
    rw [ten_pow, Nm.two_add, Nm.two_add]; ac_rfl
  have e3 : V * 10 ^ qn * 2 ^ (a' + en) = V * 2 ^ a' * (2 ^ (en + qn) * 5 ^ qn) := by
    rw [ten_pow, Nm.two_add, Nm.two_add]; ac_rfl
  rw [e1, ← e3]
  have s1 : w * D * 2 ^ (a' + qp) * (P * 2 ^ ep * 5 ^ qn) ≤ w * D * 2 ^ (a' + qp) * (5 ^ qp * 2 ^ en) :=
    Int.mul_le_mul_of_nonneg_left h1 (Int.mul_nonneg (Int.mul_nonneg w0 D0) (by have := Nm.two_pos (a' + qp); omega))
  have s2 : w * 10 ^ qp * D * 2 ^ (a' + en) ≤ V * 10 ^ qn * 2 ^ (a' + en) := Int.mul_le_mul_of_nonneg_right h2 (by have := Nm.two_pos (a' + en); omega)
  rw [e2] at s1
  exact Int.le_trans s1 s2

theorem scale_ge (w P D V : Int) (a a' ep en qp qn : Nat) (h : a + en + qn = a' + ep + qp) (w0 : 0 ≤ w) (D0 : 0 ≤ D)
    (h1 : 5 ^ qp * 2 ^ en ≤ P * 2 ^ ep * 5 ^ qn) (h2 : V * 10 ^ qn ≤ w * 10 ^ qp * D) : V * 2 ^ a' ≤ w * P * D * 2 ^ a := by
  have k : (0 : Int) < 2 ^ (en + qn) * 5 ^ qn := Int.mul_pos (Nm.two_pos _) (five_pos _)
  refine Int.le_of_mul_le_mul_right ?_ k
  have e1 : w * P * D * 2 ^ a * (2 ^ (en + qn) * 5 ^ qn) = w * D * 2 ^ (a' + qp) * (P * 2 ^ ep * 5 ^ qn) := by
    have : (2 : Int) ^ a * 2 ^ (en + qn) = 2 ^ (a' + qp) * 2 ^ ep := by rw [← Nm.two_add, ← Nm.two_add]; congr 1; omega
    calc w * P * D * 2 ^ a * (2 ^ (en + qn) * 5 ^ qn) = w * P * D * (2 ^ a * 2 ^ (en + qn)) * 5 ^ qn := by ac_rfl
      _ = w * P * D * (2 ^ (a' + qp) * 2 ^ ep) * 5 ^ qn := by rw [this]
      _ = _ := by ac_rfl
  have e2 : w * D * 2 ^ (a' + qp) * (5 ^ qp * 2 ^ en) = w * 10 ^ qp * D * 2 ^ (a' + en) := by
    rw [ten_pow, Nm.two_add, Nm.two_add]; ac_rfl
  have e3 : V * 10 ^ qn * 2 ^ (a' + en) = V * 2 ^ a' * (2 ^ (en + qn) * 5 ^ qn) := by
    rw [ten_pow, Nm.two_add, Nm.two_add]; ac_rfl
  rw [e1, ← e3]
  have s1 : w * D * 2 ^ (a' + qp) * (5 ^ qp * 2 ^ en) ≤ w * D * 2 ^ (a' + qp) * (P * 2 ^ ep * 5 ^ qn) :=
    Int.mul_le_mul_of_nonneg_left h1 (Int.mul_nonneg (Int.mul_nonneg w0 D0) (by have := Nm.two_pos (a' + qp); omega))
  have s2 : V * 10 ^ qn * 2 ^ (a' + en) ≤ w * 10 ^ qp * D * 2 ^ (a' + en) := Int.mul_le_mul_of_nonneg_right h2 (by have := Nm.two_pos (a' + en); omega)
  rw [e2] at s1
  exact Int.le_trans s2 s1

theorem le_or {a b : Int} {p : Prop} (h : a ≤ b) : a < b ∨ (a = b ∧ (p → p)) := by
  rcases Int.lt_or_eq_of_le h with h | h
  · exact .inl h
  · exact .inr ⟨h, id⟩

/-- The lower end lies at most at the number itself. -/
theorem Row.below {q P e : Int} (r : Row q P e) {w V D x y : Int} (w0 : 0 ≤ w) (D0 : 0 < D) (hx : Rnd (w * P) 1 (e + q) false x) (hy : Rnd V D 0 false y)
    (h : w * 10 ^ q.toNat * D ≤ V * 10 ^ (-q).toNat) : x ≤ y := by
  refine hx.mono (a := (e + q).toNat) (a' := (-(e + q)).toNat) (by decide) D0 hy (by omega) ?_
  rw [Int.mul_one]
  exact le_or (scale_le w P D V _ _ e.toNat (-e).toNat q.toNat (-q).toNat (by omega) w0 (by omega) r.le h)

theorem Row.above {q P e : Int} (r : Row q P e) {w V D x y : Int} (w0 : 0 ≤ w) (D0 : 0 < D) (hx : Rnd (w * (P + 1)) 1 (e + q) false x) (hy : Rnd V D 0 false y)
    (h : V * 10 ^ (-q).toNat ≤ w * 10 ^ q.toNat * D) : y ≤ x := by
  refine hy.mono (a := (-(e + q)).toNat) (a' := (e + q).toNat) D0 (by decide) hx (by omega) ?_
  rw [Int.mul_one]
  exact le_or (scale_ge w (P + 1) D V _ _ e.toNat (-e).toNat q.toNat (-q).toNat (by omega) w0 (by omega) (Int.le_of_lt r.lt) h)

theorem Row.above_eq {q P e : Int} (r : Row q P e) (q0 : 0 ≤ q) (q1 : q ≤ 55) {w V D x y : Int} (w0 : 0 ≤ w) (D0 : 0 < D) (hx : Rnd (w * P) 1 (e + q) false x) (hy : Rnd V D 0 false y)
    (h : V * 10 ^ (-q).toNat ≤ w * 10 ^ q.toNat * D) : y ≤ x := by
  refine hy.mono (a := (-(e + q)).toNat) (a' := (e + q).toNat) D0 (by decide) hx (by omega) ?_
  rw [Int.mul_one]
  exact le_or (scale_ge w P D V _ _ e.toNat (-e).toNat q.toNat (-q).toNat (by omega) w0 (by omega) (Int.le_of_eq (r.eq q0 q1).symm) h)

theorem five_odd : ∀ n : Nat, (5 : Int) ^ n % 2 = 1
  | 0 => rfl
  | n + 1 => by have := five_odd n; rw [Int.pow_succ]; omega

theorem two_five : ∀ n : Nat, (2 : Int) ^ n % 5 ≠ 0
  | 0 => by decide
  | n + 1 => by have := two_five n; rw [Int.pow_succ]; omega

theorem five_le {m n : Nat} (h : m ≤ n) : (5 : Int) ^ m ≤ 5 ^ n := by
  have h1 := Nat.pow_le_pow_right (show 0 < 5 by decide) h
  have e : ∀ k : Nat, ((5 ^ k : Nat) : Int) = 5 ^ k := by intro k; simp
  have := e m
  have := e n
  omega

theorem two_lt_of {a b : Nat} (h : (2 : Int) ^ a < 2 ^ b) : a < b := by
  rcases Nat.lt_or_ge a b with g | g
  · exact g
  · have := Nm.two_mono g; omega

theorem row_len {n L : Nat} (hn : n ≤ 342) (hL : Nm.BLen (5 ^ n) L) : 1 ≤ L ∧ L ≤ 800 ∧ (n ≤ 55 → L ≤ 128) ∧ (55 < n → 128 < L) := by
  have h1 := hL.2.2 (five_pos n)
  refine ⟨h1.1, ?_, fun h => ?_, fun h => ?_⟩
  · have g := five_le hn
    have k : (5 : Int) ^ 342 < 2 ^ 800 := by decide +kernel
    have := two_lt_of (a := L - 1) (b := 800) (by omega)
    omega
  · have g := five_le h
    have k : (5 : Int) ^ 55 < 2 ^ 128 := by decide +kernel
    have := two_lt_of (a := L - 1) (b := 128) (by omega)
    omega
  · have g := five_le (show 56 ≤ n from h)
    have k : (2 : Int) ^ 128 < 5 ^ 56 := by decide +kernel
    have := two_lt_of (a := 128) (b := L) (by have := hL.1; omega)
    omega

theorem e128 : (2 : Int) ^ 128 = 340282366920938463463374607431768211456 := by decide +kernel
theorem e127 : (2 : Int) ^ 127 = 170141183460469231731687303715884105728 := by decide +kernel

theorem row_up {n L k : Nat} (hn : n ≤ 308) (hL : Nm.BLen (5 ^ n) L) (hk : L + k = 128) : Row n (5 ^ n * 2 ^ k) ((L : Int) - 128) := by
  obtain ⟨l1, l2, l3, l4⟩ := row_len (by omega) hL
  have hp := Nm.two_pos k
  have b := (hL.2.2 (five_pos n)).2
  have t1 : ((L : Int) - 128).toNat = 0 := by omega
  have t2 : (-((L : Int) - 128)).toNat = k := by omega
  have t3 : (-(n : Int)).toNat = 0 := by omega
  have t4 : ((n : Int)).toNat = n := by omega
  have E : (5 : Int) ^ n * 2 ^ k * 2 ^ ((L : Int) - 128).toNat * 5 ^ (-(n : Int)).toNat = 5 ^ (n : Int).toNat * 2 ^ (-((L : Int) - 128)).toNat := by
    rw [t1, t2, t3, t4]; simp
  refine ⟨?_, ?_, Int.le_of_eq E, ?_, fun _ _ => E, fun h => ?_, by omega⟩
  · have g : (2 : Int) ^ (L - 1) * 2 ^ k ≤ 5 ^ n * 2 ^ k := Int.mul_le_mul_of_nonneg_right b (by omega)
    rw [← Nm.two_add, show L - 1 + k = 127 by omega, e127] at g
    exact g
  · have g : (5 : Int) ^ n * 2 ^ k < 2 ^ L * 2 ^ k := Int.mul_lt_mul_of_pos_right hL.1 hp
    rw [← Nm.two_add, hk, e128] at g
    exact g
  · rw [← E, t1, t3, Int.pow_zero, Int.pow_zero]; omega
  · exfalso
    have := l4 (by omega)
    omega

theorem row_down {n L k : Nat} (hn : n ≤ 308) (hL : Nm.BLen (5 ^ n) L) (hk : L = 128 + k) (k0 : 0 < k) : Row n (5 ^ n / 2 ^ k) ((L : Int) - 128) := by
  obtain ⟨l1, l2, l3, l4⟩ := row_len (by omega) hL
  have hp := Nm.two_pos k
  have b := (hL.2.2 (five_pos n)).2
  have t1 : ((L : Int) - 128).toNat = k := by omega
  have t2 : (-((L : Int) - 128)).toNat = 0 := by omega
  have t3 : (-(n : Int)).toNat = 0 := by omega
  have t4 : ((n : Int)).toNat = n := by omega
  have dm := Int.mul_ediv_add_emod (5 ^ n) (2 ^ k)
  have r0 := Int.emod_nonneg (5 ^ n) (show (2 : Int) ^ k ≠ 0 by omega)
  have r1 := Int.emod_lt_of_pos (5 ^ n) hp
  refine ⟨?_, ?_, ?_, ?_, fun h g => ?_, fun h => ?_, by omega⟩
  · rw [Int.le_ediv_iff_mul_le hp, ← e127, ← Nm.two_add, show 127 + k = L - 1 by omega]; exact b
  · rw [Int.ediv_lt_iff_lt_mul hp, ← e128, ← Nm.two_add, ← hk]; exact hL.1
  · rw [t1, t2, t3, t4, Int.pow_zero, Int.pow_zero, Int.mul_one, Int.mul_one, Int.mul_comm]; omega
  · rw [t1, t2, t3, t4, Int.pow_zero, Int.pow_zero, Int.mul_one, Int.mul_one, Int.add_mul, Int.one_mul, Int.mul_comm (5 ^ n / 2 ^ k)]; omega
  · exfalso
    have := l3 (by omega)
    omega
  · rw [t1, t2, t3, t4, Int.pow_zero, Int.pow_zero, Int.mul_one, Int.mul_one]
    obtain ⟨j, rfl⟩ : ∃ j, k = j + 1 := ⟨k - 1, by omega⟩
    have := five_odd n
    intro g
    rw [← g, Int.pow_succ, ← Int.mul_assoc] at this
    omega

theorem row_neg {n L : Nat} (hn : n ≤ 342) (n0 : 0 < n) (hL : Nm.BLen (5 ^ n) L) : Row (-(n : Int)) (2 ^ (L + 127) / 5 ^ n) (-((L : Int) + 127)) := by
  obtain ⟨l1, l2, l3, l4⟩ := row_len (by omega) hL
  have hp := five_pos n
  have b := (hL.2.2 (five_pos n)).2
  have t1 : (-((L : Int) + 127)).toNat = 0 := by omega
  have t2 : (-(-((L : Int) + 127))).toNat = L + 127 := by omega
  have t3 : (-(n : Int)).toNat = 0 := by omega
  have t4 : (-(-(n : Int))).toNat = n := by omega
  have dm := Int.mul_ediv_add_emod (2 ^ (L + 127)) (5 ^ n)
  have r0 := Int.emod_nonneg (2 ^ (L + 127)) (show (5 : Int) ^ n ≠ 0 by omega)
  have r1 := Int.emod_lt_of_pos (2 ^ (L + 127)) hp
  refine ⟨?_, ?_, ?_, ?_, fun h => by omega, fun _ => ?_, by omega⟩
  · rw [Int.le_ediv_iff_mul_le hp, ← e127, Nm.two_add, Int.mul_comm]
    exact Int.mul_le_mul_of_nonneg_right (Int.le_of_lt hL.1) (by have := Nm.two_pos 127; omega)
  · rw [Int.ediv_lt_iff_lt_mul hp, ← e128, show L + 127 = 128 + (L - 1) by omega, Nm.two_add]
    refine Int.mul_lt_mul_of_pos_left ?_ (Nm.two_pos 128)
    rcases Int.lt_or_eq_of_le b with g | g
    · exact g
    · exfalso
      have o := five_odd n
      rcases (show L - 1 = 0 ∨ 0 < L - 1 by omega) with h | h
      · rw [h, Int.pow_zero] at g
        have := five_le (show 1 ≤ n from n0)
        omega
      · rw [← g, show L - 1 = (L - 2) + 1 by omega, Int.pow_succ] at o
        omega
  · rw [t1, t2, t3, t4, Int.pow_zero, Int.pow_zero, Int.mul_one, Int.one_mul, Int.mul_comm]; omega
  · rw [t1, t2, t3, t4, Int.pow_zero, Int.pow_zero, Int.mul_one, Int.one_mul, Int.add_mul, Int.one_mul, Int.mul_comm (2 ^ (L + 127) / 5 ^ n)]; omega
  · rw [t1, t2, t3, t4, Int.pow_zero, Int.pow_zero, Int.mul_one, Int.one_mul]
    obtain ⟨j, rfl⟩ : ∃ j, n = j + 1 := ⟨n - 1, by omega⟩
    have := two_five (L + 127)
    intro g
    rw [← g, Int.pow_succ 5 j, ← Int.mul_assoc] at this
    omega

/-- What Step tells. -/
def Stp (w q : Int) (x : Int) (sure : Bool) : Prop :=
  (w = 0 ∧ x = 0 ∧ sure = true) ∨ (0 < w ∧ (q < -342 ∨ 308 < q) ∧ x = 0 ∧ sure = false) ∨
    (0 < w ∧ -342 ≤ q ∧ q ≤ 308 ∧ ∃ P e A B, Row q P e ∧ Rnd (w * P) 1 (e + q) false A ∧ ((0 ≤ q ∧ q ≤ 55 ∧ B = A) ∨ ((q < 0 ∨ 55 < q) ∧ Rnd (w * (P + 1)) 1 (e + q) false B)) ∧
      ((A = B ∧ x = A ∧ sure = true) ∨ (A ≠ B ∧ x = 0 ∧ sure = false)))

theorem Stp.le {w q x : Int} {sure : Bool} (h : Stp w q x sure) (hs : sure = true) (w0 : 0 ≤ w) {V D y : Int} (D0 : 0 < D) (hy : Rnd V D 0 false y)
    (hv : w * 10 ^ q.toNat * D ≤ V * 10 ^ (-q).toNat) : x ≤ y := by
  rcases h with ⟨_, rfl, _⟩ | ⟨_, _, _, rfl⟩ | ⟨_, _, _, P, e, A, B, r, hA, _, h⟩
  · exact hy.bd.1
  · cases hs
  · rcases h with ⟨_, rfl, _⟩ | ⟨_, _, rfl⟩
    · exact r.below w0 D0 hA hy hv
    · cases hs

theorem Stp.ge {w q x : Int} {sure : Bool} (h : Stp w q x sure) (hs : sure = true) (w0 : 0 ≤ w) {V D y : Int} (V0 : 0 ≤ V) (D0 : 0 < D) (hy : Rnd V D 0 false y)
    (hv : V * 10 ^ (-q).toNat ≤ w * 10 ^ q.toNat * D) : y ≤ x := by
  rcases h with ⟨rfl, rfl, _⟩ | ⟨_, _, _, rfl⟩ | ⟨_, _, _, P, e, A, B, r, hA, hB, h⟩
  · have p : (0 : Int) < 10 ^ (-q).toNat := Int.pow_pos (by decide)
    rw [Int.zero_mul, Int.zero_mul] at hv
    have hV : V = 0 := by
      rcases Int.lt_or_eq_of_le V0 with g | g
      · have := Int.mul_pos g p; omega
      · exact g.symm
    subst hV
    have := Rnd.one (a := 0) (a' := 0) D0 D0 hy (rnd_zero D 0 false D0) (by omega) rfl
    omega
  · cases hs
  · rcases h with ⟨rfl, rfl, _⟩ | ⟨_, _, rfl⟩
    · rcases hB with ⟨q0, q1, _⟩ | ⟨_, hB⟩
      · exact r.above_eq q0 q1 w0 D0 hA hy hv
      · exact r.above w0 D0 hB hy hv
    · cases hs

/-- Where Step is sure, it tells the number itself, rounded. -/
theorem Stp.true {w q x : Int} {sure : Bool} (h : Stp w q x sure) (hs : sure = true) (w0 : 0 ≤ w) {V D y : Int} (V0 : 0 ≤ V) (D0 : 0 < D) (hy : Rnd V D 0 false y)
    (hv : V * 10 ^ (-q).toNat = w * 10 ^ q.toNat * D) : x = y := by
  have := h.le hs w0 D0 hy (by omega)
  have := h.ge hs w0 V0 D0 hy (by omega)
  omega

theorem Stp.bd {w q x : Int} {sure : Bool} (h : Stp w q x sure) : 0 ≤ x ∧ x ≤ 9218868437227405312 := by
  rcases h with ⟨_, rfl, _⟩ | ⟨_, _, rfl, _⟩ | ⟨_, _, _, P, e, A, B, r, hA, _, h⟩
  · decide
  · decide
  · rcases h with ⟨_, rfl, _⟩ | ⟨_, rfl, _⟩
    · exact hA.bd
    · decide
end Ie
end Go.Proofs.YtbmlkfkhmaahnaaGreatDoor

/-
  The rows as functions of q, and some roundings at fixed numbers.
-/
namespace Go.Proofs.YtbmlkfkhmaahnaaGreatDoor
namespace Ie

/-- The length of 5^n in bits. -/
def bl (n : Nat) : Nat := Nat.log2 (5 ^ n) + 1

theorem bl_is (n : Nat) : Nm.BLen (5 ^ n) (bl n) := by
  have e : ((5 ^ n : Nat) : Int) = 5 ^ n := by simp
  have e1 : ∀ k : Nat, ((2 ^ k : Nat) : Int) = 2 ^ k := by intro k; simp
  have h0 : (5 ^ n : Nat) ≠ 0 := by have := Nat.pow_pos (n := n) (show 0 < 5 by decide); omega
  have p := five_pos n
  refine ⟨?_, fun h => by omega, fun _ => ⟨by unfold bl; omega, ?_⟩⟩
  · have h := (Nat.log2_lt h0 (k := bl n)).1 (by unfold bl; omega)
    have := e1 (bl n)
    omega
  · have h := Nat.log2_self_le h0
    have := e1 (Nat.log2 (5 ^ n))
    rw [show bl n - 1 = Nat.log2 (5 ^ n) by unfold bl; omega]
    omega

/-- The row of q. -/
def rowE (q : Int) : Int := if 0 ≤ q then (bl q.toNat : Int) - 128 else -((bl (-q).toNat : Int) + 127)
def rowP (q : Int) : Int := if 0 ≤ q then (if bl q.toNat ≤ 128 then 5 ^ q.toNat * 2 ^ (128 - bl q.toNat) else 5 ^ q.toNat / 2 ^ (bl q.toNat - 128)) else 2 ^ (bl (-q).toNat + 127) / 5 ^ (-q).toNat

theorem row_is {q : Int} (h0 : -342 ≤ q) (h1 : q ≤ 308) : Row q (rowP q) (rowE q) := by
  rcases (show 0 ≤ q ∨ q < 0 by omega) with h | h
  · obtain ⟨n, rfl⟩ := Int.eq_ofNat_of_zero_le h
    rw [rowP, rowE, if_pos h, if_pos h, Int.toNat_natCast]
    split
    · exact row_up (by omega) (bl_is n) (by omega)
    · exact row_down (by omega) (bl_is n) (by omega) (by omega)
  · obtain ⟨n, hn⟩ := Int.eq_ofNat_of_zero_le (show 0 ≤ -q by omega)
    have hq : q = -(n : Int) := by omega
    rw [rowP, rowE, if_neg (by omega), if_neg (by omega), show (-q).toNat = n by omega, hq]
    exact row_neg (by omega) (by omega) (bl_is n)

theorem row1 : rowP 1 = 212676479325586539664609129644855132160 ∧ rowE 1 = -125 := by decide +kernel
theorem rowm1 : rowP (-1) = 272225893536750770770699685945414569164 ∧ rowE (-1) = -130 := by decide +kernel

theorem near_three : Near (3 * 2 ^ 1075) 10 false 4599075939470750515 := by unfold Near; decide +kernel
theorem rnd_three {x : Int} (h : Rnd 3 10 0 false x) : x = 4599075939470750515 :=
  Rnd.one (a := 0) (a' := 0) (by decide) (by decide) h (Rnd.of (e := 0) (a := 1075) (b := 0) (by decide) (by rw [Int.pow_zero, Int.mul_one]; exact near_three)) (by omega) rfl
theorem near_two : Near (25 * 2 ^ 1075) 10 false 4612811918334230528 := by unfold Near; decide +kernel
theorem rnd_two {x : Int} (h : Rnd 25 10 0 false x) : x = 4612811918334230528 :=
  Rnd.one (a := 0) (a' := 0) (by decide) (by decide) h (Rnd.of (e := 0) (a := 1075) (b := 0) (by decide) (by rw [Int.pow_zero, Int.mul_one]; exact near_two)) (by omega) rfl
theorem near_a : Near (816677680610252312312099057836243707492 * 2 ^ 944) 1 false 4599075939470750515 := by unfold Near; decide +kernel
theorem rnd_a {x : Int} (h : Rnd (3 * rowP (-1)) 1 (rowE (-1) + -1) false x) : x = 4599075939470750515 := by
  rw [rowm1.1, rowm1.2] at h
  exact Rnd.one (a := 0) (a' := 0) (by decide) (by decide) h (Rnd.of (e := -130 + -1) (a := 944) (b := 0) (by decide) (by rw [Int.pow_zero, Int.mul_one]; exact near_a)) (by omega) rfl
theorem near_b : Near (816677680610252312312099057836243707495 * 2 ^ 944) 1 false 4599075939470750515 := by unfold Near; decide +kernel
theorem rnd_b {x : Int} (h : Rnd (3 * (rowP (-1) + 1)) 1 (rowE (-1) + -1) false x) : x = 4599075939470750515 := by
  rw [rowm1.1, rowm1.2] at h
  exact Rnd.one (a := 0) (a' := 0) (by decide) (by decide) h (Rnd.of (e := -130 + -1) (a := 944) (b := 0) (by decide) (by rw [Int.pow_zero, Int.mul_one]; exact near_b)) (by omega) rfl

/-- What Step tells, at the row that there is. -/
def Stq (w q : Int) (x : Int) (sure : Bool) : Prop :=
  (w = 0 ∧ x = 0 ∧ sure = true) ∨ (0 < w ∧ (q < -342 ∨ 308 < q) ∧ x = 0 ∧ sure = false) ∨
    (0 < w ∧ -342 ≤ q ∧ q ≤ 308 ∧ ∃ A B, Rnd (w * rowP q) 1 (rowE q + q) false A ∧ ((0 ≤ q ∧ q ≤ 55 ∧ B = A) ∨ ((q < 0 ∨ 55 < q) ∧ Rnd (w * (rowP q + 1)) 1 (rowE q + q) false B)) ∧
      ((A = B ∧ x = A ∧ sure = true) ∨ (A ≠ B ∧ x = 0 ∧ sure = false)))

theorem Stq.stp {w q x : Int} {sure : Bool} (h : Stq w q x sure) : Stp w q x sure := by
  rcases h with h | h | ⟨h0, h1, h2, A, B, h⟩
  · exact .inl h
  · exact .inr (.inl h)
  · exact .inr (.inr ⟨h0, h1, h2, rowP q, rowE q, A, B, row_is h1 h2, h⟩)

theorem stq_three {x : Int} {sure : Bool} (h : Stq 3 (-1) x sure) : x = 4599075939470750515 ∧ sure = true := by
  rcases h with h | h | ⟨h0, h1, h2, A, B, a, b, h⟩
  · omega
  · omega
  · have ha := rnd_a a
    rcases b with b | ⟨_, b⟩
    · omega
    · have hb := rnd_b b
      rcases h with h | h
      · exact ⟨by omega, h.2.2⟩
      · omega

/-- What is told leaves one answer. -/
theorem Stq.one {w q x y : Int} {s t : Bool} (h : Stq w q x s) (k : Stq w q y t) : x = y ∧ s = t := by
  rcases h with h | h | ⟨h0, h1, h2, A, B, a, b, h⟩ <;> rcases k with k | k | ⟨k0, k1, k2, A', B', a', b', k⟩
  · exact ⟨by omega, by rw [h.2.2, k.2.2]⟩
  · omega
  · omega
  · omega
  · exact ⟨by omega, by rw [h.2.2.2, k.2.2.2]⟩
  · omega
  · omega
  · omega
  · have e1 := Rnd.one (a := 0) (a' := 0) (by decide) (by decide) a a' (by omega) rfl
    have e2 : B = B' := by
      rcases b with b | b <;> rcases b' with b' | b'
      · omega
      · omega
      · omega
      · exact Rnd.one (a := 0) (a' := 0) (by decide) (by decide) b.2 b'.2 (by omega) rfl
    rcases h with h | h <;> rcases k with k | k
    · exact ⟨by omega, by rw [h.2.2, k.2.2]⟩
    · omega
    · omega
    · exact ⟨by omega, by rw [h.2.2, k.2.2]⟩
end Ie
end Go.Proofs.YtbmlkfkhmaahnaaGreatDoor

namespace Go.Proofs.YtbmlkfkhmaahnaaGreatDoor
open Go Go.RowKit Go.Deep

/-- Two limbs in a box, three limbs in a box. -/
def At2 (w : World) (b : Nat) (x y : Int) : Prop := w.heap[b]? = some (.cells #[.int .u64 x, .int .u64 y] 240 (0, 0))
def At3 (w : World) (b : Nat) (x y z : Int) : Prop := w.heap[b]? = some (.cells #[.int .u64 x, .int .u64 y, .int .u64 z] 238 (0, 0))
def wideV (x y : Int) : Value := .agg #[.int .u64 x, .int .u64 y]
def prodV (x y z : Int) : Value := .agg #[.int .u64 x, .int .u64 y, .int .u64 z]

theorem At2.below {B : Nat} {w w' : World} {b : Nat} {x y : Int} (h : At2 w b x y) (hB : Below B w w') (hb : b < B) : At2 w' b x y := by
  rw [At2, hB.block b hb]; exact h
theorem At3.below {B : Nat} {w w' : World} {b : Nat} {x y z : Int} (h : At3 w b x y z) (hB : Below B w w') (hb : b < B) : At3 w' b x y z := by
  rw [At3, hB.block b hb]; exact h
theorem At2.lt {w : World} {b : Nat} {x y : Int} (h : At2 w b x y) : b < w.heap.size := by
  rcases Nat.lt_or_ge b w.heap.size with hl | hl
  · exact hl
  · simp [At2, Array.getElem?_eq_none hl] at h
theorem At3.lt {w : World} {b : Nat} {x y z : Int} (h : At3 w b x y z) : b < w.heap.size := by
  rcases Nat.lt_or_ge b w.heap.size with hl | hl
  · exact hl
  · simp [At3, Array.getElem?_eq_none hl] at h
theorem At2.cells {w : World} {b : Nat} {x y : Int} (h : At2 w b x y) :
    (w.cell? ⟨b, 0, none⟩ = some (.int .u64 x) ∧ w.cell? ⟨b, 1, none⟩ = some (.int .u64 y)) ∧ w.frozen? ⟨b, 0, none⟩ = false ∧ w.frozen? ⟨b, 1, none⟩ = false := by
  simp only [At2] at h
  refine ⟨⟨?_, ?_⟩, ?_, ?_⟩ <;> simp [World.cell?, World.frozen?, h]
theorem At3.cells {w : World} {b : Nat} {x y z : Int} (h : At3 w b x y z) :
    (w.cell? ⟨b, 0, none⟩ = some (.int .u64 x) ∧ w.cell? ⟨b, 1, none⟩ = some (.int .u64 y) ∧ w.cell? ⟨b, 2, none⟩ = some (.int .u64 z)) ∧ w.frozen? ⟨b, 0, none⟩ = false ∧ w.frozen? ⟨b, 1, none⟩ = false ∧ w.frozen? ⟨b, 2, none⟩ = false := by
  simp only [At3] at h
  refine ⟨⟨?_, ?_, ?_⟩, ?_, ?_, ?_⟩ <;> simp [World.cell?, World.frozen?, h]
theorem At2.arg {w : World} {b : Nat} {x y : Int} (h : At2 w b x y) (x0 : 0 ≤ x) (x1 : x < 18446744073709551616) (y0 : 0 ≤ y) (y1 : y < 18446744073709551616) : Arg w (some ⟨b, 0, none⟩) 2 2 [x, y] := by
  refine ⟨rfl, Nat.le_refl _, by omega, .inr ⟨b, 0, rfl, fun i hi => ?_⟩, Nm.Limbs.mk x0 x1 (Nm.Limbs.mk y0 y1 Nm.Limbs.nil)⟩
  obtain ⟨⟨c0, c1⟩, _⟩ := h.cells
  rcases (show i = 0 ∨ i = 1 by simp at hi; omega) with rfl | rfl
  · exact c0
  · exact c1
theorem At3.arg {w : World} {b : Nat} {x y z : Int} (h : At3 w b x y z) (x0 : 0 ≤ x) (x1 : x < 18446744073709551616) (y0 : 0 ≤ y) (y1 : y < 18446744073709551616) (z0 : 0 ≤ z) (z1 : z < 18446744073709551616) : Arg w (some ⟨b, 0, none⟩) 3 3 [x, y, z] := by
  refine ⟨rfl, Nat.le_refl _, by omega, .inr ⟨b, 0, rfl, fun i hi => ?_⟩, Nm.Limbs.mk x0 x1 (Nm.Limbs.mk y0 y1 (Nm.Limbs.mk z0 z1 Nm.Limbs.nil))⟩
  obtain ⟨⟨c0, c1, c2⟩, _⟩ := h.cells
  rcases (show i = 0 ∨ i = 1 ∨ i = 2 by simp at hi; omega) with rfl | rfl | rfl
  · exact c0
  · exact c1
  · exact c2

/-- The number of three limbs. -/
def n3 (a b c : Int) : Int := a + 18446744073709551616 * b + 340282366920938463463374607431768211456 * c
def n2 (a b : Int) : Int := a + 18446744073709551616 * b
def Bd (x : Int) : Prop := 0 ≤ x ∧ x < 18446744073709551616

theorem inTable_any (q : Int) (w : World) :
    Calls Tryz.prog 216 #[.int .i64 q] w fun e w' => e = .returned (.bool (decide (-342 ≤ q ∧ q ≤ 308))) ∧ w' = w := by
  by_cases h : -342 ≤ q
  · by_cases k : q ≤ 308
    · rw [decide_eq_true (show -342 ≤ q ∧ q ≤ 308 from ⟨h, k⟩)]
      go_enter Tryz.func216, Tryz.ntmps216
      go_wp2_with fail
      go_ret
      exact ⟨rfl, rfl⟩
    · rw [decide_eq_false (show ¬ (-342 ≤ q ∧ q ≤ 308) by omega)]
      go_enter Tryz.func216, Tryz.ntmps216
      go_wp2_with fail
      go_ret
      exact ⟨rfl, rfl⟩
  · rw [decide_eq_false (show ¬ (-342 ≤ q ∧ q ≤ 308) by omega)]
    go_enter Tryz.func216, Tryz.ntmps216
    go_wp2_with fail
    go_ret
    exact ⟨rfl, rfl⟩

theorem exact_any9 (q : Int) (w : World) :
    Calls Tryz.prog 218 #[.int .i64 q] w fun e w' => e = .returned (.bool (decide (0 ≤ q ∧ q ≤ 55))) ∧ w' = w := by
  by_cases h : 0 ≤ q
  · by_cases k : q ≤ 55
    · rw [decide_eq_true (show 0 ≤ q ∧ q ≤ 55 from ⟨h, k⟩)]
      go_enter Tryz.func218, Tryz.ntmps218
      go_wp2_with fail
      go_ret
      exact ⟨rfl, rfl⟩
    · rw [decide_eq_false (show ¬ (0 ≤ q ∧ q ≤ 55) by omega)]
      go_enter Tryz.func218, Tryz.ntmps218
      go_wp2_with fail
      go_ret
      exact ⟨rfl, rfl⟩
  · rw [decide_eq_false (show ¬ (0 ≤ q ∧ q ≤ 55) by omega)]
    go_enter Tryz.func218, Tryz.ntmps218
    go_wp2_with fail
    go_ret
    exact ⟨rfl, rfl⟩

set_option maxRecDepth 100000 in
set_option maxHeartbeats 1000000 in
theorem head_any (a b c : Int) (w : World) :
    Calls Tryz.prog 222 #[prodV a b c] w fun e w' => e = .returned (wideV b c) ∧ Below w.heap.size w w' := by
  unfold prodV wideV
  go_enter Tryz.func222, Tryz.ntmps222
  go_wp2_with fail
  refine bodyPost_ret (results_cell_row rfl _ _ (w.heap.size + 1) 240 _ (0, 0) _ rfl (heap_alloc2_new _ _ _) Tryz.underlying240 rfl (by kernel_rfl)) rfl ?_
  exact ⟨rfl, below_on (alloc_b _ _) (alloc_b _ _)⟩

theorem mid3 (w : World) (A B C : Obj) : (((w.alloc A).alloc B).alloc C).heap[w.heap.size + 1]? = some B := by
  rw [heap_alloc_old _ _ (by show w.heap.size + 1 < ((w.heap.push A).push B).size; simp)]
  exact heap_alloc2_new w A B

theorem times_num {w x y h l h2 l2 s c : Int} (w0 : Bd w) (x0 : Bd x) (y0 : Bd y) (hl : Bd h ∧ Bd l) (hl2 : Bd h2 ∧ Bd l2) (e1 : l + 18446744073709551616 * h = w * x) (e2 : l2 + 18446744073709551616 * h2 = w * y)
    (hs : s = (l2 + h + 0) % 18446744073709551616) (hc : c = (l2 + h + 0) / 18446744073709551616) : Bd (h2 + c) ∧ n3 l s (h2 + c) = w * n2 x y := by
  unfold Bd at *
  have hd : w * n2 x y = w * x + 18446744073709551616 * (w * y) := by unfold n2; rw [Int.mul_add, Int.mul_left_comm]
  have b1 : w * x ≤ 18446744073709551615 * 18446744073709551615 := Int.mul_le_mul (by omega) (by omega) (by omega) (by omega)
  have b2 : w * y ≤ 18446744073709551615 * 18446744073709551615 := Int.mul_le_mul (by omega) (by omega) (by omega) (by omega)
  rw [hd, ← e1, ← e2]
  rw [← e1] at b1
  rw [← e2] at b2
  unfold n3
  refine ⟨⟨by omega, by omega⟩, by omega⟩

set_option maxRecDepth 100000 in
set_option maxHeartbeats 1000000 in
theorem ptimes_any (v x y : Int) (w : World) (hv : Bd v) (hx : Bd x) (hy : Bd y) :
    Calls Tryz.prog 214 #[.int .u64 v, wideV x y] w fun e w' => ∃ a b c, e = .returned (prodV a b c) ∧ (Bd a ∧ Bd b ∧ Bd c) ∧ n3 a b c = v * n2 x y ∧ Below w.heap.size w w' := by
  have M1 := hid (fun wx => mul64 v x hv.1 hv.2 hx.1 hx.2 wx)
  have M2 := hid (fun wx => mul64 v y hv.1 hv.2 hy.1 hy.2 wx)
  have HV := hid (And.intro hv (And.intro hx hy))
  clear hv hx hy
  unfold prodV wideV
  go_enter Tryz.func214, Tryz.ntmps214
  go_wp2_with fail
  refine (M1.out _).mono ?_
  rintro e w1 ⟨h, l, rfl, b1, e1, _, rfl⟩
  have B1 := hid b1
  clear b1
  go_wp2_with fail
  refine (M2.out _).mono ?_
  rintro e w1 ⟨h2, l2, rfl, b2, e2, _, rfl⟩
  have b1 := B1.out
  obtain ⟨s, hs⟩ : ∃ s, s = (l2 + h + 0) % 18446744073709551616 := ⟨_, rfl⟩
  obtain ⟨c, hc⟩ : ∃ c, c = (l2 + h + 0) / 18446744073709551616 := ⟨_, rfl⟩
  have AD := add64' l2 h 0 s c (by omega) (by omega) (by omega) (by omega) hs hc
  have N := hid (times_num HV.out.1 HV.out.2.1 HV.out.2.2 ⟨⟨by omega, by omega⟩, by omega, by omega⟩ ⟨⟨by omega, by omega⟩, by omega, by omega⟩ e1.out e2.out hs hc)
  have F : Hid ((Bd l ∧ Bd s ∧ Bd (h2 + c)) ∧ n3 l s (h2 + c) = v * n2 x y) := ⟨⟨⟨by omega, by omega⟩, ⟨by omega, by omega⟩, N.out.1⟩, N.out.2⟩
  have c0 : 0 ≤ h2 + c := N.out.1.1
  have c1 : h2 + c < 18446744073709551616 := N.out.1.2
  clear e1 e2 hs hc b1 b2 N
  go_wp2_with fail
  refine bodyPost_ret (results_cell_row rfl _ _ (w.heap.size + 1) 238 _ (0, 0) _ rfl (mid3 _ _ _ _) Tryz.underlying238 rfl (by kernel_rfl)) rfl ?_
  exact ⟨_, _, _, rfl, F.out.1, F.out.2, below_on (below_on (alloc_b _ _) (alloc_b _ _)) (alloc_b _ _)⟩

theorem plus_num {a b c v s k s1 k1 : Int} (ha : Bd a) (hb : Bd b) (hc : Bd c) (hv : Bd v) (hN : n3 a b c + v < 6277101735386680763835789423207666416102355444464034512896)
    (hs : s = (a + v + 0) % 18446744073709551616) (hk : k = (a + v + 0) / 18446744073709551616) (hs1 : s1 = (b + 0 + k) % 18446744073709551616) (hk1 : k1 = (b + 0 + k) / 18446744073709551616) :
    (Bd s ∧ Bd s1 ∧ Bd (c + k1)) ∧ n3 s s1 (c + k1) = n3 a b c + v := by
  unfold Bd n3 at *
  refine ⟨⟨⟨by omega, by omega⟩, ⟨by omega, by omega⟩, by omega, by omega⟩, by omega⟩

set_option maxRecDepth 100000 in
set_option maxHeartbeats 1000000 in
theorem pplus_any (a b c v : Int) (w : World) (ha : Bd a) (hb : Bd b) (hc : Bd c) (hv : Bd v) (hN : n3 a b c + v < 6277101735386680763835789423207666416102355444464034512896) :
    Calls Tryz.prog 219 #[prodV a b c, .int .u64 v] w fun e w' => ∃ x y z, e = .returned (prodV x y z) ∧ (Bd x ∧ Bd y ∧ Bd z) ∧ n3 x y z = n3 a b c + v ∧ Below w.heap.size w w' := by
  obtain ⟨s, hs⟩ : ∃ s, s = (a + v + 0) % 18446744073709551616 := ⟨_, rfl⟩
  obtain ⟨k, hk⟩ : ∃ k, k = (a + v + 0) / 18446744073709551616 := ⟨_, rfl⟩
  obtain ⟨s1, hs1⟩ : ∃ s, s = (b + 0 + k) % 18446744073709551616 := ⟨_, rfl⟩
  obtain ⟨k1, hk1⟩ : ∃ k1, k1 = (b + 0 + k) / 18446744073709551616 := ⟨_, rfl⟩
  have F := hid (plus_num ha hb hc hv hN hs hk hs1 hk1)
  have A1 := add64' a v 0 s k ha.1 hv.1 (by omega) (by omega) hs hk
  have A2 := add64' b 0 k s1 k1 hb.1 (by omega) (by unfold Bd at *; omega) (by unfold Bd at *; omega) hs1 hk1
  have c0 : 0 ≤ c + k1 := F.out.1.2.2.1
  have c1 : c + k1 < 18446744073709551616 := F.out.1.2.2.2
  clear hs hk hs1 hk1 hN ha hb hc hv
  unfold prodV
  go_enter Tryz.func219, Tryz.ntmps219
  go_wp2_with fail
  refine bodyPost_ret (results_cell_row rfl _ _ (w.heap.size + 1) 238 _ (0, 0) _ rfl (heap_alloc2_new _ _ _) Tryz.underlying238 rfl (by kernel_rfl)) rfl ?_
  exact ⟨_, _, _, rfl, F.out.1, F.out.2, below_on (alloc_b _ _) (alloc_b _ _)⟩

theorem n3_val (a b c : Int) : Nm.val [a, b, c] = n3 a b c := by unfold n3; simp only [Nm.val]; omega
theorem n2_val (a b : Int) : Nm.val [a, b] = n2 a b := by unfold n2; simp only [Nm.val]; omega
theorem ts3 (a b c : Int) : Nm.tsize [a, b, c] ≤ 4096 := Nat.le_trans (Nm.tsize_le _) (by simp)
theorem ts2 (a b : Int) : Nm.tsize [a, b] ≤ 4096 := Nat.le_trans (Nm.tsize_le _) (by simp)

set_option maxRecDepth 100000 in
set_option maxHeartbeats 1000000 in
theorem pround_any (a b c e : Int) (w : World) (hT : Tab w) (h : Bd a ∧ Bd b ∧ Bd c) :
    Calls Tryz.prog 215 #[prodV a b c, .int .i64 e] w fun r w' => ∃ x, r = .returned (.int .u64 x) ∧ Ie.Rnd (n3 a b c) 1 e false x ∧ Below w.heap.size w w' := by
  have R := hid (round_any false (some ⟨w.heap.size, 0, none⟩) 3 3 [a, b, c] (w.alloc (.cells #[.int .u64 a, .int .u64 b, .int .u64 c] 238)) (At3.arg (heap_alloc_new w _) h.1.1 h.1.2 h.2.1.1 h.2.1.2 h.2.2.1 h.2.2.2) (hT.below (alloc_b _ _)) (ts3 _ _ _) (n3 a b c) e false (n3_val a b c))
  clear h hT
  unfold prodV
  go_enter Tryz.func215, Tryz.ntmps215
  go_wp2_with fail
  refine R.out.mono ?_
  rintro r w1 ⟨x, rfl, hR, hB⟩
  have F := hid (And.intro hR (below_on (alloc_b _ _) hB))
  clear hR hB
  unfold Ie.sg
  go_wp2_with fail
  go_ret
  exact ⟨x, rfl, F.out⟩

/-- Two products in their boxes. -/
def TP (w wx : World) (a b c x y z : Int) : Prop := Below w.heap.size w wx ∧ At3 wx w.heap.size a b c ∧ At3 wx (w.heap.size + 1) x y z
theorem TP.new (w : World) (a b c x y z : Int) : TP w ((w.alloc (.cells #[.int .u64 a, .int .u64 b, .int .u64 c] 238)).alloc (.cells #[.int .u64 x, .int .u64 y, .int .u64 z] 238)) a b c x y z :=
  ⟨below_on (alloc_b _ _) (alloc_b _ _), heap_alloc2_old _ _ _, heap_alloc2_new _ _ _⟩
theorem TP.on {w wx wy : World} {a b c x y z : Int} (h : TP w wx a b c x y z) (k : Below wx.heap.size wx wy) : TP w wy a b c x y z :=
  ⟨below_on h.1 k, h.2.1.below k h.2.1.lt, h.2.2.below k h.2.2.lt⟩
theorem TP.drew {w wx : World} {a b c x y z : Int} (h : TP w wx a b c x y z) : TP w wx.drew a b c x y z := ⟨⟨h.1.1, h.1.2, h.1.3, h.1.4, h.1.5⟩, h.2.1, h.2.2⟩
theorem TP.flat {w wx : World} {a b c x y z : Int} (h : TP w wx a b c x y z) :
    (wx.cell? ⟨w.heap.size, 0, none⟩ = some (.int .u64 a) ∧ wx.cell? ⟨w.heap.size, 1, none⟩ = some (.int .u64 b) ∧ wx.cell? ⟨w.heap.size, 2, none⟩ = some (.int .u64 c)) ∧
    wx.cell? ⟨w.heap.size + 1, 0, none⟩ = some (.int .u64 x) ∧ wx.cell? ⟨w.heap.size + 1, 1, none⟩ = some (.int .u64 y) ∧ wx.cell? ⟨w.heap.size + 1, 2, none⟩ = some (.int .u64 z) :=
  ⟨h.2.1.cells.1, h.2.2.cells.1⟩

theorem eq_wide (a b c d : Int) (w : World) : (Op.equalIn 10000 240 (.agg #[.int .u64 a, .int .u64 b]) (.agg #[.int .u64 c, .int .u64 d])).run Tryz.prog w = .ok (decide (a = c ∧ b = d)) w := by
  have u3 := Tryz.underlying22
  have a3 := Tryz.isAgg22
  have z3 := Tryz.sizeOf22
  rw [show (10000 : Nat) = 9999 + 1 from rfl, Op.equalIn]
  simp only [Sem.run_bind, run_underlying Tryz.underlying240, Result.andThen_ok]
  simp only [Std.Legacy.Range.forIn_eq_forIn_range', Std.Legacy.Range.size, Nat.sub_zero, Nat.add_sub_cancel, Nat.div_one, List.range'_succ, List.range'_zero, List.forIn_cons, List.forIn_nil]
  go_simp
  by_cases h1 : a = c <;> by_cases h2 : b = d <;> simp [h1, h2]

set_option maxRecDepth 100000 in
set_option maxHeartbeats 4000000 in
theorem same_any9 (a b c x y z : Int) (w : World) :
    Calls Tryz.prog 220 #[prodV a b c, prodV x y z] w fun r w' => r = .returned (.bool (decide (a ≠ 0 ∧ b = y ∧ c = z))) ∧ Below w.heap.size w w' := by
  have Z := hid (TP.new w a b c x y z)
  have H1 := hid (fun wx => head_any a b c wx)
  have H2 := hid (fun wx => head_any x y z wx)
  by_cases h : a = 0
  · subst h
    rw [decide_eq_false (show ¬ ((0 : Int) ≠ 0 ∧ b = y ∧ c = z) by omega)]
    clear H1 H2
    unfold prodV
    go_enter Tryz.func220, Tryz.ntmps220
    go_upto_region 1 with fail
    go_quiet (fail)
    all_goals go_wp2_with fail
    all_goals go_ret
    exact ⟨rfl, ⟨Z.out.1.1, Z.out.1.2, Z.out.1.3, Z.out.1.4, Z.out.1.5⟩⟩
  · have hb : (a == 0) = false := by rw [beq_eq_false_iff_ne]; exact h
    have hn : (a != 0) = true := by rw [bne, hb]; rfl
    have EQ := eq_wide b c y z
    have DE : decide (a ≠ 0 ∧ b = y ∧ c = z) = decide (b = y ∧ c = z) := by simp [h]
    rw [DE]
    obtain ⟨t, ht⟩ : ∃ t, decide (b = y ∧ c = z) = t := ⟨_, rfl⟩
    rw [ht] at EQ ⊢
    clear ht DE
    unfold wideV at H1 H2
    unfold prodV at *
    go_enter Tryz.func220, Tryz.ntmps220
    go_upto_region 1 with fail
    generalize ((w.alloc (Obj.cells #[Value.int IntKind.u64 a, Value.int IntKind.u64 b, Value.int IntKind.u64 c] 238)).alloc (Obj.cells #[Value.int IntKind.u64 x, Value.int IntKind.u64 y, Value.int IntKind.u64 z] 238)) = wz at *
    have ZD := hid Z.out.drew
    obtain ⟨⟨c0, c1, c2⟩, c3, c4, c5⟩ := ZD.out.flat
    go_region_held3 (fun wx => (wx.cell? ⟨w.heap.size, 0, none⟩ = some (.int .u64 a) ∧ wx.cell? ⟨w.heap.size, 1, none⟩ = some (.int .u64 b) ∧ wx.cell? ⟨w.heap.size, 2, none⟩ = some (.int .u64 c)) ∧ wx.cell? ⟨w.heap.size + 1, 0, none⟩ = some (.int .u64 x) ∧ wx.cell? ⟨w.heap.size + 1, 1, none⟩ = some (.int .u64 y) ∧ wx.cell? ⟨w.heap.size + 1, 2, none⟩ = some (.int .u64 z)) (first | (with_reducible exact Z2.out.flat) | (with_reducible exact Z1.out.flat) | (with_reducible exact ZD.out.flat)) (first
      | (go_at_call 222; first
        | (with_reducible refine (H1.out _).mono ?_; rintro r w2 ⟨rfl, hB⟩; first | (have Z2 := hid (Z1.out.on hB); clear hB) | (have Z1 := hid (ZD.out.on hB); clear hB))
        | (with_reducible refine (H2.out _).mono ?_; rintro r w2 ⟨rfl, hB⟩; first | (have Z2 := hid (Z1.out.on hB); clear hB) | (have Z1 := hid (ZD.out.on hB); clear hB))))
    all_goals go_wp2_with fail
    all_goals go_ret
    all_goals exact ⟨rfl, Z2.out.1⟩
end Go.Proofs.YtbmlkfkhmaahnaaGreatDoor

namespace Go.Proofs.YtbmlkfkhmaahnaaGreatDoor
open Go Go.RowKit Go.Deep

def lo64 (P : Int) : Int := P % 18446744073709551616
def hi64 (P : Int) : Int := P / 18446744073709551616
theorem n2_split (P : Int) : n2 (lo64 P) (hi64 P) = P := by unfold n2 lo64 hi64; omega
theorem bd_split {P : Int} (h0 : 0 ≤ P) (h1 : P < 340282366920938463463374607431768211456) : Bd (lo64 P) ∧ Bd (hi64 P) := by unfold Bd lo64 hi64; omega

theorem Ans.two {B : Nat} {w : World} {r : Option Addr} {os : List Int} {P : Int} (h : Ans B w r os P) (h0 : 170141183460469231731687303715884105728 ≤ P) (h1 : P < 340282366920938463463374607431768211456) :
    ∃ b off, os = [lo64 P, hi64 P] ∧ r = some ⟨b, off, none⟩ ∧ w.cell? ⟨b, off, none⟩ = some (.int .u64 (lo64 P)) ∧ w.cell? ⟨b, off + 1, none⟩ = some (.int .u64 (hi64 P)) ∧ B ≤ b ∧ b < w.heap.size := by
  obtain ⟨hl, hz, ht, hv, hb⟩ := h
  have hx : os = [lo64 P, hi64 P] := by
    match os, hz, ht, hv with
    | [], _, _, hv => simp [Nm.val] at hv; omega
    | [x], hz, _, hv =>
      have := hz x (by simp)
      simp [Nm.val] at hv
      omega
    | [x, y], hz, _, hv =>
      have := hz x (by simp)
      have := hz y (by simp)
      simp [Nm.val] at hv
      unfold lo64 hi64
      congr 1
      · omega
      · congr 1; omega
    | x :: y :: z :: l, hz, ht, hv =>
      exfalso
      have k := (Nm.tsize_le_iff hz 2).2 (by rw [hv]; simp [Nm.pw]; omega)
      rw [ht] at k
      simp at k
  subst hx
  rcases hl with hl | ⟨b, off, hp, hc⟩
  · simp at hl
  · have c0 := hc 0 (by simp)
    have c1 := hc 1 (by simp)
    refine ⟨b, off, rfl, hp, c0, c1, hb _ hp, ?_⟩
    exact cell_lt c0

/-- The room for the row. -/
def RR (w wx : World) (x y : Int) : Prop := Below w.heap.size w wx ∧ At2 wx w.heap.size x y
theorem RR.new (w : World) : RR w (w.alloc (.cells #[.int .u64 0, .int .u64 0] 240)) 0 0 := ⟨alloc_b _ _, heap_alloc_new _ _⟩
theorem RR.on {w wx wy : World} {x y : Int} (h : RR w wx x y) (k : Below wx.heap.size wx wy) : RR w wy x y := ⟨below_on h.1 k, h.2.below k h.2.lt⟩
theorem RR.drew {w wx : World} {x y : Int} (h : RR w wx x y) : RR w wx.drew x y := ⟨⟨h.1.1, h.1.2, h.1.3, h.1.4, h.1.5⟩, h.2⟩
theorem RR.put {w wx : World} {x y : Int} (h : RR w wx x y) (u v : Int) : RR w ((wx.setCell ⟨w.heap.size, 0, none⟩ (.int .u64 u)).setCell ⟨w.heap.size, 1, none⟩ (.int .u64 v)) u v := by
  refine ⟨(h.1.setCell (p := ⟨w.heap.size, 0, none⟩) (Nat.le_refl _) _).setCell (p := ⟨w.heap.size, 1, none⟩) (Nat.le_refl _) _, ?_⟩
  have h0 := set1 (o := 0) (v := .int .u64 u) (c' := #[.int .u64 u, .int .u64 y]) h.2 (by simp [Array.setIfInBounds])
  exact set1 (o := 1) (v := .int .u64 v) (c' := #[.int .u64 u, .int .u64 v]) h0 (by simp [Array.setIfInBounds])

def RowTold (q : Int) (w : World) (e : Ending) (w' : World) : Prop := e = .returned (.tuple #[wideV (lo64 (Ie.rowP q)) (hi64 (Ie.rowP q)), .int .i64 (Ie.rowE q)]) ∧ Below w.heap.size w w'

theorem five_pw {n : Nat} (h : n ≤ 342) : (5 : Int) ^ n < Nm.pw 4096 := by
  have g := Ie.five_le h
  have k : (5 : Int) ^ 342 < 2 ^ 800 := by decide +kernel
  have e := Nm.pw_two 4096
  have m := Nm.two_mono (show 800 ≤ 64 * 4096 by decide)
  rw [e]
  generalize (2 : Int) ^ 800 = x at *
  generalize (2 : Int) ^ (64 * 4096) = y at *
  omega

theorem arg_lit9 {w : World} {g : Nat} {x : Int} (h : w.heap[g]? = some (.cells #[.int .u64 x] 22 (0, 0))) (h0 : 0 ≤ x) (h1 : x < 18446744073709551616) : Arg w (some ⟨g, 0, none⟩) 1 1 [x] := by
  refine ⟨rfl, Nat.le_refl _, by omega, .inr ⟨g, 0, rfl, fun i hi => ?_⟩, Nm.Limbs.mk h0 h1 Nm.Limbs.nil⟩
  obtain rfl : i = 0 := by simpa using hi
  simp [World.cell?, h]

theorem two_pw {u : Nat} (h : u < 262144) : (2 : Int) ^ u < Nm.pw 4096 := by
  have g := Nm.two_mono (show u + 1 ≤ 64 * 4096 by omega)
  rw [Nm.pw_two]
  rw [Int.pow_succ] at g
  have := Nm.two_pos u
  generalize (2 : Int) ^ u = x at *
  generalize (2 : Int) ^ (64 * 4096) = y at *
  omega

set_option maxRecDepth 100000 in
set_option maxHeartbeats 2000000 in
theorem rowBelow_any (k : Int) (n : Nat) (w : World) (hk : k = (n : Int)) (n0 : 0 < n) (n1 : n ≤ 342) :
    Calls Tryz.prog 221 #[.int .i64 k] w fun e w' => RowTold (-k) w e w' := by
  have P5 := hid (fun wx => pow5_gives k n wx hk (by omega))
  have f1 := hid (five_pw n1)
  have RE : Hid (Ie.rowE (-k) = -((Ie.bl n : Int) + 127)) := by rw [Hid, Ie.rowE, if_neg (by omega), show (-(-k)).toNat = n by omega]
  have RP : Hid (Ie.rowP (-k) = 2 ^ (Ie.bl n + 127) / 5 ^ n) := by rw [Hid, Ie.rowP, if_neg (by omega), show (-(-k)).toNat = n by omega]
  have RI := hid (Ie.row_is (q := -k) (by omega) (by omega))
  have LB := hid (Ie.row_len n1 (Ie.bl_is n))
  have Z := hid (RR.new w)
  clear hk n0 n1
  go_enter Tryz.func221, Tryz.ntmps221
  go_wp2_with fail
  refine (P5.out _).mono ?_
  rintro e w1 ⟨h | h, hB⟩
  · obtain ⟨h1, r, os, rfl, A⟩ := h
    have Z1 := hid (Z.out.on hB)
    have ag := A.argT f1.out
    have ts := A.tsT f1.out
    obtain ⟨L, hL, BL, _, _⟩ := blen_is os ag.2.2.2.2
    rw [A.2.2.2.1] at BL
    have hLe : L = Ie.bl n := BL.unique (by have := Ie.five_pos n; omega) (Ie.bl_is n)
    have BN := hid (bitLen_n L r os.length os.length os w1 ag hL)
    have lb := LB.out
    rw [← hLe] at lb RE RP
    have l0 : (1 : Int) ≤ L := by omega
    have l1 : (L : Int) ≤ 800 := by omega
    obtain ⟨up, hup⟩ : ∃ up : Nat, up = L + 127 := ⟨_, rfl⟩
    rw [← hup] at RP
    have e1 : (L : Int) + 128 - 1 = (up : Int) := by omega
    have AL : Hid (Arg (w1.alloc (.cells #[.int .u64 1] 22)) (some ⟨w1.heap.size, 0, none⟩) 1 1 [1]) := arg_lit9 (heap_alloc_new _ _) (by omega) (by omega)
    have SL : Hid (Calls Tryz.prog 46 #[.slice (some ⟨w1.heap.size, 0, none⟩) 1 1, .int .i64 (up : Int)] (w1.alloc (.cells #[.int .u64 1] 22)) fun e w' => ∃ r os, e = .returned (.tuple #[.slice r (List.length os) (List.length os), .int .i64 0]) ∧ Ans w1.heap.size w' r os (2 ^ up) ∧ Below w1.heap.size w1 w') := by
      obtain ⟨M, hM, BM, _, _⟩ := blen_is (Nm.trim [1]) AL.out.2.2.2.2.trim
      have hv : Nm.val (Nm.trim [1]) = 1 := by decide
      rw [hv] at BM
      have hm : M ≤ 1 := by
        have := BM.2.2 (by omega)
        rcases (show M ≤ 1 ∨ 2 ≤ M by omega) with g | g
        · exact g
        · have := Nm.two_mono (show 1 ≤ M - 1 by omega)
          omega
      refine (shl_ok _ 1 1 [1] (up : Int) up M _ AL.out (by decide) rfl (by decide) hM (by omega)).mono ?_
      rintro e w' ⟨r, os, rfl, A2, hB2⟩
      rw [show Nm.val [1] = 1 by decide, Int.one_mul] at A2
      exact ⟨r, os, rfl, A2.up (alloc_b _ _).size, below_on (alloc_b _ _) hB2⟩
    have GA := hid ag
    have TS := hid ts
    have AA := hid A
    have tp : Hid ((2 : Int) ^ up < Nm.pw 4096) := two_pw (by omega)
    clear hB h1 ag ts hL BL hLe lb LB A AL P5 hup Z
    go_wp2_with fail
    refine BN.out.mono ?_
    rintro e w' ⟨rfl, rfl⟩
    go_wp2_with fail
    refine SL.out.mono ?_
    rintro e w2 ⟨r2, os2, rfl, A2, hB2⟩
    have Z2 := hid (Z1.out.on hB2)
    have DM := hid (divMod_ok r2 r _ _ _ _ os2 os w2 (A2.argT tp.out) (GA.out.below hB2 (Nat.le_refl _)) (A2.tsT tp.out) TS.out (by
      rcases Nat.eq_zero_or_pos (Nm.tsize os) with g | g
      · have := (Nm.tsize_zero_iff GA.out.2.2.2.2).1 g
        have := AA.out.2.2.2.1
        have := Ie.five_pos n
        omega
      · exact g))
    rw [A2.2.2.2.1, AA.out.2.2.2.1] at DM
    clear A2 hB2 SL BN GA TS AA tp f1 Z1
    go_wp2_with fail
    refine DM.out.mono ?_
    rintro e w3 ⟨r3, os3, r4, os4, rfl, A3, _, hB3⟩
    have Z3 := hid (Z2.out.on hB3)
    rw [← RP.out] at A3
    obtain ⟨b, off, rfl, rfl, c0, c1, b0, b1⟩ := A3.two RI.out.lo RI.out.hi
    obtain ⟨⟨d0, d1⟩, g0, g1⟩ := Z3.out.drew.2.cells
    obtain ⟨⟨d0', d1'⟩, g0', g1'⟩ := Z3.out.2.cells
    have k0 : w3.drew.cell? ⟨b, off, none⟩ = some (.int .u64 (lo64 (Ie.rowP (-k)))) := c0
    have k1 : w3.drew.cell? ⟨b, off + 1, none⟩ = some (.int .u64 (hi64 (Ie.rowP (-k)))) := c1
    have ne : b ≠ w.heap.size := by have := Z2.out.2.lt; omega
    have F : Hid (∀ w', Below w.heap.size w w' → RowTold (-k) w (.returned (.tuple #[.agg #[.int .u64 (lo64 (Ie.rowP (-k))), .int .u64 (hi64 (Ie.rowP (-k)))], .int .i64 (-(up : Int))])) w') := fun w' h => ⟨by rw [RE.out, ← e1, show -((L : Int) + 127) = -((L : Int) + 128 - 1) by omega]; rfl, h⟩
    have u0 : (0 : Int) ≤ up := by omega
    have u1 : (up : Int) ≤ 1000 := by omega
    generalize lo64 (Ie.rowP (-k)) = x at *
    generalize hi64 (Ie.rowP (-k)) = y at *
    clear c0 c1 A3 hB3 DM RI RE RP Z2 b0 b1 e1 l0 l1
    go_upto_region 5 with fail
    go_region
    all_goals go_wp2_with fail
    refine bodyPost_ret (results_row_tmp rfl _ _ w.heap.size 240 _ (0, 0) _ rfl (Z3.out.put _ _).drew.2 Tryz.underlying240 rfl (by kernel_rfl)) rfl ?_
    exact F.out _ (Z3.out.put _ _).drew.1
  · exfalso
    have := f1.out
    have := h.1
    omega
set_option maxRecDepth 100000 in
set_option maxHeartbeats 2000000 in
theorem row_any (q : Int) (w : World) (hT : Tab w) (q0 : -342 ≤ q) (q1 : q ≤ 308) :
    Calls Tryz.prog 217 #[.int .i64 q] w fun e w' => RowTold q w e w' := by
  have Z := hid (RR.new w)
  by_cases hq : q < 0
  · have RB := hid (fun wx => rowBelow_any (-q) (-q).toNat wx (by omega) (by omega) (by omega))
    rw [Int.neg_neg] at RB
    clear q1 hT
    go_enter Tryz.func217, Tryz.ntmps217
    go_wp2_with fail
    refine (RB.out _).mono ?_
    rintro e w3 ⟨rfl, hB⟩
    have Z3 := hid (Z.out.on hB)
    have F : Hid (∀ w', Below w.heap.size w w' → RowTold q w (.returned (.tuple #[.agg #[.int .u64 (lo64 (Ie.rowP q)), .int .u64 (hi64 (Ie.rowP q))], .int .i64 (Ie.rowE q)])) w') := fun w' h => ⟨rfl, h⟩
    unfold wideV
    obtain ⟨⟨d0, d1⟩, g0, g1⟩ := Z3.out.2.cells
    generalize lo64 (Ie.rowP q) = x at *
    generalize hi64 (Ie.rowP q) = y at *
    generalize Ie.rowE q = ee at *
    clear hB RB Z
    go_wp2_with fail
    (try simp only [Exit.inBlock, Exit.then])
    refine bodyPost_ret (results_row_tmp rfl _ _ w.heap.size 240 _ (0, 0) _ rfl (Z3.out.put _ _).2 Tryz.underlying240 rfl (by kernel_rfl)) rfl ?_
    exact F.out _ (Z3.out.put _ _).1
  · obtain ⟨n, hn⟩ := Int.eq_ofNat_of_zero_le (show 0 ≤ q by omega)
    have P5 := hid (fun wx => pow5_gives q n wx hn (by omega))
    have f1 := hid (five_pw (show n ≤ 342 by omega))
    have RE : Hid (Ie.rowE q = (Ie.bl n : Int) - 128) := by rw [Hid, Ie.rowE, if_pos (by omega), show q.toNat = n by omega]
    have RI := hid (Ie.row_is (q := q) (by omega) (by omega))
    have LB := hid (Ie.row_len (show n ≤ 342 by omega) (Ie.bl_is n))
    have R1 : Hid (Ie.bl n < 128 → Ie.rowP q = 5 ^ n * 2 ^ (128 - Ie.bl n)) := fun h => by rw [Ie.rowP, if_pos (by omega), show q.toNat = n by omega, if_pos (by omega)]
    have R2 : Hid (128 ≤ Ie.bl n → Ie.rowP q = 5 ^ n / 2 ^ (Ie.bl n - 128)) := fun h => by
      rw [Ie.rowP, if_pos (by omega), show q.toNat = n by omega]
      split
      · rw [show Ie.bl n - 128 = 0 by omega, show 128 - Ie.bl n = 0 by omega]; simp
      · rfl
    have HT := hid hT
    clear hn hT
    have hq0 : 0 ≤ q := by omega
    go_enter Tryz.func217, Tryz.ntmps217
    go_wp2_with fail
    refine (P5.out _).mono ?_
    rintro e w1 ⟨h | h, hB⟩
    · obtain ⟨h1, r, os, rfl, A⟩ := h
      have Z1 := hid (Z.out.on hB)
      have ag := A.argT f1.out
      have ts := A.tsT f1.out
      obtain ⟨L, hL, BL, hL64, _⟩ := blen_is os ag.2.2.2.2
      have tz : 0 < Nm.tsize os := by
        rcases Nat.eq_zero_or_pos (Nm.tsize os) with g | g
        · have := (Nm.tsize_zero_iff ag.2.2.2.2).1 g
          have := A.2.2.2.1
          have := Ie.five_pos n
          omega
        · exact g
      have hLt : blen (Nm.trim os) = (L : Int) := by
        rw [show Nm.trim os = os by unfold Nm.trim; rw [A.2.2.1, List.take_length]]; exact hL
      have hv := A.2.2.2.1
      rw [hv] at BL
      have hLe : L = Ie.bl n := BL.unique (by have := Ie.five_pos n; omega) (Ie.bl_is n)
      have BN := hid (bitLen_n L r os.length os.length os w1 ag hL)
      have lb := LB.out
      rw [← hLe] at lb RE R1 R2
      have l0 : (1 : Int) ≤ L := by omega
      have l1 : (L : Int) ≤ 800 := by omega
      by_cases h128 : L < 128
      · have RP := hid (R1.out h128)
        obtain ⟨kk, hkk⟩ : ∃ kk : Nat, kk = 128 - L := ⟨_, rfl⟩
        rw [← hkk] at RP
        have e1 : -((L : Int) - 128) = (kk : Int) := by omega
        have e2 : (L : Int) - 128 < 0 := by omega
        have SL : Hid (Calls Tryz.prog 46 #[.slice r (List.length os) (List.length os), .int .i64 (kk : Int)] w1 fun e w' => ∃ r os, e = .returned (.tuple #[.slice r (List.length os) (List.length os), .int .i64 0]) ∧ Ans w1.heap.size w' r os (Ie.rowP q) ∧ Below w1.heap.size w1 w') := by
          refine (shl_ok r _ _ os (kk : Int) kk L w1 ag ts rfl tz hLt (by omega)).mono ?_
          rintro e w' ⟨r, os, rfl, A2, hB2⟩
          rw [hv, ← RP.out] at A2
          exact ⟨r, os, rfl, A2, hB2⟩
        clear hB h1 ag ts hL BL hLe lb LB A P5 Z R1 R2 RP hLt hL64 tz hv f1 HT h128 hkk
        go_wp2_with fail
        refine BN.out.mono ?_
        rintro e w' ⟨rfl, rfl⟩
        go_wp2_with fail
        refine SL.out.mono ?_
        rintro e w3 ⟨r2, os2, rfl, A3, hB3⟩
        have Z3 := hid (Z1.out.on hB3)
        obtain ⟨b, off, rfl, rfl, c0, c1, b0, b1⟩ := A3.two RI.out.lo RI.out.hi
        obtain ⟨⟨d0, d1⟩, g0, g1⟩ := Z3.out.drew.2.cells
        obtain ⟨⟨d0', d1'⟩, g0', g1'⟩ := Z3.out.2.cells
        have k0 : w3.drew.cell? ⟨b, off, none⟩ = some (.int .u64 (lo64 (Ie.rowP q))) := c0
        have k1 : w3.drew.cell? ⟨b, off + 1, none⟩ = some (.int .u64 (hi64 (Ie.rowP q))) := c1
        have ne : b ≠ w.heap.size := by have := Z1.out.2.lt; omega
        have F : Hid (∀ w', Below w.heap.size w w' → RowTold q w (.returned (.tuple #[.agg #[.int .u64 (lo64 (Ie.rowP q)), .int .u64 (hi64 (Ie.rowP q))], .int .i64 ((L : Int) - 128)])) w') := fun w' h => ⟨by rw [RE.out]; rfl, h⟩
        generalize lo64 (Ie.rowP q) = x at *
        generalize hi64 (Ie.rowP q) = y at *
        clear c0 c1 A3 hB3 SL RI RE b0 b1 Z1
        go_upto_region 8 with fail
        go_region
        all_goals go_wp2_with fail
        refine bodyPost_ret (results_row_tmp rfl _ _ w.heap.size 240 _ (0, 0) _ rfl (Z3.out.put _ _).drew.2 Tryz.underlying240 rfl (by kernel_rfl)) rfl ?_
        exact F.out _ (Z3.out.put _ _).drew.1
      · have RP := hid (R2.out (by omega))
        obtain ⟨kk, hkk⟩ : ∃ kk : Nat, kk = L - 128 := ⟨_, rfl⟩
        rw [← hkk] at RP
        have e1 : (L : Int) - 128 = (kk : Int) := by omega
        have e2 : ¬ ((L : Int) - 128 < 0) := by omega
        have e3 : (0 : Int) ≤ kk := by omega
        have SL : Hid (Calls Tryz.prog 197 #[.slice r (List.length os) (List.length os), .int .i64 (kk : Int)] w1 fun e w' => ∃ r os b, e = .returned (.tuple #[.slice r (List.length os) (List.length os), .bool b, .int .i64 0]) ∧ Ans w1.heap.size w' r os (Ie.rowP q) ∧ Below w1.heap.size w1 w') := by
          refine (shr_ok r _ _ os (kk : Int) kk L w1 ag (HT.out.below Z1.out.1) ts rfl hLt hL64 (by omega)).mono ?_
          rintro e w' ⟨r, os, rfl, A2, hB2⟩
          rw [hv, ← RP.out] at A2
          exact ⟨r, os, _, rfl, A2, hB2⟩
        clear hB h1 ag ts hL BL hLe lb LB A P5 Z R1 R2 RP hLt hL64 tz hv f1 HT h128 hkk
        go_wp2_with fail
        refine BN.out.mono ?_
        rintro e w' ⟨rfl, rfl⟩
        go_wp2_with fail
        refine SL.out.mono ?_
        rintro e w3 ⟨r2, os2, bb, rfl, A3, hB3⟩
        have Z3 := hid (Z1.out.on hB3)
        obtain ⟨b, off, rfl, rfl, c0, c1, b0, b1⟩ := A3.two RI.out.lo RI.out.hi
        obtain ⟨⟨d0, d1⟩, g0, g1⟩ := Z3.out.drew.2.cells
        obtain ⟨⟨d0', d1'⟩, g0', g1'⟩ := Z3.out.2.cells
        have k0 : w3.drew.cell? ⟨b, off, none⟩ = some (.int .u64 (lo64 (Ie.rowP q))) := c0
        have k1 : w3.drew.cell? ⟨b, off + 1, none⟩ = some (.int .u64 (hi64 (Ie.rowP q))) := c1
        have ne : b ≠ w.heap.size := by have := Z1.out.2.lt; omega
        have F : Hid (∀ w', Below w.heap.size w w' → RowTold q w (.returned (.tuple #[.agg #[.int .u64 (lo64 (Ie.rowP q)), .int .u64 (hi64 (Ie.rowP q))], .int .i64 (kk : Int)])) w') := fun w' h => ⟨by rw [RE.out, e1]; rfl, h⟩
        generalize lo64 (Ie.rowP q) = x at *
        generalize hi64 (Ie.rowP q) = y at *
        clear c0 c1 A3 hB3 SL RI RE b0 b1 Z1
        go_upto_region 8 with fail
        go_region
        all_goals go_wp2_with fail
        refine bodyPost_ret (results_row_tmp rfl _ _ w.heap.size 240 _ (0, 0) _ rfl (Z3.out.put _ _).drew.2 Tryz.underlying240 rfl (by kernel_rfl)) rfl ?_
        exact F.out _ (Z3.out.put _ _).drew.1
    · exfalso
      have := f1.out
      have := h.1
      omega
end Go.Proofs.YtbmlkfkhmaahnaaGreatDoor

namespace Go.Proofs.YtbmlkfkhmaahnaaGreatDoor
open Go Go.RowKit Go.Deep

theorem results_tmp4k {fn : Func} {t u v x : Tmp} (h : fn.results = #[.tmp t, .tmp u, .tmp v, .tmp x]) (tmps : Array Value) (P : Program) (w : World) :
    (results fn tmps).run P w = .ok (.tuple #[tmps.getD t undef, tmps.getD u undef, tmps.getD v undef, tmps.getD x undef]) w := by
  simp [results, h]

theorem kbel_drew {B : Nat} {w w' : World} (h : Below B w w') : Below B w w'.drew := ⟨h.1, h.2, h.3, h.4, h.5⟩

def StepTold (v q : Int) (w : World) (e : Ending) (w' : World) : Prop := ∃ x s, e = .returned (.tuple #[.int .u64 x, .bool s]) ∧ Ie.Stq v q x s ∧ Below w.heap.size w w'

/-- One product in its box. -/
def OP (w wx : World) (g : Nat) (a b c : Int) : Prop := Below w.heap.size w wx ∧ At3 wx g a b c
theorem OP.on {w wx wy : World} {g : Nat} {a b c : Int} (h : OP w wx g a b c) (k : Below wx.heap.size wx wy) : OP w wy g a b c := ⟨below_on h.1 k, h.2.below k h.2.lt⟩
theorem OP.new {w w1 : World} (h : Below w.heap.size w w1) (a b c : Int) : OP w (w1.alloc (.cells #[.int .u64 a, .int .u64 b, .int .u64 c] 238)) w1.heap.size a b c := ⟨below_on h (alloc_b _ _), heap_alloc_new _ _⟩

theorem head_same {a b c x y z v P e A : Int} (ha : Bd a ∧ Bd b ∧ Bd c) (hx : Bd x ∧ Bd y ∧ Bd z) (hn : n3 x y z = n3 a b c + v) (v0 : 0 < v) (hp : n3 a b c = v * P) (hP : 170141183460469231731687303715884105728 ≤ P) (h : a ≠ 0 ∧ b = y ∧ c = z)
    (hr : Ie.Rnd (n3 a b c) 1 e false A) : Ie.Rnd (n3 x y z) 1 e false A := by
  have hm : P ≤ v * P := by have := Int.mul_le_mul_of_nonneg_right (show 1 ≤ v by omega) (show 0 ≤ P by omega); rw [Int.one_mul] at this; exact this
  obtain ⟨h0, rfl, rfl⟩ := h
  unfold Bd at *
  have e1 : n3 a b c = (b + 18446744073709551616 * c) * 18446744073709551616 + a := by unfold n3; omega
  have e2 : n3 x b c = (b + 18446744073709551616 * c) * 18446744073709551616 + x := by unfold n3; omega
  have hxa : x = a + v := by unfold n3 at hn; omega
  have hh : 18014398509481984 ≤ b + 18446744073709551616 * c := by rw [← hp, e1] at hm; omega
  rw [e1] at hr
  rw [e2]
  exact Ie.head_rnd hh (by omega) (by omega) (by omega) (by omega) hr

set_option maxRecDepth 100000 in
set_option maxHeartbeats 1000000 in
theorem step_any9 (v q : Int) (w : World) (hT : Tab w) (hv : Bd v) :
    Calls Tryz.prog 213 #[.int .u64 v, .int .i64 q] w fun e w' => StepTold v q w e w' := by
  by_cases h0 : v = 0
  · subst h0
    have F : Hid (StepTold 0 q w (.returned (.tuple #[.int .u64 0, .bool true])) w) := ⟨0, true, rfl, .inl ⟨rfl, rfl, rfl⟩, Below.refl _ _⟩
    clear hv hT
    go_enter Tryz.func213, Tryz.ntmps213
    go_wp2_with fail
    go_ret2
    exact F.out
  have v0 : (v == 0) = false := by rw [beq_eq_false_iff_ne]; exact h0
  have vp : 0 < v := by have := hv.1; omega
  have I := hid (inTable_any q w)
  by_cases h : -342 ≤ q ∧ q ≤ 308
  · have RW := hid (row_any q w hT h.1 h.2)
    have RI := hid (Ie.row_is h.1 h.2)
    have bs := bd_split (P := Ie.rowP q) (by have := RI.out.lo; omega) RI.out.hi
    have TM := hid (fun wx => ptimes_any v (lo64 (Ie.rowP q)) (hi64 (Ie.rowP q)) wx hv bs.1 bs.2)
    rw [n2_split] at TM
    rw [decide_eq_true h] at I
    have EX := hid (fun wx => exact_any9 q wx)
    have HT := hid hT
    have HV := hid hv
    have VP := hid vp
    have PR := hid (fun (a b c : Int) (wx : World) (hb : Below w.heap.size w wx) (hh : Bd a ∧ Bd b ∧ Bd c) => pround_any a b c (Ie.rowE q + q) wx (hT.below hb) hh)
    have PL := hid (fun (a b c : Int) (wx : World) (hh : Bd a ∧ Bd b ∧ Bd c) hn => pplus_any a b c v wx hh.1 hh.2.1 hh.2.2 hv hn)
    have SD := hid (fun (a b c x y z : Int) (wx : World) => same_any9 a b c x y z wx)
    have eb := RI.out.eb
    have F1 : Hid (∀ A w', 0 ≤ q ∧ q ≤ 55 → Ie.Rnd (v * Ie.rowP q) 1 (Ie.rowE q + q) false A → Below w.heap.size w w' → StepTold v q w (.returned (.tuple #[.int .u64 A, .bool true])) w') := fun A w' g r b => ⟨A, true, rfl, .inr (.inr ⟨vp, h.1, h.2, A, A, r, .inl ⟨g.1, g.2, rfl⟩, .inl ⟨rfl, rfl, rfl⟩⟩), b⟩
    have F2 : Hid (∀ A w', ¬ (0 ≤ q ∧ q ≤ 55) → Ie.Rnd (v * Ie.rowP q) 1 (Ie.rowE q + q) false A → Ie.Rnd (v * (Ie.rowP q + 1)) 1 (Ie.rowE q + q) false A → Below w.heap.size w w' → StepTold v q w (.returned (.tuple #[.int .u64 A, .bool true])) w') := fun A w' g r r2 b => ⟨A, true, rfl, .inr (.inr ⟨vp, h.1, h.2, A, A, r, .inr ⟨by omega, r2⟩, .inl ⟨rfl, rfl, rfl⟩⟩), b⟩
    have F3 : Hid (∀ A B w', ¬ (0 ≤ q ∧ q ≤ 55) → Ie.Rnd (v * Ie.rowP q) 1 (Ie.rowE q + q) false A → Ie.Rnd (v * (Ie.rowP q + 1)) 1 (Ie.rowE q + q) false B → A ≠ B → Below w.heap.size w w' → StepTold v q w (.returned (.tuple #[.int .u64 0, .bool false])) w') := fun A B w' g r r2 ne b => ⟨0, false, rfl, .inr (.inr ⟨vp, h.1, h.2, A, B, r, .inr ⟨by omega, r2⟩, .inr ⟨ne, rfl, rfl⟩⟩), b⟩
    have q0 := h.1
    have q1 := h.2
    have HS : Hid (∀ a b c x y z A, Bd a ∧ Bd b ∧ Bd c → Bd x ∧ Bd y ∧ Bd z → n3 x y z = n3 a b c + v → n3 a b c = v * Ie.rowP q → a ≠ 0 ∧ b = y ∧ c = z → Ie.Rnd (n3 a b c) 1 (Ie.rowE q + q) false A → Ie.Rnd (n3 x y z) 1 (Ie.rowE q + q) false A) := fun a b c x y z A k1 k2 k3 k4 k5 k6 => head_same k1 k2 k3 vp k4 RI.out.lo k5 k6
    have HN : Hid (∀ N : Int, N = v * Ie.rowP q → N + v < 6277101735386680763835789423207666416102355444464034512896 ∧ N + v = v * (Ie.rowP q + 1)) := fun N hN => by
      have hP := RI.out.hi
      have e1 : N + v = v * (Ie.rowP q + 1) := by rw [hN, Int.mul_add, Int.mul_one]
      refine ⟨?_, e1⟩
      rw [e1]
      have g1 : v * (Ie.rowP q + 1) ≤ v * 340282366920938463463374607431768211456 := Int.mul_le_mul_of_nonneg_left (by omega) (by omega)
      have := hv.2
      omega
    clear h hT hv bs RI vp h0
    go_enter Tryz.func213, Tryz.ntmps213
    go_wp2_with fail
    refine I.out.mono ?_
    rintro e w' ⟨rfl, rfl⟩
    go_wp2_with fail
    refine RW.out.mono ?_
    rintro e w1 ⟨rfl, hB1⟩
    generalize Ie.rowE q = ee at *
    generalize Ie.rowP q = P at *
    have HB1 := hid hB1
    unfold wideV at *
    clear RW I hB1
    go_wp2_with fail
    with_reducible refine (TM.out _).mono ?_
    rintro e w2 ⟨a, b, c, rfl, hbd, hn, hB2⟩
    have O2 := hid (OP.new (below_on (below_on HB1.out (alloc_b _ _)) hB2) a b c)
    have BD := hid hbd
    have NN := hid hn
    unfold prodV at *
    clear hB2 hbd hn TM HB1
    go_upto_region 7 with fail
    generalize (w2.alloc (.cells #[.int .u64 a, .int .u64 b, .int .u64 c] 238)) = w3 at *
    obtain ⟨⟨d0, d1, d2⟩, _⟩ := O2.out.2.cells
    go_wp2_with fail
    have ob := O2.out.1
    with_reducible refine (PR.out a b c _ ob BD.out).mono ?_
    rintro e w4 ⟨A, rfl, hA, hB4⟩
    clear ob
    have O4 := hid (O2.out.on hB4)
    rw [NN.out] at hA
    have HA := hid hA
    clear hB4 d0 d1 d2 hA O2
    go_wp2_with fail
    refine (EX.out _).mono ?_
    rintro e w5 ⟨rfl, rfl⟩
    by_cases hx : 0 ≤ q ∧ q ≤ 55
    · rw [decide_eq_true hx]
      have FF := hid (F1.out A w5 hx HA.out O4.out.1)
      clear hx F1 F2 F3
      go_wp2_with fail
      go_ret2
      exact FF.out
    · rw [decide_eq_false hx]
      have HX := hid hx
      obtain ⟨⟨d0, d1, d2⟩, _⟩ := O4.out.2.cells
      clear hx
      go_wp2_with fail
      refine (PL.out a b c _ BD.out (HN.out _ NN.out).1).mono ?_
      rintro e w6 ⟨x, y, z, rfl, hbx, hnx, hB6⟩
      have O6 := hid (O4.out.on hB6)
      have O7 := hid (O6.out.on (alloc_b w6 (.cells #[.int .u64 x, .int .u64 y, .int .u64 z] 238)))
      have P7 := hid (OP.new O6.out.1 x y z)
      have BX := hid hbx
      have NX := hid hnx
      clear hB6 hbx hnx d0 d1 d2 O6 O4
      go_upto_region 11 with fail
      generalize (w6.alloc (.cells #[.int .u64 x, .int .u64 y, .int .u64 z] 238)) = w7 at *
      obtain ⟨⟨d0, d1, d2⟩, _⟩ := O7.out.2.cells
      obtain ⟨⟨p0, p1, p2⟩, _⟩ := P7.out.2.cells
      go_wp2_with fail
      with_reducible refine (SD.out a b c x y z _).mono ?_
      rintro e w8 ⟨rfl, hB8⟩
      have P8 := hid (P7.out.on hB8)
      have S1 : Hid (a ≠ 0 ∧ b = y ∧ c = z → Ie.Rnd (v * (P + 1)) 1 (ee + q) false A) := fun g => by
        have := HS.out a b c x y z A BD.out BX.out NX.out NN.out g (by rw [NN.out]; exact HA.out)
        rw [NX.out, (HN.out _ NN.out).2] at this
        exact this
      clear d0 d1 d2 p0 p1 p2 hB8 O7 P7
      obtain ⟨⟨p0, p1, p2⟩, _⟩ := P8.out.2.cells
      obtain ⟨sb, hsb⟩ : ∃ sb, decide (a ≠ 0 ∧ b = y ∧ c = z) = sb := ⟨_, rfl⟩
      rw [hsb]
      cases sb with
      | true =>
        have FF := hid (F2.out A w8 HX.out HA.out (S1.out (of_decide_eq_true hsb)) P8.out.1)
        clear hsb F1 F2 F3 S1
        go_wp2_with fail
        go_ret2
        exact FF.out
      | false =>
        clear hsb
        go_wp2_with fail
        have ob := P8.out.1
        with_reducible refine (PR.out x y z _ ob BX.out).mono ?_
        rintro e w9 ⟨B, rfl, hR, hB9⟩
        clear ob
        rw [NX.out, (HN.out _ NN.out).2] at hR
        by_cases hAB : B = A
        · subst hAB
          have FF := hid (F2.out B w9 HX.out HA.out hR (below_on P8.out.1 hB9))
          clear hR hB9 F1 F2 F3 S1 p0 p1 p2
          go_wp2_with fail
          go_ret2
          exact FF.out
        · have FF := hid (F3.out A B w9 HX.out HA.out hR (fun g => hAB g.symm) (below_on P8.out.1 hB9))
          have hne : (B == A) = false := by rw [beq_eq_false_iff_ne]; exact hAB
          clear hR hB9 F1 F2 F3 S1 p0 p1 p2
          go_wp2_with fail
          go_ret2
          exact FF.out
  · rw [decide_eq_false h] at I
    have F : Hid (StepTold v q w (.returned (.tuple #[.int .u64 0, .bool false])) w) := ⟨0, false, rfl, .inr (.inl ⟨vp, by omega, rfl, rfl⟩), Below.refl _ _⟩
    clear h hT hv vp
    go_enter Tryz.func213, Tryz.ntmps213
    go_wp2_with fail
    refine I.out.mono ?_
    rintro e w' ⟨rfl, rfl⟩
    go_wp2_with fail
    go_ret2
    exact F.out
end Go.Proofs.YtbmlkfkhmaahnaaGreatDoor
