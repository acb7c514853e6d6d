import Derived.Test.YtggiioipppbedaaGreatDoorINear1
import Derived.Test.YtggiioipppbedaaGreatDoorINum2
/-
  ieee: nearest (made by mknear.py).
-/
namespace Go.Proofs.YtggiioipppbedaaGreatDoor
open Go Go.RowKit Go.Deep

set_option maxRecDepth 100000 in
set_option maxHeartbeats 2000000 in
theorem nearest_up (p : Option Addr) (n cap : Nat) (zs : List Int) (w : World) (ha : Arg w p n cap zs) (hT : Tab w) (tz : Nm.tsize zs ≤ 4096) (V e u : Int) (L j U : Nat) (more : Bool) (hV : Nm.val zs = V) (hL : blen zs = (L : Int)) (hL0 : 0 < L) (hL2 : L ≤ 262144) (hbig : (L : Int) + e ≤ 1024) (hsm : -8000000 ≤ e)
    (hj : e - u = (j : Int)) (hj2 : j ≤ 64) (hU : u + 1074 = (U : Int)) (hU2 : U ≤ 2045) (hm : V * 2 ^ j < 9007199254740992) (hmax : ((L : Int) + e - 53 < -1074 ∧ u = -1074) ∨ (-1074 ≤ (L : Int) + e - 53 ∧ u = (L : Int) + e - 53)) :
    Calls Tryz.prog 50 #[.slice p n cap, .int .i64 e, .bool more] w fun r w' => r = .returned (.int .u64 ((U : Int) * 4503599627370496 + V * 2 ^ j)) ∧ Below w.heap.size w w' := by
  have v0 : 0 ≤ V := by rw [← hV]; exact (Nm.val_bd zs ha.2.2.2.2).1
  have BL : Hid (Calls Tryz.prog 47 #[.slice p n cap] w fun e w' => e = .returned (.int .i64 (L : Int)) ∧ w' = w) := by
    have := bitLen_any p n cap zs w ha
    rw [hL] at this
    exact this
  obtain ⟨m, hme⟩ : ∃ m, V * 2 ^ j = m := ⟨_, rfl⟩
  have SC : Hid (∀ s : Int, s = (j : Int) → Calls Tryz.prog 79 #[.slice p n cap, .int .i64 s] w fun e w' => e = .returned (.int .u64 m) ∧ Below w.heap.size w w') := by
    intro s hs
    rcases Nat.eq_zero_or_pos j with hj0 | hj0
    · subst hj0
      have e1 : V / 2 ^ 0 = m := by rw [← hme, Int.pow_zero, Int.mul_one, Int.ediv_one]
      have := scaled_down p n cap zs w ha hT tz V s 0 hV (by omega) (by omega) (by rw [e1]; omega)
      rw [e1] at this
      exact this
    · have := scaled_up p n cap zs w ha V s j hV hs hj0 hj2 (by omega)
      rw [hme] at this
      refine this.mono ?_
      rintro e' w' ⟨rfl, rfl⟩
      exact ⟨rfl, Below.refl _ _⟩
  have RU := hid (fun (wx : World) (s : Int) (half : Bool) (h : s ≤ 0) (h2 : -8000000 ≤ s) => up_none p n cap wx s half h h2)
  have m0 : 0 ≤ m := by rw [← hme]; exact Int.mul_nonneg v0 (by have := Nm.two_pos j; omega)
  rw [hme] at hm ⊢
  have B := Ib.one_and m m0 (by omega)
  have l0 : ((L : Int) == 0) = false := by rw [beq_eq_false_iff_ne]; omega
  have l1 : ¬ 1024 < (L : Int) + e := by omega
  have l2 : (L : Int) ≤ 262144 := by omega
  clear ha hV hL hme hL2 v0 hT tz
  rcases hmax with ⟨h, rfl⟩ | ⟨h, rfl⟩ <;> cases more
  · go_enter Tryz.func50, Tryz.ntmps50
    go_wp2_with fail
    refine BL.out.mono ?_
    rintro e' w' ⟨rfl, rfl⟩
    go_wp2_with fail
    refine (SC.out _ (by omega)).mono ?_
    rintro e' w' ⟨rfl, HB⟩
    have HB := hid HB
    go_wp2_with fail
    refine (RU.out _ _ _ (by omega) (by omega)).mono ?_
    rintro e' w' ⟨rfl, rfl⟩
    go_wp2_with fail
    go_ret
    exact ⟨i_retU (by omega), HB.out⟩
  · go_enter Tryz.func50, Tryz.ntmps50
    go_wp2_with fail
    refine BL.out.mono ?_
    rintro e' w' ⟨rfl, rfl⟩
    go_wp2_with fail
    refine (SC.out _ (by omega)).mono ?_
    rintro e' w' ⟨rfl, HB⟩
    have HB := hid HB
    go_wp2_with fail
    refine (RU.out _ _ _ (by omega) (by omega)).mono ?_
    rintro e' w' ⟨rfl, rfl⟩
    go_wp2_with fail
    go_ret
    exact ⟨i_retU (by omega), HB.out⟩
  · go_enter Tryz.func50, Tryz.ntmps50
    go_wp2_with fail
    refine BL.out.mono ?_
    rintro e' w' ⟨rfl, rfl⟩
    go_wp2_with fail
    refine (SC.out _ (by omega)).mono ?_
    rintro e' w' ⟨rfl, HB⟩
    have HB := hid HB
    go_wp2_with fail
    refine (RU.out _ _ _ (by omega) (by omega)).mono ?_
    rintro e' w' ⟨rfl, rfl⟩
    go_wp2_with fail
    go_ret
    exact ⟨i_retU (by omega), HB.out⟩
  · go_enter Tryz.func50, Tryz.ntmps50
    go_wp2_with fail
    refine BL.out.mono ?_
    rintro e' w' ⟨rfl, rfl⟩
    go_wp2_with fail
    refine (SC.out _ (by omega)).mono ?_
    rintro e' w' ⟨rfl, HB⟩
    have HB := hid HB
    go_wp2_with fail
    refine (RU.out _ _ _ (by omega) (by omega)).mono ?_
    rintro e' w' ⟨rfl, rfl⟩
    go_wp2_with fail
    go_ret
    exact ⟨i_retU (by omega), HB.out⟩

set_option maxRecDepth 100000 in
set_option maxHeartbeats 2000000 in
theorem nearest_down (p : Option Addr) (n cap : Nat) (zs : List Int) (w : World) (ha : Arg w p n cap zs) (hT : Tab w) (tz : Nm.tsize zs ≤ 4096) (V e u : Int) (L k U : Nat) (more : Bool) (hV : Nm.val zs = V) (hv : 0 < V) (hL : blen zs = (L : Int)) (hL0 : 0 < L) (hL2 : L ≤ 262144) (hbig : (L : Int) + e ≤ 1024) (hsm : -7000000 ≤ e)
    (hk : u - e = (k : Int) + 1) (hU : u + 1074 = (U : Int)) (hU2 : U ≤ 2045) (hm : V / 2 ^ (k + 1) < 9007199254740992) (hmax : ((L : Int) + e - 53 < -1074 ∧ u = -1074) ∨ (-1074 ≤ (L : Int) + e - 53 ∧ u = (L : Int) + e - 53)) :
    Calls Tryz.prog 50 #[.slice p n cap, .int .i64 e, .bool more] w fun r w' => ∃ up : Bool, r = .returned (.int .u64 ((U : Int) * 4503599627370496 + V / 2 ^ (k + 1) + if up = true then 1 else 0)) ∧
      (up = true ↔ (V / 2 ^ k % 2 = 1 ∧ ((more = true ∨ V / 2 ^ (k + 1) % 2 = 1) ∨ V % 2 ^ k ≠ 0))) ∧ Below w.heap.size w w' := by
  have BL : Hid (Calls Tryz.prog 47 #[.slice p n cap] w fun e w' => e = .returned (.int .i64 (L : Int)) ∧ w' = w) := by
    have := bitLen_any p n cap zs w ha
    rw [hL] at this
    exact this
  obtain ⟨m, hme⟩ : ∃ m, V / 2 ^ (k + 1) = m := ⟨_, rfl⟩
  have SC : Hid (∀ s : Int, s = -((k + 1 : Nat) : Int) → Calls Tryz.prog 79 #[.slice p n cap, .int .i64 s] w fun e w' => e = .returned (.int .u64 m) ∧ Below w.heap.size w w') := by
    intro s hs
    have := scaled_down p n cap zs w ha hT tz V s (k + 1) hV hs (by omega) (by omega)
    rw [hme] at this
    exact this
  have RS : Hid (∀ w' : World, Below w.heap.size w w' → ∀ (s : Int) (half : Bool), s = (k : Int) + 1 → Calls Tryz.prog 80 #[.slice p n cap, .int .i64 s, .bool half] w' fun e w'' => ∃ up, e = .returned (.bool up) ∧ (up = true ↔ (V / 2 ^ k % 2 = 1 ∧ (half = true ∨ V % 2 ^ k ≠ 0))) ∧ w'' = w') := by
    intro w' hB s half hs
    exact up_some p n cap zs w' (ha.below hB (Nat.le_refl _)) (hT.below hB) V s k half hV hv hs (by omega)
  have m0 : 0 ≤ m := by rw [← hme]; exact Int.ediv_nonneg (by omega) (by have := Nm.two_pos (k + 1); omega)
  rw [hme] at hm ⊢
  have B := Ib.one_and m m0 (by omega)
  have l0 : ((L : Int) == 0) = false := by rw [beq_eq_false_iff_ne]; omega
  have l1 : ¬ 1024 < (L : Int) + e := by omega
  have l2 : (L : Int) ≤ 262144 := by omega
  clear ha hV hL hme hL2 hT tz hv
  rcases hmax with ⟨h, rfl⟩ | ⟨h, rfl⟩ <;> cases more
  · go_enter Tryz.func50, Tryz.ntmps50
    go_wp2_with fail
    refine BL.out.mono ?_
    rintro e' w' ⟨rfl, rfl⟩
    go_wp2_with fail
    refine (SC.out _ (by omega)).mono ?_
    rintro e' w' ⟨rfl, HB⟩
    have RU := hid (RS.out w' HB)
    have HB := hid HB
    go_wp2_with fail
    refine (RU.out _ _ (by omega)).mono ?_
    rintro e' w'' ⟨up, rfl, hup, rfl⟩
    have UP := hid hup
    clear hup
    cases up
    · go_wp2_with fail
      go_ret
      exact ⟨false, i_retU (by simp; omega), by simpa using UP.out, HB.out⟩
    · go_wp2_with fail
      go_ret
      exact ⟨true, i_retU (by simp; omega), by simpa using UP.out, HB.out⟩
  · go_enter Tryz.func50, Tryz.ntmps50
    go_wp2_with fail
    refine BL.out.mono ?_
    rintro e' w' ⟨rfl, rfl⟩
    go_wp2_with fail
    refine (SC.out _ (by omega)).mono ?_
    rintro e' w' ⟨rfl, HB⟩
    have RU := hid (RS.out w' HB)
    have HB := hid HB
    go_wp2_with fail
    refine (RU.out _ _ (by omega)).mono ?_
    rintro e' w'' ⟨up, rfl, hup, rfl⟩
    have UP := hid hup
    clear hup
    cases up
    · go_wp2_with fail
      go_ret
      exact ⟨false, i_retU (by simp; omega), by simpa using UP.out, HB.out⟩
    · go_wp2_with fail
      go_ret
      exact ⟨true, i_retU (by simp; omega), by simpa using UP.out, HB.out⟩
  · go_enter Tryz.func50, Tryz.ntmps50
    go_wp2_with fail
    refine BL.out.mono ?_
    rintro e' w' ⟨rfl, rfl⟩
    go_wp2_with fail
    refine (SC.out _ (by omega)).mono ?_
    rintro e' w' ⟨rfl, HB⟩
    have RU := hid (RS.out w' HB)
    have HB := hid HB
    go_wp2_with fail
    refine (RU.out _ _ (by omega)).mono ?_
    rintro e' w'' ⟨up, rfl, hup, rfl⟩
    have UP := hid hup
    clear hup
    cases up
    · go_wp2_with fail
      go_ret
      exact ⟨false, i_retU (by simp; omega), by simpa using UP.out, HB.out⟩
    · go_wp2_with fail
      go_ret
      exact ⟨true, i_retU (by simp; omega), by simpa using UP.out, HB.out⟩
  · go_enter Tryz.func50, Tryz.ntmps50
    go_wp2_with fail
    refine BL.out.mono ?_
    rintro e' w' ⟨rfl, rfl⟩
    go_wp2_with fail
    refine (SC.out _ (by omega)).mono ?_
    rintro e' w' ⟨rfl, HB⟩
    have RU := hid (RS.out w' HB)
    have HB := hid HB
    go_wp2_with fail
    refine (RU.out _ _ (by omega)).mono ?_
    rintro e' w'' ⟨up, rfl, hup, rfl⟩
    have UP := hid hup
    clear hup
    cases up
    · go_wp2_with fail
      go_ret
      exact ⟨false, i_retU (by simp; omega), by simpa using UP.out, HB.out⟩
    · go_wp2_with fail
      go_ret
      exact ⟨true, i_retU (by simp; omega), by simpa using UP.out, HB.out⟩

set_option maxRecDepth 100000 in
theorem nearest_any (p : Option Addr) (n cap : Nat) (zs : List Int) (w : World) (ha : Arg w p n cap zs) (hT : Tab w) (tz : Nm.tsize zs ≤ 4096) (V e : Int) (more : Bool) (hV : Nm.val zs = V) (h0 : -7000000 ≤ e) (h1 : e ≤ 7000000) :
    Calls Tryz.prog 50 #[.slice p n cap, .int .i64 e, .bool more] w fun r w' => ∃ x, r = .returned (.int .u64 x) ∧ Ie.Rnd V 1 e more x ∧ Below w.heap.size w w' := by
  obtain ⟨L, hL, BL, hl, _⟩ := blen_is zs ha.2.2.2.2
  have v0 : 0 ≤ V := by rw [← hV]; exact (Nm.val_bd zs ha.2.2.2.2).1
  rw [hV] at BL
  have hL2 : L ≤ 262144 := by omega
  have B : Hid (Calls Tryz.prog 47 #[.slice p n cap] w fun e w' => e = .returned (.int .i64 (L : Int)) ∧ w' = w) := by
    have := bitLen_any p n cap zs w ha
    rw [hL] at this
    exact this
  rcases (show V = 0 ∨ 0 < V by omega) with hv | hv
  · have hL0 : L = 0 := BL.2.1 hv
    subst hL0
    have R := hid (Ie.rnd_zero 1 e more (by omega))
    rw [hv]
    clear ha hT tz hV hL BL hl hL2 v0 hv
    go_enter Tryz.func50, Tryz.ntmps50
    go_wp2_with fail
    refine B.out.mono ?_
    rintro e' w' ⟨rfl, rfl⟩
    go_wp2_with fail
    go_ret
    exact ⟨0, rfl, R.out, Below.refl _ _⟩
  · obtain ⟨hL1, hp⟩ := BL.2.2 hv
    rcases (show 1024 < (L : Int) + e ∨ (L : Int) + e ≤ 1024 by omega) with hb | hb
    · have R := hid (Ie.rnd_inf V 1 e (L - 1) 0 more hp (by decide) (by omega))
      have l0 : ((L : Int) == 0) = false := by rw [beq_eq_false_iff_ne]; omega
      have l2 : (L : Int) ≤ 262144 := by omega
      clear ha hT tz hV hL BL hl hL2 v0 hv hp hL1
      go_enter Tryz.func50, Tryz.ntmps50
      go_wp2_with fail
      refine B.out.mono ?_
      rintro e' w' ⟨rfl, rfl⟩
      go_wp2_with fail
      go_ret
      exact ⟨_, rfl, R.out, Below.refl _ _⟩
    · obtain ⟨u, hu⟩ : ∃ u : Int, ((L : Int) + e - 53 < -1074 ∧ u = -1074) ∨ (-1074 ≤ (L : Int) + e - 53 ∧ u = (L : Int) + e - 53) := by
        rcases (show (L : Int) + e - 53 < -1074 ∨ -1074 ≤ (L : Int) + e - 53 by omega) with h | h
        · exact ⟨_, .inl ⟨h, rfl⟩⟩
        · exact ⟨_, .inr ⟨h, rfl⟩⟩
      obtain ⟨U, hU⟩ : ∃ U : Nat, u + 1074 = (U : Int) := ⟨(u + 1074).toNat, by omega⟩
      have e53 : (2 : Int) ^ 53 = 9007199254740992 := by decide
      rcases (show u ≤ e ∨ e < u by omega) with hd | hd
      · obtain ⟨j, hj⟩ : ∃ j : Nat, e - u = (j : Int) := ⟨(e - u).toNat, by omega⟩
        have hj53 : L + j ≤ 53 := by omega
        have hm : V * 2 ^ j < 9007199254740992 := by
          have g1 : V * 2 ^ j < 2 ^ (L + j) := by rw [Nm.two_add]; exact Int.mul_lt_mul_of_pos_right BL.1 (Nm.two_pos j)
          have g2 := Nm.two_mono hj53
          omega
        refine (nearest_up p n cap zs w ha hT tz V e u L j U more hV hL (by omega) hL2 hb (by omega) hj (by omega) hU (by omega) hm hu).mono ?_
        rintro r w' ⟨rfl, hB⟩
        exact ⟨_, rfl, Ie.rnd_exact V e L j U more hv hp hL1 BL.1 hj53 (by omega) (by omega) (by omega), hB⟩
      · obtain ⟨k, hk⟩ : ∃ k : Nat, u - e = (k : Int) + 1 := ⟨(u - e - 1).toNat, by omega⟩
        have hk53 : L ≤ k + 1 + 53 := by omega
        have hm : V / 2 ^ (k + 1) < 9007199254740992 := by
          rw [Int.ediv_lt_iff_lt_mul (Nm.two_pos _)]
          have g := Nm.two_mono hk53
          rw [Nm.two_add, e53] at g
          rw [Int.mul_comm]
          have := BL.1
          omega
        refine (nearest_down p n cap zs w ha hT tz V e u L k U more hV hv hL (by omega) hL2 hb (by omega) hk hU (by omega) hm hu).mono ?_
        rintro r w' ⟨up, rfl, hup, hB⟩
        refine ⟨_, rfl, Ie.rnd_cut V e L (k + 1) U more up hv hp hL1 BL.1 (by omega) (by omega) (by omega) (by omega) ?_, hB⟩
        rw [hup, Nat.add_sub_cancel]
        constructor
        · rintro ⟨g1, (g | g) | g⟩
          · exact ⟨by omega, g1, .inl g⟩
          · exact ⟨by omega, g1, .inr (.inl g)⟩
          · exact ⟨by omega, g1, .inr (.inr g)⟩
        · rintro ⟨_, g1, g | g | g⟩
          · exact ⟨g1, .inl (.inl g)⟩
          · exact ⟨g1, .inl (.inr g)⟩
          · exact ⟨g1, .inr g⟩
end Go.Proofs.YtggiioipppbedaaGreatDoor
