/-
  Texts put together: INear2, IRoundN, IRound, KWide.
-/
import Derived.Test.YtjkefcikepnbpaaGreatDoorWAH
import Derived.Test.YtjkefcikepnbpaaGreatDoorWAA
import Derived.Deep.Cut
import Derived.Deep.RegionHeld3
/-
  ieee: nearest (made by mknear.py).
-/
namespace Go.Proofs.YtjkefcikepnbpaaGreatDoor
open Go Go.RowKit Go.Deep

set_option maxRecDepth 100000 in
set_option maxHeartbeats 2000000 in
theorem nearest_up (p : Option Addr) (n cap : Nat) (zs : List Int) (w : World) (ha : Arg w p n cap zs) (hT : Tab w) (tz : Nm.tsize zs ≤ 4096) (V e u : Int) (L j U : Nat) (more : Bool) (hV : Nm.val zs = V) (hL : blen zs = (L : Int)) (hL0 : 0 < L) (hL2 : L ≤ 262144) (hbig : (L : Int) + e ≤ 1024) (hsm : -8000000 ≤ e)
    (hj : e - u = (j : Int)) (hj2 : j ≤ 64) (hU : u + 1074 = (U : Int)) (hU2 : U ≤ 2045) (hm : V * 2 ^ j < 9007199254740992) (hmax : ((L : Int) + e - 53 < -1074 ∧ u = -1074) ∨ (-1074 ≤ (L : Int) + e - 53 ∧ u = (L : Int) + e - 53)) :
    Calls Tryz.prog 204 #[.slice p n cap, .int .i64 e, .bool more] w fun r w' => r = .returned (.int .u64 ((U : Int) * 4503599627370496 + V * 2 ^ j)) ∧ Below w.heap.size w w' := by
  have v0 : 0 ≤ V := by rw [← hV]; exact (Nm.val_bd zs ha.2.2.2.2).1
  have BL : Hid (Calls Tryz.prog 77 #[.slice p n cap] w fun e w' => e = .returned (.int .i64 (L : Int)) ∧ w' = w) := by
    have := bitLen_any p n cap zs w ha
    rw [hL] at this
    exact this
  obtain ⟨m, hme⟩ : ∃ m, V * 2 ^ j = m := ⟨_, rfl⟩
  have SC : Hid (∀ s : Int, s = (j : Int) → Calls Tryz.prog 210 #[.slice p n cap, .int .i64 s] w fun e w' => e = .returned (.int .u64 m) ∧ Below w.heap.size w w') := by
    intro s hs
    rcases Nat.eq_zero_or_pos j with hj0 | hj0
    · subst hj0
      have e1 : V / 2 ^ 0 = m := by rw [← hme, Int.pow_zero, Int.mul_one, Int.ediv_one]
      have := scaled_down p n cap zs w ha hT tz V s 0 hV (by omega) (by omega) (by rw [e1]; omega)
      rw [e1] at this
      exact this
    · have := scaled_up p n cap zs w ha V s j hV hs hj0 hj2 (by omega)
      rw [hme] at this
      refine this.mono ?_
      rintro e' w' ⟨rfl, rfl⟩
      exact ⟨rfl, Below.refl _ _⟩
  have RU := hid (fun (wx : World) (s : Int) (half : Bool) (h : s ≤ 0) (h2 : -8000000 ≤ s) => up_none p n cap wx s half h h2)
  have m0 : 0 ≤ m := by rw [← hme]; exact Int.mul_nonneg v0 (by have := Nm.two_pos j; omega)
  rw [hme] at hm ⊢
  have B := Ib.one_and m m0 (by omega)
  have l0 : ((L : Int) == 0) = false := by rw [beq_eq_false_iff_ne]; omega
  have l1 : ¬ 1024 < (L : Int) + e := by omega
  have l2 : (L : Int) ≤ 262144 := by omega
  clear ha hV hL hme hL2 v0 hT tz
  rcases hmax with ⟨h, rfl⟩ | ⟨h, rfl⟩ <;> cases more
  · go_enter Tryz.func204, Tryz.ntmps204
    go_wp2_with fail
    refine BL.out.mono ?_
    rintro e' w' ⟨rfl, rfl⟩
    go_wp2_with fail
    refine (SC.out _ (by omega)).mono ?_
    rintro e' w' ⟨rfl, HB⟩
    have HB := hid HB
    go_wp2_with fail
    refine (RU.out _ _ _ (by omega) (by omega)).mono ?_
    rintro e' w' ⟨rfl, rfl⟩
    go_wp2_with fail
    go_ret
    exact ⟨i_retU (by omega), HB.out⟩
  · go_enter Tryz.func204, Tryz.ntmps204
    go_wp2_with fail
    refine BL.out.mono ?_
    rintro e' w' ⟨rfl, rfl⟩
    go_wp2_with fail
    refine (SC.out _ (by omega)).mono ?_
    rintro e' w' ⟨rfl, HB⟩
    have HB := hid HB
    go_wp2_with fail
    refine (RU.out _ _ _ (by omega) (by omega)).mono ?_
    rintro e' w' ⟨rfl, rfl⟩
    go_wp2_with fail
    go_ret
    exact ⟨i_retU (by omega), HB.out⟩
  · go_enter Tryz.func204, Tryz.ntmps204
    go_wp2_with fail
    refine BL.out.mono ?_
    rintro e' w' ⟨rfl, rfl⟩
    go_wp2_with fail
    refine (SC.out _ (by omega)).mono ?_
    rintro e' w' ⟨rfl, HB⟩
    have HB := hid HB
    go_wp2_with fail
    refine (RU.out _ _ _ (by omega) (by omega)).mono ?_
    rintro e' w' ⟨rfl, rfl⟩
    go_wp2_with fail
    go_ret
    exact ⟨i_retU (by omega), HB.out⟩
  · go_enter Tryz.func204, Tryz.ntmps204
    go_wp2_with fail
    refine BL.out.mono ?_
    rintro e' w' ⟨rfl, rfl⟩
    go_wp2_with fail
    refine (SC.out _ (by omega)).mono ?_
    rintro e' w' ⟨rfl, HB⟩
    have HB := hid HB
    go_wp2_with fail
    refine (RU.out _ _ _ (by omega) (by omega)).mono ?_
    rintro e' w' ⟨rfl, rfl⟩
    go_wp2_with fail
    go_ret
    exact ⟨i_retU (by omega), HB.out⟩

set_option maxRecDepth 100000 in
set_option maxHeartbeats 2000000 in
theorem nearest_down (p : Option Addr) (n cap : Nat) (zs : List Int) (w : World) (ha : Arg w p n cap zs) (hT : Tab w) (tz : Nm.tsize zs ≤ 4096) (V e u : Int) (L k U : Nat) (more : Bool) (hV : Nm.val zs = V) (hv : 0 < V) (hL : blen zs = (L : Int)) (hL0 : 0 < L) (hL2 : L ≤ 262144) (hbig : (L : Int) + e ≤ 1024) (hsm : -7000000 ≤ e)
    (hk : u - e = (k : Int) + 1) (hU : u + 1074 = (U : Int)) (hU2 : U ≤ 2045) (hm : V / 2 ^ (k + 1) < 9007199254740992) (hmax : ((L : Int) + e - 53 < -1074 ∧ u = -1074) ∨ (-1074 ≤ (L : Int) + e - 53 ∧ u = (L : Int) + e - 53)) :
    Calls Tryz.prog 204 #[.slice p n cap, .int .i64 e, .bool more] w fun r w' => ∃ up : Bool, r = .returned (.int .u64 ((U : Int) * 4503599627370496 + V / 2 ^ (k + 1) + if up = true then 1 else 0)) ∧
      (up = true ↔ (V / 2 ^ k % 2 = 1 ∧ ((more = true ∨ V / 2 ^ (k + 1) % 2 = 1) ∨ V % 2 ^ k ≠ 0))) ∧ Below w.heap.size w w' := by
  have BL : Hid (Calls Tryz.prog 77 #[.slice p n cap] w fun e w' => e = .returned (.int .i64 (L : Int)) ∧ w' = w) := by
    have := bitLen_any p n cap zs w ha
    rw [hL] at this
    exact this
  obtain ⟨m, hme⟩ : ∃ m, V / 2 ^ (k + 1) = m := ⟨_, rfl⟩
  have SC : Hid (∀ s : Int, s = -((k + 1 : Nat) : Int) → Calls Tryz.prog 210 #[.slice p n cap, .int .i64 s] w fun e w' => e = .returned (.int .u64 m) ∧ Below w.heap.size w w') := by
    intro s hs
    have := scaled_down p n cap zs w ha hT tz V s (k + 1) hV hs (by omega) (by omega)
    rw [hme] at this
    exact this
  have RS : Hid (∀ w' : World, Below w.heap.size w w' → ∀ (s : Int) (half : Bool), s = (k : Int) + 1 → Calls Tryz.prog 211 #[.slice p n cap, .int .i64 s, .bool half] w' fun e w'' => ∃ up, e = .returned (.bool up) ∧ (up = true ↔ (V / 2 ^ k % 2 = 1 ∧ (half = true ∨ V % 2 ^ k ≠ 0))) ∧ w'' = w') := by
    intro w' hB s half hs
    exact up_some p n cap zs w' (ha.below hB (Nat.le_refl _)) (hT.below hB) V s k half hV hv hs (by omega)
  have m0 : 0 ≤ m := by rw [← hme]; exact Int.ediv_nonneg (by omega) (by have := Nm.two_pos (k + 1); omega)
  rw [hme] at hm ⊢
  have B := Ib.one_and m m0 (by omega)
  have l0 : ((L : Int) == 0) = false := by rw [beq_eq_false_iff_ne]; omega
  have l1 : ¬ 1024 < (L : Int) + e := by omega
  have l2 : (L : Int) ≤ 262144 := by omega
  clear ha hV hL hme hL2 hT tz hv
  rcases hmax with ⟨h, rfl⟩ | ⟨h, rfl⟩ <;> cases more
  · go_enter Tryz.func204, Tryz.ntmps204
    go_wp2_with fail
    refine BL.out.mono ?_
    rintro e' w' ⟨rfl, rfl⟩
    go_wp2_with fail
    refine (SC.out _ (by omega)).mono ?_
    rintro e' w' ⟨rfl, HB⟩
    have RU := hid (RS.out w' HB)
    have HB := hid HB
    go_wp2_with fail
    refine (RU.out _ _ (by omega)).mono ?_
    rintro e' w'' ⟨up, rfl, hup, rfl⟩
    have UP := hid hup
    clear hup
    cases up
    · go_wp2_with fail
      go_ret
      exact ⟨false, i_retU (by simp; omega), by simpa using UP.out, HB.out⟩
    · go_wp2_with fail
      go_ret
      exact ⟨true, i_retU (by simp; omega), by simpa using UP.out, HB.out⟩
  · go_enter Tryz.func204, Tryz.ntmps204
    go_wp2_with fail
    refine BL.out.mono ?_
    rintro e' w' ⟨rfl, rfl⟩
    go_wp2_with fail
    refine (SC.out _ (by omega)).mono ?_
    rintro e' w' ⟨rfl, HB⟩
    have RU := hid (RS.out w' HB)
    have HB := hid HB
    go_wp2_with fail
    refine (RU.out _ _ (by omega)).mono ?_
    rintro e' w'' ⟨up, rfl, hup, rfl⟩
    have UP := hid hup
    clear hup
    cases up
    · go_wp2_with fail
      go_ret
      exact ⟨false, i_retU (by simp; omega), by simpa using UP.out, HB.out⟩
    · go_wp2_with fail
      go_ret
      exact ⟨true, i_retU (by simp; omega), by simpa using UP.out, HB.out⟩
  · go_enter Tryz.func204, Tryz.ntmps204
    go_wp2_with fail
    refine BL.out.mono ?_
    rintro e' w' ⟨rfl, rfl⟩
    go_wp2_with fail
    refine (SC.out _ (by omega)).mono ?_
    rintro e' w' ⟨rfl, HB⟩
    have RU := hid (RS.out w' HB)
    have HB := hid HB
    go_wp2_with fail
    refine (RU.out _ _ (by omega)).mono ?_
    rintro e' w'' ⟨up, rfl, hup, rfl⟩
    have UP := hid hup
    clear hup
    cases up
    · go_wp2_with fail
      go_ret
      exact ⟨false, i_retU (by simp; omega), by simpa using UP.out, HB.out⟩
    · go_wp2_with fail
      go_ret
      exact ⟨true, i_retU (by simp; omega), by simpa using UP.out, HB.out⟩
  · go_enter Tryz.func204, Tryz.ntmps204
    go_wp2_with fail
    refine BL.out.mono ?_
    rintro e' w' ⟨rfl, rfl⟩
    go_wp2_with fail
    refine (SC.out _ (by omega)).mono ?_
    rintro e' w' ⟨rfl, HB⟩
    have RU := hid (RS.out w' HB)
    have HB := hid HB
    go_wp2_with fail
    refine (RU.out _ _ (by omega)).mono ?_
    rintro e' w'' ⟨up, rfl, hup, rfl⟩
    have UP := hid hup
    clear hup
    cases up
    · go_wp2_with fail
      go_ret
      exact ⟨false, i_retU (by simp; omega), by simpa using UP.out, HB.out⟩
    · go_wp2_with fail
      go_ret
      exact ⟨true, i_retU (by simp; omega), by simpa using UP.out, HB.out⟩

set_option maxRecDepth 100000 in
theorem nearest_any (p : Option Addr) (n cap : Nat) (zs : List Int) (w : World) (ha : Arg w p n cap zs) (hT : Tab w) (tz : Nm.tsize zs ≤ 4096) (V e : Int) (more : Bool) (hV : Nm.val zs = V) (h0 : -7000000 ≤ e) (h1 : e ≤ 7000000) :
    Calls Tryz.prog 204 #[.slice p n cap, .int .i64 e, .bool more] w fun r w' => ∃ x, r = .returned (.int .u64 x) ∧ Ie.Rnd V 1 e more x ∧ Below w.heap.size w w' := by
  obtain ⟨L, hL, BL, hl, _⟩ := blen_is zs ha.2.2.2.2
  have v0 : 0 ≤ V := by rw [← hV]; exact (Nm.val_bd zs ha.2.2.2.2).1
  rw [hV] at BL
  have hL2 : L ≤ 262144 := by omega
  have B : Hid (Calls Tryz.prog 77 #[.slice p n cap] w fun e w' => e = .returned (.int .i64 (L : Int)) ∧ w' = w) := by
    have := bitLen_any p n cap zs w ha
    rw [hL] at this
    exact this
  rcases (show V = 0 ∨ 0 < V by omega) with hv | hv
  · have hL0 : L = 0 := BL.2.1 hv
    subst hL0
    have R := hid (Ie.rnd_zero 1 e more (by omega))
    rw [hv]
    clear ha hT tz hV hL BL hl hL2 v0 hv
    go_enter Tryz.func204, Tryz.ntmps204
    go_wp2_with fail
    refine B.out.mono ?_
    rintro e' w' ⟨rfl, rfl⟩
    go_wp2_with fail
    go_ret
    exact ⟨0, rfl, R.out, Below.refl _ _⟩
  · obtain ⟨hL1, hp⟩ := BL.2.2 hv
    rcases (show 1024 < (L : Int) + e ∨ (L : Int) + e ≤ 1024 by omega) with hb | hb
    · have R := hid (Ie.rnd_inf V 1 e (L - 1) 0 more hp (by decide) (by omega))
      have l0 : ((L : Int) == 0) = false := by rw [beq_eq_false_iff_ne]; omega
      have l2 : (L : Int) ≤ 262144 := by omega
      clear ha hT tz hV hL BL hl hL2 v0 hv hp hL1
      go_enter Tryz.func204, Tryz.ntmps204
      go_wp2_with fail
      refine B.out.mono ?_
      rintro e' w' ⟨rfl, rfl⟩
      go_wp2_with fail
      go_ret
      exact ⟨_, rfl, R.out, Below.refl _ _⟩
    · obtain ⟨u, hu⟩ : ∃ u : Int, ((L : Int) + e - 53 < -1074 ∧ u = -1074) ∨ (-1074 ≤ (L : Int) + e - 53 ∧ u = (L : Int) + e - 53) := by
        rcases (show (L : Int) + e - 53 < -1074 ∨ -1074 ≤ (L : Int) + e - 53 by omega) with h | h
        · exact ⟨_, .inl ⟨h, rfl⟩⟩
        · exact ⟨_, .inr ⟨h, rfl⟩⟩
      obtain ⟨U, hU⟩ : ∃ U : Nat, u + 1074 = (U : Int) := ⟨(u + 1074).toNat, by omega⟩
      have e53 : (2 : Int) ^ 53 = 9007199254740992 := by decide
      rcases (show u ≤ e ∨ e < u by omega) with hd | hd
      · obtain ⟨j, hj⟩ : ∃ j : Nat, e - u = (j : Int) := ⟨(e - u).toNat, by omega⟩
        have hj53 : L + j ≤ 53 := by omega
        have hm : V * 2 ^ j < 9007199254740992 := by
          have g1 : V * 2 ^ j < 2 ^ (L + j) := by rw [Nm.two_add]; exact Int.mul_lt_mul_of_pos_right BL.1 (Nm.two_pos j)
          have g2 := Nm.two_mono hj53
          omega
        refine (nearest_up p n cap zs w ha hT tz V e u L j U more hV hL (by omega) hL2 hb (by omega) hj (by omega) hU (by omega) hm hu).mono ?_
        rintro r w' ⟨rfl, hB⟩
        exact ⟨_, rfl, Ie.rnd_exact V e L j U more hv hp hL1 BL.1 hj53 (by omega) (by omega) (by omega), hB⟩
      · obtain ⟨k, hk⟩ : ∃ k : Nat, u - e = (k : Int) + 1 := ⟨(u - e - 1).toNat, by omega⟩
        have hk53 : L ≤ k + 1 + 53 := by omega
        have hm : V / 2 ^ (k + 1) < 9007199254740992 := by
          rw [Int.ediv_lt_iff_lt_mul (Nm.two_pos _)]
          have g := Nm.two_mono hk53
          rw [Nm.two_add, e53] at g
          rw [Int.mul_comm]
          have := BL.1
          omega
        refine (nearest_down p n cap zs w ha hT tz V e u L k U more hV hv hL (by omega) hL2 hb (by omega) hk hU (by omega) hm hu).mono ?_
        rintro r w' ⟨up, rfl, hup, hB⟩
        refine ⟨_, rfl, Ie.rnd_cut V e L (k + 1) U more up hv hp hL1 BL.1 (by omega) (by omega) (by omega) (by omega) ?_, hB⟩
        rw [hup, Nat.add_sub_cancel]
        constructor
        · rintro ⟨g1, (g | g) | g⟩
          · exact ⟨by omega, g1, .inl g⟩
          · exact ⟨by omega, g1, .inr (.inl g)⟩
          · exact ⟨by omega, g1, .inr (.inr g)⟩
        · rintro ⟨_, g1, g | g | g⟩
          · exact ⟨g1, .inl (.inl g)⟩
          · exact ⟨g1, .inl (.inr g)⟩
          · exact ⟨g1, .inr g⟩
end Go.Proofs.YtjkefcikepnbpaaGreatDoor

/-
  ieee: Round.
-/
namespace Go.Proofs.YtjkefcikepnbpaaGreatDoor
open Go Go.RowKit Go.Deep

namespace Ie
theorem win_ok {n d e x : Int} {more : Bool} (L M : Nat) (n0 : 0 ≤ n) (hn : n < 2 ^ L) (d0 : 0 < d) (hd : d ≤ 2 ^ M) (hL : L ≤ 262144) (hM : M ≤ 262144) (h : Rnd n d (win e) more x) : Rnd n d e more x := by
  rcases (show win e = e ∨ (win e = 2097152 ∧ 2097152 < e) ∨ (win e = -2097152 ∧ e < -2097152) by simp only [win]; omega) with g | ⟨g, g'⟩ | ⟨g, g'⟩
  · rw [g] at h; exact h
  · rw [g] at h
    rcases (show n = 0 ∨ 0 < n by omega) with h0 | h0
    · subst h0
      have := h.one d0 d0 (rnd_zero d 2097152 more d0) (a := 0) (a' := 0) (by omega) rfl
      rw [this]
      exact rnd_zero d e more d0
    · have p0 : (2 : Int) ^ 0 ≤ n := by rw [Int.pow_zero]; omega
      have := h.one d0 d0 (rnd_inf n d 2097152 0 M more p0 hd (by omega)) (a := 0) (a' := 0) (by omega) rfl
      rw [this]
      exact rnd_inf n d e 0 M more p0 hd (by omega)
  · rw [g] at h
    have p0 : (2 : Int) ^ 0 ≤ d := by rw [Int.pow_zero]; omega
    have := h.one d0 d0 (rnd_small n d (-2097152) L 0 more hn p0 (by omega)) (a := 0) (a' := 0) (by omega) rfl
    rw [this]
    exact rnd_small n d e L 0 more hn p0 (by omega)

theorem win_bd (e : Int) : -2097152 ≤ win e ∧ win e ≤ 2097152 := by simp only [win]; omega
end Ie
end Go.Proofs.YtjkefcikepnbpaaGreatDoor

/-
  ieee: Round.
-/
namespace Go.Proofs.YtjkefcikepnbpaaGreatDoor
open Go Go.RowKit Go.Deep


set_option maxRecDepth 100000 in
set_option maxHeartbeats 2000000 in
theorem round_any (neg : Bool) (p : Option Addr) (n cap : Nat) (zs : List Int) (w : World) (ha : Arg w p n cap zs) (hT : Tab w) (tz : Nm.tsize zs ≤ 4096) (V e : Int) (more : Bool) (hV : Nm.val zs = V) :
    Calls Tryz.prog 200 #[.bool neg, .slice p n cap, .int .i64 e, .bool more] w fun r w' => ∃ x, r = .returned (.tuple #[.int .u64 (Ie.sg neg x), .int .i64 0]) ∧ Ie.Rnd V 1 e more x ∧ Below w.heap.size w w' := by
  obtain ⟨L, hL, BL, hl, _⟩ := blen_is zs ha.2.2.2.2
  rw [hV] at BL
  have B1 := hid (bitLen_n L p n cap zs w ha hL)
  have v0 : 0 ≤ V := by rw [← hV]; exact (Nm.val_bd zs ha.2.2.2.2).1
  have WI := hid (fun (x : Int) => Ie.win_ok (n := V) (d := 1) (e := e) (x := x) (more := more) L 0 v0 BL.1 (by omega) (by decide) (by omega) (by omega))
  have W0 := hid (within_any e w)
  obtain ⟨we, hwe⟩ : ∃ we, Ie.win e = we := ⟨_, rfl⟩
  have wb := Ie.win_bd e
  rw [hwe] at wb W0 WI
  have NR := hid (nearest_any p n cap zs w ha hT tz V we more hV (by omega) (by omega))
  have l1 : decide (262144 < (L : Int)) = false := by simp; omega
  clear ha hT tz hV hL BL hl v0 hwe wb
  go_enter Tryz.func200, Tryz.ntmps200
  go_wp2_with fail
  refine B1.out.mono ?_
  rintro e' w' ⟨rfl, rfl⟩
  go_wp2_with fail
  refine W0.out.mono ?_
  rintro e' w' ⟨rfl, rfl⟩
  go_wp2_with fail
  refine NR.out.mono ?_
  rintro e' w1 ⟨x, rfl, R, hB⟩
  have bd := R.bd
  have R1 := hid (WI.out x R)
  have SG := hid (signed_any neg x w1 bd.1 (by omega))
  have HB := hid hB
  clear R bd hB
  go_wp2_with fail
  refine SG.out.mono ?_
  rintro e' w2 ⟨rfl, rfl⟩
  go_wp2_with fail
  go_ret2
  exact ⟨x, rfl, R1.out, HB.out⟩
end Go.Proofs.YtjkefcikepnbpaaGreatDoor

namespace Go.Proofs.YtjkefcikepnbpaaGreatDoor
open Go Go.RowKit Go.Deep

/-- Two limbs in a box, three limbs in a box. -/
def At2 (w : World) (b : Nat) (x y : Int) : Prop := w.heap[b]? = some (.cells #[.int .u64 x, .int .u64 y] 249 (0, 0))
def At3 (w : World) (b : Nat) (x y z : Int) : Prop := w.heap[b]? = some (.cells #[.int .u64 x, .int .u64 y, .int .u64 z] 247 (0, 0))
def wideV (x y : Int) : Value := .agg #[.int .u64 x, .int .u64 y]
def prodV (x y z : Int) : Value := .agg #[.int .u64 x, .int .u64 y, .int .u64 z]

theorem At2.below {B : Nat} {w w' : World} {b : Nat} {x y : Int} (h : At2 w b x y) (hB : Below B w w') (hb : b < B) : At2 w' b x y := by
  rw [At2, hB.block b hb]; exact h
theorem At3.below {B : Nat} {w w' : World} {b : Nat} {x y z : Int} (h : At3 w b x y z) (hB : Below B w w') (hb : b < B) : At3 w' b x y z := by
  rw [At3, hB.block b hb]; exact h
theorem At2.lt {w : World} {b : Nat} {x y : Int} (h : At2 w b x y) : b < w.heap.size := by
  rcases Nat.lt_or_ge b w.heap.size with hl | hl
  · exact hl
  · simp [At2, Array.getElem?_eq_none hl] at h
theorem At3.lt {w : World} {b : Nat} {x y z : Int} (h : At3 w b x y z) : b < w.heap.size := by
  rcases Nat.lt_or_ge b w.heap.size with hl | hl
  · exact hl
  · simp [At3, Array.getElem?_eq_none hl] at h
theorem At2.cells {w : World} {b : Nat} {x y : Int} (h : At2 w b x y) :
    (w.cell? ⟨b, 0, none⟩ = some (.int .u64 x) ∧ w.cell? ⟨b, 1, none⟩ = some (.int .u64 y)) ∧ w.frozen? ⟨b, 0, none⟩ = false ∧ w.frozen? ⟨b, 1, none⟩ = false := by
  simp only [At2] at h
  refine ⟨⟨?_, ?_⟩, ?_, ?_⟩ <;> simp [World.cell?, World.frozen?, h]
theorem At3.cells {w : World} {b : Nat} {x y z : Int} (h : At3 w b x y z) :
    (w.cell? ⟨b, 0, none⟩ = some (.int .u64 x) ∧ w.cell? ⟨b, 1, none⟩ = some (.int .u64 y) ∧ w.cell? ⟨b, 2, none⟩ = some (.int .u64 z)) ∧ w.frozen? ⟨b, 0, none⟩ = false ∧ w.frozen? ⟨b, 1, none⟩ = false ∧ w.frozen? ⟨b, 2, none⟩ = false := by
  simp only [At3] at h
  refine ⟨⟨?_, ?_, ?_⟩, ?_, ?_, ?_⟩ <;> simp [World.cell?, World.frozen?, h]
theorem At2.arg {w : World} {b : Nat} {x y : Int} (h : At2 w b x y) (x0 : 0 ≤ x) (x1 : x < 18446744073709551616) (y0 : 0 ≤ y) (y1 : y < 18446744073709551616) : Arg w (some ⟨b, 0, none⟩) 2 2 [x, y] := by
  refine ⟨rfl, Nat.le_refl _, by omega, .inr ⟨b, 0, rfl, fun i hi => ?_⟩, Nm.Limbs.mk x0 x1 (Nm.Limbs.mk y0 y1 Nm.Limbs.nil)⟩
  obtain ⟨⟨c0, c1⟩, _⟩ := h.cells
  rcases (show i = 0 ∨ i = 1 by simp at hi; omega) with rfl | rfl
  · exact c0
  · exact c1
theorem At3.arg {w : World} {b : Nat} {x y z : Int} (h : At3 w b x y z) (x0 : 0 ≤ x) (x1 : x < 18446744073709551616) (y0 : 0 ≤ y) (y1 : y < 18446744073709551616) (z0 : 0 ≤ z) (z1 : z < 18446744073709551616) : Arg w (some ⟨b, 0, none⟩) 3 3 [x, y, z] := by
  refine ⟨rfl, Nat.le_refl _, by omega, .inr ⟨b, 0, rfl, fun i hi => ?_⟩, Nm.Limbs.mk x0 x1 (Nm.Limbs.mk y0 y1 (Nm.Limbs.mk z0 z1 Nm.Limbs.nil))⟩
  obtain ⟨⟨c0, c1, c2⟩, _⟩ := h.cells
  rcases (show i = 0 ∨ i = 1 ∨ i = 2 by simp at hi; omega) with rfl | rfl | rfl
  · exact c0
  · exact c1
  · exact c2

/-- The number of three limbs. -/
def n3 (a b c : Int) : Int := a + 18446744073709551616 * b + 340282366920938463463374607431768211456 * c
def n2 (a b : Int) : Int := a + 18446744073709551616 * b
def Bd (x : Int) : Prop := 0 ≤ x ∧ x < 18446744073709551616

theorem inTable_any (q : Int) (w : World) :
    Calls Tryz.prog 228 #[.int .i64 q] w fun e w' => e = .returned (.bool (decide (-342 ≤ q ∧ q ≤ 308))) ∧ w' = w := by
  by_cases h : -342 ≤ q
  · by_cases k : q ≤ 308
    · rw [decide_eq_true (show -342 ≤ q ∧ q ≤ 308 from ⟨h, k⟩)]
      go_enter Tryz.func228, Tryz.ntmps228
      go_wp2_with fail
      go_ret
      exact ⟨rfl, rfl⟩
    · rw [decide_eq_false (show ¬ (-342 ≤ q ∧ q ≤ 308) by omega)]
      go_enter Tryz.func228, Tryz.ntmps228
      go_wp2_with fail
      go_ret
      exact ⟨rfl, rfl⟩
  · rw [decide_eq_false (show ¬ (-342 ≤ q ∧ q ≤ 308) by omega)]
    go_enter Tryz.func228, Tryz.ntmps228
    go_wp2_with fail
    go_ret
    exact ⟨rfl, rfl⟩

theorem exact_any9 (q : Int) (w : World) :
    Calls Tryz.prog 230 #[.int .i64 q] w fun e w' => e = .returned (.bool (decide (0 ≤ q ∧ q ≤ 55))) ∧ w' = w := by
  by_cases h : 0 ≤ q
  · by_cases k : q ≤ 55
    · rw [decide_eq_true (show 0 ≤ q ∧ q ≤ 55 from ⟨h, k⟩)]
      go_enter Tryz.func230, Tryz.ntmps230
      go_wp2_with fail
      go_ret
      exact ⟨rfl, rfl⟩
    · rw [decide_eq_false (show ¬ (0 ≤ q ∧ q ≤ 55) by omega)]
      go_enter Tryz.func230, Tryz.ntmps230
      go_wp2_with fail
      go_ret
      exact ⟨rfl, rfl⟩
  · rw [decide_eq_false (show ¬ (0 ≤ q ∧ q ≤ 55) by omega)]
    go_enter Tryz.func230, Tryz.ntmps230
    go_wp2_with fail
    go_ret
    exact ⟨rfl, rfl⟩

set_option maxRecDepth 100000 in
set_option maxHeartbeats 1000000 in
theorem head_any (a b c : Int) (w : World) :
    Calls Tryz.prog 234 #[prodV a b c] w fun e w' => e = .returned (wideV b c) ∧ Below w.heap.size w w' := by
  unfold prodV wideV
  go_enter Tryz.func234, Tryz.ntmps234
  go_wp2_with fail
  refine bodyPost_ret (results_cell_row rfl _ _ (w.heap.size + 1) 249 _ (0, 0) _ rfl (heap_alloc2_new _ _ _) Tryz.underlying249 rfl (by kernel_rfl)) rfl ?_
  exact ⟨rfl, below_on (alloc_b _ _) (alloc_b _ _)⟩

theorem mid3 (w : World) (A B C : Obj) : (((w.alloc A).alloc B).alloc C).heap[w.heap.size + 1]? = some B := by
  rw [heap_alloc_old _ _ (by show w.heap.size + 1 < ((w.heap.push A).push B).size; simp)]
  exact heap_alloc2_new w A B

theorem times_num {w x y h l h2 l2 s c : Int} (w0 : Bd w) (x0 : Bd x) (y0 : Bd y) (hl : Bd h ∧ Bd l) (hl2 : Bd h2 ∧ Bd l2) (e1 : l + 18446744073709551616 * h = w * x) (e2 : l2 + 18446744073709551616 * h2 = w * y)
    (hs : s = (l2 + h + 0) % 18446744073709551616) (hc : c = (l2 + h + 0) / 18446744073709551616) : Bd (h2 + c) ∧ n3 l s (h2 + c) = w * n2 x y := by
  unfold Bd at *
  have hd : w * n2 x y = w * x + 18446744073709551616 * (w * y) := by unfold n2; rw [Int.mul_add, Int.mul_left_comm]
  have b1 : w * x ≤ 18446744073709551615 * 18446744073709551615 := Int.mul_le_mul (by omega) (by omega) (by omega) (by omega)
  have b2 : w * y ≤ 18446744073709551615 * 18446744073709551615 := Int.mul_le_mul (by omega) (by omega) (by omega) (by omega)
  rw [hd, ← e1, ← e2]
  rw [← e1] at b1
  rw [← e2] at b2
  unfold n3
  refine ⟨⟨by omega, by omega⟩, by omega⟩

set_option maxRecDepth 100000 in
set_option maxHeartbeats 1000000 in
theorem ptimes_any (v x y : Int) (w : World) (hv : Bd v) (hx : Bd x) (hy : Bd y) :
    Calls Tryz.prog 226 #[.int .u64 v, wideV x y] w fun e w' => ∃ a b c, e = .returned (prodV a b c) ∧ (Bd a ∧ Bd b ∧ Bd c) ∧ n3 a b c = v * n2 x y ∧ Below w.heap.size w w' := by
  have M1 := hid (fun wx => mul64 v x hv.1 hv.2 hx.1 hx.2 wx)
  have M2 := hid (fun wx => mul64 v y hv.1 hv.2 hy.1 hy.2 wx)
  have HV := hid (And.intro hv (And.intro hx hy))
  clear hv hx hy
  unfold prodV wideV
  go_enter Tryz.func226, Tryz.ntmps226
  go_wp2_with fail
  refine (M1.out _).mono ?_
  rintro e w1 ⟨h, l, rfl, b1, e1, _, rfl⟩
  have B1 := hid b1
  clear b1
  go_wp2_with fail
  refine (M2.out _).mono ?_
  rintro e w1 ⟨h2, l2, rfl, b2, e2, _, rfl⟩
  have b1 := B1.out
  obtain ⟨s, hs⟩ : ∃ s, s = (l2 + h + 0) % 18446744073709551616 := ⟨_, rfl⟩
  obtain ⟨c, hc⟩ : ∃ c, c = (l2 + h + 0) / 18446744073709551616 := ⟨_, rfl⟩
  have AD := add64' l2 h 0 s c (by omega) (by omega) (by omega) (by omega) hs hc
  have N := hid (times_num HV.out.1 HV.out.2.1 HV.out.2.2 ⟨⟨by omega, by omega⟩, by omega, by omega⟩ ⟨⟨by omega, by omega⟩, by omega, by omega⟩ e1.out e2.out hs hc)
  have F : Hid ((Bd l ∧ Bd s ∧ Bd (h2 + c)) ∧ n3 l s (h2 + c) = v * n2 x y) := ⟨⟨⟨by omega, by omega⟩, ⟨by omega, by omega⟩, N.out.1⟩, N.out.2⟩
  have c0 : 0 ≤ h2 + c := N.out.1.1
  have c1 : h2 + c < 18446744073709551616 := N.out.1.2
  clear e1 e2 hs hc b1 b2 N
  go_wp2_with fail
  refine bodyPost_ret (results_cell_row rfl _ _ (w.heap.size + 1) 247 _ (0, 0) _ rfl (mid3 _ _ _ _) Tryz.underlying247 rfl (by kernel_rfl)) rfl ?_
  exact ⟨_, _, _, rfl, F.out.1, F.out.2, below_on (below_on (alloc_b _ _) (alloc_b _ _)) (alloc_b _ _)⟩

theorem plus_num {a b c v s k s1 k1 : Int} (ha : Bd a) (hb : Bd b) (hc : Bd c) (hv : Bd v) (hN : n3 a b c + v < 6277101735386680763835789423207666416102355444464034512896)
    (hs : s = (a + v + 0) % 18446744073709551616) (hk : k = (a + v + 0) / 18446744073709551616) (hs1 : s1 = (b + 0 + k) % 18446744073709551616) (hk1 : k1 = (b + 0 + k) / 18446744073709551616) :
    (Bd s ∧ Bd s1 ∧ Bd (c + k1)) ∧ n3 s s1 (c + k1) = n3 a b c + v := by
  unfold Bd n3 at *
  refine ⟨⟨⟨by omega, by omega⟩, ⟨by omega, by omega⟩, by omega, by omega⟩, by omega⟩

set_option maxRecDepth 100000 in
set_option maxHeartbeats 1000000 in
theorem pplus_any (a b c v : Int) (w : World) (ha : Bd a) (hb : Bd b) (hc : Bd c) (hv : Bd v) (hN : n3 a b c + v < 6277101735386680763835789423207666416102355444464034512896) :
    Calls Tryz.prog 231 #[prodV a b c, .int .u64 v] w fun e w' => ∃ x y z, e = .returned (prodV x y z) ∧ (Bd x ∧ Bd y ∧ Bd z) ∧ n3 x y z = n3 a b c + v ∧ Below w.heap.size w w' := by
  obtain ⟨s, hs⟩ : ∃ s, s = (a + v + 0) % 18446744073709551616 := ⟨_, rfl⟩
  obtain ⟨k, hk⟩ : ∃ k, k = (a + v + 0) / 18446744073709551616 := ⟨_, rfl⟩
  obtain ⟨s1, hs1⟩ : ∃ s, s = (b + 0 + k) % 18446744073709551616 := ⟨_, rfl⟩
  obtain ⟨k1, hk1⟩ : ∃ k1, k1 = (b + 0 + k) / 18446744073709551616 := ⟨_, rfl⟩
  have F := hid (plus_num ha hb hc hv hN hs hk hs1 hk1)
  have A1 := add64' a v 0 s k ha.1 hv.1 (by omega) (by omega) hs hk
  have A2 := add64' b 0 k s1 k1 hb.1 (by omega) (by unfold Bd at *; omega) (by unfold Bd at *; omega) hs1 hk1
  have c0 : 0 ≤ c + k1 := F.out.1.2.2.1
  have c1 : c + k1 < 18446744073709551616 := F.out.1.2.2.2
  clear hs hk hs1 hk1 hN ha hb hc hv
  unfold prodV
  go_enter Tryz.func231, Tryz.ntmps231
  go_wp2_with fail
  refine bodyPost_ret (results_cell_row rfl _ _ (w.heap.size + 1) 247 _ (0, 0) _ rfl (heap_alloc2_new _ _ _) Tryz.underlying247 rfl (by kernel_rfl)) rfl ?_
  exact ⟨_, _, _, rfl, F.out.1, F.out.2, below_on (alloc_b _ _) (alloc_b _ _)⟩

theorem n3_val (a b c : Int) : Nm.val [a, b, c] = n3 a b c := by unfold n3; simp only [Nm.val]; omega
theorem n2_val (a b : Int) : Nm.val [a, b] = n2 a b := by unfold n2; simp only [Nm.val]; omega
theorem ts3 (a b c : Int) : Nm.tsize [a, b, c] ≤ 4096 := Nat.le_trans (Nm.tsize_le _) (by simp)
set_option maxRecDepth 100000 in
set_option maxHeartbeats 1000000 in
theorem pround_any (a b c e : Int) (w : World) (hT : Tab w) (h : Bd a ∧ Bd b ∧ Bd c) :
    Calls Tryz.prog 227 #[prodV a b c, .int .i64 e] w fun r w' => ∃ x, r = .returned (.int .u64 x) ∧ Ie.Rnd (n3 a b c) 1 e false x ∧ Below w.heap.size w w' := by
  have R := hid (round_any false (some ⟨w.heap.size, 0, none⟩) 3 3 [a, b, c] (w.alloc (.cells #[.int .u64 a, .int .u64 b, .int .u64 c] 247)) (At3.arg (heap_alloc_new w _) h.1.1 h.1.2 h.2.1.1 h.2.1.2 h.2.2.1 h.2.2.2) (hT.below (alloc_b _ _)) (ts3 _ _ _) (n3 a b c) e false (n3_val a b c))
  clear h hT
  unfold prodV
  go_enter Tryz.func227, Tryz.ntmps227
  go_wp2_with fail
  refine R.out.mono ?_
  rintro r w1 ⟨x, rfl, hR, hB⟩
  have F := hid (And.intro hR (below_on (alloc_b _ _) hB))
  clear hR hB
  unfold Ie.sg
  go_wp2_with fail
  go_ret
  exact ⟨x, rfl, F.out⟩

/-- Two products in their boxes. -/
def TP (w wx : World) (a b c x y z : Int) : Prop := Below w.heap.size w wx ∧ At3 wx w.heap.size a b c ∧ At3 wx (w.heap.size + 1) x y z
theorem TP.new (w : World) (a b c x y z : Int) : TP w ((w.alloc (.cells #[.int .u64 a, .int .u64 b, .int .u64 c] 247)).alloc (.cells #[.int .u64 x, .int .u64 y, .int .u64 z] 247)) a b c x y z :=
  ⟨below_on (alloc_b _ _) (alloc_b _ _), heap_alloc2_old _ _ _, heap_alloc2_new _ _ _⟩
theorem TP.on {w wx wy : World} {a b c x y z : Int} (h : TP w wx a b c x y z) (k : Below wx.heap.size wx wy) : TP w wy a b c x y z :=
  ⟨below_on h.1 k, h.2.1.below k h.2.1.lt, h.2.2.below k h.2.2.lt⟩
theorem TP.drew {w wx : World} {a b c x y z : Int} (h : TP w wx a b c x y z) : TP w wx.drew a b c x y z := ⟨⟨h.1.1, h.1.2, h.1.3, h.1.4, h.1.5⟩, h.2.1, h.2.2⟩
theorem TP.flat {w wx : World} {a b c x y z : Int} (h : TP w wx a b c x y z) :
    (wx.cell? ⟨w.heap.size, 0, none⟩ = some (.int .u64 a) ∧ wx.cell? ⟨w.heap.size, 1, none⟩ = some (.int .u64 b) ∧ wx.cell? ⟨w.heap.size, 2, none⟩ = some (.int .u64 c)) ∧
    wx.cell? ⟨w.heap.size + 1, 0, none⟩ = some (.int .u64 x) ∧ wx.cell? ⟨w.heap.size + 1, 1, none⟩ = some (.int .u64 y) ∧ wx.cell? ⟨w.heap.size + 1, 2, none⟩ = some (.int .u64 z) :=
  ⟨h.2.1.cells.1, h.2.2.cells.1⟩

theorem eq_wide (a b c d : Int) (w : World) : (Op.equalIn 10000 249 (.agg #[.int .u64 a, .int .u64 b]) (.agg #[.int .u64 c, .int .u64 d])).run Tryz.prog w = .ok (decide (a = c ∧ b = d)) w := by
  have u3 := Tryz.underlying22
  have a3 := Tryz.isAgg22
  have z3 := Tryz.sizeOf22
  rw [show (10000 : Nat) = 9999 + 1 from rfl, Op.equalIn]
  simp only [Sem.run_bind, run_underlying Tryz.underlying249, Result.andThen_ok]
  simp only [Std.Legacy.Range.forIn_eq_forIn_range', Std.Legacy.Range.size, Nat.sub_zero, Nat.add_sub_cancel, Nat.div_one, List.range'_succ, List.range'_zero, List.forIn_cons, List.forIn_nil]
  go_simp
  by_cases h1 : a = c <;> by_cases h2 : b = d <;> simp [h1, h2]

set_option maxRecDepth 100000 in
set_option maxHeartbeats 4000000 in
theorem same_any9 (a b c x y z : Int) (w : World) :
    Calls Tryz.prog 232 #[prodV a b c, prodV x y z] w fun r w' => r = .returned (.bool (decide (a ≠ 0 ∧ b = y ∧ c = z))) ∧ Below w.heap.size w w' := by
  have Z := hid (TP.new w a b c x y z)
  have H1 := hid (fun wx => head_any a b c wx)
  have H2 := hid (fun wx => head_any x y z wx)
  by_cases h : a = 0
  · subst h
    rw [decide_eq_false (show ¬ ((0 : Int) ≠ 0 ∧ b = y ∧ c = z) by omega)]
    clear H1 H2
    unfold prodV
    go_enter Tryz.func232, Tryz.ntmps232
    go_upto_region 1 with fail
    go_quiet (fail)
    all_goals go_wp2_with fail
    all_goals go_ret
    exact ⟨rfl, ⟨Z.out.1.1, Z.out.1.2, Z.out.1.3, Z.out.1.4, Z.out.1.5⟩⟩
  · have hb : (a == 0) = false := by rw [beq_eq_false_iff_ne]; exact h
    have hn : (a != 0) = true := by rw [bne, hb]; rfl
    have EQ := eq_wide b c y z
    have DE : decide (a ≠ 0 ∧ b = y ∧ c = z) = decide (b = y ∧ c = z) := by simp [h]
    rw [DE]
    obtain ⟨t, ht⟩ : ∃ t, decide (b = y ∧ c = z) = t := ⟨_, rfl⟩
    rw [ht] at EQ ⊢
    clear ht DE
    unfold wideV at H1 H2
    unfold prodV at *
    go_enter Tryz.func232, Tryz.ntmps232
    go_upto_region 1 with fail
    generalize ((w.alloc (Obj.cells #[Value.int IntKind.u64 a, Value.int IntKind.u64 b, Value.int IntKind.u64 c] 247)).alloc (Obj.cells #[Value.int IntKind.u64 x, Value.int IntKind.u64 y, Value.int IntKind.u64 z] 247)) = wz at *
    have ZD := hid Z.out.drew
    obtain ⟨⟨c0, c1, c2⟩, c3, c4, c5⟩ := ZD.out.flat
    go_region_held3 (fun wx => (wx.cell? ⟨w.heap.size, 0, none⟩ = some (.int .u64 a) ∧ wx.cell? ⟨w.heap.size, 1, none⟩ = some (.int .u64 b) ∧ wx.cell? ⟨w.heap.size, 2, none⟩ = some (.int .u64 c)) ∧ wx.cell? ⟨w.heap.size + 1, 0, none⟩ = some (.int .u64 x) ∧ wx.cell? ⟨w.heap.size + 1, 1, none⟩ = some (.int .u64 y) ∧ wx.cell? ⟨w.heap.size + 1, 2, none⟩ = some (.int .u64 z)) (first | (with_reducible exact Z2.out.flat) | (with_reducible exact Z1.out.flat) | (with_reducible exact ZD.out.flat)) (first
      | (go_at_call 234; first
        | (with_reducible refine (H1.out _).mono ?_; rintro r w2 ⟨rfl, hB⟩; first | (have Z2 := hid (Z1.out.on hB); clear hB) | (have Z1 := hid (ZD.out.on hB); clear hB))
        | (with_reducible refine (H2.out _).mono ?_; rintro r w2 ⟨rfl, hB⟩; first | (have Z2 := hid (Z1.out.on hB); clear hB) | (have Z1 := hid (ZD.out.on hB); clear hB))))
    all_goals go_wp2_with fail
    all_goals go_ret
    all_goals exact ⟨rfl, Z2.out.1⟩
end Go.Proofs.YtjkefcikepnbpaaGreatDoor
