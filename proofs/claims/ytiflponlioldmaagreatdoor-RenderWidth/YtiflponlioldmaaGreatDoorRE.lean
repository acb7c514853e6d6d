/-
  Texts put together: INear2, IRoundN, Low, IShift, IAnsS, IRatio, IRoomA, IFin, IWhole2, IWhole3, IWhole4, VClone, DLay, DMem, DFlags, DBox, DText, DForm.
-/
import Derived.Test.YtiflponlioldmaaGreatDoorRD
import Derived.Test.YtiflponlioldmaaGreatDoorShl
import Derived.Test.YtiflponlioldmaaGreatDoorTrimW
import Derived.Test.YtiflponlioldmaaGreatDoorMem
import Derived.Test.YtiflponlioldmaaGreatDoorRA
import Derived.Test.YtiflponlioldmaaGreatDoorFromW
import Derived.Deep.RegionWith
import Derived.Test.YtiflponlioldmaaGreatDoorNToU
import Derived.BigQuiet
import Derived.Shelf.Pu.Clone
import Derived.Shelf.Strings.Builder1
import Derived.Shelf.Small.Strs
import Derived.Shelf.Strconv.AppendIntPublic10
import Derived.Test.YtiflponlioldmaaGreatDoorRC
import Derived.Deep.LoopGhost
import Derived.Deep.RegionHeld3
import Derived.Deep.CutBlock
import Derived.OwnWalk
import Derived.Deep.CutRange
/-
  ieee: nearest (made by mknear.py).
-/
namespace Go.Proofs.YtiflponlioldmaaGreatDoor
open Go Go.RowKit Go.Deep

set_option maxRecDepth 100000 in
set_option maxHeartbeats 2000000 in
theorem nearest_up (p : Option Addr) (n cap : Nat) (zs : List Int) (w : World) (ha : Arg w p n cap zs) (hT : Tab w) (tz : Nm.tsize zs ≤ 4096) (V e u : Int) (L j U : Nat) (more : Bool) (hV : Nm.val zs = V) (hL : blen zs = (L : Int)) (hL0 : 0 < L) (hL2 : L ≤ 262144) (hbig : (L : Int) + e ≤ 1024) (hsm : -8000000 ≤ e)
    (hj : e - u = (j : Int)) (hj2 : j ≤ 64) (hU : u + 1074 = (U : Int)) (hU2 : U ≤ 2045) (hm : V * 2 ^ j < 9007199254740992) (hmax : ((L : Int) + e - 53 < -1074 ∧ u = -1074) ∨ (-1074 ≤ (L : Int) + e - 53 ∧ u = (L : Int) + e - 53)) :
    Calls Tryz.prog 86 #[.slice p n cap, .int .i64 e, .bool more] w fun r w' => r = .returned (.int .u64 ((U : Int) * 4503599627370496 + V * 2 ^ j)) ∧ Below w.heap.size w w' := by
  have v0 : 0 ≤ V := by rw [← hV]; exact (Nm.val_bd zs ha.2.2.2.2).1
  have BL : Hid (Calls Tryz.prog 29 #[.slice p n cap] w fun e w' => e = .returned (.int .i64 (L : Int)) ∧ w' = w) := by
    have := bitLen_any p n cap zs w ha
    rw [hL] at this
    exact this
  obtain ⟨m, hme⟩ : ∃ m, V * 2 ^ j = m := ⟨_, rfl⟩
  have SC : Hid (∀ s : Int, s = (j : Int) → Calls Tryz.prog 139 #[.slice p n cap, .int .i64 s] w fun e w' => e = .returned (.int .u64 m) ∧ Below w.heap.size w w') := by
    intro s hs
    rcases Nat.eq_zero_or_pos j with hj0 | hj0
    · subst hj0
      have e1 : V / 2 ^ 0 = m := by rw [← hme, Int.pow_zero, Int.mul_one, Int.ediv_one]
      have := scaled_down p n cap zs w ha hT tz V s 0 hV (by omega) (by omega) (by rw [e1]; omega)
      rw [e1] at this
      exact this
    · have := scaled_up p n cap zs w ha V s j hV hs hj0 hj2 (by omega)
      rw [hme] at this
      refine this.mono ?_
      rintro e' w' ⟨rfl, rfl⟩
      exact ⟨rfl, Below.refl _ _⟩
  have RU := hid (fun (wx : World) (s : Int) (half : Bool) (h : s ≤ 0) (h2 : -8000000 ≤ s) => up_none p n cap wx s half h h2)
  have m0 : 0 ≤ m := by rw [← hme]; exact Int.mul_nonneg v0 (by have := Nm.two_pos j; omega)
  rw [hme] at hm ⊢
  have B := Ib.one_and m m0 (by omega)
  have l0 : ((L : Int) == 0) = false := by rw [beq_eq_false_iff_ne]; omega
  have l1 : ¬ 1024 < (L : Int) + e := by omega
  have l2 : (L : Int) ≤ 262144 := by omega
  clear ha hV hL hme hL2 v0 hT tz
  rcases hmax with ⟨h, rfl⟩ | ⟨h, rfl⟩ <;> cases more
  · go_enter Tryz.func86, Tryz.ntmps86
    go_wp2_with fail
    refine BL.out.mono ?_
    rintro e' w' ⟨rfl, rfl⟩
    go_wp2_with fail
    refine (SC.out _ (by omega)).mono ?_
    rintro e' w' ⟨rfl, HB⟩
    have HB := hid HB
    go_wp2_with fail
    refine (RU.out _ _ _ (by omega) (by omega)).mono ?_
    rintro e' w' ⟨rfl, rfl⟩
    go_wp2_with fail
    go_ret
    exact ⟨i_retU (by omega), HB.out⟩
  · go_enter Tryz.func86, Tryz.ntmps86
    go_wp2_with fail
    refine BL.out.mono ?_
    rintro e' w' ⟨rfl, rfl⟩
    go_wp2_with fail
    refine (SC.out _ (by omega)).mono ?_
    rintro e' w' ⟨rfl, HB⟩
    have HB := hid HB
    go_wp2_with fail
    refine (RU.out _ _ _ (by omega) (by omega)).mono ?_
    rintro e' w' ⟨rfl, rfl⟩
    go_wp2_with fail
    go_ret
    exact ⟨i_retU (by omega), HB.out⟩
  · go_enter Tryz.func86, Tryz.ntmps86
    go_wp2_with fail
    refine BL.out.mono ?_
    rintro e' w' ⟨rfl, rfl⟩
    go_wp2_with fail
    refine (SC.out _ (by omega)).mono ?_
    rintro e' w' ⟨rfl, HB⟩
    have HB := hid HB
    go_wp2_with fail
    refine (RU.out _ _ _ (by omega) (by omega)).mono ?_
    rintro e' w' ⟨rfl, rfl⟩
    go_wp2_with fail
    go_ret
    exact ⟨i_retU (by omega), HB.out⟩
  · go_enter Tryz.func86, Tryz.ntmps86
    go_wp2_with fail
    refine BL.out.mono ?_
    rintro e' w' ⟨rfl, rfl⟩
    go_wp2_with fail
    refine (SC.out _ (by omega)).mono ?_
    rintro e' w' ⟨rfl, HB⟩
    have HB := hid HB
    go_wp2_with fail
    refine (RU.out _ _ _ (by omega) (by omega)).mono ?_
    rintro e' w' ⟨rfl, rfl⟩
    go_wp2_with fail
    go_ret
    exact ⟨i_retU (by omega), HB.out⟩

set_option maxRecDepth 100000 in
set_option maxHeartbeats 2000000 in
theorem nearest_down (p : Option Addr) (n cap : Nat) (zs : List Int) (w : World) (ha : Arg w p n cap zs) (hT : Tab w) (tz : Nm.tsize zs ≤ 4096) (V e u : Int) (L k U : Nat) (more : Bool) (hV : Nm.val zs = V) (hv : 0 < V) (hL : blen zs = (L : Int)) (hL0 : 0 < L) (hL2 : L ≤ 262144) (hbig : (L : Int) + e ≤ 1024) (hsm : -7000000 ≤ e)
    (hk : u - e = (k : Int) + 1) (hU : u + 1074 = (U : Int)) (hU2 : U ≤ 2045) (hm : V / 2 ^ (k + 1) < 9007199254740992) (hmax : ((L : Int) + e - 53 < -1074 ∧ u = -1074) ∨ (-1074 ≤ (L : Int) + e - 53 ∧ u = (L : Int) + e - 53)) :
    Calls Tryz.prog 86 #[.slice p n cap, .int .i64 e, .bool more] w fun r w' => ∃ up : Bool, r = .returned (.int .u64 ((U : Int) * 4503599627370496 + V / 2 ^ (k + 1) + if up = true then 1 else 0)) ∧
      (up = true ↔ (V / 2 ^ k % 2 = 1 ∧ ((more = true ∨ V / 2 ^ (k + 1) % 2 = 1) ∨ V % 2 ^ k ≠ 0))) ∧ Below w.heap.size w w' := by
  have BL : Hid (Calls Tryz.prog 29 #[.slice p n cap] w fun e w' => e = .returned (.int .i64 (L : Int)) ∧ w' = w) := by
    have := bitLen_any p n cap zs w ha
    rw [hL] at this
    exact this
  obtain ⟨m, hme⟩ : ∃ m, V / 2 ^ (k + 1) = m := ⟨_, rfl⟩
  have SC : Hid (∀ s : Int, s = -((k + 1 : Nat) : Int) → Calls Tryz.prog 139 #[.slice p n cap, .int .i64 s] w fun e w' => e = .returned (.int .u64 m) ∧ Below w.heap.size w w') := by
    intro s hs
    have := scaled_down p n cap zs w ha hT tz V s (k + 1) hV hs (by omega) (by omega)
    rw [hme] at this
    exact this
  have RS : Hid (∀ w' : World, Below w.heap.size w w' → ∀ (s : Int) (half : Bool), s = (k : Int) + 1 → Calls Tryz.prog 140 #[.slice p n cap, .int .i64 s, .bool half] w' fun e w'' => ∃ up, e = .returned (.bool up) ∧ (up = true ↔ (V / 2 ^ k % 2 = 1 ∧ (half = true ∨ V % 2 ^ k ≠ 0))) ∧ w'' = w') := by
    intro w' hB s half hs
    exact up_some p n cap zs w' (ha.below hB (Nat.le_refl _)) (hT.below hB) V s k half hV hv hs (by omega)
  have m0 : 0 ≤ m := by rw [← hme]; exact Int.ediv_nonneg (by omega) (by have := Nm.two_pos (k + 1); omega)
  rw [hme] at hm ⊢
  have B := Ib.one_and m m0 (by omega)
  have l0 : ((L : Int) == 0) = false := by rw [beq_eq_false_iff_ne]; omega
  have l1 : ¬ 1024 < (L : Int) + e := by omega
  have l2 : (L : Int) ≤ 262144 := by omega
  clear ha hV hL hme hL2 hT tz hv
  rcases hmax with ⟨h, rfl⟩ | ⟨h, rfl⟩ <;> cases more
  · go_enter Tryz.func86, Tryz.ntmps86
    go_wp2_with fail
    refine BL.out.mono ?_
    rintro e' w' ⟨rfl, rfl⟩
    go_wp2_with fail
    refine (SC.out _ (by omega)).mono ?_
    rintro e' w' ⟨rfl, HB⟩
    have RU := hid (RS.out w' HB)
    have HB := hid HB
    go_wp2_with fail
    refine (RU.out _ _ (by omega)).mono ?_
    rintro e' w'' ⟨up, rfl, hup, rfl⟩
    have UP := hid hup
    clear hup
    cases up
    · go_wp2_with fail
      go_ret
      exact ⟨false, i_retU (by simp; omega), by simpa using UP.out, HB.out⟩
    · go_wp2_with fail
      go_ret
      exact ⟨true, i_retU (by simp; omega), by simpa using UP.out, HB.out⟩
  · go_enter Tryz.func86, Tryz.ntmps86
    go_wp2_with fail
    refine BL.out.mono ?_
    rintro e' w' ⟨rfl, rfl⟩
    go_wp2_with fail
    refine (SC.out _ (by omega)).mono ?_
    rintro e' w' ⟨rfl, HB⟩
    have RU := hid (RS.out w' HB)
    have HB := hid HB
    go_wp2_with fail
    refine (RU.out _ _ (by omega)).mono ?_
    rintro e' w'' ⟨up, rfl, hup, rfl⟩
    have UP := hid hup
    clear hup
    cases up
    · go_wp2_with fail
      go_ret
      exact ⟨false, i_retU (by simp; omega), by simpa using UP.out, HB.out⟩
    · go_wp2_with fail
      go_ret
      exact ⟨true, i_retU (by simp; omega), by simpa using UP.out, HB.out⟩
  · go_enter Tryz.func86, Tryz.ntmps86
    go_wp2_with fail
    refine BL.out.mono ?_
    rintro e' w' ⟨rfl, rfl⟩
    go_wp2_with fail
    refine (SC.out _ (by omega)).mono ?_
    rintro e' w' ⟨rfl, HB⟩
    have RU := hid (RS.out w' HB)
    have HB := hid HB
    go_wp2_with fail
    refine (RU.out _ _ (by omega)).mono ?_
    rintro e' w'' ⟨up, rfl, hup, rfl⟩
    have UP := hid hup
    clear hup
    cases up
    · go_wp2_with fail
      go_ret
      exact ⟨false, i_retU (by simp; omega), by simpa using UP.out, HB.out⟩
    · go_wp2_with fail
      go_ret
      exact ⟨true, i_retU (by simp; omega), by simpa using UP.out, HB.out⟩
  · go_enter Tryz.func86, Tryz.ntmps86
    go_wp2_with fail
    refine BL.out.mono ?_
    rintro e' w' ⟨rfl, rfl⟩
    go_wp2_with fail
    refine (SC.out _ (by omega)).mono ?_
    rintro e' w' ⟨rfl, HB⟩
    have RU := hid (RS.out w' HB)
    have HB := hid HB
    go_wp2_with fail
    refine (RU.out _ _ (by omega)).mono ?_
    rintro e' w'' ⟨up, rfl, hup, rfl⟩
    have UP := hid hup
    clear hup
    cases up
    · go_wp2_with fail
      go_ret
      exact ⟨false, i_retU (by simp; omega), by simpa using UP.out, HB.out⟩
    · go_wp2_with fail
      go_ret
      exact ⟨true, i_retU (by simp; omega), by simpa using UP.out, HB.out⟩

set_option maxRecDepth 100000 in
theorem nearest_any (p : Option Addr) (n cap : Nat) (zs : List Int) (w : World) (ha : Arg w p n cap zs) (hT : Tab w) (tz : Nm.tsize zs ≤ 4096) (V e : Int) (more : Bool) (hV : Nm.val zs = V) (h0 : -7000000 ≤ e) (h1 : e ≤ 7000000) :
    Calls Tryz.prog 86 #[.slice p n cap, .int .i64 e, .bool more] w fun r w' => ∃ x, r = .returned (.int .u64 x) ∧ Ie.Rnd V 1 e more x ∧ Below w.heap.size w w' := by
  obtain ⟨L, hL, BL, hl, _⟩ := blen_is zs ha.2.2.2.2
  have v0 : 0 ≤ V := by rw [← hV]; exact (Nm.val_bd zs ha.2.2.2.2).1
  rw [hV] at BL
  have hL2 : L ≤ 262144 := by omega
  have B : Hid (Calls Tryz.prog 29 #[.slice p n cap] w fun e w' => e = .returned (.int .i64 (L : Int)) ∧ w' = w) := by
    have := bitLen_any p n cap zs w ha
    rw [hL] at this
    exact this
  rcases (show V = 0 ∨ 0 < V by omega) with hv | hv
  · have hL0 : L = 0 := BL.2.1 hv
    subst hL0
    have R := hid (Ie.rnd_zero 1 e more (by omega))
    rw [hv]
    clear ha hT tz hV hL BL hl hL2 v0 hv
    go_enter Tryz.func86, Tryz.ntmps86
    go_wp2_with fail
    refine B.out.mono ?_
    rintro e' w' ⟨rfl, rfl⟩
    go_wp2_with fail
    go_ret
    exact ⟨0, rfl, R.out, Below.refl _ _⟩
  · obtain ⟨hL1, hp⟩ := BL.2.2 hv
    rcases (show 1024 < (L : Int) + e ∨ (L : Int) + e ≤ 1024 by omega) with hb | hb
    · have R := hid (Ie.rnd_inf V 1 e (L - 1) 0 more hp (by decide) (by omega))
      have l0 : ((L : Int) == 0) = false := by rw [beq_eq_false_iff_ne]; omega
      have l2 : (L : Int) ≤ 262144 := by omega
      clear ha hT tz hV hL BL hl hL2 v0 hv hp hL1
      go_enter Tryz.func86, Tryz.ntmps86
      go_wp2_with fail
      refine B.out.mono ?_
      rintro e' w' ⟨rfl, rfl⟩
      go_wp2_with fail
      go_ret
      exact ⟨_, rfl, R.out, Below.refl _ _⟩
    · obtain ⟨u, hu⟩ : ∃ u : Int, ((L : Int) + e - 53 < -1074 ∧ u = -1074) ∨ (-1074 ≤ (L : Int) + e - 53 ∧ u = (L : Int) + e - 53) := by
        rcases (show (L : Int) + e - 53 < -1074 ∨ -1074 ≤ (L : Int) + e - 53 by omega) with h | h
        · exact ⟨_, .inl ⟨h, rfl⟩⟩
        · exact ⟨_, .inr ⟨h, rfl⟩⟩
      obtain ⟨U, hU⟩ : ∃ U : Nat, u + 1074 = (U : Int) := ⟨(u + 1074).toNat, by omega⟩
      have e53 : (2 : Int) ^ 53 = 9007199254740992 := by decide
      rcases (show u ≤ e ∨ e < u by omega) with hd | hd
      · obtain ⟨j, hj⟩ : ∃ j : Nat, e - u = (j : Int) := ⟨(e - u).toNat, by omega⟩
        have hj53 : L + j ≤ 53 := by omega
        have hm : V * 2 ^ j < 9007199254740992 := by
          have g1 : V * 2 ^ j < 2 ^ (L + j) := by rw [Nm.two_add]; exact Int.mul_lt_mul_of_pos_right BL.1 (Nm.two_pos j)
          have g2 := Nm.two_mono hj53
          omega
        refine (nearest_up p n cap zs w ha hT tz V e u L j U more hV hL (by omega) hL2 hb (by omega) hj (by omega) hU (by omega) hm hu).mono ?_
        rintro r w' ⟨rfl, hB⟩
        exact ⟨_, rfl, Ie.rnd_exact V e L j U more hv hp hL1 BL.1 hj53 (by omega) (by omega) (by omega), hB⟩
      · obtain ⟨k, hk⟩ : ∃ k : Nat, u - e = (k : Int) + 1 := ⟨(u - e - 1).toNat, by omega⟩
        have hk53 : L ≤ k + 1 + 53 := by omega
        have hm : V / 2 ^ (k + 1) < 9007199254740992 := by
          rw [Int.ediv_lt_iff_lt_mul (Nm.two_pos _)]
          have g := Nm.two_mono hk53
          rw [Nm.two_add, e53] at g
          rw [Int.mul_comm]
          have := BL.1
          omega
        refine (nearest_down p n cap zs w ha hT tz V e u L k U more hV hv hL (by omega) hL2 hb (by omega) hk hU (by omega) hm hu).mono ?_
        rintro r w' ⟨up, rfl, hup, hB⟩
        refine ⟨_, rfl, Ie.rnd_cut V e L (k + 1) U more up hv hp hL1 BL.1 (by omega) (by omega) (by omega) (by omega) ?_, hB⟩
        rw [hup, Nat.add_sub_cancel]
        constructor
        · rintro ⟨g1, (g | g) | g⟩
          · exact ⟨by omega, g1, .inl g⟩
          · exact ⟨by omega, g1, .inr (.inl g)⟩
          · exact ⟨by omega, g1, .inr (.inr g)⟩
        · rintro ⟨_, g1, g | g | g⟩
          · exact ⟨g1, .inl (.inl g)⟩
          · exact ⟨g1, .inl (.inr g)⟩
          · exact ⟨g1, .inr g⟩
end Go.Proofs.YtiflponlioldmaaGreatDoor

/-
  ieee: Round.
-/
namespace Go.Proofs.YtiflponlioldmaaGreatDoor
open Go Go.RowKit Go.Deep

namespace Ie
theorem win_ok {n d e x : Int} {more : Bool} (L M : Nat) (n0 : 0 ≤ n) (hn : n < 2 ^ L) (d0 : 0 < d) (hd : d ≤ 2 ^ M) (hL : L ≤ 262144) (hM : M ≤ 262144) (h : Rnd n d (win e) more x) : Rnd n d e more x := by
  rcases (show win e = e ∨ (win e = 2097152 ∧ 2097152 < e) ∨ (win e = -2097152 ∧ e < -2097152) by simp only [win]; omega) with g | ⟨g, g'⟩ | ⟨g, g'⟩
  · rw [g] at h; exact h
  · rw [g] at h
    rcases (show n = 0 ∨ 0 < n by omega) with h0 | h0
    · subst h0
      have := h.one d0 d0 (rnd_zero d 2097152 more d0) (a := 0) (a' := 0) (by omega) rfl
      rw [this]
      exact rnd_zero d e more d0
    · have p0 : (2 : Int) ^ 0 ≤ n := by rw [Int.pow_zero]; omega
      have := h.one d0 d0 (rnd_inf n d 2097152 0 M more p0 hd (by omega)) (a := 0) (a' := 0) (by omega) rfl
      rw [this]
      exact rnd_inf n d e 0 M more p0 hd (by omega)
  · rw [g] at h
    have p0 : (2 : Int) ^ 0 ≤ d := by rw [Int.pow_zero]; omega
    have := h.one d0 d0 (rnd_small n d (-2097152) L 0 more hn p0 (by omega)) (a := 0) (a' := 0) (by omega) rfl
    rw [this]
    exact rnd_small n d e L 0 more hn p0 (by omega)

theorem win_bd (e : Int) : -2097152 ≤ win e ∧ win e ≤ 2097152 := by simp only [win]; omega
end Ie
end Go.Proofs.YtiflponlioldmaaGreatDoor

namespace Go.Proofs.YtiflponlioldmaaGreatDoor
open Go.RowKit Go.Deep

theorem mask_low (x : Int) (r : Nat) (hr : r ≤ 63) (h0 : 0 ≤ x) (h1 : x < 18446744073709551616) : bits .and .u64 x (2 ^ r - 1) = x % 2 ^ r := by
  obtain ⟨n, rfl⟩ := Int.eq_ofNat_of_zero_le h0
  have hP : ((2 ^ r : Nat) : Int) = (2 : Int) ^ r := by simp
  have hp : 0 < 2 ^ r := Nat.pow_pos (by omega)
  have hm : (2 : Int) ^ r - 1 = ((2 ^ r - 1 : Nat) : Int) := by omega
  have hle : 2 ^ r ≤ 2 ^ 63 := Nat.pow_le_pow_right (by omega) hr
  have e63 : 2 ^ 63 = 9223372036854775808 := by decide
  have h := bits_and_u64_nat n (2 ^ r - 1) (by omega) (by omega)
  rw [hm, h, Nat.and_two_pow_sub_one_eq_mod, ← hP]
  omega

set_option maxRecDepth 100000 in
set_option maxHeartbeats 1000000 in
/-- From the number of its digits on it is the number itself. -/
theorem low_all (p : Option Addr) (n cap : Nat) (zs : List Int) (k : Int) (L : Nat) (w : World) (ha : Arg w p n cap zs) (tz : Nm.tsize zs ≤ 4096) (hk : 0 ≤ k) (hL : blen (Nm.trim zs) = (L : Int)) (hb : (L : Int) ≤ k) :
    Calls Tryz.prog 359 #[.slice p n cap, .int .i64 k] w fun e w' => ∃ r os, e = .returned (.tuple #[.slice r (List.length os) (List.length os), .int .i64 0]) ∧ Ans w.heap.size w' r os (Nm.val zs) ∧ Below w.heap.size w w' := by
  have HT := hid (lshift_ok p n cap zs k w ha tz hk)
  have HB := hid (bitLen_n L p _ _ (Nm.trim zs) w ha.trim' hL)
  have TR := trim_any p _ _ (Nm.trim zs) w ha.trim'
  rw [Nm.val_trim] at TR
  have HTR := hid TR
  clear hL ha TR
  go_enter Tryz.func359, Tryz.ntmps359
  go_wp2_with fail
  refine HT.out.mono ?_
  rintro e w' ⟨rfl, rfl⟩
  go_wp2_with fail
  refine HB.out.mono ?_
  rintro e w' ⟨rfl, rfl⟩
  go_wp2_with fail
  refine HTR.out.mono ?_
  rintro e w1 ⟨r, os, rfl, -, hans, hb1⟩
  have HA := hid hans
  have D1 := hid hb1
  clear hans hb1
  go_wp2_with fail
  go_ret2
  exact ⟨r, os, rfl, HA.out, D1.out⟩

set_option maxRecDepth 100000 in
set_option maxHeartbeats 1000000 in
theorem low_ok (p : Option Addr) (n cap : Nat) (zs : List Int) (kk : Int) (k L : Nat) (w : World) (ha : Arg w p n cap zs) (tz : Nm.tsize zs ≤ 4096) (hkk : kk = (k : Int)) (hL : blen (Nm.trim zs) = (L : Int)) (hLt : L ≤ 64 * Nm.tsize zs) (hb : k < L) :
    Calls Tryz.prog 359 #[.slice p n cap, .int .i64 kk] w fun e w' => ∃ r os, e = .returned (.tuple #[.slice r (List.length os) (List.length os), .int .i64 0]) ∧ Ans w.heap.size w' r os (Nm.val zs % 2 ^ k) ∧ Below w.heap.size w w' := by
  have hk0 : 0 ≤ kk := by omega
  have T1 := lshift_ok p n cap zs kk w ha tz hk0
  have B1 := bitLen_n L p _ _ (Nm.trim zs) w ha.trim' hL
  obtain ⟨N, HN⟩ : ∃ N, Hid (Nm.tsize zs = N) := ⟨_, rfl⟩
  rw [HN.out] at T1 B1 hLt
  have HT := hid T1
  have HB := hid B1
  have hN1 : N ≤ 4096 := by rw [← HN.out]; exact tz
  have hb1 : ¬ (L : Int) ≤ kk := by omega
  obtain ⟨sk, hsk⟩ : ∃ sk, k / 64 = sk := ⟨_, rfl⟩
  obtain ⟨r, hr⟩ : ∃ r, k % 64 = r := ⟨_, rfl⟩
  have r1 : kk / 64 = (sk : Int) := by omega
  have r2 : kk % 64 = (r : Int) := by omega
  have hr63 : r ≤ 63 := by omega
  have hskN : sk < N := by omega
  have hskN' : (sk : Int) < (N : Int) := by omega
  have hkb : kk ≤ 262144 := by omega
  have KE : Hid (k = 64 * sk + r) := by show _ = _; omega
  have L1 := hid ((Nm.trim_length zs).trans HN.out)
  have A5 := hid ha.2.2.2.2.trim
  obtain ⟨b, off, rfl, hbw, HC⟩ := ha.2.2.2.1.trim.at (by rw [L1.out]; omega)
  have V := hid (Nm.val_trim zs)
  have LT := hid (ha.2.2.2.1.trim.take sk)
  have TL : Hid (((Nm.trim zs).take sk).length = sk) := by rw [Hid, List.length_take, L1.out]; omega
  obtain ⟨x, X⟩ : ∃ x, Hid (x = (Nm.trim zs).getD sk 0) := ⟨_, rfl⟩
  have hxc := HC.out sk (by rw [L1.out]; exact hskN)
  rw [← X.out] at hxc
  have HXC := hid hxc
  have hx0 := A5.out.at sk
  rw [← X.out] at hx0
  obtain ⟨hx0, hx1⟩ := hx0
  have hP0 := Nm.two_pos r
  have hP63 : (2 : Int) ^ r ≤ 9223372036854775808 := by
    have := Nm.two_mono (show r ≤ 63 by omega)
    have e : (2 : Int) ^ 63 = 9223372036854775808 := by decide
    omega
  obtain ⟨y, hy⟩ : ∃ y, bits .and .u64 x (2 ^ r - 1) = y := ⟨_, rfl⟩
  have YE := hid ((mask_low x r hr63 hx0 hx1).symm.trans hy)
  have y0 : 0 ≤ y := by rw [← YE.out]; exact Int.emod_nonneg _ (by omega)
  have y1 : y < 2 ^ r := by rw [← YE.out]; exact Int.emod_lt_of_pos _ hP0
  have hw1 : IntKind.u64.wrap (2 ^ r) = 2 ^ r := by rw [Sh.wrap_mod]; omega
  have QE : Hid (Nm.val zs % 2 ^ k = Nm.val ((Nm.trim zs).take sk) + Nm.pw sk * y) := by
    have h1 := Nm.val_drop (Nm.trim zs) sk (by rw [L1.out]; omega)
    have h2 := Nm.val_bd _ (A5.out.take sk)
    rw [TL.out] at h2
    have h3 : Nm.val ((Nm.trim zs).drop sk) = x + 18446744073709551616 * Nm.val ((Nm.trim zs).drop (sk + 1)) := by
      rw [X.out, List.drop_eq_getElem_cons (by rw [L1.out]; exact hskN), Nm.val]
      simp [List.getD, L1.out, hskN]
    have hp := Nm.pw_pos sk
    have c1 := Int.emod_add_mul_ediv x (2 ^ r)
    rw [YE.out] at c1
    have hPQ := Sh.split64 r hr63
    have e1 : Nm.val zs = Nm.val ((Nm.trim zs).take sk) + Nm.pw sk * y + 2 ^ k * (x / 2 ^ r + 2 ^ (64 - r) * Nm.val ((Nm.trim zs).drop (sk + 1))) := by
      rw [KE.out, Nm.two_add, ← Nm.pw_two, Int.mul_assoc, Int.mul_add (2 ^ r), ← Int.mul_assoc (2 ^ r), hPQ, ← V.out, h1, h3]
      have : x + 18446744073709551616 * Nm.val ((Nm.trim zs).drop (sk + 1)) = y + (2 ^ r * (x / 2 ^ r) + 18446744073709551616 * Nm.val ((Nm.trim zs).drop (sk + 1))) := by omega
      rw [this, Int.mul_add]
      omega
    have e2 : 0 ≤ Nm.pw sk * y := Int.mul_nonneg (by omega) y0
    have e3 : Nm.pw sk * (y + 1) ≤ Nm.pw sk * 2 ^ r := Int.mul_le_mul_of_nonneg_left (by omega) (by omega)
    rw [Int.mul_add, Int.mul_one, Nm.pw_two, ← Nm.two_add, ← KE.out, ← Nm.pw_two] at e3
    show _ = _
    rw [e1, Int.add_mul_emod_self_left, Int.emod_eq_of_lt (by omega) (by omega)]
  have Y64 : Hid (0 ≤ y ∧ y < 18446744073709551616) := by show _ ∧ _; omega
  clear T1 B1 ha tz hL hkk hsk hr hLt hb hxc y0 y1
  go_enter Tryz.func359, Tryz.ntmps359
  go_wp2_with fail
  refine HT.out.mono ?_
  rintro e w' ⟨rfl, rfl⟩
  go_wp2_with fail
  refine HB.out.mono ?_
  rintro e w' ⟨rfl, rfl⟩
  go_wp2_with fail
  refine (widened_any _ sk _ 1 1 ((Nm.trim zs).take sk) _ rfl TL.out (by omega) LT.out).mono ?_
  rintro e w1 ⟨rfl, ho, hb2, hz2⟩
  have hxc1 : w1.cell? ⟨b, off + sk, none⟩ = some (.int .u64 x) := (hb2.cell (p := ⟨b, off + sk, none⟩) hbw).trans HXC.out
  obtain ⟨u, hu⟩ : ∃ u, w1.cell? ⟨w'.heap.size, sk, none⟩ = some (.int .u64 u) := ⟨_, ho.cell sk (by rw [List.length_append, TL.out]; simp)⟩
  have hfr := ho.free sk
  have O1 := hid (ho.set sk y)
  have LL : ((Nm.trim zs).take sk ++ List.replicate 1 0).length = sk + 1 := by rw [List.length_append, TL.out, List.length_replicate]
  have O2 : Hid ((((Nm.trim zs).take sk ++ List.replicate 1 0).set sk y).length = sk + 1) := by rw [Hid, List.length_set, LL]
  have O3 := hid (((A5.out.take sk).append (Nm.Limbs.replicate 1)).set sk Y64.out.1 Y64.out.2)
  have O4 : Hid (Nm.val (((Nm.trim zs).take sk ++ List.replicate 1 0).set sk y) = Nm.val zs % 2 ^ k) := by
    have e0 : ((Nm.trim zs).take sk ++ List.replicate 1 0).getD sk 0 = 0 := by
      rw [List.getD, List.getElem?_append_right (by rw [TL.out]; omega), TL.out, Nat.sub_self]
      rfl
    rw [Hid, Nm.val_set _ _ _ (by omega), e0, Int.sub_zero, Nm.val_append, Nm.val_replicate, Int.mul_zero, Int.add_zero, QE.out]
  have O5 := hid (hb2.setCell (p := ⟨w'.heap.size, sk, none⟩) (Nat.le_refl _) (.int .u64 y))
  clear ho hb2 hz2 LL
  go_wp2_with fail
  refine (trimmed_any _ (sk + 1) (sk + 1) (((Nm.trim zs).take sk ++ List.replicate 1 0).set sk y) _ O2.out (Nat.le_refl _) (by omega) O1.out.lies).mono ?_
  rintro e w3 ⟨rfl, rfl⟩
  go_wp2_with fail
  go_ret2
  refine ⟨some ⟨w'.heap.size, 0, none⟩, Nm.trim (((Nm.trim zs).take sk ++ List.replicate 1 0).set sk y), ret_two (Nm.trim_length _).symm, ⟨O1.out.lies.trim, O3.out.trim, ?_, ?_, ?_⟩, O5.out⟩
  · rw [Nm.trim_trim, Nm.trim_length]
  · rw [Nm.val_trim, O4.out]
  · intro a h
    cases h
    exact Nat.le_refl _
end Go.Proofs.YtiflponlioldmaaGreatDoor

/-
  Low, whatever the number of bits.
-/
namespace Go.Proofs.YtiflponlioldmaaGreatDoor
open Go.RowKit Go.Deep

theorem low_any (p : Option Addr) (n cap : Nat) (zs : List Int) (kk : Int) (k : Nat) (w : World) (ha : Arg w p n cap zs) (tz : Nm.tsize zs ≤ 4096) (hkk : kk = (k : Int)) :
    Calls Tryz.prog 359 #[.slice p n cap, .int .i64 kk] w fun e w' => ∃ r os, e = .returned (.tuple #[.slice r (List.length os) (List.length os), .int .i64 0]) ∧ Ans w.heap.size w' r os (Nm.val zs % 2 ^ k) ∧ Below w.heap.size w w' := by
  obtain ⟨L, hL, BL, hl, _⟩ := blen_is zs ha.2.2.2.2
  have hv0 := (Nm.val_bd zs ha.2.2.2.2).1
  rw [← blen_trim_eq] at hL
  by_cases hb : k < L
  · exact low_ok p n cap zs kk k L w ha tz hkk hL hl hb
  · have hlt : Nm.val zs < 2 ^ k := by
      have := BL.1
      have := Nm.two_mono (show L ≤ k by omega)
      omega
    rw [Int.emod_eq_of_lt hv0 hlt]
    exact low_all p n cap zs kk L w ha tz (by omega) hL (by omega)
end Go.Proofs.YtiflponlioldmaaGreatDoor

namespace Go.Proofs.YtiflponlioldmaaGreatDoor
open Go Go.RowKit Go.Deep

theorem ans_small {B : Nat} {w : World} {r : Option Addr} {os : List Int} {v : Int} (h : Ans B w r os v) (k : Nat) (hv : v < Nm.pw k) : os.length ≤ k := by
  have := (Nm.tsize_le_iff h.2.1 k).2 (by rw [h.2.2.2.1]; exact hv)
  rw [h.2.2.1] at this
  exact this
end Go.Proofs.YtiflponlioldmaaGreatDoor

/-
  ieee: ratio (where the divisor leaves room), Round, RoundRatio.
-/
namespace Go.Proofs.YtiflponlioldmaaGreatDoor
open Go Go.RowKit Go.Deep

namespace Ie
/-- What is told of a fraction: the whole part of it moved, how far, and whether there is a rest. -/
def Quo (n d Q sh : Int) (rest : Bool) : Prop := ∀ e x, Rnd Q 1 (e - sh) rest x → Rnd n d e false x

theorem quo_up (V D : Int) (L M s : Nat) (hv : 2 ^ (L - 1) ≤ V) (hl : 1 ≤ L) (d0 : 0 < D) (hd : D < 2 ^ M) (hs : L + s = M + 64) : Quo V D (V * 2 ^ s / D) s (decide (V * 2 ^ s % D ≠ 0)) := by
  intro e x h
  refine Rnd.num s (rnd_floor (V * 2 ^ s) D (e - s) x d0 ?_ h)
  rw [Int.le_ediv_iff_mul_le d0]
  have g1 : (2 : Int) ^ (L - 1 + s) ≤ V * 2 ^ s := by rw [Nm.two_add]; exact Int.mul_le_mul_of_nonneg_right hv (by have := Nm.two_pos s; omega)
  rw [show L - 1 + s = 63 + M by omega, Nm.two_add] at g1
  have e63 : (2 : Int) ^ 63 = 9223372036854775808 := by decide
  rw [e63] at g1
  have := Nm.two_pos M
  omega

theorem quo_down (V D : Int) (L M s : Nat) (v0 : 0 < V) (hv : 2 ^ (L - 1) ≤ V) (hl : 1 ≤ L) (d0 : 0 < D) (hd : D < 2 ^ M) (hs : L = M + 64 + s) : Quo V D (V / 2 ^ s / D) (-(s : Int)) (decide (V % 2 ^ s ≠ 0) || decide (V / 2 ^ s % D ≠ 0)) := by
  have hp := Nm.two_pos s
  have hD : 0 < D * 2 ^ s := Int.mul_pos d0 hp
  have a1 := Int.mul_ediv_add_emod V (2 ^ s)
  have a2 := Int.emod_nonneg V (show (2 : Int) ^ s ≠ 0 by omega)
  have a3 := Int.emod_lt_of_pos V hp
  have b1 := Int.mul_ediv_add_emod (V / 2 ^ s) D
  have b2 := Int.emod_nonneg (V / 2 ^ s) (show D ≠ 0 by omega)
  have b3 := Int.emod_lt_of_pos (V / 2 ^ s) d0
  generalize V % 2 ^ s = r1 at *
  generalize V / 2 ^ s = q1 at *
  generalize q1 % D = r2 at *
  generalize q1 / D = q at *
  have c0 : 0 ≤ 2 ^ s * r2 := Int.mul_nonneg (by omega) b2
  have c1 : 2 ^ s * (r2 + 1) ≤ 2 ^ s * D := Int.mul_le_mul_of_nonneg_left (by omega) (by omega)
  rw [Int.mul_add, Int.mul_one, Int.mul_comm (2 ^ s) D] at c1
  have key : q * (D * 2 ^ s) + (2 ^ s * r2 + r1) = V := by
    rw [← a1, ← b1, Int.mul_add, ← Int.add_assoc]
    congr 2
    ac_rfl
  obtain ⟨k1, k2⟩ := div_is (A := V) (B := D * 2 ^ s) (q := q) (r := 2 ^ s * r2 + r1) (by omega) (by omega) key
  intro e x h
  refine Rnd.den s (rnd_floor V (D * 2 ^ s) (e + s) x hD ?_ ?_)
  · rw [Int.le_ediv_iff_mul_le hD]
    rw [show L - 1 = 63 + (M + s) by omega, Nm.two_add, Nm.two_add] at hv
    have e63 : (2 : Int) ^ 63 = 9223372036854775808 := by decide
    have g : D * 2 ^ s ≤ 2 ^ M * 2 ^ s := Int.mul_le_mul_of_nonneg_right (by omega) (by omega)
    rw [e63] at hv
    omega
  · rw [k1, k2]
    have e1 : decide (2 ^ s * r2 + r1 ≠ 0) = (decide (r1 ≠ 0) || decide (r2 ≠ 0)) := by
      rw [Bool.eq_iff_iff, Bool.or_eq_true, decide_eq_true_iff, decide_eq_true_iff, decide_eq_true_iff]
      rcases (show r2 = 0 ∨ 0 < r2 by omega) with h0 | h0
      · subst h0
        rw [Int.mul_zero]
        omega
      · have := Int.mul_pos hp h0
        omega
    rw [e1]
    rw [show e - -(s : Int) = e + s by omega] at h
    exact h
end Ie

/-- What ratio tells. -/
def RatioTold (V D : Int) (w : World) (e : Ending) (w' : World) : Prop :=
  ∃ r os Q sh rest, e = .returned (.tuple #[.slice r (List.length os) (List.length os), .int .i64 sh, .bool rest]) ∧ Ans w.heap.size w' r os Q ∧ Below w.heap.size w w' ∧ Nm.tsize os ≤ 4096 ∧ (-262144 ≤ sh ∧ sh ≤ 262208) ∧ Ie.Quo V D Q sh rest

theorem pos_len {B : Nat} {w : World} {r : Option Addr} {os : List Int} {v : Int} (h : Ans B w r os v) : decide (0 < os.length) = decide (v ≠ 0) := by
  have h1 := Nm.tsize_zero_iff h.2.1
  rw [h.2.2.1, h.2.2.2.1] at h1
  rw [decide_eq_decide]
  omega

set_option maxRecDepth 100000 in
set_option maxHeartbeats 2000000 in
theorem ratio_up (p q : Option Addr) (n cap m cap' : Nat) (zs ys : List Int) (w : World) (ha : Arg w p n cap zs) (hb : Arg w q m cap' ys) (tz : Nm.tsize zs ≤ 4096) (ty : Nm.tsize ys ≤ 4096) (V D : Int) (L M s : Nat) (hV : Nm.val zs = V) (hD : Nm.val ys = D) (hv : 0 < V) (hd : 0 < D)
    (hL : blen zs = (L : Int)) (hM : blen ys = (M : Int)) (BL : Nm.BLen V L) (BM : Nm.BLen D M) (hM2 : M + 64 ≤ 262144) (hs : L + s = M + 64) :
    Calls Tryz.prog 354 #[.slice p n cap, .slice q m cap'] w fun e w' => RatioTold V D w e w' := by
  have B1 := hid (bitLen_n L p n cap zs w ha hL)
  have B2 := hid (bitLen_n M q m cap' ys w hb hM)
  have hpw : V * 2 ^ s < Nm.pw 4096 := by
    have g1 : V * 2 ^ s < 2 ^ (L + s) := by rw [Nm.two_add]; exact Int.mul_lt_mul_of_pos_right BL.1 (Nm.two_pos s)
    have g2 := Nm.two_mono (show L + s ≤ 64 * 4096 by omega)
    rw [Nm.pw_two]
    omega
  have S := hid (fun (kk : Int) (hkk : kk = (s : Int)) => shl_any p n cap zs kk s w ha tz hkk (by rw [hV]; exact hpw))
  have Q := hid (Ie.quo_up V D L M s (BL.2.2 hv).2 (BL.2.2 hv).1 hd BM.1 hs)
  have HV := hid hV
  have HD := hid hD
  have HP := hid hpw
  have HB := hid hb
  have TY := hid ty
  have v1 : 0 < Nm.tsize ys := by
    rcases Nat.eq_zero_or_pos (Nm.tsize ys) with h | h
    · have := (Nm.tsize_zero_iff hb.2.2.2.2).1 h; omega
    · exact h
  have HY := hid v1
  have l1 : decide (262144 < (M : Int) + 64) = false := by simp; omega
  have l2 : decide ((M : Int) + 64 - (L : Int) < 0) = false := by simp; omega
  have l3 : (L : Int) ≤ 300000 := by omega
  have l4 : (M : Int) ≤ 300000 := by omega
  have ls := hid (show (M : Int) + 64 - (L : Int) = (s : Int) by omega)
  have HS := hid (show (s : Int) ≤ 262208 by omega)
  have vp := hid (show 0 ≤ V * 2 ^ s from Int.mul_nonneg (by omega) (by have := Nm.two_pos s; omega))
  have hdd := hid hd
  clear ha hb tz ty hV hD hv hd hL hM BL BM hM2 hs hpw v1
  go_enter Tryz.func354, Tryz.ntmps354
  go_wp2_with fail
  refine B2.out.mono ?_
  rintro e w' ⟨rfl, rfl⟩
  go_wp2_with fail
  refine B1.out.mono ?_
  rintro e w' ⟨rfl, rfl⟩
  go_wp2_with fail
  refine (S.out _ ls.out).mono ?_
  rintro e w1 ⟨r, os, rfl, A, hB⟩
  rw [HV.out] at A
  have A1 := ans_small A 4096 HP.out
  have hb1 := HB.out.below hB (Nat.le_refl _)
  have DM := divMod_ok r q _ _ m cap' os ys w1 (A.arg (by omega)) hb1 (by rw [A.2.2.1]; exact A1) TY.out HY.out
  rw [A.2.2.2.1, HD.out] at DM
  have DM := hid DM
  have HB1 := hid hB
  clear A A1 hb1 hB S B1 B2 HB
  go_wp2_with fail
  refine DM.out.mono ?_
  rintro e w2 ⟨r1, qs, r2, rs, rfl, A2, A3, hB2⟩
  have P3 := hid (pos_len A3)
  have vq : V * 2 ^ s / D < Nm.pw 4096 := by
    have := Int.ediv_le_self D vp.out
    have := HP.out
    omega
  have ch := HB1.out.trans (hB2.mono HB1.out.size)
  have K : Hid (∀ sh rest, sh = (s : Int) → rest = decide (V * 2 ^ s % D ≠ 0) → RatioTold V D w' (.returned (.tuple #[.slice r1 (List.length qs) (List.length qs), .int .i64 sh, .bool rest])) w2) := by
    intro sh rest hsh hrest
    subst hsh hrest
    have A2' : Ans w'.heap.size w2 r1 qs (V * 2 ^ s / D) := ⟨A2.1, A2.2.1, A2.2.2.1, A2.2.2.2.1, fun a h => by have := A2.2.2.2.2 a h; have := HB1.out.size; omega⟩
    exact ⟨r1, qs, _, _, _, rfl, A2', ch, by rw [A2.2.2.1]; exact ans_small A2 4096 vq, ⟨by have := HS.out; omega, by have := HS.out; omega⟩, Q.out⟩
  clear A2 A3 vq ch hB2 DM HB1 Q HV HD HP TY HY vp hdd
  go_wp2_with fail
  go_ret3
  exact K.out _ _ ls.out P3.out
set_option maxRecDepth 100000 in
set_option maxHeartbeats 2000000 in
theorem ratio_down (p q : Option Addr) (n cap m cap' : Nat) (zs ys : List Int) (w : World) (ha : Arg w p n cap zs) (hb : Arg w q m cap' ys) (tz : Nm.tsize zs ≤ 4096) (ty : Nm.tsize ys ≤ 4096) (V D : Int) (L M s : Nat) (hV : Nm.val zs = V) (hD : Nm.val ys = D) (hv : 0 < V) (hd : 0 < D)
    (hL : blen zs = (L : Int)) (hM : blen ys = (M : Int)) (BL : Nm.BLen V L) (BM : Nm.BLen D M) (hM2 : M + 64 ≤ 262144) (hL2 : L ≤ 262144) (hs : L = M + 64 + s) (hs0 : 0 < s) (hT : Tab w) :
    Calls Tryz.prog 354 #[.slice p n cap, .slice q m cap'] w fun e w' => RatioTold V D w e w' := by
  have B1 := hid (bitLen_n L p n cap zs w ha hL)
  have B2 := hid (bitLen_n M q m cap' ys w hb hM)
  have hp := Nm.two_pos s
  have hpw : V / 2 ^ s < Nm.pw 4096 := by
    have g1 := Int.ediv_le_self (2 ^ s) (show 0 ≤ V by omega)
    have g2 := Nm.two_mono (show L ≤ 64 * 4096 by omega)
    have := BL.1
    rw [Nm.pw_two]
    omega
  have S := hid (fun (kk : Int) (hkk : kk = (s : Int)) => shr_any p n cap zs kk s w ha hT tz hkk)
  have Q := hid (Ie.quo_down V D L M s hv (BL.2.2 hv).2 (BL.2.2 hv).1 hd BM.1 hs)
  have HV := hid hV
  have HD := hid hD
  have HP := hid hpw
  have HB := hid hb
  have TY := hid ty
  have v1 : 0 < Nm.tsize ys := by
    rcases Nat.eq_zero_or_pos (Nm.tsize ys) with h | h
    · have := (Nm.tsize_zero_iff hb.2.2.2.2).1 h; omega
    · exact h
  have HY := hid v1
  have l1 : decide (262144 < (M : Int) + 64) = false := by simp; omega
  have l2 : (M : Int) + 64 - (L : Int) < 0 := by omega
  have l3 : (L : Int) ≤ 300000 := by omega
  have l4 : (M : Int) ≤ 300000 := by omega
  have ls := hid (show (M : Int) + 64 - (L : Int) = -(s : Int) by omega)
  have HS := hid (show (s : Int) ≤ 262144 by omega)
  have vp := hid (show 0 ≤ V / 2 ^ s from Int.ediv_nonneg (by omega) (by omega))
  obtain ⟨lost, hlost⟩ : ∃ lost, decide (V % 2 ^ s ≠ 0) = lost := ⟨_, rfl⟩
  rw [hlost] at Q
  have HLO := hid hlost
  have hdd := hid hd
  clear ha hb tz ty hV hD hv hd hL hM BL BM hM2 hs hs0 hpw v1 hT hL2 hp hlost
  go_enter Tryz.func354, Tryz.ntmps354
  go_wp2_with fail
  refine B2.out.mono ?_
  rintro e w' ⟨rfl, rfl⟩
  go_wp2_with fail
  refine B1.out.mono ?_
  rintro e w' ⟨rfl, rfl⟩
  go_wp2_with fail
  refine (S.out _ (by have := ls.out; omega)).mono ?_
  rintro e w1 ⟨r, os, rfl, A, hB⟩
  rw [HV.out] at A ⊢
  rw [HLO.out]
  have A1 := ans_small A 4096 HP.out
  have hb1 := HB.out.below hB (Nat.le_refl _)
  have DM := divMod_ok r q _ _ m cap' os ys w1 (A.arg (by omega)) hb1 (by rw [A.2.2.1]; exact A1) TY.out HY.out
  rw [A.2.2.2.1, HD.out] at DM
  have DM := hid DM
  have HB1 := hid hB
  clear A A1 hb1 hB S B1 B2 HB
  go_wp2_with fail
  refine DM.out.mono ?_
  rintro e w2 ⟨r1, qs, r2, rs, rfl, A2, A3, hB2⟩
  have P3 := hid (pos_len A3)
  have vq : V / 2 ^ s / D < Nm.pw 4096 := by
    have := Int.ediv_le_self D vp.out
    have := HP.out
    omega
  have ch := HB1.out.trans (hB2.mono HB1.out.size)
  have K : Hid (∀ sh rest, sh = -(s : Int) → rest = (lost || decide (V / 2 ^ s % D ≠ 0)) → RatioTold V D w' (.returned (.tuple #[.slice r1 (List.length qs) (List.length qs), .int .i64 sh, .bool rest])) w2) := by
    intro sh rest hsh hrest
    subst hsh hrest
    have A2' : Ans w'.heap.size w2 r1 qs (V / 2 ^ s / D) := ⟨A2.1, A2.2.1, A2.2.2.1, A2.2.2.2.1, fun a h => by have := A2.2.2.2.2 a h; have := HB1.out.size; omega⟩
    exact ⟨r1, qs, _, _, _, rfl, A2', ch, by rw [A2.2.2.1]; exact ans_small A2 4096 vq, ⟨by have := HS.out; omega, by have := HS.out; omega⟩, Q.out⟩
  clear A2 A3 vq ch hB2 DM HB1 Q HV HD HP TY HY vp hdd
  cases lost
  · go_wp2_with fail
    go_ret3
    exact K.out _ _ ls.out (by rw [Bool.false_or]; exact P3.out)
  · go_wp2_with fail
    go_ret3
    exact K.out _ _ ls.out (by simp)

theorem ratio_any (p q : Option Addr) (n cap m cap' : Nat) (zs ys : List Int) (w : World) (ha : Arg w p n cap zs) (hb : Arg w q m cap' ys) (hT : Tab w) (tz : Nm.tsize zs ≤ 4096) (ty : Nm.tsize ys ≤ 4095) (V D : Int) (hV : Nm.val zs = V) (hD : Nm.val ys = D) (hv : 0 < V) (hd : 0 < D) :
    Calls Tryz.prog 354 #[.slice p n cap, .slice q m cap'] w fun e w' => RatioTold V D w e w' := by
  obtain ⟨L, hL, BL, hl, _⟩ := blen_is zs ha.2.2.2.2
  obtain ⟨M, hM, BM, hm, _⟩ := blen_is ys hb.2.2.2.2
  rw [hV] at BL
  rw [hD] at BM
  rcases Nat.lt_or_ge (M + 64) L with h | h
  · exact ratio_down p q n cap m cap' zs ys w ha hb tz (by omega) V D L M (L - (M + 64)) hV hD hv hd hL hM BL BM (by omega) (by omega) (by omega) (by omega) hT
  · exact ratio_up p q n cap m cap' zs ys w ha hb tz (by omega) V D L M (M + 64 - L) hV hD hv hd hL hM BL BM (by omega) (by omega)

set_option maxRecDepth 100000 in
set_option maxHeartbeats 2000000 in
theorem roundRatio_any (neg : Bool) (p q : Option Addr) (n cap m cap' : Nat) (zs ys : List Int) (w : World) (ha : Arg w p n cap zs) (hb : Arg w q m cap' ys) (hT : Tab w) (tz : Nm.tsize zs ≤ 4096) (ty : Nm.tsize ys ≤ 4095) (V D e : Int) (hV : Nm.val zs = V) (hD : Nm.val ys = D) (hd : 0 < D) :
    Calls Tryz.prog 346 #[.bool neg, .slice p n cap, .slice q m cap', .int .i64 e] w fun r w' => ∃ x, r = .returned (.tuple #[.int .u64 (Ie.sg neg x), .int .i64 0]) ∧ Ie.Rnd V D e false x ∧ Below w.heap.size w w' := by
  obtain ⟨L, hL, BL, hl, _⟩ := blen_is zs ha.2.2.2.2
  obtain ⟨M, hM, BM, hm, _⟩ := blen_is ys hb.2.2.2.2
  rw [hV] at BL
  rw [hD] at BM
  have B1 := hid (bitLen_n L p n cap zs w ha hL)
  have B2 := hid (bitLen_n M q m cap' ys w hb hM)
  have v0 : 0 ≤ V := by rw [← hV]; exact (Nm.val_bd zs ha.2.2.2.2).1
  have l1 : decide (262144 < (L : Int)) = false := by simp; omega
  have l2 : decide (262144 < (M : Int)) = false := by simp; omega
  have m0 : 0 < M := (BM.2.2 hd).1
  have l3 : ((M : Int) == 0) = false := by rw [beq_eq_false_iff_ne]; omega
  rcases (show V = 0 ∨ 0 < V by omega) with hv | hv
  · have hL0 : L = 0 := BL.2.1 hv
    subst hL0
    have R := hid (Ie.rnd_zero D e false hd)
    have SG := hid (signed_any neg 0 w (by omega) (by omega))
    subst hv
    clear ha hb hT tz ty hV hD hd hL hM BL BM hl hm v0 m0
    go_enter Tryz.func346, Tryz.ntmps346
    go_wp2_with fail
    refine B1.out.mono ?_
    rintro e' w' ⟨rfl, rfl⟩
    go_wp2_with fail
    refine B2.out.mono ?_
    rintro e' w' ⟨rfl, rfl⟩
    go_wp2_with fail
    refine B2.out.mono ?_
    rintro e' w' ⟨rfl, rfl⟩
    go_wp2_with fail
    refine B1.out.mono ?_
    rintro e' w' ⟨rfl, rfl⟩
    go_wp2_with fail
    refine SG.out.mono ?_
    rintro e' w' ⟨rfl, rfl⟩
    go_wp2_with fail
    go_ret2
    exact ⟨0, rfl, R.out, Below.refl _ _⟩
  · have RA := hid (ratio_any p q n cap m cap' zs ys w ha hb hT tz ty V D hV hD hv hd)
    have WI := hid (fun (x : Int) => Ie.win_ok (n := V) (d := D) (e := e) (x := x) (more := false) L M v0 BL.1 hd (by have := BM.1; omega) (by omega) (by omega))
    have W0 := hid (fun (wx : World) => within_any e wx)
    obtain ⟨we, hwe⟩ : ∃ we, Ie.win e = we := ⟨_, rfl⟩
    have wb := Ie.win_bd e
    rw [hwe] at wb W0 WI
    obtain ⟨wb1, wb2⟩ := wb
    have l0 : 0 < L := (BL.2.2 hv).1
    have l4 : ((L : Int) == 0) = false := by rw [beq_eq_false_iff_ne]; omega
    have HT := hid hT
    clear ha hb hT tz ty hV hD hd hL hM BL BM hl hm v0 m0 hwe l0 hv
    go_enter Tryz.func346, Tryz.ntmps346
    go_wp2_with fail
    refine B1.out.mono ?_
    rintro e' w' ⟨rfl, rfl⟩
    go_wp2_with fail
    refine B2.out.mono ?_
    rintro e' w' ⟨rfl, rfl⟩
    go_wp2_with fail
    refine B2.out.mono ?_
    rintro e' w' ⟨rfl, rfl⟩
    go_wp2_with fail
    refine B1.out.mono ?_
    rintro e' w' ⟨rfl, rfl⟩
    go_wp2_with fail
    refine RA.out.mono ?_
    rintro e' w1 ⟨r, os, Q, sh, rest, rfl, A, hB, to4, ⟨s1, s2⟩, QU⟩
    have lo : os.length ≤ 4096 := by rw [← A.2.2.1]; exact to4
    have NR := hid (nearest_any r _ _ os w1 (A.arg (by omega)) (HT.out.below hB) to4 Q (we - sh) rest A.2.2.2.1 (by omega) (by omega))
    have HB := hid hB
    have QQ := hid QU
    clear A hB to4 QU lo B1 B2 RA HT
    go_wp2_with fail
    refine (W0.out w1).mono ?_
    rintro e' w' ⟨rfl, rfl⟩
    go_wp2_with fail
    refine NR.out.mono ?_
    rintro e' w2 ⟨x, rfl, R, hB⟩
    have bd := R.bd
    have R1 := hid (WI.out x (QQ.out we x R))
    have SG := hid (signed_any neg x w2 bd.1 (by omega))
    have HB2 := hid (HB.out.trans (hB.mono HB.out.size))
    clear R bd hB
    go_wp2_with fail
    refine SG.out.mono ?_
    rintro e' w3 ⟨rfl, rfl⟩
    go_wp2_with fail
    go_ret2
    exact ⟨x, rfl, R1.out, HB2.out⟩
end Go.Proofs.YtiflponlioldmaaGreatDoor

/-
  Room for products and shifts.
-/
namespace Go.Proofs.YtiflponlioldmaaGreatDoor
open Go Go.RowKit Go.Deep

theorem alloc_below (w : World) (A : Obj) : Below w.heap.size w (w.alloc A) := Below.alloc (Below.refl _ _) (Nat.le_refl _) A

theorem lit_small {D m : Int} {L s : Nat} (hD : 0 ≤ D) (h1 : D < Nm.pw L) (m0 : 0 ≤ m) (h2 : m < 18446744073709551616) (hs : 64 * L + 64 + s ≤ 262144) : D * m * 2 ^ s < Nm.pw 4096 ∧ D * m < Nm.pw 4096 := by
  have e64 : (2 : Int) ^ 64 = 18446744073709551616 := by decide
  rw [Nm.pw_two] at h1
  have p0 := Nm.two_pos s
  have g1 : D * m ≤ D * 2 ^ 64 := Int.mul_le_mul_of_nonneg_left (by omega) hD
  have g2 : D * 2 ^ 64 < 2 ^ (64 * L) * 2 ^ 64 := Int.mul_lt_mul_of_pos_right h1 (by omega)
  rw [← Nm.two_add] at g2
  have g3 : D * m < 2 ^ (64 * L + 64) := by omega
  have g4 : D * m * 2 ^ s < 2 ^ (64 * L + 64) * 2 ^ s := Int.mul_lt_mul_of_pos_right g3 p0
  rw [← Nm.two_add] at g4
  rw [Nm.pw_two]
  have g5 := Nm.two_mono (show 64 * L + 64 + s ≤ 64 * 4096 by omega)
  have g6 := Nm.two_mono (show 64 * L + 64 ≤ 64 * 4096 by omega)
  omega

theorem shl_room {V : Int} {L t : Nat} (h1 : V < Nm.pw L) (ht : 64 * L + t ≤ 262144) : V * 2 ^ t < Nm.pw 4096 := by
  rw [Nm.pw_two] at h1
  have g1 : V * 2 ^ t < 2 ^ (64 * L) * 2 ^ t := Int.mul_lt_mul_of_pos_right h1 (Nm.two_pos t)
  rw [← Nm.two_add] at g1
  have g2 := Nm.two_mono (show 64 * L + t ≤ 64 * 4096 by omega)
  rw [Nm.pw_two]
  omega

end Go.Proofs.YtiflponlioldmaaGreatDoor

/-
  ieee: finite, FromUint.
-/
namespace Go.Proofs.YtiflponlioldmaaGreatDoor
open Go Go.RowKit Go.Deep

set_option maxRecDepth 100000 in
theorem finite_any (d : Int) (w : World) (h0 : 0 ≤ d) (h1 : d < 18446744073709551616) :
    Calls Tryz.prog 57 #[.int .u64 d] w fun e w' => e = .returned (.bool (decide (d % 9223372036854775808 < 9218868437227405312))) ∧ w' = w := by
  have F := hid (field_any d w h0 h1)
  have fe : Ie.fld d = d % 9223372036854775808 / 4503599627370496 := by simp only [Ie.fld]; omega
  obtain ⟨f, hf⟩ : ∃ f, Ie.fld d = f := ⟨_, rfl⟩
  rw [hf] at F
  by_cases hc : f = 2047
  · have E : Hid (decide (d % 9223372036854775808 < 9218868437227405312) = false) := by rw [Hid, decide_eq_false_iff_not]; omega
    subst hc
    clear hf fe
    go_enter Tryz.func57, Tryz.ntmps57
    go_wp2_with fail
    refine F.out.mono ?_
    rintro e w' ⟨rfl, rfl⟩
    go_wp2_with fail
    go_ret
    exact ⟨by rw [E.out]; rfl, rfl⟩
  · have E : Hid (decide (d % 9223372036854775808 < 9218868437227405312) = true) := by rw [Hid, decide_eq_true_iff]; omega
    have hc' : (f == 2047) = false := by rw [beq_eq_false_iff_ne]; exact hc
    clear hf fe
    go_enter Tryz.func57, Tryz.ntmps57
    go_wp2_with fail
    refine F.out.mono ?_
    rintro e w' ⟨rfl, rfl⟩
    go_wp2_with fail
    go_ret
    exact ⟨by rw [E.out]; simp [hc], rfl⟩

set_option maxRecDepth 100000 in
theorem fromU_any (u : Int) (w : World) (hT : Tab w) (h0 : 0 ≤ u) (h1 : u < 18446744073709551616) :
    Calls Tryz.prog 36 #[.int .u64 u] w fun e w' => ∃ x, e = .returned (.int .u64 x) ∧ Ie.Rnd u 1 0 false x ∧ Below w.heap.size w w' := by
  have F := hid (fromUint_any u w h0 h1)
  have HT := hid hT
  have hp : Hid (u < Nm.pw 1) := h1
  clear hT
  go_enter Tryz.func36, Tryz.ntmps36
  go_wp2_with fail
  refine F.out.mono ?_
  rintro e w1 ⟨r, os, rfl, A, hB⟩
  have l1 := ans_small A 1 hp.out
  have N := hid (nearest_any r _ _ os w1 (A.arg (by omega)) (HT.out.below hB) (by rw [A.2.2.1]; omega) u 0 false A.2.2.2.1 (by omega) (by omega))
  have HB := hid hB
  clear A l1 hB F HT
  go_wp2_with fail
  refine N.out.mono ?_
  rintro e w2 ⟨x, rfl, R, hB2⟩
  have RR := hid R
  have HB2 := hid (HB.out.trans (hB2.mono HB.out.size))
  clear R hB2
  go_wp2_with fail
  go_ret
  exact ⟨x, rfl, RR.out, HB2.out⟩

theorem below_drew1 {B : Nat} {w w' : World} (h : Below B w w') : Below B w w'.drew := ⟨h.os, h.tape, h.output, h.size, h.block⟩

end Go.Proofs.YtiflponlioldmaaGreatDoor

/-
  ieee: Whole.
-/
namespace Go.Proofs.YtiflponlioldmaaGreatDoor
open Go Go.RowKit Go.Deep

/-- What Whole tells of a finite double. -/
def WholeTold (d : Int) (w : World) (e : Ending) (w' : World) : Prop :=
  ∃ r os, e = .returned (.tuple #[.bool (decide (9223372036854775808 ≤ d)), .slice r (List.length os) (List.length os), .int .i64 0]) ∧ Ans w.heap.size w' r os (Ie.whp (d % 9223372036854775808)) ∧ Below w.heap.size w w'

set_option maxRecDepth 100000 in
theorem whole_inf (d : Int) (w : World) (h0 : 0 ≤ d) (h1 : d < 18446744073709551616) (hr : 9218868437227405312 ≤ d % 9223372036854775808) :
    Calls Tryz.prog 25 #[.int .u64 d] w fun e w' => e = .returned (.tuple #[.bool false, .slice none 0 0, .int .i64 5]) ∧ w' = w := by
  have F := finite_any d w h0 h1
  rw [decide_eq_false (by omega)] at F
  have F := hid F
  go_enter Tryz.func25, Tryz.ntmps25
  go_wp2_with fail
  refine F.out.mono ?_
  rintro e w' ⟨rfl, rfl⟩
  go_wp2_with fail
  go_ret3
  exact ⟨rfl, rfl⟩

set_option maxRecDepth 100000 in
set_option maxHeartbeats 4000000 in
theorem whole_low (d : Int) (w : World) (h0 : 0 ≤ d) (h1 : d < 18446744073709551616) (r m : Int) (c : Int) (k : Nat) (hr : d % 9223372036854775808 = r) (hf : r < 9218868437227405312) (hc : Ie.cls d = c) (hm : Ie.dm d = m) (he : Ie.de d = -(k : Int)) (hk : 0 < k) (hk2 : k ≤ 1074) (mb : 0 ≤ m ∧ m < 9007199254740992) (hw : Ie.whp r = m / 2 ^ k) :
    Calls Tryz.prog 25 #[.int .u64 d] w fun e w' => WholeTold d w e w' := by
  have F := finite_any d w h0 h1
  rw [decide_eq_true (by omega)] at F
  have F := hid F
  have D := hid (decode_any d w h0 h1)
  rw [hc, hm, he] at D
  simp only [partsOf] at D
  obtain ⟨neg, hneg⟩ : ∃ neg, decide (9223372036854775808 ≤ d) = neg := ⟨_, rfl⟩
  rw [hneg] at D
  have q0 : 0 ≤ m / 2 ^ k := Int.ediv_nonneg mb.1 (by have := Nm.two_pos k; omega)
  have q1 : m / 2 ^ k ≤ m := Int.ediv_le_self _ mb.1
  have FU : Hid (∀ (wx : World) (u : Int), u = m / 2 ^ k → Calls Tryz.prog 59 #[.int .u64 u] wx fun e w' => ∃ r os, e = .returned (.slice r (List.length os) (List.length os)) ∧ Ans wx.heap.size w' r os (m / 2 ^ k) ∧ Below wx.heap.size wx w') := by
    intro wx u hu
    subst hu
    exact fromUint_any (m / 2 ^ k) wx q0 (by omega)
  have SM := Ie.shr_min m k mb.1 mb.2
  have WT : Hid (∀ (w2 : World) (p : Option Addr) (os : List Int) (B : Nat), w.heap.size ≤ B → Ans B w2 p os (m / 2 ^ k) → Below w.heap.size w w2 → WholeTold d w (.returned (.tuple #[.bool neg, .slice p (List.length os) (List.length os), .int .i64 0])) w2) := by
    intro w2 p os B hB A hb
    refine ⟨p, os, by rw [hneg], ?_, hb⟩
    rw [hr, hw]
    exact ⟨A.1, A.2.1, A.2.2.1, A.2.2.2.1, fun a h => by have := A.2.2.2.2 a h; omega⟩
  have WK : IntKind.i64.wrap (k : Int) = (k : Int) := by rw [IntKind.wrap_i64]; omega
  have k1 : -(k : Int) < 0 := by omega
  have k2 : (k : Int) ≤ 1074 := by omega
  obtain ⟨mb0, mb1⟩ := mb
  clear hneg hr hf hc hm he hw q0 q1
  go_enter Tryz.func25, Tryz.ntmps25
  go_wp2_with fail
  refine F.out.mono ?_
  rintro e w ⟨rfl, rfl⟩
  go_wp2_with fail
  refine D.out.mono ?_
  rintro e w1 ⟨rfl, hB⟩
  have HB := hid hB
  clear hB F D
  go_wp2_with fail
  have HB1 := hid (Below.alloc HB.out HB.out.size (.cells #[.bool neg, .int .i64 c, .int .u64 m, .int .i64 (-(k : Int))] 99))
  have hg := heap_alloc_new w1 (.cells #[.bool neg, .int .i64 c, .int .u64 m, .int .i64 (-(k : Int))] 99)
  have p0 : (w1.alloc (.cells #[.bool neg, .int .i64 c, .int .u64 m, .int .i64 (-(k : Int))] 99)).cell? ⟨w1.heap.size, 0, none⟩ = some (.bool neg) := by simp only [World.cell?, hg]; rfl
  have p2 : (w1.alloc (.cells #[.bool neg, .int .i64 c, .int .u64 m, .int .i64 (-(k : Int))] 99)).cell? ⟨w1.heap.size, 2, none⟩ = some (.int .u64 m) := by simp only [World.cell?, hg]; rfl
  have p3 : (w1.alloc (.cells #[.bool neg, .int .i64 c, .int .u64 m, .int .i64 (-(k : Int))] 99)).cell? ⟨w1.heap.size, 3, none⟩ = some (.int .i64 (-(k : Int))) := by simp only [World.cell?, hg]; rfl
  clear hg
  generalize w1.alloc (.cells #[.bool neg, .int .i64 c, .int .u64 m, .int .i64 (-(k : Int))] 99) = wA at *
  have CA : Hid (∀ wx w2 : World, wx.heap = wA.heap → Below w.heap.size w wx → Below wx.heap.size wx w2 → Below w.heap.size w w2 ∧ w2.cell? ⟨w1.heap.size, 0, none⟩ = some (.bool neg)) := by
    intro wx w2 hh hw hB2
    have lt : w1.heap.size < wx.heap.size := by rw [hh]; exact cell_lt p0
    have eq : wx.cell? ⟨w1.heap.size, 0, none⟩ = wA.cell? ⟨w1.heap.size, 0, none⟩ := World.cell?_of_block (by rw [hh])
    exact ⟨hw.trans (hB2.mono hw.size), by rw [hB2.cell (p := ⟨w1.heap.size, 0, none⟩) lt, eq]; exact p0⟩
  have HS := hid (show w.heap.size ≤ wA.heap.size from HB1.out.size)
  go_region_with (go_at_call 59; refine (FU.out _ _ ?_).mono ?_; (first | omega | (simp only [SM] <;> fail) | trace_state); rintro e w2 ⟨p, os, rfl, A, hB2⟩; obtain ⟨hB3, k0⟩ := CA.out wA.drew w2 rfl (below_drew1 HB1.out) hB2; have KK := hid (WT.out w2 p os _ HS.out A hB3); clear A hB2 hB3)
  all_goals (go_wp2_with fail; go_ret3; exact KK.out)
set_option maxRecDepth 100000 in
set_option maxHeartbeats 4000000 in
theorem whole_high (d : Int) (w : World) (h0 : 0 ≤ d) (h1 : d < 18446744073709551616) (r m : Int) (c : Int) (k : Nat) (hr : d % 9223372036854775808 = r) (hf : r < 9218868437227405312) (hc : Ie.cls d = c) (hm : Ie.dm d = m) (he : Ie.de d = (k : Int)) (hk2 : k ≤ 971) (mb : 0 ≤ m ∧ m < 9007199254740992) (hw : Ie.whp r = m * 2 ^ k) :
    Calls Tryz.prog 25 #[.int .u64 d] w fun e w' => WholeTold d w e w' := by
  have F := finite_any d w h0 h1
  rw [decide_eq_true (by omega)] at F
  have F := hid F
  have D := hid (decode_any d w h0 h1)
  rw [hc, hm, he] at D
  simp only [partsOf] at D
  obtain ⟨neg, hneg⟩ : ∃ neg, decide (9223372036854775808 ≤ d) = neg := ⟨_, rfl⟩
  rw [hneg] at D
  have FU : Hid (∀ wx : World, Calls Tryz.prog 59 #[.int .u64 m] wx fun e w' => ∃ r os, e = .returned (.slice r (List.length os) (List.length os)) ∧ Ans wx.heap.size w' r os m ∧ Below wx.heap.size wx w') := by
    intro wx
    exact fromUint_any m wx mb.1 (by omega)
  have mp : m < Nm.pw 1 := by have : Nm.pw 1 = 18446744073709551616 := rfl; omega
  have rm := shl_room (t := k) mp (by omega)
  have SL : Hid (∀ (wx : World) (p : Option Addr) (os : List Int) (B : Nat), Ans B wx p os m → Calls Tryz.prog 60 #[.slice p os.length os.length, .int .i64 (k : Int)] wx fun e w' => ∃ r os, e = .returned (.tuple #[.slice r (List.length os) (List.length os), .int .i64 0]) ∧ Ans wx.heap.size w' r os (m * 2 ^ k) ∧ Below wx.heap.size wx w') := by
    intro wx p os B A
    have l1 := ans_small A 1 mp
    have := shl_any p _ _ os (k : Int) k wx (A.arg (by omega)) (by rw [A.2.2.1]; omega) rfl (by rw [A.2.2.2.1]; exact rm)
    rw [A.2.2.2.1] at this
    exact this
  have WT : Hid (∀ (w2 : World) (p : Option Addr) (os : List Int) (B : Nat), w.heap.size ≤ B → Ans B w2 p os (m * 2 ^ k) → Below w.heap.size w w2 → WholeTold d w (.returned (.tuple #[.bool neg, .slice p (List.length os) (List.length os), .int .i64 0])) w2) := by
    intro w2 p os B hB A hb
    refine ⟨p, os, by rw [hneg], ?_, hb⟩
    rw [hr, hw]
    exact ⟨A.1, A.2.1, A.2.2.1, A.2.2.2.1, fun a h => by have := A.2.2.2.2 a h; omega⟩
  have k1 : ¬ (k : Int) < 0 := by omega
  have k2 : (k : Int) ≤ 971 := by omega
  obtain ⟨mb0, mb1⟩ := mb
  clear hneg hr hf hc hm he hw mp rm
  go_enter Tryz.func25, Tryz.ntmps25
  go_wp2_with fail
  refine F.out.mono ?_
  rintro e w ⟨rfl, rfl⟩
  go_wp2_with fail
  refine D.out.mono ?_
  rintro e w1 ⟨rfl, hB⟩
  have HB := hid hB
  clear hB F D
  go_wp2_with fail
  have HB1 := hid (Below.alloc HB.out HB.out.size (.cells #[.bool neg, .int .i64 c, .int .u64 m, .int .i64 (k : Int)] 99))
  have hg := heap_alloc_new w1 (.cells #[.bool neg, .int .i64 c, .int .u64 m, .int .i64 (k : Int)] 99)
  have p0 : (w1.alloc (.cells #[.bool neg, .int .i64 c, .int .u64 m, .int .i64 (k : Int)] 99)).cell? ⟨w1.heap.size, 0, none⟩ = some (.bool neg) := by simp only [World.cell?, hg]; rfl
  have p2 : (w1.alloc (.cells #[.bool neg, .int .i64 c, .int .u64 m, .int .i64 (k : Int)] 99)).cell? ⟨w1.heap.size, 2, none⟩ = some (.int .u64 m) := by simp only [World.cell?, hg]; rfl
  have p3 : (w1.alloc (.cells #[.bool neg, .int .i64 c, .int .u64 m, .int .i64 (k : Int)] 99)).cell? ⟨w1.heap.size, 3, none⟩ = some (.int .i64 (k : Int)) := by simp only [World.cell?, hg]; rfl
  clear hg
  generalize w1.alloc (.cells #[.bool neg, .int .i64 c, .int .u64 m, .int .i64 (k : Int)] 99) = wA at *
  have CA : Hid (∀ wx w2 : World, wx.heap = wA.heap → Below w.heap.size w wx → Below wx.heap.size wx w2 → Below w.heap.size w w2 ∧ w2.cell? ⟨w1.heap.size, 0, none⟩ = some (.bool neg) ∧ w2.cell? ⟨w1.heap.size, 3, none⟩ = some (.int .i64 (k : Int))) := by
    intro wx w2 hh hw hB2
    have lt : w1.heap.size < wx.heap.size := by rw [hh]; exact cell_lt p0
    have eq : ∀ o, wx.cell? ⟨w1.heap.size, o, none⟩ = wA.cell? ⟨w1.heap.size, o, none⟩ := fun o => World.cell?_of_block (by rw [hh])
    exact ⟨hw.trans (hB2.mono hw.size), by rw [hB2.cell (p := ⟨w1.heap.size, 0, none⟩) lt, eq]; exact p0, by rw [hB2.cell (p := ⟨w1.heap.size, 3, none⟩) lt, eq]; exact p3⟩
  have HS := hid (show w.heap.size ≤ wA.heap.size from HB1.out.size)
  go_region_with (first | (go_at_call 59; refine (FU.out _).mono ?_; rintro e w2 ⟨p, os, rfl, A, hB2⟩; obtain ⟨hB3, k0, k3⟩ := CA.out wA.drew w2 rfl (below_drew1 HB1.out) hB2; have SS := hid (SL.out w2 p os _ A); have HH := hid hB3; have HZ := hid (Nat.lt_of_lt_of_le (cell_lt k0) (Nat.le_refl _)); have K0 := hid k0; clear A hB2 hB3) | (go_at_call 60; refine SS.out.mono ?_; rintro e w3 ⟨p', os', rfl, A, hB4⟩; have z0 : w3.cell? ⟨w1.heap.size, 0, none⟩ = some (.bool neg) := (hB4.cell (p := ⟨w1.heap.size, 0, none⟩) (cell_lt K0.out)).trans K0.out; have KK := hid (WT.out w3 p' os' _ HH.out.size A (HH.out.trans (hB4.mono HH.out.size))); clear A hB4))
  all_goals (go_wp2_with fail; go_ret3; exact KK.out)

/-- Whole of a finite double. -/
theorem whole_fin (d : Int) (w : World) (h0 : 0 ≤ d) (h1 : d < 18446744073709551616) (hf : d % 9223372036854775808 < 9218868437227405312) :
    Calls Tryz.prog 25 #[.int .u64 d] w fun e w' => WholeTold d w e w' := by
  rcases Ie.dec_kinds d _ rfl with ⟨c, m, x, k1⟩ | ⟨c, m, x, k1, k2⟩ | ⟨c, m, x, k1, k2⟩ | ⟨c, m, x, k1⟩ | ⟨c, m, x, k1, k2⟩
  · exact whole_high d w h0 h1 _ 0 _ 0 rfl hf c m x (by omega) (by omega) (by rw [k1, Ie.whp_zero]; rfl)
  · have e0 : Ie.ex (d % 9223372036854775808) = 0 := by rw [Ie.ex]; omega
    have m0 : Ie.man (d % 9223372036854775808) = d % 9223372036854775808 := by rw [Ie.man, if_pos k2]
    exact whole_low d w h0 h1 _ _ _ 1074 rfl hf c m x (by omega) (by omega) (by omega) (by rw [Ie.whp_low _ 1074 (by omega), m0])
  · have mb := Ie.man_nn (d % 9223372036854775808) (by omega)
    have eb : (Ie.ex (d % 9223372036854775808) : Int) ≤ 2045 := by simp only [Ie.ex]; omega
    rcases (show (Ie.ex (d % 9223372036854775808) : Int) < 1074 ∨ 1074 ≤ (Ie.ex (d % 9223372036854775808) : Int) by omega) with h | h
    · obtain ⟨k, hk⟩ : ∃ k : Nat, (Ie.ex (d % 9223372036854775808) : Int) + k = 1074 := ⟨(1074 - (Ie.ex (d % 9223372036854775808) : Int)).toNat, by omega⟩
      exact whole_low d w h0 h1 _ _ _ k rfl hf c m (by rw [x]; omega) (by omega) (by omega) mb (Ie.whp_low _ k hk)
    · obtain ⟨k, hk⟩ : ∃ k : Nat, (Ie.ex (d % 9223372036854775808) : Int) = 1074 + k := ⟨((Ie.ex (d % 9223372036854775808) : Int) - 1074).toNat, by omega⟩
      exact whole_high d w h0 h1 _ _ _ k rfl hf c m (by rw [x]; omega) (by omega) mb (Ie.whp_high _ k hk).1
  · omega
  · omega
end Go.Proofs.YtiflponlioldmaaGreatDoor



/-
  ieee: ToInt.
-/
namespace Go.Proofs.YtiflponlioldmaaGreatDoor
open Go Go.RowKit Go.Deep

theorem ret_ie {a b c d : Int} (h : a = b) (k : c = d) : Ending.returned (.tuple #[.int .i64 a, .int .i64 c]) = .returned (.tuple #[.int .i64 b, .int .i64 d]) := by rw [h, k]

set_option maxRecDepth 100000 in
theorem toInt_inf (d : Int) (w : World) (h0 : 0 ≤ d) (h1 : d < 18446744073709551616) (hr : 9218868437227405312 ≤ d % 9223372036854775808) :
    Calls Tryz.prog 141 #[.int .u64 d] w fun e w' => e = .returned (.tuple #[.int .i64 0, .int .i64 5]) ∧ w' = w := by
  have F := hid (whole_inf d w h0 h1 hr)
  clear hr
  go_enter Tryz.func141, Tryz.ntmps141
  go_wp2_with fail
  refine F.out.mono ?_
  rintro e w' ⟨rfl, rfl⟩
  go_wp2_with fail
  go_ret2
  exact ⟨rfl, rfl⟩

/-- What ToInt tells of a finite double: the number, or 0 and ErrRange. -/
def ToIntIs (neg : Bool) (W : Int) (j f : Int) : Prop :=
  (W ≤ (if neg = true then 9223372036854775808 else 9223372036854775807) ∧ j = (if neg = true then -W else W) ∧ f = 0) ∨ ((if neg = true then 9223372036854775808 else 9223372036854775807) < W ∧ j = 0 ∧ f = 41)

set_option maxRecDepth 100000 in
set_option maxHeartbeats 4000000 in
theorem toInt_fin (d : Int) (w : World) (h0 : 0 ≤ d) (h1 : d < 18446744073709551616) (hr : d % 9223372036854775808 < 9218868437227405312) (neg : Bool) (hneg : decide (9223372036854775808 ≤ d) = neg) (V : Int) (hV : Ie.whp (d % 9223372036854775808) = V) (V0 : 0 ≤ V) (Vb : V < Nm.pw 4096) :
    Calls Tryz.prog 141 #[.int .u64 d] w fun e w' => ∃ j f, e = .returned (.tuple #[.int .i64 j, .int .i64 f]) ∧ ToIntIs neg V j f ∧ Below w.heap.size w w' := by
  have F : Hid (Calls Tryz.prog 25 #[.int .u64 d] w fun e w' => ∃ r os, e = .returned (.tuple #[.bool neg, .slice r (List.length os) (List.length os), .int .i64 0]) ∧ Ans w.heap.size w' r os V ∧ Below w.heap.size w w') := by
    have := whole_fin d w h0 h1 hr
    simp only [WholeTold] at this
    rw [hneg, hV] at this
    exact this
  have VB := hid Vb
  clear hneg hV hr Vb
  rcases (show 18446744073709551616 ≤ V ∨ V < 18446744073709551616 by omega) with hb | hb
  · have TU : Hid (∀ (wx : World) (r : Option Addr) (os : List Int) (B : Nat), Ans B wx r os V → ∃ u, Calls Tryz.prog 171 #[.slice r os.length os.length] wx fun e w' => e = .returned (.tuple #[.int .u64 u, .bool false]) ∧ w' = wx) := by
      intro wx r os B A
      have l := ans_small A 4096 VB.out
      have := toUint_any r _ _ os wx (A.arg (by omega))
      have h2 : decide (Nm.tsize os ≤ 1) = false := by
        rw [decide_eq_false_iff_not]
        intro hh
        have := (Nm.tsize_le_iff A.2.1 1).1 hh
        rw [A.2.2.2.1] at this
        have e : Nm.pw 1 = 18446744073709551616 := rfl
        omega
      rw [h2] at this
      exact ⟨_, this⟩
    cases neg
    · go_enter Tryz.func141, Tryz.ntmps141
      go_wp2_with fail
      refine F.out.mono ?_
      rintro e w1 ⟨r, os, rfl, A, hB⟩
      obtain ⟨u, hu⟩ := TU.out w1 r os _ A
      have HU := hid hu
      have HB := hid hB
      clear hu hB A F TU
      go_wp2_with fail
      refine HU.out.mono ?_
      rintro e w2 ⟨rfl, rfl⟩
      go_wp2_with fail
      go_ret2
      exact ⟨0, 41, rfl, .inr ⟨by simp; omega, rfl, rfl⟩, HB.out⟩
    · go_enter Tryz.func141, Tryz.ntmps141
      go_wp2_with fail
      refine F.out.mono ?_
      rintro e w1 ⟨r, os, rfl, A, hB⟩
      obtain ⟨u, hu⟩ := TU.out w1 r os _ A
      have HU := hid hu
      have HB := hid hB
      clear hu hB A F TU
      go_wp2_with fail
      refine HU.out.mono ?_
      rintro e w2 ⟨rfl, rfl⟩
      go_wp2_with fail
      go_ret2
      exact ⟨0, 41, rfl, .inr ⟨by simp; omega, rfl, rfl⟩, HB.out⟩
  · have TU : Hid (∀ (wx : World) (r : Option Addr) (os : List Int) (B : Nat), Ans B wx r os V → Calls Tryz.prog 171 #[.slice r os.length os.length] wx fun e w' => e = .returned (.tuple #[.int .u64 V, .bool true]) ∧ w' = wx) := by
      intro wx r os B A
      have l := ans_small A 4096 VB.out
      exact toU_is r _ _ os wx (A.arg (by omega)) V A.2.2.2.1 hb
    cases neg
    · rcases (show 9223372036854775807 < V ∨ V ≤ 9223372036854775807 by omega) with hm | hm
      · go_enter Tryz.func141, Tryz.ntmps141
        go_wp2_with fail
        refine F.out.mono ?_
        rintro e w1 ⟨r, os, rfl, A, hB⟩
        have HU := hid (TU.out w1 r os _ A)
        have HB := hid hB
        clear hB A F TU
        go_wp2_with fail
        refine HU.out.mono ?_
        rintro e w2 ⟨rfl, rfl⟩
        go_wp2_with fail
        go_ret2
        exact ⟨0, 41, rfl, .inr ⟨by simp; omega, rfl, rfl⟩, HB.out⟩
      · go_enter Tryz.func141, Tryz.ntmps141
        go_wp2_with fail
        refine F.out.mono ?_
        rintro e w1 ⟨r, os, rfl, A, hB⟩
        have HU := hid (TU.out w1 r os _ A)
        have HB := hid hB
        clear hB A F TU
        go_wp2_with fail
        refine HU.out.mono ?_
        rintro e w2 ⟨rfl, rfl⟩
        go_wp2_with fail
        go_ret2
        exact ⟨V, 0, rfl, .inl ⟨by simp; omega, rfl, rfl⟩, HB.out⟩
    · rcases (show 9223372036854775808 < V ∨ V = 9223372036854775808 ∨ V < 9223372036854775808 by omega) with hm | hm | hm
      · go_enter Tryz.func141, Tryz.ntmps141
        go_wp2_with fail
        refine F.out.mono ?_
        rintro e w1 ⟨r, os, rfl, A, hB⟩
        have HU := hid (TU.out w1 r os _ A)
        have HB := hid hB
        clear hB A F TU
        go_wp2_with fail
        refine HU.out.mono ?_
        rintro e w2 ⟨rfl, rfl⟩
        go_wp2_with fail
        go_ret2
        exact ⟨0, 41, rfl, .inr ⟨by simp; omega, rfl, rfl⟩, HB.out⟩
      · subst hm
        go_enter Tryz.func141, Tryz.ntmps141
        go_wp2_with fail
        refine F.out.mono ?_
        rintro e w1 ⟨r, os, rfl, A, hB⟩
        have HU := hid (TU.out w1 r os _ A)
        have HB := hid hB
        clear hB A F TU
        go_wp2_with fail
        refine HU.out.mono ?_
        rintro e w2 ⟨rfl, rfl⟩
        go_wp2_with fail
        go_ret2
        exact ⟨-9223372036854775808, 0, ret_ie (by first | decide | (simp [wrap64] <;> omega) | rfl) rfl, .inl ⟨by simp, rfl, rfl⟩, HB.out⟩
      · go_enter Tryz.func141, Tryz.ntmps141
        go_wp2_with fail
        refine F.out.mono ?_
        rintro e w1 ⟨r, os, rfl, A, hB⟩
        have HU := hid (TU.out w1 r os _ A)
        have HB := hid hB
        clear hB A F TU
        go_wp2_with fail
        refine HU.out.mono ?_
        rintro e w2 ⟨rfl, rfl⟩
        go_wp2_with fail
        go_ret2
        exact ⟨-V, 0, rfl, .inl ⟨by simp; omega, rfl, rfl⟩, HB.out⟩
end Go.Proofs.YtiflponlioldmaaGreatDoor

namespace Go.Proofs.YtiflponlioldmaaGreatDoor
open Go.RowKit Go.Deep Go.Shelf

def vcloneRen : Go.Shelf.Ren := ⟨fun _ => 197, fun t => if t = 37 then 70 else if t = 47 then 129 else if t = 5 then 5 else if t = 9 then 9 else if t = 3 then 3 else t, fun g => g⟩
theorem vcloneLays : LaysPu.n25 Tryz.prog vcloneRen where
  mixed := by kernel_rfl
  f25 := by kernel_rfl
  t0 := by kernel_rfl
  a0 := fun _ => by kernel_rfl
  z0 := fun _ => by kernel_rfl
  v0 := fun _ => by kernel_rfl
  i0 := by kernel_rfl
  t3 := by kernel_rfl
  a3 := fun _ => by kernel_rfl
  z3 := fun _ => by kernel_rfl
  v3 := fun _ => by kernel_rfl
  i3 := by kernel_rfl
  t4 := by kernel_rfl
  a4 := fun _ => by kernel_rfl
  z4 := fun _ => by kernel_rfl
  v4 := fun _ => by kernel_rfl
  i4 := by kernel_rfl
  t5 := by kernel_rfl
  a5 := fun _ => by kernel_rfl
  z5 := fun _ => by kernel_rfl
  v5 := fun _ => by kernel_rfl
  i5 := by kernel_rfl
  t9 := by kernel_rfl
  a9 := fun _ => by kernel_rfl
  z9 := fun _ => by kernel_rfl
  v9 := fun _ => by kernel_rfl
  i9 := by kernel_rfl
  t37 := by kernel_rfl
  a37 := fun _ => by kernel_rfl
  z37 := fun _ => by kernel_rfl
  v37 := fun _ => by kernel_rfl
  i37 := by kernel_rfl
  t47 := by kernel_rfl
  a47 := fun _ => by kernel_rfl
  z47 := fun _ => by kernel_rfl
  v47 := fun _ => by kernel_rfl
  i47 := by kernel_rfl

theorem vclone_any (s : ByteArray) (w : World) (hs : s.size ≤ 281474976710656) : Calls Tryz.prog 134 #[.string s] w fun e w' => e = .returned (.string s) ∧ Below w.heap.size w w' := by
  have C : Hid (Calls Tryz.prog 197 #[.string s] w fun e w' => e = .returned (.string s) ∧ Below w.heap.size w w') := AnyPu.stringslite_Clone vcloneLays s w (by omega)
  go_enter Tryz.func134, Tryz.ntmps134
  go_wp2_with fail
  refine C.out.mono ?_
  rintro e w1 ⟨rfl, d1⟩
  have D := hid d1
  clear d1
  go_wp2_with fail
  go_ret
  exact ⟨rfl, D.out⟩
end Go.Proofs.YtiflponlioldmaaGreatDoor

namespace Go.Proofs.YtiflponlioldmaaGreatDoor
open Go Go.RowKit Go.Deep Go.Shelf

def dren : Go.Shelf.Ren := ⟨fun | 176 => 142 | 249 => 201 | 288 => 231 | 283 => 259 | 284 => 260 | 285 => 261 | 286 => 262 | 129 => 66 | 317 => 285 | 318 => 286 | 319 => 287 | 320 => 288 | 337 => 303 | 338 => 230 | 137 => 54 | 217 => 98 | 266 => 148 | 166 => 48 | 169 => 42 | 240 => 93 | 276 => 143 | 167 => 236 | 170 => 47 | n => n, fun | 37 => 70 | 2 => 2 | 3 => 3 | 53 => 26 | 4 => 4 | 9 => 9 | 171 => 261 | 0 => 0 | 173 => 263 | 212 => 281 | 51 => 244 | 5 => 5 | 20 => 20 | 213 => 282 | 46 => 137 | 232 => 303 | 233 => 260 | 70 => 79 | 72 => 81 | 75 => 90 | 80 => 86 | 164 => 176 | 127 => 129 | n => n, fun | 17 => 6 | 18 => 8 | 19 => 1 | n => n⟩
theorem dixLays : Go.Proofs.Lays.n137 Tryz.prog dren where
  mixed := by kernel_rfl
  f137 := Tryz.func54.trans (congrArg some (by kernel_rfl))
  f217 := Tryz.func98.trans (congrArg some (by kernel_rfl))
  f266 := Tryz.func148.trans (congrArg some (by kernel_rfl))
  t3 := by kernel_rfl
  a3 := fun _ => by kernel_rfl
  z3 := fun _ => by kernel_rfl
  v3 := fun _ => by kernel_rfl
  t5 := by kernel_rfl
  a5 := fun _ => by kernel_rfl
  z5 := fun _ => by kernel_rfl
  v5 := fun _ => by kernel_rfl
  t9 := by kernel_rfl
  a9 := fun _ => by kernel_rfl
  z9 := fun _ => by kernel_rfl
  v9 := fun _ => by kernel_rfl
theorem wsLays : Go.Proofs.Lays.n166 Tryz.prog dren where
  mixed := by kernel_rfl
  f166 := Tryz.func48.trans (congrArg some (by kernel_rfl))
  f240 := Tryz.func93.trans (congrArg some (by kernel_rfl))
  f276 := Tryz.func143.trans (congrArg some (by kernel_rfl))
  t0 := by kernel_rfl
  a0 := fun _ => by kernel_rfl
  z0 := fun _ => by kernel_rfl
  v0 := fun _ => by kernel_rfl
  t3 := by kernel_rfl
  a3 := fun _ => by kernel_rfl
  z3 := fun _ => by kernel_rfl
  v3 := fun _ => by kernel_rfl
  t4 := by kernel_rfl
  a4 := fun _ => by kernel_rfl
  z4 := fun _ => by kernel_rfl
  v4 := fun _ => by kernel_rfl
  t9 := by kernel_rfl
  a9 := fun _ => by kernel_rfl
  z9 := fun _ => by kernel_rfl
  v9 := fun _ => by kernel_rfl
  t20 := by kernel_rfl
  a20 := fun _ => by kernel_rfl
  z20 := fun _ => by kernel_rfl
  v20 := fun _ => by kernel_rfl
  t37 := by kernel_rfl
  a37 := fun _ => by kernel_rfl
  z37 := fun _ => by kernel_rfl
  v37 := fun _ => by kernel_rfl
  t70 := by kernel_rfl
  a70 := fun _ => by kernel_rfl
  z70 := fun _ => by kernel_rfl
  v70 := fun _ => by kernel_rfl
  t72 := by kernel_rfl
  a72 := fun _ => by kernel_rfl
  z72 := fun _ => by kernel_rfl
  v72 := fun _ => by kernel_rfl
  t75 := by kernel_rfl
  a75 := fun _ => by kernel_rfl
  z75 := fun _ => by kernel_rfl
  v75 := fun _ => by kernel_rfl
  t164 := by kernel_rfl
  a164 := fun _ => by kernel_rfl
  z164 := fun _ => by kernel_rfl
  v164 := fun _ => by kernel_rfl
theorem strLays : Go.Proofs.Lays.n169 Tryz.prog dren where
  mixed := by kernel_rfl
  f169 := Tryz.func42.trans (congrArg some (by kernel_rfl))
  t0 := by kernel_rfl
  a0 := fun _ => by kernel_rfl
  z0 := fun _ => by kernel_rfl
  v0 := fun _ => by kernel_rfl
  t3 := by kernel_rfl
  a3 := fun _ => by kernel_rfl
  z3 := fun _ => by kernel_rfl
  v3 := fun _ => by kernel_rfl
  t9 := by kernel_rfl
  a9 := fun _ => by kernel_rfl
  z9 := fun _ => by kernel_rfl
  v9 := fun _ => by kernel_rfl
  t37 := by kernel_rfl
  a37 := fun _ => by kernel_rfl
  z37 := fun _ => by kernel_rfl
  v37 := fun _ => by kernel_rfl
  t70 := by kernel_rfl
  a70 := fun _ => by kernel_rfl
  z70 := fun _ => by kernel_rfl
  v70 := fun _ => by kernel_rfl
  t72 := by kernel_rfl
  a72 := fun _ => by kernel_rfl
  z72 := fun _ => by kernel_rfl
  v72 := fun _ => by kernel_rfl
  t127 := by kernel_rfl
  a127 := fun _ => by kernel_rfl
  z127 := fun _ => by kernel_rfl
  v127 := fun _ => by kernel_rfl
theorem dlenLays : Go.Proofs.Lays.n170 Tryz.prog dren where
  mixed := by kernel_rfl
  f170 := Tryz.func47.trans (congrArg some (by kernel_rfl))
  t0 := by kernel_rfl
  a0 := fun _ => by kernel_rfl
  z0 := fun _ => by kernel_rfl
  v0 := fun _ => by kernel_rfl
  t3 := by kernel_rfl
  a3 := fun _ => by kernel_rfl
  z3 := fun _ => by kernel_rfl
  v3 := fun _ => by kernel_rfl
  t37 := by kernel_rfl
  a37 := fun _ => by kernel_rfl
  z37 := fun _ => by kernel_rfl
  v37 := fun _ => by kernel_rfl
  t70 := by kernel_rfl
  a70 := fun _ => by kernel_rfl
  z70 := fun _ => by kernel_rfl
  v70 := fun _ => by kernel_rfl
  t72 := by kernel_rfl
  a72 := fun _ => by kernel_rfl
  z72 := fun _ => by kernel_rfl
  v72 := fun _ => by kernel_rfl
theorem wbLays : Go.Proofs.Lays.n167 Tryz.prog dren where
  mixed := by kernel_rfl
  f167 := Tryz.func236.trans (congrArg some (by kernel_rfl))
  f240 := Tryz.func93.trans (congrArg some (by kernel_rfl))
  f276 := Tryz.func143.trans (congrArg some (by kernel_rfl))
  t0 := by kernel_rfl
  a0 := fun _ => by kernel_rfl
  z0 := fun _ => by kernel_rfl
  v0 := fun _ => by kernel_rfl
  t4 := by kernel_rfl
  a4 := fun _ => by kernel_rfl
  z4 := fun _ => by kernel_rfl
  v4 := fun _ => by kernel_rfl
  t5 := by kernel_rfl
  a5 := fun _ => by kernel_rfl
  z5 := fun _ => by kernel_rfl
  v5 := fun _ => by kernel_rfl
  t9 := by kernel_rfl
  a9 := fun _ => by kernel_rfl
  z9 := fun _ => by kernel_rfl
  v9 := fun _ => by kernel_rfl
  t20 := by kernel_rfl
  a20 := fun _ => by kernel_rfl
  z20 := fun _ => by kernel_rfl
  v20 := fun _ => by kernel_rfl
  t37 := by kernel_rfl
  a37 := fun _ => by kernel_rfl
  z37 := fun _ => by kernel_rfl
  v37 := fun _ => by kernel_rfl
  t70 := by kernel_rfl
  a70 := fun _ => by kernel_rfl
  z70 := fun _ => by kernel_rfl
  v70 := fun _ => by kernel_rfl
  t72 := by kernel_rfl
  a72 := fun _ => by kernel_rfl
  z72 := fun _ => by kernel_rfl
  v72 := fun _ => by kernel_rfl
  t75 := by kernel_rfl
  a75 := fun _ => by kernel_rfl
  z75 := fun _ => by kernel_rfl
  v75 := fun _ => by kernel_rfl
  t164 := by kernel_rfl
  a164 := fun _ => by kernel_rfl
  z164 := fun _ => by kernel_rfl
  v164 := fun _ => by kernel_rfl
theorem apLays : Go.Proofs.LaysM.n176 Tryz.prog dren where
  mixed := by kernel_rfl
  f129 := Tryz.func66.trans (congrArg some (by kernel_rfl))
  f176 := Tryz.func142.trans (congrArg some (by kernel_rfl))
  f249 := Tryz.func201.trans (congrArg some (by kernel_rfl))
  f283 := Tryz.func259.trans (congrArg some (by kernel_rfl))
  f284 := Tryz.func260.trans (congrArg some (by kernel_rfl))
  f285 := Tryz.func261.trans (congrArg some (by kernel_rfl))
  f286 := Tryz.func262.trans (congrArg some (by kernel_rfl))
  f288 := Tryz.func231.trans (congrArg some (by kernel_rfl))
  f317 := Tryz.func285.trans (congrArg some (by kernel_rfl))
  f318 := Tryz.func286.trans (congrArg some (by kernel_rfl))
  f319 := Tryz.func287.trans (congrArg some (by kernel_rfl))
  f320 := Tryz.func288.trans (congrArg some (by kernel_rfl))
  f337 := Tryz.func303.trans (congrArg some (by kernel_rfl))
  f338 := Tryz.func230.trans (congrArg some (by kernel_rfl))
  t0 := by kernel_rfl
  a0 := fun _ => by kernel_rfl
  z0 := fun _ => by kernel_rfl
  v0 := fun _ => by kernel_rfl
  t2 := by kernel_rfl
  a2 := fun _ => by kernel_rfl
  z2 := fun _ => by kernel_rfl
  v2 := fun _ => by kernel_rfl
  t3 := by kernel_rfl
  a3 := fun _ => by kernel_rfl
  z3 := fun _ => by kernel_rfl
  v3 := fun _ => by kernel_rfl
  t4 := by kernel_rfl
  a4 := fun _ => by kernel_rfl
  z4 := fun _ => by kernel_rfl
  v4 := fun _ => by kernel_rfl
  t5 := by kernel_rfl
  a5 := fun _ => by kernel_rfl
  z5 := fun _ => by kernel_rfl
  v5 := fun _ => by kernel_rfl
  t9 := by kernel_rfl
  a9 := fun _ => by kernel_rfl
  z9 := fun _ => by kernel_rfl
  v9 := fun _ => by kernel_rfl
  t20 := by kernel_rfl
  a20 := fun _ => by kernel_rfl
  z20 := fun _ => by kernel_rfl
  v20 := fun _ => by kernel_rfl
  t37 := by kernel_rfl
  a37 := fun _ => by kernel_rfl
  z37 := fun _ => by kernel_rfl
  v37 := fun _ => by kernel_rfl
  t46 := by kernel_rfl
  a46 := fun _ => by kernel_rfl
  z46 := fun _ => by kernel_rfl
  v46 := fun _ => by kernel_rfl
  t51 := by kernel_rfl
  a51 := fun _ => by kernel_rfl
  z51 := fun _ => by kernel_rfl
  v51 := fun _ => by kernel_rfl
  t53 := by kernel_rfl
  a53 := fun _ => by kernel_rfl
  z53 := fun _ => by kernel_rfl
  v53 := fun _ => by kernel_rfl
  t171 := by kernel_rfl
  a171 := fun _ => by kernel_rfl
  z171 := fun _ => by kernel_rfl
  v171 := fun _ => by kernel_rfl
  t173 := by kernel_rfl
  a173 := fun _ => by kernel_rfl
  z173 := fun _ => by kernel_rfl
  v173 := fun _ => by kernel_rfl
  t212 := by kernel_rfl
  a212 := fun _ => by kernel_rfl
  z212 := fun _ => by kernel_rfl
  v212 := fun _ => by kernel_rfl
  t213 := by kernel_rfl
  a213 := fun _ => by kernel_rfl
  z213 := fun _ => by kernel_rfl
  t232 := by kernel_rfl
  a232 := fun _ => by kernel_rfl
  z232 := fun _ => by kernel_rfl
  v232 := fun _ => by kernel_rfl
  t233 := by kernel_rfl
  a233 := fun _ => by kernel_rfl
  z233 := fun _ => by kernel_rfl
  v233 := fun _ => by kernel_rfl
  g17 := by kernel_rfl
  g18 := by kernel_rfl
  g19 := by kernel_rfl
  i0 := by kernel_rfl
  i2 := by kernel_rfl
  i3 := by kernel_rfl
  i4 := by kernel_rfl
  i5 := by kernel_rfl
  i9 := by kernel_rfl
  i20 := by kernel_rfl
  i37 := by kernel_rfl
  i46 := by kernel_rfl
  i51 := by kernel_rfl
  i53 := by kernel_rfl
  i171 := by kernel_rfl
  i173 := by kernel_rfl
  i212 := by kernel_rfl
  i232 := by kernel_rfl
  i233 := by kernel_rfl
  m17 := by kernel_rfl
  m18 := by kernel_rfl
  m19 := by kernel_rfl
theorem bExtra : Builder.Extra Tryz.prog dren where
  sizeBuilder := by kernel_rfl
  liesBuilder := by kernel_rfl
  t5 := by kernel_rfl
  a5 := fun _ => by kernel_rfl
  z5 := fun _ => by kernel_rfl
  v5 := fun _ => by kernel_rfl
  infoByte := by kernel_rfl
  cellsByte := by kernel_rfl
  sizeByte := by kernel_rfl
  neB5 := by decide
end Go.Proofs.YtiflponlioldmaaGreatDoor

namespace Go.Proofs.YtiflponlioldmaaGreatDoor
open Go Go.RowKit Go.Deep Go.Shelf

/-- Only the block g, and new ones, have changed. -/
structure Oth (g : Nat) (w w' : World) : Prop where
  os : w'.os = w.os
  tape : w'.tape = w.tape
  output : w'.output = w.output
  size : w.heap.size ≤ w'.heap.size
  block : ∀ j, j < w.heap.size → j ≠ g → w'.heap[j]? = w.heap[j]?

theorem Oth.refl (g : Nat) (w : World) : Oth g w w := ⟨rfl, rfl, rfl, Nat.le_refl _, fun _ _ _ => rfl⟩
theorem Oth.trans {g : Nat} {a b c : World} (h : Oth g a b) (k : Oth g b c) : Oth g a c :=
  ⟨k.os.trans h.os, k.tape.trans h.tape, k.output.trans h.output, Nat.le_trans h.size k.size, fun i hi hs => (k.block i (Nat.lt_of_lt_of_le hi h.size) hs).trans (h.block i hi hs)⟩
theorem Oth.of_below {g : Nat} {a b : World} (h : Below a.heap.size a b) : Oth g a b := ⟨h.os, h.tape, h.output, h.size, fun i hi _ => h.block i hi⟩
theorem Oth.below {g B : Nat} {a b : World} (h : Oth g a b) (hg : B ≤ g) (hB : B ≤ a.heap.size) : Below B a b := ⟨h.os, h.tape, h.output, h.size, fun i hi => h.block i (by omega) (by omega)⟩
theorem Oth.set {w : World} {g : Nat} (i : Nat) (v : Value) : Oth g w (w.setCell ⟨g, i, none⟩ v) := by
  refine ⟨rfl, rfl, rfl, by simp [World.setCell], fun j _ hne => ?_⟩
  simp only [World.setCell, Array.getElem?_modify]
  rw [if_neg (fun h => hne h.symm)]

/-- A reader: its format and the place where it stands. -/
def RB (w : World) (b : Nat) (s : ByteArray) (k : Nat) : Prop := w.heap[b]? = some (.cells #[.string s, .int .i64 (k : Int)] 73 (0, 0))
theorem RB.cells {w : World} {b k : Nat} {s : ByteArray} (h : RB w b s k) :
    (w.cell? ⟨b, 0, none⟩ = some (.string s) ∧ w.cell? ⟨b, 1, none⟩ = some (.int .i64 (k : Int))) ∧ w.frozen? ⟨b, 1, none⟩ = false := by
  simp only [RB] at h
  refine ⟨⟨?_, ?_⟩, ?_⟩ <;> simp [World.cell?, World.frozen?, h]
theorem RB.lt {w : World} {b k : Nat} {s : ByteArray} (h : RB w b s k) : b < w.heap.size := by
  rcases Nat.lt_or_ge b w.heap.size with hl | hl
  · exact hl
  · simp [RB, Array.getElem?_eq_none hl] at h
theorem RB.below {w w' : World} {b k : Nat} {s : ByteArray} (h : RB w b s k) (hB : Below w.heap.size w w') : RB w' b s k := by
  rw [RB, hB.block b h.lt]; exact h
theorem RB.set {w : World} {b k : Nat} {s : ByteArray} (h : RB w b s k) {j : Nat} {v : Int} (e : v = (j : Int)) : RB (w.setCell ⟨b, 1, none⟩ (.int .i64 v)) b s j := by
  subst e
  simp only [RB] at *
  simp [World.setCell, Array.getElem?_modify, h]
theorem RB.new (w : World) (s : ByteArray) : RB (w.alloc (.cells #[.string s, .int .i64 0] 73)) w.heap.size s 0 := heap_alloc_new w _

theorem idx_lib (l : List UInt8) (c : UInt8) : Lib.indexByte l c = Dr.idx (l.map fun b => (b.toNat : Int)) (c.toNat : Int) := by
  induction l with
  | nil => rfl
  | cons b l ih =>
    rw [Lib.indexByte, List.map_cons, Dr.idx, ← ih]
    have h := Lib.indexByte_ge l c
    by_cases e : b = c
    · subst e; simp
    · have e1 : ¬ (b == c) = true := by simpa using e
      have e2 : ¬ (b.toNat : Int) = (c.toNat : Int) := fun h => e (UInt8.toNat_inj.1 (by omega))
      rw [if_neg e1, if_neg e2]
      by_cases k : Lib.indexByte l c = -1
      · have k1 : (Lib.indexByte l c == -1) = true := by simpa using k
        rw [if_pos k1, if_pos (show Lib.indexByte l c < 0 by omega)]
      · have k1 : ¬ (Lib.indexByte l c == -1) = true := by simpa using k
        rw [if_neg k1, if_neg (show ¬ Lib.indexByte l c < 0 by omega)]

theorem idx_any (s : ByteArray) (xs : List Int) (c : Int) (w : World) (hs : Str s xs) (h0 : 0 ≤ c) (h1 : c < 256) :
    Calls Tryz.prog 54 #[.string s, .int .u8 c] w fun e w' => e = .returned (.int .i64 (Dr.idx xs c)) ∧ w' = w := by
  have h := Any.strings_IndexByte dixLays s c w
  change Calls Tryz.prog 54 _ _ _ at h
  rw [idx_lib, show ((c.toNat.toUInt8).toNat : Int) = c by
    rw [Nat.toUInt8, UInt8.toNat_ofNat_of_lt' (by show c.toNat < 256; omega)]; omega] at h
  rw [show s.data.toList.map (fun b => (b.toNat : Int)) = xs from hs] at h
  exact h

set_option maxRecDepth 100000 in
theorem next_any (b k : Nat) (s : ByteArray) (xs : List Int) (w : World) (hs : Str s xs) (hk : k ≤ xs.length) (h : RB w b s k) :
    Calls Tryz.prog 83 #[.pointer (some ⟨b, 0, none⟩)] w fun e w' => e = .returned (.int .u8 (Dr.nx xs k)) ∧ Below w.heap.size w w' := by
  have hsz := hs.size
  obtain ⟨⟨c0, c1⟩, -⟩ := h.cells
  have D := hid (below_drewN (Below.refl w.heap.size w))
  by_cases he : k = xs.length
  · have hx : Hid (Dr.nx xs k = 0) := by rw [Hid, he]; simp [Dr.nx, List.getD]
    have he2 : (k : Int) = (xs.length : Int) := by omega
    clear h hs hk he
    go_enter Tryz.func83, Tryz.ntmps83
    go_upto_region 1 with fail
    go_quiet (fail)
    go_wp2_with fail
    go_ret
    exact ⟨by rw [hx.out]; rfl, D.out _⟩
  · have he2 : ¬ (k : Int) = (xs.length : Int) := by omega
    have hlt : (k : Int) < (xs.length : Int) := by omega
    have hx : ∀ h : k < s.size, ((s[k]'h).toNat : Int) = Dr.nx xs k := fun h => hs.at k h
    generalize Dr.nx xs k = x at *
    clear h hs hk he
    go_enter Tryz.func83, Tryz.ntmps83
    go_upto_region 1 with fail
    go_quiet (fail)
    go_wp2_with fail
    go_quiet (fail)
    go_wp2_with fail
    go_ret
    exact ⟨rfl, below_drewN (D.out _) _⟩
end Go.Proofs.YtiflponlioldmaaGreatDoor

namespace Go.Proofs.YtiflponlioldmaaGreatDoor
open Go Go.RowKit Go.Deep Go.Shelf

namespace Dr
theorem ct_drop {p : Int → Bool} {xs : List Int} {k : Nat} (hk : k < xs.length) : ct p (xs.drop k) = if p (nx xs k) = true then ct p (xs.drop (k + 1)) + 1 else 0 := by
  rw [List.drop_eq_getElem_cons hk, ct, nx, List.getD_eq_getElem?_getD, List.getElem?_eq_getElem hk]; rfl
theorem fS_drop {s : Nat} {xs : List Int} {k : Nat} (hk : k < xs.length) : fS s (xs.drop k) = if isF (nx xs k) = true then fS (s ||| 2 ^ (idx marks (nx xs k)).toNat) (xs.drop (k + 1)) else s := by
  rw [List.drop_eq_getElem_cons hk, fS, nx, List.getD_eq_getElem?_getD, List.getElem?_eq_getElem hk]; rfl
theorem dN_drop {n : Int} {xs : List Int} {k : Nat} (hk : k < xs.length) : dN n (xs.drop k) = if isD (nx xs k) = true then dN (min (10 * n + (nx xs k - 48)) 4097) (xs.drop (k + 1)) else n := by
  rw [List.drop_eq_getElem_cons hk, dN, nx, List.getD_eq_getElem?_getD, List.getElem?_eq_getElem hk]; rfl
theorem head_drop (xs : List Int) (k : Nat) : (xs.drop k).headD 0 = nx xs k := by
  rcases Nat.lt_or_ge k xs.length with h | h
  · rw [List.drop_eq_getElem_cons h, nx, List.getD_eq_getElem?_getD, List.getElem?_eq_getElem h]; rfl
  · rw [List.drop_of_length_le h, nx, List.getD_eq_getElem?_getD, List.getElem?_eq_none h]; rfl
theorem getD_pos {xs : List Int} {k : Nat} (h : nx xs k ≠ 0) : k < xs.length := by
  rcases Nat.lt_or_ge k xs.length with c | c
  · exact c
  · exact absurd (by rw [nx, List.getD_eq_getElem?_getD, List.getElem?_eq_none c]; rfl) h
theorem or_lt {s i : Nat} (hs : s < 32) (hi : i < 5) : s ||| 2 ^ i < 32 :=
  Nat.or_lt_two_pow (n := 5) hs (Nat.pow_lt_pow_right (by omega) hi)
theorem fS_lt {s : Nat} (l : List Int) (hs : s < 32) : fS s l < 32 := by
  induction l generalizing s with
  | nil => exact hs
  | cons c l ih =>
    rw [fS]
    split
    · have := idx_lt marks c
      have := idx_ge marks c
      exact ih (or_lt hs (by simp [marks] at *; omega))
    · exact hs
end Dr

/-- What flags tells. -/
def FTold (b : Nat) (s : ByteArray) (l : List Int) (k : Nat) (w : World) (r : Ending) (w' : World) : Prop := r = .returned (.int .i64 (Dr.fS 0 l : Nat)) ∧ RB w' b s (k + Dr.ct Dr.isF l) ∧ Oth b w w'

theorem or_is (t i : Nat) (ht : t < 32) (hi : i < 5) : bits .or .i64 (t : Int) (wrap64 (2 ^ i)) = ((t ||| 2 ^ i : Nat) : Int) := by
  have key : ∀ (t : Fin 32) (i : Fin 5), bits .or .i64 (t.val : Int) (IntKind.i64.wrap (1 * 2 ^ i.val)) = ((t.val ||| 2 ^ i.val : Nat) : Int) := by decide
  have e : wrap64 (2 ^ i) = IntKind.i64.wrap (1 * 2 ^ i) := by
    rw [IntKind.wrap_i64, Int.one_mul, wrap64]
  rw [e]
  exact key ⟨t, ht⟩ ⟨i, hi⟩

set_option maxRecDepth 100000 in
theorem flags_any (b k : Nat) (s : ByteArray) (xs : List Int) (w : World) (hs : Str s xs) (hk : k ≤ xs.length) (hl : xs.length ≤ 4611686018427387904) (h : RB w b s k) :
    Calls Tryz.prog 135 #[.pointer (some ⟨b, 0, none⟩)] w fun r w' => FTold b s (xs.drop k) k w r w' := by
  have NX : Hid (∀ (j : Nat) (W : World), j ≤ xs.length → RB W b s j → Calls Tryz.prog 83 #[.pointer (some ⟨b, 0, none⟩)] W fun e w' => e = .returned (.int .u8 (Dr.nx xs j)) ∧ Below W.heap.size W w') := fun j W hj hb => next_any b j s xs W hs hj hb
  have IX : Hid (∀ (c : Int) (W : World), 0 ≤ c → c < 256 → Calls Tryz.prog 54 #[.string ⟨#[45, 43, 32, 35, 48]⟩, .int .u8 c] W fun e w' => e = .returned (.int .i64 (Dr.idx Dr.marks c)) ∧ w' = W) := fun c W h0 h1 => idx_any ⟨#[45, 43, 32, 35, 48]⟩ Dr.marks c W rfl h0 h1
  have HS := hid hs
  have HL := hid hl
  have HK := hid hk
  have H := hid h
  have S0 : Hid (Dr.fS 0 (xs.drop k) < 32) := Dr.fS_lt _ (by omega)
  clear hs h hl hk
  go_enter Tryz.func135, Tryz.ntmps135
  go_wp2_with fail
  go_loopg [3] (xs.length - k) (fun m i wr => ∃ (j t : Nat), j + m = xs.length ∧ i = .int .i64 (t : Int) ∧ Hid (RB wr b s j ∧ Oth b w wr ∧ k ≤ j ∧ t < 32 ∧ j + Dr.ct Dr.isF (xs.drop j) = k + Dr.ct Dr.isF (xs.drop k) ∧ Dr.fS t (xs.drop j) = Dr.fS 0 (xs.drop k)))
  case atStart => exact ⟨k, 0, by have := HK.out; omega, rfl, H.out, Oth.refl _ _, by omega, by omega, rfl, rfl⟩
  case round =>
    obtain ⟨j, t, hj, rfl, I⟩ := hrel
    have hx : 0 ≤ Dr.nx xs j ∧ Dr.nx xs j < 256 := HS.out.atb j
    have hjl : (j : Int) ≤ 4611686018427387904 := by have := HL.out; omega
    go_wp2_with fail
    refine (NX.out j wr (by omega) I.out.1).mono ?_
    rintro e w1 ⟨rfl, hB⟩
    have R1 := hid (I.out.1.below hB)
    have O1 := hid (I.out.2.1.trans (Oth.of_below hB))
    clear hB
    go_wp2_with fail
    refine (IX.out _ w1 hx.1 hx.2).mono ?_
    rintro e w2 ⟨rfl, e2⟩
    rw [e2]
    clear e2 w2
    by_cases hf : Dr.isF (Dr.nx xs j) = true
    · have hlt : j < xs.length := Dr.getD_pos (by rcases Dr.isF_cases.1 hf with h | h | h | h | h <;> rw [h] <;> decide)
      obtain ⟨i, hi⟩ : ∃ i : Nat, Dr.idx Dr.marks (Dr.nx xs j) = (i : Int) := ⟨_, (Int.toNat_of_nonneg (by simpa [Dr.isF] using hf)).symm⟩
      have i5 : i < 5 := by have := Dr.idx_lt Dr.marks (Dr.nx xs j); rw [hi] at this; simp [Dr.marks] at this; omega
      have J : Hid (∀ W, RB W b s (j + 1) → Oth b w W → RB W b s (j + 1) ∧ Oth b w W ∧ k ≤ j + 1 ∧ t ||| 2 ^ i < 32 ∧ j + 1 + Dr.ct Dr.isF (xs.drop (j + 1)) = k + Dr.ct Dr.isF (xs.drop k) ∧ Dr.fS (t ||| 2 ^ i) (xs.drop (j + 1)) = Dr.fS 0 (xs.drop k)) := by
        intro W a1 a2
        obtain ⟨_, _, q1, q2, q3, q4⟩ := I.out
        rw [Dr.ct_drop hlt, if_pos hf] at q3
        rw [Dr.fS_drop hlt, if_pos hf, hi] at q4
        exact ⟨a1, a2, by omega, Dr.or_lt q2 i5, by omega, q4⟩
      have T32 := hid I.out.2.2.2.1
      rw [hi]
      have ii : ¬ (i : Int) < 0 := by omega
      clear I hx
      obtain ⟨⟨c0, c1⟩, fz⟩ := R1.out.cells
      have i64 : (i : Int) ≤ 64 := by omega
      go_wp2_with fail
      go_roundg (xs.length - (j + 1))
      case measure => omega
      case rel =>
        refine ⟨j + 1, t ||| 2 ^ i, by omega, ?_, J.out _ (R1.out.set (by go_num)) (O1.out.trans (Oth.set _ _))⟩
        rw [← or_is t i T32.out i5]
    · have K : Hid (FTold b s (xs.drop k) k w (.returned (.int .i64 (t : Int))) w1) := by
        obtain ⟨_, _, q1, q2, q3, q4⟩ := I.out
        have c0 : Dr.ct Dr.isF (xs.drop j) = 0 := Dr.ct_zero (by rw [Dr.head_drop]; simpa using hf)
        have f0 : Dr.fS t (xs.drop j) = t := Dr.fS_stop (by rw [Dr.head_drop]; simpa using hf)
        rw [c0] at q3
        rw [f0] at q4
        exact ⟨by rw [q4], by rw [← q3]; exact R1.out, O1.out⟩
      have ii : Dr.idx Dr.marks (Dr.nx xs j) < 0 := by simpa [Dr.isF] using hf
      generalize Dr.idx Dr.marks (Dr.nx xs j) = i at *
      clear I hx
      go_wp2_with fail
      go_ret
      exact K.out

/-- What number tells. -/
def NTold (b : Nat) (s : ByteArray) (l : List Int) (k : Nat) (w : World) (r : Ending) (w' : World) : Prop := r = .returned (.tuple #[.int .i64 (Dr.nk l), .int .i64 (Dr.nv l), .int .i64 (Dr.ne l)]) ∧ RB w' b s (k + Dr.nu l) ∧ Oth b w w'

theorem Dr.dN_stop {n : Int} {r : List Int} (h : Dr.isD (r.headD 0) = false) : Dr.dN n r = n := by
  cases r with
  | nil => rfl
  | cons c l => rw [Dr.dN, if_neg (by simp only [List.headD_cons] at h; rw [h]; simp)]
theorem dN_bd {n : Int} (l : List Int) (h0 : 0 ≤ n) (h1 : n ≤ 4097) : 0 ≤ Dr.dN n l ∧ Dr.dN n l ≤ 4097 := by
  induction l generalizing n with
  | nil => exact ⟨h0, h1⟩
  | cons c l ih =>
    rw [Dr.dN]
    split
    · rename_i h
      have := Dr.isD_iff.1 h
      exact ih (by omega) (by omega)
    · exact ⟨h0, h1⟩

set_option maxRecDepth 100000 in
theorem number_any (b k : Nat) (s : ByteArray) (xs : List Int) (w : World) (hs : Str s xs) (hk : k ≤ xs.length) (hl : xs.length ≤ 4611686018427387904) (h : RB w b s k) :
    Calls Tryz.prog 136 #[.pointer (some ⟨b, 0, none⟩)] w fun r w' => NTold b s (xs.drop k) k w r w' := by
  have NX : Hid (∀ (j : Nat) (W : World), j ≤ xs.length → RB W b s j → Calls Tryz.prog 83 #[.pointer (some ⟨b, 0, none⟩)] W fun e w' => e = .returned (.int .u8 (Dr.nx xs j)) ∧ Below W.heap.size W w') := fun j W hj hb => next_any b j s xs W hs hj hb
  have HS := hid hs
  have HL := hid hl
  have HK := hid hk
  have H := hid h
  have hkl : (k : Int) ≤ 4611686018427387904 := by omega
  have HH := Dr.head_drop xs k
  clear hs h hl hk
  go_enter Tryz.func136, Tryz.ntmps136
  go_wp2_with fail
  refine (NX.out k w HK.out H.out).mono ?_
  rintro e w1 ⟨rfl, hB⟩
  have R1 := hid (H.out.below hB)
  have O1 : Hid (Oth b w w1) := Oth.of_below hB
  clear hB
  by_cases h42 : Dr.nx xs k = 42
  · have K : Hid (∀ W, RB W b s (k + 1) → Oth b w W → NTold b s (xs.drop k) k w (.returned (.tuple #[.int .i64 2, .int .i64 0, .int .i64 0])) W) := by
      intro W a1 a2
      rw [h42] at HH
      refine ⟨?_, ?_, a2⟩
      · rw [Dr.nk, Dr.nv, Dr.ne, if_pos HH, if_pos HH, if_pos HH]
      · rw [Dr.nu, if_pos HH]; exact a1
    obtain ⟨⟨c0, c1⟩, fz⟩ := R1.out.cells
    clear HH
    go_wp2_with fail
    go_ret3
    exact K.out _ (R1.out.set (by go_num)) (O1.out.trans (Oth.set _ _))
  · rw [← HH] at h42
    have H42 := hid h42
    rw [HH] at h42
    obtain ⟨⟨c0, c1⟩, fz⟩ := R1.out.cells
    clear HH
    go_wp2_with fail
    clear c0 c1 fz h42
    generalize (Dr.nx xs k == 42) = q9
    go_loopg [6] (xs.length - k) (fun m i wr => ∃ (j : Nat) (v : Int), j + m = xs.length ∧ i = .int .i64 v ∧ Hid (RB wr b s j ∧ Oth b w wr ∧ k ≤ j ∧ 0 ≤ v ∧ v ≤ 4097 ∧ j + Dr.ct Dr.isD (xs.drop j) = k + Dr.ct Dr.isD (xs.drop k) ∧ Dr.dN v (xs.drop j) = Dr.dN 0 (xs.drop k)))
    case atStart => exact ⟨k, 0, by have := HK.out; omega, rfl, R1.out, O1.out, by omega, by omega, by omega, rfl, rfl⟩
    case round =>
      obtain ⟨j, v, hj, rfl, I⟩ := hrel
      have hx : 0 ≤ Dr.nx xs j ∧ Dr.nx xs j < 256 := HS.out.atb j
      have hjl : (j : Int) ≤ 4611686018427387904 := by have := HL.out; omega
      have v0 := I.out.2.2.2.1
      have v1 := I.out.2.2.2.2.1
      go_wp2_with fail
      refine (NX.out j wr (by omega) I.out.1).mono ?_
      rintro e w2 ⟨rfl, hB⟩
      have R2 := hid (I.out.1.below hB)
      have O2 := hid (I.out.2.1.trans (Oth.of_below hB))
      clear hB
      by_cases hd : Dr.isD (Dr.nx xs j) = true
      · have hlt : j < xs.length := Dr.getD_pos (by have := Dr.isD_iff.1 hd; omega)
        have J : Hid (∀ W, RB W b s (j + 1) → Oth b w W → RB W b s (j + 1) ∧ Oth b w W ∧ k ≤ j + 1 ∧ 0 ≤ min (10 * v + (Dr.nx xs j - 48)) 4097 ∧ min (10 * v + (Dr.nx xs j - 48)) 4097 ≤ 4097 ∧ j + 1 + Dr.ct Dr.isD (xs.drop (j + 1)) = k + Dr.ct Dr.isD (xs.drop k) ∧ Dr.dN (min (10 * v + (Dr.nx xs j - 48)) 4097) (xs.drop (j + 1)) = Dr.dN 0 (xs.drop k)) := by
          intro W a1 a2
          obtain ⟨_, _, q1, _, _, q3, q4⟩ := I.out
          have := Dr.isD_iff.1 hd
          rw [Dr.ct_drop hlt, if_pos hd] at q3
          rw [Dr.dN_drop hlt, if_pos hd] at q4
          exact ⟨a1, a2, by omega, by omega, by omega, by omega, q4⟩
        have N2 : Hid (∀ W, RB W b s j → Calls Tryz.prog 83 #[.pointer (some ⟨b, 0, none⟩)] W fun e w' => e = .returned (.int .u8 (Dr.nx xs j)) ∧ Below W.heap.size W w') := fun W hb => NX.out j W (by omega) hb
        obtain ⟨d0, d1⟩ := Dr.isD_iff.1 hd
        clear I hd
        generalize Dr.nx xs j = x at *
        have W8 : IntKind.u8.wrap (x - 48) = x - 48 := by rw [IntKind.wrap_u8]; omega
        go_wp2_with fail
        refine (N2.out w2 R2.out).mono ?_
        rintro e w3 ⟨rfl, hB⟩
        have R3 := hid (R2.out.below hB)
        have O3 := hid (O2.out.trans (Oth.of_below hB))
        clear hB
        go_wp2_with fail
        refine (N2.out w3 R3.out).mono ?_
        rintro e w4 ⟨rfl, hB⟩
        have R4 := hid (R3.out.below hB)
        have O4 := hid (O3.out.trans (Oth.of_below hB))
        clear hB
        obtain ⟨⟨c0, c1⟩, fz⟩ := R4.out.cells
        have vb : (-9223372036854775808 : Int) ≤ 10 * v + (x - 48) := by omega
        have vc : 10 * v + (x - 48) ≤ (9223372036854775807 : Int) := by omega
        go_wp2_with fail
        go_roundg (xs.length - (j + 1))
        case measure => omega
        case rel =>
          exact ⟨j + 1, min (10 * v + (x - 48)) 4097, by omega, rfl, J.out _ (R4.out.set (by go_num)) (O4.out.trans (Oth.set _ _))⟩
      · have C0 : Hid (j = k + Dr.ct Dr.isD (xs.drop k) ∧ v = Dr.dN 0 (xs.drop k) ∧ k ≤ j) := by
          obtain ⟨_, _, q1, _, _, q3, q4⟩ := I.out
          have c0 : Dr.ct Dr.isD (xs.drop j) = 0 := Dr.ct_zero (by rw [Dr.head_drop]; simpa using hd)
          have f0 : Dr.dN v (xs.drop j) = v := by
            have := Dr.dN_stop (n := v) (r := xs.drop j) (by rw [Dr.head_drop]; simpa using hd)
            exact this
          rw [c0] at q3
          rw [f0] at q4
          exact ⟨by omega, q4, q1⟩
        have K0 : Hid (j = k → ∀ W, RB W b s j → Oth b w W → NTold b s (xs.drop k) k w (.returned (.tuple #[.int .i64 0, .int .i64 0, .int .i64 0])) W) := by
          intro e W a1 a2
          have c0 : Dr.ct Dr.isD (xs.drop k) = 0 := by have := C0.out.1; omega
          refine ⟨?_, ?_, a2⟩
          · rw [Dr.nk, Dr.nv, Dr.ne, if_neg H42.out, if_neg H42.out, if_neg H42.out, if_pos c0, if_pos c0, if_pos c0]
          · rw [Dr.nu, if_neg H42.out, if_pos c0]; rw [e] at a1; exact a1
        have K1 : Hid (¬ j = k → 4096 < v → ∀ W, RB W b s k → Oth b w W → NTold b s (xs.drop k) k w (.returned (.tuple #[.int .i64 0, .int .i64 0, .int .i64 6])) W) := by
          intro e e2 W a1 a2
          have c0 : ¬ Dr.ct Dr.isD (xs.drop k) = 0 := by have := C0.out.1; omega
          rw [C0.out.2.1] at e2
          refine ⟨?_, ?_, a2⟩
          · rw [Dr.nk, Dr.nv, Dr.ne, if_neg H42.out, if_neg H42.out, if_neg H42.out, if_neg c0, if_neg c0, if_neg c0, if_pos e2, if_pos e2, if_pos e2]
          · rw [Dr.nu, if_neg H42.out, if_neg c0, if_pos e2]; exact a1
        have K2 : Hid (¬ j = k → ¬ 4096 < v → ∀ W, RB W b s j → Oth b w W → NTold b s (xs.drop k) k w (.returned (.tuple #[.int .i64 1, .int .i64 v, .int .i64 0])) W) := by
          intro e e2 W a1 a2
          have c0 : ¬ Dr.ct Dr.isD (xs.drop k) = 0 := by have := C0.out.1; omega
          have hv := C0.out.2.1
          rw [hv] at e2 ⊢
          refine ⟨?_, ?_, a2⟩
          · rw [Dr.nk, Dr.nv, Dr.ne, if_neg H42.out, if_neg H42.out, if_neg H42.out, if_neg c0, if_neg c0, if_neg c0, if_neg e2, if_neg e2, if_neg e2]
          · rw [Dr.nu, if_neg H42.out, if_neg c0, if_neg e2, ← C0.out.1]; exact a1
        have N2 : Hid (∀ W, RB W b s j → Calls Tryz.prog 83 #[.pointer (some ⟨b, 0, none⟩)] W fun e w' => e = .returned (.int .u8 (Dr.nx xs j)) ∧ Below W.heap.size W w') := fun W hb => NX.out j W (by omega) hb
        have hd2 : ¬ (48 ≤ Dr.nx xs j ∧ Dr.nx xs j ≤ 57) := fun q => hd (Dr.isD_iff.2 q)
        have kj := C0.out.2.2
        clear I hd C0
        generalize Dr.nx xs j = x at *
        by_cases d0 : 48 ≤ x
        · have d1 : ¬ x ≤ 57 := fun q => hd2 ⟨d0, q⟩
          clear hd2
          go_wp2_with fail
          refine (N2.out w2 R2.out).mono ?_
          rintro e w3 ⟨rfl, hB⟩
          have R3 := hid (R2.out.below hB)
          have O3 := hid (O2.out.trans (Oth.of_below hB))
          clear hB
          obtain ⟨⟨c0, c1⟩, fz⟩ := R3.out.cells
          by_cases hjk : j = k
          · have hjk2 : (j : Int) = (k : Int) := by omega
            go_wp2_with fail
            go_ret3
            exact K0.out hjk _ R3.out O3.out
          · have hjk2 : ¬ (j : Int) = (k : Int) := by omega
            by_cases hv : 4096 < v
            · go_wp2_with fail
              go_ret3
              exact K1.out hjk hv _ (R3.out.set rfl) (O3.out.trans (Oth.set _ _))
            · go_wp2_with fail
              go_ret3
              exact K2.out hjk hv _ R3.out O3.out
        · clear hd2
          obtain ⟨⟨c0, c1⟩, fz⟩ := R2.out.cells
          by_cases hjk : j = k
          · have hjk2 : (j : Int) = (k : Int) := by omega
            go_wp2_with fail
            go_ret3
            exact K0.out hjk _ R2.out O2.out
          · have hjk2 : ¬ (j : Int) = (k : Int) := by omega
            by_cases hv : 4096 < v
            · go_wp2_with fail
              go_ret3
              exact K1.out hjk hv _ (R2.out.set rfl) (O2.out.trans (Oth.set _ _))
            · go_wp2_with fail
              go_ret3
              exact K2.out hjk hv _ R2.out O2.out
end Go.Proofs.YtiflponlioldmaaGreatDoor

namespace Go.Proofs.YtiflponlioldmaaGreatDoor
open Go Go.RowKit Go.Deep Go.Shelf

theorem dset1 {w : World} {b o t : Nat} {v : Value} {c c' : Array Value} (h : w.heap[b]? = some (.cells c t (0, 0))) (e : c.setIfInBounds o v = c') : (w.setCell ⟨b, o, none⟩ v).heap[b]? = some (.cells c' t (0, 0)) := by
  subst e
  simp [World.setCell, Array.getElem?_modify, h]

/-- Seven cells that may be written. -/
def P7 (w : World) (b : Nat) (v0 v1 v2 v3 v4 v5 v6 : Value) : Prop := w.heap[b]? = some (.cells #[v0, v1, v2, v3, v4, v5, v6] 39 (0, 0))
theorem P7.new (w : World) (v0 v1 v2 v3 v4 v5 v6 : Value) : P7 (w.alloc (.cells #[v0, v1, v2, v3, v4, v5, v6] 39)) w.heap.size v0 v1 v2 v3 v4 v5 v6 := heap_alloc_new w _
theorem P7.lt {w : World} {b : Nat} {v0 v1 v2 v3 v4 v5 v6 : Value} (h : P7 w b v0 v1 v2 v3 v4 v5 v6) : b < w.heap.size := by
  rcases Nat.lt_or_ge b w.heap.size with hl | hl
  · exact hl
  · simp [P7, Array.getElem?_eq_none hl] at h
theorem P7.below {w w' : World} {b : Nat} {v0 v1 v2 v3 v4 v5 v6 : Value} (h : P7 w b v0 v1 v2 v3 v4 v5 v6) (hB : Below w.heap.size w w') : P7 w' b v0 v1 v2 v3 v4 v5 v6 := by
  rw [P7, hB.block b h.lt]; exact h
theorem P7.oth {w w' : World} {g b : Nat} {v0 v1 v2 v3 v4 v5 v6 : Value} (h : P7 w b v0 v1 v2 v3 v4 v5 v6) (k : Oth g w w') (hg : b ≠ g) : P7 w' b v0 v1 v2 v3 v4 v5 v6 := by
  rw [P7, k.block b h.lt hg]; exact h
theorem P7.cells {w : World} {b : Nat} {v0 v1 v2 v3 v4 v5 v6 : Value} (h : P7 w b v0 v1 v2 v3 v4 v5 v6) :
    (w.cell? ⟨b, 0, none⟩ = some v0 ∧ w.cell? ⟨b, 1, none⟩ = some v1 ∧ w.cell? ⟨b, 2, none⟩ = some v2 ∧ w.cell? ⟨b, 3, none⟩ = some v3 ∧ w.cell? ⟨b, 4, none⟩ = some v4 ∧ w.cell? ⟨b, 5, none⟩ = some v5 ∧ w.cell? ⟨b, 6, none⟩ = some v6) ∧
    (w.frozen? ⟨b, 0, none⟩ = false ∧ w.frozen? ⟨b, 1, none⟩ = false ∧ w.frozen? ⟨b, 2, none⟩ = false ∧ w.frozen? ⟨b, 3, none⟩ = false ∧ w.frozen? ⟨b, 4, none⟩ = false ∧ w.frozen? ⟨b, 5, none⟩ = false ∧ w.frozen? ⟨b, 6, none⟩ = false) := by
  simp only [P7] at h
  refine ⟨⟨?_, ?_, ?_, ?_, ?_, ?_, ?_⟩, ⟨?_, ?_, ?_, ?_, ?_, ?_, ?_⟩⟩ <;> simp [World.cell?, World.frozen?, h]
theorem P7.far {w : World} {b c o : Nat} {v v0 v1 v2 v3 v4 v5 v6 : Value} (h : P7 w b v0 v1 v2 v3 v4 v5 v6) (hc : c ≠ b) : P7 (w.setCell ⟨c, o, none⟩ v) b v0 v1 v2 v3 v4 v5 v6 := by
  simp only [P7] at *
  simp only [World.setCell, Array.getElem?_modify]
  rw [if_neg hc]; exact h
theorem P7.s1 {w : World} {b : Nat} {v v0 v1 v2 v3 v4 v5 v6 : Value} (h : P7 w b v0 v1 v2 v3 v4 v5 v6) : P7 (w.setCell ⟨b, 1, none⟩ v) b v0 v v2 v3 v4 v5 v6 := dset1 h rfl
theorem P7.s2 {w : World} {b : Nat} {v v0 v1 v2 v3 v4 v5 v6 : Value} (h : P7 w b v0 v1 v2 v3 v4 v5 v6) : P7 (w.setCell ⟨b, 2, none⟩ v) b v0 v1 v v3 v4 v5 v6 := dset1 h rfl
theorem P7.s3 {w : World} {b : Nat} {v v0 v1 v2 v3 v4 v5 v6 : Value} (h : P7 w b v0 v1 v2 v3 v4 v5 v6) : P7 (w.setCell ⟨b, 3, none⟩ v) b v0 v1 v2 v v4 v5 v6 := dset1 h rfl
theorem P7.s4 {w : World} {b : Nat} {v v0 v1 v2 v3 v4 v5 v6 : Value} (h : P7 w b v0 v1 v2 v3 v4 v5 v6) : P7 (w.setCell ⟨b, 4, none⟩ v) b v0 v1 v2 v3 v v5 v6 := dset1 h rfl
theorem P7.s5 {w : World} {b : Nat} {v v0 v1 v2 v3 v4 v5 v6 : Value} (h : P7 w b v0 v1 v2 v3 v4 v5 v6) : P7 (w.setCell ⟨b, 5, none⟩ v) b v0 v1 v2 v3 v4 v v6 := dset1 h rfl
theorem P7.s6 {w : World} {b : Nat} {v v0 v1 v2 v3 v4 v5 v6 : Value} (h : P7 w b v0 v1 v2 v3 v4 v5 v6) : P7 (w.setCell ⟨b, 6, none⟩ v) b v0 v1 v2 v3 v4 v5 v := dset1 h rfl
theorem P7.put {w : World} {b : Nat} {v0 v1 v2 v3 v4 v5 v6 : Value} (h : P7 w b v0 v1 v2 v3 v4 v5 v6) (u0 u1 u2 u3 u4 u5 u6 : Value) :
    P7 (((((((w.setCell ⟨b, 0, none⟩ u0).setCell ⟨b, 1, none⟩ u1).setCell ⟨b, 2, none⟩ u2).setCell ⟨b, 3, none⟩ u3).setCell ⟨b, 4, none⟩ u4).setCell ⟨b, 5, none⟩ u5).setCell ⟨b, 6, none⟩ u6) b u0 u1 u2 u3 u4 u5 u6 := by
  have h0 : P7 (w.setCell ⟨b, 0, none⟩ u0) b u0 v1 v2 v3 v4 v5 v6 := dset1 h rfl
  exact h0.s1.s2.s3.s4.s5.s6

theorem RB.far {w : World} {b c o k : Nat} {s : ByteArray} {v : Value} (h : RB w b s k) (hc : c ≠ b) : RB (w.setCell ⟨c, o, none⟩ v) b s k := by
  simp only [RB] at *
  simp only [World.setCell, Array.getElem?_modify]
  rw [if_neg hc]; exact h

/-- The state of a reading function: the reader, what has stayed, the result's box, the piece's box. -/
structure DS (w : World) (b : Nat) (s : ByteArray) (j : Nat) (v0 v1 v2 v3 v4 v5 v6 : Value) (wx : World) : Prop where
  rb : RB wx b s j
  bl : b < w.heap.size
  os : wx.os = w.os
  tape : wx.tape = w.tape
  output : wx.output = w.output
  size : w.heap.size ≤ wx.heap.size
  block : ∀ j, j < w.heap.size → j ≠ b → wx.heap[j]? = w.heap[j]?
  res : P7 wx w.heap.size (.string ⟨#[]⟩) (.int .u8 0) (.int .i64 0) (.int .i64 0) (.int .i64 0) (.int .i64 0) (.int .i64 0)
  box : P7 wx (w.heap.size + 1) v0 v1 v2 v3 v4 v5 v6

theorem DS.call {w wx wy : World} {b j j' : Nat} {s : ByteArray} {v0 v1 v2 v3 v4 v5 v6 : Value} (h : DS w b s j v0 v1 v2 v3 v4 v5 v6 wx) (r : RB wy b s j') (k : Oth b wx wy) : DS w b s j' v0 v1 v2 v3 v4 v5 v6 wy :=
  have := h.bl
  ⟨r, h.bl, k.os.trans h.os, k.tape.trans h.tape, k.output.trans h.output, Nat.le_trans h.size k.size, fun i hi hb => (k.block i (Nat.lt_of_lt_of_le hi h.size) hb).trans (h.block i hi hb), h.res.oth k (by omega), h.box.oth k (by omega)⟩
theorem DS.set {w wx : World} {b j o : Nat} {s : ByteArray} {v v0 v1 v2 v3 v4 v5 v6 u0 u1 u2 u3 u4 u5 u6 : Value} (h : DS w b s j v0 v1 v2 v3 v4 v5 v6 wx) (k : P7 wx (w.heap.size + 1) v0 v1 v2 v3 v4 v5 v6 → P7 (wx.setCell ⟨w.heap.size + 1, o, none⟩ v) (w.heap.size + 1) u0 u1 u2 u3 u4 u5 u6) : DS w b s j u0 u1 u2 u3 u4 u5 u6 (wx.setCell ⟨w.heap.size + 1, o, none⟩ v) := by
  have hb := h.bl
  refine ⟨h.rb.far (by omega), h.bl, h.os, h.tape, h.output, by simp [World.setCell]; exact h.size, fun i hi hne => ?_, h.res.far (by omega), k h.box⟩
  rw [← h.block i hi hne]
  simp only [World.setCell, Array.getElem?_modify]
  rw [if_neg (by omega)]
theorem DS.oth {w wx : World} {b j : Nat} {s : ByteArray} {v0 v1 v2 v3 v4 v5 v6 : Value} (h : DS w b s j v0 v1 v2 v3 v4 v5 v6 wx) : Oth b w wx := ⟨h.os, h.tape, h.output, h.size, h.block⟩
theorem Oth.far {w wx : World} {g b o : Nat} {v : Value} (h : Oth b w wx) (hg : w.heap.size ≤ g) : Oth b w (wx.setCell ⟨g, o, none⟩ v) := by
  refine ⟨h.os, h.tape, h.output, by simp [World.setCell]; exact h.size, fun i hi hne => ?_⟩
  rw [← h.block i hi hne]
  simp only [World.setCell, Array.getElem?_modify]
  rw [if_neg (by omega)]
/-- The end: the result's box is written. -/
theorem DS.fin {w wx : World} {b j : Nat} {s : ByteArray} {v0 v1 v2 v3 v4 v5 v6 : Value} (h : DS w b s j v0 v1 v2 v3 v4 v5 v6 wx) (u0 u1 u2 u3 u4 u5 u6 : Value) :
    P7 (((((((wx.setCell ⟨w.heap.size, 0, none⟩ u0).setCell ⟨w.heap.size, 1, none⟩ u1).setCell ⟨w.heap.size, 2, none⟩ u2).setCell ⟨w.heap.size, 3, none⟩ u3).setCell ⟨w.heap.size, 4, none⟩ u4).setCell ⟨w.heap.size, 5, none⟩ u5).setCell ⟨w.heap.size, 6, none⟩ u6) w.heap.size u0 u1 u2 u3 u4 u5 u6 ∧
    RB (((((((wx.setCell ⟨w.heap.size, 0, none⟩ u0).setCell ⟨w.heap.size, 1, none⟩ u1).setCell ⟨w.heap.size, 2, none⟩ u2).setCell ⟨w.heap.size, 3, none⟩ u3).setCell ⟨w.heap.size, 4, none⟩ u4).setCell ⟨w.heap.size, 5, none⟩ u5).setCell ⟨w.heap.size, 6, none⟩ u6) b s j ∧
    Oth b w (((((((wx.setCell ⟨w.heap.size, 0, none⟩ u0).setCell ⟨w.heap.size, 1, none⟩ u1).setCell ⟨w.heap.size, 2, none⟩ u2).setCell ⟨w.heap.size, 3, none⟩ u3).setCell ⟨w.heap.size, 4, none⟩ u4).setCell ⟨w.heap.size, 5, none⟩ u5).setCell ⟨w.heap.size, 6, none⟩ u6) := by
  have hb := h.bl
  have ne : w.heap.size ≠ b := by omega
  have le : w.heap.size ≤ w.heap.size := Nat.le_refl _
  exact ⟨h.res.put _ _ _ _ _ _ _, ((((((h.rb.far ne).far ne).far ne).far ne).far ne).far ne).far ne, ((((((h.oth.far le).far le).far le).far le).far le).far le).far le⟩

/-- A piece's cells. -/
def pcv (p : Dr.Pc) : Array Value := #[.string (strOfNums p.t), .int .u8 p.v, .int .i64 p.fl, .int .i64 p.wk, .int .i64 p.wd, .int .i64 p.pk, .int .i64 p.pr]
theorem str_nil1 : strOfNums [] = ⟨#[]⟩ := rfl
theorem pcv_no : pcv Dr.Pc.no = #[.string ⟨#[]⟩, .int .u8 0, .int .i64 0, .int .i64 0, .int .i64 0, .int .i64 0, .int .i64 0] := rfl

/-- What precision tells. -/
def PTold (b : Nat) (s : ByteArray) (l : List Int) (k : Nat) (w : World) (r : Ending) (w' : World) : Prop := r = .returned (.tuple #[.int .i64 (Dr.pk l), .int .i64 (Dr.pv l), .int .i64 (Dr.pe l)]) ∧ RB w' b s (k + Dr.pu l) ∧ Oth b w w'

set_option maxRecDepth 100000 in
theorem precision_any (b k : Nat) (s : ByteArray) (xs : List Int) (w : World) (hs : Str s xs) (hk : k ≤ xs.length) (hl : xs.length ≤ 4611686018427387904) (h : RB w b s k) :
    Calls Tryz.prog 137 #[.pointer (some ⟨b, 0, none⟩)] w fun r w' => PTold b s (xs.drop k) k w r w' := by
  have N := hid (next_any b k s xs w hs hk h)
  have HH : Hid ((xs.drop k).headD 0 = Dr.nx xs k) := Dr.head_drop xs k
  have hkl : (k : Int) ≤ 4611686018427387904 := by omega
  have H := hid h
  by_cases h46 : Dr.nx xs k = 46
  · have hlt : k < xs.length := Dr.getD_pos (by rw [h46]; decide)
    have NU : Hid (∀ W, RB W b s (k + 1) → Calls Tryz.prog 136 #[.pointer (some ⟨b, 0, none⟩)] W fun r w' => r = .returned (.tuple #[.int .i64 (Dr.nk (xs.drop (k + 1))), .int .i64 (Dr.nv (xs.drop (k + 1))), .int .i64 (Dr.ne (xs.drop (k + 1)))]) ∧ RB w' b s (k + 1 + Dr.nu (xs.drop (k + 1))) ∧ Oth b W w') := fun W hb => number_any b (k + 1) s xs W hs (by omega) hl hb
    have tl : (xs.drop k).tail = xs.drop (k + 1) := by rw [List.tail_drop]
    have KK : Hid (∀ (r : Int) W, r = (if Dr.ne (xs.drop (k + 1)) = 0 ∧ Dr.nk (xs.drop (k + 1)) = 0 then 1 else Dr.nk (xs.drop (k + 1))) → RB W b s (k + 1 + Dr.nu (xs.drop (k + 1))) → Oth b w W → PTold b s (xs.drop k) k w (.returned (.tuple #[.int .i64 r, .int .i64 (Dr.nv (xs.drop (k + 1))), .int .i64 (Dr.ne (xs.drop (k + 1)))])) W) := by
      intro r W e a1 a2
      have hh := HH.out
      rw [h46] at hh
      refine ⟨?_, ?_, a2⟩
      · rw [Dr.pk, Dr.pv, Dr.pe, if_pos hh, if_pos hh, if_pos hh, tl, e]
      · rw [Dr.pu, if_pos hh, tl, ← Nat.add_assoc]; exact a1
    rw [h46] at N
    clear HH h46 hs h hlt tl
    generalize Dr.nk (xs.drop (k + 1)) = K1 at *
    generalize Dr.nv (xs.drop (k + 1)) = V1 at *
    generalize Dr.ne (xs.drop (k + 1)) = E1 at *
    generalize k + 1 + Dr.nu (xs.drop (k + 1)) = j1 at *
    go_enter Tryz.func137, Tryz.ntmps137
    go_wp2_with fail
    refine N.out.mono ?_
    rintro e w1 ⟨rfl, hB⟩
    have R1 := hid (H.out.below hB)
    have O1 : Hid (Oth b w w1) := Oth.of_below hB
    clear hB
    obtain ⟨⟨c0, c1⟩, fz⟩ := R1.out.cells
    go_wp2_with fail
    refine (NU.out _ (R1.out.set (by go_num))).mono ?_
    rintro e w2 ⟨rfl, r2, o2⟩
    have R2 := hid r2
    have O2 := hid ((O1.out.trans (Oth.set _ _)).trans o2)
    clear r2 o2 c0 c1 fz
    by_cases e1 : E1 = 0
    · subst e1
      by_cases k1 : K1 = 0
      · subst k1
        go_wp2_with fail
        go_ret3
        exact KK.out 1 _ (by simp) R2.out O2.out
      · go_wp2_with fail
        go_ret3
        exact KK.out K1 _ (by simp [k1]) R2.out O2.out
    · go_wp2_with fail
      go_ret3
      exact KK.out K1 _ (by simp [e1]) R2.out O2.out
  · have KK : Hid (∀ W, RB W b s k → Oth b w W → PTold b s (xs.drop k) k w (.returned (.tuple #[.int .i64 0, .int .i64 0, .int .i64 0])) W) := by
      intro W a1 a2
      have hh : ¬ (xs.drop k).headD 0 = 46 := by rw [HH.out]; exact h46
      refine ⟨?_, ?_, a2⟩
      · rw [Dr.pk, Dr.pv, Dr.pe, if_neg hh, if_neg hh, if_neg hh]
      · rw [Dr.pu, if_neg hh]; exact a1
    clear HH hs h
    generalize Dr.nx xs k = x at *
    go_enter Tryz.func137, Tryz.ntmps137
    go_wp2_with fail
    refine N.out.mono ?_
    rintro e w1 ⟨rfl, hB⟩
    have R1 := hid (H.out.below hB)
    have O1 : Hid (Oth b w w1) := Oth.of_below hB
    clear hB
    go_wp2_with fail
    go_ret3
    exact KK.out _ R1.out O1.out

/-- What verb tells. -/
def VTold (b : Nat) (s : ByteArray) (l : List Int) (k : Nat) (w : World) (r : Ending) (w' : World) : Prop := r = .returned (.tuple #[.int .u8 (Dr.vv l), .int .i64 (Dr.ve l)]) ∧ RB w' b s (k + Dr.vu l) ∧ Oth b w w'

theorem Oth.drew {g : Nat} {a b : World} (h : Oth g a b) (n : Nat) : Oth g a (b.drewN n) := ⟨h.os, h.tape, h.output, h.size, h.block⟩

set_option maxRecDepth 100000 in
theorem verb_any (b k : Nat) (s : ByteArray) (xs : List Int) (w : World) (hs : Str s xs) (hk : k ≤ xs.length) (hl : xs.length ≤ 4611686018427387904) (h : RB w b s k) :
    Calls Tryz.prog 138 #[.pointer (some ⟨b, 0, none⟩)] w fun r w' => VTold b s (xs.drop k) k w r w' := by
  have N := hid (next_any b k s xs w hs hk h)
  have IX : Hid (∀ (c : Int) (W : World), 0 ≤ c → c < 256 → Calls Tryz.prog 54 #[.string ⟨#[100, 105, 111, 117, 120, 88, 99, 115, 101, 69, 102, 70, 103, 71]⟩, .int .u8 c] W fun e w' => e = .returned (.int .i64 (Dr.idx Dr.verbs c)) ∧ w' = W) := fun c W h0 h1 => idx_any ⟨#[100, 105, 111, 117, 120, 88, 99, 115, 101, 69, 102, 70, 103, 71]⟩ Dr.verbs c W rfl h0 h1
  have HH : Hid ((xs.drop k).headD 0 = Dr.nx xs k) := Dr.head_drop xs k
  have hkl : (k : Int) ≤ 4611686018427387904 := by omega
  have hx : 0 ≤ Dr.nx xs k ∧ Dr.nx xs k < 256 := hs.atb k
  obtain ⟨x0, x1⟩ := hx
  have hsz := hs.size
  have H := hid h
  have E : Hid (∀ W, xs.drop k = [] → RB W b s k → Oth b w W → VTold b s (xs.drop k) k w (.returned (.tuple #[.int .u8 0, .int .i64 131])) W) := by
    intro W e a1 a2
    have ev : Dr.ve (xs.drop k) = 131 := by rw [Dr.ve, if_pos e]
    exact ⟨by rw [Dr.vv, ev]; rfl, by rw [Dr.vu, ev]; exact a1, a2⟩
  have E2 : Hid (∀ W, ¬ xs.drop k = [] → Dr.idx Dr.verbs (Dr.nx xs k) < 0 → RB W b s k → Oth b w W → VTold b s (xs.drop k) k w (.returned (.tuple #[.int .u8 0, .int .i64 130])) W) := by
    intro W e e2 a1 a2
    have ev : Dr.ve (xs.drop k) = 130 := by rw [Dr.ve, if_neg e, HH.out, if_pos e2]
    exact ⟨by rw [Dr.vv, ev]; rfl, by rw [Dr.vu, ev]; exact a1, a2⟩
  have E3 : Hid (∀ W, ¬ xs.drop k = [] → ¬ Dr.idx Dr.verbs (Dr.nx xs k) < 0 → RB W b s (k + 1) → Oth b w W → VTold b s (xs.drop k) k w (.returned (.tuple #[.int .u8 (Dr.nx xs k), .int .i64 0])) W) := by
    intro W e e2 a1 a2
    have ev : Dr.ve (xs.drop k) = 0 := by rw [Dr.ve, if_neg e, HH.out, if_neg e2]
    exact ⟨by rw [Dr.vv, ev, HH.out]; rfl, by rw [Dr.vu, ev]; exact a1, a2⟩
  have dn : xs.drop k = [] ↔ xs.length ≤ k := List.drop_eq_nil_iff
  have I1 := hid (IX.out (Dr.nx xs k))
  clear HH hs h IX
  generalize Dr.nx xs k = x at *
  generalize Dr.idx Dr.verbs x = i at *
  by_cases he : k = xs.length
  · have F := hid (fun W => E.out W (dn.2 (by omega)))
    have he2 : (k : Int) = (xs.length : Int) := by omega
    clear E E2 E3 dn he hk hl I1
    go_enter Tryz.func138, Tryz.ntmps138
    go_wp2_with fail
    refine N.out.mono ?_
    rintro e w1 ⟨rfl, hB⟩
    have R1 := hid (H.out.below hB)
    have O1 : Hid (Oth b w w1) := Oth.of_below hB
    obtain ⟨⟨c0, c1⟩, fz⟩ := R1.out.cells
    clear hB
    go_wp2_with fail
    go_quiet (fail)
    go_wp2_with fail
    go_ret2
    exact F.out _ R1.out (O1.out.drew _)
  · have ne : ¬ xs.drop k = [] := fun q => by have := dn.1 q; omega
    have he2 : ¬ (k : Int) = (xs.length : Int) := by omega
    have F2 := hid (fun W => E2.out W ne)
    have F3 := hid (fun W => E3.out W ne)
    clear E E2 E3 dn he hk hl ne
    go_enter Tryz.func138, Tryz.ntmps138
    go_wp2_with fail
    refine N.out.mono ?_
    rintro e w1 ⟨rfl, hB⟩
    have R1 := hid (H.out.below hB)
    have O1 : Hid (Oth b w w1) := Oth.of_below hB
    obtain ⟨⟨c0, c1⟩, fz⟩ := R1.out.cells
    clear hB
    go_wp2_with fail
    go_quiet (fail)
    have R2 : Hid (RB (w1.drewN nq) b s k) := R1.out
    have O2 := hid (O1.out.drew nq)
    generalize w1.drewN nq = w2 at *
    obtain ⟨⟨c0, c1⟩, fz⟩ := R2.out.cells
    by_cases hi : i < 0
    · go_wp2_with fail
      refine (I1.out w2 x0 x1).mono ?_
      rintro e w3 ⟨rfl, e3⟩
      rw [e3]
      go_wp2_with fail
      go_ret2
      exact F2.out _ hi R2.out O2.out
    · go_wp2_with fail
      refine (I1.out w2 x0 x1).mono ?_
      rintro e w3 ⟨rfl, e3⟩
      rw [e3]
      clear e3
      go_wp2_with fail
      go_ret2
      exact F3.out _ hi (R2.out.set (by go_num)) (O2.out.trans (Oth.set _ _))
end Go.Proofs.YtiflponlioldmaaGreatDoor

namespace Go.Proofs.YtiflponlioldmaaGreatDoor
open Go Go.RowKit Go.Deep Go.Shelf

namespace Dr
theorem ct_idx (l : List Int) : ct isX l = if idx l 37 < 0 then l.length else (idx l 37).toNat := by
  induction l with
  | nil => rfl
  | cons c l ih =>
    have := idx_ge l 37
    rw [ct, idx, ih]
    by_cases h : c = 37
    · subst h; rfl
    · rw [if_pos (by simp [isX, h]), if_neg h]
      by_cases k : idx l 37 < 0
      · rw [if_pos k, if_pos k, if_pos (by decide), List.length_cons]
      · rw [if_neg k, if_neg k, if_neg (by omega)]; omega
end Dr

theorem str_of {s : ByteArray} {xs : List Int} (h : Str s xs) : s = strOfNums xs := h.inj (Str.of_nums (fun _ hx => h.mem hx))

/-- What text tells. -/
def TTold (b : Nat) (s : ByteArray) (l : List Int) (k : Nat) (w : World) (r : Ending) (w' : World) : Prop := r = .returned (.string (strOfNums (l.take (Dr.ct Dr.isX l)))) ∧ RB w' b s (k + Dr.ct Dr.isX l) ∧ Oth b w w'

set_option maxRecDepth 100000 in
theorem dtext_any (b k : Nat) (s : ByteArray) (xs : List Int) (w : World) (hs : Str s xs) (hk : k ≤ xs.length) (hl : xs.length ≤ 281474976710656) (h : RB w b s k) :
    Calls Tryz.prog 84 #[.pointer (some ⟨b, 0, none⟩)] w fun r w' => TTold b s (xs.drop k) k w r w' := by
  have hsz := hs.size
  obtain ⟨⟨c0, c1⟩, fz⟩ := h.cells
  have h1 := hs.extract k xs.length
  rw [List.take_of_length_le (by simp)] at h1
  have h1s := h1.size
  rw [List.length_drop] at h1s
  have IX := hid (fun W => idx_any (s.extract k xs.length) (xs.drop k) 37 W h1 (by omega) (by omega))
  have CT := Dr.ct_idx (xs.drop k)
  have IG := Dr.idx_ge (xs.drop k) 37
  have IL := Dr.idx_lt (xs.drop k) 37
  rw [List.length_drop] at IL CT
  have TK : Hid (∀ (m : Nat) W, m = Dr.ct Dr.isX (xs.drop k) → RB W b s (k + m) → Oth b w W → TTold b s (xs.drop k) k w (.returned (.string (strOfNums ((xs.drop k).take m)))) W) := by
    intro m W e a1 a2
    subst e
    exact ⟨rfl, a1, a2⟩
  have kl : (k : Int) ≤ (xs.length : Int) := by omega
  have xl : (xs.length : Int) ≤ 281474976710656 := by omega
  have R0 : Hid (∀ n, RB (w.drewN n) b s k) := fun n => h
  have O0 : Hid (∀ n, Oth b w (w.drewN n)) := fun n => (Oth.refl b w).drew n
  have bl := h.lt
  by_cases hi : Dr.idx (xs.drop k) 37 < 0
  · rw [if_pos hi] at CT
    have TK2 := hid (fun W => TK.out (xs.length - k) W CT.symm)
    have e1 : strOfNums ((xs.drop k).take (xs.length - k)) = s.extract k xs.length := by
      rw [List.take_of_length_le (by simp)]; exact (str_of h1).symm
    rw [e1] at TK2
    have CL := hid (fun W => vclone_any (s.extract k xs.length) W (by omega))
    clear hs h h1 TK CT IG IL e1 hk hl
    generalize Dr.idx (xs.drop k) 37 = i at *
    go_enter Tryz.func84, Tryz.ntmps84
    go_wp2_with fail
    go_quiet (fail)
    have R1 := hid (R0.out nq)
    have O1 := hid (O0.out nq)
    generalize w.drewN nq = w1 at *
    clear R0 O0 c0 c1 fz
    go_wp2_with fail
    refine (IX.out w1).mono ?_
    rintro e w2 ⟨rfl, e2⟩
    rw [e2]
    clear e2 w2
    obtain ⟨⟨c0, c1⟩, fz⟩ := R1.out.cells
    generalize s.extract k xs.length = t at *
    have ts : (k : Int) + ((xs.length - k : Nat) : Int) ≤ 281474976710656 := by omega
    generalize xs.length - k = m at *
    have R2 := hid (R1.out.set (j := k + m) (v := (k : Int) + (m : Int)) (by omega))
    have O2 : Hid (Oth b w (w1.setCell ⟨b, 1, none⟩ (.int .i64 ((k : Int) + (m : Int))))) := O1.out.trans (Oth.set _ _)
    go_wp2_with fail
    refine (CL.out _).mono ?_
    rintro e w3 ⟨rfl, hB⟩
    have R3 := hid (R2.out.below hB)
    have O3 : Hid (Oth b w w3) := O2.out.trans (Oth.of_below hB)
    clear hB
    go_wp2_with fail
    go_ret
    exact TK2.out _ R3.out O3.out
  · rw [if_neg hi] at CT
    obtain ⟨m, hm⟩ : ∃ m : Nat, Dr.idx (xs.drop k) 37 = (m : Int) := ⟨_, (Int.toNat_of_nonneg (by omega)).symm⟩
    rw [hm] at CT IL IX
    rw [Int.toNat_natCast] at CT
    have TK2 := hid (fun W => TK.out m W CT.symm)
    have h2 := h1.extract 0 m
    rw [List.drop_zero, Nat.sub_zero] at h2
    have h2s := h2.size
    rw [List.length_take, List.length_drop] at h2s
    rw [← str_of h2] at TK2
    have CL := hid (fun W => vclone_any ((s.extract k xs.length).extract 0 m) W (by omega))
    have h2t : ((s.extract k xs.length).extract 0 m).size = m := by omega
    have ml : (m : Int) ≤ ((s.extract k xs.length).size : Int) := by omega
    have mk : (k : Int) + (m : Int) ≤ 281474976710656 := by omega
    clear hs h h1 TK CT IG IL hk hl hi hm h2 h2s h1s
    go_enter Tryz.func84, Tryz.ntmps84
    go_wp2_with fail
    go_quiet (fail)
    have R1 := hid (R0.out nq)
    have O1 := hid (O0.out nq)
    generalize w.drewN nq = w1 at *
    clear R0 O0 c0 c1 fz
    go_wp2_with fail
    refine (IX.out w1).mono ?_
    rintro e w2 ⟨rfl, e2⟩
    rw [e2]
    clear e2 w2
    obtain ⟨⟨c0, c1⟩, fz⟩ := R1.out.cells
    generalize s.extract k xs.length = t at *
    have R2 := hid (R1.out.set (j := k + m) (v := (k : Int) + (m : Int)) (by omega))
    have O2 : Hid (Oth b w (w1.setCell ⟨b, 1, none⟩ (.int .i64 ((k : Int) + (m : Int))))) := O1.out.trans (Oth.set _ _)
    go_wp2_with fail
    refine (CL.out _).mono ?_
    rintro e w3 ⟨rfl, hB⟩
    have R3 := hid (R2.out.below hB)
    have O3 : Hid (Oth b w w3) := O2.out.trans (Oth.of_below hB)
    clear hB
    go_wp2_with fail
    go_ret
    exact TK2.out _ R3.out O3.out
end Go.Proofs.YtiflponlioldmaaGreatDoor

namespace Go.Proofs.YtiflponlioldmaaGreatDoor
open Go Go.RowKit Go.Deep Go.Shelf

theorem dec_of {p : Prop} [Decidable p] {b : Bool} (h : p ↔ b = true) : decide p = b := by
  cases b with
  | true => exact decide_eq_true (h.2 rfl)
  | false => exact decide_eq_false (fun q => Bool.false_ne_true (h.1 q))

theorem isnum_any (k n l : Int) (w : World) : Calls Tryz.prog 91 #[.int .i64 k, .int .i64 n, .int .i64 l] w fun e w' => e = .returned (.bool (decide (Dr.num k n l))) ∧ w' = w := by
  by_cases h0 : k = 0
  · have e : decide (Dr.num k n l) = (n == 0) := by
      exact dec_of (by unfold Dr.num; by_cases h : n = 0 <;> simp [h0, h])
    rw [e]
    subst h0
    go_enter Tryz.func91, Tryz.ntmps91
    go_wp2_with fail
    go_ret
    exact ⟨rfl, rfl⟩
  · by_cases h2 : k = 2
    · have e : decide (Dr.num k n l) = (n == 0) := by
        exact dec_of (by unfold Dr.num; by_cases h : n = 0 <;> simp [h2, h])
      rw [e]
      subst h2
      go_enter Tryz.func91, Tryz.ntmps91
      go_wp2_with fail
      go_ret
      exact ⟨rfl, rfl⟩
    · by_cases h1 : k = 1
      · subst h1
        by_cases a : l ≤ n
        · have e : decide (Dr.num 1 n l) = decide (n ≤ 4096) := dec_of (by unfold Dr.num; simp [a])
          rw [e]
          go_enter Tryz.func91, Tryz.ntmps91
          go_wp2_with fail
          go_ret
          exact ⟨rfl, rfl⟩
        · have e : decide (Dr.num 1 n l) = false := dec_of (by unfold Dr.num; simp [a])
          rw [e]
          go_enter Tryz.func91, Tryz.ntmps91
          go_wp2_with fail
          go_ret
          exact ⟨rfl, rfl⟩
      · have e : decide (Dr.num k n l) = false := dec_of (by unfold Dr.num; simp [h0, h1, h2])
        rw [e]
        go_enter Tryz.func91, Tryz.ntmps91
        go_wp2_with fail
        go_ret
        exact ⟨rfl, rfl⟩

theorem eq_piece (s t : ByteArray) (v f a b c d v' f' a' b' c' d' : Int) (w : World) : (Op.equalIn 10000 39 (.agg #[.string s, .int .u8 v, .int .i64 f, .int .i64 a, .int .i64 b, .int .i64 c, .int .i64 d]) (.agg #[.string t, .int .u8 v', .int .i64 f', .int .i64 a', .int .i64 b', .int .i64 c', .int .i64 d'])).run Tryz.prog w = .ok ((s.toList == t.toList) && v == v' && f == f' && a == a' && b == b' && c == c' && d == d') w := by
  have u3 := Tryz.underlying3
  have a3 := Tryz.isAgg3
  have z3 := Tryz.sizeOf3
  have u5 := Tryz.underlying5
  have a5 := Tryz.isAgg5
  have z5 := Tryz.sizeOf5
  have u9 := Tryz.underlying9
  have a9 := Tryz.isAgg9
  have z9 := Tryz.sizeOf9
  have hS : Tryz.prog.underlying 39 = some (.struct (Tryz.prog.fieldsOf 39)) := by kernel_rfl
  rw [show (10000 : Nat) = 9999 + 1 from rfl, run_equalIn_struct w 9999 39 _ _ hS (by kernel_rfl)]
  simp only [Program.fieldsOf, Tryz.underlying39]
  go_simp
  by_cases h1 : s.toList = t.toList <;> by_cases h2 : v = v' <;> by_cases h3 : f = f' <;> by_cases h4 : a = a' <;> by_cases h5 : b = b' <;> by_cases h6 : c = c' <;> by_cases h7 : d = d' <;> simp [h1, h2, h3, h4, h5, h6, h7]

theorem str_nil2 {s : ByteArray} {xs : List Int} (hs : Str s xs) : s.toList = [] ↔ xs = [] := by
  rw [ByteArray.toList_eq]
  constructor
  · intro h; rw [← hs, h]; rfl
  · intro h; rw [← hs] at h; exact List.map_eq_nil_iff.1 h

theorem istext_any (s : ByteArray) (xs : List Int) (v f a b c d : Int) (w : World) (hs : Str s xs) :
    Calls Tryz.prog 43 #[.agg #[.string s, .int .u8 v, .int .i64 f, .int .i64 a, .int .i64 b, .int .i64 c, .int .i64 d]] w fun e w' => e = .returned (.bool (decide (Dr.isT ⟨xs, v, f, a, b, c, d⟩))) ∧ Below w.heap.size w w' := by
  have EQ := hid (fun W => eq_piece s s v f a b c d 0 0 0 0 0 0 W)
  have N0 := str_nil2 hs
  have IX := hid (fun W => idx_any s xs 37 W hs (by omega) (by omega))
  have B := hid (alloc_b w (.cells #[.string s, .int .u8 v, .int .i64 f, .int .i64 a, .int .i64 b, .int .i64 c, .int .i64 d] 39))
  by_cases hx : xs = []
  · have NE := N0.2 hx
    have NE2 : s.toList.isEmpty = true := by rw [NE]; rfl
    clear N0
    have e : decide (Dr.isT ⟨xs, v, f, a, b, c, d⟩) = false := decide_eq_false (fun q => q.1 hx)
    rw [e]
    clear hx e IX EQ hs
    go_enter Tryz.func43, Tryz.ntmps43
    go_wp2_with fail
    go_ret
    exact ⟨rfl, B.out⟩
  · have NE : ¬ s.toList = [] := fun q => hx (N0.1 q)
    have NE2 : s.toList.isEmpty = false := by cases h : s.toList with | nil => exact absurd h NE | cons c l => rfl
    clear N0
    by_cases hz : v = 0 ∧ f = 0 ∧ a = 0 ∧ b = 0 ∧ c = 0 ∧ d = 0
    · obtain ⟨rfl, rfl, rfl, rfl, rfl, rfl⟩ := hz
      have EQ' : ∀ W, (Op.equalIn 10000 39 (.agg #[.string s, .int .u8 0, .int .i64 0, .int .i64 0, .int .i64 0, .int .i64 0, .int .i64 0]) (.agg #[.string s, .int .u8 0, .int .i64 0, .int .i64 0, .int .i64 0, .int .i64 0, .int .i64 0])).run Tryz.prog W = .ok true W := fun W => by rw [EQ.out W]; simp
      have e : decide (Dr.isT ⟨xs, 0, 0, 0, 0, 0, 0⟩) = decide (Dr.idx xs 37 < 0) := decide_eq_decide.2 ⟨fun q => q.2.2.2.2.2.2.2, fun q => ⟨hx, rfl, rfl, rfl, rfl, rfl, rfl, q⟩⟩
      rw [e]
      clear hx e hs EQ
      generalize Dr.idx xs 37 = i at *
      go_enter Tryz.func43, Tryz.ntmps43
      go_wp2_with (go_at_call 54; refine (IX.out _).mono ?_; rintro e w2 ⟨rfl, rfl⟩)
      go_ret
      exact ⟨rfl, B.out⟩
    · have EQ' : ∀ W, (Op.equalIn 10000 39 (.agg #[.string s, .int .u8 v, .int .i64 f, .int .i64 a, .int .i64 b, .int .i64 c, .int .i64 d]) (.agg #[.string s, .int .u8 0, .int .i64 0, .int .i64 0, .int .i64 0, .int .i64 0, .int .i64 0])).run Tryz.prog W = .ok false W := fun W => by
        rw [EQ.out W]
        congr 1
        rw [← Bool.not_eq_true]
        intro q
        simp only [Bool.and_eq_true, beq_iff_eq] at q
        exact hz ⟨q.1.1.1.1.1.2, q.1.1.1.1.2, q.1.1.1.2, q.1.1.2, q.1.2, q.2⟩
      have e : decide (Dr.isT ⟨xs, v, f, a, b, c, d⟩) = false := decide_eq_false (fun q => hz ⟨q.2.1, q.2.2.1, q.2.2.2.1, q.2.2.2.2.1, q.2.2.2.2.2.1, q.2.2.2.2.2.2.1⟩)
      rw [e]
      clear hx e hs EQ IX hz
      go_enter Tryz.func43, Tryz.ntmps43
      go_wp2_with fail
      go_ret
      exact ⟨rfl, B.out⟩

theorem ispct_any (s : ByteArray) (xs : List Int) (v f a b c d : Int) (w : World) (hs : Str s xs) :
    Calls Tryz.prog 44 #[.agg #[.string s, .int .u8 v, .int .i64 f, .int .i64 a, .int .i64 b, .int .i64 c, .int .i64 d]] w fun e w' => e = .returned (.bool (decide (Dr.isP ⟨xs, v, f, a, b, c, d⟩))) ∧ Below w.heap.size w w' := by
  have EQ : ∀ W, (Op.equalIn 10000 39 (.agg #[.string s, .int .u8 v, .int .i64 f, .int .i64 a, .int .i64 b, .int .i64 c, .int .i64 d]) (.agg #[.string ⟨#[]⟩, .int .u8 37, .int .i64 0, .int .i64 0, .int .i64 0, .int .i64 0, .int .i64 0])).run Tryz.prog W = .ok (decide (Dr.isP ⟨xs, v, f, a, b, c, d⟩)) W := fun W => by
    rw [eq_piece, hs.eq str_nil0]
    congr 1
    refine (dec_of ?_).symm
    simp only [Bool.and_eq_true, beq_iff_eq, decide_eq_true_eq]
    exact ⟨fun q => ⟨⟨⟨⟨⟨⟨q.1, q.2.1⟩, q.2.2.1⟩, q.2.2.2.1⟩, q.2.2.2.2.1⟩, q.2.2.2.2.2.1⟩, q.2.2.2.2.2.2⟩, fun q => ⟨q.1.1.1.1.1.1, q.1.1.1.1.1.2, q.1.1.1.1.2, q.1.1.1.2, q.1.1.2, q.1.2, q.2⟩⟩
  have B := hid (alloc_b w (.cells #[.string s, .int .u8 v, .int .i64 f, .int .i64 a, .int .i64 b, .int .i64 c, .int .i64 d] 39))
  generalize decide (Dr.isP ⟨xs, v, f, a, b, c, d⟩) = q at *
  clear hs
  go_enter Tryz.func44, Tryz.ntmps44
  go_wp2_with fail
  go_ret
  exact ⟨rfl, B.out⟩

set_option maxRecDepth 100000 in
theorem isdir_any (s : ByteArray) (xs : List Int) (v f a b c d : Int) (w : World) (hs : Str s xs) (v0 : 0 ≤ v) (v1 : v < 256) :
    Calls Tryz.prog 45 #[.agg #[.string s, .int .u8 v, .int .i64 f, .int .i64 a, .int .i64 b, .int .i64 c, .int .i64 d]] w fun e w' => e = .returned (.bool (decide (Dr.isR ⟨xs, v, f, a, b, c, d⟩))) ∧ Below w.heap.size w w' := by
  have N0 := str_nil2 hs
  have IX := hid (fun W => idx_any ⟨#[100, 105, 111, 117, 120, 88, 99, 115, 101, 69, 102, 70, 103, 71]⟩ Dr.verbs v W rfl v0 v1)
  have NM := hid isnum_any
  have B := hid (alloc_b w (.cells #[.string s, .int .u8 v, .int .i64 f, .int .i64 a, .int .i64 b, .int .i64 c, .int .i64 d] 39))
  have D : ∀ q : Bool, ((0 ≤ Dr.idx Dr.verbs v ∧ xs = [] ∧ 0 ≤ f ∧ f ≤ 31 ∧ Dr.num a b 1 ∧ Dr.num c d 0) ↔ q = true) → decide (Dr.isR ⟨xs, v, f, a, b, c, d⟩) = q := fun q h => dec_of h
  clear hs
  generalize decide (Dr.isR ⟨xs, v, f, a, b, c, d⟩) = R at *
  generalize Dr.idx Dr.verbs v = i at *
  by_cases hi : 0 ≤ i
  · have z0 := hi
    by_cases hx : xs = []
    · have NE := N0.2 hx
      have NE2 : s.toList.isEmpty = true := by rw [NE]; rfl
      have z1 := hx
      by_cases h0 : 0 ≤ f
      · have z2 := h0
        by_cases h1 : f ≤ 31
        · have z3 := h1
          by_cases m1 : Dr.num a b 1
          · have M1 := decide_eq_true m1
            have z4 := m1
            by_cases m2 : Dr.num c d 0
            · have M2 := decide_eq_true m2
              have z5 := m2
              have e := D true ⟨fun _ => rfl, fun _ => ⟨hi, hx, h0, h1, m1, m2⟩⟩
              subst e
              clear D N0 hx m1 m2 z1 z4 z5
              go_enter Tryz.func45, Tryz.ntmps45
              go_wp2_with (first | (go_at_call 54; refine (IX.out _).mono ?_; rintro e w2 ⟨rfl, rfl⟩) | (go_at_call 91; refine (NM.out _ _ _ _).mono ?_; rintro e w2 ⟨rfl, rfl⟩))
              go_ret
              exact ⟨rfl, B.out⟩
            · have e := D false ⟨fun q => absurd q.2.2.2.2.2 m2, fun q => by cases q⟩
              subst e
              have M2 := decide_eq_false m2
              clear D N0 hx z1 m1 z4 m2
              go_enter Tryz.func45, Tryz.ntmps45
              go_wp2_with (first | (go_at_call 54; refine (IX.out _).mono ?_; rintro e w2 ⟨rfl, rfl⟩) | (go_at_call 91; refine (NM.out _ _ _ _).mono ?_; rintro e w2 ⟨rfl, rfl⟩))
              go_ret
              exact ⟨rfl, B.out⟩
          · have e := D false ⟨fun q => absurd q.2.2.2.2.1 m1, fun q => by cases q⟩
            subst e
            have M1 := decide_eq_false m1
            clear D N0 hx z1 m1
            go_enter Tryz.func45, Tryz.ntmps45
            go_wp2_with (first | (go_at_call 54; refine (IX.out _).mono ?_; rintro e w2 ⟨rfl, rfl⟩) | (go_at_call 91; refine (NM.out _ _ _ _).mono ?_; rintro e w2 ⟨rfl, rfl⟩))
            go_ret
            exact ⟨rfl, B.out⟩
        · have e := D false ⟨fun q => absurd q.2.2.2.1 h1, fun q => by cases q⟩
          subst e
          clear D N0 hx z1
          go_enter Tryz.func45, Tryz.ntmps45
          go_wp2_with (first | (go_at_call 54; refine (IX.out _).mono ?_; rintro e w2 ⟨rfl, rfl⟩) | (go_at_call 91; refine (NM.out _ _ _ _).mono ?_; rintro e w2 ⟨rfl, rfl⟩))
          go_ret
          exact ⟨rfl, B.out⟩
      · have e := D false ⟨fun q => absurd q.2.2.1 h0, fun q => by cases q⟩
        subst e
        clear D N0 hx z1
        go_enter Tryz.func45, Tryz.ntmps45
        go_wp2_with (first | (go_at_call 54; refine (IX.out _).mono ?_; rintro e w2 ⟨rfl, rfl⟩) | (go_at_call 91; refine (NM.out _ _ _ _).mono ?_; rintro e w2 ⟨rfl, rfl⟩))
        go_ret
        exact ⟨rfl, B.out⟩
    · have e := D false ⟨fun q => absurd q.2.1 hx, fun q => by cases q⟩
      subst e
      have NE : ¬ s.toList = [] := fun q => hx (N0.1 q)
      have NE2 : s.toList.isEmpty = false := by cases h : s.toList with | nil => exact absurd h NE | cons c l => rfl
      clear D N0 hx
      go_enter Tryz.func45, Tryz.ntmps45
      go_wp2_with (first | (go_at_call 54; refine (IX.out _).mono ?_; rintro e w2 ⟨rfl, rfl⟩) | (go_at_call 91; refine (NM.out _ _ _ _).mono ?_; rintro e w2 ⟨rfl, rfl⟩))
      go_ret
      exact ⟨rfl, B.out⟩
  · have e := D false ⟨fun q => absurd q.1 hi, fun q => by cases q⟩
    subst e
    clear D N0
    go_enter Tryz.func45, Tryz.ntmps45
    go_wp2_with (first | (go_at_call 54; refine (IX.out _).mono ?_; rintro e w2 ⟨rfl, rfl⟩) | (go_at_call 91; refine (NM.out _ _ _ _).mono ?_; rintro e w2 ⟨rfl, rfl⟩))
    go_ret
    exact ⟨rfl, B.out⟩

/-- Check's answer. -/
def okN (p : Dr.Pc) : Int := if Dr.ok p then 0 else 132

set_option maxRecDepth 100000 in
theorem dcheck_any (s : ByteArray) (xs : List Int) (v f a b c d : Int) (w : World) (hs : Str s xs) (v0 : 0 ≤ v) (v1 : v < 256) :
    Calls Tryz.prog 19 #[.agg #[.string s, .int .u8 v, .int .i64 f, .int .i64 a, .int .i64 b, .int .i64 c, .int .i64 d]] w fun e w' => e = .returned (.int .i64 (okN ⟨xs, v, f, a, b, c, d⟩)) ∧ Below w.heap.size w w' := by
  have T := hid (fun W => istext_any s xs v f a b c d W hs)
  have P := hid (fun W => ispct_any s xs v f a b c d W hs)
  have R := hid (fun W => isdir_any s xs v f a b c d W hs v0 v1)
  have D : ∀ z : Int, z = (if Dr.isT ⟨xs, v, f, a, b, c, d⟩ ∨ Dr.isP ⟨xs, v, f, a, b, c, d⟩ ∨ Dr.isR ⟨xs, v, f, a, b, c, d⟩ then 0 else 132) → okN ⟨xs, v, f, a, b, c, d⟩ = z := fun z h => h.symm
  generalize okN ⟨xs, v, f, a, b, c, d⟩ = K at *
  have A := alloc_b w (.cells #[.string s, .int .u8 v, .int .i64 f, .int .i64 a, .int .i64 b, .int .i64 c, .int .i64 d] 39)
  have P1 := hid (P7.new w (.string s) (.int .u8 v) (.int .i64 f) (.int .i64 a) (.int .i64 b) (.int .i64 c) (.int .i64 d))
  generalize hA : w.alloc (.cells #[.string s, .int .u8 v, .int .i64 f, .int .i64 a, .int .i64 b, .int .i64 c, .int .i64 d] 39) = wA at *
  have HA := hid hA
  have B := hid A
  clear hs A hA
  by_cases t : Dr.isT ⟨xs, v, f, a, b, c, d⟩
  · have e := D 0 (by rw [if_pos (.inl t)])
    rw [decide_eq_true t] at T
    subst e
    clear D P R t
    go_enter Tryz.func19, Tryz.ntmps19
    go_wp2_with fail
    rw [HA.out]
    refine (T.out _).mono ?_
    rintro e w1 ⟨rfl, hB⟩
    have B1 := hid (below_on B.out hB)
    clear hB
    go_wp2_with fail
    go_ret
    exact ⟨rfl, B1.out⟩
  · rw [decide_eq_false t] at T
    by_cases p : Dr.isP ⟨xs, v, f, a, b, c, d⟩
    · have e := D 0 (by rw [if_pos (.inr (.inl p))])
      rw [decide_eq_true p] at P
      subst e
      clear D R t p
      go_enter Tryz.func19, Tryz.ntmps19
      go_wp2_with fail
      rw [HA.out]
      refine (T.out _).mono ?_
      rintro e w1 ⟨rfl, hB⟩
      have B1 := hid (below_on B.out hB)
      obtain ⟨⟨b0, b1, b2, b3, b4, b5, b6⟩, -⟩ := (P1.out.below hB).cells
      clear hB
      go_wp2_with fail
      refine (P.out _).mono ?_
      rintro e w2 ⟨rfl, hB⟩
      have B2 := hid (below_on B1.out hB)
      clear hB
      go_wp2_with fail
      go_ret
      exact ⟨rfl, B2.out⟩
    · rw [decide_eq_false p] at P
      have e := D (if Dr.isR ⟨xs, v, f, a, b, c, d⟩ then 0 else 132) (by simp [t, p])
      subst e
      clear D t p
      by_cases r : Dr.isR ⟨xs, v, f, a, b, c, d⟩
      all_goals
        first
          | rw [decide_eq_true r] at R
          | rw [decide_eq_false r] at R
        first
          | rw [if_pos r]
          | rw [if_neg r]
        clear r
        go_enter Tryz.func19, Tryz.ntmps19
        go_wp2_with fail
        rw [HA.out]
        refine (T.out _).mono ?_
        rintro e w1 ⟨rfl, hB⟩
        have B1 := hid (below_on B.out hB)
        have P2 := hid (P1.out.below hB)
        obtain ⟨⟨b0, b1, b2, b3, b4, b5, b6⟩, -⟩ := P2.out.cells
        clear hB
        go_wp2_with fail
        refine (P.out _).mono ?_
        rintro e w2 ⟨rfl, hB⟩
        have B2 := hid (below_on B1.out hB)
        obtain ⟨⟨c0, c1, c2, c3, c4, c5, c6⟩, -⟩ := (P2.out.below hB).cells
        clear hB
        go_wp2_with fail
        refine (R.out _).mono ?_
        rintro e w3 ⟨rfl, hB⟩
        have B3 := hid (below_on B2.out hB)
        clear hB
        go_wp2_with fail
        go_ret
        exact ⟨rfl, B3.out⟩
end Go.Proofs.YtiflponlioldmaaGreatDoor
