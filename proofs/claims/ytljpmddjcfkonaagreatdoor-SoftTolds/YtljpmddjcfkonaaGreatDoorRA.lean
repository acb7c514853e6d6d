/-
  Texts put together: INear1, INear2, IRoundN, IRound, XRounded, XAddA, ZPut, ZDecA, ZRef6, ZRef9, ZRef13, IRoomA, ZArg, IAnsS, ZAgainst, ZRatio.
-/
import Derived.Test.YtljpmddjcfkonaaGreatDoorIShiftA
import Derived.Test.YtljpmddjcfkonaaGreatDoorIWalk1C
import Derived.Test.YtljpmddjcfkonaaGreatDoorNToU
import Derived.Test.YtljpmddjcfkonaaGreatDoorINum2
import Derived.Test.YtljpmddjcfkonaaGreatDoorXIs
import Derived.BigQuiet
import Derived.Test.YtljpmddjcfkonaaGreatDoorXPlusA
import Derived.Test.YtljpmddjcfkonaaGreatDoorIDec
import Derived.Test.YtljpmddjcfkonaaGreatDoorZRef3
import Derived.Test.YtljpmddjcfkonaaGreatDoorTrailW
import Derived.Test.YtljpmddjcfkonaaGreatDoorWalk5
import Derived.Test.YtljpmddjcfkonaaGreatDoorTimesNum
import Derived.Test.YtljpmddjcfkonaaGreatDoorBare
import Derived.Test.YtljpmddjcfkonaaGreatDoorMem
import Derived.Deep.RegionWith
/-
  ieee: scaled, roundsUp.
-/
namespace Go.Proofs.YtljpmddjcfkonaaGreatDoor
open Go Go.RowKit Go.Deep

theorem toU_is (p : Option Addr) (n cap : Nat) (zs : List Int) (w : World) (ha : Arg w p n cap zs) (V : Int) (hV : Nm.val zs = V) (h : V < 18446744073709551616) :
    Calls Tryz.prog 120 #[.slice p n cap] w fun e w' => e = .returned (.tuple #[.int .u64 V, .bool true]) ∧ w' = w := by
  have h1 := toUint_any p n cap zs w ha
  rw [toU_val ha.2.2.2.2 (by rw [hV]; exact h), hV] at h1
  have h2 : Nm.tsize zs ≤ 1 := (Nm.tsize_le_iff ha.2.2.2.2 1).2 (by rw [hV]; exact h)
  simpa [h2] using h1

set_option maxRecDepth 100000 in
set_option maxHeartbeats 1000000 in
theorem scaled_up (p : Option Addr) (n cap : Nat) (zs : List Int) (w : World) (ha : Arg w p n cap zs) (V s : Int) (j : Nat) (hV : Nm.val zs = V) (hs : s = (j : Int)) (hj : 0 < j) (hj2 : j ≤ 64) (h : V * 2 ^ j < 18446744073709551616) :
    Calls Tryz.prog 115 #[.slice p n cap, .int .i64 s] w fun e w' => e = .returned (.int .u64 (V * 2 ^ j)) ∧ w' = w := by
  subst hs
  have v0 : 0 ≤ V := by rw [← hV]; exact (Nm.val_bd zs ha.2.2.2.2).1
  have hp := Nm.two_pos j
  have v1 : V < 18446744073709551616 := by
    have : V * 1 ≤ V * 2 ^ j := Int.mul_le_mul_of_nonneg_left (by omega) v0
    omega
  have T := hid (toU_is p n cap zs w ha V hV v1)
  have m0 : 0 ≤ V * 2 ^ j := Int.mul_nonneg v0 (by omega)
  have W : IntKind.u64.wrap (V * 2 ^ j) = V * 2 ^ j := by rw [IntKind.wrap_u64]; omega
  have hj' : (0 : Int) < (j : Int) := by omega
  have hj3 : (j : Int) ≤ 64 := by omega
  clear ha hV hp v1 h m0 hj
  go_enter Tryz.func115, Tryz.ntmps115
  go_wp2_with fail
  refine T.out.mono ?_
  rintro e w' ⟨rfl, rfl⟩
  go_wp2_with fail
  go_ret
  exact ⟨rfl, rfl⟩

set_option maxRecDepth 100000 in
set_option maxHeartbeats 1000000 in
theorem scaled_down (p : Option Addr) (n cap : Nat) (zs : List Int) (w : World) (ha : Arg w p n cap zs) (hT : Tab w) (tz : Nm.tsize zs ≤ 4096) (V s : Int) (k : Nat) (hV : Nm.val zs = V) (hs : s = -(k : Int)) (hk : k ≤ 8000000) (h : V / 2 ^ k < 18446744073709551616) :
    Calls Tryz.prog 115 #[.slice p n cap, .int .i64 s] w fun e w' => e = .returned (.int .u64 (V / 2 ^ k)) ∧ Below w.heap.size w w' := by
  subst hs
  have H := hid (fun (kk : Int) (hkk : kk = (k : Int)) => shr_any p n cap zs kk k w ha hT tz hkk)
  have hk0 : ¬ (0 : Int) < -(k : Int) := by omega
  have hk1 : (k : Int) ≤ 8000000 := by omega
  have HV := hid hV
  have HH := hid h
  clear ha hT tz hV h hk
  go_enter Tryz.func115, Tryz.ntmps115
  go_wp2_with fail
  refine (H.out _ (by omega)).mono ?_
  rintro e w' ⟨r, os, rfl, A, hB⟩
  rw [HV.out] at A
  have A1 : os.length ≤ 17592186044416 := by
    have := (Nm.tsize_le_iff A.2.1 1).2 (by rw [A.2.2.2.1]; exact HH.out)
    rw [A.2.2.1] at this
    omega
  have T := hid (toU_is r _ _ os w' (A.arg A1) _ A.2.2.2.1 HH.out)
  have HB := hid hB
  clear A A1 hB H
  go_wp2_with fail
  refine T.out.mono ?_
  rintro e w'' ⟨rfl, rfl⟩
  go_wp2_with fail
  go_ret
  exact ⟨rfl, HB.out⟩

theorem up_none (p : Option Addr) (n cap : Nat) (w : World) (s : Int) (half : Bool) (hs : s ≤ 0) (hs2 : -8000000 ≤ s) :
    Calls Tryz.prog 116 #[.slice p n cap, .int .i64 s, .bool half] w fun e w' => e = .returned (.bool false) ∧ w' = w := by
  have H := hid (fun (i : Int) (hi : i < 0) => bit_neg p n cap i w hi)
  go_enter Tryz.func116, Tryz.ntmps116
  go_wp2_with fail
  refine (H.out _ (by omega)).mono ?_
  rintro e w' ⟨rfl, rfl⟩
  go_wp2_with fail
  go_ret
  exact ⟨rfl, rfl⟩

set_option maxRecDepth 100000 in
set_option maxHeartbeats 1000000 in
theorem up_some (p : Option Addr) (n cap : Nat) (zs : List Int) (w : World) (ha : Arg w p n cap zs) (hT : Tab w) (V s : Int) (k : Nat) (half : Bool) (hV : Nm.val zs = V) (hv : 0 < V) (hs : s = (k : Int) + 1) (hk : k ≤ 8000000) :
    Calls Tryz.prog 116 #[.slice p n cap, .int .i64 s, .bool half] w fun e w' => ∃ up, e = .returned (.bool up) ∧ (up = true ↔ (V / 2 ^ k % 2 = 1 ∧ (half = true ∨ V % 2 ^ k ≠ 0))) ∧ w' = w := by
  subst hs
  obtain ⟨b, hb⟩ : ∃ b, V / 2 ^ k % 2 = b := ⟨_, rfl⟩
  have H : Hid (∀ i : Int, i = (k : Int) → Calls Tryz.prog 122 #[.slice p n cap, .int .i64 i] w fun e w' => e = .returned (.int .i64 b) ∧ w' = w) := by
    intro i hi
    have := bit_any p n cap zs k i w ha (by omega) hi
    rw [hV, hb] at this
    exact this
  have T := hid (trail_any p n cap zs w ha hT)
  have HV := hid hV
  have hb2 : b = 0 ∨ b = 1 := by omega
  have HB := hid hb
  have hvv := hid hv
  have hk1 : (k : Int) ≤ 8000000 := by omega
  clear ha hT hV hb hv hk
  rcases hb2 with rfl | rfl
  · go_enter Tryz.func116, Tryz.ntmps116
    go_wp2_with fail
    refine (H.out _ (by omega)).mono ?_
    rintro e w' ⟨rfl, rfl⟩
    go_wp2_with fail
    go_ret
    exact ⟨false, rfl, ⟨fun h => (by cases h), fun h => (by have := HB.out; omega)⟩, rfl⟩
  · cases half
    · go_enter Tryz.func116, Tryz.ntmps116
      go_wp2_with fail
      refine (H.out _ (by omega)).mono ?_
      rintro e w' ⟨rfl, rfl⟩
      go_wp2_with fail
      refine T.out.mono ?_
      rintro e w' ⟨t, rfl, ht, rfl⟩
      rw [HV.out] at ht
      have E := hid (Sh.lost_iff (n := k) ht hvv.out)
      clear ht
      go_wp2_with fail
      go_ret
      refine ⟨_, rfl, ?_, rfl⟩
      have E1 : (t : Int) < (k : Int) ↔ V % 2 ^ k ≠ 0 := by simpa only [decide_eq_decide] using E.out
      rw [decide_eq_true_iff]
      constructor
      · intro h
        exact ⟨HB.out, .inr (E1.1 (by omega))⟩
      · rintro ⟨_, h | h⟩
        · cases h
        · have := E1.2 h
          omega
    · go_enter Tryz.func116, Tryz.ntmps116
      go_wp2_with fail
      refine (H.out _ (by omega)).mono ?_
      rintro e w' ⟨rfl, rfl⟩
      go_wp2_with fail
      go_ret
      refine ⟨true, rfl, ?_, rfl⟩
      have := HB.out
      simp [this]
end Go.Proofs.YtljpmddjcfkonaaGreatDoor

/-
  ieee: nearest (made by mknear.py).
-/
namespace Go.Proofs.YtljpmddjcfkonaaGreatDoor
open Go Go.RowKit Go.Deep

set_option maxRecDepth 100000 in
set_option maxHeartbeats 2000000 in
theorem nearest_up (p : Option Addr) (n cap : Nat) (zs : List Int) (w : World) (ha : Arg w p n cap zs) (hT : Tab w) (tz : Nm.tsize zs ≤ 4096) (V e u : Int) (L j U : Nat) (more : Bool) (hV : Nm.val zs = V) (hL : blen zs = (L : Int)) (hL0 : 0 < L) (hL2 : L ≤ 262144) (hbig : (L : Int) + e ≤ 1024) (hsm : -8000000 ≤ e)
    (hj : e - u = (j : Int)) (hj2 : j ≤ 64) (hU : u + 1074 = (U : Int)) (hU2 : U ≤ 2045) (hm : V * 2 ^ j < 9007199254740992) (hmax : ((L : Int) + e - 53 < -1074 ∧ u = -1074) ∨ (-1074 ≤ (L : Int) + e - 53 ∧ u = (L : Int) + e - 53)) :
    Calls Tryz.prog 102 #[.slice p n cap, .int .i64 e, .bool more] w fun r w' => r = .returned (.int .u64 ((U : Int) * 4503599627370496 + V * 2 ^ j)) ∧ Below w.heap.size w w' := by
  have v0 : 0 ≤ V := by rw [← hV]; exact (Nm.val_bd zs ha.2.2.2.2).1
  have BL : Hid (Calls Tryz.prog 74 #[.slice p n cap] w fun e w' => e = .returned (.int .i64 (L : Int)) ∧ w' = w) := by
    have := bitLen_any p n cap zs w ha
    rw [hL] at this
    exact this
  obtain ⟨m, hme⟩ : ∃ m, V * 2 ^ j = m := ⟨_, rfl⟩
  have SC : Hid (∀ s : Int, s = (j : Int) → Calls Tryz.prog 115 #[.slice p n cap, .int .i64 s] w fun e w' => e = .returned (.int .u64 m) ∧ Below w.heap.size w w') := by
    intro s hs
    rcases Nat.eq_zero_or_pos j with hj0 | hj0
    · subst hj0
      have e1 : V / 2 ^ 0 = m := by rw [← hme, Int.pow_zero, Int.mul_one, Int.ediv_one]
      have := scaled_down p n cap zs w ha hT tz V s 0 hV (by omega) (by omega) (by rw [e1]; omega)
      rw [e1] at this
      exact this
    · have := scaled_up p n cap zs w ha V s j hV hs hj0 hj2 (by omega)
      rw [hme] at this
      refine this.mono ?_
      rintro e' w' ⟨rfl, rfl⟩
      exact ⟨rfl, Below.refl _ _⟩
  have RU := hid (fun (wx : World) (s : Int) (half : Bool) (h : s ≤ 0) (h2 : -8000000 ≤ s) => up_none p n cap wx s half h h2)
  have m0 : 0 ≤ m := by rw [← hme]; exact Int.mul_nonneg v0 (by have := Nm.two_pos j; omega)
  rw [hme] at hm ⊢
  have B := Ib.one_and m m0 (by omega)
  have l0 : ((L : Int) == 0) = false := by rw [beq_eq_false_iff_ne]; omega
  have l1 : ¬ 1024 < (L : Int) + e := by omega
  have l2 : (L : Int) ≤ 262144 := by omega
  clear ha hV hL hme hL2 v0 hT tz
  rcases hmax with ⟨h, rfl⟩ | ⟨h, rfl⟩ <;> cases more
  · go_enter Tryz.func102, Tryz.ntmps102
    go_wp2_with fail
    refine BL.out.mono ?_
    rintro e' w' ⟨rfl, rfl⟩
    go_wp2_with fail
    refine (SC.out _ (by omega)).mono ?_
    rintro e' w' ⟨rfl, HB⟩
    have HB := hid HB
    go_wp2_with fail
    refine (RU.out _ _ _ (by omega) (by omega)).mono ?_
    rintro e' w' ⟨rfl, rfl⟩
    go_wp2_with fail
    go_ret
    exact ⟨i_retU (by omega), HB.out⟩
  · go_enter Tryz.func102, Tryz.ntmps102
    go_wp2_with fail
    refine BL.out.mono ?_
    rintro e' w' ⟨rfl, rfl⟩
    go_wp2_with fail
    refine (SC.out _ (by omega)).mono ?_
    rintro e' w' ⟨rfl, HB⟩
    have HB := hid HB
    go_wp2_with fail
    refine (RU.out _ _ _ (by omega) (by omega)).mono ?_
    rintro e' w' ⟨rfl, rfl⟩
    go_wp2_with fail
    go_ret
    exact ⟨i_retU (by omega), HB.out⟩
  · go_enter Tryz.func102, Tryz.ntmps102
    go_wp2_with fail
    refine BL.out.mono ?_
    rintro e' w' ⟨rfl, rfl⟩
    go_wp2_with fail
    refine (SC.out _ (by omega)).mono ?_
    rintro e' w' ⟨rfl, HB⟩
    have HB := hid HB
    go_wp2_with fail
    refine (RU.out _ _ _ (by omega) (by omega)).mono ?_
    rintro e' w' ⟨rfl, rfl⟩
    go_wp2_with fail
    go_ret
    exact ⟨i_retU (by omega), HB.out⟩
  · go_enter Tryz.func102, Tryz.ntmps102
    go_wp2_with fail
    refine BL.out.mono ?_
    rintro e' w' ⟨rfl, rfl⟩
    go_wp2_with fail
    refine (SC.out _ (by omega)).mono ?_
    rintro e' w' ⟨rfl, HB⟩
    have HB := hid HB
    go_wp2_with fail
    refine (RU.out _ _ _ (by omega) (by omega)).mono ?_
    rintro e' w' ⟨rfl, rfl⟩
    go_wp2_with fail
    go_ret
    exact ⟨i_retU (by omega), HB.out⟩

set_option maxRecDepth 100000 in
set_option maxHeartbeats 2000000 in
theorem nearest_down (p : Option Addr) (n cap : Nat) (zs : List Int) (w : World) (ha : Arg w p n cap zs) (hT : Tab w) (tz : Nm.tsize zs ≤ 4096) (V e u : Int) (L k U : Nat) (more : Bool) (hV : Nm.val zs = V) (hv : 0 < V) (hL : blen zs = (L : Int)) (hL0 : 0 < L) (hL2 : L ≤ 262144) (hbig : (L : Int) + e ≤ 1024) (hsm : -7000000 ≤ e)
    (hk : u - e = (k : Int) + 1) (hU : u + 1074 = (U : Int)) (hU2 : U ≤ 2045) (hm : V / 2 ^ (k + 1) < 9007199254740992) (hmax : ((L : Int) + e - 53 < -1074 ∧ u = -1074) ∨ (-1074 ≤ (L : Int) + e - 53 ∧ u = (L : Int) + e - 53)) :
    Calls Tryz.prog 102 #[.slice p n cap, .int .i64 e, .bool more] w fun r w' => ∃ up : Bool, r = .returned (.int .u64 ((U : Int) * 4503599627370496 + V / 2 ^ (k + 1) + if up = true then 1 else 0)) ∧
      (up = true ↔ (V / 2 ^ k % 2 = 1 ∧ ((more = true ∨ V / 2 ^ (k + 1) % 2 = 1) ∨ V % 2 ^ k ≠ 0))) ∧ Below w.heap.size w w' := by
  have BL : Hid (Calls Tryz.prog 74 #[.slice p n cap] w fun e w' => e = .returned (.int .i64 (L : Int)) ∧ w' = w) := by
    have := bitLen_any p n cap zs w ha
    rw [hL] at this
    exact this
  obtain ⟨m, hme⟩ : ∃ m, V / 2 ^ (k + 1) = m := ⟨_, rfl⟩
  have SC : Hid (∀ s : Int, s = -((k + 1 : Nat) : Int) → Calls Tryz.prog 115 #[.slice p n cap, .int .i64 s] w fun e w' => e = .returned (.int .u64 m) ∧ Below w.heap.size w w') := by
    intro s hs
    have := scaled_down p n cap zs w ha hT tz V s (k + 1) hV hs (by omega) (by omega)
    rw [hme] at this
    exact this
  have RS : Hid (∀ w' : World, Below w.heap.size w w' → ∀ (s : Int) (half : Bool), s = (k : Int) + 1 → Calls Tryz.prog 116 #[.slice p n cap, .int .i64 s, .bool half] w' fun e w'' => ∃ up, e = .returned (.bool up) ∧ (up = true ↔ (V / 2 ^ k % 2 = 1 ∧ (half = true ∨ V % 2 ^ k ≠ 0))) ∧ w'' = w') := by
    intro w' hB s half hs
    exact up_some p n cap zs w' (ha.below hB (Nat.le_refl _)) (hT.below hB) V s k half hV hv hs (by omega)
  have m0 : 0 ≤ m := by rw [← hme]; exact Int.ediv_nonneg (by omega) (by have := Nm.two_pos (k + 1); omega)
  rw [hme] at hm ⊢
  have B := Ib.one_and m m0 (by omega)
  have l0 : ((L : Int) == 0) = false := by rw [beq_eq_false_iff_ne]; omega
  have l1 : ¬ 1024 < (L : Int) + e := by omega
  have l2 : (L : Int) ≤ 262144 := by omega
  clear ha hV hL hme hL2 hT tz hv
  rcases hmax with ⟨h, rfl⟩ | ⟨h, rfl⟩ <;> cases more
  · go_enter Tryz.func102, Tryz.ntmps102
    go_wp2_with fail
    refine BL.out.mono ?_
    rintro e' w' ⟨rfl, rfl⟩
    go_wp2_with fail
    refine (SC.out _ (by omega)).mono ?_
    rintro e' w' ⟨rfl, HB⟩
    have RU := hid (RS.out w' HB)
    have HB := hid HB
    go_wp2_with fail
    refine (RU.out _ _ (by omega)).mono ?_
    rintro e' w'' ⟨up, rfl, hup, rfl⟩
    have UP := hid hup
    clear hup
    cases up
    · go_wp2_with fail
      go_ret
      exact ⟨false, i_retU (by simp; omega), by simpa using UP.out, HB.out⟩
    · go_wp2_with fail
      go_ret
      exact ⟨true, i_retU (by simp; omega), by simpa using UP.out, HB.out⟩
  · go_enter Tryz.func102, Tryz.ntmps102
    go_wp2_with fail
    refine BL.out.mono ?_
    rintro e' w' ⟨rfl, rfl⟩
    go_wp2_with fail
    refine (SC.out _ (by omega)).mono ?_
    rintro e' w' ⟨rfl, HB⟩
    have RU := hid (RS.out w' HB)
    have HB := hid HB
    go_wp2_with fail
    refine (RU.out _ _ (by omega)).mono ?_
    rintro e' w'' ⟨up, rfl, hup, rfl⟩
    have UP := hid hup
    clear hup
    cases up
    · go_wp2_with fail
      go_ret
      exact ⟨false, i_retU (by simp; omega), by simpa using UP.out, HB.out⟩
    · go_wp2_with fail
      go_ret
      exact ⟨true, i_retU (by simp; omega), by simpa using UP.out, HB.out⟩
  · go_enter Tryz.func102, Tryz.ntmps102
    go_wp2_with fail
    refine BL.out.mono ?_
    rintro e' w' ⟨rfl, rfl⟩
    go_wp2_with fail
    refine (SC.out _ (by omega)).mono ?_
    rintro e' w' ⟨rfl, HB⟩
    have RU := hid (RS.out w' HB)
    have HB := hid HB
    go_wp2_with fail
    refine (RU.out _ _ (by omega)).mono ?_
    rintro e' w'' ⟨up, rfl, hup, rfl⟩
    have UP := hid hup
    clear hup
    cases up
    · go_wp2_with fail
      go_ret
      exact ⟨false, i_retU (by simp; omega), by simpa using UP.out, HB.out⟩
    · go_wp2_with fail
      go_ret
      exact ⟨true, i_retU (by simp; omega), by simpa using UP.out, HB.out⟩
  · go_enter Tryz.func102, Tryz.ntmps102
    go_wp2_with fail
    refine BL.out.mono ?_
    rintro e' w' ⟨rfl, rfl⟩
    go_wp2_with fail
    refine (SC.out _ (by omega)).mono ?_
    rintro e' w' ⟨rfl, HB⟩
    have RU := hid (RS.out w' HB)
    have HB := hid HB
    go_wp2_with fail
    refine (RU.out _ _ (by omega)).mono ?_
    rintro e' w'' ⟨up, rfl, hup, rfl⟩
    have UP := hid hup
    clear hup
    cases up
    · go_wp2_with fail
      go_ret
      exact ⟨false, i_retU (by simp; omega), by simpa using UP.out, HB.out⟩
    · go_wp2_with fail
      go_ret
      exact ⟨true, i_retU (by simp; omega), by simpa using UP.out, HB.out⟩

set_option maxRecDepth 100000 in
theorem nearest_any (p : Option Addr) (n cap : Nat) (zs : List Int) (w : World) (ha : Arg w p n cap zs) (hT : Tab w) (tz : Nm.tsize zs ≤ 4096) (V e : Int) (more : Bool) (hV : Nm.val zs = V) (h0 : -7000000 ≤ e) (h1 : e ≤ 7000000) :
    Calls Tryz.prog 102 #[.slice p n cap, .int .i64 e, .bool more] w fun r w' => ∃ x, r = .returned (.int .u64 x) ∧ Ie.Rnd V 1 e more x ∧ Below w.heap.size w w' := by
  obtain ⟨L, hL, BL, hl, _⟩ := blen_is zs ha.2.2.2.2
  have v0 : 0 ≤ V := by rw [← hV]; exact (Nm.val_bd zs ha.2.2.2.2).1
  rw [hV] at BL
  have hL2 : L ≤ 262144 := by omega
  have B : Hid (Calls Tryz.prog 74 #[.slice p n cap] w fun e w' => e = .returned (.int .i64 (L : Int)) ∧ w' = w) := by
    have := bitLen_any p n cap zs w ha
    rw [hL] at this
    exact this
  rcases (show V = 0 ∨ 0 < V by omega) with hv | hv
  · have hL0 : L = 0 := BL.2.1 hv
    subst hL0
    have R := hid (Ie.rnd_zero 1 e more (by omega))
    rw [hv]
    clear ha hT tz hV hL BL hl hL2 v0 hv
    go_enter Tryz.func102, Tryz.ntmps102
    go_wp2_with fail
    refine B.out.mono ?_
    rintro e' w' ⟨rfl, rfl⟩
    go_wp2_with fail
    go_ret
    exact ⟨0, rfl, R.out, Below.refl _ _⟩
  · obtain ⟨hL1, hp⟩ := BL.2.2 hv
    rcases (show 1024 < (L : Int) + e ∨ (L : Int) + e ≤ 1024 by omega) with hb | hb
    · have R := hid (Ie.rnd_inf V 1 e (L - 1) 0 more hp (by decide) (by omega))
      have l0 : ((L : Int) == 0) = false := by rw [beq_eq_false_iff_ne]; omega
      have l2 : (L : Int) ≤ 262144 := by omega
      clear ha hT tz hV hL BL hl hL2 v0 hv hp hL1
      go_enter Tryz.func102, Tryz.ntmps102
      go_wp2_with fail
      refine B.out.mono ?_
      rintro e' w' ⟨rfl, rfl⟩
      go_wp2_with fail
      go_ret
      exact ⟨_, rfl, R.out, Below.refl _ _⟩
    · obtain ⟨u, hu⟩ : ∃ u : Int, ((L : Int) + e - 53 < -1074 ∧ u = -1074) ∨ (-1074 ≤ (L : Int) + e - 53 ∧ u = (L : Int) + e - 53) := by
        rcases (show (L : Int) + e - 53 < -1074 ∨ -1074 ≤ (L : Int) + e - 53 by omega) with h | h
        · exact ⟨_, .inl ⟨h, rfl⟩⟩
        · exact ⟨_, .inr ⟨h, rfl⟩⟩
      obtain ⟨U, hU⟩ : ∃ U : Nat, u + 1074 = (U : Int) := ⟨(u + 1074).toNat, by omega⟩
      have e53 : (2 : Int) ^ 53 = 9007199254740992 := by decide
      rcases (show u ≤ e ∨ e < u by omega) with hd | hd
      · obtain ⟨j, hj⟩ : ∃ j : Nat, e - u = (j : Int) := ⟨(e - u).toNat, by omega⟩
        have hj53 : L + j ≤ 53 := by omega
        have hm : V * 2 ^ j < 9007199254740992 := by
          have g1 : V * 2 ^ j < 2 ^ (L + j) := by rw [Nm.two_add]; exact Int.mul_lt_mul_of_pos_right BL.1 (Nm.two_pos j)
          have g2 := Nm.two_mono hj53
          omega
        refine (nearest_up p n cap zs w ha hT tz V e u L j U more hV hL (by omega) hL2 hb (by omega) hj (by omega) hU (by omega) hm hu).mono ?_
        rintro r w' ⟨rfl, hB⟩
        exact ⟨_, rfl, Ie.rnd_exact V e L j U more hv hp hL1 BL.1 hj53 (by omega) (by omega) (by omega), hB⟩
      · obtain ⟨k, hk⟩ : ∃ k : Nat, u - e = (k : Int) + 1 := ⟨(u - e - 1).toNat, by omega⟩
        have hk53 : L ≤ k + 1 + 53 := by omega
        have hm : V / 2 ^ (k + 1) < 9007199254740992 := by
          rw [Int.ediv_lt_iff_lt_mul (Nm.two_pos _)]
          have g := Nm.two_mono hk53
          rw [Nm.two_add, e53] at g
          rw [Int.mul_comm]
          have := BL.1
          omega
        refine (nearest_down p n cap zs w ha hT tz V e u L k U more hV hv hL (by omega) hL2 hb (by omega) hk hU (by omega) hm hu).mono ?_
        rintro r w' ⟨up, rfl, hup, hB⟩
        refine ⟨_, rfl, Ie.rnd_cut V e L (k + 1) U more up hv hp hL1 BL.1 (by omega) (by omega) (by omega) (by omega) ?_, hB⟩
        rw [hup, Nat.add_sub_cancel]
        constructor
        · rintro ⟨g1, (g | g) | g⟩
          · exact ⟨by omega, g1, .inl g⟩
          · exact ⟨by omega, g1, .inr (.inl g)⟩
          · exact ⟨by omega, g1, .inr (.inr g)⟩
        · rintro ⟨_, g1, g | g | g⟩
          · exact ⟨g1, .inl (.inl g)⟩
          · exact ⟨g1, .inl (.inr g)⟩
          · exact ⟨g1, .inr g⟩
end Go.Proofs.YtljpmddjcfkonaaGreatDoor

/-
  ieee: Round.
-/
namespace Go.Proofs.YtljpmddjcfkonaaGreatDoor
open Go Go.RowKit Go.Deep

namespace Ie
theorem win_ok {n d e x : Int} {more : Bool} (L M : Nat) (n0 : 0 ≤ n) (hn : n < 2 ^ L) (d0 : 0 < d) (hd : d ≤ 2 ^ M) (hL : L ≤ 262144) (hM : M ≤ 262144) (h : Rnd n d (win e) more x) : Rnd n d e more x := by
  rcases (show win e = e ∨ (win e = 2097152 ∧ 2097152 < e) ∨ (win e = -2097152 ∧ e < -2097152) by simp only [win]; omega) with g | ⟨g, g'⟩ | ⟨g, g'⟩
  · rw [g] at h; exact h
  · rw [g] at h
    rcases (show n = 0 ∨ 0 < n by omega) with h0 | h0
    · subst h0
      have := h.one d0 d0 (rnd_zero d 2097152 more d0) (a := 0) (a' := 0) (by omega) rfl
      rw [this]
      exact rnd_zero d e more d0
    · have p0 : (2 : Int) ^ 0 ≤ n := by rw [Int.pow_zero]; omega
      have := h.one d0 d0 (rnd_inf n d 2097152 0 M more p0 hd (by omega)) (a := 0) (a' := 0) (by omega) rfl
      rw [this]
      exact rnd_inf n d e 0 M more p0 hd (by omega)
  · rw [g] at h
    have p0 : (2 : Int) ^ 0 ≤ d := by rw [Int.pow_zero]; omega
    have := h.one d0 d0 (rnd_small n d (-2097152) L 0 more hn p0 (by omega)) (a := 0) (a' := 0) (by omega) rfl
    rw [this]
    exact rnd_small n d e L 0 more hn p0 (by omega)

theorem win_bd (e : Int) : -2097152 ≤ win e ∧ win e ≤ 2097152 := by simp only [win]; omega
end Ie
end Go.Proofs.YtljpmddjcfkonaaGreatDoor

/-
  ieee: Round.
-/
namespace Go.Proofs.YtljpmddjcfkonaaGreatDoor
open Go Go.RowKit Go.Deep


set_option maxRecDepth 100000 in
set_option maxHeartbeats 2000000 in
theorem round_any (neg : Bool) (p : Option Addr) (n cap : Nat) (zs : List Int) (w : World) (ha : Arg w p n cap zs) (hT : Tab w) (tz : Nm.tsize zs ≤ 4096) (V e : Int) (more : Bool) (hV : Nm.val zs = V) :
    Calls Tryz.prog 72 #[.bool neg, .slice p n cap, .int .i64 e, .bool more] w fun r w' => ∃ x, r = .returned (.tuple #[.int .u64 (Ie.sg neg x), .int .i64 0]) ∧ Ie.Rnd V 1 e more x ∧ Below w.heap.size w w' := by
  obtain ⟨L, hL, BL, hl, _⟩ := blen_is zs ha.2.2.2.2
  rw [hV] at BL
  have B1 := hid (bitLen_n L p n cap zs w ha hL)
  have v0 : 0 ≤ V := by rw [← hV]; exact (Nm.val_bd zs ha.2.2.2.2).1
  have WI := hid (fun (x : Int) => Ie.win_ok (n := V) (d := 1) (e := e) (x := x) (more := more) L 0 v0 BL.1 (by omega) (by decide) (by omega) (by omega))
  have W0 := hid (within_any e w)
  obtain ⟨we, hwe⟩ : ∃ we, Ie.win e = we := ⟨_, rfl⟩
  have wb := Ie.win_bd e
  rw [hwe] at wb W0 WI
  have NR := hid (nearest_any p n cap zs w ha hT tz V we more hV (by omega) (by omega))
  have l1 : decide (262144 < (L : Int)) = false := by simp; omega
  clear ha hT tz hV hL BL hl v0 hwe wb
  go_enter Tryz.func72, Tryz.ntmps72
  go_wp2_with fail
  refine B1.out.mono ?_
  rintro e' w' ⟨rfl, rfl⟩
  go_wp2_with fail
  refine W0.out.mono ?_
  rintro e' w' ⟨rfl, rfl⟩
  go_wp2_with fail
  refine NR.out.mono ?_
  rintro e' w1 ⟨x, rfl, R, hB⟩
  have bd := R.bd
  have R1 := hid (WI.out x R)
  have SG := hid (signed_any neg x w1 bd.1 (by omega))
  have HB := hid hB
  clear R bd hB
  go_wp2_with fail
  refine SG.out.mono ?_
  rintro e' w2 ⟨rfl, rfl⟩
  go_wp2_with fail
  go_ret2
  exact ⟨x, rfl, R1.out, HB.out⟩
end Go.Proofs.YtljpmddjcfkonaaGreatDoor

/-
  soft: rounded.
-/
namespace Go.Proofs.YtljpmddjcfkonaaGreatDoor
open Go Go.RowKit Go.Deep

/-- The flags that a rounding raises: the result V * 2^e (or a trifle above), the double x, L the bits of V, t the zeros at its end. -/
def Ie.flg (V e : Int) (more : Bool) (d : Int) (t L : Nat) : Int :=
  if Ie.isx V e more d t = true then 0 else 16 + (if Ie.isi d = true then 4 else 0) + (if (L : Int) + e ≤ -1022 then 8 else 0)

/-- What rounded answers. -/
def RoundedTold (neg : Bool) (V e : Int) (more : Bool) (w : World) (r : Ending) (w' : World) : Prop :=
  ∃ (x : Int) (t L : Nat), r = .returned (.tuple #[.int .u64 (Ie.sg neg x), .int .i64 (Ie.flg V e more (Ie.sg neg x) t L)]) ∧ Ie.Rnd V 1 e more x ∧ Nm.Trl V t ∧ Nm.BLen V L ∧ Below w.heap.size w w'

theorem ret_ui {a b c d : Int} (h : a = b) (k : c = d) : Ending.returned (.tuple #[.int .u64 a, .int .i64 c]) = .returned (.tuple #[.int .u64 b, .int .i64 d]) := by rw [h, k]

set_option maxRecDepth 100000 in
set_option maxHeartbeats 4000000 in
theorem rounded_any (neg more : Bool) (p : Option Addr) (l c : Nat) (zs : List Int) (e V : Int) (w : World) (ha : Arg w p l c zs) (hT : Tab w) (hV : Nm.val zs = V) (hl : l = 0 ↔ V = 0) (hb : V < 2 ^ 5000) (q1 : -10000 ≤ e) (q2 : e ≤ 10000) :
    Calls Tryz.prog 36 #[exactOf neg p l c e more] w fun r w' => RoundedTold neg V e more w r w' := by
  have v0 : 0 ≤ V := by rw [← hV]; exact (Nm.val_bd zs ha.2.2.2.2).1
  have tz : Nm.tsize zs ≤ 4096 := (Nm.tsize_le_iff ha.2.2.2.2 4096).2 (by rw [hV, pw_4096]; have := Nm.two_mono (show 5000 ≤ 262144 by omega); omega)
  obtain ⟨L, hL, BL, hl2, _⟩ := blen_is zs ha.2.2.2.2
  rw [hV] at BL
  have Lb : (L : Int) ≤ 262144 := by omega
  obtain ⟨t, tb, ht⟩ : ∃ t : Nat, t ≤ 10000 ∧ Nm.Trl V t := by
    rcases (show V = 0 ∨ 0 < V by omega) with h | h
    · exact ⟨0, by omega, .inl ⟨h, rfl⟩⟩
    · obtain ⟨t, h1, h2⟩ := trl_ex 5000 V h hb
      exact ⟨t, by omega, h2⟩
  have R0 := Row4.new w 54 (.bool neg) (.slice p l c) (.int .i64 e) (.bool more)
  have B0 := alloc_b w (.cells #[.bool neg, .slice p l c, .int .i64 e, .bool more] 54)
  have RD := hid (round_any neg p l c zs _ (ha.below B0 (Nat.le_refl _)) (hT.below B0) tz V e more hV)
  have IS := hid (fun (d : Int) (wx : World) (hx : Below w.heap.size w wx) (d0 : 0 ≤ d) (d1 : d < 18446744073709551616) => is_any neg more p l c zs e V d t wx (ha.below hx (Nat.le_refl _)) (hT.below hx) hV hl ht tb q1 q2 d0 d1)
  have BL1 := hid (fun (wx : World) (hx : Below w.heap.size w wx) => bitLen_n L p l c zs wx (ha.below hx (Nat.le_refl _)) hL)
  have IN := hid (fun (d : Int) (wx : World) (d0 : 0 ≤ d) (d1 : d < 18446744073709551616) => infinite_any d wx d0 d1)
  have FF : Hid (∀ (x f : Int) (w' : World), f = Ie.flg V e more (Ie.sg neg x) t L → Ie.Rnd V 1 e more x → Below w.heap.size w w' → RoundedTold neg V e more w (.returned (.tuple #[.int .u64 (Ie.sg neg x), .int .i64 f])) w') := by
    intro x f w' hf hR hB
    exact ⟨x, t, L, by rw [hf], hR, ht, BL, hB⟩
  obtain ⟨⟨r0, r1, r2, r3⟩, -⟩ := R0.cells
  have HR0 := hid R0
  have HB0 := hid B0
  simp only [exactOf] at IS ⊢
  clear ha hT hV hl hb v0 tz hL BL hl2 ht tb R0 B0
  go_enter Tryz.func36, Tryz.ntmps36
  go_wp2_with fail
  generalize hwA : w.alloc (.cells #[.bool neg, .slice p l c, .int .i64 e, .bool more] 54) = wA at *
  refine RD.out.mono ?_
  rintro r wa ⟨x, rfl, R, hB⟩
  have bd := R.bd
  obtain ⟨x0, x1⟩ := bd
  have sg0 : 0 ≤ Ie.sg neg x ∧ Ie.sg neg x < 18446744073709551616 := by simp only [Ie.sg]; split <;> omega
  obtain ⟨g0, g1⟩ := sg0
  have Ra := HR0.out.below hB HR0.out.lt
  have Ba := HB0.out.trans (hB.mono HB0.out.size)
  have IS1 := hid (IS.out _ wa Ba g0 g1)
  have F1 := hid (fun (f : Int) (w' : World) (h : f = Ie.flg V e more (Ie.sg neg x) t L) (hB : Below w.heap.size w w') => FF.out x f w' h R hB)
  have HBa := hid Ba
  have HRa := hid Ra
  obtain ⟨⟨s0, s1, s2, s3⟩, -⟩ := Ra.cells
  clear hB Ra Ba IS FF RD HR0 HB0 R r0 r1 r2 r3
  generalize hd : Ie.sg neg x = d at *
  go_wp2_with fail
  refine IS1.out.mono ?_
  rintro r wb ⟨rfl, hB⟩
  have Rb := HRa.out.below hB HRa.out.lt
  have Bb := HBa.out.trans (hB.mono HBa.out.size)
  have HBb := hid Bb
  have BQ := hid (fun (k : Nat) => BL1.out (wb.drewN k) (below_drewN Bb k))
  have IN1 := hid (fun (wx : World) => IN.out d wx g0 g1)
  clear s0 s1 s2 s3
  obtain ⟨⟨s0, s1, s2, s3⟩, -⟩ := Rb.cells
  have F2 : Hid (∀ (f : Int) (w' : World), f = (if Ie.isx V e more d t = true then 0 else 16 + (if Ie.isi d = true then 4 else 0) + (if (L : Int) + e ≤ -1022 then 8 else 0)) → Below w.heap.size w w' → RoundedTold neg V e more w (.returned (.tuple #[.int .u64 d, .int .i64 f])) w') := fun f w' h hB => F1.out f w' h hB
  have O1 : bits .or .i64 16 4 = 20 := by decide
  have O2 : bits .or .i64 16 8 = 24 := by decide
  have O3 : bits .or .i64 20 8 = 28 := by decide
  clear hB HRa HBa IS1 IN BL1 Rb Bb F1
  cases hx : Ie.isx V e more d t
  · rw [hx] at F2
    cases hi : Ie.isi d <;> rw [hi] at F2 IN1
    · by_cases hu : (L : Int) + e ≤ -1022
      · have dd : decide ((L : Int) + e ≤ -1022) = true := by simp; omega
        have F3 := hid (fun (w' : World) (hB : Below w.heap.size w w') => F2.out 24 w' (by simp [hu]) hB)
        clear F2 hx hi hu
        go_wp2_with fail
        refine (IN1.out _).mono ?_
        rintro r wc ⟨rfl, rfl⟩
        go_wp2_with fail
        go_quiet ((go_at_call 74; with_reducible exact Calls.quiet_of_same (BQ.out _)))
        go_wp2_with fail
        go_ret2
        exact F3.out _ (below_drewN HBb.out _)
      · have dd : decide ((L : Int) + e ≤ -1022) = false := by simp; omega
        have F3 := hid (fun (w' : World) (hB : Below w.heap.size w w') => F2.out 16 w' (by simp [hu]) hB)
        clear F2 hx hi hu
        go_wp2_with fail
        refine (IN1.out _).mono ?_
        rintro r wc ⟨rfl, rfl⟩
        go_wp2_with fail
        go_quiet ((go_at_call 74; with_reducible exact Calls.quiet_of_same (BQ.out _)))
        go_wp2_with fail
        go_ret2
        exact F3.out _ (below_drewN HBb.out _)
    · by_cases hu : (L : Int) + e ≤ -1022
      · have dd : decide ((L : Int) + e ≤ -1022) = true := by simp; omega
        have F3 := hid (fun (w' : World) (hB : Below w.heap.size w w') => F2.out 28 w' (by simp [hu]) hB)
        clear F2 hx hi hu
        go_wp2_with fail
        refine (IN1.out _).mono ?_
        rintro r wc ⟨rfl, rfl⟩
        go_wp2_with fail
        go_quiet ((go_at_call 74; with_reducible exact Calls.quiet_of_same (BQ.out _)))
        go_wp2_with fail
        go_ret2
        exact F3.out _ (below_drewN HBb.out _)
      · have dd : decide ((L : Int) + e ≤ -1022) = false := by simp; omega
        have F3 := hid (fun (w' : World) (hB : Below w.heap.size w w') => F2.out 20 w' (by simp [hu]) hB)
        clear F2 hx hi hu
        go_wp2_with fail
        refine (IN1.out _).mono ?_
        rintro r wc ⟨rfl, rfl⟩
        go_wp2_with fail
        go_quiet ((go_at_call 74; with_reducible exact Calls.quiet_of_same (BQ.out _)))
        go_wp2_with fail
        go_ret2
        exact F3.out _ (below_drewN HBb.out _)
  · rw [hx] at F2
    have F3 := hid (fun (w' : World) (hB : Below w.heap.size w w') => F2.out 0 w' (by simp) hB)
    clear F2 hx
    go_wp2_with fail
    go_ret2
    exact F3.out _ HBb.out
end Go.Proofs.YtljpmddjcfkonaaGreatDoor

/-
  What soft's functions tell.
-/
namespace Go.Proofs.YtljpmddjcfkonaaGreatDoor
open Go Go.RowKit Go.Deep

theorem Ans.len0 {B : Nat} {w : World} {p : Option Addr} {ys : List Int} {n : Int} (h : Ans B w p ys n) : ys.length = 0 ↔ n = 0 := by
  have h1 := Nm.tsize_zero_iff h.2.1
  rw [h.2.2.1, h.2.2.2.1] at h1
  exact h1

namespace Ie
/-- What a rounded result is: the double r, the flags f, of sn neg V * 2^e (or a trifle above). -/
def Res (neg : Bool) (V e : Int) (more : Bool) (r f : Int) : Prop :=
  ∃ (x : Int) (t L : Nat), r = sg neg x ∧ f = flg V e more (sg neg x) t L ∧ Rnd V 1 e more x ∧ Nm.Trl V t ∧ Nm.BLen V L

/-- What add answers. -/
def AddIs (a b r f : Int) : Prop :=
  if isn a = true ∨ isn b = true then r = 9221120237041090560 ∧ f = 0
  else if isi a = true ∧ isi b = true ∧ a ≠ b then r = 9221120237041090560 ∧ f = 1
  else if isi a = true then r = a ∧ f = 0
  else if isi b = true then r = b ∧ f = 0
  else ∃ neg V e, SumIs (ngd a) (dm a) (de a) (ngd b) (dm b) (de b) neg V e ∧ Res neg V e false r f

theorem fin_of {d : Int} (h0 : isn d = false) (h1 : isi d = false) : fin d := by
  rw [isn, decide_eq_false_iff_not] at h0
  rw [isi, decide_eq_false_iff_not] at h1
  rw [fin]; omega
theorem not_both {d : Int} (h : isi d = true) : isn d = false := by
  rw [isi, decide_eq_true_eq] at h
  rw [isn, h]; rfl
end Ie

/-- An answer and its flags, told. -/
def Told2 (P : Int → Int → Prop) (w : World) (e : Ending) (w' : World) : Prop := ∃ r f, e = .returned (.tuple #[.int .u64 r, .int .i64 f]) ∧ P r f ∧ Below w.heap.size w w'

/-- An answer, told. -/
def Told1 (P : Int → Int → Prop) (w : World) (e : Ending) (w' : World) : Prop := ∃ r f, e = .returned (.int .u64 r) ∧ P r f ∧ Below w.heap.size w w'
end Go.Proofs.YtljpmddjcfkonaaGreatDoor

namespace Go.Proofs.YtljpmddjcfkonaaGreatDoor
open Go Go.RowKit Go.Deep

set_option maxRecDepth 100000 in
theorem zput_any (neg : Bool) (e f : Int) (w : World) (e0 : 0 ≤ e) (e1 : e ≤ 2047) (f0 : 0 ≤ f) (f1 : f ≤ 9007199254740992) (h : e * 4503599627370496 + f < 9223372036854775808) :
    Calls Tryz.prog 56 #[.bool neg, .int .i64 e, .int .u64 f] w fun r w' => r = .returned (.int .u64 (Ie.sg neg (e * 4503599627370496 + f))) ∧ w' = w := by
  cases neg
  · go_enter Tryz.func56, Tryz.ntmps56
    go_wp2
    go_ret
    exact ⟨rfl, rfl⟩
  · go_enter Tryz.func56, Tryz.ntmps56
    go_wp2
    go_ret
    exact ⟨rfl, rfl⟩

theorem ret_sg {neg : Bool} {a b : Int} (h : a = b) : Ending.returned (.tuple #[.int .u64 (Ie.sg neg a), .int .i64 0]) = .returned (.tuple #[.int .u64 (Ie.sg neg b), .int .i64 0]) := by rw [h]
end Go.Proofs.YtljpmddjcfkonaaGreatDoor

/-
  The document's put and Decode.
-/
namespace Go.Proofs.YtljpmddjcfkonaaGreatDoor
open Go Go.RowKit Go.Deep

set_option maxRecDepth 100000 in
set_option maxHeartbeats 4000000 in
theorem zdecode_any (d : Int) (w : World) (h0 : 0 ≤ d) (h1 : d < 18446744073709551616) :
    Calls Tryz.prog 46 #[.int .u64 d] w fun e w' => e = .returned (partsOf (decide (9223372036854775808 ≤ d)) (Ie.cls d) (Ie.dm d) (Ie.de d)) ∧ Below w.heap.size w w' := by
  obtain ⟨f, hf⟩ : ∃ f, d / 4503599627370496 % 2048 = f := ⟨_, rfl⟩
  obtain ⟨y, hy⟩ : ∃ y, d % 4503599627370496 = y := ⟨_, rfl⟩
  obtain ⟨sv, hs⟩ : ∃ sv, d / 9223372036854775808 = sv := ⟨_, rfl⟩
  have hf' : Ie.fld d = f := hf
  have fb0 : 0 ≤ f := by omega
  have fb1 : f < 2048 := by omega
  have y0 : 0 ≤ y := by omega
  have y1 : y < 4503599627370496 := by omega
  have sc : (sv = 0 ∧ decide (9223372036854775808 ≤ d) = false) ∨ (sv = 1 ∧ decide (9223372036854775808 ≤ d) = true) := by
    rcases (show d < 9223372036854775808 ∨ 9223372036854775808 ≤ d by omega) with h | h
    · left; exact ⟨by omega, by simp; omega⟩
    · right; exact ⟨by omega, by simp; omega⟩
  have hc : Ie.cls d = if f = 0 then (if y = 0 then 0 else 1) else if f = 2047 then (if y = 0 then 3 else 4) else 2 := by rw [Ie.cls, hf', hy]
  have hm : Ie.dm d = if Ie.cls d = 2 then 4503599627370496 + y else if Ie.cls d = 1 ∨ Ie.cls d = 4 then y else 0 := by rw [Ie.dm, hy]
  have he : Ie.de d = if Ie.cls d = 2 then f - 1075 else if Ie.cls d = 1 then -1074 else 0 := by rw [Ie.de, hf']
  rcases sc with ⟨hv, sn⟩ | ⟨hv, sn⟩ <;> rw [sn] <;> rw [hv] at hs <;> clear hv sn
  · by_cases a : f = 0
    · subst a
      by_cases b : y = 0
      · subst b
        rw [if_pos rfl, if_pos rfl] at hc
        rw [hm, he, hc]
        show Calls _ _ _ _ fun e w' => e = .returned (partsOf _ 0 0 0) ∧ _
        go_enter Tryz.func46, Tryz.ntmps46
        go_wp2_with fail
        (try simp only [Exit.inBlock, Exit.then])
        refine bodyPost_ret (results_cell_row rfl _ _ w.heap.size 64 _ (0, 0) _ rfl (heap_alloc_new _ _) Tryz.underlying64 rfl (by kernel_rfl)) rfl ?_
        exact ⟨rfl, Below.alloc (Below.refl _ _) (Nat.le_refl _) _⟩
      · have b' : (y == 0) = false := by rw [beq_eq_false_iff_ne]; exact b
        rw [if_pos rfl, if_neg b] at hc
        rw [hm, he, hc]
        show Calls _ _ _ _ fun e w' => e = .returned (partsOf _ 1 y (-1074)) ∧ _
        go_enter Tryz.func46, Tryz.ntmps46
        go_wp2_with fail
        (try simp only [Exit.inBlock, Exit.then])
        refine bodyPost_ret (results_cell_row rfl _ _ w.heap.size 64 _ (0, 0) _ rfl (heap_alloc_new _ _) Tryz.underlying64 rfl (by kernel_rfl)) rfl ?_
        exact ⟨rfl, Below.alloc (Below.refl _ _) (Nat.le_refl _) _⟩
    · have a' : (f == 0) = false := by rw [beq_eq_false_iff_ne]; exact a
      have ap : 0 < f := by omega
      by_cases a2 : f = 2047
      · subst a2
        by_cases b : y = 0
        · subst b
          rw [if_neg a, if_pos rfl, if_pos rfl] at hc
          rw [hm, he, hc]
          show Calls _ _ _ _ fun e w' => e = .returned (partsOf _ 3 0 0) ∧ _
          go_enter Tryz.func46, Tryz.ntmps46
          go_wp2_with fail
          (try simp only [Exit.inBlock, Exit.then])
          refine bodyPost_ret (results_cell_row rfl _ _ w.heap.size 64 _ (0, 0) _ rfl (heap_alloc_new _ _) Tryz.underlying64 rfl (by kernel_rfl)) rfl ?_
          exact ⟨rfl, Below.alloc (Below.refl _ _) (Nat.le_refl _) _⟩
        · have b' : (y == 0) = false := by rw [beq_eq_false_iff_ne]; exact b
          rw [if_neg a, if_pos rfl, if_neg b] at hc
          rw [hm, he, hc]
          show Calls _ _ _ _ fun e w' => e = .returned (partsOf _ 4 y 0) ∧ _
          go_enter Tryz.func46, Tryz.ntmps46
          go_wp2_with fail
          (try simp only [Exit.inBlock, Exit.then])
          refine bodyPost_ret (results_cell_row rfl _ _ w.heap.size 64 _ (0, 0) _ rfl (heap_alloc_new _ _) Tryz.underlying64 rfl (by kernel_rfl)) rfl ?_
          exact ⟨rfl, Below.alloc (Below.refl _ _) (Nat.le_refl _) _⟩
      · have a2' : (f == 2047) = false := by rw [beq_eq_false_iff_ne]; exact a2
        rw [if_neg a, if_neg a2] at hc
        rw [hm, he, hc]
        show Calls _ _ _ _ fun e w' => e = .returned (partsOf _ 2 (4503599627370496 + y) (f - 1075)) ∧ _
        go_enter Tryz.func46, Tryz.ntmps46
        go_wp2_with fail
        (try simp only [Exit.inBlock, Exit.then])
        refine bodyPost_ret (results_cell_row rfl _ _ w.heap.size 64 _ (0, 0) _ rfl (heap_alloc_new _ _) Tryz.underlying64 rfl (by kernel_rfl)) rfl ?_
        exact ⟨rfl, Below.alloc (Below.refl _ _) (Nat.le_refl _) _⟩
  · by_cases a : f = 0
    · subst a
      by_cases b : y = 0
      · subst b
        rw [if_pos rfl, if_pos rfl] at hc
        rw [hm, he, hc]
        show Calls _ _ _ _ fun e w' => e = .returned (partsOf _ 0 0 0) ∧ _
        go_enter Tryz.func46, Tryz.ntmps46
        go_wp2_with fail
        (try simp only [Exit.inBlock, Exit.then])
        refine bodyPost_ret (results_cell_row rfl _ _ w.heap.size 64 _ (0, 0) _ rfl (heap_alloc_new _ _) Tryz.underlying64 rfl (by kernel_rfl)) rfl ?_
        exact ⟨rfl, Below.alloc (Below.refl _ _) (Nat.le_refl _) _⟩
      · have b' : (y == 0) = false := by rw [beq_eq_false_iff_ne]; exact b
        rw [if_pos rfl, if_neg b] at hc
        rw [hm, he, hc]
        show Calls _ _ _ _ fun e w' => e = .returned (partsOf _ 1 y (-1074)) ∧ _
        go_enter Tryz.func46, Tryz.ntmps46
        go_wp2_with fail
        (try simp only [Exit.inBlock, Exit.then])
        refine bodyPost_ret (results_cell_row rfl _ _ w.heap.size 64 _ (0, 0) _ rfl (heap_alloc_new _ _) Tryz.underlying64 rfl (by kernel_rfl)) rfl ?_
        exact ⟨rfl, Below.alloc (Below.refl _ _) (Nat.le_refl _) _⟩
    · have a' : (f == 0) = false := by rw [beq_eq_false_iff_ne]; exact a
      have ap : 0 < f := by omega
      by_cases a2 : f = 2047
      · subst a2
        by_cases b : y = 0
        · subst b
          rw [if_neg a, if_pos rfl, if_pos rfl] at hc
          rw [hm, he, hc]
          show Calls _ _ _ _ fun e w' => e = .returned (partsOf _ 3 0 0) ∧ _
          go_enter Tryz.func46, Tryz.ntmps46
          go_wp2_with fail
          (try simp only [Exit.inBlock, Exit.then])
          refine bodyPost_ret (results_cell_row rfl _ _ w.heap.size 64 _ (0, 0) _ rfl (heap_alloc_new _ _) Tryz.underlying64 rfl (by kernel_rfl)) rfl ?_
          exact ⟨rfl, Below.alloc (Below.refl _ _) (Nat.le_refl _) _⟩
        · have b' : (y == 0) = false := by rw [beq_eq_false_iff_ne]; exact b
          rw [if_neg a, if_pos rfl, if_neg b] at hc
          rw [hm, he, hc]
          show Calls _ _ _ _ fun e w' => e = .returned (partsOf _ 4 y 0) ∧ _
          go_enter Tryz.func46, Tryz.ntmps46
          go_wp2_with fail
          (try simp only [Exit.inBlock, Exit.then])
          refine bodyPost_ret (results_cell_row rfl _ _ w.heap.size 64 _ (0, 0) _ rfl (heap_alloc_new _ _) Tryz.underlying64 rfl (by kernel_rfl)) rfl ?_
          exact ⟨rfl, Below.alloc (Below.refl _ _) (Nat.le_refl _) _⟩
      · have a2' : (f == 2047) = false := by rw [beq_eq_false_iff_ne]; exact a2
        rw [if_neg a, if_neg a2] at hc
        rw [hm, he, hc]
        show Calls _ _ _ _ fun e w' => e = .returned (partsOf _ 2 (4503599627370496 + y) (f - 1075)) ∧ _
        go_enter Tryz.func46, Tryz.ntmps46
        go_wp2_with fail
        (try simp only [Exit.inBlock, Exit.then])
        refine bodyPost_ret (results_cell_row rfl _ _ w.heap.size 64 _ (0, 0) _ rfl (heap_alloc_new _ _) Tryz.underlying64 rfl (by kernel_rfl)) rfl ?_
        exact ⟨rfl, Below.alloc (Below.refl _ _) (Nat.le_refl _) _⟩
end Go.Proofs.YtljpmddjcfkonaaGreatDoor

namespace Go.Proofs.YtljpmddjcfkonaaGreatDoor
open Go.RowKit Go.Deep

theorem cmp_at3 {zs ys : List Int} (hz : Nm.Limbs zs) (hy : Nm.Limbs ys) (hl : (Nm.trim zs).length = (Nm.trim ys).length) (t : Nat) (ht : t < (Nm.trim zs).length) (he : ∀ i, t + 1 ≤ i → (Nm.trim zs).getD i 0 = (Nm.trim ys).getD i 0) {x y : Int}
    (hx : x = (Nm.trim zs).getD t 0) (hy' : y = (Nm.trim ys).getD t 0) : (x < y → cmpI (Nm.val zs) (Nm.val ys) = -1) ∧ (y < x → cmpI (Nm.val zs) (Nm.val ys) = 1) := by
  refine ⟨fun h => ?_, fun h => ?_⟩
  · rw [← cmp_at hz hy hl t ht he hx hy' (by omega)]
    simp [sgn]; omega
  · rw [← cmp_at hz hy hl t ht he hx hy' (by omega)]
    simp [sgn, h]

set_option maxRecDepth 100000 in
set_option maxHeartbeats 2000000 in
theorem refCmp_any (p q : Option Addr) (n cap m cap' : Nat) (zs ys : List Int) (w : World) (ha : Arg w p n cap zs) (hb : Arg w q m cap' ys) :
    Calls Tryz.prog 42 #[.slice p n cap, .slice q m cap'] w fun e w' => e = .returned (.int .i64 (cmpI (Nm.val zs) (Nm.val ys))) ∧ Below w.heap.size w w' := by
  obtain ⟨a1, a2, a3, a4, a5⟩ := ha
  obtain ⟨b1, b2, b3, b4, b5⟩ := hb
  have tl := Nm.tsize_le zs
  have tl' := Nm.tsize_le ys
  have S1 := hid (refSize_any p n cap zs w a1 (by omega) a4)
  have S2 := hid (refSize_any q m cap' ys w b1 (by omega) b4)
  by_cases h1 : Nm.tsize zs < Nm.tsize ys
  · have E := hid (cmpI_lt (val_lt_of_tsize a5 b5 h1))
    have h1' : (Nm.tsize zs : Int) < (Nm.tsize ys : Int) := by omega
    clear h1
    go_enter Tryz.func42, Tryz.ntmps42
    go_wp2_with fail
    refine S1.out.mono ?_
    rintro e w' ⟨rfl, rfl⟩
    go_wp2_with fail
    refine S2.out.mono ?_
    rintro e w' ⟨rfl, rfl⟩
    go_wp2
    go_ret
    exact ⟨ret_i64 E.out.symm, Below.refl _ _⟩
  by_cases h2 : Nm.tsize ys < Nm.tsize zs
  · have E := hid (cmpI_gt (val_lt_of_tsize b5 a5 h2))
    have h1' : ¬ (Nm.tsize zs : Int) < (Nm.tsize ys : Int) := by omega
    have h2' : (Nm.tsize ys : Int) < (Nm.tsize zs : Int) := by omega
    clear h1 h2
    go_enter Tryz.func42, Tryz.ntmps42
    go_wp2_with fail
    refine S1.out.mono ?_
    rintro e w' ⟨rfl, rfl⟩
    go_wp2_with fail
    refine S2.out.mono ?_
    rintro e w' ⟨rfl, rfl⟩
    go_wp2
    go_ret
    exact ⟨ret_i64 E.out.symm, Below.refl _ _⟩
  obtain ⟨N, HN⟩ : ∃ N, Hid (Nm.tsize zs = N) := ⟨_, rfl⟩
  have HN' : Hid (Nm.tsize ys = N) := by have := HN.out; exact (show Nm.tsize ys = N by omega)
  have T1 := S1.out
  have T2 := S2.out
  rw [HN.out] at T1
  rw [HN'.out] at T2
  have HT1 := hid T1
  have HT2 := hid T2
  have hN : N ≤ 17592186044416 := by have := HN.out; omega
  have L1 := hid (Nm.trim_length zs)
  have L2 := hid (Nm.trim_length ys)
  clear h1 h2 tl tl' T1 T2 S1 S2
  have FIN : Hid (Nm.trim zs = Nm.trim ys → cmpI (Nm.val zs) (Nm.val ys) = 0) := fun h => cmpI_eq (by rw [← Nm.val_trim zs, ← Nm.val_trim ys, h])
  by_cases h0 : N = 0
  · subst h0
    go_enter Tryz.func42, Tryz.ntmps42
    go_wp2_with fail
    refine HT1.out.mono ?_
    rintro e w' ⟨rfl, rfl⟩
    go_wp2_with fail
    refine HT2.out.mono ?_
    rintro e w' ⟨rfl, rfl⟩
    go_wp2_with fail
    refine wp_loop_rounds 1 ?_
    rw [rounds_succ]
    go_wp2
    go_ret
    exact ⟨ret_i64 (FIN.out (by rw [List.eq_nil_of_length_eq_zero (L1.out.trans HN.out), List.eq_nil_of_length_eq_zero (L2.out.trans HN'.out)])).symm, Below.refl _ _⟩
  · obtain ⟨b, off, rfl, hbw, HC⟩ := a4.trim.at (by have := L1.out; have := HN.out; omega)
    obtain ⟨b', off', rfl, hbw', HC'⟩ := b4.trim.at (by have := L2.out; have := HN'.out; omega)
    have hNn : N ≤ n := by have := HN.out; have := Nm.tsize_le zs; omega
    have hNm : N ≤ m := by have := HN'.out; have := Nm.tsize_le ys; omega
    go_enter Tryz.func42, Tryz.ntmps42
    go_wp2_with fail
    refine HT1.out.mono ?_
    rintro e w' ⟨rfl, rfl⟩
    go_wp2_with fail
    refine HT2.out.mono ?_
    rintro e w' ⟨rfl, rfl⟩
    go_wp2_with fail
    go_loopw [7] (fun i wr => ∃ j : Nat, j ≤ N ∧ i = .int .i64 ((j : Int) - 1) ∧ Hid (∀ t, j ≤ t → (Nm.trim zs).getD t 0 = (Nm.trim ys).getD t 0) ∧ Below w'.heap.size w' wr) (fun i _ => (intOf i + 1).toNat)
    case atStart => exact ⟨N, Nat.le_refl _, rfl, fun t ht => by rw [List.getD, List.getElem?_eq_none (by have := L1.out; have := HN.out; omega), List.getD, List.getElem?_eq_none (by have := L2.out; have := HN'.out; omega)], Below.refl _ _⟩
    case round =>
      obtain ⟨j, hj, rfl, hE, hB⟩ := hrel
      by_cases hj0 : j = 0
      · subst hj0
        have HB := hid hB
        clear hB
        go_wp2
        go_ret
        refine ⟨ret_i64 (FIN.out ?_).symm, HB.out⟩
        have e := Nm.drop_eq_of_getD (by rw [L1.out, L2.out, HN.out, HN'.out]) 0 hE.out
        simpa using e
      · obtain ⟨t, rfl⟩ : ∃ t, j = t + 1 := ⟨j - 1, by omega⟩
        obtain ⟨x, hx, X⟩ : ∃ x, wr.cell? ⟨b, off + t, none⟩ = some (.int .u64 x) ∧ Hid (x = (Nm.trim zs).getD t 0) := ⟨_, (hB.cell (p := ⟨b, off + t, none⟩) hbw).trans (HC.out t (by have := L1.out; have := HN.out; omega)), rfl⟩
        obtain ⟨y, hy, Y⟩ : ∃ y, wr.cell? ⟨b', off' + t, none⟩ = some (.int .u64 y) ∧ Hid (y = (Nm.trim ys).getD t 0) := ⟨_, (hB.cell (p := ⟨b', off' + t, none⟩) hbw').trans (HC'.out t (by have := L2.out; have := HN'.out; omega)), rfl⟩
        have HB := hid hB
        have CM := hid (cmp_at3 a5 b5 (by rw [L1.out, L2.out, HN.out, HN'.out]) t (by rw [L1.out, HN.out]; omega) hE.out X.out Y.out)
        clear hB
        have htn : (t : Int) < (n : Int) := by omega
        have htm : (t : Int) < (m : Int) := by omega
        by_cases hxy : x < y
        · go_wp2_with fail
          go_quiet (fail)
          go_wp2
          go_ret
          exact ⟨ret_i64 (CM.out.1 hxy).symm, below_drewN HB.out _⟩
        · go_wp2_with fail
          go_quiet (fail)
          have hx2 : (wr.drewN nq).cell? ⟨b, off + t, none⟩ = some (.int .u64 x) := hx
          have hy2 : (wr.drewN nq).cell? ⟨b', off' + t, none⟩ = some (.int .u64 y) := hy
          have HB2 := hid (below_drewN HB.out nq)
          clear hx hy HB
          generalize wr.drewN nq = wq at *
          by_cases hyx : y < x
          · go_wp2_with fail
            go_quiet (fail)
            go_wp2
            go_ret
            exact ⟨ret_i64 (CM.out.2 hyx).symm, below_drewN HB2.out _⟩
          · have EQ : Hid (x = y) := by show _ = _; omega
            go_wp2_with fail
            go_quiet (fail)
            go_wp2
            go_roundw
            case rel =>
              refine ⟨t, by omega, by go_num, fun i hi => ?_, below_drewN HB2.out _⟩
              by_cases e : i = t
              · subst e; rw [← X.out, ← Y.out]; exact EQ.out
              · exact hE.out i (by omega)
            case measure => simp [intOf]
end Go.Proofs.YtljpmddjcfkonaaGreatDoor

namespace Go.Proofs.YtljpmddjcfkonaaGreatDoor
open Go.RowKit Go.Deep


set_option maxRecDepth 20000 in
set_option maxRecDepth 100000 in
set_option maxHeartbeats 4000000 in
theorem times_any (p q : Option Addr) (n cap m cap' : Nat) (za zb : List Int) (w : World) (ha : Arg w p n cap za) (hb : Arg w q m cap' zb) (hn : Nm.tsize za ≤ 1099511627776) (hm : Nm.tsize zb ≤ 1099511627776) :
    Calls Tryz.prog 45 #[.slice p n cap, .slice q m cap'] w fun e w' => ∃ r os, e = .returned (.slice r (List.length os) (List.length os)) ∧ Ans w.heap.size w' r os (Nm.val za * Nm.val zb) ∧ Below w.heap.size w w' := by
  have HA := hid ha
  have HB0 := hid hb
  clear ha hb
  go_enter Tryz.func45, Tryz.ntmps45
  go_wp2_with fail
  refine (halves_any p n cap za _ HA.out (by have := HA.out.2.1; have := HA.out.2.2.1; omega)).mono ?_
  rintro e w1 ⟨xs, rfl, lx, hx, vx, kx, bx⟩
  have HB1 := hid (HB0.out.below bx (Nat.le_refl _))
  have D1 := hid bx
  obtain ⟨l1, LX⟩ : ∃ l1, Hid (xs.length = l1) := ⟨_, rfl⟩
  have LX0 := hid lx
  have HX := hid hx
  have VX := hid vx
  have kx1 : l1 ≤ 2 * Nm.tsize za := by have := LX.out; omega
  rw [LX.out]
  clear lx hx vx kx bx HB0
  go_wp2_with fail
  refine (halves_any q m cap' zb _ HB1.out (by have := HB1.out.2.1; have := HB1.out.2.2.1; omega)).mono ?_
  rintro e w2 ⟨ys, rfl, ly, hy, vy, ky, by_⟩
  have D2 := hid (chain D1.out by_ (Nat.le_refl _))
  obtain ⟨l2, LY⟩ : ∃ l2, Hid (ys.length = l2) := ⟨_, rfl⟩
  have HY := hid hy
  have VY := hid vy
  have ky1 : l2 ≤ 2 * Nm.tsize zb := by have := LY.out; omega
  obtain ⟨g1, G1⟩ : ∃ g1, w.heap.size = g1 := ⟨_, rfl⟩
  obtain ⟨g2, G2⟩ : ∃ g2, w1.heap.size = g2 := ⟨_, rfl⟩
  have LX2 := LX0.out.below by_ (Nat.le_refl _)
  rw [G1] at LX2
  have ly2 := ly
  rw [G2] at ly2
  have CX : Hid (∀ i, i < l1 → w2.cell? ⟨g1, i, none⟩ = some (.int .u64 (xs.getD i 0))) := fun i hi => by have := LX2.cells i (by have := LX.out; omega); rwa [Nat.zero_add] at this
  have CY : Hid (∀ i, i < l2 → w2.cell? ⟨g2, i, none⟩ = some (.int .u64 (ys.getD i 0))) := fun i hi => by have := ly2.cells i (by have := LY.out; omega); rwa [Nat.zero_add] at this
  obtain ⟨g, Gg⟩ : ∃ g, Hid (w2.heap.size = g) := ⟨_, rfl⟩
  have BX : Hid (∀ {j : Nat}, j < l1 → g1 < g) := fun {j} hj => by rw [← Gg.out]; exact cell_lt (CX.out j hj)
  have BY : Hid (∀ {j : Nat}, j < l2 → g2 < g) := fun {j} hj => by rw [← Gg.out]; exact cell_lt (CY.out j hj)
  rw [LY.out, G1, G2]
  clear ly hy vy ky by_ LX0 LX2 ly2 HB1 D1 G2
  by_cases hz : l1 = 0 ∨ l2 = 0
  · have V0 : Hid (Nm.val za * Nm.val zb = 0) := by
      rw [Hid, ← VX.out, ← VY.out]
      rcases hz with h | h
      · rw [List.eq_nil_of_length_eq_zero (LX.out.trans h)]; simp [Nm.v32]
      · rw [List.eq_nil_of_length_eq_zero (LY.out.trans h)]; simp [Nm.v32]
    have bm := (Below.refl w2.heap.size w2).alloc (Nat.le_refl _) (.cells #[] 23)
    have D3 := hid (chain D2.out bm (Nat.le_refl _))
    have GS : Hid (w.heap.size ≤ g) := by rw [← Gg.out]; exact D2.out.size
    clear bm
    have fin : ∀ x : World, Below w.heap.size w x → ∃ r os, Ending.returned (.slice (some ⟨g, 0, none⟩) 0 0) = .returned (.slice r (List.length os) (List.length os)) ∧ Ans w.heap.size x r os (Nm.val za * Nm.val zb) ∧ Below w.heap.size w x := fun x hx => ⟨some ⟨g, 0, none⟩, [], rfl, ⟨Lies.nil _ _, Nm.Limbs.nil, rfl, V0.out.symm, fun a h => by cases h; exact GS.out⟩, hx⟩
    have FIN := hid fin
    clear fin
    by_cases h1 : l1 = 0
    · subst h1
      go_wp2
      go_ret
      rw [Gg.out]
      exact FIN.out _ D3.out
    · have h2 : l2 = 0 := by omega
      subst h2
      have h1' : ¬ (l1 : Int) = 0 := by omega
      have h1'' : ((l1 : Int) == 0) = false := by rw [beq_eq_false_iff_ne]; exact h1'
      go_wp2
      go_ret
      rw [Gg.out]
      exact FIN.out _ D3.out
  · have h1 : ¬ (l1 : Int) = 0 := by omega
    have h2 : ¬ (l2 : Int) = 0 := by omega
    have h1' : ((l1 : Int) == 0) = false := by rw [beq_eq_false_iff_ne]; exact h1
    have h2' : ((l2 : Int) == 0) = false := by rw [beq_eq_false_iff_ne]; exact h2
    have hmk := make64 (l1 + l2) (by omega) w2
    rw [show ((l1 + l2 : Nat) : Int) = (l1 : Int) + (l2 : Int) by omega, Gg.out] at hmk
    have bm := hid ((Below.refl w2.heap.size w2).alloc (Nat.le_refl _) (.cells (madeCells #[.int .u64 0] (l1 + l2)) 23))
    have gm : Own (w2.alloc (.cells (madeCells #[.int .u64 0] (l1 + l2)) 23)) w2.heap.size (List.replicate (l1 + l2) 0) := by rw [made_zero]; exact Own.alloc w2 _
    rw [Gg.out] at bm gm
    generalize w2.alloc (.cells (madeCells #[.int .u64 0] (l1 + l2)) 23) = wm at hmk bm gm
    have I0 : Hid (TimesInv g (l1 + l2) w2 (Nm.v32 (xs.take 0) * Nm.v32 ys) 0 0 (0 + l2) (List.replicate (l1 + l2) 0) wm) := ⟨gm, by simp, Nm.Halves.zeros _, by rw [Nm.v32_zeros]; simp [Nm.v32], fun t _ => getD_replicate _ _, bm.out⟩
    clear gm bm hz
    go_wp2
    clear hmk
    obtain ⟨K, HK⟩ : ∃ K, Hid (l1 + l2 = K) := ⟨_, rfl⟩
    have I1 := I0.out
    rw [HK.out] at I1 ⊢
    have J0 := hid I1
    clear I0 I1
    have hKb : K ≤ 35184372088832 := by have := HK.out; omega
    go_loopw [8] (fun i wr => ∃ (k : Nat) (ps : List Int), k ≤ l1 ∧ i = .int .i64 k ∧ Hid (TimesInv g K w2 (Nm.v32 (xs.take k) * Nm.v32 ys) 0 k (k + l2) ps wr)) (fun i _ => l1 - (intOf i).toNat)
    case atStart => exact ⟨0, _, Nat.zero_le _, rfl, J0.out⟩
    case round =>
      obtain ⟨k, ps, hk, rfl, TI⟩ := hrel
      by_cases hlt : k < l1
      · have hlt' : (k : Int) < (l1 : Int) := by omega
        obtain ⟨x, X⟩ : ∃ x, Hid (x = xs.getD k 0) := ⟨_, rfl⟩
        have hx0 : 0 ≤ x := by have := HX.out.at k; have := X.out; omega
        have hx1 : x < 4294967296 := by have := HX.out.at k; have := X.out; omega
        obtain ⟨V, HV⟩ : ∃ V, Hid (V = Nm.v32 (xs.take k) * Nm.v32 ys) := ⟨_, rfl⟩
        have TJ : Hid (TimesInv g K w2 (V + Nm.p32 k * (x * Nm.v32 (ys.take 0))) 0 (k + 0) (k + l2) ps wr) := by
          have h := TI.out
          rw [← HV.out] at h
          simp only [List.take_zero, Nm.v32, Int.mul_zero, Int.add_zero, Nat.add_zero]
          exact h
        clear TI
        go_wp2_with fail
        go_loopw [9, 10] (fun c j wr => ∃ (t : Nat) (cc : Int) (ps : List Int), t ≤ l2 ∧ j = .int .i64 t ∧ c = .int .u64 cc ∧ 0 ≤ cc ∧ cc < 4294967296 ∧ Hid (TimesInv g K w2 (V + Nm.p32 k * (x * Nm.v32 (ys.take t))) cc (k + t) (k + l2) ps wr)) (fun _ j _ => l2 - (intOf j).toNat)
        case atStart => exact ⟨0, 0, ps, Nat.zero_le _, rfl, rfl, by omega, by omega, TJ.out⟩
        case round =>
          clear TJ ps
          obtain ⟨t, cc, ps, ht, rfl, rfl, hc0, hc1, TI⟩ := hrel
          obtain ⟨o1, o2, o3, o4, o5, o6⟩ := TI.out
          by_cases htl : t < l2
          · have htl' : (t : Int) < (l2 : Int) := by omega
            have hx : wr.cell? ⟨g1, k, none⟩ = some (.int .u64 x) := by rw [X.out]; exact (o6.cell (p := ⟨g1, k, none⟩) (BX.out hlt)).trans (CX.out k hlt)
            obtain ⟨y, hy, Y⟩ : ∃ y, wr.cell? ⟨g2, t, none⟩ = some (.int .u64 y) ∧ Hid (y = ys.getD t 0) := ⟨_, (o6.cell (p := ⟨g2, t, none⟩) (BY.out htl)).trans (CY.out t htl), rfl⟩
            have hkt : k + t < K := by have := HK.out; omega
            obtain ⟨pv, hpv, PV⟩ : ∃ pv, wr.cell? ⟨g, k + t, none⟩ = some (.int .u64 pv) ∧ Hid (pv = ps.getD (k + t) 0) := ⟨_, o1.cell (k + t) (by omega), rfl⟩
            have hfr := o1.free (k + t)
            have hy0 : 0 ≤ y := by have := HY.out.at t; have := Y.out; omega
            have hy1 : y < 4294967296 := by have := HY.out.at t; have := Y.out; omega
            have hp0 : 0 ≤ pv := by have := o3.at (k + t); have := PV.out; omega
            have hp1 : pv < 4294967296 := by have := o3.at (k + t); have := PV.out; omega
            have hxy0 : 0 ≤ x * y := Int.mul_nonneg hx0 hy0
            have hxy1 : x * y ≤ 4294967295 * 4294967295 := Int.mul_le_mul (by omega) (by omega) hy0 (by omega)
            obtain ⟨m0, hm0, M0⟩ : ∃ m0, IntKind.u64.wrap (x * y) = m0 ∧ Hid (m0 = x * y) := ⟨_, by rw [IntKind.wrap_u64, Int.emod_eq_of_lt (by omega) (by omega)], rfl⟩
            have hm00 : 0 ≤ m0 := by have := M0.out; omega
            have hm01 : m0 ≤ 18446744065119617025 := by have := M0.out; omega
            obtain ⟨m1, hm1, M1⟩ : ∃ m1, IntKind.u64.wrap (m0 + pv) = m1 ∧ Hid (m1 = m0 + pv) := ⟨_, by rw [IntKind.wrap_u64, Int.emod_eq_of_lt (by omega) (by omega)], rfl⟩
            have hm10 : 0 ≤ m1 := by have := M1.out; omega
            have hm11 : m1 ≤ 18446744069414584320 := by have := M1.out; omega
            obtain ⟨tt, htt, TT⟩ : ∃ tt, IntKind.u64.wrap (m1 + cc) = tt ∧ Hid (tt = m1 + cc) := ⟨_, by rw [IntKind.wrap_u64, Int.emod_eq_of_lt (by omega) (by omega)], rfl⟩
            have htt0 : 0 ≤ tt := by have := TT.out; omega
            have htt1 : tt ≤ 18446744073709551615 := by have := TT.out; omega
            obtain ⟨lo, hlo, LO⟩ : ∃ lo, bits .and .u64 tt 4294967295 = lo ∧ Hid (lo = tt % 4294967296) := ⟨_, r_mask32 tt (by omega) (by omega), rfl⟩
            obtain ⟨hi, hhi, HI⟩ : ∃ hi, tt / 4294967296 = hi ∧ Hid (hi = tt / 4294967296) := ⟨_, rfl, rfl⟩
            have BLO : Hid ((0 ≤ lo ∧ lo < 4294967296) ∧ 0 ≤ hi ∧ hi < 4294967296) := by have := LO.out; have := HI.out; show _ ∧ _; omega
            have ST : Hid (lo + 4294967296 * hi = x * ys.getD t 0 + pv + cc) := by
              have h1 := LO.out; have h2 := HI.out; have h3 := TT.out; have h4 := M1.out; have h5 := M0.out
              rw [Hid, ← Y.out]; omega
            have O1 := hid o1
            have O2 := hid o2
            have O3 := hid o3
            have O4 := hid o4
            have O5 := hid o5
            have O6 := hid o6
            have hkt' : (k : Int) + (t : Int) < (K : Int) := by omega
            clear o1 o2 o3 o4 o5 o6 TI hxy0 hxy1
            go_wp2_with fail
            go_quiet (fail)
            have hpv2 : (wr.drewN nq).cell? ⟨g, k + t, none⟩ = some (.int .u64 pv) := hpv
            have hfr2 : (wr.drewN nq).frozen? ⟨g, k + t, none⟩ = false := hfr
            have P1 : Hid (Own (wr.drewN nq) g ps) := O1.out
            have P6 := hid (below_drewN O6.out nq)
            clear hx hy hpv hfr O1 O6
            generalize wr.drewN nq = wq at *
            go_wp2
            go_roundw
            case rel =>
              refine ⟨t + 1, hi, ps.set (k + t) lo, by omega, by go_num, by first | rfl | rw [hhi], BLO.out.2.1, BLO.out.2.2, P1.out.set _ _, by rw [List.length_set]; exact O2.out, O3.out.set _ BLO.out.1.1 BLO.out.1.2, ?_, ?_, P6.out.setCell (Nat.le_refl _) _⟩
              · exact Nm.times_digit (by have := O2.out; omega) PV.out O4.out ST.out
              · intro s hs
                rw [Nm.getD_set ps (k + t) s lo (by have := O2.out; omega), if_neg (by omega)]
                exact O5.out s hs
            case measure => simp [intOf]; omega
          · have htl' : ¬ (t : Int) < (l2 : Int) := by omega
            obtain rfl : t = l2 := by omega
            rw [List.take_of_length_le (by have := LY.out; omega)] at o4
            have hkt : k + t < K := by have := HK.out; omega
            obtain ⟨pv, hpv⟩ : ∃ pv, wr.cell? ⟨g, k + t, none⟩ = some (.int .u64 pv) := ⟨_, o1.cell (k + t) (by omega)⟩
            have hfr := o1.free (k + t)
            have Z0 := o5 (k + t) (Nat.le_refl _)
            have NX : Hid (TimesInv g K w2 (Nm.v32 (xs.take (k + 1)) * Nm.v32 ys) 0 (k + 1) (k + 1 + t) (ps.set (k + t) cc) (wr.setCell ⟨g, k + t, none⟩ (.int .u64 cc))) := by
              refine ⟨o1.set _ _, by rw [List.length_set]; exact o2, o3.set _ hc0 hc1, ?_, ?_, o6.setCell (Nat.le_refl _) _⟩
              · rw [Nm.v32_set ps (k + t) cc (by omega), Z0, Nm.v32_take_next, ← X.out, Int.add_mul, ← HV.out, Int.mul_zero, Int.add_zero, Int.sub_zero, Int.mul_assoc]
                exact o4
              · intro s hs
                rw [Nm.getD_set ps (k + t) s cc (by omega), if_neg (by omega)]
                exact o5 s (by omega)
            have hkt' : (k : Int) + (t : Int) < (K : Int) := by omega
            clear o1 o2 o3 o4 o5 o6 TI Z0
            go_wp2
            go_roundw
            case rel => exact ⟨k + 1, _, by omega, by go_num, NX.out⟩
            case measure => simp [intOf]; omega
      · have hlt' : ¬ (k : Int) < (l1 : Int) := by omega
        obtain rfl : k = l1 := by omega
        obtain ⟨o1, o2, o3, o4, o5, o6⟩ := TI.out
        rw [List.take_of_length_le (by have := LX.out; omega), VX.out, VY.out, Int.mul_zero, Int.add_zero] at o4
        have D3 := hid (chain D2.out (by rw [Gg.out]; exact o6) (Nat.le_refl _))
        have AG : Hid (Arg wr (some ⟨g, 0, none⟩) K K ps) := ⟨o2, Nat.le_refl _, by have := HK.out; omega, o1.lies, o3.limbs⟩
        have hw3 : Hid (w.heap.size ≤ wr.heap.size) := D3.out.size
        have HV := hid o4
        have HS := hid o3
        clear o1 o2 o3 o4 o5 o6 TI
        go_wp2_with fail
        refine (rlimbs_any _ K K ps _ AG.out HS.out).mono ?_
        rintro e w4 ⟨r, os, rfl, hA, hb⟩
        rw [HV.out] at hA
        have A4 := hid (hA.mono hw3.out)
        have D4 := hid (chain D3.out hb (Nat.le_refl _))
        clear hA hb
        go_wp2
        go_ret
        exact ⟨r, os, rfl, A4.out, D4.out⟩
end Go.Proofs.YtljpmddjcfkonaaGreatDoor

namespace Go.Proofs.YtljpmddjcfkonaaGreatDoor
open Go.RowKit Go.Deep

namespace Nm
theorem p32_pow : ∀ z, p32 z = 2 ^ (32 * z)
  | 0 => rfl
  | z + 1 => by
    rw [show 32 * (z + 1) = 32 * z + 32 by omega, two_add, ← p32_pow z]
    simp only [p32]
    rw [Int.mul_comm, show (2 : Int) ^ 32 = 4294967296 by decide]

theorem lift_step {ss xs : List Int} {z j : Nat} {F c c' lo : Int} (hl : ss.length = z + j) (h : v32 ss + p32 (z + j) * c = p32 z * (F * v32 (xs.take j))) (hs : lo + 4294967296 * c' = xs.getD j 0 * F + c) :
    v32 (ss ++ [lo]) + p32 (z + (j + 1)) * c' = p32 z * (F * v32 (xs.take (j + 1))) := by
  rw [v32_snoc, v32_take_next, hl, Int.mul_add F, Int.mul_add (p32 z)]
  have e1 : p32 (z + (j + 1)) * c' = p32 (z + j) * (4294967296 * c') := by
    rw [← Nat.add_assoc]; simp only [p32]; rw [Int.mul_comm 4294967296 (p32 (z + j)), Int.mul_assoc]
  have e2 : p32 z * (F * (p32 j * xs.getD j 0)) = p32 (z + j) * (xs.getD j 0 * F) := by
    rw [p32_add, Int.mul_left_comm F, ← Int.mul_assoc, Int.mul_comm F]
  have e3 : p32 (z + j) * (lo + 4294967296 * c') = p32 (z + j) * (xs.getD j 0 * F + c) := by rw [hs]
  rw [Int.mul_add, Int.mul_add] at e3
  omega
end Nm

set_option maxRecDepth 20000 in
set_option maxRecDepth 100000 in
set_option maxHeartbeats 4000000 in
theorem lift_any (p : Option Addr) (n cap : Nat) (za : List Int) (kk : Int) (k : Nat) (w : World) (ha : Arg w p n cap za) (hn : Nm.tsize za ≤ 1099511627776) (hkk : kk = (k : Int)) (hk : k ≤ 4194304) :
    Calls Tryz.prog 25 #[.slice p n cap, .int .i64 kk] w fun e w' => ∃ r os, e = .returned (.slice r (List.length os) (List.length os)) ∧ Ans w.heap.size w' r os (Nm.val za * 2 ^ k) ∧ Below w.heap.size w w' := by
  have HA := hid ha
  have hk0 : 0 ≤ kk := by omega
  have hk1 : kk ≤ 4194304 := by omega
  obtain ⟨z, HZ⟩ : ∃ z : Nat, Hid (kk / 32 = (z : Int) ∧ z = k / 32) := ⟨k / 32, by show _ ∧ _; omega⟩
  obtain ⟨r, HR⟩ : ∃ r : Nat, Hid (kk % 32 = (r : Int) ∧ r = k % 32) := ⟨k % 32, by show _ ∧ _; omega⟩
  have KZ : Hid (k = 32 * z + r) := by have := HZ.out; have := HR.out; show _ = _; omega
  have hz8 : z ≤ 131072 := by have := HZ.out; omega
  have hr31 : r ≤ 31 := by have := HR.out; omega
  clear ha hkk hk
  go_enter Tryz.func25, Tryz.ntmps25
  go_wp2_with fail
  refine (halves_any p n cap za _ HA.out (by have := HA.out.2.1; have := HA.out.2.2.1; omega)).mono ?_
  rintro e w1 ⟨xs, rfl, lx, hx, vx, kx, bx⟩
  have D1 := hid bx
  obtain ⟨l1, LX⟩ : ∃ l1, Hid (xs.length = l1) := ⟨_, rfl⟩
  have HX := hid hx
  have VX := hid vx
  have kx1 : l1 ≤ 2 * Nm.tsize za := by have := LX.out; omega
  obtain ⟨g1, G1⟩ : ∃ g1, w.heap.size = g1 := ⟨_, rfl⟩
  have lx2 := lx
  rw [G1] at lx2
  have CX : Hid (∀ i, i < l1 → w1.cell? ⟨g1, i, none⟩ = some (.int .u64 (xs.getD i 0))) := fun i hi => by have := lx2.cells i (by have := LX.out; omega); rwa [Nat.zero_add] at this
  obtain ⟨g, Gg⟩ : ∃ g, Hid (w1.heap.size = g) := ⟨_, rfl⟩
  have BX : Hid (∀ {j : Nat}, j < l1 → g1 < g) := fun {j} hj => by rw [← Gg.out]; exact cell_lt (CX.out j hj)
  rw [LX.out, G1]
  clear lx lx2 hx vx kx bx
  by_cases hz : l1 = 0
  · have V0 : Hid (Nm.val za * 2 ^ k = 0) := by
      rw [Hid, ← VX.out, List.eq_nil_of_length_eq_zero (LX.out.trans hz)]; simp [Nm.v32]
    have D3 := hid (chain D1.out ((Below.refl w1.heap.size w1).alloc (Nat.le_refl _) (.cells #[] 23)) (Nat.le_refl _))
    have GS : Hid (w.heap.size ≤ g) := by rw [← Gg.out]; exact D1.out.size
    have FIN : Hid (∀ x : World, Below w.heap.size w x → ∃ r os, Ending.returned (.slice (some ⟨g, 0, none⟩) 0 0) = .returned (.slice r (List.length os) (List.length os)) ∧ Ans w.heap.size x r os (Nm.val za * 2 ^ k) ∧ Below w.heap.size w x) := fun x hx => ⟨some ⟨g, 0, none⟩, [], rfl, ⟨Lies.nil _ _, Nm.Limbs.nil, rfl, V0.out.symm, fun a h => by cases h; exact GS.out⟩, hx⟩
    subst hz
    go_wp2
    go_ret
    rw [Gg.out]
    exact FIN.out _ D3.out
  · have h1' : ((l1 : Int) == 0) = false := by rw [beq_eq_false_iff_ne]; omega
    obtain ⟨C, HC⟩ : ∃ C, Hid (z + l1 + 1 = C) := ⟨_, rfl⟩
    have hmk := make64_room (z + l1 + 1) (by omega) w1
    rw [show ((z + l1 + 1 : Nat) : Int) = kk / 32 + (l1 : Int) + 1 by have := HZ.out; omega, HC.out, Gg.out] at hmk
    have bm := hid ((Below.refl w1.heap.size w1).alloc (Nat.le_refl _) (.cells (madeCells #[.int .u64 0] C) 23))
    have gm := hid (Grown.made w1 C)
    rw [Gg.out] at bm gm
    generalize w1.alloc (.cells (madeCells #[.int .u64 0] C) 23) = wm at hmk bm gm
    have hCb : C ≤ 35184372088832 := by have := HC.out; omega
    go_wp2
    clear hmk
    go_loopw [6, 7] (fun a i wr => ∃ j : Nat, j ≤ z ∧ i = .int .i64 j ∧ a = .slice (some ⟨g, 0, none⟩) j C ∧ Hid (Grown wr g (List.replicate j 0) (C - j)) ∧ Below g w1 wr) (fun _ i _ => z - (intOf i).toNat)
    case atStart => exact ⟨0, Nat.zero_le _, rfl, rfl, gm.out, bm.out⟩
    case round =>
      obtain ⟨j, hj, rfl, rfl, G, hB⟩ := hrel
      by_cases hlt : j < z
      · have hlt' : (j : Int) < kk / 32 := by have := HZ.out; omega
        have G' := G.out
        rw [show C - j = (C - j - 1) + 1 by have := HC.out; omega] at G'
        obtain ⟨w2, ap, gr, be, sz⟩ := push64 g j (C - j - 1) C (List.replicate j 0) 0 wr (by simp) (by have := HC.out; omega) G'
        have AP := hid ap
        have GR := hid gr
        have BE := hid (hB.trans be)
        clear ap gr be sz hB G G'
        go_wp2_with (at_builtin; refine wpList_append_row rfl _ _ rfl AP.out (by rfl) (by rfl) ?_; clear AP)
        go_roundw
        case rel =>
          refine ⟨j + 1, by omega, by go_num, rfl, ?_, BE.out⟩
          have := GR.out
          rw [← List.replicate_succ'] at this
          exact this
        case measure => simp [intOf]; omega
      · have hlt' : ¬ (j : Int) < kk / 32 := by have := HZ.out; omega
        obtain rfl : j = z := by omega
        have HB := hid hB
        clear hB
        go_wp2
        go_loop [8, 9] (fun f i => ∃ (t : Nat) (F : Int), t ≤ r ∧ i = .int .i64 t ∧ f = .int .u64 F ∧ 1 ≤ F ∧ F ≤ 2147483648 ∧ Hid (F = 2 ^ t)) (fun _ i => r - (intOf i).toNat)
        case atStart => exact ⟨0, 1, Nat.zero_le _, rfl, rfl, by omega, by omega, rfl⟩
        case round =>
          obtain ⟨t, F, ht, rfl, rfl, hF0, hF1, HF⟩ := hrel
          by_cases htl : t < r
          · have htl' : (t : Int) < kk % 32 := by have := HR.out; omega
            obtain ⟨F2, hF2, FF⟩ : ∃ F2, IntKind.u64.wrap (F * 2) = F2 ∧ Hid (F2 = F * 2) := ⟨_, by rw [IntKind.wrap_u64, Int.emod_eq_of_lt (by omega) (by omega)], rfl⟩
            have E2 : Hid (F2 = 2 ^ (t + 1)) := by rw [Hid, FF.out, HF.out, Nm.two_succ, Int.mul_comm]
            have hF20 : 1 ≤ F2 := by have := FF.out; omega
            have hF21 : F2 ≤ 2147483648 := by
              rw [E2.out]
              have := Nm.two_mono (show t + 1 ≤ 31 by omega)
              have e : (2 : Int) ^ 31 = 2147483648 := by decide
              omega
            go_wp2
            go_round
            case rel => exact ⟨t + 1, F2, by omega, by go_num, by first | rfl | rw [hF2], hF20, hF21, E2.out⟩
            case measure => simp [intOf]; omega
          · have htl' : ¬ (t : Int) < kk % 32 := by have := HR.out; omega
            obtain rfl : t = r := by omega
            have FV : Hid (Nm.p32 j * (F * Nm.v32 xs) = Nm.val za * 2 ^ k) := by
              rw [Hid, Nm.p32_pow, HF.out, VX.out, KZ.out, Nm.two_add, ← Int.mul_assoc, Int.mul_comm]
            go_wp2
            go_loopw [6, 10, 11] (fun a c i wr => ∃ (i' : Nat) (cc : Int) (ss : List Int), i' ≤ l1 ∧ i = .int .i64 i' ∧ a = .slice (some ⟨g, 0, none⟩) (j + i') C ∧ c = .int .u64 cc ∧ 0 ≤ cc ∧ cc < 4294967296 ∧ Hid (Grown wr g ss (C - (j + i'))) ∧ Hid (ss.length = j + i') ∧ Hid (Nm.Halves ss) ∧ Hid (Nm.v32 ss + Nm.p32 (j + i') * cc = Nm.p32 j * (F * Nm.v32 (xs.take i'))) ∧ Below g w1 wr) (fun _ _ i _ => l1 - (intOf i).toNat)
            case atStart => exact ⟨0, 0, List.replicate j 0, Nat.zero_le _, rfl, rfl, rfl, by omega, by omega, G.out, by simp [Hid], Nm.Halves.zeros _, by simp [Hid, Nm.v32_zeros, Nm.v32], HB.out⟩
            case round =>
              obtain ⟨i', cc, ss, hi', rfl, rfl, rfl, hc0, hc1, G3, L, HS, V, hB⟩ := hrel
              have G' := G3.out
              rw [show C - (j + i') = (C - (j + i') - 1) + 1 by have := HC.out; omega] at G'
              by_cases hl : i' < l1
              · have hl' : (i' : Int) < (l1 : Int) := by omega
                obtain ⟨x, hx, X⟩ : ∃ x, wr.cell? ⟨g1, i', none⟩ = some (.int .u64 x) ∧ Hid (x = xs.getD i' 0) := ⟨_, (hB.cell (p := ⟨g1, i', none⟩) (BX.out hl)).trans (CX.out i' hl), rfl⟩
                have hx0 : 0 ≤ x := by have := HX.out.at i'; have := X.out; omega
                have hx1 : x < 4294967296 := by have := HX.out.at i'; have := X.out; omega
                have hxf0 : 0 ≤ x * F := Int.mul_nonneg hx0 (by omega)
                have hxf1 : x * F ≤ 4294967295 * 2147483648 := Int.mul_le_mul (by omega) hF1 (by omega) (by omega)
                obtain ⟨m0, hm0, M0⟩ : ∃ m0, IntKind.u64.wrap (x * F) = m0 ∧ Hid (m0 = x * F) := ⟨_, by rw [IntKind.wrap_u64, Int.emod_eq_of_lt (by omega) (by omega)], rfl⟩
                have hm00 : 0 ≤ m0 := by have := M0.out; omega
                have hm01 : m0 ≤ 9223372034707292160 := by have := M0.out; omega
                obtain ⟨tt, htt, TT⟩ : ∃ tt, IntKind.u64.wrap (m0 + cc) = tt ∧ Hid (tt = m0 + cc) := ⟨_, by rw [IntKind.wrap_u64, Int.emod_eq_of_lt (by omega) (by omega)], rfl⟩
                have htt0 : 0 ≤ tt := by have := TT.out; omega
                have htt1 : tt ≤ 9223372039002259455 := by have := TT.out; omega
                obtain ⟨lo, hlo, LO⟩ : ∃ lo, bits .and .u64 tt 4294967295 = lo ∧ Hid (lo = tt % 4294967296) := ⟨_, r_mask32 tt (by omega) (by omega), rfl⟩
                obtain ⟨hi, hhi, HI⟩ : ∃ hi, tt / 4294967296 = hi ∧ Hid (hi = tt / 4294967296) := ⟨_, rfl, rfl⟩
                have BLO : Hid ((0 ≤ lo ∧ lo < 4294967296) ∧ 0 ≤ hi ∧ hi < 4294967296) := by have := LO.out; have := HI.out; show _ ∧ _; omega
                have ST : Hid (lo + 4294967296 * hi = xs.getD i' 0 * F + cc) := by
                  have h1 := LO.out; have h2 := HI.out; have h3 := TT.out; have h5 := M0.out
                  rw [Hid, ← X.out]; omega
                obtain ⟨w2, ap, gr, be, sz⟩ := push64 g (j + i') (C - (j + i') - 1) C ss lo wr L.out (by have := HC.out; omega) G'
                have AP := hid ap
                have GR := hid gr
                have BE := hid (hB.trans be)
                clear ap gr be sz hB G3 G' hxf0 hxf1
                go_wp2_with (at_builtin; refine wpList_append_row rfl _ _ rfl AP.out (by rfl) (by rfl) ?_; clear AP)
                go_roundw
                case rel =>
                  refine ⟨i' + 1, hi, ss ++ [lo], by omega, by go_num, rfl, by first | rfl | rw [hhi], BLO.out.2.1, BLO.out.2.2, GR.out, ?_, HS.out.snoc BLO.out.1.1 BLO.out.1.2, ?_, BE.out⟩
                  · have := L.out; simp only [Hid, List.length_append, List.length_cons, List.length_nil]; omega
                  · exact Nm.lift_step L.out V.out ST.out
                case measure => simp [intOf]; omega
              · have hl' : ¬ (i' : Int) < (l1 : Int) := by omega
                obtain ⟨w3, ap, gr, be, sz⟩ := push64 g (j + i') (C - (j + i') - 1) C ss cc wr L.out (by have := HC.out; omega) G'
                have AP := hid ap
                have D3 := hid (chain D1.out (by rw [Gg.out]; exact hB.trans be) (Nat.le_refl _))
                have VV : Hid (Nm.v32 (ss ++ [cc]) = Nm.val za * 2 ^ k) := by
                  have := V.out
                  rw [List.take_of_length_le (by have := LX.out; omega), FV.out] at this
                  rw [Hid, Nm.v32_snoc, L.out]
                  exact this
                have HS2 := hid (HS.out.snoc hc0 hc1)
                have AG : Hid (Arg w3 (some ⟨g, 0, none⟩) (j + i' + 1) C (ss ++ [cc])) := ⟨by simp [L.out], by have := HC.out; omega, by have := HC.out; omega, gr.lies, HS2.out.limbs⟩
                have hw3 : Hid (w.heap.size ≤ w3.heap.size) := D3.out.size
                clear ap gr be sz hB G3 G'
                go_wp2_with (at_builtin; refine wpList_append_row rfl _ _ rfl AP.out (by rfl) (by rfl) ?_; clear AP)
                refine (rlimbs_any _ (j + i' + 1) C (ss ++ [cc]) _ AG.out HS2.out).mono ?_
                rintro e w4 ⟨r4, os, rfl, hA, hb⟩
                rw [VV.out] at hA
                have A4 := hid (hA.mono hw3.out)
                have D4 := hid (chain D3.out hb (Nat.le_refl _))
                clear hA hb
                go_wp2
                go_ret
                exact ⟨r4, os, rfl, A4.out, D4.out⟩
end Go.Proofs.YtljpmddjcfkonaaGreatDoor

/-
  Room for products and shifts.
-/
namespace Go.Proofs.YtljpmddjcfkonaaGreatDoor
open Go Go.RowKit Go.Deep

theorem alloc_below (w : World) (A : Obj) : Below w.heap.size w (w.alloc A) := Below.alloc (Below.refl _ _) (Nat.le_refl _) A

theorem lit_small {D m : Int} {L s : Nat} (hD : 0 ≤ D) (h1 : D < Nm.pw L) (m0 : 0 ≤ m) (h2 : m < 18446744073709551616) (hs : 64 * L + 64 + s ≤ 262144) : D * m * 2 ^ s < Nm.pw 4096 ∧ D * m < Nm.pw 4096 := by
  have e64 : (2 : Int) ^ 64 = 18446744073709551616 := by decide
  rw [Nm.pw_two] at h1
  have p0 := Nm.two_pos s
  have g1 : D * m ≤ D * 2 ^ 64 := Int.mul_le_mul_of_nonneg_left (by omega) hD
  have g2 : D * 2 ^ 64 < 2 ^ (64 * L) * 2 ^ 64 := Int.mul_lt_mul_of_pos_right h1 (by omega)
  rw [← Nm.two_add] at g2
  have g3 : D * m < 2 ^ (64 * L + 64) := by omega
  have g4 : D * m * 2 ^ s < 2 ^ (64 * L + 64) * 2 ^ s := Int.mul_lt_mul_of_pos_right g3 p0
  rw [← Nm.two_add] at g4
  rw [Nm.pw_two]
  have g5 := Nm.two_mono (show 64 * L + 64 + s ≤ 64 * 4096 by omega)
  have g6 := Nm.two_mono (show 64 * L + 64 ≤ 64 * 4096 by omega)
  omega

theorem shl_room {V : Int} {L t : Nat} (h1 : V < Nm.pw L) (ht : 64 * L + t ≤ 262144) : V * 2 ^ t < Nm.pw 4096 := by
  rw [Nm.pw_two] at h1
  have g1 : V * 2 ^ t < 2 ^ (64 * L) * 2 ^ t := Int.mul_lt_mul_of_pos_right h1 (Nm.two_pos t)
  rw [← Nm.two_add] at g1
  have g2 := Nm.two_mono (show 64 * L + t ≤ 64 * 4096 by omega)
  rw [Nm.pw_two]
  omega

end Go.Proofs.YtljpmddjcfkonaaGreatDoor

/-
  The document's FromUint.
-/
namespace Go.Proofs.YtljpmddjcfkonaaGreatDoor
open Go Go.RowKit Go.Deep

theorem arg_z {w : World} {g : Nat} {x : Int} (h : w.heap[g]? = some (.cells #[.int .u64 x] 23 (0, 0))) (h0 : 0 ≤ x) (h1 : x < 18446744073709551616) : Arg w (some ⟨g, 0, none⟩) 1 1 [x] := by
  refine ⟨rfl, Nat.le_refl _, by omega, .inr ⟨g, 0, rfl, fun i hi => ?_⟩, Nm.Limbs.mk h0 h1 Nm.Limbs.nil⟩
  obtain rfl : i = 0 := by simpa using hi
  simp [World.cell?, h]
end Go.Proofs.YtljpmddjcfkonaaGreatDoor

namespace Go.Proofs.YtljpmddjcfkonaaGreatDoor
open Go Go.RowKit Go.Deep

theorem ans_small {B : Nat} {w : World} {r : Option Addr} {os : List Int} {v : Int} (h : Ans B w r os v) (k : Nat) (hv : v < Nm.pw k) : os.length ≤ k := by
  have := (Nm.tsize_le_iff h.2.1 k).2 (by rw [h.2.2.2.1]; exact hv)
  rw [h.2.2.1] at this
  exact this
end Go.Proofs.YtljpmddjcfkonaaGreatDoor

/-
  The document's against: how a double, or the middle above it, lies against a fraction.
-/
namespace Go.Proofs.YtljpmddjcfkonaaGreatDoor
open Go Go.RowKit Go.Deep

/-- The double's mantissa, doubled, and one more for the middle. -/
def Ie.mm (x : Int) (middle : Bool) : Int := if middle = true then 2 * Ie.man x + 1 else 2 * Ie.man x

set_option maxRecDepth 100000 in
set_option maxHeartbeats 8000000 in
theorem against_any (x : Int) (middle : Bool) (p q : Option Addr) (n cap n' cap' : Nat) (zs ys : List Int) (w : World) (ha : Arg w p n cap zs) (hb : Arg w q n' cap' ys) (tz : Nm.tsize zs ≤ 4096) (ty : Nm.tsize ys ≤ 4096) (x0 : 0 ≤ x) (x1 : x ≤ 9218868437227405312)
    (e : Int) (e0 : -1048576 ≤ e) (e1 : e ≤ 1048576) (V D : Int) (hV : Nm.val zs = V) (hD : Nm.val ys = D) (s t : Nat) (hst : (s : Int) - t = (Ie.ex x : Int) - 1075 - e) (h0 : s = 0 ∨ t = 0) :
    Calls Tryz.prog 77 #[.int .u64 x, .bool middle, .slice p n cap, .slice q n' cap', .int .i64 e] w fun r w' => r = .returned (.int .i64 (cmpI (D * Ie.mm x middle * 2 ^ s) (V * 2 ^ t))) ∧ Below w.heap.size w w' := by
  obtain ⟨m, hm⟩ : ∃ m, Ie.mm x middle = m := ⟨_, rfl⟩
  obtain ⟨k, hk⟩ : ∃ k, (Ie.ex x : Int) - 1075 = k := ⟨_, rfl⟩
  have mb := Ie.man_nn x x0
  have m0 : 0 ≤ m ∧ m < 18446744073709551616 := by rw [← hm, Ie.mm]; split <;> omega
  have kb : -1075 ≤ k ∧ k ≤ 972 := by rw [← hk]; have : (Ie.ex x : Int) ≤ 2046 := by simp only [Ie.ex]; omega
                                      omega
  have d0 : 0 ≤ D := by rw [← hD]; exact (Nm.val_bd ys hb.2.2.2.2).1
  have d1 : D < Nm.pw 4096 := by rw [← hD]; exact (Nm.tsize_le_iff hb.2.2.2.2 4096).1 ty
  have v1 : V < Nm.pw 4096 := by rw [← hV]; exact (Nm.tsize_le_iff ha.2.2.2.2 4096).1 tz
  have dm : D * m < Nm.pw 4097 := by
    have g1 : D * m ≤ D * 18446744073709551616 := Int.mul_le_mul_of_nonneg_left (by omega) d0
    have e2 : Nm.pw 4097 = 18446744073709551616 * Nm.pw 4096 := Nm.pw_succ 4096
    omega
  -- the product
  have MU : Hid (∀ g : Obj, g = .cells #[.int .u64 m] 23 → Calls Tryz.prog 45 #[.slice q n' cap', .slice (some ⟨w.heap.size, 0, none⟩) 1 1] (w.alloc g) fun e w' => ∃ r os, e = .returned (.slice r (List.length os) (List.length os)) ∧ (Arg w' r os.length os.length os ∧ Nm.val os = D * m ∧ Nm.tsize os ≤ 1099511627776) ∧ Below w.heap.size w w') := by
    intro g hg
    subst hg
    have hB := alloc_below w (.cells #[.int .u64 m] 23)
    have hmv : Nm.val [m] = m := by simp [Nm.val]
    have := times_any q (some ⟨w.heap.size, 0, none⟩) n' cap' 1 1 ys [m] _ (hb.below hB (Nat.le_refl _)) (arg_z (heap_alloc_new w _) m0.1 m0.2) (by omega) (by have := Nm.tsize_le [m]; simp at this; omega)
    rw [hD, hmv] at this
    refine this.mono ?_
    rintro e w' ⟨r, os, rfl, A, hB2⟩
    have l := ans_small A 4097 dm
    exact ⟨r, os, rfl, ⟨A.arg (by omega), A.2.2.2.1, by rw [A.2.2.1]; omega⟩, hB.trans (hB2.mono hB.size)⟩
  have LI : Hid (∀ (wx : World) (r : Option Addr) (n1 c1 : Nat) (os : List Int) (v kk : Int) (j : Nat), Arg wx r n1 c1 os → Nm.val os = v → Nm.tsize os ≤ 1099511627776 → kk = (j : Int) → j ≤ 4194304 → v < Nm.pw 4097 → Calls Tryz.prog 25 #[.slice r n1 c1, .int .i64 kk] wx fun e w' => ∃ r os, e = .returned (.slice r (List.length os) (List.length os)) ∧ (Arg w' r os.length os.length os ∧ Nm.val os = v * 2 ^ j) ∧ Below wx.heap.size wx w') := by
    intro wx r n1 c1 os v kk j A hv hs hkk hj hvb
    have := lift_any r n1 c1 os kk j wx A hs hkk hj
    rw [hv] at this
    refine this.mono ?_
    rintro e w' ⟨r', os', rfl, A', hB2⟩
    have hb2 : v * 2 ^ j < Nm.pw 100000 := by
      have g1 : v * 2 ^ j < Nm.pw 4097 * 2 ^ j := Int.mul_lt_mul_of_pos_right hvb (Nm.two_pos j)
      have g2 : Nm.pw 4097 * 2 ^ j ≤ Nm.pw 100000 := by rw [Nm.pw_two, Nm.pw_two, ← Nm.two_add]; exact Nm.two_mono (by omega)
      exact Int.lt_of_lt_of_le g1 g2
    have l := ans_small A' 100000 hb2
    exact ⟨r', os', rfl, ⟨A'.arg (by omega), A'.2.2.2.1⟩, hB2⟩
  have CM := hid (fun (wx : World) (r r' : Option Addr) (n1 c1 n2 c2 : Nat) (os os' : List Int) (A : Arg wx r n1 c1 os) (A' : Arg wx r' n2 c2 os') => refCmp_any r r' n1 c1 n2 c2 os os' wx A A')
  have HA := hid ha
  have HV := hid hV
  have TZ := hid tz
  have V1 : Hid (V < Nm.pw 4097) := by
    have e2 : Nm.pw 4097 = 18446744073709551616 * Nm.pw 4096 := Nm.pw_succ 4096
    have := Nm.pw_pos 4096
    rw [Hid]; omega
  have DM := hid dm
  rw [hk] at hst
  have HST := hid hst
  have HM : Hid (Ie.mm x middle = m) := hm
  have MX : (x < 4503599627370496 ∧ Ie.man x = x ∧ k = -1075) ∨ (4503599627370496 ≤ x ∧ Ie.man x = x % 4503599627370496 + 4503599627370496 ∧ k = x / 4503599627370496 - 1076) := by
    by_cases h : x < 4503599627370496
    · left; refine ⟨h, by rw [Ie.man, if_pos h], ?_⟩; rw [← hk, Ie.ex]; omega
    · right; refine ⟨by omega, by rw [Ie.man, if_neg h]; omega, ?_⟩; rw [← hk, Ie.ex]; omega
  obtain ⟨kb0, kb1⟩ := kb
  have MM : Hid (m = if middle = true then 2 * Ie.man x + 1 else 2 * Ie.man x) := by rw [Hid, ← hm, Ie.mm]
  rw [hm]
  clear ha hb tz ty hV hD d0 d1 v1 dm hst hm hk mb m0
  rcases MX with ⟨hx, hmx, hkx⟩ | ⟨hx, hmx, hkx⟩ <;> cases middle <;> rcases (show e ≤ k ∨ k < e by omega) with hke | hke
  · have hM : m = 2 * x := by rw [MM.out, hmx]; rfl
    have HMM := hid hM
    have HKX := hid hkx
    clear hmx hM MM
    have hz : t = 0 := by have := HST.out; omega
    subst hz
    rw [Int.pow_zero, Int.mul_one]
    have c1 : ¬ (-1075) < e := by have := HKX.out; omega
    clear hkx hke
    go_enter Tryz.func77, Tryz.ntmps77
    go_wp2_with fail
    have EM := HMM.out
    refine (MU.out _ (by rw [EM])).mono ?_
    rintro e' w1 ⟨r, os, rfl, A, hB1⟩
    have AA := hid A
    have HB1 := hid hB1
    clear A hB1 MU EM
    go_wp2_with fail
    refine (LI.out _ r _ _ os _ _ s AA.out.1 AA.out.2.1 AA.out.2.2 (by have := HST.out; have := HKX.out; omega) (by have := HST.out; omega) DM.out).mono ?_
    rintro e' w2 ⟨r2, o2, rfl, A2, hB2⟩
    have HB2 := hid (HB1.out.trans (hB2.mono HB1.out.size))
    have C1 := CM.out w2 r2 p _ _ n cap o2 zs A2.1 (HA.out.below HB2.out (Nat.le_refl _))
    rw [A2.2, HV.out] at C1
    have CC := hid C1
    clear A2 hB2 C1 LI
    go_wp2_with fail
    refine CC.out.mono ?_
    rintro e' w3 ⟨rfl, hB3⟩
    have HB3 := hid (HB2.out.trans (hB3.mono HB2.out.size))
    clear hB3
    go_wp2_with fail
    go_ret
    exact ⟨rfl, HB3.out⟩
  · have hM : m = 2 * x := by rw [MM.out, hmx]; rfl
    have HMM := hid hM
    have HKX := hid hkx
    clear hmx hM MM
    have hz : s = 0 := by have := HST.out; omega
    subst hz
    rw [Int.pow_zero, Int.mul_one]
    have c1 : (-1075) < e := by have := HKX.out; omega
    clear hkx hke
    go_enter Tryz.func77, Tryz.ntmps77
    go_wp2_with fail
    have EM := HMM.out
    refine (MU.out _ (by rw [EM])).mono ?_
    rintro e' w1 ⟨r, os, rfl, A, hB1⟩
    have AA := hid A
    have HB1 := hid hB1
    clear A hB1 MU EM
    go_wp2_with fail
    refine (LI.out _ p n cap zs V _ t (HA.out.below HB1.out (Nat.le_refl _)) HV.out (by have := TZ.out; omega) (by have := HST.out; have := HKX.out; omega) (by have := HST.out; omega) V1.out).mono ?_
    rintro e' w2 ⟨r2, o2, rfl, A2, hB2⟩
    have HB2 := hid (HB1.out.trans (hB2.mono HB1.out.size))
    have C1 := CM.out w2 r r2 _ _ _ _ os o2 (AA.out.1.below hB2 (Nat.le_refl _)) A2.1
    rw [A2.2, AA.out.2.1] at C1
    have CC := hid C1
    clear A2 hB2 C1 LI
    go_wp2_with fail
    refine CC.out.mono ?_
    rintro e' w3 ⟨rfl, hB3⟩
    have HB3 := hid (HB2.out.trans (hB3.mono HB2.out.size))
    clear hB3
    go_wp2_with fail
    go_ret
    exact ⟨rfl, HB3.out⟩
  · have hM : m = 2 * x + 1 := by rw [MM.out, hmx]; rfl
    have HMM := hid hM
    have HKX := hid hkx
    clear hmx hM MM
    have hz : t = 0 := by have := HST.out; omega
    subst hz
    rw [Int.pow_zero, Int.mul_one]
    have c1 : ¬ (-1075) < e := by have := HKX.out; omega
    clear hkx hke
    go_enter Tryz.func77, Tryz.ntmps77
    go_wp2_with fail
    have EM := HMM.out
    refine (MU.out _ (by rw [EM])).mono ?_
    rintro e' w1 ⟨r, os, rfl, A, hB1⟩
    have AA := hid A
    have HB1 := hid hB1
    clear A hB1 MU EM
    go_wp2_with fail
    refine (LI.out _ r _ _ os _ _ s AA.out.1 AA.out.2.1 AA.out.2.2 (by have := HST.out; have := HKX.out; omega) (by have := HST.out; omega) DM.out).mono ?_
    rintro e' w2 ⟨r2, o2, rfl, A2, hB2⟩
    have HB2 := hid (HB1.out.trans (hB2.mono HB1.out.size))
    have C1 := CM.out w2 r2 p _ _ n cap o2 zs A2.1 (HA.out.below HB2.out (Nat.le_refl _))
    rw [A2.2, HV.out] at C1
    have CC := hid C1
    clear A2 hB2 C1 LI
    go_wp2_with fail
    refine CC.out.mono ?_
    rintro e' w3 ⟨rfl, hB3⟩
    have HB3 := hid (HB2.out.trans (hB3.mono HB2.out.size))
    clear hB3
    go_wp2_with fail
    go_ret
    exact ⟨rfl, HB3.out⟩
  · have hM : m = 2 * x + 1 := by rw [MM.out, hmx]; rfl
    have HMM := hid hM
    have HKX := hid hkx
    clear hmx hM MM
    have hz : s = 0 := by have := HST.out; omega
    subst hz
    rw [Int.pow_zero, Int.mul_one]
    have c1 : (-1075) < e := by have := HKX.out; omega
    clear hkx hke
    go_enter Tryz.func77, Tryz.ntmps77
    go_wp2_with fail
    have EM := HMM.out
    refine (MU.out _ (by rw [EM])).mono ?_
    rintro e' w1 ⟨r, os, rfl, A, hB1⟩
    have AA := hid A
    have HB1 := hid hB1
    clear A hB1 MU EM
    go_wp2_with fail
    refine (LI.out _ p n cap zs V _ t (HA.out.below HB1.out (Nat.le_refl _)) HV.out (by have := TZ.out; omega) (by have := HST.out; have := HKX.out; omega) (by have := HST.out; omega) V1.out).mono ?_
    rintro e' w2 ⟨r2, o2, rfl, A2, hB2⟩
    have HB2 := hid (HB1.out.trans (hB2.mono HB1.out.size))
    have C1 := CM.out w2 r r2 _ _ _ _ os o2 (AA.out.1.below hB2 (Nat.le_refl _)) A2.1
    rw [A2.2, AA.out.2.1] at C1
    have CC := hid C1
    clear A2 hB2 C1 LI
    go_wp2_with fail
    refine CC.out.mono ?_
    rintro e' w3 ⟨rfl, hB3⟩
    have HB3 := hid (HB2.out.trans (hB3.mono HB2.out.size))
    clear hB3
    go_wp2_with fail
    go_ret
    exact ⟨rfl, HB3.out⟩
  · have hM : m = 2 * (x % 4503599627370496 + 4503599627370496) := by rw [MM.out, hmx]; rfl
    have y1 : x % 4503599627370496 < 4503599627370496 := by omega
    have y0 : 0 ≤ x % 4503599627370496 := by omega
    have f0 : 0 ≤ x / 4503599627370496 := by omega
    have f1 : x / 4503599627370496 ≤ 2047 := by omega
    have HMM := hid hM
    have HKX := hid hkx
    clear hmx hM MM
    have hz : t = 0 := by have := HST.out; omega
    subst hz
    rw [Int.pow_zero, Int.mul_one]
    have c1 : ¬ (x / 4503599627370496 - 1076) < e := by have := HKX.out; omega
    clear hkx hke
    go_enter Tryz.func77, Tryz.ntmps77
    go_wp2_with fail
    have EM := HMM.out
    refine (MU.out _ (by rw [EM])).mono ?_
    rintro e' w1 ⟨r, os, rfl, A, hB1⟩
    have AA := hid A
    have HB1 := hid hB1
    clear A hB1 MU EM
    go_wp2_with fail
    refine (LI.out _ r _ _ os _ _ s AA.out.1 AA.out.2.1 AA.out.2.2 (by have := HST.out; have := HKX.out; omega) (by have := HST.out; omega) DM.out).mono ?_
    rintro e' w2 ⟨r2, o2, rfl, A2, hB2⟩
    have HB2 := hid (HB1.out.trans (hB2.mono HB1.out.size))
    have C1 := CM.out w2 r2 p _ _ n cap o2 zs A2.1 (HA.out.below HB2.out (Nat.le_refl _))
    rw [A2.2, HV.out] at C1
    have CC := hid C1
    clear A2 hB2 C1 LI
    go_wp2_with fail
    refine CC.out.mono ?_
    rintro e' w3 ⟨rfl, hB3⟩
    have HB3 := hid (HB2.out.trans (hB3.mono HB2.out.size))
    clear hB3
    go_wp2_with fail
    go_ret
    exact ⟨rfl, HB3.out⟩
  · have hM : m = 2 * (x % 4503599627370496 + 4503599627370496) := by rw [MM.out, hmx]; rfl
    have y1 : x % 4503599627370496 < 4503599627370496 := by omega
    have y0 : 0 ≤ x % 4503599627370496 := by omega
    have f0 : 0 ≤ x / 4503599627370496 := by omega
    have f1 : x / 4503599627370496 ≤ 2047 := by omega
    have HMM := hid hM
    have HKX := hid hkx
    clear hmx hM MM
    have hz : s = 0 := by have := HST.out; omega
    subst hz
    rw [Int.pow_zero, Int.mul_one]
    have c1 : (x / 4503599627370496 - 1076) < e := by have := HKX.out; omega
    clear hkx hke
    go_enter Tryz.func77, Tryz.ntmps77
    go_wp2_with fail
    have EM := HMM.out
    refine (MU.out _ (by rw [EM])).mono ?_
    rintro e' w1 ⟨r, os, rfl, A, hB1⟩
    have AA := hid A
    have HB1 := hid hB1
    clear A hB1 MU EM
    go_wp2_with fail
    refine (LI.out _ p n cap zs V _ t (HA.out.below HB1.out (Nat.le_refl _)) HV.out (by have := TZ.out; omega) (by have := HST.out; have := HKX.out; omega) (by have := HST.out; omega) V1.out).mono ?_
    rintro e' w2 ⟨r2, o2, rfl, A2, hB2⟩
    have HB2 := hid (HB1.out.trans (hB2.mono HB1.out.size))
    have C1 := CM.out w2 r r2 _ _ _ _ os o2 (AA.out.1.below hB2 (Nat.le_refl _)) A2.1
    rw [A2.2, AA.out.2.1] at C1
    have CC := hid C1
    clear A2 hB2 C1 LI
    go_wp2_with fail
    refine CC.out.mono ?_
    rintro e' w3 ⟨rfl, hB3⟩
    have HB3 := hid (HB2.out.trans (hB3.mono HB2.out.size))
    clear hB3
    go_wp2_with fail
    go_ret
    exact ⟨rfl, HB3.out⟩
  · have hM : m = 2 * (x % 4503599627370496 + 4503599627370496) + 1 := by rw [MM.out, hmx]; rfl
    have y1 : x % 4503599627370496 < 4503599627370496 := by omega
    have y0 : 0 ≤ x % 4503599627370496 := by omega
    have f0 : 0 ≤ x / 4503599627370496 := by omega
    have f1 : x / 4503599627370496 ≤ 2047 := by omega
    have HMM := hid hM
    have HKX := hid hkx
    clear hmx hM MM
    have hz : t = 0 := by have := HST.out; omega
    subst hz
    rw [Int.pow_zero, Int.mul_one]
    have c1 : ¬ (x / 4503599627370496 - 1076) < e := by have := HKX.out; omega
    clear hkx hke
    go_enter Tryz.func77, Tryz.ntmps77
    go_wp2_with fail
    have EM := HMM.out
    refine (MU.out _ (by rw [EM])).mono ?_
    rintro e' w1 ⟨r, os, rfl, A, hB1⟩
    have AA := hid A
    have HB1 := hid hB1
    clear A hB1 MU EM
    go_wp2_with fail
    refine (LI.out _ r _ _ os _ _ s AA.out.1 AA.out.2.1 AA.out.2.2 (by have := HST.out; have := HKX.out; omega) (by have := HST.out; omega) DM.out).mono ?_
    rintro e' w2 ⟨r2, o2, rfl, A2, hB2⟩
    have HB2 := hid (HB1.out.trans (hB2.mono HB1.out.size))
    have C1 := CM.out w2 r2 p _ _ n cap o2 zs A2.1 (HA.out.below HB2.out (Nat.le_refl _))
    rw [A2.2, HV.out] at C1
    have CC := hid C1
    clear A2 hB2 C1 LI
    go_wp2_with fail
    refine CC.out.mono ?_
    rintro e' w3 ⟨rfl, hB3⟩
    have HB3 := hid (HB2.out.trans (hB3.mono HB2.out.size))
    clear hB3
    go_wp2_with fail
    go_ret
    exact ⟨rfl, HB3.out⟩
  · have hM : m = 2 * (x % 4503599627370496 + 4503599627370496) + 1 := by rw [MM.out, hmx]; rfl
    have y1 : x % 4503599627370496 < 4503599627370496 := by omega
    have y0 : 0 ≤ x % 4503599627370496 := by omega
    have f0 : 0 ≤ x / 4503599627370496 := by omega
    have f1 : x / 4503599627370496 ≤ 2047 := by omega
    have HMM := hid hM
    have HKX := hid hkx
    clear hmx hM MM
    have hz : s = 0 := by have := HST.out; omega
    subst hz
    rw [Int.pow_zero, Int.mul_one]
    have c1 : (x / 4503599627370496 - 1076) < e := by have := HKX.out; omega
    clear hkx hke
    go_enter Tryz.func77, Tryz.ntmps77
    go_wp2_with fail
    have EM := HMM.out
    refine (MU.out _ (by rw [EM])).mono ?_
    rintro e' w1 ⟨r, os, rfl, A, hB1⟩
    have AA := hid A
    have HB1 := hid hB1
    clear A hB1 MU EM
    go_wp2_with fail
    refine (LI.out _ p n cap zs V _ t (HA.out.below HB1.out (Nat.le_refl _)) HV.out (by have := TZ.out; omega) (by have := HST.out; have := HKX.out; omega) (by have := HST.out; omega) V1.out).mono ?_
    rintro e' w2 ⟨r2, o2, rfl, A2, hB2⟩
    have HB2 := hid (HB1.out.trans (hB2.mono HB1.out.size))
    have C1 := CM.out w2 r r2 _ _ _ _ os o2 (AA.out.1.below hB2 (Nat.le_refl _)) A2.1
    rw [A2.2, AA.out.2.1] at C1
    have CC := hid C1
    clear A2 hB2 C1 LI
    go_wp2_with fail
    refine CC.out.mono ?_
    rintro e' w3 ⟨rfl, hB3⟩
    have HB3 := hid (HB2.out.trans (hB3.mono HB2.out.size))
    clear hB3
    go_wp2_with fail
    go_ret
    exact ⟨rfl, HB3.out⟩
end Go.Proofs.YtljpmddjcfkonaaGreatDoor

/-
  The document's RoundRatio (made by mkzratio.py).
-/
namespace Go.Proofs.YtljpmddjcfkonaaGreatDoor
open Go Go.RowKit Go.Deep

namespace Ie
/-- One comparison, said at another scale. -/
theorem scale_cmp (D M V Y e : Int) (E s t a b : Nat) (hY : Y = M * 2 ^ E) (hst : (s : Int) - t = (E : Int) - 1075 - e) (hab : (a : Int) - b = e + 1075) :
    (D * M * 2 ^ s < V * 2 ^ t ↔ Y * (D * 2 ^ b) < V * 2 ^ a) ∧ (D * M * 2 ^ s = V * 2 ^ t ↔ Y * (D * 2 ^ b) = V * 2 ^ a) := by
  have p1 := Nm.two_pos (E + b)
  have p2 := Nm.two_pos s
  have e1 : D * M * 2 ^ s * 2 ^ (E + b) = Y * (D * 2 ^ b) * 2 ^ s := by rw [hY, Nm.two_add]; ac_rfl
  have e2 : V * 2 ^ t * 2 ^ (E + b) = V * 2 ^ a * 2 ^ s := by
    rw [Int.mul_assoc, Int.mul_assoc, ← Nm.two_add, ← Nm.two_add]; congr 2; omega
  refine ⟨⟨fun h => ?_, fun h => ?_⟩, ⟨fun h => ?_, fun h => ?_⟩⟩
  · have := Int.mul_lt_mul_of_pos_right h p1
    rw [e1, e2] at this
    exact Int.lt_of_mul_lt_mul_right this (Int.le_of_lt p2)
  · have := Int.mul_lt_mul_of_pos_right h p2
    rw [← e1, ← e2] at this
    exact Int.lt_of_mul_lt_mul_right this (Int.le_of_lt p1)
  · have : Y * (D * 2 ^ b) * 2 ^ s = V * 2 ^ a * 2 ^ s := by rw [← e1, ← e2, h]
    exact Int.eq_of_mul_eq_mul_right (by omega) this
  · have : D * M * 2 ^ s * 2 ^ (E + b) = V * 2 ^ t * 2 ^ (E + b) := by rw [e1, e2, h]
    exact Int.eq_of_mul_eq_mul_right (by omega) this

/-- The search's end. -/
theorem near_search (P Q lo x : Int) (hQ : 0 < Q) (h0 : 0 ≤ lo) (h1 : lo ≤ 9218868437227405312) (hlo : vl lo * Q ≤ P) (hhi : lo < 9218868437227405312 → P < vl (lo + 1) * Q)
    (hx : (lo = 9218868437227405312 ∧ x = lo) ∨ (lo < 9218868437227405312 ∧ x = lo + 1 ∧ (md lo * Q < P ∨ (md lo * Q = P ∧ lo % 2 = 1))) ∨ (lo < 9218868437227405312 ∧ x = lo ∧ (P < md lo * Q ∨ (md lo * Q = P ∧ lo % 2 = 0)))) : Near P Q false x := by
  rcases hx with ⟨h, rfl⟩ | ⟨h, rfl, hm⟩ | ⟨h, rfl, hm⟩
  · refine ⟨⟨h0, h1⟩, fun hp => .inl ?_, fun hc => by omega⟩
    have g := md_lt_vl (x - 1) (by omega)
    rw [show x - 1 + 1 = x by omega] at g
    have := Int.mul_lt_mul_of_pos_right g hQ
    omega
  · refine ⟨⟨by omega, by omega⟩, fun _ => ?_, fun hc => .inl ?_⟩
    · rw [show lo + 1 - 1 = lo by omega]
      rcases hm with g | ⟨g, g'⟩
      · exact .inl g
      · exact .inr ⟨g, .inl (by omega)⟩
    · have := Int.mul_lt_mul_of_pos_right (vl_lt_md (lo + 1)) hQ
      have := hhi h
      omega
  · refine ⟨⟨h0, h1⟩, fun hp => .inl ?_, fun _ => ?_⟩
    · have g := md_lt_vl (x - 1) (by omega)
      rw [show x - 1 + 1 = x by omega] at g
      have := Int.mul_lt_mul_of_pos_right g hQ
      omega
    · rcases hm with g | ⟨g, g'⟩
      · exact .inl g
      · exact .inr ⟨g.symm, g', rfl⟩
end Ie

theorem ret_sg0 {a b : Int} (h : a = b) : Ending.returned (.tuple #[.int .u64 a, .int .i64 0]) = .returned (.tuple #[.int .u64 b, .int .i64 0]) := by rw [h]

theorem split_nat' (z : Int) : ∃ s t : Nat, (s : Int) - t = z ∧ (s = 0 ∨ t = 0) := ⟨z.toNat, (-z).toNat, by omega, by omega⟩

/-- What the search asks. -/
theorem against_vl (p q : Option Addr) (n cap n' cap' : Nat) (zs ys : List Int) (w : World) (ha : Arg w p n cap zs) (hb : Arg w q n' cap' ys) (tz : Nm.tsize zs ≤ 4096) (ty : Nm.tsize ys ≤ 4096) (e : Int) (e0 : -1048576 ≤ e) (e1 : e ≤ 1048576) (V D : Int) (hV : Nm.val zs = V) (hD : Nm.val ys = D)
    (a b : Nat) (hab : (a : Int) - b = e + 1075) (x : Int) (x0 : 0 ≤ x) (x1 : x ≤ 9218868437227405312) (middle : Bool) :
    ∃ c, (c < 0 ↔ (if middle = true then Ie.md x else Ie.vl x) * (D * 2 ^ b) < V * 2 ^ a) ∧ (c = 0 ↔ (if middle = true then Ie.md x else Ie.vl x) * (D * 2 ^ b) = V * 2 ^ a) ∧ (c = -1 ∨ c = 0 ∨ c = 1) ∧
      Calls Tryz.prog 77 #[.int .u64 x, .bool middle, .slice p n cap, .slice q n' cap', .int .i64 e] w fun r w' => r = .returned (.int .i64 c) ∧ Below w.heap.size w w' := by
  obtain ⟨s, t, hst, h0⟩ := split_nat' ((Ie.ex x : Int) - 1075 - e)
  have C := against_any x middle p q n cap n' cap' zs ys w ha hb tz ty x0 x1 e e0 e1 V D hV hD s t hst h0
  have hY : (if middle = true then Ie.md x else Ie.vl x) = Ie.mm x middle * 2 ^ Ie.ex x := by cases middle <;> rfl
  obtain ⟨S1, S2⟩ := Ie.scale_cmp D (Ie.mm x middle) V _ e (Ie.ex x) s t a b hY hst hab
  refine ⟨_, ?_, ?_, ?_, C⟩
  · rw [← S1, cmpI]
    constructor
    · intro h
      by_cases g : D * Ie.mm x middle * 2 ^ s < V * 2 ^ t
      · exact g
      · rw [if_neg g] at h
        by_cases g2 : D * Ie.mm x middle * 2 ^ s = V * 2 ^ t
        · rw [if_pos g2] at h; omega
        · rw [if_neg g2] at h; omega
    · intro h; rw [if_pos h]; omega
  · rw [← S2, cmpI]
    constructor
    · intro h
      by_cases g : D * Ie.mm x middle * 2 ^ s < V * 2 ^ t
      · rw [if_pos g] at h; omega
      · rw [if_neg g] at h
        by_cases g2 : D * Ie.mm x middle * 2 ^ s = V * 2 ^ t
        · exact g2
        · rw [if_neg g2] at h; omega
    · intro h; rw [if_neg (by omega), if_pos h]
  · rw [cmpI]
    split
    · omega
    · split <;> omega

set_option maxRecDepth 100000 in
set_option maxHeartbeats 8000000 in
theorem zratio_any (neg : Bool) (p q : Option Addr) (n cap n' cap' : Nat) (zs ys : List Int) (w : World) (ha : Arg w p n cap zs) (hb : Arg w q n' cap' ys) (tz : Nm.tsize zs ≤ 4096) (ty : Nm.tsize ys ≤ 4096) (V D e : Int) (hV : Nm.val zs = V) (hD : Nm.val ys = D) (hd : 0 < D) (hv : 0 < V) (e0 : -1048576 ≤ e) (e1 : e ≤ 1048576) :
    Calls Tryz.prog 40 #[.bool neg, .slice p n cap, .slice q n' cap', .int .i64 e] w fun r w' => ∃ x, r = .returned (.tuple #[.int .u64 (Ie.sg neg x), .int .i64 0]) ∧ Ie.Rnd V D e false x ∧ Below w.heap.size w w' := by
  obtain ⟨a, b, hab⟩ : ∃ a b : Nat, (a : Int) - b = e + 1075 := ⟨(e + 1075).toNat, (-(e + 1075)).toNat, by omega⟩
  have dpos := Int.mul_pos hd (Nm.two_pos b)
  have AG := hid (fun (wx : World) (hx : Below w.heap.size w wx) (x : Int) (x0 : 0 ≤ x) (x1 : x ≤ 9218868437227405312) (middle : Bool) => against_vl p q n cap n' cap' zs ys wx (ha.below hx (Nat.le_refl _)) (hb.below hx (Nat.le_refl _)) tz ty e e0 e1 V D hV hD a b hab x x0 x1 middle)
  have FIN : Hid (∀ lo x : Int, 0 ≤ lo → lo ≤ 9218868437227405312 → Ie.vl lo * (D * 2 ^ b) ≤ V * 2 ^ a → (lo < 9218868437227405312 → V * 2 ^ a < Ie.vl (lo + 1) * (D * 2 ^ b)) →
      ((lo = 9218868437227405312 ∧ x = lo) ∨ (lo < 9218868437227405312 ∧ x = lo + 1 ∧ (Ie.md lo * (D * 2 ^ b) < V * 2 ^ a ∨ (Ie.md lo * (D * 2 ^ b) = V * 2 ^ a ∧ lo % 2 = 1))) ∨ (lo < 9218868437227405312 ∧ x = lo ∧ (V * 2 ^ a < Ie.md lo * (D * 2 ^ b) ∨ (Ie.md lo * (D * 2 ^ b) = V * 2 ^ a ∧ lo % 2 = 0)))) → Ie.Rnd V D e false x) :=
    fun lo x h0 h1 h2 h3 h4 => Ie.Rnd.of hab (Ie.near_search _ _ lo x dpos h0 h1 h2 h3 h4)
  have B1 := hid (refBig_is false p n cap zs w ha (by simp; omega))
  have B2 := hid (refBig_is false q n' cap' ys w hb (by simp; omega))
  have tp : 0 < Nm.tsize zs := by
    rcases Nat.eq_zero_or_pos (Nm.tsize zs) with h | h
    · have := (Nm.tsize_zero_iff ha.2.2.2.2).1 h; omega
    · exact h
  have tq : 0 < Nm.tsize ys := by
    rcases Nat.eq_zero_or_pos (Nm.tsize ys) with h | h
    · have := (Nm.tsize_zero_iff hb.2.2.2.2).1 h; omega
    · exact h
  obtain ⟨S1, hS1⟩ : ∃ S, Nm.tsize zs = S := ⟨_, rfl⟩
  obtain ⟨S2, hS2⟩ : ∃ S, Nm.tsize ys = S := ⟨_, rfl⟩
  have Z1 := refSize_any p n cap zs w ha.1 (by have := ha.2.1; have := ha.2.2.1; omega) ha.2.2.2.1
  have Z2 := refSize_any q n' cap' ys w hb.1 (by have := hb.2.1; have := hb.2.2.1; omega) hb.2.2.2.1
  rw [hS1] at Z1 tp
  rw [hS2] at Z2 tq
  have Z1 := hid Z1
  have Z2 := hid Z2
  have s1 : ((S1 : Int) == 0) = false := by rw [beq_eq_false_iff_ne]; omega
  have s2 : ((S2 : Int) == 0) = false := by rw [beq_eq_false_iff_ne]; omega
  have l3 : ¬ e < -1048576 := by omega
  have l4 : ¬ 1048576 < e := by omega
  have V0 : Hid (Ie.vl 0 * (D * 2 ^ b) ≤ V * 2 ^ a) := by
    rw [Hid, Ie.vl_zero, Int.zero_mul]
    exact Int.mul_nonneg (by omega) (Int.le_of_lt (Nm.two_pos a))
  generalize D * 2 ^ b = Q at *
  generalize V * 2 ^ a = PP at *
  clear ha hb tz ty hV hD hd hv hab tp tq hS1 hS2 dpos
  go_enter Tryz.func40, Tryz.ntmps40
  go_wp2_with fail
  refine B1.out.mono ?_
  rintro e' w' ⟨rfl, rfl⟩
  go_wp2_with fail
  refine B2.out.mono ?_
  rintro e' w' ⟨rfl, rfl⟩
  go_wp2_with fail
  refine Z2.out.mono ?_
  rintro e' w' ⟨rfl, rfl⟩
  go_wp2_with fail
  refine Z1.out.mono ?_
  rintro e' w0 ⟨rfl, rfl⟩
  go_wp2_with fail
  go_loopw [10, 11, 12] (fun s t _ wr => ∃ lo hi : Int, s = .int .u64 lo ∧ t = .int .u64 hi ∧ 0 ≤ lo ∧ lo ≤ hi ∧ hi ≤ 9218868437227405312 ∧ Hid (Ie.vl lo * Q ≤ PP ∧ (hi < 9218868437227405312 → PP < Ie.vl (hi + 1) * Q)) ∧ Hid (Below w0.heap.size w0 wr)) (fun s t _ _ => (intOf t - intOf s).toNat)
  case atStart => exact ⟨0, _, rfl, rfl, by omega, by omega, by omega, ⟨V0.out, fun h => by omega⟩, Below.refl _ _⟩
  case round =>
    obtain ⟨lo, hi, rfl, rfl, h0, h1, h2, I, HB⟩ := hrel
    rcases (show lo < hi ∨ lo = hi by omega) with hlt | heq
    · obtain ⟨m, hm⟩ : ∃ m, lo + (hi - lo + 1) / 2 = m := ⟨_, rfl⟩
      have m1 : lo < m := by omega
      have m2 : m ≤ hi := by omega
      obtain ⟨c, c1, c2, c3, hc⟩ := AG.out wr HB.out m (by omega) (by omega) false
      simp only [Bool.false_eq_true, if_false] at c1 c2
      have C1 := hid c1
      have C2 := hid c2
      have HC := hid hc
      clear c1 c2 hc
      rcases (show c ≤ 0 ∨ 0 < c by omega) with hc0 | hc0
      · have L1 : Hid (Ie.vl m * Q ≤ PP) := by
          rcases (show c < 0 ∨ c = 0 by omega) with g | g
          · have := C1.out.1 g; rw [Hid]; omega
          · have := C2.out.1 g; rw [Hid]; omega
        clear C1 C2
        go_wp2_with fail
        refine HC.out.mono ?_
        rintro e' w2 ⟨rfl, hB2⟩
        have HB2 := hid (HB.out.trans (hB2.mono HB.out.size))
        clear hB2
        go_wp2_with fail
        go_roundw
        case measure => simp only [intOf]; omega
        case rel => exact ⟨_, _, rfl, rfl, by omega, by omega, by omega, ⟨L1.out, I.out.2⟩, HB2⟩
      · have L1 : Hid (PP < Ie.vl m * Q) := by
          have g1 : ¬ Ie.vl m * Q < PP := fun g => by have := C1.out.2 g; omega
          have g2 : ¬ Ie.vl m * Q = PP := fun g => by have := C2.out.2 g; omega
          rw [Hid]; omega
        have c4 : ¬ c ≤ 0 := by omega
        clear C1 C2
        go_wp2_with fail
        refine HC.out.mono ?_
        rintro e' w2 ⟨rfl, hB2⟩
        have HB2 := hid (HB.out.trans (hB2.mono HB.out.size))
        clear hB2
        go_wp2_with fail
        go_roundw
        case measure => simp only [intOf]; omega
        case rel => exact ⟨_, _, rfl, rfl, by omega, by omega, by omega, ⟨I.out.1, fun _ => by rw [show m - 1 + 1 = m by omega]; exact L1.out⟩, HB2⟩
    · subst heq
      have FF := hid (fun (x : Int) => FIN.out lo x h0 h2 I.out.1 I.out.2)
      clear FIN
      rcases (show lo = 9218868437227405312 ∨ lo < 9218868437227405312 by omega) with hi' | hi'
      · have R := hid (FF.out lo (.inl ⟨hi', rfl⟩))
        subst hi'
        clear I FF AG
        cases neg
        · go_wp2_with fail
          go_ret2
          exact ⟨_, ret_sg0 rfl, R.out, HB.out⟩
        · go_wp2_with fail
          go_ret2
          exact ⟨_, ret_sg0 rfl, R.out, HB.out⟩
      · obtain ⟨c, c1, c2, c3, hc⟩ := AG.out wr HB.out lo h0 h2 true
        simp only [if_true] at c1 c2
        have C1 := hid c1
        have C2 := hid c2
        have HC := hid hc
        have par : lo % 2 = 0 ∨ lo % 2 = 1 := by omega
        clear c1 c2 hc AG I
        rcases c3 with rfl | rfl | rfl
        · have R := hid (FF.out _ (.inr (.inl ⟨hi', rfl, .inl (C1.out.1 (by omega))⟩)))
          clear FF C1 C2
          cases neg
          · go_wp2_with fail
            refine HC.out.mono ?_
            rintro e' w2 ⟨rfl, hB2⟩
            have HB2 := hid (HB.out.trans (hB2.mono HB.out.size))
            clear hB2
            go_wp2_with fail
            go_ret2
            exact ⟨_, ret_sg0 rfl, R.out, HB2.out⟩
          · go_wp2_with fail
            refine HC.out.mono ?_
            rintro e' w2 ⟨rfl, hB2⟩
            have HB2 := hid (HB.out.trans (hB2.mono HB.out.size))
            clear hB2
            go_wp2_with fail
            go_ret2
            exact ⟨_, ret_sg0 rfl, R.out, HB2.out⟩
        · rcases par with hp | hp
          · have R := hid (FF.out _ (.inr (.inr ⟨hi', rfl, .inr ⟨C2.out.1 rfl, hp⟩⟩)))
            clear FF C1 C2
            cases neg
            · go_wp2_with fail
              refine HC.out.mono ?_
              rintro e' w2 ⟨rfl, hB2⟩
              have HB2 := hid (HB.out.trans (hB2.mono HB.out.size))
              clear hB2
              go_wp2_with fail
              go_ret2
              exact ⟨_, ret_sg0 rfl, R.out, HB2.out⟩
            · go_wp2_with fail
              refine HC.out.mono ?_
              rintro e' w2 ⟨rfl, hB2⟩
              have HB2 := hid (HB.out.trans (hB2.mono HB.out.size))
              clear hB2
              go_wp2_with fail
              go_ret2
              exact ⟨_, ret_sg0 rfl, R.out, HB2.out⟩
          · have R := hid (FF.out _ (.inr (.inl ⟨hi', rfl, .inr ⟨C2.out.1 rfl, hp⟩⟩)))
            clear FF C1 C2
            cases neg
            · go_wp2_with fail
              refine HC.out.mono ?_
              rintro e' w2 ⟨rfl, hB2⟩
              have HB2 := hid (HB.out.trans (hB2.mono HB.out.size))
              clear hB2
              go_wp2_with fail
              go_ret2
              exact ⟨_, ret_sg0 rfl, R.out, HB2.out⟩
            · go_wp2_with fail
              refine HC.out.mono ?_
              rintro e' w2 ⟨rfl, hB2⟩
              have HB2 := hid (HB.out.trans (hB2.mono HB.out.size))
              clear hB2
              go_wp2_with fail
              go_ret2
              exact ⟨_, ret_sg0 rfl, R.out, HB2.out⟩
        · have lt : PP < Ie.md lo * Q := by
            have g1 : ¬ Ie.md lo * Q < PP := fun g => by have := C1.out.2 g; omega
            have g2 : ¬ Ie.md lo * Q = PP := fun g => by have := C2.out.2 g; omega
            omega
          have R := hid (FF.out _ (.inr (.inr ⟨hi', rfl, .inl lt⟩)))
          clear FF C1 C2 lt
          cases neg
          · go_wp2_with fail
            refine HC.out.mono ?_
            rintro e' w2 ⟨rfl, hB2⟩
            have HB2 := hid (HB.out.trans (hB2.mono HB.out.size))
            clear hB2
            go_wp2_with fail
            go_ret2
            exact ⟨_, ret_sg0 rfl, R.out, HB2.out⟩
          · go_wp2_with fail
            refine HC.out.mono ?_
            rintro e' w2 ⟨rfl, hB2⟩
            have HB2 := hid (HB.out.trans (hB2.mono HB.out.size))
            clear hB2
            go_wp2_with fail
            go_ret2
            exact ⟨_, ret_sg0 rfl, R.out, HB2.out⟩
end Go.Proofs.YtljpmddjcfkonaaGreatDoor
