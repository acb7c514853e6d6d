/-
  Texts put together: IShiftA, NToU, INear1, INear2, IRoundN, IRound, FromW, MSt, MLim, MScale, TrimW, Low, IShift, Div1, QShift, QGuess, SubA, QTake.
-/
import Derived.Test.YtdemopkdcnaibaaGreatDoorShr
import Derived.Test.YtdemopkdcnaibaaGreatDoorTrailW
import Derived.Test.YtdemopkdcnaibaaGreatDoorBitW
import Derived.Test.YtdemopkdcnaibaaGreatDoorWalk5a
import Derived.Test.YtdemopkdcnaibaaGreatDoorIWalk1C
import Derived.Test.YtdemopkdcnaibaaGreatDoorINum2
import Derived.Test.YtdemopkdcnaibaaGreatDoorSmallA
import Derived.Test.YtdemopkdcnaibaaGreatDoorXMem
import Derived.Test.YtdemopkdcnaibaaGreatDoorMKinds
import Derived.Test.YtdemopkdcnaibaaGreatDoorMNum
import Derived.Deep.RegionWith
import Derived.Deep.CutRange
import Derived.Deep.CutBlock
import Derived.Deep.RegionHeld3
import Derived.Test.YtdemopkdcnaibaaGreatDoorWalk1
import Derived.Test.YtdemopkdcnaibaaGreatDoorShl
import Derived.Test.YtdemopkdcnaibaaGreatDoorLen
import Derived.Test.YtdemopkdcnaibaaGreatDoorNums
import Derived.Lib.ItoaNum
import Derived.Laws.Bits64b
import Derived.Deep.QuietTactic
import Derived.BigQuiet
import Derived.Test.YtdemopkdcnaibaaGreatDoorSmall
import Derived.Test.YtdemopkdcnaibaaGreatDoorBits
import Derived.Test.YtdemopkdcnaibaaGreatDoorWalk2a
import Derived.Shelf.Spec.BitsCarry
namespace Go.Proofs.YtdemopkdcnaibaaGreatDoor
open Go.RowKit Go.Deep

theorem blen_trim_eq (zs : List Int) : blen (Nm.trim zs) = blen zs := by
  unfold blen
  rw [Nm.trim_trim]
  by_cases h : Nm.tsize zs = 0
  · rw [if_pos h, if_pos h]
  · rw [if_neg h, if_neg h]
    have e : (Nm.trim zs).getD (Nm.tsize zs - 1) 0 = zs.getD (Nm.tsize zs - 1) 0 := by rw [Nm.trim, Nm.getD_take, if_pos (by omega)]
    rw [e]

theorem pw_4096 : Nm.pw 4096 = 2 ^ 262144 := Nm.pw_two 4096

theorem two_lt {a b : Nat} (h : (2 : Int) ^ a < 2 ^ b) : a < b := by
  rcases Nat.lt_or_ge a b with h1 | h1
  · exact h1
  · have := Nm.two_mono h1
    omega

/-- So many digits as the number times 2^k. -/
theorem BLen.up {v : Int} {L : Nat} (k : Nat) (h : Nm.BLen v L) (hv : 0 < v) : Nm.BLen (v * 2 ^ k) (L + k) := by
  have hp := Nm.two_pos k
  have h1 := h.2.2 hv
  refine ⟨?_, fun h0 => ?_, fun _ => ⟨by omega, ?_⟩⟩
  · rw [Nm.two_add]
    exact Int.mul_lt_mul_of_pos_right h.1 hp
  · rcases Int.mul_eq_zero.1 h0 with h2 | h2 <;> omega
  · rw [show L + k - 1 = L - 1 + k by omega, Nm.two_add]
    exact Int.mul_le_mul_of_nonneg_right h1.2 (by omega)

theorem Trl.up {v : Int} {t : Nat} (k : Nat) (h : Nm.Trl v t) (hv : 0 < v) : Nm.Trl (v * 2 ^ k) (t + k) := by
  rcases h with ⟨h, _⟩ | ⟨m, hm⟩
  · omega
  · right
    exact ⟨m, by rw [hm, Nm.two_add, Int.mul_right_comm]⟩

theorem tsize_pos {zs : List Int} (hz : Nm.Limbs zs) (hv : 0 < Nm.val zs) : 0 < Nm.tsize zs := by
  rcases Nat.eq_zero_or_pos (Nm.tsize zs) with h | h
  · have := (Nm.tsize_zero_iff hz).1 h
    omega
  · exact h

theorem shl_any (p : Option Addr) (n cap : Nat) (zs : List Int) (kk : Int) (k : Nat) (w : World) (ha : Arg w p n cap zs) (tz : Nm.tsize zs ≤ 4096) (hkk : kk = (k : Int)) (hb : Nm.val zs * 2 ^ k < Nm.pw 4096) :
    Calls Tryz.prog 113 #[.slice p n cap, .int .i64 kk] w fun e w' => ∃ r os, e = .returned (.tuple #[.slice r (List.length os) (List.length os), .int .i64 0]) ∧ Ans w.heap.size w' r os (Nm.val zs * 2 ^ k) ∧ Below w.heap.size w w' := by
  have hv0 := (Nm.val_bd zs ha.2.2.2.2).1
  by_cases hz : Nm.tsize zs = 0
  · have hv := (Nm.tsize_zero_iff ha.2.2.2.2).1 hz
    refine (shl_zero p n cap zs kk w ha (by omega) hz).mono ?_
    rintro e w' ⟨rfl, rfl⟩
    exact ⟨none, [], rfl, ⟨Lies.nil _ _, Nm.Limbs.nil, rfl, by rw [hv, Int.zero_mul]; rfl, fun a h => by cases h⟩, Below.refl _ _⟩
  · obtain ⟨L, hL, BL, _, _⟩ := blen_is zs ha.2.2.2.2
    rw [← blen_trim_eq] at hL
    have hv : 0 < Nm.val zs := by
      rcases (show Nm.val zs = 0 ∨ 0 < Nm.val zs by omega) with h | h
      · exact absurd ((Nm.tsize_zero_iff ha.2.2.2.2).2 h) hz
      · exact h
    have hu := (BLen.up k BL hv).2.2 (Int.mul_pos hv (Nm.two_pos k))
    rw [pw_4096] at hb
    have hlt := two_lt (show (2 : Int) ^ (L + k - 1) < 2 ^ 262144 by omega)
    exact shl_ok p n cap zs kk k L w ha tz hkk (by omega) hL (by omega)

theorem shl_over (p : Option Addr) (n cap : Nat) (zs : List Int) (kk : Int) (k : Nat) (w : World) (ha : Arg w p n cap zs) (tz : Nm.tsize zs ≤ 4096) (hkk : kk = (k : Int)) (hk1 : kk ≤ 9223372036854775807) (hb : Nm.pw 4096 ≤ Nm.val zs * 2 ^ k) :
    Calls Tryz.prog 113 #[.slice p n cap, .int .i64 kk] w fun e w' => e = .returned (.tuple #[.slice none 0 0, .int .i64 2]) ∧ w' = w := by
  have hv0 := (Nm.val_bd zs ha.2.2.2.2).1
  have hp := Nm.pw_pos 4096
  have hv : 0 < Nm.val zs := by
    rcases (show Nm.val zs = 0 ∨ 0 < Nm.val zs by omega) with h | h
    · rw [h, Int.zero_mul] at hb; omega
    · exact h
  obtain ⟨L, hL, BL, _, _⟩ := blen_is zs ha.2.2.2.2
  rw [← blen_trim_eq] at hL
  have hu := (BLen.up k BL hv).1
  rw [pw_4096] at hb
  have hlt := two_lt (show (2 : Int) ^ 262144 < 2 ^ (L + k) by omega)
  exact shl_big p n cap zs kk L w ha tz (by omega) hk1 (tsize_pos ha.2.2.2.2 hv) hL (by omega)

theorem shr_any (p : Option Addr) (n cap : Nat) (zs : List Int) (kk : Int) (k : Nat) (w : World) (ha : Arg w p n cap zs) (hT : Tab w) (tz : Nm.tsize zs ≤ 4096) (hkk : kk = (k : Int)) :
    Calls Tryz.prog 165 #[.slice p n cap, .int .i64 kk] w fun e w' => ∃ r os, e = .returned (.tuple #[.slice r (List.length os) (List.length os), .bool (decide (Nm.val zs % 2 ^ k ≠ 0)), .int .i64 0]) ∧ Ans w.heap.size w' r os (Nm.val zs / 2 ^ k) ∧ Below w.heap.size w w' := by
  obtain ⟨L, hL, BL, hl, _⟩ := blen_is zs ha.2.2.2.2
  have hv0 := (Nm.val_bd zs ha.2.2.2.2).1
  rw [← blen_trim_eq] at hL
  by_cases hb : k < L
  · exact shr_ok p n cap zs kk k L w ha hT tz hkk hL hl hb
  · have hlt : Nm.val zs < 2 ^ k := by
      have := BL.1
      have := Nm.two_mono (show L ≤ k by omega)
      omega
    refine (shr_all p n cap zs kk L w ha tz (by omega) hL (by omega)).mono ?_
    rintro e w' ⟨rfl, rfl⟩
    refine ⟨none, [], ?_, ⟨Lies.nil _ _, Nm.Limbs.nil, rfl, by rw [Int.ediv_eq_zero_of_lt hv0 hlt]; rfl, fun a h => by cases h⟩, Below.refl _ _⟩
    have e : decide (0 < Nm.tsize zs) = decide (Nm.val zs % 2 ^ k ≠ 0) := by
      rw [Int.emod_eq_of_lt hv0 hlt, Bool.eq_iff_iff]
      simp only [decide_eq_true_eq]
      have := Nm.tsize_zero_iff ha.2.2.2.2
      omega
    rw [e]
    rfl
end Go.Proofs.YtdemopkdcnaibaaGreatDoor

namespace Go.Proofs.YtdemopkdcnaibaaGreatDoor
open Go.RowKit Go.Deep

/-- What ToUint answers: the limb, and whether it is one. -/
def toU (zs : List Int) : Int := if Nm.tsize zs = 1 then zs.getD 0 0 else 0

theorem ret_to {a b : Int} {c d : Bool} (h : a = b) (k : c = d) : Ending.returned (.tuple #[.int .u64 a, .bool c]) = .returned (.tuple #[.int .u64 b, .bool d]) := by rw [h, k]

theorem toUint_any (p : Option Addr) (n cap : Nat) (zs : List Int) (w : World) (ha : Arg w p n cap zs) :
    Calls Tryz.prog 112 #[.slice p n cap] w fun e w' => e = .returned (.tuple #[.int .u64 (toU zs), .bool (decide (Nm.tsize zs ≤ 1))]) ∧ w' = w := by
  obtain ⟨a1, a2, a3, a4, a5⟩ := ha
  have tl := Nm.tsize_le zs
  have S1 := trimmed_any p n cap zs w a1 a2 (by omega) a4
  rcases (show Nm.tsize zs = 0 ∨ Nm.tsize zs = 1 ∨ 1 < Nm.tsize zs by omega) with h | h | h
  · have E : Hid (0 = toU zs ∧ true = decide (Nm.tsize zs ≤ 1)) := by simp [Hid, toU, h]
    rw [h] at S1
    have HS := hid S1
    clear S1 h
    go_enter Tryz.func112, Tryz.ntmps112
    go_wp2_with fail
    refine HS.out.mono ?_
    rintro e w' ⟨rfl, rfl⟩
    go_wp2
    go_ret2
    exact ⟨ret_to E.out.1 E.out.2, rfl⟩
  · have E : Hid (zs.getD 0 0 = toU zs ∧ true = decide (Nm.tsize zs ≤ 1)) := by simp [Hid, toU, h]
    obtain ⟨b, off, rfl, hbw, HC⟩ := a4.at (by omega)
    have hc := HC.out 0 (by omega)
    rw [Nat.add_zero] at hc
    rw [h] at S1
    have HS := hid S1
    clear S1 h
    go_enter Tryz.func112, Tryz.ntmps112
    go_wp2_with fail
    refine HS.out.mono ?_
    rintro e w' ⟨rfl, rfl⟩
    go_wp2
    go_ret2
    exact ⟨ret_to E.out.1 E.out.2, rfl⟩
  · have E : Hid (0 = toU zs ∧ false = decide (Nm.tsize zs ≤ 1)) := by
      refine ⟨?_, ?_⟩
      · rw [toU, if_neg (by omega)]
      · simp; omega
    have h1 : ((Nm.tsize zs : Int) == 0) = false := by rw [beq_eq_false_iff_ne]; omega
    have h2 : ((Nm.tsize zs : Int) == 1) = false := by rw [beq_eq_false_iff_ne]; omega
    have HS := hid S1
    clear S1 h
    go_enter Tryz.func112, Tryz.ntmps112
    go_wp2_with fail
    refine HS.out.mono ?_
    rintro e w' ⟨rfl, rfl⟩
    go_wp2
    go_ret2
    exact ⟨ret_to E.out.1 E.out.2, rfl⟩

theorem toU_val {zs : List Int} (hl : Nm.Limbs zs) (hv : Nm.val zs < 18446744073709551616) : toU zs = Nm.val zs := by
  have h1 : Nm.tsize zs ≤ 1 := (Nm.tsize_le_iff hl 1).2 (by simpa [Nm.pw] using hv)
  by_cases h : Nm.tsize zs = 1
  · rw [toU, if_pos h, ← Nm.val_trim zs, Nm.trim, h]
    cases zs with
    | nil => simp [Nm.val]
    | cons z zs => simp [Nm.val]
  · have h0 : Nm.tsize zs = 0 := by omega
    rw [toU, if_neg h, ← Nm.val_trim zs, Nm.trim, h0]
    simp [Nm.val]
end Go.Proofs.YtdemopkdcnaibaaGreatDoor

/-
  ieee: scaled, roundsUp.
-/
namespace Go.Proofs.YtdemopkdcnaibaaGreatDoor
open Go Go.RowKit Go.Deep

theorem toU_is (p : Option Addr) (n cap : Nat) (zs : List Int) (w : World) (ha : Arg w p n cap zs) (V : Int) (hV : Nm.val zs = V) (h : V < 18446744073709551616) :
    Calls Tryz.prog 112 #[.slice p n cap] w fun e w' => e = .returned (.tuple #[.int .u64 V, .bool true]) ∧ w' = w := by
  have h1 := toUint_any p n cap zs w ha
  rw [toU_val ha.2.2.2.2 (by rw [hV]; exact h), hV] at h1
  have h2 : Nm.tsize zs ≤ 1 := (Nm.tsize_le_iff ha.2.2.2.2 1).2 (by rw [hV]; exact h)
  simpa [h2] using h1

set_option maxRecDepth 100000 in
set_option maxHeartbeats 1000000 in
theorem scaled_up (p : Option Addr) (n cap : Nat) (zs : List Int) (w : World) (ha : Arg w p n cap zs) (V s : Int) (j : Nat) (hV : Nm.val zs = V) (hs : s = (j : Int)) (hj : 0 < j) (hj2 : j ≤ 64) (h : V * 2 ^ j < 18446744073709551616) :
    Calls Tryz.prog 167 #[.slice p n cap, .int .i64 s] w fun e w' => e = .returned (.int .u64 (V * 2 ^ j)) ∧ w' = w := by
  subst hs
  have v0 : 0 ≤ V := by rw [← hV]; exact (Nm.val_bd zs ha.2.2.2.2).1
  have hp := Nm.two_pos j
  have v1 : V < 18446744073709551616 := by
    have : V * 1 ≤ V * 2 ^ j := Int.mul_le_mul_of_nonneg_left (by omega) v0
    omega
  have T := hid (toU_is p n cap zs w ha V hV v1)
  have m0 : 0 ≤ V * 2 ^ j := Int.mul_nonneg v0 (by omega)
  have W : IntKind.u64.wrap (V * 2 ^ j) = V * 2 ^ j := by rw [IntKind.wrap_u64]; omega
  have hj' : (0 : Int) < (j : Int) := by omega
  have hj3 : (j : Int) ≤ 64 := by omega
  clear ha hV hp v1 h m0 hj
  go_enter Tryz.func167, Tryz.ntmps167
  go_wp2_with fail
  refine T.out.mono ?_
  rintro e w' ⟨rfl, rfl⟩
  go_wp2_with fail
  go_ret
  exact ⟨rfl, rfl⟩

set_option maxRecDepth 100000 in
set_option maxHeartbeats 1000000 in
theorem scaled_down (p : Option Addr) (n cap : Nat) (zs : List Int) (w : World) (ha : Arg w p n cap zs) (hT : Tab w) (tz : Nm.tsize zs ≤ 4096) (V s : Int) (k : Nat) (hV : Nm.val zs = V) (hs : s = -(k : Int)) (hk : k ≤ 8000000) (h : V / 2 ^ k < 18446744073709551616) :
    Calls Tryz.prog 167 #[.slice p n cap, .int .i64 s] w fun e w' => e = .returned (.int .u64 (V / 2 ^ k)) ∧ Below w.heap.size w w' := by
  subst hs
  have H := hid (fun (kk : Int) (hkk : kk = (k : Int)) => shr_any p n cap zs kk k w ha hT tz hkk)
  have hk0 : ¬ (0 : Int) < -(k : Int) := by omega
  have hk1 : (k : Int) ≤ 8000000 := by omega
  have HV := hid hV
  have HH := hid h
  clear ha hT tz hV h hk
  go_enter Tryz.func167, Tryz.ntmps167
  go_wp2_with fail
  refine (H.out _ (by omega)).mono ?_
  rintro e w' ⟨r, os, rfl, A, hB⟩
  rw [HV.out] at A
  have A1 : os.length ≤ 17592186044416 := by
    have := (Nm.tsize_le_iff A.2.1 1).2 (by rw [A.2.2.2.1]; exact HH.out)
    rw [A.2.2.1] at this
    omega
  have T := hid (toU_is r _ _ os w' (A.arg A1) _ A.2.2.2.1 HH.out)
  have HB := hid hB
  clear A A1 hB H
  go_wp2_with fail
  refine T.out.mono ?_
  rintro e w'' ⟨rfl, rfl⟩
  go_wp2_with fail
  go_ret
  exact ⟨rfl, HB.out⟩

theorem up_none (p : Option Addr) (n cap : Nat) (w : World) (s : Int) (half : Bool) (hs : s ≤ 0) (hs2 : -8000000 ≤ s) :
    Calls Tryz.prog 168 #[.slice p n cap, .int .i64 s, .bool half] w fun e w' => e = .returned (.bool false) ∧ w' = w := by
  have H := hid (fun (i : Int) (hi : i < 0) => bit_neg p n cap i w hi)
  go_enter Tryz.func168, Tryz.ntmps168
  go_wp2_with fail
  refine (H.out _ (by omega)).mono ?_
  rintro e w' ⟨rfl, rfl⟩
  go_wp2_with fail
  go_ret
  exact ⟨rfl, rfl⟩

set_option maxRecDepth 100000 in
set_option maxHeartbeats 1000000 in
theorem up_some (p : Option Addr) (n cap : Nat) (zs : List Int) (w : World) (ha : Arg w p n cap zs) (hT : Tab w) (V s : Int) (k : Nat) (half : Bool) (hV : Nm.val zs = V) (hv : 0 < V) (hs : s = (k : Int) + 1) (hk : k ≤ 8000000) :
    Calls Tryz.prog 168 #[.slice p n cap, .int .i64 s, .bool half] w fun e w' => ∃ up, e = .returned (.bool up) ∧ (up = true ↔ (V / 2 ^ k % 2 = 1 ∧ (half = true ∨ V % 2 ^ k ≠ 0))) ∧ w' = w := by
  subst hs
  obtain ⟨b, hb⟩ : ∃ b, V / 2 ^ k % 2 = b := ⟨_, rfl⟩
  have H : Hid (∀ i : Int, i = (k : Int) → Calls Tryz.prog 215 #[.slice p n cap, .int .i64 i] w fun e w' => e = .returned (.int .i64 b) ∧ w' = w) := by
    intro i hi
    have := bit_any p n cap zs k i w ha (by omega) hi
    rw [hV, hb] at this
    exact this
  have T := hid (trail_any p n cap zs w ha hT)
  have HV := hid hV
  have hb2 : b = 0 ∨ b = 1 := by omega
  have HB := hid hb
  have hvv := hid hv
  have hk1 : (k : Int) ≤ 8000000 := by omega
  clear ha hT hV hb hv hk
  rcases hb2 with rfl | rfl
  · go_enter Tryz.func168, Tryz.ntmps168
    go_wp2_with fail
    refine (H.out _ (by omega)).mono ?_
    rintro e w' ⟨rfl, rfl⟩
    go_wp2_with fail
    go_ret
    exact ⟨false, rfl, ⟨fun h => (by cases h), fun h => (by have := HB.out; omega)⟩, rfl⟩
  · cases half
    · go_enter Tryz.func168, Tryz.ntmps168
      go_wp2_with fail
      refine (H.out _ (by omega)).mono ?_
      rintro e w' ⟨rfl, rfl⟩
      go_wp2_with fail
      refine T.out.mono ?_
      rintro e w' ⟨t, rfl, ht, rfl⟩
      rw [HV.out] at ht
      have E := hid (Sh.lost_iff (n := k) ht hvv.out)
      clear ht
      go_wp2_with fail
      go_ret
      refine ⟨_, rfl, ?_, rfl⟩
      have E1 : (t : Int) < (k : Int) ↔ V % 2 ^ k ≠ 0 := by simpa only [decide_eq_decide] using E.out
      rw [decide_eq_true_iff]
      constructor
      · intro h
        exact ⟨HB.out, .inr (E1.1 (by omega))⟩
      · rintro ⟨_, h | h⟩
        · cases h
        · have := E1.2 h
          omega
    · go_enter Tryz.func168, Tryz.ntmps168
      go_wp2_with fail
      refine (H.out _ (by omega)).mono ?_
      rintro e w' ⟨rfl, rfl⟩
      go_wp2_with fail
      go_ret
      refine ⟨true, rfl, ?_, rfl⟩
      have := HB.out
      simp [this]
end Go.Proofs.YtdemopkdcnaibaaGreatDoor

/-
  ieee: nearest (made by mknear.py).
-/
namespace Go.Proofs.YtdemopkdcnaibaaGreatDoor
open Go Go.RowKit Go.Deep

set_option maxRecDepth 100000 in
set_option maxHeartbeats 2000000 in
theorem nearest_up (p : Option Addr) (n cap : Nat) (zs : List Int) (w : World) (ha : Arg w p n cap zs) (hT : Tab w) (tz : Nm.tsize zs ≤ 4096) (V e u : Int) (L j U : Nat) (more : Bool) (hV : Nm.val zs = V) (hL : blen zs = (L : Int)) (hL0 : 0 < L) (hL2 : L ≤ 262144) (hbig : (L : Int) + e ≤ 1024) (hsm : -8000000 ≤ e)
    (hj : e - u = (j : Int)) (hj2 : j ≤ 64) (hU : u + 1074 = (U : Int)) (hU2 : U ≤ 2045) (hm : V * 2 ^ j < 9007199254740992) (hmax : ((L : Int) + e - 53 < -1074 ∧ u = -1074) ∨ (-1074 ≤ (L : Int) + e - 53 ∧ u = (L : Int) + e - 53)) :
    Calls Tryz.prog 92 #[.slice p n cap, .int .i64 e, .bool more] w fun r w' => r = .returned (.int .u64 ((U : Int) * 4503599627370496 + V * 2 ^ j)) ∧ Below w.heap.size w w' := by
  have v0 : 0 ≤ V := by rw [← hV]; exact (Nm.val_bd zs ha.2.2.2.2).1
  have BL : Hid (Calls Tryz.prog 89 #[.slice p n cap] w fun e w' => e = .returned (.int .i64 (L : Int)) ∧ w' = w) := by
    have := bitLen_any p n cap zs w ha
    rw [hL] at this
    exact this
  obtain ⟨m, hme⟩ : ∃ m, V * 2 ^ j = m := ⟨_, rfl⟩
  have SC : Hid (∀ s : Int, s = (j : Int) → Calls Tryz.prog 167 #[.slice p n cap, .int .i64 s] w fun e w' => e = .returned (.int .u64 m) ∧ Below w.heap.size w w') := by
    intro s hs
    rcases Nat.eq_zero_or_pos j with hj0 | hj0
    · subst hj0
      have e1 : V / 2 ^ 0 = m := by rw [← hme, Int.pow_zero, Int.mul_one, Int.ediv_one]
      have := scaled_down p n cap zs w ha hT tz V s 0 hV (by omega) (by omega) (by rw [e1]; omega)
      rw [e1] at this
      exact this
    · have := scaled_up p n cap zs w ha V s j hV hs hj0 hj2 (by omega)
      rw [hme] at this
      refine this.mono ?_
      rintro e' w' ⟨rfl, rfl⟩
      exact ⟨rfl, Below.refl _ _⟩
  have RU := hid (fun (wx : World) (s : Int) (half : Bool) (h : s ≤ 0) (h2 : -8000000 ≤ s) => up_none p n cap wx s half h h2)
  have m0 : 0 ≤ m := by rw [← hme]; exact Int.mul_nonneg v0 (by have := Nm.two_pos j; omega)
  rw [hme] at hm ⊢
  have B := Ib.one_and m m0 (by omega)
  have l0 : ((L : Int) == 0) = false := by rw [beq_eq_false_iff_ne]; omega
  have l1 : ¬ 1024 < (L : Int) + e := by omega
  have l2 : (L : Int) ≤ 262144 := by omega
  clear ha hV hL hme hL2 v0 hT tz
  rcases hmax with ⟨h, rfl⟩ | ⟨h, rfl⟩ <;> cases more
  · go_enter Tryz.func92, Tryz.ntmps92
    go_wp2_with fail
    refine BL.out.mono ?_
    rintro e' w' ⟨rfl, rfl⟩
    go_wp2_with fail
    refine (SC.out _ (by omega)).mono ?_
    rintro e' w' ⟨rfl, HB⟩
    have HB := hid HB
    go_wp2_with fail
    refine (RU.out _ _ _ (by omega) (by omega)).mono ?_
    rintro e' w' ⟨rfl, rfl⟩
    go_wp2_with fail
    go_ret
    exact ⟨i_retU (by omega), HB.out⟩
  · go_enter Tryz.func92, Tryz.ntmps92
    go_wp2_with fail
    refine BL.out.mono ?_
    rintro e' w' ⟨rfl, rfl⟩
    go_wp2_with fail
    refine (SC.out _ (by omega)).mono ?_
    rintro e' w' ⟨rfl, HB⟩
    have HB := hid HB
    go_wp2_with fail
    refine (RU.out _ _ _ (by omega) (by omega)).mono ?_
    rintro e' w' ⟨rfl, rfl⟩
    go_wp2_with fail
    go_ret
    exact ⟨i_retU (by omega), HB.out⟩
  · go_enter Tryz.func92, Tryz.ntmps92
    go_wp2_with fail
    refine BL.out.mono ?_
    rintro e' w' ⟨rfl, rfl⟩
    go_wp2_with fail
    refine (SC.out _ (by omega)).mono ?_
    rintro e' w' ⟨rfl, HB⟩
    have HB := hid HB
    go_wp2_with fail
    refine (RU.out _ _ _ (by omega) (by omega)).mono ?_
    rintro e' w' ⟨rfl, rfl⟩
    go_wp2_with fail
    go_ret
    exact ⟨i_retU (by omega), HB.out⟩
  · go_enter Tryz.func92, Tryz.ntmps92
    go_wp2_with fail
    refine BL.out.mono ?_
    rintro e' w' ⟨rfl, rfl⟩
    go_wp2_with fail
    refine (SC.out _ (by omega)).mono ?_
    rintro e' w' ⟨rfl, HB⟩
    have HB := hid HB
    go_wp2_with fail
    refine (RU.out _ _ _ (by omega) (by omega)).mono ?_
    rintro e' w' ⟨rfl, rfl⟩
    go_wp2_with fail
    go_ret
    exact ⟨i_retU (by omega), HB.out⟩

set_option maxRecDepth 100000 in
set_option maxHeartbeats 2000000 in
theorem nearest_down (p : Option Addr) (n cap : Nat) (zs : List Int) (w : World) (ha : Arg w p n cap zs) (hT : Tab w) (tz : Nm.tsize zs ≤ 4096) (V e u : Int) (L k U : Nat) (more : Bool) (hV : Nm.val zs = V) (hv : 0 < V) (hL : blen zs = (L : Int)) (hL0 : 0 < L) (hL2 : L ≤ 262144) (hbig : (L : Int) + e ≤ 1024) (hsm : -7000000 ≤ e)
    (hk : u - e = (k : Int) + 1) (hU : u + 1074 = (U : Int)) (hU2 : U ≤ 2045) (hm : V / 2 ^ (k + 1) < 9007199254740992) (hmax : ((L : Int) + e - 53 < -1074 ∧ u = -1074) ∨ (-1074 ≤ (L : Int) + e - 53 ∧ u = (L : Int) + e - 53)) :
    Calls Tryz.prog 92 #[.slice p n cap, .int .i64 e, .bool more] w fun r w' => ∃ up : Bool, r = .returned (.int .u64 ((U : Int) * 4503599627370496 + V / 2 ^ (k + 1) + if up = true then 1 else 0)) ∧
      (up = true ↔ (V / 2 ^ k % 2 = 1 ∧ ((more = true ∨ V / 2 ^ (k + 1) % 2 = 1) ∨ V % 2 ^ k ≠ 0))) ∧ Below w.heap.size w w' := by
  have BL : Hid (Calls Tryz.prog 89 #[.slice p n cap] w fun e w' => e = .returned (.int .i64 (L : Int)) ∧ w' = w) := by
    have := bitLen_any p n cap zs w ha
    rw [hL] at this
    exact this
  obtain ⟨m, hme⟩ : ∃ m, V / 2 ^ (k + 1) = m := ⟨_, rfl⟩
  have SC : Hid (∀ s : Int, s = -((k + 1 : Nat) : Int) → Calls Tryz.prog 167 #[.slice p n cap, .int .i64 s] w fun e w' => e = .returned (.int .u64 m) ∧ Below w.heap.size w w') := by
    intro s hs
    have := scaled_down p n cap zs w ha hT tz V s (k + 1) hV hs (by omega) (by omega)
    rw [hme] at this
    exact this
  have RS : Hid (∀ w' : World, Below w.heap.size w w' → ∀ (s : Int) (half : Bool), s = (k : Int) + 1 → Calls Tryz.prog 168 #[.slice p n cap, .int .i64 s, .bool half] w' fun e w'' => ∃ up, e = .returned (.bool up) ∧ (up = true ↔ (V / 2 ^ k % 2 = 1 ∧ (half = true ∨ V % 2 ^ k ≠ 0))) ∧ w'' = w') := by
    intro w' hB s half hs
    exact up_some p n cap zs w' (ha.below hB (Nat.le_refl _)) (hT.below hB) V s k half hV hv hs (by omega)
  have m0 : 0 ≤ m := by rw [← hme]; exact Int.ediv_nonneg (by omega) (by have := Nm.two_pos (k + 1); omega)
  rw [hme] at hm ⊢
  have B := Ib.one_and m m0 (by omega)
  have l0 : ((L : Int) == 0) = false := by rw [beq_eq_false_iff_ne]; omega
  have l1 : ¬ 1024 < (L : Int) + e := by omega
  have l2 : (L : Int) ≤ 262144 := by omega
  clear ha hV hL hme hL2 hT tz hv
  rcases hmax with ⟨h, rfl⟩ | ⟨h, rfl⟩ <;> cases more
  · go_enter Tryz.func92, Tryz.ntmps92
    go_wp2_with fail
    refine BL.out.mono ?_
    rintro e' w' ⟨rfl, rfl⟩
    go_wp2_with fail
    refine (SC.out _ (by omega)).mono ?_
    rintro e' w' ⟨rfl, HB⟩
    have RU := hid (RS.out w' HB)
    have HB := hid HB
    go_wp2_with fail
    refine (RU.out _ _ (by omega)).mono ?_
    rintro e' w'' ⟨up, rfl, hup, rfl⟩
    have UP := hid hup
    clear hup
    cases up
    · go_wp2_with fail
      go_ret
      exact ⟨false, i_retU (by simp; omega), by simpa using UP.out, HB.out⟩
    · go_wp2_with fail
      go_ret
      exact ⟨true, i_retU (by simp; omega), by simpa using UP.out, HB.out⟩
  · go_enter Tryz.func92, Tryz.ntmps92
    go_wp2_with fail
    refine BL.out.mono ?_
    rintro e' w' ⟨rfl, rfl⟩
    go_wp2_with fail
    refine (SC.out _ (by omega)).mono ?_
    rintro e' w' ⟨rfl, HB⟩
    have RU := hid (RS.out w' HB)
    have HB := hid HB
    go_wp2_with fail
    refine (RU.out _ _ (by omega)).mono ?_
    rintro e' w'' ⟨up, rfl, hup, rfl⟩
    have UP := hid hup
    clear hup
    cases up
    · go_wp2_with fail
      go_ret
      exact ⟨false, i_retU (by simp; omega), by simpa using UP.out, HB.out⟩
    · go_wp2_with fail
      go_ret
      exact ⟨true, i_retU (by simp; omega), by simpa using UP.out, HB.out⟩
  · go_enter Tryz.func92, Tryz.ntmps92
    go_wp2_with fail
    refine BL.out.mono ?_
    rintro e' w' ⟨rfl, rfl⟩
    go_wp2_with fail
    refine (SC.out _ (by omega)).mono ?_
    rintro e' w' ⟨rfl, HB⟩
    have RU := hid (RS.out w' HB)
    have HB := hid HB
    go_wp2_with fail
    refine (RU.out _ _ (by omega)).mono ?_
    rintro e' w'' ⟨up, rfl, hup, rfl⟩
    have UP := hid hup
    clear hup
    cases up
    · go_wp2_with fail
      go_ret
      exact ⟨false, i_retU (by simp; omega), by simpa using UP.out, HB.out⟩
    · go_wp2_with fail
      go_ret
      exact ⟨true, i_retU (by simp; omega), by simpa using UP.out, HB.out⟩
  · go_enter Tryz.func92, Tryz.ntmps92
    go_wp2_with fail
    refine BL.out.mono ?_
    rintro e' w' ⟨rfl, rfl⟩
    go_wp2_with fail
    refine (SC.out _ (by omega)).mono ?_
    rintro e' w' ⟨rfl, HB⟩
    have RU := hid (RS.out w' HB)
    have HB := hid HB
    go_wp2_with fail
    refine (RU.out _ _ (by omega)).mono ?_
    rintro e' w'' ⟨up, rfl, hup, rfl⟩
    have UP := hid hup
    clear hup
    cases up
    · go_wp2_with fail
      go_ret
      exact ⟨false, i_retU (by simp; omega), by simpa using UP.out, HB.out⟩
    · go_wp2_with fail
      go_ret
      exact ⟨true, i_retU (by simp; omega), by simpa using UP.out, HB.out⟩

set_option maxRecDepth 100000 in
theorem nearest_any (p : Option Addr) (n cap : Nat) (zs : List Int) (w : World) (ha : Arg w p n cap zs) (hT : Tab w) (tz : Nm.tsize zs ≤ 4096) (V e : Int) (more : Bool) (hV : Nm.val zs = V) (h0 : -7000000 ≤ e) (h1 : e ≤ 7000000) :
    Calls Tryz.prog 92 #[.slice p n cap, .int .i64 e, .bool more] w fun r w' => ∃ x, r = .returned (.int .u64 x) ∧ Ie.Rnd V 1 e more x ∧ Below w.heap.size w w' := by
  obtain ⟨L, hL, BL, hl, _⟩ := blen_is zs ha.2.2.2.2
  have v0 : 0 ≤ V := by rw [← hV]; exact (Nm.val_bd zs ha.2.2.2.2).1
  rw [hV] at BL
  have hL2 : L ≤ 262144 := by omega
  have B : Hid (Calls Tryz.prog 89 #[.slice p n cap] w fun e w' => e = .returned (.int .i64 (L : Int)) ∧ w' = w) := by
    have := bitLen_any p n cap zs w ha
    rw [hL] at this
    exact this
  rcases (show V = 0 ∨ 0 < V by omega) with hv | hv
  · have hL0 : L = 0 := BL.2.1 hv
    subst hL0
    have R := hid (Ie.rnd_zero 1 e more (by omega))
    rw [hv]
    clear ha hT tz hV hL BL hl hL2 v0 hv
    go_enter Tryz.func92, Tryz.ntmps92
    go_wp2_with fail
    refine B.out.mono ?_
    rintro e' w' ⟨rfl, rfl⟩
    go_wp2_with fail
    go_ret
    exact ⟨0, rfl, R.out, Below.refl _ _⟩
  · obtain ⟨hL1, hp⟩ := BL.2.2 hv
    rcases (show 1024 < (L : Int) + e ∨ (L : Int) + e ≤ 1024 by omega) with hb | hb
    · have R := hid (Ie.rnd_inf V 1 e (L - 1) 0 more hp (by decide) (by omega))
      have l0 : ((L : Int) == 0) = false := by rw [beq_eq_false_iff_ne]; omega
      have l2 : (L : Int) ≤ 262144 := by omega
      clear ha hT tz hV hL BL hl hL2 v0 hv hp hL1
      go_enter Tryz.func92, Tryz.ntmps92
      go_wp2_with fail
      refine B.out.mono ?_
      rintro e' w' ⟨rfl, rfl⟩
      go_wp2_with fail
      go_ret
      exact ⟨_, rfl, R.out, Below.refl _ _⟩
    · obtain ⟨u, hu⟩ : ∃ u : Int, ((L : Int) + e - 53 < -1074 ∧ u = -1074) ∨ (-1074 ≤ (L : Int) + e - 53 ∧ u = (L : Int) + e - 53) := by
        rcases (show (L : Int) + e - 53 < -1074 ∨ -1074 ≤ (L : Int) + e - 53 by omega) with h | h
        · exact ⟨_, .inl ⟨h, rfl⟩⟩
        · exact ⟨_, .inr ⟨h, rfl⟩⟩
      obtain ⟨U, hU⟩ : ∃ U : Nat, u + 1074 = (U : Int) := ⟨(u + 1074).toNat, by omega⟩
      have e53 : (2 : Int) ^ 53 = 9007199254740992 := by decide
      rcases (show u ≤ e ∨ e < u by omega) with hd | hd
      · obtain ⟨j, hj⟩ : ∃ j : Nat, e - u = (j : Int) := ⟨(e - u).toNat, by omega⟩
        have hj53 : L + j ≤ 53 := by omega
        have hm : V * 2 ^ j < 9007199254740992 := by
          have g1 : V * 2 ^ j < 2 ^ (L + j) := by rw [Nm.two_add]; exact Int.mul_lt_mul_of_pos_right BL.1 (Nm.two_pos j)
          have g2 := Nm.two_mono hj53
          omega
        refine (nearest_up p n cap zs w ha hT tz V e u L j U more hV hL (by omega) hL2 hb (by omega) hj (by omega) hU (by omega) hm hu).mono ?_
        rintro r w' ⟨rfl, hB⟩
        exact ⟨_, rfl, Ie.rnd_exact V e L j U more hv hp hL1 BL.1 hj53 (by omega) (by omega) (by omega), hB⟩
      · obtain ⟨k, hk⟩ : ∃ k : Nat, u - e = (k : Int) + 1 := ⟨(u - e - 1).toNat, by omega⟩
        have hk53 : L ≤ k + 1 + 53 := by omega
        have hm : V / 2 ^ (k + 1) < 9007199254740992 := by
          rw [Int.ediv_lt_iff_lt_mul (Nm.two_pos _)]
          have g := Nm.two_mono hk53
          rw [Nm.two_add, e53] at g
          rw [Int.mul_comm]
          have := BL.1
          omega
        refine (nearest_down p n cap zs w ha hT tz V e u L k U more hV hv hL (by omega) hL2 hb (by omega) hk hU (by omega) hm hu).mono ?_
        rintro r w' ⟨up, rfl, hup, hB⟩
        refine ⟨_, rfl, Ie.rnd_cut V e L (k + 1) U more up hv hp hL1 BL.1 (by omega) (by omega) (by omega) (by omega) ?_, hB⟩
        rw [hup, Nat.add_sub_cancel]
        constructor
        · rintro ⟨g1, (g | g) | g⟩
          · exact ⟨by omega, g1, .inl g⟩
          · exact ⟨by omega, g1, .inr (.inl g)⟩
          · exact ⟨by omega, g1, .inr (.inr g)⟩
        · rintro ⟨_, g1, g | g | g⟩
          · exact ⟨g1, .inl (.inl g)⟩
          · exact ⟨g1, .inl (.inr g)⟩
          · exact ⟨g1, .inr g⟩
end Go.Proofs.YtdemopkdcnaibaaGreatDoor

/-
  ieee: Round.
-/
namespace Go.Proofs.YtdemopkdcnaibaaGreatDoor
open Go Go.RowKit Go.Deep

namespace Ie
theorem win_ok {n d e x : Int} {more : Bool} (L M : Nat) (n0 : 0 ≤ n) (hn : n < 2 ^ L) (d0 : 0 < d) (hd : d ≤ 2 ^ M) (hL : L ≤ 262144) (hM : M ≤ 262144) (h : Rnd n d (win e) more x) : Rnd n d e more x := by
  rcases (show win e = e ∨ (win e = 2097152 ∧ 2097152 < e) ∨ (win e = -2097152 ∧ e < -2097152) by simp only [win]; omega) with g | ⟨g, g'⟩ | ⟨g, g'⟩
  · rw [g] at h; exact h
  · rw [g] at h
    rcases (show n = 0 ∨ 0 < n by omega) with h0 | h0
    · subst h0
      have := h.one d0 d0 (rnd_zero d 2097152 more d0) (a := 0) (a' := 0) (by omega) rfl
      rw [this]
      exact rnd_zero d e more d0
    · have p0 : (2 : Int) ^ 0 ≤ n := by rw [Int.pow_zero]; omega
      have := h.one d0 d0 (rnd_inf n d 2097152 0 M more p0 hd (by omega)) (a := 0) (a' := 0) (by omega) rfl
      rw [this]
      exact rnd_inf n d e 0 M more p0 hd (by omega)
  · rw [g] at h
    have p0 : (2 : Int) ^ 0 ≤ d := by rw [Int.pow_zero]; omega
    have := h.one d0 d0 (rnd_small n d (-2097152) L 0 more hn p0 (by omega)) (a := 0) (a' := 0) (by omega) rfl
    rw [this]
    exact rnd_small n d e L 0 more hn p0 (by omega)

theorem win_bd (e : Int) : -2097152 ≤ win e ∧ win e ≤ 2097152 := by simp only [win]; omega
end Ie
end Go.Proofs.YtdemopkdcnaibaaGreatDoor

/-
  ieee: Round.
-/
namespace Go.Proofs.YtdemopkdcnaibaaGreatDoor
open Go Go.RowKit Go.Deep


set_option maxRecDepth 100000 in
set_option maxHeartbeats 2000000 in
theorem round_any (neg : Bool) (p : Option Addr) (n cap : Nat) (zs : List Int) (w : World) (ha : Arg w p n cap zs) (hT : Tab w) (tz : Nm.tsize zs ≤ 4096) (V e : Int) (more : Bool) (hV : Nm.val zs = V) :
    Calls Tryz.prog 59 #[.bool neg, .slice p n cap, .int .i64 e, .bool more] w fun r w' => ∃ x, r = .returned (.tuple #[.int .u64 (Ie.sg neg x), .int .i64 0]) ∧ Ie.Rnd V 1 e more x ∧ Below w.heap.size w w' := by
  obtain ⟨L, hL, BL, hl, _⟩ := blen_is zs ha.2.2.2.2
  rw [hV] at BL
  have B1 := hid (bitLen_n L p n cap zs w ha hL)
  have v0 : 0 ≤ V := by rw [← hV]; exact (Nm.val_bd zs ha.2.2.2.2).1
  have WI := hid (fun (x : Int) => Ie.win_ok (n := V) (d := 1) (e := e) (x := x) (more := more) L 0 v0 BL.1 (by omega) (by decide) (by omega) (by omega))
  have W0 := hid (within_any e w)
  obtain ⟨we, hwe⟩ : ∃ we, Ie.win e = we := ⟨_, rfl⟩
  have wb := Ie.win_bd e
  rw [hwe] at wb W0 WI
  have NR := hid (nearest_any p n cap zs w ha hT tz V we more hV (by omega) (by omega))
  have l1 : decide (262144 < (L : Int)) = false := by simp; omega
  clear ha hT tz hV hL BL hl v0 hwe wb
  go_enter Tryz.func59, Tryz.ntmps59
  go_wp2_with fail
  refine B1.out.mono ?_
  rintro e' w' ⟨rfl, rfl⟩
  go_wp2_with fail
  refine W0.out.mono ?_
  rintro e' w' ⟨rfl, rfl⟩
  go_wp2_with fail
  refine NR.out.mono ?_
  rintro e' w1 ⟨x, rfl, R, hB⟩
  have bd := R.bd
  have R1 := hid (WI.out x R)
  have SG := hid (signed_any neg x w1 bd.1 (by omega))
  have HB := hid hB
  clear R bd hB
  go_wp2_with fail
  refine SG.out.mono ?_
  rintro e' w2 ⟨rfl, rfl⟩
  go_wp2_with fail
  go_ret2
  exact ⟨x, rfl, R1.out, HB.out⟩
end Go.Proofs.YtdemopkdcnaibaaGreatDoor

namespace Go.Proofs.YtdemopkdcnaibaaGreatDoor
open Go.RowKit Go.Deep

theorem ans_none (B : Nat) (w : World) (p : Option Addr) (h : ∀ a, p = some a → B ≤ a.block) : Ans B w p [] 0 :=
  ⟨Lies.nil _ _, Nm.Limbs.nil, rfl, rfl, h⟩

theorem limb_one {x : Int} (h : 0 ≤ x ∧ x < 18446744073709551616) : Nm.Limbs [x] := Nm.Limbs.mk h.1 h.2 Nm.Limbs.nil

theorem fromUint_any (x : Int) (w : World) (h0 : 0 ≤ x) (h1 : x < 18446744073709551616) :
    Calls Tryz.prog 111 #[.int .u64 x] w fun e w' => ∃ r os, e = .returned (.slice r (List.length os) (List.length os)) ∧ Ans w.heap.size w' r os x ∧ Below w.heap.size w w' := by
  by_cases hx : x = 0
  · subst hx
    go_enter Tryz.func111, Tryz.ntmps111
    go_wp2
    go_ret
    exact ⟨none, [], rfl, ans_none _ _ _ (fun a h => by cases h), Below.refl _ _⟩
  · have hx' : (x == 0) = false := by rw [beq_eq_false_iff_ne]; exact hx
    have D : Hid (Below w.heap.size w (w.alloc (.cells #[.int .u64 x] 24))) := (Below.refl _ _).alloc (Nat.le_refl _) _
    have A : Hid (Ans w.heap.size (w.alloc (.cells #[.int .u64 x] 24)) (some ⟨w.heap.size, 0, none⟩) [x] x) := ⟨(Own.alloc w [x]).lies, limb_one ⟨h0, h1⟩, by simp [Nm.tsize, hx], by simp [Nm.val], fun a h => by cases h; exact Nat.le_refl _⟩
    go_enter Tryz.func111, Tryz.ntmps111
    go_wp2
    go_ret
    exact ⟨some ⟨w.heap.size, 0, none⟩, [x], rfl, A.out, D.out⟩
end Go.Proofs.YtdemopkdcnaibaaGreatDoor

/-
  A state as one predicate: what it says of the memory, and that only new memory was written.
-/
namespace Go.Proofs.YtdemopkdcnaibaaGreatDoor
open Go Go.RowKit Go.Deep

structure St (S : World → Prop) (w wx : World) : Prop where
  cells : S wx
  bel : Below w.heap.size w wx

def Stays (S : World → Prop) : Prop := ∀ wx w' : World, S wx → Below wx.heap.size wx w' → S w'

theorem St.on {S : World → Prop} {w wx w' : World} (h : St S w wx) (k : Stays S) (hB : Below wx.heap.size wx w') : St S w w' := ⟨k _ _ h.cells hB, h.bel.trans (hB.mono h.bel.size)⟩
theorem St.drew {S : World → Prop} {w wx : World} (h : St S w wx) (k : Stays S) : St S w wx.drew := h.on k ⟨rfl, rfl, rfl, Nat.le_refl _, fun _ _ => rfl⟩
theorem St.more {S T : World → Prop} {w wx w' : World} (h : St S w wx) (k : Stays S) (hB : Below wx.heap.size wx w') (t : T w') : St (fun x => S x ∧ T x) w w' := ⟨⟨k _ _ h.cells hB, t⟩, h.bel.trans (hB.mono h.bel.size)⟩
theorem St.imp {S T : World → Prop} {w wx : World} (h : St S w wx) (k : ∀ x, S x → T x) : St T w wx := ⟨k _ h.cells, h.bel⟩
theorem St.to {S T : World → Prop} {w wx w' : World} (h : St S w wx) (hB : Below wx.heap.size wx w') (t : T w') : St T w w' := ⟨t, h.bel.trans (hB.mono h.bel.size)⟩

theorem Stays.cell (a : Addr) (v : Value) : Stays (fun w => w.cell? a = some v) := fun _ _ h hB => (hB.cell (cell_lt h)).trans h
theorem Stays.and {S T : World → Prop} (h : Stays S) (k : Stays T) : Stays (fun w => S w ∧ T w) := fun _ _ g hB => ⟨h _ _ g.1 hB, k _ _ g.2 hB⟩
theorem Stays.ans (B : Nat) (p : Option Addr) (os : List Int) (v : Int) : Stays (fun w => Ans B w p os v) := fun _ _ h hB => h.below hB (Nat.le_refl _)
theorem Stays.arg (p : Option Addr) (n cap : Nat) (os : List Int) : Stays (fun w => Arg w p n cap os) := fun _ _ h hB => h.below hB (Nat.le_refl _)
theorem Stays.tab : Stays Tab := fun _ _ h hB => h.below hB
theorem Stays.bel (w : World) : Stays (fun x => Below w.heap.size w x) := fun _ _ h hB => h.trans (hB.mono h.size)
theorem Stays.const (p : Prop) : Stays (fun _ => p) := fun _ _ h _ => h

/-- The state under a name of its own. -/
theorem state (S : World → Prop) (w : World) (k : Stays S) : ∃ SS : World → Prop, Hid (∀ wx w' : World, SS wx → Below wx.heap.size wx w' → SS w') ∧ Hid (∀ wx : World, SS wx → S wx) ∧ Hid (∀ wx : World, SS wx → Below w.heap.size w wx) ∧ Hid (∀ wx : World, S wx → Below w.heap.size w wx → SS wx) :=
  ⟨St S w, fun _ _ h hB => h.on k hB, fun _ h => h.cells, fun _ h => h.bel, fun _ h b => ⟨h, b⟩⟩

theorem drew_nil (w : World) : Below w.heap.size w w.drew := ⟨rfl, rfl, rfl, Nat.le_refl _, fun _ _ => rfl⟩
end Go.Proofs.YtdemopkdcnaibaaGreatDoor

/-
  An answer below one limb.
-/
namespace Go.Proofs.YtdemopkdcnaibaaGreatDoor
open Go Go.RowKit Go.Deep

theorem Ans.lim1 {B : Nat} {w : World} {p : Option Addr} {os : List Int} {v : Int} (h : Ans B w p os v) (hv : v < 18446744073709551616) : os.length ≤ 1 := by
  have := (Nm.tsize_le_iff h.2.1 1).2 (by rw [h.2.2.2.1]; exact hv)
  rw [h.2.2.1] at this
  exact this
end Go.Proofs.YtdemopkdcnaibaaGreatDoor

/-
  remain: Scale.
-/
namespace Go.Proofs.YtdemopkdcnaibaaGreatDoor
open Go Go.RowKit Go.Deep

/-- What Scale answers. -/
def Ie.ScaleIs (d n r : Int) : Prop := (Ie.isn d = true → r = 9221120237041090560) ∧ (Ie.isi d = true → r = d) ∧ (Ie.fin d → ∃ x, r = Ie.sg (Ie.ngd d) x ∧ Ie.Rnd (Ie.dm d) 1 (Ie.de d + n) false x)

set_option maxRecDepth 100000 in
set_option maxHeartbeats 4000000 in
theorem scale_fin (d n : Int) (w : World) (hT : Tab w) (h0 : 0 ≤ d) (h1 : d < 18446744073709551616) (hf : Ie.fin d) :
    Calls Tryz.prog 81 #[.int .u64 d, .int .i64 n] w fun e w' => ∃ x, e = .returned (.int .u64 (Ie.sg (Ie.ngd d) x)) ∧ Hid (Ie.Rnd (Ie.dm d) 1 (Ie.de d + n) false x) ∧ Below w.heap.size w w' := by
  have NN := hid (fun (wx : World) => mnan_any d wx h0 h1)
  have NI := hid (fun (wx : World) => minfinite_any d wx h0 h1)
  rw [(Ie.fin_kinds hf).1] at NN
  rw [(Ie.fin_kinds hf).2] at NI
  have D := hid (fun (wx : World) => decode_any d wx h0 h1)
  rw [← Ie.ngd] at D
  obtain ⟨⟨m0, m1⟩, ⟨e0, e1⟩, -, -⟩ := Ie.dec_f d hf
  have FU := hid (fun (wx : World) => fromUint_any (Ie.dm d) wx m0 (by omega))
  obtain ⟨s, hs⟩ : ∃ s, min (max n (-2200)) 2200 = s := ⟨_, rfl⟩
  have sb : -2200 ≤ s ∧ s ≤ 2200 := by omega
  have RO : Hid (∀ (wx : World) (p : Option Addr) (os : List Int) (B : Nat), Tab wx → Ans B wx p os (Ie.dm d) → Calls Tryz.prog 59 #[.bool (Ie.ngd d), .slice p os.length os.length, .int .i64 (Ie.de d + s), .bool false] wx fun r w' => ∃ y, r = .returned (.tuple #[.int .u64 (Ie.sg (Ie.ngd d) y), .int .i64 0]) ∧ Hid (Ie.Rnd (Ie.dm d) 1 (Ie.de d + n) false y) ∧ Below wx.heap.size wx w') := by
    intro wx p os B hx A
    have l1 := A.lim1 (by omega)
    refine (round_any (Ie.ngd d) p _ _ os wx (A.arg (by omega)) hx (by rw [A.2.2.1]; omega) (Ie.dm d) (Ie.de d + s) false A.2.2.2.1).mono ?_
    rintro e w' ⟨x, rfl, hR, hB⟩
    refine ⟨x, rfl, Ie.scl_ok m0 m1 e0 e1 ?_, hB⟩
    rw [Ie.scl, hs]
    exact hR
  have HT := hid hT
  have eb : -1074 ≤ Ie.de d ∧ Ie.de d ≤ 971 := ⟨e0, e1⟩
  clear hT hf m0 m1 e0 e1
  simp only [partsOf] at D
  generalize Ie.ngd d = neg at *
  generalize Ie.dm d = m at *
  generalize Ie.de d = x at *
  generalize Ie.cls d = c at *
  go_enter Tryz.func81, Tryz.ntmps81
  go_wp2_with fail
  refine (NN.out _).mono ?_
  rintro e wz ⟨rfl, hz⟩
  replace hz := hz.symm
  subst hz
  go_wp2_with fail
  refine (NI.out _).mono ?_
  rintro e wz ⟨rfl, hz⟩
  replace hz := hz.symm
  subst hz
  go_wp2_with fail
  refine (D.out _).mono ?_
  rintro e w1 ⟨rfl, hB1⟩
  have HB1 := hid hB1
  clear hB1 NN NI D
  go_upto_region 6 with fail
  have hb := HB1.out.trans ((alloc_b w1 (.cells #[.bool neg, .int .i64 c, .int .u64 m, .int .i64 x] 26)).mono HB1.out.size)
  have P := Row4.new w1 26 (.bool neg) (.int .i64 c) (.int .u64 m) (.int .i64 x)
  obtain ⟨SS, KS, CS, BS, MS⟩ := state (fun w' => (w'.cell? ⟨w1.heap.size, 0, none⟩ = some (.bool neg) ∧ w'.cell? ⟨w1.heap.size, 2, none⟩ = some (.int .u64 m) ∧ w'.cell? ⟨w1.heap.size, 3, none⟩ = some (.int .i64 x)) ∧ Tab w') w (((Stays.cell _ _).and ((Stays.cell _ _).and (Stays.cell _ _))).and Stays.tab)
  have S0 := hid (MS.out _ ⟨⟨P.cells.1.1, P.cells.1.2.2.1, P.cells.1.2.2.2⟩, HT.out.below hb⟩ hb)
  clear P hb HT HB1 MS
  generalize w1.alloc (.cells #[.bool neg, .int .i64 c, .int .u64 m, .int .i64 x] 26) = wA at *
  generalize w1.heap.size = b at *
  have S1 := hid (KS.out _ _ S0.out (drew_nil _))
  have CC : Hid (∀ wx : World, SS wx → (wx.cell? ⟨b, 0, none⟩ = some (.bool neg) ∧ wx.cell? ⟨b, 2, none⟩ = some (.int .u64 m) ∧ wx.cell? ⟨b, 3, none⟩ = some (.int .i64 x))) := fun wx h => (CS.out wx h).1
  have TT : Hid (∀ wx : World, SS wx → Tab wx) := fun wx h => (CS.out wx h).2
  obtain ⟨p0, p2, p3⟩ := CC.out _ S0.out
  clear CS S0
  go_upto_region 7 with fail
  clear hs h0 h1
  obtain ⟨sb1, sb2⟩ := sb
  obtain ⟨eb1, eb2⟩ := eb
  have WK : IntKind.i64.wrap (x + s) = x + s := by rw [IntKind.wrap_i64]; omega
  go_region_held3 (fun w' => w'.cell? ⟨b, 0, none⟩ = some (.bool neg) ∧ w'.cell? ⟨b, 2, none⟩ = some (.int .u64 m) ∧ w'.cell? ⟨b, 3, none⟩ = some (.int .i64 x)) (first | (with_reducible exact CC.out _ S3.out) | (with_reducible exact CC.out _ S2.out) | (with_reducible exact CC.out _ S1.out)) (first
    | (go_at_call 111; refine (FU.out _).mono ?_; rintro e w2 ⟨p, os, rfl, A, hB⟩; have S2 := hid (KS.out _ _ S1.out hB); have R2 := hid (RO.out w2 p os _ (TT.out _ S2.out) A); clear hB A)
    | (go_at_call 59; (try rw [WK]); refine R2.out.mono ?_; rintro e w3 ⟨y, rfl, hR, hB⟩; have S3 := hid (KS.out _ _ S2.out hB); clear hB))
  all_goals (go_wp2_with fail; go_ret; exact ⟨_, rfl, hR, BS.out _ S3.out⟩)

set_option maxRecDepth 100000 in
theorem scale_any (d n : Int) (w : World) (hT : Tab w) (h0 : 0 ≤ d) (h1 : d < 18446744073709551616) :
    Calls Tryz.prog 81 #[.int .u64 d, .int .i64 n] w fun e w' => ∃ r, e = .returned (.int .u64 r) ∧ Ie.ScaleIs d n r ∧ Below w.heap.size w w' := by
  have NN := hid (fun (wx : World) => mnan_any d wx h0 h1)
  have NI := hid (fun (wx : World) => minfinite_any d wx h0 h1)
  rcases Ie.kinds d with h | ⟨h, h', h''⟩ | ⟨_, _, h⟩
  · have E : Hid (Ie.ScaleIs d n 9221120237041090560) := ⟨fun _ => rfl, fun g => (by simp only [Ie.isn, Ie.isi, decide_eq_true_iff] at h g; omega), fun g => (by simp only [Ie.isn, Ie.fin, decide_eq_true_iff] at h g; omega)⟩
    rw [h] at NN
    clear h
    go_enter Tryz.func81, Tryz.ntmps81
    go_wp2_with fail
    refine (NN.out _).mono ?_
    rintro e wz ⟨rfl, hz⟩
    replace hz := hz.symm
    subst hz
    go_wp2_with fail
    go_ret
    exact ⟨_, rfl, E.out, Below.refl _ _⟩
  · have E : Hid (Ie.ScaleIs d n d) := ⟨fun g => (by rw [h] at g; cases g), fun _ => rfl, fun g => absurd g h''⟩
    rw [h] at NN
    rw [h'] at NI
    clear h h' h''
    go_enter Tryz.func81, Tryz.ntmps81
    go_wp2_with fail
    refine (NN.out _).mono ?_
    rintro e wz ⟨rfl, hz⟩
    replace hz := hz.symm
    subst hz
    go_wp2_with fail
    refine (NI.out _).mono ?_
    rintro e wz ⟨rfl, hz⟩
    replace hz := hz.symm
    subst hz
    go_wp2_with fail
    go_ret
    exact ⟨_, rfl, E.out, Below.refl _ _⟩
  · refine (scale_fin d n w hT h0 h1 h).mono ?_
    rintro e w' ⟨x, rfl, hR, hB⟩
    refine ⟨_, rfl, ⟨fun g => ?_, fun g => ?_, fun _ => ⟨x, rfl, hR.out⟩⟩, hB⟩
    · rw [(Ie.fin_kinds h).1] at g; cases g
    · rw [(Ie.fin_kinds h).2] at g; cases g
end Go.Proofs.YtdemopkdcnaibaaGreatDoor

namespace Go.Proofs.YtdemopkdcnaibaaGreatDoor
open Go.RowKit Go.Deep

/-- Trim: the trimmed list, in new memory. -/
theorem trim_any (p : Option Addr) (n cap : Nat) (zs : List Int) (w : World) (ha : Arg w p n cap zs) :
    Calls Tryz.prog 213 #[.slice p n cap] w fun e w' => ∃ r os, e = .returned (.slice r (List.length os) (List.length os)) ∧ os = Nm.trim zs ∧ Ans w.heap.size w' r os (Nm.val zs) ∧ Below w.heap.size w w' := by
  obtain ⟨a1, a2, a3, a4, a5⟩ := ha
  have tl := Nm.tsize_le zs
  go_enter Tryz.func213, Tryz.ntmps213
  go_wp2_with fail
  refine (trimmed_any p n cap zs _ a1 a2 (by omega) a4).mono ?_
  rintro e w' ⟨rfl, rfl⟩
  go_wp2_with fail
  refine (widened_any p (Nm.tsize zs) (Nm.tsize zs) 0 0 (Nm.trim zs) _ rfl (Nm.trim_length zs) (by omega) a4.trim).mono ?_
  rintro e w1 ⟨rfl, ho, hb1, hz1⟩
  have HO := hid ho
  have HB := hid hb1
  clear ho hb1 hz1 tl
  go_wp2
  go_ret
  refine ⟨some ⟨w'.heap.size, 0, none⟩, Nm.trim zs, ?_, rfl, ⟨?_, a5.trim, ?_, Nm.val_trim zs, ?_⟩, HB.out⟩
  · rw [Nm.trim_length]; rfl
  · have := HO.out
    simp only [List.replicate_zero, List.append_nil] at this
    exact this.lies
  · rw [Nm.trim_trim, Nm.trim_length]
  · intro a h
    cases h
    exact Nat.le_refl _
end Go.Proofs.YtdemopkdcnaibaaGreatDoor

namespace Go.Proofs.YtdemopkdcnaibaaGreatDoor
open Go.RowKit Go.Deep

theorem mask_low (x : Int) (r : Nat) (hr : r ≤ 63) (h0 : 0 ≤ x) (h1 : x < 18446744073709551616) : bits .and .u64 x (2 ^ r - 1) = x % 2 ^ r := by
  obtain ⟨n, rfl⟩ := Int.eq_ofNat_of_zero_le h0
  have hP : ((2 ^ r : Nat) : Int) = (2 : Int) ^ r := by simp
  have hp : 0 < 2 ^ r := Nat.pow_pos (by omega)
  have hm : (2 : Int) ^ r - 1 = ((2 ^ r - 1 : Nat) : Int) := by omega
  have hle : 2 ^ r ≤ 2 ^ 63 := Nat.pow_le_pow_right (by omega) hr
  have e63 : 2 ^ 63 = 9223372036854775808 := by decide
  have h := bits_and_u64_nat n (2 ^ r - 1) (by omega) (by omega)
  rw [hm, h, Nat.and_two_pow_sub_one_eq_mod, ← hP]
  omega

set_option maxRecDepth 100000 in
set_option maxHeartbeats 1000000 in
/-- From the number of its digits on it is the number itself. -/
theorem low_all (p : Option Addr) (n cap : Nat) (zs : List Int) (k : Int) (L : Nat) (w : World) (ha : Arg w p n cap zs) (tz : Nm.tsize zs ≤ 4096) (hk : 0 ≤ k) (hL : blen (Nm.trim zs) = (L : Int)) (hb : (L : Int) ≤ k) :
    Calls Tryz.prog 208 #[.slice p n cap, .int .i64 k] w fun e w' => ∃ r os, e = .returned (.tuple #[.slice r (List.length os) (List.length os), .int .i64 0]) ∧ Ans w.heap.size w' r os (Nm.val zs) ∧ Below w.heap.size w w' := by
  have HT := hid (lshift_ok p n cap zs k w ha tz hk)
  have HB := hid (bitLen_n L p _ _ (Nm.trim zs) w ha.trim' hL)
  have TR := trim_any p _ _ (Nm.trim zs) w ha.trim'
  rw [Nm.val_trim] at TR
  have HTR := hid TR
  clear hL ha TR
  go_enter Tryz.func208, Tryz.ntmps208
  go_wp2_with fail
  refine HT.out.mono ?_
  rintro e w' ⟨rfl, rfl⟩
  go_wp2_with fail
  refine HB.out.mono ?_
  rintro e w' ⟨rfl, rfl⟩
  go_wp2_with fail
  refine HTR.out.mono ?_
  rintro e w1 ⟨r, os, rfl, -, hans, hb1⟩
  have HA := hid hans
  have D1 := hid hb1
  clear hans hb1
  go_wp2_with fail
  go_ret2
  exact ⟨r, os, rfl, HA.out, D1.out⟩

set_option maxRecDepth 100000 in
set_option maxHeartbeats 1000000 in
theorem low_ok (p : Option Addr) (n cap : Nat) (zs : List Int) (kk : Int) (k L : Nat) (w : World) (ha : Arg w p n cap zs) (tz : Nm.tsize zs ≤ 4096) (hkk : kk = (k : Int)) (hL : blen (Nm.trim zs) = (L : Int)) (hLt : L ≤ 64 * Nm.tsize zs) (hb : k < L) :
    Calls Tryz.prog 208 #[.slice p n cap, .int .i64 kk] w fun e w' => ∃ r os, e = .returned (.tuple #[.slice r (List.length os) (List.length os), .int .i64 0]) ∧ Ans w.heap.size w' r os (Nm.val zs % 2 ^ k) ∧ Below w.heap.size w w' := by
  have hk0 : 0 ≤ kk := by omega
  have T1 := lshift_ok p n cap zs kk w ha tz hk0
  have B1 := bitLen_n L p _ _ (Nm.trim zs) w ha.trim' hL
  obtain ⟨N, HN⟩ : ∃ N, Hid (Nm.tsize zs = N) := ⟨_, rfl⟩
  rw [HN.out] at T1 B1 hLt
  have HT := hid T1
  have HB := hid B1
  have hN1 : N ≤ 4096 := by rw [← HN.out]; exact tz
  have hb1 : ¬ (L : Int) ≤ kk := by omega
  obtain ⟨sk, hsk⟩ : ∃ sk, k / 64 = sk := ⟨_, rfl⟩
  obtain ⟨r, hr⟩ : ∃ r, k % 64 = r := ⟨_, rfl⟩
  have r1 : kk / 64 = (sk : Int) := by omega
  have r2 : kk % 64 = (r : Int) := by omega
  have hr63 : r ≤ 63 := by omega
  have hskN : sk < N := by omega
  have hskN' : (sk : Int) < (N : Int) := by omega
  have hkb : kk ≤ 262144 := by omega
  have KE : Hid (k = 64 * sk + r) := by show _ = _; omega
  have L1 := hid ((Nm.trim_length zs).trans HN.out)
  have A5 := hid ha.2.2.2.2.trim
  obtain ⟨b, off, rfl, hbw, HC⟩ := ha.2.2.2.1.trim.at (by rw [L1.out]; omega)
  have V := hid (Nm.val_trim zs)
  have LT := hid (ha.2.2.2.1.trim.take sk)
  have TL : Hid (((Nm.trim zs).take sk).length = sk) := by rw [Hid, List.length_take, L1.out]; omega
  obtain ⟨x, X⟩ : ∃ x, Hid (x = (Nm.trim zs).getD sk 0) := ⟨_, rfl⟩
  have hxc := HC.out sk (by rw [L1.out]; exact hskN)
  rw [← X.out] at hxc
  have HXC := hid hxc
  have hx0 := A5.out.at sk
  rw [← X.out] at hx0
  obtain ⟨hx0, hx1⟩ := hx0
  have hP0 := Nm.two_pos r
  have hP63 : (2 : Int) ^ r ≤ 9223372036854775808 := by
    have := Nm.two_mono (show r ≤ 63 by omega)
    have e : (2 : Int) ^ 63 = 9223372036854775808 := by decide
    omega
  obtain ⟨y, hy⟩ : ∃ y, bits .and .u64 x (2 ^ r - 1) = y := ⟨_, rfl⟩
  have YE := hid ((mask_low x r hr63 hx0 hx1).symm.trans hy)
  have y0 : 0 ≤ y := by rw [← YE.out]; exact Int.emod_nonneg _ (by omega)
  have y1 : y < 2 ^ r := by rw [← YE.out]; exact Int.emod_lt_of_pos _ hP0
  have hw1 : IntKind.u64.wrap (2 ^ r) = 2 ^ r := by rw [Sh.wrap_mod]; omega
  have QE : Hid (Nm.val zs % 2 ^ k = Nm.val ((Nm.trim zs).take sk) + Nm.pw sk * y) := by
    have h1 := Nm.val_drop (Nm.trim zs) sk (by rw [L1.out]; omega)
    have h2 := Nm.val_bd _ (A5.out.take sk)
    rw [TL.out] at h2
    have h3 : Nm.val ((Nm.trim zs).drop sk) = x + 18446744073709551616 * Nm.val ((Nm.trim zs).drop (sk + 1)) := by
      rw [X.out, List.drop_eq_getElem_cons (by rw [L1.out]; exact hskN), Nm.val]
      simp [List.getD, L1.out, hskN]
    have hp := Nm.pw_pos sk
    have c1 := Int.emod_add_mul_ediv x (2 ^ r)
    rw [YE.out] at c1
    have hPQ := Sh.split64 r hr63
    have e1 : Nm.val zs = Nm.val ((Nm.trim zs).take sk) + Nm.pw sk * y + 2 ^ k * (x / 2 ^ r + 2 ^ (64 - r) * Nm.val ((Nm.trim zs).drop (sk + 1))) := by
      rw [KE.out, Nm.two_add, ← Nm.pw_two, Int.mul_assoc, Int.mul_add (2 ^ r), ← Int.mul_assoc (2 ^ r), hPQ, ← V.out, h1, h3]
      have : x + 18446744073709551616 * Nm.val ((Nm.trim zs).drop (sk + 1)) = y + (2 ^ r * (x / 2 ^ r) + 18446744073709551616 * Nm.val ((Nm.trim zs).drop (sk + 1))) := by omega
      rw [this, Int.mul_add]
      omega
    have e2 : 0 ≤ Nm.pw sk * y := Int.mul_nonneg (by omega) y0
    have e3 : Nm.pw sk * (y + 1) ≤ Nm.pw sk * 2 ^ r := Int.mul_le_mul_of_nonneg_left (by omega) (by omega)
    rw [Int.mul_add, Int.mul_one, Nm.pw_two, ← Nm.two_add, ← KE.out, ← Nm.pw_two] at e3
    show _ = _
    rw [e1, Int.add_mul_emod_self_left, Int.emod_eq_of_lt (by omega) (by omega)]
  have Y64 : Hid (0 ≤ y ∧ y < 18446744073709551616) := by show _ ∧ _; omega
  clear T1 B1 ha tz hL hkk hsk hr hLt hb hxc y0 y1
  go_enter Tryz.func208, Tryz.ntmps208
  go_wp2_with fail
  refine HT.out.mono ?_
  rintro e w' ⟨rfl, rfl⟩
  go_wp2_with fail
  refine HB.out.mono ?_
  rintro e w' ⟨rfl, rfl⟩
  go_wp2_with fail
  refine (widened_any _ sk _ 1 1 ((Nm.trim zs).take sk) _ rfl TL.out (by omega) LT.out).mono ?_
  rintro e w1 ⟨rfl, ho, hb2, hz2⟩
  have hxc1 : w1.cell? ⟨b, off + sk, none⟩ = some (.int .u64 x) := (hb2.cell (p := ⟨b, off + sk, none⟩) hbw).trans HXC.out
  obtain ⟨u, hu⟩ : ∃ u, w1.cell? ⟨w'.heap.size, sk, none⟩ = some (.int .u64 u) := ⟨_, ho.cell sk (by rw [List.length_append, TL.out]; simp)⟩
  have hfr := ho.free sk
  have O1 := hid (ho.set sk y)
  have LL : ((Nm.trim zs).take sk ++ List.replicate 1 0).length = sk + 1 := by rw [List.length_append, TL.out, List.length_replicate]
  have O2 : Hid ((((Nm.trim zs).take sk ++ List.replicate 1 0).set sk y).length = sk + 1) := by rw [Hid, List.length_set, LL]
  have O3 := hid (((A5.out.take sk).append (Nm.Limbs.replicate 1)).set sk Y64.out.1 Y64.out.2)
  have O4 : Hid (Nm.val (((Nm.trim zs).take sk ++ List.replicate 1 0).set sk y) = Nm.val zs % 2 ^ k) := by
    have e0 : ((Nm.trim zs).take sk ++ List.replicate 1 0).getD sk 0 = 0 := by
      rw [List.getD, List.getElem?_append_right (by rw [TL.out]; omega), TL.out, Nat.sub_self]
      rfl
    rw [Hid, Nm.val_set _ _ _ (by omega), e0, Int.sub_zero, Nm.val_append, Nm.val_replicate, Int.mul_zero, Int.add_zero, QE.out]
  have O5 := hid (hb2.setCell (p := ⟨w'.heap.size, sk, none⟩) (Nat.le_refl _) (.int .u64 y))
  clear ho hb2 hz2 LL
  go_wp2_with fail
  refine (trimmed_any _ (sk + 1) (sk + 1) (((Nm.trim zs).take sk ++ List.replicate 1 0).set sk y) _ O2.out (Nat.le_refl _) (by omega) O1.out.lies).mono ?_
  rintro e w3 ⟨rfl, rfl⟩
  go_wp2_with fail
  go_ret2
  refine ⟨some ⟨w'.heap.size, 0, none⟩, Nm.trim (((Nm.trim zs).take sk ++ List.replicate 1 0).set sk y), ret_two (Nm.trim_length _).symm, ⟨O1.out.lies.trim, O3.out.trim, ?_, ?_, ?_⟩, O5.out⟩
  · rw [Nm.trim_trim, Nm.trim_length]
  · rw [Nm.val_trim, O4.out]
  · intro a h
    cases h
    exact Nat.le_refl _
end Go.Proofs.YtdemopkdcnaibaaGreatDoor

/-
  Low, whatever the number of bits.
-/
namespace Go.Proofs.YtdemopkdcnaibaaGreatDoor
open Go.RowKit Go.Deep

theorem low_any (p : Option Addr) (n cap : Nat) (zs : List Int) (kk : Int) (k : Nat) (w : World) (ha : Arg w p n cap zs) (tz : Nm.tsize zs ≤ 4096) (hkk : kk = (k : Int)) :
    Calls Tryz.prog 208 #[.slice p n cap, .int .i64 kk] w fun e w' => ∃ r os, e = .returned (.tuple #[.slice r (List.length os) (List.length os), .int .i64 0]) ∧ Ans w.heap.size w' r os (Nm.val zs % 2 ^ k) ∧ Below w.heap.size w w' := by
  obtain ⟨L, hL, BL, hl, _⟩ := blen_is zs ha.2.2.2.2
  have hv0 := (Nm.val_bd zs ha.2.2.2.2).1
  rw [← blen_trim_eq] at hL
  by_cases hb : k < L
  · exact low_ok p n cap zs kk k L w ha tz hkk hL hl hb
  · have hlt : Nm.val zs < 2 ^ k := by
      have := BL.1
      have := Nm.two_mono (show L ≤ k by omega)
      omega
    rw [Int.emod_eq_of_lt hv0 hlt]
    exact low_all p n cap zs kk L w ha tz (by omega) hL (by omega)
end Go.Proofs.YtdemopkdcnaibaaGreatDoor

namespace Go.Proofs.YtdemopkdcnaibaaGreatDoor
open Go.RowKit Go.Deep

theorem lead_any (x : Int) (l : Nat) (w : World) (h0 : 0 ≤ x) (h1 : x < 18446744073709551616) (hl : Lib.bitLen x.toNat = l) :
    Calls Tryz.prog 240 #[.int .u64 x] w fun e w' => e = .returned (.int .i64 (64 - (l : Int))) ∧ w' = w := by
  have L := len64 x w h0 h1
  rw [hl] at L
  have hl64 : l ≤ 64 := by rw [← hl]; exact bitLen_small _ (by omega)
  have HL := hid L
  clear L hl
  go_enter Tryz.func240, Tryz.ntmps240
  go_wp2_with fail
  refine HL.out.mono ?_
  rintro e w' ⟨rfl, rfl⟩
  go_wp2_with fail
  go_ret
  exact ⟨rfl, rfl⟩

set_option maxRecDepth 100000 in
set_option maxHeartbeats 1000000 in
theorem div64_small (lo y : Int) (w : World) (l0 : 0 ≤ lo) (l1 : lo < 18446744073709551616) (y0 : 0 < y) (y1 : y < 18446744073709551616) :
    Calls Tryz.prog 230 #[.int .u64 0, .int .u64 lo, .int .u64 y] w fun e w' => e = .returned (.tuple #[.int .u64 (lo / y), .int .u64 (lo % y)]) ∧ Below w.heap.size w w' := by
  have hy : (y == 0) = false := by rw [beq_eq_false_iff_ne]; omega
  go_enter Tryz.func230, Tryz.ntmps230
  go_wp2_with fail
  go_quiet (fail)
  go_wp2
  go_ret2
  exact ⟨rfl, ⟨rfl, rfl, rfl, Nat.le_refl _, fun _ _ => rfl⟩⟩

/-- The shift that brings a divisor's highest binary digit to the top. -/
theorem shift_facts (y : Int) (l : Nat) (y0 : 0 < y) (y1 : y < 18446744073709551616) (hl : Lib.bitLen y.toNat = l) : ∃ s : Nat, s + l = 64 ∧ s ≤ 63 ∧ 9223372036854775808 ≤ y * 2 ^ s ∧ y * 2 ^ s < 18446744073709551616 ∧ (0 : Int) < 2 ^ s ∧ (0 : Int) < 2 ^ (64 - s) ∧ (2 : Int) ^ s * 2 ^ (64 - s) = 18446744073709551616 := by
  obtain ⟨n, rfl⟩ := Int.eq_ofNat_of_zero_le (show 0 ≤ y by omega)
  rw [Int.toNat_natCast] at hl
  have hb := Lib.bitLenAux_bounds 64 n (by simpa using (show n < 18446744073709551616 by omega)) (by omega)
  rw [show Lib.bitLenAux 64 n = l from hl] at hb
  obtain ⟨b1, b2, b3⟩ := hb
  have hl64 : l ≤ 64 := by rw [← hl]; exact bitLen_small n (by omega)
  refine ⟨64 - l, by omega, by omega, ?_⟩
  have e1 : 2 ^ l * 2 ^ (64 - l) = 18446744073709551616 := by rw [← Nat.pow_add, show l + (64 - l) = 64 by omega]
  have e2 : 2 ^ (l - 1) * 2 ^ (64 - l) = 9223372036854775808 := by rw [← Nat.pow_add, show l - 1 + (64 - l) = 63 by omega]
  have p1 : 0 < 2 ^ (64 - l) := Nat.pow_pos (by omega)
  have p2 : 0 < 2 ^ l := Nat.pow_pos (by omega)
  have c1 : 2 ^ (l - 1) * 2 ^ (64 - l) ≤ n * 2 ^ (64 - l) := Nat.mul_le_mul_right _ b2
  have c2 : n * 2 ^ (64 - l) < 2 ^ l * 2 ^ (64 - l) := Nat.mul_lt_mul_of_pos_right b3 p1
  have hP : ((2 ^ (64 - l) : Nat) : Int) = (2 : Int) ^ (64 - l) := by simp
  have hQ : ((2 ^ (64 - (64 - l)) : Nat) : Int) = (2 : Int) ^ (64 - (64 - l)) := by simp
  rw [← hP, ← hQ, show 64 - (64 - l) = l by omega, ← Int.natCast_mul, ← Int.natCast_mul, Nat.mul_comm (2 ^ (64 - l)) (2 ^ l), e1]
  omega

theorem wrap_small (x : Int) (h0 : 0 ≤ x) (h1 : x < 18446744073709551616) : IntKind.u64.wrap x = x := by rw [IntKind.wrap_u64]; omega
theorem wrap_mod (x : Int) : IntKind.u64.wrap x = x % 18446744073709551616 := by rw [IntKind.wrap_u64]

theorem mask32 (x : Int) (h0 : 0 ≤ x) (h1 : x < 18446744073709551616) : bits .and .u64 x 4294967295 = x % 4294967296 := by
  obtain ⟨n, rfl⟩ := Int.eq_ofNat_of_zero_le h0
  have h := bits_and_u64_nat n 4294967295 (by omega) (by omega)
  have e : n &&& 4294967295 = n % 4294967296 := Nat.and_two_pow_sub_one_eq_mod n 32
  rw [e] at h
  rw [show (4294967295 : Int) = ((4294967295 : Nat) : Int) from rfl, h]
  omega

/-- Digits that don't meet: 'or' is a sum. -/
theorem or_sum (hi c : Int) (s : Nat) (h0 : 0 ≤ hi) (hc0 : 0 ≤ c) (hc : c < 2 ^ s) (h1 : hi * 2 ^ s < 18446744073709551616) (h2 : c < 18446744073709551616) : bits .or .u64 (hi * 2 ^ s) c = hi * 2 ^ s + c := by
  obtain ⟨a, rfl⟩ := Int.eq_ofNat_of_zero_le h0
  obtain ⟨b, rfl⟩ := Int.eq_ofNat_of_zero_le hc0
  have hP : (2 : Int) ^ s = ((2 ^ s : Nat) : Int) := by simp
  rw [hP] at hc h1 ⊢
  have hb : b < 2 ^ s := by omega
  rw [← Int.natCast_mul] at h1 ⊢
  have h := bits_or_u64_nat (a * 2 ^ s) b (by omega) (by omega)
  rw [h, Nat.mul_comm a, ← Nat.two_pow_add_eq_or_of_lt hb a]
  omega

/-- What the operands are, under the names that the walk gives them. -/
structure Ops (hi lo y : Int) (s : Nat) (Y v1 v0 A c U L u1 u0 : Int) : Prop where
  r1 : IntKind.u64.wrap (y * 2 ^ s) = Y
  r2 : Y / 4294967296 = v1
  r3 : bits .and .u64 Y 4294967295 = v0
  r4 : IntKind.u64.wrap (hi * 2 ^ s) = A
  r5 : lo / 2 ^ (64 - s) = c
  r6 : bits .or .u64 A c = U
  r7 : IntKind.u64.wrap (lo * 2 ^ s) = L
  r8 : L / 4294967296 = u1
  r9 : bits .and .u64 L 4294967295 = u0
  nrm : Dv.Nrm Y v1 v0
  bU : 0 ≤ U ∧ U < Y
  bL : 0 ≤ L ∧ L < 18446744073709551616
  eL : L = u1 * 4294967296 + u0
  b1 : 0 ≤ u1 ∧ u1 < 4294967296
  b0 : 0 ≤ u0 ∧ u0 < 4294967296
  bY : Y < 18446744073709551616
  pos : (0 : Int) < 2 ^ s
  eY : Y = y * 2 ^ s
  eN : U * 18446744073709551616 + L = (hi * 18446744073709551616 + lo) * 2 ^ s

theorem ops_of (hi lo y : Int) (l : Nat) (h0 : 0 < hi) (hy : hi < y) (l0 : 0 ≤ lo) (l1 : lo < 18446744073709551616) (y1 : y < 18446744073709551616) (hl : Lib.bitLen y.toNat = l) :
    ∃ (s : Nat) (Y v1 v0 A c U L u1 u0 : Int), s + l = 64 ∧ s ≤ 63 ∧ Ops hi lo y s Y v1 v0 A c U L u1 u0 := by
  obtain ⟨s, hs, hs63, hs1, hs2, hP, hQ, hPQ⟩ := shift_facts y l (by omega) y1 hl
  obtain ⟨m1, m2, m3, m4, m5, m6⟩ := Dv.moved hP hQ hPQ (by omega) hy l0 l1
  have hL : IntKind.u64.wrap (lo * 2 ^ s) = lo % 2 ^ (64 - s) * 2 ^ s := by rw [wrap_mod, m5]
  have hLb : 0 ≤ lo % 2 ^ (64 - s) * 2 ^ s ∧ lo % 2 ^ (64 - s) * 2 ^ s < 18446744073709551616 := by rw [← m5]; omega
  refine ⟨s, y * 2 ^ s, y * 2 ^ s / 4294967296, y * 2 ^ s % 4294967296, hi * 2 ^ s, lo / 2 ^ (64 - s), hi * 2 ^ s + lo / 2 ^ (64 - s), lo % 2 ^ (64 - s) * 2 ^ s, lo % 2 ^ (64 - s) * 2 ^ s / 4294967296, lo % 2 ^ (64 - s) * 2 ^ s % 4294967296, hs, hs63, ?_⟩
  exact {
    r1 := wrap_small _ (by omega) hs2
    r2 := rfl
    r3 := mask32 _ (by omega) hs2
    r4 := wrap_small _ m3 (by omega)
    r5 := rfl
    r6 := or_sum hi _ s (by omega) m1 m2 (by omega) (by omega)
    r7 := hL
    r8 := rfl
    r9 := mask32 _ hLb.1 hLb.2
    nrm := ⟨by omega, by omega, by omega, by omega, by omega⟩
    bU := ⟨by omega, m4⟩
    bL := hLb
    eL := by omega
    b1 := by omega
    b0 := by omega
    bY := hs2
    pos := hP
    eY := rfl
    eN := m6 }

theorem small_mul {q v0 : Int} (h0 : 0 ≤ q) (h : q < 4294967296) (g0 : 0 ≤ v0) (g : v0 < 4294967296) : 0 ≤ q * v0 ∧ q * v0 ≤ 18446744065119617025 :=
  ⟨Int.mul_nonneg h0 g0, Int.mul_le_mul (a := q) (b := v0) (c := 4294967295) (d := 4294967295) (by omega) (by omega) (by omega) (by omega)⟩

/-- The ways of one round. -/
theorem ways {U u Y v1 v0 q r : Int} (hY : Dv.Nrm Y v1 v0) (hUY : U < Y) (hu0 : 0 ≤ u) (hu : u < 4294967296) (h : Dv.Est U u Y v1 q r) :
    (4294967296 ≤ q ∧ 4294967296 ≤ q ∧ 4294967296 ≤ r + v1 ∧ 1 ≤ q ∧ 1 ≤ q ∧ 1 ≤ q ∧ ∃ q1, q - 1 = q1 ∧ Dv.Dig U u Y q1) ∨
    (q < 4294967296 ∧ 4294967296 * r + u < q * v0 ∧ 4294967296 ≤ r + v1 ∧ 1 ≤ q ∧ 0 ≤ q * v0 ∧ q * v0 ≤ 18446744065119617025 ∧ ∃ q1, q - 1 = q1 ∧ Dv.Dig U u Y q1) ∨
    (q < 4294967296 ∧ q * v0 ≤ 4294967296 * r + u ∧ q < 4294967296 ∧ 0 ≤ q ∧ 0 ≤ q * v0 ∧ q * v0 ≤ 18446744065119617025 ∧ ∃ q1, q = q1 ∧ Dv.Dig U u Y q1) ∨
    (4294967296 ≤ q ∧ 4294967296 ≤ q ∧ r + v1 < 4294967296 ∧ 1 ≤ q ∧ Dv.Est U u Y v1 (q - 1) (r + v1)) ∨
    (q < 4294967296 ∧ 4294967296 * r + u < q * v0 ∧ r + v1 < 4294967296 ∧ 1 ≤ q ∧ Dv.Est U u Y v1 (q - 1) (r + v1)) := by
  by_cases h1 : 4294967296 ≤ q
  · by_cases h2 : 4294967296 ≤ r + v1
    · exact .inl ⟨h1, h1, h2, by omega, by omega, by omega, _, rfl, Dv.dig_break hY hUY hu0 hu h (.inl h1) h2⟩
    · exact .inr (.inr (.inr (.inl ⟨h1, h1, by omega, by omega, Dv.est_on hY hUY hu0 hu h (.inl h1) (by omega)⟩)))
  · by_cases h3 : 4294967296 * r + u < q * v0
    · have hq := (Dv.est_down hY hUY hu0 hu h (.inr h3)).1
      by_cases h2 : 4294967296 ≤ r + v1
      · have hm := small_mul h.1 (show q < 4294967296 by omega) hY.2.1 hY.2.2.1
        exact .inr (.inl ⟨by omega, h3, h2, hq, hm.1, hm.2, _, rfl, Dv.dig_break hY hUY hu0 hu h (.inr h3) h2⟩)
      · exact .inr (.inr (.inr (.inr ⟨by omega, h3, by omega, hq, Dv.est_on hY hUY hu0 hu h (.inr h3) (by omega)⟩)))
    · have hm := small_mul h.1 (show q < 4294967296 by omega) hY.2.1 hY.2.2.1
      exact .inr (.inr (.inl ⟨by omega, by omega, by omega, h.1, hm.1, hm.2, _, rfl, Dv.dig_exit hY h (by omega) (by omega)⟩))

theorem est_le {U u Y v1 v0 q r : Int} (hY : Dv.Nrm Y v1 v0) (h : Dv.Est U u Y v1 q r) (hU : U < 18446744073709551616) : q < 18446744073709551616 := by
  have h1 : q * 1 ≤ q * v1 := Int.mul_le_mul_of_nonneg_left (by have := hY.2.2.2.1; omega) h.1
  have := h.2.2.2.1
  have := h.2.1
  omega

/-- What is left behind a digit, reckoned in 64 bits. -/
theorem rest_of {U u Y q : Int} (h : Dv.Dig U u Y q) (hY : Y < 18446744073709551616) :
    ∃ R, IntKind.u64.wrap (IntKind.u64.wrap (IntKind.u64.wrap (U * 4294967296) + u) - IntKind.u64.wrap (q * Y)) = R ∧ (0 ≤ R ∧ R < Y) ∧ R = U * 4294967296 + u - q * Y := by
  obtain ⟨h1, h2, h3, h4⟩ := h
  refine ⟨U * 4294967296 + u - q * Y, ?_, by omega, rfl⟩
  simp only [wrap_mod]
  omega

theorem ret_pair {a b c d : Int} (h1 : a = c) (h2 : b = d) : Ending.returned (.tuple #[.int .u64 a, .int .u64 b]) = .returned (.tuple #[.int .u64 c, .int .u64 d]) := by rw [h1, h2]

set_option maxRecDepth 100000 in
set_option maxHeartbeats 4000000 in
theorem div64_big (hi lo y : Int) (w : World) (h0 : 0 < hi) (hy : hi < y) (l0 : 0 ≤ lo) (l1 : lo < 18446744073709551616) (y1 : y < 18446744073709551616) :
    Calls Tryz.prog 230 #[.int .u64 hi, .int .u64 lo, .int .u64 y] w fun e w' => e = .returned (.tuple #[.int .u64 ((hi * 18446744073709551616 + lo) / y), .int .u64 ((hi * 18446744073709551616 + lo) % y)]) ∧ Below w.heap.size w w' := by
  have hy0 : (y == 0) = false := by rw [beq_eq_false_iff_ne]; omega
  have hh0 : (hi == 0) = false := by rw [beq_eq_false_iff_ne]; omega
  have hyh : decide (y ≤ hi) = false := by simp; omega
  obtain ⟨l, hl⟩ : ∃ l, Lib.bitLen y.toNat = l := ⟨_, rfl⟩
  have LE := hid (lead_any y l w (by omega) y1 hl)
  obtain ⟨s, Y, v1, v0, A, c, U, L, u1, u0, hs, hs63, O⟩ := ops_of hi lo y l h0 hy l0 l1 y1 hl
  have es : (64 - (l : Int)) = (s : Int) := by omega
  rw [es] at LE
  clear hl hs es
  have r1 := O.r1
  have r2 := O.r2
  have r3 := O.r3
  have r4 := O.r4
  have r5 := O.r5
  have r6 := O.r6
  have r7 := O.r7
  have r8 := O.r8
  have r9 := O.r9
  have E0 := Dv.est_first O.nrm O.bU.1 O.b1.1 O.b1.2
  obtain ⟨q, r10⟩ : ∃ q, U / v1 = q := ⟨_, rfl⟩
  rw [r10] at E0
  obtain ⟨r, r11⟩ : ∃ r, U - q * v1 = r := ⟨_, rfl⟩
  rw [r11] at E0
  have bv0 := O.nrm.2.2.2.1
  have bv1 := O.nrm.2.2.2.2
  have bw0 := O.nrm.2.1
  have bw1 := O.nrm.2.2.1
  have bU0 := O.bU.1
  have bU1 : U < 18446744073709551616 := by have := O.bU.2; have := O.bY; omega
  have bu0 := O.b1.1
  have bu1 := O.b1.2
  have bz0 := O.b0.1
  have bz1 := O.b0.2
  have bq0 := E0.1
  have br0 := E0.2.1
  have br1 := E0.2.2.1
  have bqv0 : 0 ≤ q * v1 := Int.mul_nonneg bq0 (by omega)
  have bqv1 : q * v1 ≤ U := by omega
  have HE := hid E0
  have HO := hid O
  clear E0 O
  go_enter Tryz.func230, Tryz.ntmps230
  go_wp2_with fail
  refine LE.out.mono ?_
  rintro e w' ⟨rfl, rfl⟩
  go_wp2_with fail
  have R10 := hid r10
  clear r1 r2 r3 r4 r5 r6 r7 r8 r9 r10 r11 hy0 hh0 hyh LE
  go_loop [15, 16] (fun a b => ∃ q r, a = .int .u64 q ∧ b = .int .u64 r ∧ Dv.Est U u1 Y v1 q r) (fun a _ => (intOf a).toNat)
  case atStart => exact ⟨q, r, by rw [R10.out], rfl, HE.out⟩
  case round =>
    clear bq0 br0 br1 bqv0 bqv1 HE R10
    obtain ⟨q, r, rfl, rfl, E⟩ := hrel
    have br0 := E.2.1
    have br1 := E.2.2.1
    have bq0 := E.1
    have bq1 := est_le HO.out.nrm E bU1
    have W := ways HO.out.nrm HO.out.bU.2 bu0 bu1 E
    clear E
    rcases W with c | c | c | c | c
    rotate_right 2
    · obtain ⟨t1, t2, t3, t4, E⟩ := c
      have HE := hid E
      clear E
      go_wp2
      go_round
      case rel => exact ⟨q - 1, r + v1, rfl, rfl, HE.out⟩
      case measure => simp [intOf]; omega
    · obtain ⟨t1, t2, t3, t4, E⟩ := c
      have HE := hid E
      obtain ⟨k0, k1⟩ := small_mul bq0 t1 bw0 bw1
      clear E
      go_wp2
      go_round
      case rel => exact ⟨q - 1, r + v1, rfl, rfl, HE.out⟩
      case measure => simp [intOf]; omega
    all_goals
      obtain ⟨t1, t2, t3, t4, t5, t6, q1, hq1, D⟩ := c
      try (have hsub : q = q1 := hq1; clear hsub; subst hq1)
      obtain ⟨R, r12, bR, eR⟩ := rest_of D HO.out.bY
      have D1 := hid D
      have BR := hid bR
      have ER := hid eR
      have bq10 := D.1
      have bq11 := D.2.1
      have bR0 := bR.1
      have bR1 : R < 18446744073709551616 := by have := HO.out.bY; omega
      have E0 := Dv.est_first HO.out.nrm bR0 bz0 bz1
      obtain ⟨qb, r13⟩ : ∃ q, R / v1 = q := ⟨_, rfl⟩
      rw [r13] at E0
      obtain ⟨rb, r14⟩ : ∃ r, R - qb * v1 = r := ⟨_, rfl⟩
      rw [r14] at E0
      have bqb0 := E0.1
      have brb0 := E0.2.1
      have brb1 := E0.2.2.1
      have bqvb0 : 0 ≤ qb * v1 := Int.mul_nonneg bqb0 (by omega)
      have bqvb1 : qb * v1 ≤ R := by omega
      have HE := hid E0
      clear E0 D eR bR
      go_wp2
      have R13 := hid r13
      clear r12 r13 r14
      clear t1 t2 t3 t4 t5 t6
      go_loop [18, 16] (fun a b => ∃ q r, a = .int .u64 q ∧ b = .int .u64 r ∧ Dv.Est R u0 Y v1 q r) (fun a _ => (intOf a).toNat)
      case atStart => exact ⟨qb, rb, by first | rfl | rw [R13.out], rfl, HE.out⟩
      case round =>
        clear bqb0 brb0 brb1 bqvb0 bqvb1 HE R13 br0 br1 bq0 bq1
        obtain ⟨q, r, rfl, rfl, E⟩ := hrel
        have br0 := E.2.1
        have br1 := E.2.2.1
        have bq0 := E.1
        have bq1 := est_le HO.out.nrm E bR1
        have W := ways HO.out.nrm BR.out.2 bz0 bz1 E
        clear E
        rcases W with c | c | c | c | c
        rotate_right 2
        · obtain ⟨t1, t2, t3, t4, E⟩ := c
          have HE := hid E
          clear E
          go_wp2
          go_round
          case rel => exact ⟨q - 1, r + v1, rfl, rfl, HE.out⟩
          case measure => simp [intOf]; omega
        · obtain ⟨t1, t2, t3, t4, E⟩ := c
          have HE := hid E
          obtain ⟨k0, k1⟩ := small_mul bq0 t1 bw0 bw1
          clear E
          go_wp2
          go_round
          case rel => exact ⟨q - 1, r + v1, rfl, rfl, HE.out⟩
          case measure => simp [intOf]; omega
        all_goals
          obtain ⟨t1, t2, t3, t4, t5, t6, q0, hq0, D⟩ := c
          try (have hsub : q = q0 := hq0; clear hsub; subst hq0)
          obtain ⟨R0, r15, bR0', eR0⟩ := rest_of D HO.out.bY
          have FIN := hid (Dv.whole HO.out.pos HO.out.eY HO.out.eN HO.out.eL ER.out eR0 bR0'.1 bR0'.2 (by omega))
          have bq00 := D.1
          have bq01 := D.2.1
          have bR00 := bR0'.1
          clear D eR0 bR0'
          go_wp2
          go_ret2
          exact ⟨ret_pair FIN.out.1.symm FIN.out.2.symm, Below.refl _ _⟩

/-- Div64: two limbs by one, the higher one below the divisor. -/
theorem div64 (hi lo y : Int) (w : World) (h0 : 0 ≤ hi) (hy : hi < y) (l0 : 0 ≤ lo) (l1 : lo < 18446744073709551616) (y1 : y < 18446744073709551616) :
    Calls Tryz.prog 230 #[.int .u64 hi, .int .u64 lo, .int .u64 y] w fun e w' => ∃ q r : Int, e = .returned (.tuple #[.int .u64 q, .int .u64 r]) ∧ (0 ≤ q ∧ q < 18446744073709551616 ∧ 0 ≤ r ∧ r < y) ∧ Hid (q * y + r = hi * 18446744073709551616 + lo) ∧ Below w.heap.size w w' := by
  obtain ⟨N, hN⟩ : ∃ N, N = hi * 18446744073709551616 + lo := ⟨_, rfl⟩
  have d1 := Int.emod_add_mul_ediv N y
  have d2 := Int.emod_nonneg N (show y ≠ 0 by omega)
  have d3 := Int.emod_lt_of_pos N (show 0 < y by omega)
  have d4 : 0 ≤ N / y := Int.ediv_nonneg (by omega) (by omega)
  have d5 : N / y < 18446744073709551616 := by
    rw [Int.ediv_lt_iff_lt_mul (by omega)]
    omega
  rw [Int.mul_comm] at d1
  have fin : ∀ (e : Ending) (w' : World), e = .returned (.tuple #[.int .u64 (N / y), .int .u64 (N % y)]) ∧ Below w.heap.size w w' → ∃ q r : Int, e = .returned (.tuple #[.int .u64 q, .int .u64 r]) ∧ (0 ≤ q ∧ q < 18446744073709551616 ∧ 0 ≤ r ∧ r < y) ∧ Hid (q * y + r = hi * 18446744073709551616 + lo) ∧ Below w.heap.size w w' :=
    fun e w' h => ⟨N / y, N % y, h.1, ⟨d4, d5, d2, d3⟩, show _ = _ by omega, h.2⟩
  by_cases hz : hi = 0
  · subst hz
    have : N = lo := by omega
    rw [this] at fin
    exact (div64_small lo y w l0 l1 (by omega) y1).mono fin
  · rw [hN] at fin
    exact (div64_big hi lo y w (by omega) hy l0 l1 y1).mono fin
end Go.Proofs.YtdemopkdcnaibaaGreatDoor

namespace Go.Proofs.YtdemopkdcnaibaaGreatDoor
open Go.RowKit Go.Deep

/-- Two limbs moved up, as one: digits that don't meet. -/
theorem shift_or (x y : Int) (t u : Nat) (htu : t + u = 64) (_x0 : 0 ≤ x) (y0 : 0 ≤ y) (y1 : y < 18446744073709551616) :
    ∃ A C s : Int, IntKind.u64.wrap (x * 2 ^ t) = A ∧ y / 2 ^ u = C ∧ bits .or .u64 A C = s ∧ Hid (s = x % 2 ^ u * 2 ^ t + y / 2 ^ u) := by
  have hP : (0 : Int) < 2 ^ t := Int.pow_pos (by omega)
  have hQ : (0 : Int) < 2 ^ u := Int.pow_pos (by omega)
  have hPQ : (2 : Int) ^ t * 2 ^ u = 18446744073709551616 := by rw [← Int.pow_add, htu]; rfl
  have h1 := Qd.part_bd (z := x) hP hQ hPQ
  have h2 : 0 ≤ y / 2 ^ u := Int.ediv_nonneg y0 (by omega)
  have h3 : y / 2 ^ u < 2 ^ t := by rw [Int.ediv_lt_iff_lt_mul hQ, hPQ]; exact y1
  have h4 := Int.emod_add_mul_ediv x (2 ^ u)
  have hA : IntKind.u64.wrap (x * 2 ^ t) = x % 2 ^ u * 2 ^ t := by
    have e : x * 2 ^ t = x % 2 ^ u * 2 ^ t + 18446744073709551616 * (x / 2 ^ u) := by
      have : (x % 2 ^ u + 2 ^ u * (x / 2 ^ u)) * 2 ^ t = x * 2 ^ t := by rw [h4]
      rw [Int.add_mul, Int.mul_right_comm, Int.mul_comm (2 ^ u) (2 ^ t), hPQ] at this
      omega
    rw [wrap_mod, e]
    omega
  exact ⟨_, _, _, hA, rfl, rfl, or_sum (x % 2 ^ u) (y / 2 ^ u) t (Int.emod_nonneg x (by omega)) h2 h3 (by omega) (by omega)⟩

theorem ret_u64 {a b : Int} (h : a = b) : Ending.returned (.int .u64 a) = .returned (.int .u64 b) := by rw [h]

set_option maxRecDepth 100000 in
set_option maxHeartbeats 1000000 in
/-- Limb i of the number moved up by t binary digits. -/
theorem shifted_any (p : Option Addr) (n cap : Nat) (zs : List Int) (i t : Nat) (ii tt v : Int) (w : World) (hn : zs.length = n) (hc : n ≤ cap) (hm : cap ≤ 140737488355328) (h : Lies w p zs) (hz : Nm.Limbs zs) (hi : i < n) (ht : t ≤ 63) (hii : ii = (i : Int)) (htt : tt = (t : Int)) (hv : Qd.limb zs (2 ^ t) (2 ^ (64 - t)) i = v) :
    Calls Tryz.prog 241 #[.slice p n cap, .int .i64 ii, .int .i64 tt] w fun e w' => e = .returned (.int .u64 v) ∧ Below w.heap.size w w' := by
  subst hv
  subst hii
  subst htt
  obtain ⟨b, off, rfl, hbw, HC⟩ := h.at (by omega)
  obtain ⟨u, hu⟩ : ∃ u, 64 - t = u := ⟨_, rfl⟩
  rw [hu]
  cases i with
  | zero =>
    obtain ⟨x, hx, X⟩ : ∃ x, w.cell? ⟨b, off, none⟩ = some (.int .u64 x) ∧ Hid (x = zs.getD 0 0) := ⟨_, HC.out 0 (by omega), rfl⟩
    have hx0 := hz.at 0
    rw [← X.out] at hx0
    obtain ⟨A, C, s, r1, r2, r3, R⟩ := shift_or x 0 t u (by omega) hx0.1 (Int.le_refl 0) (by omega)
    have FIN : Hid (A = Qd.limb zs (2 ^ t) (2 ^ u) 0) := by
      show _ = _
      rw [Int.zero_ediv] at r2 R
      subst r2
      have e := Qd.part_bd (z := x) (T := 2 ^ t) (U := 2 ^ u) (Int.pow_pos (by omega)) (Int.pow_pos (by omega)) (by rw [← Int.pow_add, show t + u = 64 by omega]; rfl)
      have o := or_sum (x % 2 ^ u) 0 t (Int.emod_nonneg x (by have : (0 : Int) < 2 ^ u := Int.pow_pos (by omega); omega)) (Int.le_refl 0) (Int.pow_pos (by omega)) (by have : (0 : Int) < 2 ^ t := Int.pow_pos (by omega); omega) (by omega)
      have hA : A = x % 2 ^ u * 2 ^ t := by
        rw [← r1, wrap_mod]
        have h4 := Int.emod_add_mul_ediv x (2 ^ u)
        have hPQ : (2 : Int) ^ t * 2 ^ u = 18446744073709551616 := by rw [← Int.pow_add, show t + u = 64 by omega]; rfl
        have e2 : x * 2 ^ t = x % 2 ^ u * 2 ^ t + 18446744073709551616 * (x / 2 ^ u) := by
          have : (x % 2 ^ u + 2 ^ u * (x / 2 ^ u)) * 2 ^ t = x * 2 ^ t := by rw [h4]
          rw [Int.add_mul, Int.mul_right_comm, Int.mul_comm (2 ^ u) (2 ^ t), hPQ] at this
          omega
        have : (0 : Int) < 2 ^ t := Int.pow_pos (by omega)
        rw [e2]
        omega
      rw [hA, Qd.limb, ← X.out]
      show _ = _ + 0
      omega
    clear r2 r3 R X
    go_enter Tryz.func241, Tryz.ntmps241
    go_wp2
    go_ret
    exact ⟨ret_u64 FIN.out, Below.refl _ _⟩
  | succ j =>
    obtain ⟨x, hx, X⟩ : ∃ x, w.cell? ⟨b, off + (j + 1), none⟩ = some (.int .u64 x) ∧ Hid (x = zs.getD (j + 1) 0) := ⟨_, HC.out (j + 1) (by omega), rfl⟩
    obtain ⟨y, hy, Y⟩ : ∃ y, w.cell? ⟨b, off + j, none⟩ = some (.int .u64 y) ∧ Hid (y = zs.getD j 0) := ⟨_, HC.out j (by omega), rfl⟩
    have hx0 := hz.at (j + 1)
    rw [← X.out] at hx0
    have hy0 := hz.at j
    rw [← Y.out] at hy0
    obtain ⟨hx0, hx1⟩ := hx0
    obtain ⟨hy0, hy1⟩ := hy0
    obtain ⟨A, C, s, r1, r2, r3, R⟩ := shift_or x y t u (by omega) hx0 hy0 hy1
    have r4 : 64 - (t : Int) = (u : Int) := by omega
    have FIN : Hid (s = Qd.limb zs (2 ^ t) (2 ^ u) (j + 1)) := by
      show _ = _
      rw [R.out, Qd.limb, ← X.out, Y.out]
      rfl
    have hij : ((j : Int) + 1 == 0) = false := by rw [beq_eq_false_iff_ne]; omega
    obtain ⟨k, HK⟩ : ∃ k, Hid (k = j + 1) := ⟨_, rfl⟩
    have ek : (((j + 1 : Nat) : Int)) = (k : Int) := by rw [HK.out]
    have ek1 : (k : Int) - 1 = (j : Int) := by rw [HK.out]; omega
    have hk0 : ((k : Int) == 0) = false := by rw [beq_eq_false_iff_ne]; omega
    have hkn : (k : Int) < (n : Int) := by rw [HK.out]; omega
    have hjn : (j : Int) < (n : Int) := by omega
    have hx2 : w.cell? ⟨b, off + k, none⟩ = some (.int .u64 x) := by rw [HK.out]; exact hx
    rw [ek]
    clear R hx hij ek hi hu
    go_enter Tryz.func241, Tryz.ntmps241
    go_wp2_with fail
    go_quiet (fail)
    go_wp2
    go_ret
    exact ⟨ret_u64 FIN.out, below_drewN (Below.refl _ _) _⟩

set_option maxRecDepth 100000 in
set_option maxHeartbeats 1000000 in
/-- The guess made less. -/
theorem lessened_any (Q : Int → Prop) (f s h m l d left : Int) (w : World) (hQ : ∀ q, Q q → Qd.Fits q f s h m l) (f0 : 0 ≤ f) (f1 : f < 18446744073709551616) (s0 : 0 ≤ s) (s1 : s < 18446744073709551616) (l0 : 0 ≤ l) (l1 : l < 18446744073709551616)
    (H : Qd.Over Q f (h * 18446744073709551616 + m) d left) :
    Calls Tryz.prog 242 #[.int .u64 d, .int .u64 left, .int .u64 l, .int .u64 f, .int .u64 s] w fun e w' => ∃ g, e = .returned (.int .u64 g) ∧ (0 ≤ g ∧ g < 18446744073709551616) ∧ Hid (∀ q, Q q → q ≤ g) ∧ w' = w := by
  have HH := hid H
  have HQ := hid hQ
  clear H hQ
  go_enter Tryz.func242, Tryz.ntmps242
  go_wp2_with fail
  go_loop [0, 1] (fun a b => ∃ d left, a = .int .u64 d ∧ b = .int .u64 left ∧ Hid (Qd.Over Q f (h * 18446744073709551616 + m) d left)) (fun a _ => (intOf a).toNat)
  case atStart => exact ⟨d, left, rfl, rfl, HH.out⟩
  case round =>
    clear HH
    obtain ⟨d, left, rfl, rfl, H⟩ := hrel
    obtain ⟨d0, d1⟩ := H.out.1
    obtain ⟨left0, left1⟩ := H.out.2.1
    go_wp2_with fail
    refine (mul64 d s d0 d1 s0 s1 _).mono ?_
    rintro e w' ⟨hh, ll, rfl, ⟨hh0, hh1, ll0, ll1⟩, E, _, rfl⟩
    rcases (show hh < left ∨ (hh = left ∧ ll ≤ l) ∨ (left < hh) ∨ (hh = left ∧ l < ll) by omega) with c | c | c | c
    · go_wp2
      go_ret
      exact ⟨d, rfl, ⟨d0, d1⟩, H.out.2.2.2, rfl⟩
    · obtain ⟨rfl, c⟩ := c
      go_wp2
      go_ret
      exact ⟨d, rfl, ⟨d0, d1⟩, H.out.2.2.2, rfl⟩
    all_goals
      have hc : left * 18446744073709551616 + l < d * s := by
        have := E.out
        omega
      obtain ⟨g1, g2, g3⟩ := Qd.over_down HQ.out l0 f0 H.out hc
      have G3 := hid g3
      have G2 := hid g2
      clear g2 g3
      by_cases hr : left + f < 18446744073709551616
      · have ON := hid (Qd.over_on HQ.out l0 f0 H.out hc hr)
        clear hc
        try (obtain ⟨rfl, c⟩ := c)
        go_wp2
        go_round
        case rel => exact ⟨d - 1, _, rfl, rfl, ON.out⟩
        case measure => simp [intOf]; omega
      · have r1 : IntKind.u64.wrap (left + f) = left + f - 18446744073709551616 := by rw [wrap_mod]; omega
        clear hc
        try (obtain ⟨rfl, c⟩ := c)
        go_wp2
        go_ret
        exact ⟨d - 1, rfl, by omega, G3.out, rfl⟩
end Go.Proofs.YtdemopkdcnaibaaGreatDoor

namespace Go.Proofs.YtdemopkdcnaibaaGreatDoor
open Go.RowKit Go.Deep

/-- Both lists lie where they lay. -/
def Both (w : World) (p q : Option Addr) (ps bs : List Int) : Prop := Lies w p ps ∧ Lies w q bs

theorem Both.below {w w' : World} {p q : Option Addr} {ps bs : List Int} (h : Both w p q ps bs) (hb : Below w.heap.size w w') : Both w' p q ps bs :=
  ⟨h.1.below hb (Nat.le_refl _), h.2.below hb (Nat.le_refl _)⟩

/-- Moved up till its highest binary digit is at the top, the divisor keeps its limbs. -/
theorem room_up {bs : List Int} (hz : Nm.Limbs bs) {k : Nat} (lb : bs.length = k + 2) {T U y : Int} (hT : 0 < T) (hTU : T * U = 18446744073709551616) (hy : bs.getD (k + 1) 0 = y) (hyT : y * T < 18446744073709551616) : Nm.val bs * T < Nm.pw (k + 2) := by
  have h1 := Nm.val_take_succ bs (k + 1) (by omega)
  rw [List.take_of_length_le (by omega), hy] at h1
  have h2 := (Nm.val_bd _ (hz.take (k + 1))).2
  rw [List.length_take, Nat.min_eq_left (by omega)] at h2
  have hyU : y + 1 ≤ U := by
    rcases (show y + 1 ≤ U ∨ U ≤ y by omega) with c | c
    · exact c
    · exfalso
      have : U * T ≤ y * T := Int.mul_le_mul_of_nonneg_right c (by omega)
      rw [Int.mul_comm U T, hTU] at this
      omega
  have h3 : (y + 1) * T ≤ U * T := Int.mul_le_mul_of_nonneg_right hyU (by omega)
  rw [Int.mul_comm U T, hTU] at h3
  have hp := Nm.pw_pos (k + 1)
  have h4 : Nm.pw (k + 1) * ((y + 1) * T) ≤ Nm.pw (k + 1) * 18446744073709551616 := Int.mul_le_mul_of_nonneg_left h3 (by omega)
  have h5 : Nm.val bs < Nm.pw (k + 1) * (y + 1) := by rw [Int.mul_add, Int.mul_one]; omega
  have h6 := Int.mul_lt_mul_of_pos_right h5 hT
  rw [Int.mul_assoc] at h6
  rw [show k + 2 = k + 1 + 1 from rfl, Nm.pw_succ]
  omega

set_option maxRecDepth 100000 in
set_option maxHeartbeats 1000000 in
theorem guess_any (p q : Option Addr) (k n n1 cap cap' : Nat) (ps bs : List Int) (w : World) (hn : n = k + 2) (hn1 : n1 = k + 3) (lb : bs.length = n) (lp : ps.length = n1) (hc : n1 ≤ cap) (hc' : n ≤ cap') (hm : cap ≤ 140737488355328) (hm' : cap' ≤ 140737488355328)
    (hp : Lies w p ps) (hb : Lies w q bs) (hlp : Nm.Limbs ps) (hlb : Nm.Limbs bs) (htop : bs.getD (k + 1) 0 ≠ 0) (hpb : Nm.val ps < Nm.val bs * 18446744073709551616) :
    Calls Tryz.prog 231 #[.slice p n1 cap, .slice q n cap'] w fun e w' => ∃ g, e = .returned (.int .u64 g) ∧ (0 ≤ g ∧ g < 18446744073709551616) ∧ Hid (∀ x, 0 ≤ x → x * Nm.val bs ≤ Nm.val ps → x ≤ g) ∧ Below w.heap.size w w' := by
  obtain ⟨b, off, rfl, hbw, HC⟩ := hb.at (by omega)
  obtain ⟨t1, HT1⟩ : ∃ t1, Hid (t1 = k + 1) := ⟨_, rfl⟩
  have e1 : (n : Int) - 1 = (t1 : Int) := by rw [HT1.out]; omega
  obtain ⟨y, hy, Y⟩ : ∃ y, w.cell? ⟨b, off + t1, none⟩ = some (.int .u64 y) ∧ Hid (y = bs.getD t1 0) := ⟨_, HC.out t1 (by rw [HT1.out]; omega), rfl⟩
  have hy0 := hlb.at t1
  rw [← Y.out] at hy0
  obtain ⟨hy0, hy1⟩ := hy0
  have hyp : 0 < y := by
    have := Y.out
    rw [HT1.out] at this
    omega
  obtain ⟨l, hl⟩ : ∃ l, Lib.bitLen y.toNat = l := ⟨_, rfl⟩
  obtain ⟨t, ht, ht63, _, hyT, hT, hU, hTU⟩ := shift_facts y l hyp hy1 hl
  have LE := lead_any y l w hy0 hy1 hl
  rw [show 64 - (l : Int) = (t : Int) by omega] at LE
  have F := Qd.fits hlb hlp hT hU hTU (k := k) (by omega) (by omega) (room_up hlb (by omega) hT hTU (by rw [← HT1.out]; exact Y.out.symm) hyT) hpb
  have Bf := Qd.limb_bd hlb hT hU hTU (k + 1)
  have Bs := Qd.limb_bd hlb hT hU hTU k
  have Bh := Qd.limb_bd hlp hT hU hTU (k + 2)
  have Bm := Qd.limb_bd hlp hT hU hTU (k + 1)
  have Bl := Qd.limb_bd hlp hT hU hTU k
  obtain ⟨f, hf⟩ : ∃ f, Qd.limb bs (2 ^ t) (2 ^ (64 - t)) (k + 1) = f := ⟨_, rfl⟩
  obtain ⟨s, hs⟩ : ∃ f, Qd.limb bs (2 ^ t) (2 ^ (64 - t)) k = f := ⟨_, rfl⟩
  obtain ⟨h, hh⟩ : ∃ f, Qd.limb ps (2 ^ t) (2 ^ (64 - t)) (k + 2) = f := ⟨_, rfl⟩
  obtain ⟨m, hmm⟩ : ∃ f, Qd.limb ps (2 ^ t) (2 ^ (64 - t)) (k + 1) = f := ⟨_, rfl⟩
  obtain ⟨lo, hlo⟩ : ∃ f, Qd.limb ps (2 ^ t) (2 ^ (64 - t)) k = f := ⟨_, rfl⟩
  rw [hf, hs, hh, hmm, hlo] at F
  rw [hf] at Bf
  rw [hs] at Bs
  rw [hh] at Bh
  rw [hmm] at Bm
  rw [hlo] at Bl
  obtain ⟨f0, f1⟩ := Bf
  obtain ⟨s0, s1⟩ := Bs
  obtain ⟨h0, h1⟩ := Bh
  obtain ⟨m0, m1⟩ := Bm
  obtain ⟨lo0, lo1⟩ := Bl
  obtain ⟨hhf, hfit⟩ := F
  have HQ : Hid (∀ x, (fun x => 0 ≤ x ∧ x * Nm.val bs ≤ Nm.val ps) x → Qd.Fits x f s h m lo) := fun x hx => hfit x hx.1 hx.2
  have HLE := hid LE
  have HBO : Hid (Both w p (some ⟨b, off, none⟩) ps bs) := ⟨hp, hb⟩
  have HF := hid hf
  have HS := hid hs
  have HH := hid hh
  have HM := hid hmm
  have HL := hid hlo
  have hLP := hid hlp
  have hLB := hid hlb
  have HN := hid hn
  have HN1 := hid hn1
  have HLP := hid lp
  have HLB := hid lb
  have hnn1 : (n : Int) < (n1 : Int) := by omega
  clear LE hf hs hh hmm hlo hfit hlp hlb hn hn1 lp lb hp hb hl ht htop hpb hyT hT hU hTU
  have fin : ∀ (g : Int), (∀ x, (fun x => 0 ≤ x ∧ x * Nm.val bs ≤ Nm.val ps) x → x ≤ g) → Hid (∀ x, 0 ≤ x → x * Nm.val bs ≤ Nm.val ps → x ≤ g) := fun g hg x x0 hx => hg x ⟨x0, hx⟩
  have FIN := hid fin
  clear fin
  go_enter Tryz.func231, Tryz.ntmps231
  go_wp2_with fail
  refine HLE.out.mono ?_
  rintro e w' ⟨rfl, rfl⟩
  clear HLE hy
  go_wp2_with fail
  refine (shifted_any _ n cap' bs (k + 1) t _ _ f _ HLB.out hc' hm' HBO.out.2 hLB.out (by have := HN.out; omega) ht63 (by have := HT1.out; omega) rfl HF.out).mono ?_
  rintro e w1 ⟨rfl, hb1⟩
  have HB1 := hid hb1
  have HBO1 := hid (HBO.out.below hb1)
  clear hb1
  go_wp2_with fail
  refine (shifted_any _ n cap' bs k t _ _ s _ HLB.out hc' hm' HBO1.out.2 hLB.out (by have := HN.out; omega) ht63 (by have := HT1.out; omega) rfl HS.out).mono ?_
  rintro e w2 ⟨rfl, hb2⟩
  have HB2 := hid (chain HB1.out hb2 (Nat.le_refl _))
  have HBO2 := hid (HBO1.out.below hb2)
  clear hb2
  go_wp2_with fail
  refine (shifted_any _ n1 cap ps (k + 2) t _ _ h _ HLP.out hc hm HBO2.out.1 hLP.out (by have := HN1.out; omega) ht63 (by have := HT1.out; omega) rfl HH.out).mono ?_
  rintro e w3 ⟨rfl, hb3⟩
  have HB3 := hid (chain HB2.out hb3 (Nat.le_refl _))
  have HBO3 := hid (HBO2.out.below hb3)
  clear hb3
  go_wp2_with fail
  refine (shifted_any _ n1 cap ps (k + 1) t _ _ m _ HLP.out hc hm HBO3.out.1 hLP.out (by have := HN1.out; omega) ht63 (by have := HT1.out; omega) rfl HM.out).mono ?_
  rintro e w4 ⟨rfl, hb4⟩
  have HB4 := hid (chain HB3.out hb4 (Nat.le_refl _))
  have HBO4 := hid (HBO3.out.below hb4)
  clear hb4
  go_wp2_with fail
  refine (shifted_any _ n1 cap ps k t _ _ lo _ HLP.out hc hm HBO4.out.1 hLP.out (by have := HN1.out; omega) ht63 (by have := HT1.out; omega) rfl HL.out).mono ?_
  rintro e w5 ⟨rfl, hb5⟩
  have HB5 := hid (chain HB4.out hb5 (Nat.le_refl _))
  clear hb5 HB1 HB2 HB3 HB4 HBO HBO1 HBO2 HBO3 HBO4
  by_cases hhe : h = f
  · have hhe' : (h == f) = true := by simp [hhe]
    obtain ⟨s1', S1⟩ : ∃ s, Hid (s = (m + f + 0) % 18446744073709551616) := ⟨_, rfl⟩
    obtain ⟨k1, K1⟩ : ∃ c, Hid (c = (m + f + 0) / 18446744073709551616) := ⟨_, rfl⟩
    by_cases hov : m + f < 18446744073709551616
    · have ek : k1 = 0 := by have := K1.out; omega
      have es : s1' = m + f := by have := S1.out; omega
      subst ek
      subst es
      have OV := hid (Qd.over_even HQ.out hhe (by omega) hov)
      go_wp2_with (simp only [add64' m f 0 _ _ m0 f0 (Int.le_refl 0) (by decide) S1.out K1.out])
      refine (lessened_any _ f s h m lo _ _ _ HQ.out f0 f1 s0 s1 lo0 lo1 OV.out).mono ?_
      rintro e w6 ⟨g, rfl, G, GQ, rfl⟩
      have HG := hid G
      clear G
      go_wp2_with fail
      go_ret
      exact ⟨g, rfl, HG.out, FIN.out g GQ.out, HB5.out⟩
    · have ek : k1 = 1 := by have := K1.out; omega
      subst ek
      have OV := hid (Qd.over_most HQ.out)
      go_wp2_with (simp only [add64' m f 0 _ _ m0 f0 (Int.le_refl 0) (by decide) S1.out K1.out])
      go_ret
      exact ⟨_, rfl, by omega, FIN.out _ OV.out, HB5.out⟩
  · have hhe' : (h == f) = false := by rw [beq_eq_false_iff_ne]; exact hhe
    have hlt : h < f := by omega
    go_wp2_with fail
    refine (div64 h m f _ h0 hlt m0 m1 f1).mono ?_
    rintro e w6 ⟨d, r, rfl, ⟨d0, d1, r0, r1⟩, E, hb6⟩
    have HB6 := hid (chain HB5.out hb6 (Nat.le_refl _))
    have OV := hid (Qd.over_first HQ.out s0 lo1 ⟨d0, d1⟩ r0 r1 f1 E.out)
    clear hb6 E
    go_wp2_with fail
    refine (lessened_any _ f s h m lo _ _ _ HQ.out f0 f1 s0 s1 lo0 lo1 OV.out).mono ?_
    rintro e w7 ⟨g, rfl, G, GQ, rfl⟩
    have HG := hid G
    clear G
    go_wp2_with fail
    go_ret
    exact ⟨g, rfl, HG.out, FIN.out g GQ.out, HB6.out⟩
end Go.Proofs.YtdemopkdcnaibaaGreatDoor

namespace Go.Proofs.YtdemopkdcnaibaaGreatDoor
open Go.RowKit Go.Deep

/-- Sub64: the limb of a difference, and the borrow, under names. -/
theorem sub64' (x y b s b' : Int) (hx : 0 ≤ x) (hx1 : x < 18446744073709551616) (hy : 0 ≤ y) (hy1 : y < 18446744073709551616) (hb0 : 0 ≤ b) (hb : b ≤ 1) (hs : 0 ≤ s ∧ s < 18446744073709551616) (hb' : 0 ≤ b' ∧ b' ≤ 1) (he : s + 18446744073709551616 * (-b') = x + (-y) + (-b)) (w : World) :
    (callFunc 236 #[.int .u64 x, .int .u64 y, .int .u64 b]).run Tryz.prog w = .ok (.value (.tuple #[.int .u64 s, .int .u64 b'])) w := by
  obtain ⟨x, rfl⟩ := Int.eq_ofNat_of_zero_le hx
  obtain ⟨y, rfl⟩ := Int.eq_ofNat_of_zero_le hy
  obtain ⟨b, rfl⟩ := Int.eq_ofNat_of_zero_le hb0
  rw [run_callFunc_extern Tryz.func236 (by kernel_rfl) (by kernel_rfl) (by kernel_rfl) (e := sub64Entry) (by kernel_rfl), run_sub64 x y b (by omega)]
  have e1 : (((x + 18446744073709551616 - y - b) % 18446744073709551616 : Nat) : Int) = s := by omega
  have e2 : ((if x < y + b then 1 else 0 : Nat) : Int) = b' := by split <;> omega
  rw [e1, e2]
  rfl

theorem sub_names (x y b : Int) (hx : 0 ≤ x) (hx1 : x < 18446744073709551616) (hy : 0 ≤ y) (hy1 : y < 18446744073709551616) (hb0 : 0 ≤ b) (hb : b ≤ 1) : ∃ s b' : Int, (0 ≤ s ∧ s < 18446744073709551616) ∧ (0 ≤ b' ∧ b' ≤ 1) ∧ Hid (s + 18446744073709551616 * (-b') = x + (-y) + (-b)) :=
  ⟨(x - y - b) % 18446744073709551616, -((x - y - b) / 18446744073709551616), by omega, by omega, show _ = _ by omega⟩

theorem AddInv.down {g k : Nat} {w : World} {T : Int} {j : Nat} {c : Int} {os : List Int} {wr : World} (h : AddInv g k w T j c os wr) (hj : j < k) {x s c' : Int} (hs0 : 0 ≤ s ∧ s < 18446744073709551616) (hs : s + 18446744073709551616 * c' = os.getD j 0 + x + c) :
    AddInv g k w (T + Nm.pw j * x) (j + 1) c' (os.set j s) (wr.setCell ⟨g, j, none⟩ (.int .u64 s)) := by
  obtain ⟨h1, h2, h3, h4, h5, h6⟩ := h
  exact ⟨h1.set j s, by simpa using h2, h3.set j hs0.1 hs0.2, Nm.add_step (by omega) hs h4, h5.setCell (Nat.le_refl _) _, by simpa [World.setCell] using h6⟩

theorem AddInv.stop {g k : Nat} {w : World} {T : Int} {j : Nat} {b : Int} {os : List Int} {wr : World} (h : AddInv g k w T j (-b) os wr) (hT : 0 ≤ T) (hb : 1 ≤ b) : j < k := by
  obtain ⟨h1, h2, h3, h4, h5, h6⟩ := h
  rcases Nat.lt_or_ge j k with hj | hj
  · exact hj
  · have e1 := Nm.pw_mono hj
    have e2 := (Nm.val_bd os h3).2
    rw [h2] at e2
    have e3 := Nm.pw_pos j
    have e4 : Nm.pw j * 1 ≤ Nm.pw j * b := Int.mul_le_mul_of_nonneg_left hb (by omega)
    rw [Int.mul_neg] at h4
    omega
end Go.Proofs.YtdemopkdcnaibaaGreatDoor

namespace Go.Proofs.YtdemopkdcnaibaaGreatDoor
open Go.RowKit Go.Deep

/-- As AddInv; from limb 'top' on the block is as it was, and so is every other block. -/
def PartInv (g k top : Nat) (w : World) (zs : List Int) (T : Int) (j : Nat) (c : Int) (os : List Int) (wr : World) : Prop :=
  AddInv g k w T j c os wr ∧ (∀ i, top ≤ i → os.getD i 0 = zs.getD i 0) ∧ ∀ b, b ≠ g → wr.heap[b]? = w.heap[b]?

theorem PartInv.step {g k top : Nat} {w : World} {zs : List Int} {T : Int} {j : Nat} {c : Int} {os : List Int} {wr : World} (h : PartInv g k top w zs T j c os wr) (hj : j < k) (ht : j < top) {x s c' : Int}
    (hs0 : 0 ≤ s ∧ s < 18446744073709551616) (hs : s + 18446744073709551616 * c' = os.getD j 0 + x + c) :
    PartInv g k top w zs (T + Nm.pw j * x) (j + 1) c' (os.set j s) (wr.setCell ⟨g, j, none⟩ (.int .u64 s)) := by
  obtain ⟨h1, h2, h3⟩ := h
  refine ⟨h1.down hj hs0 hs, fun i hi => ?_, fun b hb => ?_⟩
  · rw [Nm.getD_set _ _ _ _ (by have := h1.2.1; omega), if_neg (by omega)]
    exact h2 i hi
  · rw [← h3 b hb]
    simp only [World.setCell, Array.getElem?_modify]
    rw [if_neg (by omega)]

theorem PartInv.own {g k top : Nat} {w : World} {zs : List Int} {T : Int} {j : Nat} {c : Int} {os : List Int} {wr : World} (h : PartInv g k top w zs T j c os wr) {b : Nat} {xs : List Int} (ho : Own w b xs) (hb : b ≠ g) : Own wr b xs := by
  simp only [Own] at ho ⊢
  rw [h.2.2 b hb]
  exact ho

/-- The limbs of one round of takeTimes. -/
theorem take_step {x m y c p l h s1 k1 s2 b : Int} (hp : l + 18446744073709551616 * h = p) (hl : 0 ≤ l ∧ l < 18446744073709551616) (hh : 0 ≤ h) (hx : 0 ≤ x ∧ x < 18446744073709551616) (hm : 0 ≤ m ∧ m < 18446744073709551616) (hxm : p = x * m)
    (hy : 0 ≤ y ∧ y < 18446744073709551616) (hc : 0 ≤ c ∧ c < 18446744073709551616) (e1 : s1 = (l + c + 0) % 18446744073709551616) (e2 : k1 = (l + c + 0) / 18446744073709551616)
    (hs : 0 ≤ s2 ∧ s2 < 18446744073709551616) (_hb : 0 ≤ b ∧ b ≤ 1) (e3 : s2 + 18446744073709551616 * (-b) = y + (-s1) + (-0)) :
    (0 ≤ h + k1 + b ∧ h + k1 + b < 18446744073709551616) ∧ s2 + 18446744073709551616 * (-(h + k1 + b)) = y + (-(x * m)) + (-c) := by
  have hbd : x * m ≤ 18446744073709551615 * 18446744073709551615 := Int.mul_le_mul (by omega) (by omega) (by omega) (by omega)
  rw [← hxm] at hbd ⊢
  clear hxm
  omega

set_option maxRecDepth 100000 in
set_option maxHeartbeats 1000000 in
theorem takeTimes_any (g k o n n1 cap : Nat) (zs : List Int) (q : Option Addr) (cap' : Nat) (ys : List Int) (m : Int) (w : World) (hk : zs.length = k) (hkm : k ≤ 35184372088832) (ho : Own w g zs) (hl : Nm.Limbs zs)
    (hn : ys.length = n) (hn0 : 0 < n) (hn1 : n < n1) (hon : o + n < k) (hy : Lies w q ys) (hly : Nm.Limbs ys) (hq : ∀ a, q = some a → a.block < g) (hm0 : 0 ≤ m) (hm1 : m < 18446744073709551616) :
    Calls Tryz.prog 232 #[.slice (some ⟨g, o, none⟩) n1 cap, .slice q n cap', .int .u64 m] w fun e w' => ∃ (c : Int) (os : List Int), e = .returned (.int .u64 c) ∧ (0 ≤ c ∧ c ≤ 1) ∧
      Hid (PartInv g k (o + n + 1) w zs (Nm.val zs + Nm.pw o * (-(Nm.val ys * m))) (o + n + 1) (-c) os w') := by
  obtain ⟨b, off, rfl, hbw, HC⟩ := hy.at (by omega)
  have hbg : b < g := hq _ rfl
  have I0 : PartInv g k (o + n + 1) w zs (Nm.val zs + Nm.pw o * (-(Nm.val (ys.take 0) * m))) (o + 0) (-0) zs w := ⟨⟨ho, hk, hl, by simp [Nm.val], Below.refl _ _, rfl⟩, fun _ _ => rfl, fun _ _ => rfl⟩
  have HM : Hid (ys.length = n) := hn
  have HY : Hid (Nm.Limbs ys) := hly
  clear hn hly hq ho hk hl hy
  go_enter Tryz.func232, Tryz.ntmps232
  go_wp2
  go_loopw [7, 19] (fun c i wr => ∃ (j : Nat) (cc : Int) (os : List Int), j ≤ n ∧ i = .int .i64 j ∧ c = .int .u64 cc ∧ (0 ≤ cc ∧ cc < 18446744073709551616) ∧ PartInv g k (o + n + 1) w zs (Nm.val zs + Nm.pw o * (-(Nm.val (ys.take j) * m))) (o + j) (-cc) os wr) (fun _ i _ => n - (intOf i).toNat)
  case atStart => exact ⟨0, 0, zs, Nat.zero_le _, rfl, rfl, by omega, I0⟩
  case round =>
    clear I0
    obtain ⟨j, cc, os, hj, rfl, rfl, ⟨hcc0, hcc1⟩, I⟩ := hrel
    by_cases hlt : j < n
    · obtain ⟨x, hx, X⟩ : ∃ x, wr.cell? ⟨b, off + j, none⟩ = some (.int .u64 x) ∧ Hid (x = ys.getD j 0) :=
        ⟨_, (I.1.2.2.2.2.1.cell (p := ⟨b, off + j, none⟩) hbg).trans (HC.out j (by have := HM.out; omega)), rfl⟩
      obtain ⟨y, hyc, Y⟩ : ∃ y, wr.cell? ⟨g, o + j, none⟩ = some (.int .u64 y) ∧ Hid (y = os.getD (o + j) 0) := ⟨_, I.1.1.cell (o + j) (by have := I.1.2.1; omega), rfl⟩
      have hfr := I.1.1.free (o + j)
      have hx0 : 0 ≤ x ∧ x < 18446744073709551616 := by have := HY.out.at j; have := X.out; omega
      have hy0 : 0 ≤ y ∧ y < 18446744073709551616 := by have := I.1.2.2.1.at (o + j); have := Y.out; omega
      obtain ⟨hx0, hx1⟩ := hx0
      obtain ⟨hy0, hy1⟩ := hy0
      have hjn1 : (j : Int) < (n1 : Int) := by omega
      go_wp2_with fail
      refine (mul64 x m hx0 hx1 hm0 hm1 _).mono ?_
      rintro e w' ⟨h, l, rfl, ⟨hh0, hh1, hl0, hl1⟩, P1, _, rfl⟩
      obtain ⟨s1, S1⟩ : ∃ s, Hid (s = (l + cc + 0) % 18446744073709551616) := ⟨_, rfl⟩
      obtain ⟨k1, K1⟩ : ∃ c, Hid (c = (l + cc + 0) / 18446744073709551616) := ⟨_, rfl⟩
      have hs1 : 0 ≤ s1 := by have := S1.out; omega
      have hs2 : s1 < 18446744073709551616 := by have := S1.out; omega
      obtain ⟨s2, b2, ⟨t0, t1⟩, ⟨t2, t3⟩, S2⟩ := sub_names y s1 0 hy0 hy1 hs1 hs2 (Int.le_refl 0) (by decide)
      have ST := hid (take_step P1.out ⟨hl0, hl1⟩ hh0 ⟨hx0, hx1⟩ ⟨hm0, hm1⟩ rfl ⟨hy0, hy1⟩ ⟨hcc0, hcc1⟩ S1.out K1.out ⟨t0, t1⟩ ⟨t2, t3⟩ S2.out)
      have hk1 : 0 ≤ k1 := by have := K1.out; omega
      have hkk : h + k1 + b2 < 18446744073709551616 := ST.out.1.2
      go_wp2_with (first | simp only [add64' l cc 0 s1 k1 hl0 hcc0 (Int.le_refl 0) (by decide) S1.out K1.out] | simp only [sub64' y s1 0 s2 b2 hy0 hy1 hs1 hs2 (Int.le_refl 0) (by decide) ⟨t0, t1⟩ ⟨t2, t3⟩ S2.out])
      go_roundw
      case rel =>
        have hst := I.step (by omega) (by omega) (x := -(x * m)) (s := s2) (c' := -(h + k1 + b2)) ⟨t0, t1⟩ (by rw [← Y.out]; exact ST.out.2)
        refine ⟨j + 1, h + k1 + b2, os.set (o + j) s2, by omega, by go_num, rfl, ST.out.1, ?_⟩
        have e : Nm.val zs + Nm.pw o * (-(Nm.val (ys.take (j + 1)) * m)) = Nm.val zs + Nm.pw o * (-(Nm.val (ys.take j) * m)) + Nm.pw (o + j) * (-(x * m)) := by
          rw [Nm.val_take_succ ys j (by have := HM.out; omega), ← X.out, Nm.pw_add, Int.add_mul, Int.mul_neg, Int.mul_neg, Int.mul_neg, Int.mul_add, Int.mul_assoc, Int.mul_assoc]
          omega
        rw [e]
        exact hst
      case measure => simp [intOf]; omega
    · have hjn : j = n := by omega
      subst hjn
      rw [List.take_of_length_le (by have := HM.out; omega)] at I
      obtain ⟨y, hyc, Y⟩ : ∃ y, wr.cell? ⟨g, o + j, none⟩ = some (.int .u64 y) ∧ Hid (y = os.getD (o + j) 0) := ⟨_, I.1.1.cell (o + j) (by have := I.1.2.1; omega), rfl⟩
      have hfr := I.1.1.free (o + j)
      have hy0 : 0 ≤ y ∧ y < 18446744073709551616 := by have := I.1.2.2.1.at (o + j); have := Y.out; omega
      obtain ⟨hy0, hy1⟩ := hy0
      obtain ⟨s2, b2, ⟨t0, t1⟩, ⟨t2, t3⟩, S2⟩ := sub_names y cc 0 hy0 hy1 hcc0 hcc1 (Int.le_refl 0) (by decide)
      have hst := I.step (by omega) (by omega) (x := 0) (s := s2) (c' := -b2) ⟨t0, t1⟩ (by rw [← Y.out]; have := S2.out; omega)
      rw [Int.mul_zero, Int.add_zero] at hst
      have HS := hid hst
      clear hst I
      go_wp2_with (simp only [sub64' y cc 0 s2 b2 hy0 hy1 hcc0 hcc1 (Int.le_refl 0) (by decide) ⟨t0, t1⟩ ⟨t2, t3⟩ S2.out])
      go_ret
      exact ⟨b2, os.set (o + j) s2, rfl, ⟨t2, t3⟩, HS.out⟩

set_option maxRecDepth 100000 in
set_option maxHeartbeats 1000000 in
theorem giveBack_any (g k o n n1 cap : Nat) (zs : List Int) (q : Option Addr) (cap' : Nat) (ys : List Int) (w : World) (hk : zs.length = k) (hkm : k ≤ 35184372088832) (ho : Own w g zs) (hl : Nm.Limbs zs)
    (hn : ys.length = n) (hn0 : 0 < n) (hn1 : n < n1) (hon : o + n < k) (hy : Lies w q ys) (hly : Nm.Limbs ys) (hq : ∀ a, q = some a → a.block < g) :
    Calls Tryz.prog 233 #[.slice (some ⟨g, o, none⟩) n1 cap, .slice q n cap'] w fun e w' => ∃ (c : Int) (os : List Int), e = .returned (.int .u64 c) ∧ (0 ≤ c ∧ c ≤ 1) ∧
      Hid (PartInv g k (o + n + 1) w zs (Nm.val zs + Nm.pw o * Nm.val ys) (o + n + 1) c os w') := by
  obtain ⟨b, off, rfl, hbw, HC⟩ := hy.at (by omega)
  have hbg : b < g := hq _ rfl
  have I0 : PartInv g k (o + n + 1) w zs (Nm.val zs + Nm.pw o * Nm.val (ys.take 0)) (o + 0) 0 zs w := ⟨⟨ho, hk, hl, by simp [Nm.val], Below.refl _ _, rfl⟩, fun _ _ => rfl, fun _ _ => rfl⟩
  have HM : Hid (ys.length = n) := hn
  have HY : Hid (Nm.Limbs ys) := hly
  clear hn hly hq ho hk hl hy
  go_enter Tryz.func233, Tryz.ntmps233
  go_wp2
  go_loopw [5, 10] (fun c i wr => ∃ (j : Nat) (cc : Int) (os : List Int), j ≤ n ∧ i = .int .i64 j ∧ c = .int .u64 cc ∧ (0 ≤ cc ∧ cc ≤ 1) ∧ PartInv g k (o + n + 1) w zs (Nm.val zs + Nm.pw o * Nm.val (ys.take j)) (o + j) cc os wr) (fun _ i _ => n - (intOf i).toNat)
  case atStart => exact ⟨0, 0, zs, Nat.zero_le _, rfl, rfl, by omega, I0⟩
  case round =>
    clear I0
    obtain ⟨j, cc, os, hj, rfl, rfl, ⟨hcc0, hcc1⟩, I⟩ := hrel
    by_cases hlt : j < n
    · obtain ⟨x, hx, X⟩ : ∃ x, wr.cell? ⟨b, off + j, none⟩ = some (.int .u64 x) ∧ Hid (x = ys.getD j 0) :=
        ⟨_, (I.1.2.2.2.2.1.cell (p := ⟨b, off + j, none⟩) hbg).trans (HC.out j (by have := HM.out; omega)), rfl⟩
      obtain ⟨y, hyc, Y⟩ : ∃ y, wr.cell? ⟨g, o + j, none⟩ = some (.int .u64 y) ∧ Hid (y = os.getD (o + j) 0) := ⟨_, I.1.1.cell (o + j) (by have := I.1.2.1; omega), rfl⟩
      have hfr := I.1.1.free (o + j)
      have hx0 : 0 ≤ x ∧ x < 18446744073709551616 := by have := HY.out.at j; have := X.out; omega
      have hy0 : 0 ≤ y ∧ y < 18446744073709551616 := by have := I.1.2.2.1.at (o + j); have := Y.out; omega
      obtain ⟨hx0, hx1⟩ := hx0
      obtain ⟨hy0, hy1⟩ := hy0
      have hjn1 : (j : Int) < (n1 : Int) := by omega
      obtain ⟨s, S⟩ : ∃ s, Hid (s = (y + x + cc) % 18446744073709551616) := ⟨_, rfl⟩
      obtain ⟨c', C⟩ : ∃ c', Hid (c' = (y + x + cc) / 18446744073709551616) := ⟨_, rfl⟩
      have hs0 : 0 ≤ s ∧ s < 18446744073709551616 := by have := S.out; omega
      have hc0 : 0 ≤ c' ∧ c' ≤ 1 := by have := C.out; omega
      have SE : Hid (s + 18446744073709551616 * c' = y + x + cc) := by show _ = _; have := S.out; have := C.out; omega
      go_wp2_with (simp only [add64' y x cc s c' hy0 hx0 hcc0 hcc1 S.out C.out])
      go_roundw
      case rel =>
        have hst := I.step (by omega) (by omega) (x := x) (s := s) (c' := c') hs0 (by rw [← Y.out]; exact SE.out)
        refine ⟨j + 1, c', os.set (o + j) s, by omega, by go_num, rfl, hc0, ?_⟩
        have e : Nm.val zs + Nm.pw o * Nm.val (ys.take (j + 1)) = Nm.val zs + Nm.pw o * Nm.val (ys.take j) + Nm.pw (o + j) * x := by
          rw [Nm.val_take_succ ys j (by have := HM.out; omega), ← X.out, Nm.pw_add, Int.mul_add, Int.mul_assoc]
          omega
        rw [e]
        exact hst
      case measure => simp [intOf]; omega
    · have hjn : j = n := by omega
      subst hjn
      rw [List.take_of_length_le (by have := HM.out; omega)] at I
      obtain ⟨y, hyc, Y⟩ : ∃ y, wr.cell? ⟨g, o + j, none⟩ = some (.int .u64 y) ∧ Hid (y = os.getD (o + j) 0) := ⟨_, I.1.1.cell (o + j) (by have := I.1.2.1; omega), rfl⟩
      have hfr := I.1.1.free (o + j)
      have hy0 : 0 ≤ y ∧ y < 18446744073709551616 := by have := I.1.2.2.1.at (o + j); have := Y.out; omega
      obtain ⟨hy0, hy1⟩ := hy0
      obtain ⟨s, S⟩ : ∃ s, Hid (s = (y + 0 + cc) % 18446744073709551616) := ⟨_, rfl⟩
      obtain ⟨c', C⟩ : ∃ c', Hid (c' = (y + 0 + cc) / 18446744073709551616) := ⟨_, rfl⟩
      have hs0 : 0 ≤ s ∧ s < 18446744073709551616 := by have := S.out; omega
      have hc0 : 0 ≤ c' ∧ c' ≤ 1 := by have := C.out; omega
      have hst := I.step (by omega) (by omega) (x := 0) (s := s) (c' := c') hs0 (by rw [← Y.out]; have := S.out; have := C.out; omega)
      rw [Int.mul_zero, Int.add_zero] at hst
      have HS := hid hst
      clear hst I
      go_wp2_with (simp only [add64' y 0 cc s c' hy0 (Int.le_refl 0) hcc0 hcc1 S.out C.out])
      go_ret
      exact ⟨c', os.set (o + j) s, rfl, hc0, HS.out⟩
end Go.Proofs.YtdemopkdcnaibaaGreatDoor
