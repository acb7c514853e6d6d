/-
  IKinds, IWhole1 to IWhole4 in one text.
-/
import Derived.Test.YtpnjafacoeinnabDoorIDec
import Derived.Test.YtpnjafacoeinnabDoorINum2
import Derived.Test.YtpnjafacoeinnabDoorIRoom
import Derived.Test.YtpnjafacoeinnabDoorFromW
import Derived.Deep.RegionWith
import Derived.Test.YtpnjafacoeinnabDoorNToU
import Derived.BigQuiet
namespace Go.Proofs.YtpnjafacoeinnabDoor
open Go Go.RowKit Go.Deep

namespace Ie
theorem dec_kinds (d : Int) : ∀ r, d % 9223372036854775808 = r →
    (cls d = 0 ∧ dm d = 0 ∧ de d = 0 ∧ r = 0) ∨ (cls d = 1 ∧ dm d = r ∧ de d = -1074 ∧ 0 < r ∧ r < 4503599627370496) ∨ (cls d = 2 ∧ dm d = man r ∧ de d = (ex r : Int) - 1074 ∧ 4503599627370496 ≤ r ∧ r < 9218868437227405312) ∨
    (cls d = 3 ∧ dm d = 0 ∧ de d = 0 ∧ r = 9218868437227405312) ∨ (cls d = 4 ∧ dm d = r - 9218868437227405312 ∧ de d = 0 ∧ 9218868437227405312 < r ∧ r < 9223372036854775808) := by
  intro r hr
  have hf : fld d = r / 4503599627370496 := by simp only [fld]; omega
  have hy : d % 4503599627370496 = r % 4503599627370496 := by omega
  have hm : dm d = if cls d = 2 then 4503599627370496 + r % 4503599627370496 else if cls d = 1 ∨ cls d = 4 then r % 4503599627370496 else 0 := by rw [dm, hy]
  have he : de d = if cls d = 2 then r / 4503599627370496 - 1075 else if cls d = 1 then -1074 else 0 := by rw [de, hf]
  have hc : cls d = if r / 4503599627370496 = 0 then (if r % 4503599627370496 = 0 then 0 else 1) else if r / 4503599627370496 = 2047 then (if r % 4503599627370496 = 0 then 3 else 4) else 2 := by rw [cls, hf, hy]
  by_cases a : r / 4503599627370496 = 0
  · by_cases b : r % 4503599627370496 = 0
    · rw [if_pos a, if_pos b] at hc
      left; rw [hm, he, hc]; exact ⟨rfl, rfl, rfl, by omega⟩
    · rw [if_pos a, if_neg b] at hc
      right; left; rw [hm, he, hc]; exact ⟨rfl, show r % 4503599627370496 = r by omega, rfl, by omega, by omega⟩
  · by_cases a2 : r / 4503599627370496 = 2047
    · by_cases b : r % 4503599627370496 = 0
      · rw [if_neg a, if_pos a2, if_pos b] at hc
        right; right; right; left; rw [hm, he, hc]; exact ⟨rfl, rfl, rfl, by omega⟩
      · rw [if_neg a, if_pos a2, if_neg b] at hc
        right; right; right; right; rw [hm, he, hc]; exact ⟨rfl, show r % 4503599627370496 = _ by omega, rfl, by omega, by omega⟩
    · rw [if_neg a, if_neg a2] at hc
      right; right; left; rw [hm, he, hc]
      refine ⟨rfl, ?_, ?_, by omega, by omega⟩
      · show 4503599627370496 + r % 4503599627370496 = man r
        rw [man, if_neg (by omega)]
      · show r / 4503599627370496 - 1075 = (ex r : Int) - 1074
        rw [ex]; omega
end Ie

namespace Ie
/-- The whole part of a finite double's value. -/
def whp (r : Int) : Int := vl r / 2 ^ 1075

theorem whp_low (r : Int) (k : Nat) (h : (ex r : Int) + k = 1074) : whp r = man r / 2 ^ k := by
  have e1 : vl r = man r * 2 ^ (ex r + 1) := by rw [vl, Nm.two_succ]; ac_rfl
  have e2 : (2 : Int) ^ 1075 = 2 ^ k * 2 ^ (ex r + 1) := by rw [← Nm.two_add]; congr 1; omega
  rw [whp, e1, e2, Int.mul_ediv_mul_of_pos_left _ _ (Nm.two_pos _)]

theorem whp_high (r : Int) (k : Nat) (h : (ex r : Int) = 1074 + k) : whp r = man r * 2 ^ k ∧ vl r = whp r * 2 ^ 1075 := by
  have e1 : vl r = man r * 2 ^ k * 2 ^ 1075 := by
    have e0 : (2 : Int) ^ 1075 = 2 * 2 ^ 1074 := Nm.two_succ 1074
    rw [vl, show ex r = k + 1074 by omega, Nm.two_add, e0]
    generalize (2 : Int) ^ 1074 = P
    generalize (2 : Int) ^ k = Q
    ac_rfl
  have e2 : whp r = man r * 2 ^ k := by rw [whp, e1, Int.mul_ediv_cancel _ (by have := Nm.two_pos 1075; omega)]
  exact ⟨e2, by rw [e2]; exact e1⟩

theorem whp_zero : whp 0 = 0 := by rw [whp, vl_zero, Int.zero_ediv]

theorem shr_min (m : Int) (k : Nat) (h0 : 0 ≤ m) (h1 : m < 9007199254740992) : m / 2 ^ min k 64 = m / 2 ^ k := by
  rcases Nat.le_total k 64 with h | h
  · rw [Nat.min_eq_left h]
  · rw [Nat.min_eq_right h]
    have e53 : (2 : Int) ^ 53 = 9007199254740992 := by decide
    have g1 := Nm.two_mono (show 53 ≤ k by omega)
    have g2 := Nm.two_mono (show 53 ≤ 64 by omega)
    rw [Int.ediv_eq_zero_of_lt h0 (by omega), Int.ediv_eq_zero_of_lt h0 (by omega)]
end Ie
end Go.Proofs.YtpnjafacoeinnabDoor

namespace Go.Proofs.YtpnjafacoeinnabDoor
open Go Go.RowKit Go.Deep

set_option maxRecDepth 100000 in
theorem finite_any (d : Int) (w : World) (h0 : 0 ≤ d) (h1 : d < 18446744073709551616) :
    Calls Tryd.prog 39 #[.int .u64 d] w fun e w' => e = .returned (.bool (decide (d % 9223372036854775808 < 9218868437227405312))) ∧ w' = w := by
  have F := hid (field_any d w h0 h1)
  have fe : Ie.fld d = d % 9223372036854775808 / 4503599627370496 := by simp only [Ie.fld]; omega
  obtain ⟨f, hf⟩ : ∃ f, Ie.fld d = f := ⟨_, rfl⟩
  rw [hf] at F
  by_cases hc : f = 2047
  · have E : Hid (decide (d % 9223372036854775808 < 9218868437227405312) = false) := by rw [Hid, decide_eq_false_iff_not]; omega
    subst hc
    clear hf fe
    go_enter Tryd.func39, Tryd.ntmps39
    go_wp2_with fail
    refine F.out.mono ?_
    rintro e w' ⟨rfl, rfl⟩
    go_wp2_with fail
    go_ret
    exact ⟨by rw [E.out]; rfl, rfl⟩
  · have E : Hid (decide (d % 9223372036854775808 < 9218868437227405312) = true) := by rw [Hid, decide_eq_true_iff]; omega
    have hc' : (f == 2047) = false := by rw [beq_eq_false_iff_ne]; exact hc
    clear hf fe
    go_enter Tryd.func39, Tryd.ntmps39
    go_wp2_with fail
    refine F.out.mono ?_
    rintro e w' ⟨rfl, rfl⟩
    go_wp2_with fail
    go_ret
    exact ⟨by rw [E.out]; simp [hc], rfl⟩

set_option maxRecDepth 100000 in
theorem fromU_any (u : Int) (w : World) (hT : Tab w) (h0 : 0 ≤ u) (h1 : u < 18446744073709551616) :
    Calls Tryd.prog 17 #[.int .u64 u] w fun e w' => ∃ x, e = .returned (.int .u64 x) ∧ Ie.Rnd u 1 0 false x ∧ Below w.heap.size w w' := by
  have F := hid (fromUint_any u w h0 h1)
  have HT := hid hT
  have hp : Hid (u < Nm.pw 1) := h1
  clear hT
  go_enter Tryd.func17, Tryd.ntmps17
  go_wp2_with fail
  refine F.out.mono ?_
  rintro e w1 ⟨r, os, rfl, A, hB⟩
  have l1 := ans_small A 1 hp.out
  have N := hid (nearest_any r _ _ os w1 (A.arg (by omega)) (HT.out.below hB) (by rw [A.2.2.1]; omega) u 0 false A.2.2.2.1 (by omega) (by omega))
  have HB := hid hB
  clear A l1 hB F HT
  go_wp2_with fail
  refine N.out.mono ?_
  rintro e w2 ⟨x, rfl, R, hB2⟩
  have RR := hid R
  have HB2 := hid (HB.out.trans (hB2.mono HB.out.size))
  clear R hB2
  go_wp2_with fail
  go_ret
  exact ⟨x, rfl, RR.out, HB2.out⟩

set_option maxRecDepth 100000 in
theorem fromI_nn (i : Int) (w : World) (hT : Tab w) (h0 : 0 ≤ i) (h1 : i ≤ 9223372036854775807) :
    Calls Tryd.prog 15 #[.int .i64 i] w fun e w' => ∃ x, e = .returned (.int .u64 x) ∧ Ie.Rnd i 1 0 false x ∧ Below w.heap.size w w' := by
  have F := hid (fromU_any i w hT h0 (by omega))
  clear hT
  go_enter Tryd.func15, Tryd.ntmps15
  go_wp2_with fail
  refine F.out.mono ?_
  rintro e w1 ⟨x, rfl, R, hB⟩
  have K := hid (And.intro R hB)
  clear R hB
  go_wp2_with fail
  go_ret
  exact ⟨x, rfl, K.out⟩

set_option maxRecDepth 100000 in
theorem fromI_ng (i : Int) (w : World) (hT : Tab w) (h0 : i < 0) (h1 : -9223372036854775808 ≤ i) :
    Calls Tryd.prog 15 #[.int .i64 i] w fun e w' => ∃ x, e = .returned (.int .u64 (x + 9223372036854775808)) ∧ Ie.Rnd (-i) 1 0 false x ∧ Below w.heap.size w w' := by
  have F := hid (fun (u : Int) (hu : u = -i) => fromU_any u w hT (by omega) (by omega))
  have W1 : IntKind.u64.wrap i = i + 18446744073709551616 := by rw [IntKind.wrap_u64]; omega
  have W2 : IntKind.u64.wrap (-(i + 18446744073709551616)) = -i := by rw [IntKind.wrap_u64]; omega
  clear hT
  go_enter Tryd.func15, Tryd.ntmps15
  go_wp2_with fail
  refine (F.out _ (by omega)).mono ?_
  rintro e w1 ⟨x, rfl, R, hB⟩
  have b := R.bd
  have N : Hid (Calls Tryd.prog 38 #[.int .u64 x] w1 fun e w' => e = .returned (.int .u64 (x + 9223372036854775808)) ∧ w' = w1) := by
    have := neg_any x w1 b.1 (by omega)
    rw [Ie.ng, if_pos (by omega)] at this
    exact this
  have K := hid (And.intro R hB)
  clear R hB b F
  go_wp2_with fail
  refine N.out.mono ?_
  rintro e w2 ⟨rfl, rfl⟩
  go_wp2_with fail
  go_ret
  refine ⟨x, rfl, ?_⟩
  exact K.out
end Go.Proofs.YtpnjafacoeinnabDoor

namespace Go.Proofs.YtpnjafacoeinnabDoor
open Go Go.RowKit Go.Deep

/-- What Whole tells of a finite double. -/
def WholeTold (d : Int) (w : World) (e : Ending) (w' : World) : Prop :=
  ∃ r os, e = .returned (.tuple #[.bool (decide (9223372036854775808 ≤ d)), .slice r (List.length os) (List.length os), .int .i64 0]) ∧ Ans w.heap.size w' r os (Ie.whp (d % 9223372036854775808)) ∧ Below w.heap.size w w'

theorem below_drew1 {B : Nat} {w w' : World} (h : Below B w w') : Below B w w'.drew := ⟨h.os, h.tape, h.output, h.size, h.block⟩

set_option maxRecDepth 100000 in
theorem whole_inf (d : Int) (w : World) (h0 : 0 ≤ d) (h1 : d < 18446744073709551616) (hr : 9218868437227405312 ≤ d % 9223372036854775808) :
    Calls Tryd.prog 18 #[.int .u64 d] w fun e w' => e = .returned (.tuple #[.bool false, .slice none 0 0, .int .i64 5]) ∧ w' = w := by
  have F := finite_any d w h0 h1
  rw [decide_eq_false (by omega)] at F
  have F := hid F
  go_enter Tryd.func18, Tryd.ntmps18
  go_wp2_with fail
  refine F.out.mono ?_
  rintro e w' ⟨rfl, rfl⟩
  go_wp2_with fail
  go_ret3
  exact ⟨rfl, rfl⟩

set_option maxRecDepth 100000 in
set_option maxHeartbeats 4000000 in
theorem whole_low (d : Int) (w : World) (h0 : 0 ≤ d) (h1 : d < 18446744073709551616) (r m : Int) (c : Int) (k : Nat) (hr : d % 9223372036854775808 = r) (hf : r < 9218868437227405312) (hc : Ie.cls d = c) (hm : Ie.dm d = m) (he : Ie.de d = -(k : Int)) (hk : 0 < k) (hk2 : k ≤ 1074) (mb : 0 ≤ m ∧ m < 9007199254740992) (hw : Ie.whp r = m / 2 ^ k) :
    Calls Tryd.prog 18 #[.int .u64 d] w fun e w' => WholeTold d w e w' := by
  have F := finite_any d w h0 h1
  rw [decide_eq_true (by omega)] at F
  have F := hid F
  have D := hid (decode_any d w h0 h1)
  rw [hc, hm, he] at D
  simp only [partsOf] at D
  obtain ⟨neg, hneg⟩ : ∃ neg, decide (9223372036854775808 ≤ d) = neg := ⟨_, rfl⟩
  rw [hneg] at D
  have q0 : 0 ≤ m / 2 ^ k := Int.ediv_nonneg mb.1 (by have := Nm.two_pos k; omega)
  have q1 : m / 2 ^ k ≤ m := Int.ediv_le_self _ mb.1
  have FU : Hid (∀ (wx : World) (u : Int), u = m / 2 ^ k → Calls Tryd.prog 41 #[.int .u64 u] wx fun e w' => ∃ r os, e = .returned (.slice r (List.length os) (List.length os)) ∧ Ans wx.heap.size w' r os (m / 2 ^ k) ∧ Below wx.heap.size wx w') := by
    intro wx u hu
    subst hu
    exact fromUint_any (m / 2 ^ k) wx q0 (by omega)
  have SM := Ie.shr_min m k mb.1 mb.2
  have WT : Hid (∀ (w2 : World) (p : Option Addr) (os : List Int) (B : Nat), w.heap.size ≤ B → Ans B w2 p os (m / 2 ^ k) → Below w.heap.size w w2 → WholeTold d w (.returned (.tuple #[.bool neg, .slice p (List.length os) (List.length os), .int .i64 0])) w2) := by
    intro w2 p os B hB A hb
    refine ⟨p, os, by rw [hneg], ?_, hb⟩
    rw [hr, hw]
    exact ⟨A.1, A.2.1, A.2.2.1, A.2.2.2.1, fun a h => by have := A.2.2.2.2 a h; omega⟩
  have WK : IntKind.i64.wrap (k : Int) = (k : Int) := by rw [IntKind.wrap_i64]; omega
  have k1 : -(k : Int) < 0 := by omega
  have k2 : (k : Int) ≤ 1074 := by omega
  obtain ⟨mb0, mb1⟩ := mb
  clear hneg hr hf hc hm he hw q0 q1
  go_enter Tryd.func18, Tryd.ntmps18
  go_wp2_with fail
  refine F.out.mono ?_
  rintro e w ⟨rfl, rfl⟩
  go_wp2_with fail
  refine D.out.mono ?_
  rintro e w1 ⟨rfl, hB⟩
  have HB := hid hB
  clear hB F D
  go_wp2_with fail
  have HB1 := hid (Below.alloc HB.out HB.out.size (.cells #[.bool neg, .int .i64 c, .int .u64 m, .int .i64 (-(k : Int))] 51))
  have hg := heap_alloc_new w1 (.cells #[.bool neg, .int .i64 c, .int .u64 m, .int .i64 (-(k : Int))] 51)
  have p0 : (w1.alloc (.cells #[.bool neg, .int .i64 c, .int .u64 m, .int .i64 (-(k : Int))] 51)).cell? ⟨w1.heap.size, 0, none⟩ = some (.bool neg) := by simp only [World.cell?, hg]; rfl
  have p2 : (w1.alloc (.cells #[.bool neg, .int .i64 c, .int .u64 m, .int .i64 (-(k : Int))] 51)).cell? ⟨w1.heap.size, 2, none⟩ = some (.int .u64 m) := by simp only [World.cell?, hg]; rfl
  have p3 : (w1.alloc (.cells #[.bool neg, .int .i64 c, .int .u64 m, .int .i64 (-(k : Int))] 51)).cell? ⟨w1.heap.size, 3, none⟩ = some (.int .i64 (-(k : Int))) := by simp only [World.cell?, hg]; rfl
  clear hg
  generalize w1.alloc (.cells #[.bool neg, .int .i64 c, .int .u64 m, .int .i64 (-(k : Int))] 51) = wA at *
  have CA : Hid (∀ wx w2 : World, wx.heap = wA.heap → Below w.heap.size w wx → Below wx.heap.size wx w2 → Below w.heap.size w w2 ∧ w2.cell? ⟨w1.heap.size, 0, none⟩ = some (.bool neg)) := by
    intro wx w2 hh hw hB2
    have lt : w1.heap.size < wx.heap.size := by rw [hh]; exact cell_lt p0
    have eq : wx.cell? ⟨w1.heap.size, 0, none⟩ = wA.cell? ⟨w1.heap.size, 0, none⟩ := World.cell?_of_block (by rw [hh])
    exact ⟨hw.trans (hB2.mono hw.size), by rw [hB2.cell (p := ⟨w1.heap.size, 0, none⟩) lt, eq]; exact p0⟩
  have HS := hid (show w.heap.size ≤ wA.heap.size from HB1.out.size)
  go_region_with (go_at_call 41; refine (FU.out _ _ ?_).mono ?_; (first | omega | (simp only [SM] <;> fail) | trace_state); rintro e w2 ⟨p, os, rfl, A, hB2⟩; obtain ⟨hB3, k0⟩ := CA.out wA.drew w2 rfl (below_drew1 HB1.out) hB2; have KK := hid (WT.out w2 p os _ HS.out A hB3); clear A hB2 hB3)
  all_goals (go_wp2_with fail; go_ret3; exact KK.out)
set_option maxRecDepth 100000 in
set_option maxHeartbeats 4000000 in
theorem whole_high (d : Int) (w : World) (h0 : 0 ≤ d) (h1 : d < 18446744073709551616) (r m : Int) (c : Int) (k : Nat) (hr : d % 9223372036854775808 = r) (hf : r < 9218868437227405312) (hc : Ie.cls d = c) (hm : Ie.dm d = m) (he : Ie.de d = (k : Int)) (hk2 : k ≤ 971) (mb : 0 ≤ m ∧ m < 9007199254740992) (hw : Ie.whp r = m * 2 ^ k) :
    Calls Tryd.prog 18 #[.int .u64 d] w fun e w' => WholeTold d w e w' := by
  have F := finite_any d w h0 h1
  rw [decide_eq_true (by omega)] at F
  have F := hid F
  have D := hid (decode_any d w h0 h1)
  rw [hc, hm, he] at D
  simp only [partsOf] at D
  obtain ⟨neg, hneg⟩ : ∃ neg, decide (9223372036854775808 ≤ d) = neg := ⟨_, rfl⟩
  rw [hneg] at D
  have FU : Hid (∀ wx : World, Calls Tryd.prog 41 #[.int .u64 m] wx fun e w' => ∃ r os, e = .returned (.slice r (List.length os) (List.length os)) ∧ Ans wx.heap.size w' r os m ∧ Below wx.heap.size wx w') := by
    intro wx
    exact fromUint_any m wx mb.1 (by omega)
  have mp : m < Nm.pw 1 := by have : Nm.pw 1 = 18446744073709551616 := rfl; omega
  have rm := shl_room (t := k) mp (by omega)
  have SL : Hid (∀ (wx : World) (p : Option Addr) (os : List Int) (B : Nat), Ans B wx p os m → Calls Tryd.prog 8 #[.slice p os.length os.length, .int .i64 (k : Int)] wx fun e w' => ∃ r os, e = .returned (.tuple #[.slice r (List.length os) (List.length os), .int .i64 0]) ∧ Ans wx.heap.size w' r os (m * 2 ^ k) ∧ Below wx.heap.size wx w') := by
    intro wx p os B A
    have l1 := ans_small A 1 mp
    have := shl_any p _ _ os (k : Int) k wx (A.arg (by omega)) (by rw [A.2.2.1]; omega) rfl (by rw [A.2.2.2.1]; exact rm)
    rw [A.2.2.2.1] at this
    exact this
  have WT : Hid (∀ (w2 : World) (p : Option Addr) (os : List Int) (B : Nat), w.heap.size ≤ B → Ans B w2 p os (m * 2 ^ k) → Below w.heap.size w w2 → WholeTold d w (.returned (.tuple #[.bool neg, .slice p (List.length os) (List.length os), .int .i64 0])) w2) := by
    intro w2 p os B hB A hb
    refine ⟨p, os, by rw [hneg], ?_, hb⟩
    rw [hr, hw]
    exact ⟨A.1, A.2.1, A.2.2.1, A.2.2.2.1, fun a h => by have := A.2.2.2.2 a h; omega⟩
  have k1 : ¬ (k : Int) < 0 := by omega
  have k2 : (k : Int) ≤ 971 := by omega
  obtain ⟨mb0, mb1⟩ := mb
  clear hneg hr hf hc hm he hw mp rm
  go_enter Tryd.func18, Tryd.ntmps18
  go_wp2_with fail
  refine F.out.mono ?_
  rintro e w ⟨rfl, rfl⟩
  go_wp2_with fail
  refine D.out.mono ?_
  rintro e w1 ⟨rfl, hB⟩
  have HB := hid hB
  clear hB F D
  go_wp2_with fail
  have HB1 := hid (Below.alloc HB.out HB.out.size (.cells #[.bool neg, .int .i64 c, .int .u64 m, .int .i64 (k : Int)] 51))
  have hg := heap_alloc_new w1 (.cells #[.bool neg, .int .i64 c, .int .u64 m, .int .i64 (k : Int)] 51)
  have p0 : (w1.alloc (.cells #[.bool neg, .int .i64 c, .int .u64 m, .int .i64 (k : Int)] 51)).cell? ⟨w1.heap.size, 0, none⟩ = some (.bool neg) := by simp only [World.cell?, hg]; rfl
  have p2 : (w1.alloc (.cells #[.bool neg, .int .i64 c, .int .u64 m, .int .i64 (k : Int)] 51)).cell? ⟨w1.heap.size, 2, none⟩ = some (.int .u64 m) := by simp only [World.cell?, hg]; rfl
  have p3 : (w1.alloc (.cells #[.bool neg, .int .i64 c, .int .u64 m, .int .i64 (k : Int)] 51)).cell? ⟨w1.heap.size, 3, none⟩ = some (.int .i64 (k : Int)) := by simp only [World.cell?, hg]; rfl
  clear hg
  generalize w1.alloc (.cells #[.bool neg, .int .i64 c, .int .u64 m, .int .i64 (k : Int)] 51) = wA at *
  have CA : Hid (∀ wx w2 : World, wx.heap = wA.heap → Below w.heap.size w wx → Below wx.heap.size wx w2 → Below w.heap.size w w2 ∧ w2.cell? ⟨w1.heap.size, 0, none⟩ = some (.bool neg) ∧ w2.cell? ⟨w1.heap.size, 3, none⟩ = some (.int .i64 (k : Int))) := by
    intro wx w2 hh hw hB2
    have lt : w1.heap.size < wx.heap.size := by rw [hh]; exact cell_lt p0
    have eq : ∀ o, wx.cell? ⟨w1.heap.size, o, none⟩ = wA.cell? ⟨w1.heap.size, o, none⟩ := fun o => World.cell?_of_block (by rw [hh])
    exact ⟨hw.trans (hB2.mono hw.size), by rw [hB2.cell (p := ⟨w1.heap.size, 0, none⟩) lt, eq]; exact p0, by rw [hB2.cell (p := ⟨w1.heap.size, 3, none⟩) lt, eq]; exact p3⟩
  have HS := hid (show w.heap.size ≤ wA.heap.size from HB1.out.size)
  go_region_with (first | (go_at_call 41; refine (FU.out _).mono ?_; rintro e w2 ⟨p, os, rfl, A, hB2⟩; obtain ⟨hB3, k0, k3⟩ := CA.out wA.drew w2 rfl (below_drew1 HB1.out) hB2; have SS := hid (SL.out w2 p os _ A); have HH := hid hB3; have HZ := hid (Nat.lt_of_lt_of_le (cell_lt k0) (Nat.le_refl _)); have K0 := hid k0; clear A hB2 hB3) | (go_at_call 8; refine SS.out.mono ?_; rintro e w3 ⟨p', os', rfl, A, hB4⟩; have z0 : w3.cell? ⟨w1.heap.size, 0, none⟩ = some (.bool neg) := (hB4.cell (p := ⟨w1.heap.size, 0, none⟩) (cell_lt K0.out)).trans K0.out; have KK := hid (WT.out w3 p' os' _ HH.out.size A (HH.out.trans (hB4.mono HH.out.size))); clear A hB4))
  all_goals (go_wp2_with fail; go_ret3; exact KK.out)

/-- Whole of a finite double. -/
theorem whole_fin (d : Int) (w : World) (h0 : 0 ≤ d) (h1 : d < 18446744073709551616) (hf : d % 9223372036854775808 < 9218868437227405312) :
    Calls Tryd.prog 18 #[.int .u64 d] w fun e w' => WholeTold d w e w' := by
  rcases Ie.dec_kinds d _ rfl with ⟨c, m, x, k1⟩ | ⟨c, m, x, k1, k2⟩ | ⟨c, m, x, k1, k2⟩ | ⟨c, m, x, k1⟩ | ⟨c, m, x, k1, k2⟩
  · exact whole_high d w h0 h1 _ 0 _ 0 rfl hf c m x (by omega) (by omega) (by rw [k1, Ie.whp_zero]; rfl)
  · have e0 : Ie.ex (d % 9223372036854775808) = 0 := by rw [Ie.ex]; omega
    have m0 : Ie.man (d % 9223372036854775808) = d % 9223372036854775808 := by rw [Ie.man, if_pos k2]
    exact whole_low d w h0 h1 _ _ _ 1074 rfl hf c m x (by omega) (by omega) (by omega) (by rw [Ie.whp_low _ 1074 (by omega), m0])
  · have mb := Ie.man_nn (d % 9223372036854775808) (by omega)
    have eb : (Ie.ex (d % 9223372036854775808) : Int) ≤ 2045 := by simp only [Ie.ex]; omega
    rcases (show (Ie.ex (d % 9223372036854775808) : Int) < 1074 ∨ 1074 ≤ (Ie.ex (d % 9223372036854775808) : Int) by omega) with h | h
    · obtain ⟨k, hk⟩ : ∃ k : Nat, (Ie.ex (d % 9223372036854775808) : Int) + k = 1074 := ⟨(1074 - (Ie.ex (d % 9223372036854775808) : Int)).toNat, by omega⟩
      exact whole_low d w h0 h1 _ _ _ k rfl hf c m (by rw [x]; omega) (by omega) (by omega) mb (Ie.whp_low _ k hk)
    · obtain ⟨k, hk⟩ : ∃ k : Nat, (Ie.ex (d % 9223372036854775808) : Int) = 1074 + k := ⟨((Ie.ex (d % 9223372036854775808) : Int) - 1074).toNat, by omega⟩
      exact whole_high d w h0 h1 _ _ _ k rfl hf c m (by rw [x]; omega) (by omega) mb (Ie.whp_high _ k hk).1
  · omega
  · omega
end Go.Proofs.YtpnjafacoeinnabDoor

namespace Go.Proofs.YtpnjafacoeinnabDoor
open Go Go.RowKit Go.Deep

theorem tz_is (x : Int) (n : Nat) (w : World) (hx : x = (n : Int)) (h1 : x < 18446744073709551616) (hT : Tab w) :
    Calls Tryd.prog 40 #[.int .u64 x] w fun e w' => e = .returned (.int .i64 (Lib.ctz 64 n)) ∧ w' = w := by
  subst hx
  exact Any7.bits_TrailingZeros64 tzLays n (by omega) w (fun _ => hT)

theorem ctz_int (n q t : Nat) (h : n = 2 ^ t * (2 * q + 1)) : (n : Int) = 2 ^ t * (2 * (q : Int) + 1) := by
  have e : ((2 ^ t * (2 * q + 1) : Nat) : Int) = 2 ^ t * (2 * (q : Int) + 1) := by simp
  rw [← e, ← h]

theorem tab_drewN {w : World} (h : Tab w) (n : Nat) : Tab (w.drewN n) := h.below (below_drewN (Below.refl _ _) n)

namespace Ie
/-- Whether it is a whole number. -/
def intg (d : Int) : Bool := decide (d % 9223372036854775808 < 9218868437227405312 ∧ vl (d % 9223372036854775808) = whp (d % 9223372036854775808) * 2 ^ 1075)

theorem intg_iff (r m q : Int) (t : Nat) (hm : man r = m) (h : m = 2 ^ t * (2 * q + 1)) : (vl r = whp r * 2 ^ 1075) ↔ 0 ≤ (ex r : Int) - 1074 + t := by
  have e1 : vl r = (2 * q + 1) * 2 ^ (t + ex r + 1) := by
    rw [vl, hm, h, Nm.two_succ, Nm.two_add]; ac_rfl
  constructor
  · intro he
    rcases (show 0 ≤ (ex r : Int) - 1074 + t ∨ t + ex r + 1 < 1075 by omega) with g | g
    · exact g
    · exfalso
      obtain ⟨s, hs⟩ : ∃ s, 1075 = (s + 1) + (t + ex r + 1) := ⟨1075 - (t + ex r + 1) - 1, by omega⟩
      rw [e1, hs, Nm.two_add (s + 1), ← Int.mul_assoc] at he
      have := Int.eq_of_mul_eq_mul_right (by have := Nm.two_pos (t + ex r + 1); omega) he
      exact Nm.odd_unique (this.trans (Int.mul_comm _ _))
  · intro g
    obtain ⟨s, hs⟩ : ∃ s, t + ex r + 1 = s + 1075 := ⟨t + ex r + 1 - 1075, by omega⟩
    rw [hs, Nm.two_add, ← Int.mul_assoc] at e1
    rw [whp, e1, Int.mul_ediv_cancel _ (by have := Nm.two_pos 1075; omega)]
end Ie

set_option maxRecDepth 100000 in
set_option maxHeartbeats 4000000 in
theorem integral_inf (d : Int) (w : World) (h0 : 0 ≤ d) (h1 : d < 18446744073709551616) (hr : 9218868437227405312 ≤ d % 9223372036854775808) :
    Calls Tryd.prog 16 #[.int .u64 d] w fun e w' => e = .returned (.bool false) ∧ Below w.heap.size w w' := by
  have F : Hid (∀ wx : World, Calls Tryd.prog 39 #[.int .u64 d] wx fun e w' => e = .returned (.bool false) ∧ w' = wx) := by
    intro wx
    have := finite_any d wx h0 h1
    rw [decide_eq_false (by omega)] at this
    exact this
  have D := hid (decode_any d w h0 h1)
  generalize decide (9223372036854775808 ≤ d) = neg at D
  generalize Ie.cls d = c at D
  generalize Ie.dm d = m at D
  generalize Ie.de d = x at D
  simp only [partsOf] at D
  clear hr
  go_enter Tryd.func16, Tryd.ntmps16
  go_wp2_with fail
  refine D.out.mono ?_
  rintro e w1 ⟨rfl, hB⟩
  have HB := hid hB
  clear hB D
  go_wp2_with fail
  have HB1 := hid (Below.alloc HB.out HB.out.size (.cells #[.bool neg, .int .i64 c, .int .u64 m, .int .i64 x] 51))
  generalize w1.alloc (.cells #[.bool neg, .int .i64 c, .int .u64 m, .int .i64 x] 51) = wA at *
  go_quiet ((go_at_call 39; with_reducible exact Calls.quiet_of_same (F.out _)))
  go_wp2_with fail
  go_ret
  exact ⟨rfl, below_drewN HB1.out _⟩

set_option maxRecDepth 100000 in
set_option maxHeartbeats 4000000 in
theorem integral_fin (d : Int) (w : World) (hT : Tab w) (h0 : 0 ≤ d) (h1 : d < 18446744073709551616) (hr : d % 9223372036854775808 < 9218868437227405312) (t : Nat) (ht : t ≤ 64) (m x : Int) (hm : Ie.dm d = m) (hx : Ie.de d = x) (hxb : -1074 ≤ x ∧ x ≤ 971) (hmb : 0 ≤ m ∧ m < 18446744073709551616) (hct : Lib.ctz 64 m.toNat = t) :
    Calls Tryd.prog 16 #[.int .u64 d] w fun e w' => e = .returned (.bool (decide (0 ≤ x + t))) ∧ Below w.heap.size w w' := by
  have F : Hid (∀ wx : World, Calls Tryd.prog 39 #[.int .u64 d] wx fun e w' => e = .returned (.bool true) ∧ w' = wx) := by
    intro wx
    have := finite_any d wx h0 h1
    rw [decide_eq_true hr] at this
    exact this
  have Z : Hid (∀ wx : World, Tab wx → Calls Tryd.prog 40 #[.int .u64 m] wx fun e w' => e = .returned (.int .i64 (t : Int)) ∧ w' = wx) := by
    intro wx hx
    have := tz_is m m.toNat wx (by omega) hmb.2 hx
    rw [hct] at this
    exact this
  have D := hid (decode_any d w h0 h1)
  rw [hm, hx] at D
  generalize decide (9223372036854775808 ≤ d) = neg at D
  generalize Ie.cls d = c at D
  simp only [partsOf] at D
  obtain ⟨x0, x1⟩ := hxb
  have t1 : (t : Int) ≤ 64 := by omega
  have HT := hid hT
  clear hr hm hx hmb hct hT ht
  go_enter Tryd.func16, Tryd.ntmps16
  go_wp2_with fail
  refine D.out.mono ?_
  rintro e w1 ⟨rfl, hB⟩
  have HB := hid hB
  clear hB D
  go_wp2_with fail
  have HB1 := hid (Below.alloc HB.out HB.out.size (.cells #[.bool neg, .int .i64 c, .int .u64 m, .int .i64 x] 51))
  have hg := heap_alloc_new w1 (.cells #[.bool neg, .int .i64 c, .int .u64 m, .int .i64 x] 51)
  have p2 : (w1.alloc (.cells #[.bool neg, .int .i64 c, .int .u64 m, .int .i64 x] 51)).cell? ⟨w1.heap.size, 2, none⟩ = some (.int .u64 m) := by simp only [World.cell?, hg]; rfl
  have p3 : (w1.alloc (.cells #[.bool neg, .int .i64 c, .int .u64 m, .int .i64 x] 51)).cell? ⟨w1.heap.size, 3, none⟩ = some (.int .i64 x) := by simp only [World.cell?, hg]; rfl
  clear hg
  generalize w1.alloc (.cells #[.bool neg, .int .i64 c, .int .u64 m, .int .i64 x] 51) = wA at *
  have TA := HT.out.below HB1.out
  have ZZ := hid (fun (n : Nat) => Z.out (wA.drewN n) (tab_drewN TA n))
  clear TA
  go_quiet ((first | (go_at_call 39; with_reducible exact Calls.quiet_of_same (F.out _)) | (go_at_call 40; with_reducible exact Calls.quiet_of_same (ZZ.out _))))
  go_wp2_with fail
  go_ret
  exact ⟨by simp, below_drewN HB1.out _⟩

/-- Integral. -/
theorem integral_any (d : Int) (w : World) (hT : Tab w) (h0 : 0 ≤ d) (h1 : d < 18446744073709551616) :
    Calls Tryd.prog 16 #[.int .u64 d] w fun e w' => e = .returned (.bool (Ie.intg d)) ∧ Below w.heap.size w w' := by
  by_cases hf : d % 9223372036854775808 < 9218868437227405312
  · have key : ∀ b : Bool, (b = true ↔ Ie.vl (d % 9223372036854775808) = Ie.whp (d % 9223372036854775808) * 2 ^ 1075) → Ie.intg d = b := by
      intro b hb
      rw [Ie.intg]
      cases b
      · rw [decide_eq_false_iff_not]; intro hh; have := hb.2 hh.2; cases this
      · rw [decide_eq_true_iff]; exact ⟨hf, hb.1 rfl⟩
    rcases Ie.dec_kinds d _ rfl with ⟨c, m, x, k1⟩ | ⟨c, m, x, k1, k2⟩ | ⟨c, m, x, k1, k2⟩ | ⟨c, m, x, k1⟩ | ⟨c, m, x, k1, k2⟩
    · have := integral_fin d w hT h0 h1 hf 64 (by omega) 0 0 m x (by omega) (by omega) rfl
      rw [key true ⟨fun _ => by rw [k1, Ie.vl_zero, Ie.whp_zero, Int.zero_mul], fun _ => rfl⟩]
      exact this
    · have e0 : Ie.ex (d % 9223372036854775808) = 0 := by rw [Ie.ex]; omega
      have m0 : Ie.man (d % 9223372036854775808) = d % 9223372036854775808 := by rw [Ie.man, if_pos k2]
      obtain ⟨n, hn⟩ := Int.eq_ofNat_of_zero_le (show 0 ≤ d % 9223372036854775808 by omega)
      obtain ⟨q, hq, hlt⟩ := Lib.ctzFrom_spec 64 n (by omega) (by simpa using (show n < 18446744073709551616 by omega))
      have hc : Lib.ctz 64 (d % 9223372036854775808).toNat = Lib.ctzFrom 64 n := by rw [hn, Int.toNat_natCast, Lib.ctz, if_neg (by omega)]
      have hi := Ie.intg_iff (d % 9223372036854775808) (d % 9223372036854775808) (q : Int) (Lib.ctzFrom 64 n) m0 (by rw [hn]; exact ctz_int n q _ hq)
      have := integral_fin d w hT h0 h1 hf _ (by omega) _ _ m x (by omega) (by omega) hc
      rw [key (decide (0 ≤ (-1074 : Int) + (Lib.ctzFrom 64 n : Int))) (by rw [hi, e0, decide_eq_true_iff]; omega)]
      exact this
    · have mb := Ie.man_nn (d % 9223372036854775808) (by omega)
      have mp : 0 < Ie.man (d % 9223372036854775808) := by rw [Ie.man, if_neg (by omega)]; omega
      have eb : (Ie.ex (d % 9223372036854775808) : Int) ≤ 2045 := by simp only [Ie.ex]; omega
      obtain ⟨n, hn⟩ := Int.eq_ofNat_of_zero_le mb.1
      obtain ⟨q, hq, hlt⟩ := Lib.ctzFrom_spec 64 n (by omega) (by simpa using (show n < 18446744073709551616 by omega))
      have hc : Lib.ctz 64 (Ie.man (d % 9223372036854775808)).toNat = Lib.ctzFrom 64 n := by rw [hn, Int.toNat_natCast, Lib.ctz, if_neg (by omega)]
      have hi := Ie.intg_iff (d % 9223372036854775808) _ (q : Int) (Lib.ctzFrom 64 n) hn (ctz_int n q _ hq)
      have := integral_fin d w hT h0 h1 hf _ (by omega) _ _ m x (by omega) (by omega) hc
      rw [key (decide (0 ≤ (Ie.ex (d % 9223372036854775808) : Int) - 1074 + (Lib.ctzFrom 64 n : Int))) (by rw [hi, decide_eq_true_iff])]
      exact this
    · omega
    · omega
  · have : Ie.intg d = false := by rw [Ie.intg, decide_eq_false_iff_not]; intro h; exact hf h.1
    rw [this]
    exact integral_inf d w h0 h1 (by omega)
end Go.Proofs.YtpnjafacoeinnabDoor

namespace Go.Proofs.YtpnjafacoeinnabDoor
open Go Go.RowKit Go.Deep

theorem ret_ie {a b c d : Int} (h : a = b) (k : c = d) : Ending.returned (.tuple #[.int .i64 a, .int .i64 c]) = .returned (.tuple #[.int .i64 b, .int .i64 d]) := by rw [h, k]

set_option maxRecDepth 100000 in
theorem toInt_inf (d : Int) (w : World) (h0 : 0 ≤ d) (h1 : d < 18446744073709551616) (hr : 9218868437227405312 ≤ d % 9223372036854775808) :
    Calls Tryd.prog 14 #[.int .u64 d] w fun e w' => e = .returned (.tuple #[.int .i64 0, .int .i64 5]) ∧ w' = w := by
  have F := hid (whole_inf d w h0 h1 hr)
  clear hr
  go_enter Tryd.func14, Tryd.ntmps14
  go_wp2_with fail
  refine F.out.mono ?_
  rintro e w' ⟨rfl, rfl⟩
  go_wp2_with fail
  go_ret2
  exact ⟨rfl, rfl⟩

/-- What ToInt tells of a finite double: the number, or 0 and ErrRange. -/
def ToIntIs (neg : Bool) (W : Int) (j f : Int) : Prop :=
  (W ≤ (if neg = true then 9223372036854775808 else 9223372036854775807) ∧ j = (if neg = true then -W else W) ∧ f = 0) ∨ ((if neg = true then 9223372036854775808 else 9223372036854775807) < W ∧ j = 0 ∧ f = 41)

set_option maxRecDepth 100000 in
set_option maxHeartbeats 4000000 in
theorem toInt_fin (d : Int) (w : World) (h0 : 0 ≤ d) (h1 : d < 18446744073709551616) (hr : d % 9223372036854775808 < 9218868437227405312) (neg : Bool) (hneg : decide (9223372036854775808 ≤ d) = neg) (V : Int) (hV : Ie.whp (d % 9223372036854775808) = V) (V0 : 0 ≤ V) (Vb : V < Nm.pw 4096) :
    Calls Tryd.prog 14 #[.int .u64 d] w fun e w' => ∃ j f, e = .returned (.tuple #[.int .i64 j, .int .i64 f]) ∧ ToIntIs neg V j f ∧ Below w.heap.size w w' := by
  have F : Hid (Calls Tryd.prog 18 #[.int .u64 d] w fun e w' => ∃ r os, e = .returned (.tuple #[.bool neg, .slice r (List.length os) (List.length os), .int .i64 0]) ∧ Ans w.heap.size w' r os V ∧ Below w.heap.size w w') := by
    have := whole_fin d w h0 h1 hr
    simp only [WholeTold] at this
    rw [hneg, hV] at this
    exact this
  have VB := hid Vb
  clear hneg hV hr Vb
  rcases (show 18446744073709551616 ≤ V ∨ V < 18446744073709551616 by omega) with hb | hb
  · have TU : Hid (∀ (wx : World) (r : Option Addr) (os : List Int) (B : Nat), Ans B wx r os V → ∃ u, Calls Tryd.prog 22 #[.slice r os.length os.length] wx fun e w' => e = .returned (.tuple #[.int .u64 u, .bool false]) ∧ w' = wx) := by
      intro wx r os B A
      have l := ans_small A 4096 VB.out
      have := toUint_any r _ _ os wx (A.arg (by omega))
      have h2 : decide (Nm.tsize os ≤ 1) = false := by
        rw [decide_eq_false_iff_not]
        intro hh
        have := (Nm.tsize_le_iff A.2.1 1).1 hh
        rw [A.2.2.2.1] at this
        have e : Nm.pw 1 = 18446744073709551616 := rfl
        omega
      rw [h2] at this
      exact ⟨_, this⟩
    cases neg
    · go_enter Tryd.func14, Tryd.ntmps14
      go_wp2_with fail
      refine F.out.mono ?_
      rintro e w1 ⟨r, os, rfl, A, hB⟩
      obtain ⟨u, hu⟩ := TU.out w1 r os _ A
      have HU := hid hu
      have HB := hid hB
      clear hu hB A F TU
      go_wp2_with fail
      refine HU.out.mono ?_
      rintro e w2 ⟨rfl, rfl⟩
      go_wp2_with fail
      go_ret2
      exact ⟨0, 41, rfl, .inr ⟨by simp; omega, rfl, rfl⟩, HB.out⟩
    · go_enter Tryd.func14, Tryd.ntmps14
      go_wp2_with fail
      refine F.out.mono ?_
      rintro e w1 ⟨r, os, rfl, A, hB⟩
      obtain ⟨u, hu⟩ := TU.out w1 r os _ A
      have HU := hid hu
      have HB := hid hB
      clear hu hB A F TU
      go_wp2_with fail
      refine HU.out.mono ?_
      rintro e w2 ⟨rfl, rfl⟩
      go_wp2_with fail
      go_ret2
      exact ⟨0, 41, rfl, .inr ⟨by simp; omega, rfl, rfl⟩, HB.out⟩
  · have TU : Hid (∀ (wx : World) (r : Option Addr) (os : List Int) (B : Nat), Ans B wx r os V → Calls Tryd.prog 22 #[.slice r os.length os.length] wx fun e w' => e = .returned (.tuple #[.int .u64 V, .bool true]) ∧ w' = wx) := by
      intro wx r os B A
      have l := ans_small A 4096 VB.out
      exact toU_is r _ _ os wx (A.arg (by omega)) V A.2.2.2.1 hb
    cases neg
    · rcases (show 9223372036854775807 < V ∨ V ≤ 9223372036854775807 by omega) with hm | hm
      · go_enter Tryd.func14, Tryd.ntmps14
        go_wp2_with fail
        refine F.out.mono ?_
        rintro e w1 ⟨r, os, rfl, A, hB⟩
        have HU := hid (TU.out w1 r os _ A)
        have HB := hid hB
        clear hB A F TU
        go_wp2_with fail
        refine HU.out.mono ?_
        rintro e w2 ⟨rfl, rfl⟩
        go_wp2_with fail
        go_ret2
        exact ⟨0, 41, rfl, .inr ⟨by simp; omega, rfl, rfl⟩, HB.out⟩
      · go_enter Tryd.func14, Tryd.ntmps14
        go_wp2_with fail
        refine F.out.mono ?_
        rintro e w1 ⟨r, os, rfl, A, hB⟩
        have HU := hid (TU.out w1 r os _ A)
        have HB := hid hB
        clear hB A F TU
        go_wp2_with fail
        refine HU.out.mono ?_
        rintro e w2 ⟨rfl, rfl⟩
        go_wp2_with fail
        go_ret2
        exact ⟨V, 0, rfl, .inl ⟨by simp; omega, rfl, rfl⟩, HB.out⟩
    · rcases (show 9223372036854775808 < V ∨ V = 9223372036854775808 ∨ V < 9223372036854775808 by omega) with hm | hm | hm
      · go_enter Tryd.func14, Tryd.ntmps14
        go_wp2_with fail
        refine F.out.mono ?_
        rintro e w1 ⟨r, os, rfl, A, hB⟩
        have HU := hid (TU.out w1 r os _ A)
        have HB := hid hB
        clear hB A F TU
        go_wp2_with fail
        refine HU.out.mono ?_
        rintro e w2 ⟨rfl, rfl⟩
        go_wp2_with fail
        go_ret2
        exact ⟨0, 41, rfl, .inr ⟨by simp; omega, rfl, rfl⟩, HB.out⟩
      · subst hm
        go_enter Tryd.func14, Tryd.ntmps14
        go_wp2_with fail
        refine F.out.mono ?_
        rintro e w1 ⟨r, os, rfl, A, hB⟩
        have HU := hid (TU.out w1 r os _ A)
        have HB := hid hB
        clear hB A F TU
        go_wp2_with fail
        refine HU.out.mono ?_
        rintro e w2 ⟨rfl, rfl⟩
        go_wp2_with fail
        go_ret2
        exact ⟨-9223372036854775808, 0, ret_ie (by first | decide | (simp [wrap64] <;> omega) | rfl) rfl, .inl ⟨by simp, rfl, rfl⟩, HB.out⟩
      · go_enter Tryd.func14, Tryd.ntmps14
        go_wp2_with fail
        refine F.out.mono ?_
        rintro e w1 ⟨r, os, rfl, A, hB⟩
        have HU := hid (TU.out w1 r os _ A)
        have HB := hid hB
        clear hB A F TU
        go_wp2_with fail
        refine HU.out.mono ?_
        rintro e w2 ⟨rfl, rfl⟩
        go_wp2_with fail
        go_ret2
        exact ⟨-V, 0, rfl, .inl ⟨by simp; omega, rfl, rfl⟩, HB.out⟩
end Go.Proofs.YtpnjafacoeinnabDoor
