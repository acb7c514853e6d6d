/-
  Texts put together: XAddT, IWalk1, IOrd1, IOrd2, IWalk1A, IWhole1, IWholeT, IWhole2, IWhole3, IWhole4, VNum, VStr, VClone, MOne, ChN, ChP, ZPut, ZDecA, ZRef6.
-/
import Derived.Test.YtdemopkdcnaibaaGreatDoorRC
import Derived.Test.YtdemopkdcnaibaaGreatDoorIWalk1B
import Derived.Test.YtdemopkdcnaibaaGreatDoorIOrdC
import Derived.Test.YtdemopkdcnaibaaGreatDoorIOrdD
import Derived.Test.YtdemopkdcnaibaaGreatDoorIWalk1C
import Derived.Test.YtdemopkdcnaibaaGreatDoorRB
import Derived.Test.YtdemopkdcnaibaaGreatDoorRA
import Derived.Deep.RegionWith
import Derived.Test.YtdemopkdcnaibaaGreatDoorIKinds
import Derived.Test.YtdemopkdcnaibaaGreatDoorMem
import Derived.BigQuiet
import Derived.Test.YtdemopkdcnaibaaGreatDoorV0
import Derived.Laws.BytesArg
import Derived.Laws.IdiomStrings
import Derived.Laws.Strings3
import Derived.Laws.DeepStrings4
import Derived.Shelf.Pu.Clone
import Derived.Lib.Split
import Derived.Lib.Replace
import Derived.Test.YtdemopkdcnaibaaGreatDoorIDec
import Derived.Test.YtdemopkdcnaibaaGreatDoorZRef3
import Derived.Test.YtdemopkdcnaibaaGreatDoorTrailW
import Derived.Test.YtdemopkdcnaibaaGreatDoorWalk5
/-
  soft: Add.
-/
namespace Go.Proofs.YtdemopkdcnaibaaGreatDoor
open Go Go.RowKit Go.Deep

set_option maxRecDepth 100000 in
set_option maxHeartbeats 4000000 in
theorem softAdd_any (a b : Int) (w : World) (a0 : 0 ≤ a) (a1 : a < 18446744073709551616) (b0 : 0 ≤ b) (b1 : b < 18446744073709551616) (hT : Tab w) :
    Calls Tryz.prog 160 #[.int .u64 a, .int .u64 b] w fun e w' => Told1 (Ie.AddIs a b) w e w' := by
  have AD := hid (add_any a b w a0 a1 b0 b1 hT)
  clear hT
  go_enter Tryz.func160, Tryz.ntmps160
  go_wp2_with fail
  refine AD.out.mono ?_
  rintro e w1 ⟨r, f, rfl, h, hB⟩
  have KK : Hid (Told1 (Ie.AddIs a b) w (.returned (.int .u64 r)) w1) := ⟨r, f, rfl, h, hB⟩
  clear h hB AD
  go_wp2_with fail
  go_ret
  exact KK.out
end Go.Proofs.YtdemopkdcnaibaaGreatDoor

/-
  ieee: Abs.
-/
namespace Go.Proofs.YtdemopkdcnaibaaGreatDoor
open Go Go.RowKit Go.Deep

set_option maxRecDepth 100000 in
theorem abs_any (d : Int) (w : World) (h0 : 0 ≤ d) (h1 : d < 18446744073709551616) :
    Calls Tryz.prog 48 #[.int .u64 d] w fun e w' => e = .returned (.int .u64 (d % 9223372036854775808)) ∧ w' = w := by
  have B := Ib.sign_andNot d h0 h1
  go_enter Tryz.func48, Tryz.ntmps48
  go_wp2
  go_ret
  exact ⟨rfl, rfl⟩
end Go.Proofs.YtdemopkdcnaibaaGreatDoor

/-
  ieee: place, Total, Rank, Compare, AtRank, Up, Down; cmp.Compare of two int64.
-/
namespace Go.Proofs.YtdemopkdcnaibaaGreatDoor
open Go Go.RowKit Go.Deep


set_option maxRecDepth 100000 in
theorem isNaN_any (x : Int) (w : World) : Calls Tryz.prog 169 #[.int .i64 x] w fun e w' => e = .returned (.bool false) ∧ w' = w := by
  go_enter Tryz.func169, Tryz.ntmps169
  go_wp2
  go_ret
  exact ⟨by simp, rfl⟩

set_option maxRecDepth 100000 in
theorem ccmp_any (x y : Int) (w : World) : Calls Tryz.prog 107 #[.int .i64 x, .int .i64 y] w fun e w' => e = .returned (.int .i64 (Ie.cm x y)) ∧ w' = w := by
  by_cases h1 : x < y
  · have E : Hid (Ie.cm x y = -1) := by rw [Hid, Ie.cm, if_pos h1]
    go_enter Tryz.func107, Tryz.ntmps107
    go_wp2_with fail
    refine (isNaN_any x w).mono ?_
    rintro e w' ⟨rfl, rfl⟩
    go_wp2_with fail
    refine (isNaN_any y _).mono ?_
    rintro e w' ⟨rfl, rfl⟩
    go_wp2_with fail
    go_ret
    exact ⟨i_retI E.out.symm, rfl⟩
  · by_cases h2 : y < x
    · have E : Hid (Ie.cm x y = 1) := by rw [Hid, Ie.cm, if_neg h1, if_pos h2]
      go_enter Tryz.func107, Tryz.ntmps107
      go_wp2_with fail
      refine (isNaN_any x w).mono ?_
      rintro e w' ⟨rfl, rfl⟩
      go_wp2_with fail
      refine (isNaN_any y _).mono ?_
      rintro e w' ⟨rfl, rfl⟩
      go_wp2_with fail
      go_ret
      exact ⟨i_retI E.out.symm, rfl⟩
    · have E : Hid (Ie.cm x y = 0) := by rw [Hid, Ie.cm, if_neg h1, if_neg h2]
      go_enter Tryz.func107, Tryz.ntmps107
      go_wp2_with fail
      refine (isNaN_any x w).mono ?_
      rintro e w' ⟨rfl, rfl⟩
      go_wp2_with fail
      refine (isNaN_any y _).mono ?_
      rintro e w' ⟨rfl, rfl⟩
      go_wp2_with fail
      go_ret
      exact ⟨i_retI E.out.symm, rfl⟩
end Go.Proofs.YtdemopkdcnaibaaGreatDoor

/-
  ieee: Rank, Compare, Total, AtRank, Up, Down.
-/
namespace Go.Proofs.YtdemopkdcnaibaaGreatDoor
open Go Go.RowKit Go.Deep


set_option maxRecDepth 100000 in
set_option maxHeartbeats 1000000 in
theorem rank_any (d : Int) (w : World) (h0 : 0 ≤ d) (h1 : d < 18446744073709551616) :
    Calls Tryz.prog 51 #[.int .u64 d] w fun e w' => e = .returned (.tuple #[.int .i64 (Ie.rkv d), .bool (Ie.okd d)]) ∧ w' = w := by
  have B := Ib.sign_and d h0 h1
  have CL := hid (class_any d w h0 h1)
  have AB := hid (abs_any d w h0 h1)
  have c4 := Ie.cls4 d
  obtain ⟨c, hc⟩ : ∃ c, Ie.cls d = c := ⟨_, rfl⟩
  rw [hc] at CL c4
  obtain ⟨sv, hsv⟩ : ∃ sv, d / 9223372036854775808 * 9223372036854775808 = sv := ⟨_, rfl⟩
  rw [hsv] at B
  obtain ⟨r, hr⟩ : ∃ r, d % 9223372036854775808 = r := ⟨_, rfl⟩
  rw [hr] at AB
  have r0 : 0 ≤ r := by omega
  have r1 : r < 9223372036854775808 := by omega
  by_cases hn : c = 4
  · have E : Hid (0 = Ie.rkv d ∧ false = Ie.okd d) := by
      have := c4.1 hn
      exact ⟨by rw [Ie.rkv, this]; rfl, this.symm⟩
    subst hn
    clear hc hsv hr c4
    go_enter Tryz.func51, Tryz.ntmps51
    go_wp2_with fail
    refine CL.out.mono ?_
    rintro e w' ⟨rfl, rfl⟩
    go_wp2_with fail
    go_ret2
    exact ⟨ret_i64b E.out.1 E.out.2, rfl⟩
  · have ok : Ie.okd d = true := by
      cases h : Ie.okd d
      · exact absurd (c4.2 h) hn
      · rfl
    have hn' : (c == 4) = false := by rw [beq_eq_false_iff_ne]; exact hn
    rcases (show d < 9223372036854775808 ∨ 9223372036854775808 ≤ d by omega) with hs | hs
    · have E : Hid (r = Ie.rkv d ∧ true = Ie.okd d) := ⟨by rw [Ie.rkv, ok, if_pos rfl, Ie.rk, if_pos hs]; omega, ok.symm⟩
      have hz : sv = 0 := by omega
      subst hz
      clear hc hsv hr c4 ok hs hn
      go_enter Tryz.func51, Tryz.ntmps51
      go_wp2_with fail
      refine CL.out.mono ?_
      rintro e w' ⟨rfl, rfl⟩
      go_wp2_with fail
      refine AB.out.mono ?_
      rintro e w' ⟨rfl, rfl⟩
      go_wp2_with fail
      go_ret2
      exact ⟨ret_i64b E.out.1 E.out.2, rfl⟩
    · have E : Hid (-r = Ie.rkv d ∧ true = Ie.okd d) := ⟨by rw [Ie.rkv, ok, if_pos rfl, Ie.rk, if_neg (by omega)]; omega, ok.symm⟩
      have hz : sv = 9223372036854775808 := by omega
      subst hz
      clear hc hsv hr c4 ok hs hn
      go_enter Tryz.func51, Tryz.ntmps51
      go_wp2_with fail
      refine CL.out.mono ?_
      rintro e w' ⟨rfl, rfl⟩
      go_wp2_with fail
      refine AB.out.mono ?_
      rintro e w' ⟨rfl, rfl⟩
      go_wp2_with fail
      go_ret2
      exact ⟨ret_i64b E.out.1 E.out.2, rfl⟩

set_option maxRecDepth 100000 in
set_option maxHeartbeats 1000000 in
theorem compare_any (a b : Int) (w : World) (a0 : 0 ≤ a) (a1 : a < 18446744073709551616) (b0 : 0 ≤ b) (b1 : b < 18446744073709551616) :
    Calls Tryz.prog 49 #[.int .u64 a, .int .u64 b] w fun e w' => e = .returned (.tuple #[.int .i64 (Ie.cmv a b), .bool (Ie.okd a && Ie.okd b)]) ∧ w' = w := by
  have P1 := hid (rank_any a w a0 a1)
  have P2 := hid (rank_any b w b0 b1)
  have X1 : Hid (Ie.okd a = true → Ie.rkv a = Ie.rk a) := by intro h; rw [Ie.rkv, if_pos h]
  have X2 : Hid (Ie.okd b = true → Ie.rkv b = Ie.rk b) := by intro h; rw [Ie.rkv, if_pos h]
  have V : Hid (Ie.cmv a b = if Ie.okd a = true ∧ Ie.okd b = true then Ie.cm (Ie.rk a) (Ie.rk b) else 0) := rfl
  generalize Ie.cmv a b = cv at *
  generalize Ie.rkv a = x at *
  generalize Ie.rkv b = y at *
  generalize Ie.okd a = oa at *
  generalize Ie.okd b = ob at *
  clear a0 a1 b0 b1
  cases oa
  · go_enter Tryz.func49, Tryz.ntmps49
    go_wp2_with fail
    refine P1.out.mono ?_
    rintro e w' ⟨rfl, rfl⟩
    go_wp2_with fail
    refine P2.out.mono ?_
    rintro e w' ⟨rfl, rfl⟩
    go_wp2_with fail
    go_ret2
    exact ⟨ret_i64b (by rw [V.out]; rfl) rfl, rfl⟩
  · cases ob
    · go_enter Tryz.func49, Tryz.ntmps49
      go_wp2_with fail
      refine P1.out.mono ?_
      rintro e w' ⟨rfl, rfl⟩
      go_wp2_with fail
      refine P2.out.mono ?_
      rintro e w' ⟨rfl, rfl⟩
      go_wp2_with fail
      go_ret2
      exact ⟨ret_i64b (by rw [V.out]; rfl) rfl, rfl⟩
    · go_enter Tryz.func49, Tryz.ntmps49
      go_wp2_with fail
      refine P1.out.mono ?_
      rintro e w' ⟨rfl, rfl⟩
      go_wp2_with fail
      refine P2.out.mono ?_
      rintro e w' ⟨rfl, rfl⟩
      go_wp2_with fail
      refine (ccmp_any _ _ _).mono ?_
      rintro e w' ⟨rfl, rfl⟩
      go_wp2_with fail
      go_ret2
      exact ⟨ret_i64b (by rw [V.out, if_pos ⟨trivial, trivial⟩, X1.out trivial, X2.out trivial]) rfl, rfl⟩

end Go.Proofs.YtdemopkdcnaibaaGreatDoor

/-
  ieee: Neg.
-/
namespace Go.Proofs.YtdemopkdcnaibaaGreatDoor
open Go Go.RowKit Go.Deep

set_option maxRecDepth 100000 in
theorem neg_any (d : Int) (w : World) (h0 : 0 ≤ d) (h1 : d < 18446744073709551616) :
    Calls Tryz.prog 47 #[.int .u64 d] w fun e w' => e = .returned (.int .u64 (Ie.ng d)) ∧ w' = w := by
  have B : bits .xor .u64 d 9223372036854775808 = Ie.ng d := Ib.sign_xor d h0 h1
  go_enter Tryz.func47, Tryz.ntmps47
  go_wp2
  go_ret
  exact ⟨rfl, rfl⟩
end Go.Proofs.YtdemopkdcnaibaaGreatDoor

/-
  ieee: finite, FromUint, FromInt, Whole.
-/
namespace Go.Proofs.YtdemopkdcnaibaaGreatDoor
open Go Go.RowKit Go.Deep

set_option maxRecDepth 100000 in
theorem fromI_nn (i : Int) (w : World) (hT : Tab w) (h0 : 0 ≤ i) (h1 : i ≤ 9223372036854775807) :
    Calls Tryz.prog 55 #[.int .i64 i] w fun e w' => ∃ x, e = .returned (.int .u64 x) ∧ Ie.Rnd i 1 0 false x ∧ Below w.heap.size w w' := by
  have F := hid (fromU_any i w hT h0 (by omega))
  clear hT
  go_enter Tryz.func55, Tryz.ntmps55
  go_wp2_with fail
  refine F.out.mono ?_
  rintro e w1 ⟨x, rfl, R, hB⟩
  have K := hid (And.intro R hB)
  clear R hB
  go_wp2_with fail
  go_ret
  exact ⟨x, rfl, K.out⟩

set_option maxRecDepth 100000 in
theorem fromI_ng (i : Int) (w : World) (hT : Tab w) (h0 : i < 0) (h1 : -9223372036854775808 ≤ i) :
    Calls Tryz.prog 55 #[.int .i64 i] w fun e w' => ∃ x, e = .returned (.int .u64 (x + 9223372036854775808)) ∧ Ie.Rnd (-i) 1 0 false x ∧ Below w.heap.size w w' := by
  have F := hid (fun (u : Int) (hu : u = -i) => fromU_any u w hT (by omega) (by omega))
  have W1 : IntKind.u64.wrap i = i + 18446744073709551616 := by rw [IntKind.wrap_u64]; omega
  have W2 : IntKind.u64.wrap (-(i + 18446744073709551616)) = -i := by rw [IntKind.wrap_u64]; omega
  clear hT
  go_enter Tryz.func55, Tryz.ntmps55
  go_wp2_with fail
  refine (F.out _ (by omega)).mono ?_
  rintro e w1 ⟨x, rfl, R, hB⟩
  have b := R.bd
  have N : Hid (Calls Tryz.prog 47 #[.int .u64 x] w1 fun e w' => e = .returned (.int .u64 (x + 9223372036854775808)) ∧ w' = w1) := by
    have := neg_any x w1 b.1 (by omega)
    rw [Ie.ng, if_pos (by omega)] at this
    exact this
  have K := hid (And.intro R hB)
  clear R hB b F
  go_wp2_with fail
  refine N.out.mono ?_
  rintro e w2 ⟨rfl, rfl⟩
  go_wp2_with fail
  go_ret
  refine ⟨x, rfl, ?_⟩
  exact K.out
end Go.Proofs.YtdemopkdcnaibaaGreatDoor

namespace Go.Proofs.YtdemopkdcnaibaaGreatDoor
open Go Go.RowKit Go.Deep

def WholeTold (d : Int) (w : World) (e : Ending) (w' : World) : Prop :=
  ∃ r os, e = .returned (.tuple #[.bool (decide (9223372036854775808 ≤ d)), .slice r (List.length os) (List.length os), .int .i64 0]) ∧ Ans w.heap.size w' r os (Ie.whp (d % 9223372036854775808)) ∧ Below w.heap.size w w'
end Go.Proofs.YtdemopkdcnaibaaGreatDoor

/-
  ieee: Whole.
-/
namespace Go.Proofs.YtdemopkdcnaibaaGreatDoor
open Go Go.RowKit Go.Deep

set_option maxRecDepth 100000 in
theorem whole_inf (d : Int) (w : World) (h0 : 0 ≤ d) (h1 : d < 18446744073709551616) (hr : 9218868437227405312 ≤ d % 9223372036854775808) :
    Calls Tryz.prog 58 #[.int .u64 d] w fun e w' => e = .returned (.tuple #[.bool false, .slice none 0 0, .int .i64 5]) ∧ w' = w := by
  have F := finite_any d w h0 h1
  rw [decide_eq_false (by omega)] at F
  have F := hid F
  go_enter Tryz.func58, Tryz.ntmps58
  go_wp2_with fail
  refine F.out.mono ?_
  rintro e w' ⟨rfl, rfl⟩
  go_wp2_with fail
  go_ret3
  exact ⟨rfl, rfl⟩

set_option maxRecDepth 100000 in
set_option maxHeartbeats 4000000 in
theorem whole_low (d : Int) (w : World) (h0 : 0 ≤ d) (h1 : d < 18446744073709551616) (r m : Int) (c : Int) (k : Nat) (hr : d % 9223372036854775808 = r) (hf : r < 9218868437227405312) (hc : Ie.cls d = c) (hm : Ie.dm d = m) (he : Ie.de d = -(k : Int)) (hk : 0 < k) (hk2 : k ≤ 1074) (mb : 0 ≤ m ∧ m < 9007199254740992) (hw : Ie.whp r = m / 2 ^ k) :
    Calls Tryz.prog 58 #[.int .u64 d] w fun e w' => WholeTold d w e w' := by
  have F := finite_any d w h0 h1
  rw [decide_eq_true (by omega)] at F
  have F := hid F
  have D := hid (decode_any d w h0 h1)
  rw [hc, hm, he] at D
  simp only [partsOf] at D
  obtain ⟨neg, hneg⟩ : ∃ neg, decide (9223372036854775808 ≤ d) = neg := ⟨_, rfl⟩
  rw [hneg] at D
  have q0 : 0 ≤ m / 2 ^ k := Int.ediv_nonneg mb.1 (by have := Nm.two_pos k; omega)
  have q1 : m / 2 ^ k ≤ m := Int.ediv_le_self _ mb.1
  have FU : Hid (∀ (wx : World) (u : Int), u = m / 2 ^ k → Calls Tryz.prog 111 #[.int .u64 u] wx fun e w' => ∃ r os, e = .returned (.slice r (List.length os) (List.length os)) ∧ Ans wx.heap.size w' r os (m / 2 ^ k) ∧ Below wx.heap.size wx w') := by
    intro wx u hu
    subst hu
    exact fromUint_any (m / 2 ^ k) wx q0 (by omega)
  have SM := Ie.shr_min m k mb.1 mb.2
  have WT : Hid (∀ (w2 : World) (p : Option Addr) (os : List Int) (B : Nat), w.heap.size ≤ B → Ans B w2 p os (m / 2 ^ k) → Below w.heap.size w w2 → WholeTold d w (.returned (.tuple #[.bool neg, .slice p (List.length os) (List.length os), .int .i64 0])) w2) := by
    intro w2 p os B hB A hb
    refine ⟨p, os, by rw [hneg], ?_, hb⟩
    rw [hr, hw]
    exact ⟨A.1, A.2.1, A.2.2.1, A.2.2.2.1, fun a h => by have := A.2.2.2.2 a h; omega⟩
  have WK : IntKind.i64.wrap (k : Int) = (k : Int) := by rw [IntKind.wrap_i64]; omega
  have k1 : -(k : Int) < 0 := by omega
  have k2 : (k : Int) ≤ 1074 := by omega
  obtain ⟨mb0, mb1⟩ := mb
  clear hneg hr hf hc hm he hw q0 q1
  go_enter Tryz.func58, Tryz.ntmps58
  go_wp2_with fail
  refine F.out.mono ?_
  rintro e w ⟨rfl, rfl⟩
  go_wp2_with fail
  refine D.out.mono ?_
  rintro e w1 ⟨rfl, hB⟩
  have HB := hid hB
  clear hB F D
  go_wp2_with fail
  have HB1 := hid (Below.alloc HB.out HB.out.size (.cells #[.bool neg, .int .i64 c, .int .u64 m, .int .i64 (-(k : Int))] 26))
  have hg := heap_alloc_new w1 (.cells #[.bool neg, .int .i64 c, .int .u64 m, .int .i64 (-(k : Int))] 26)
  have p0 : (w1.alloc (.cells #[.bool neg, .int .i64 c, .int .u64 m, .int .i64 (-(k : Int))] 26)).cell? ⟨w1.heap.size, 0, none⟩ = some (.bool neg) := by simp only [World.cell?, hg]; rfl
  have p2 : (w1.alloc (.cells #[.bool neg, .int .i64 c, .int .u64 m, .int .i64 (-(k : Int))] 26)).cell? ⟨w1.heap.size, 2, none⟩ = some (.int .u64 m) := by simp only [World.cell?, hg]; rfl
  have p3 : (w1.alloc (.cells #[.bool neg, .int .i64 c, .int .u64 m, .int .i64 (-(k : Int))] 26)).cell? ⟨w1.heap.size, 3, none⟩ = some (.int .i64 (-(k : Int))) := by simp only [World.cell?, hg]; rfl
  clear hg
  generalize w1.alloc (.cells #[.bool neg, .int .i64 c, .int .u64 m, .int .i64 (-(k : Int))] 26) = wA at *
  have CA : Hid (∀ wx w2 : World, wx.heap = wA.heap → Below w.heap.size w wx → Below wx.heap.size wx w2 → Below w.heap.size w w2 ∧ w2.cell? ⟨w1.heap.size, 0, none⟩ = some (.bool neg)) := by
    intro wx w2 hh hw hB2
    have lt : w1.heap.size < wx.heap.size := by rw [hh]; exact cell_lt p0
    have eq : wx.cell? ⟨w1.heap.size, 0, none⟩ = wA.cell? ⟨w1.heap.size, 0, none⟩ := World.cell?_of_block (by rw [hh])
    exact ⟨hw.trans (hB2.mono hw.size), by rw [hB2.cell (p := ⟨w1.heap.size, 0, none⟩) lt, eq]; exact p0⟩
  have HS := hid (show w.heap.size ≤ wA.heap.size from HB1.out.size)
  go_region_with (go_at_call 111; refine (FU.out _ _ ?_).mono ?_; (first | omega | (simp only [SM] <;> fail) | trace_state); rintro e w2 ⟨p, os, rfl, A, hB2⟩; obtain ⟨hB3, k0⟩ := CA.out wA.drew w2 rfl (below_drew1 HB1.out) hB2; have KK := hid (WT.out w2 p os _ HS.out A hB3); clear A hB2 hB3)
  all_goals (go_wp2_with fail; go_ret3; exact KK.out)
set_option maxRecDepth 100000 in
set_option maxHeartbeats 4000000 in
theorem whole_high (d : Int) (w : World) (h0 : 0 ≤ d) (h1 : d < 18446744073709551616) (r m : Int) (c : Int) (k : Nat) (hr : d % 9223372036854775808 = r) (hf : r < 9218868437227405312) (hc : Ie.cls d = c) (hm : Ie.dm d = m) (he : Ie.de d = (k : Int)) (hk2 : k ≤ 971) (mb : 0 ≤ m ∧ m < 9007199254740992) (hw : Ie.whp r = m * 2 ^ k) :
    Calls Tryz.prog 58 #[.int .u64 d] w fun e w' => WholeTold d w e w' := by
  have F := finite_any d w h0 h1
  rw [decide_eq_true (by omega)] at F
  have F := hid F
  have D := hid (decode_any d w h0 h1)
  rw [hc, hm, he] at D
  simp only [partsOf] at D
  obtain ⟨neg, hneg⟩ : ∃ neg, decide (9223372036854775808 ≤ d) = neg := ⟨_, rfl⟩
  rw [hneg] at D
  have FU : Hid (∀ wx : World, Calls Tryz.prog 111 #[.int .u64 m] wx fun e w' => ∃ r os, e = .returned (.slice r (List.length os) (List.length os)) ∧ Ans wx.heap.size w' r os m ∧ Below wx.heap.size wx w') := by
    intro wx
    exact fromUint_any m wx mb.1 (by omega)
  have mp : m < Nm.pw 1 := by have : Nm.pw 1 = 18446744073709551616 := rfl; omega
  have rm := shl_room (t := k) mp (by omega)
  have SL : Hid (∀ (wx : World) (p : Option Addr) (os : List Int) (B : Nat), Ans B wx p os m → Calls Tryz.prog 113 #[.slice p os.length os.length, .int .i64 (k : Int)] wx fun e w' => ∃ r os, e = .returned (.tuple #[.slice r (List.length os) (List.length os), .int .i64 0]) ∧ Ans wx.heap.size w' r os (m * 2 ^ k) ∧ Below wx.heap.size wx w') := by
    intro wx p os B A
    have l1 := ans_small A 1 mp
    have := shl_any p _ _ os (k : Int) k wx (A.arg (by omega)) (by rw [A.2.2.1]; omega) rfl (by rw [A.2.2.2.1]; exact rm)
    rw [A.2.2.2.1] at this
    exact this
  have WT : Hid (∀ (w2 : World) (p : Option Addr) (os : List Int) (B : Nat), w.heap.size ≤ B → Ans B w2 p os (m * 2 ^ k) → Below w.heap.size w w2 → WholeTold d w (.returned (.tuple #[.bool neg, .slice p (List.length os) (List.length os), .int .i64 0])) w2) := by
    intro w2 p os B hB A hb
    refine ⟨p, os, by rw [hneg], ?_, hb⟩
    rw [hr, hw]
    exact ⟨A.1, A.2.1, A.2.2.1, A.2.2.2.1, fun a h => by have := A.2.2.2.2 a h; omega⟩
  have k1 : ¬ (k : Int) < 0 := by omega
  have k2 : (k : Int) ≤ 971 := by omega
  obtain ⟨mb0, mb1⟩ := mb
  clear hneg hr hf hc hm he hw mp rm
  go_enter Tryz.func58, Tryz.ntmps58
  go_wp2_with fail
  refine F.out.mono ?_
  rintro e w ⟨rfl, rfl⟩
  go_wp2_with fail
  refine D.out.mono ?_
  rintro e w1 ⟨rfl, hB⟩
  have HB := hid hB
  clear hB F D
  go_wp2_with fail
  have HB1 := hid (Below.alloc HB.out HB.out.size (.cells #[.bool neg, .int .i64 c, .int .u64 m, .int .i64 (k : Int)] 26))
  have hg := heap_alloc_new w1 (.cells #[.bool neg, .int .i64 c, .int .u64 m, .int .i64 (k : Int)] 26)
  have p0 : (w1.alloc (.cells #[.bool neg, .int .i64 c, .int .u64 m, .int .i64 (k : Int)] 26)).cell? ⟨w1.heap.size, 0, none⟩ = some (.bool neg) := by simp only [World.cell?, hg]; rfl
  have p2 : (w1.alloc (.cells #[.bool neg, .int .i64 c, .int .u64 m, .int .i64 (k : Int)] 26)).cell? ⟨w1.heap.size, 2, none⟩ = some (.int .u64 m) := by simp only [World.cell?, hg]; rfl
  have p3 : (w1.alloc (.cells #[.bool neg, .int .i64 c, .int .u64 m, .int .i64 (k : Int)] 26)).cell? ⟨w1.heap.size, 3, none⟩ = some (.int .i64 (k : Int)) := by simp only [World.cell?, hg]; rfl
  clear hg
  generalize w1.alloc (.cells #[.bool neg, .int .i64 c, .int .u64 m, .int .i64 (k : Int)] 26) = wA at *
  have CA : Hid (∀ wx w2 : World, wx.heap = wA.heap → Below w.heap.size w wx → Below wx.heap.size wx w2 → Below w.heap.size w w2 ∧ w2.cell? ⟨w1.heap.size, 0, none⟩ = some (.bool neg) ∧ w2.cell? ⟨w1.heap.size, 3, none⟩ = some (.int .i64 (k : Int))) := by
    intro wx w2 hh hw hB2
    have lt : w1.heap.size < wx.heap.size := by rw [hh]; exact cell_lt p0
    have eq : ∀ o, wx.cell? ⟨w1.heap.size, o, none⟩ = wA.cell? ⟨w1.heap.size, o, none⟩ := fun o => World.cell?_of_block (by rw [hh])
    exact ⟨hw.trans (hB2.mono hw.size), by rw [hB2.cell (p := ⟨w1.heap.size, 0, none⟩) lt, eq]; exact p0, by rw [hB2.cell (p := ⟨w1.heap.size, 3, none⟩) lt, eq]; exact p3⟩
  have HS := hid (show w.heap.size ≤ wA.heap.size from HB1.out.size)
  go_region_with (first | (go_at_call 111; refine (FU.out _).mono ?_; rintro e w2 ⟨p, os, rfl, A, hB2⟩; obtain ⟨hB3, k0, k3⟩ := CA.out wA.drew w2 rfl (below_drew1 HB1.out) hB2; have SS := hid (SL.out w2 p os _ A); have HH := hid hB3; have HZ := hid (Nat.lt_of_lt_of_le (cell_lt k0) (Nat.le_refl _)); have K0 := hid k0; clear A hB2 hB3) | (go_at_call 113; refine SS.out.mono ?_; rintro e w3 ⟨p', os', rfl, A, hB4⟩; have z0 : w3.cell? ⟨w1.heap.size, 0, none⟩ = some (.bool neg) := (hB4.cell (p := ⟨w1.heap.size, 0, none⟩) (cell_lt K0.out)).trans K0.out; have KK := hid (WT.out w3 p' os' _ HH.out.size A (HH.out.trans (hB4.mono HH.out.size))); clear A hB4))
  all_goals (go_wp2_with fail; go_ret3; exact KK.out)

/-- Whole of a finite double. -/
theorem whole_fin (d : Int) (w : World) (h0 : 0 ≤ d) (h1 : d < 18446744073709551616) (hf : d % 9223372036854775808 < 9218868437227405312) :
    Calls Tryz.prog 58 #[.int .u64 d] w fun e w' => WholeTold d w e w' := by
  rcases Ie.dec_kinds d _ rfl with ⟨c, m, x, k1⟩ | ⟨c, m, x, k1, k2⟩ | ⟨c, m, x, k1, k2⟩ | ⟨c, m, x, k1⟩ | ⟨c, m, x, k1, k2⟩
  · exact whole_high d w h0 h1 _ 0 _ 0 rfl hf c m x (by omega) (by omega) (by rw [k1, Ie.whp_zero]; rfl)
  · have e0 : Ie.ex (d % 9223372036854775808) = 0 := by rw [Ie.ex]; omega
    have m0 : Ie.man (d % 9223372036854775808) = d % 9223372036854775808 := by rw [Ie.man, if_pos k2]
    exact whole_low d w h0 h1 _ _ _ 1074 rfl hf c m x (by omega) (by omega) (by omega) (by rw [Ie.whp_low _ 1074 (by omega), m0])
  · have mb := Ie.man_nn (d % 9223372036854775808) (by omega)
    have eb : (Ie.ex (d % 9223372036854775808) : Int) ≤ 2045 := by simp only [Ie.ex]; omega
    rcases (show (Ie.ex (d % 9223372036854775808) : Int) < 1074 ∨ 1074 ≤ (Ie.ex (d % 9223372036854775808) : Int) by omega) with h | h
    · obtain ⟨k, hk⟩ : ∃ k : Nat, (Ie.ex (d % 9223372036854775808) : Int) + k = 1074 := ⟨(1074 - (Ie.ex (d % 9223372036854775808) : Int)).toNat, by omega⟩
      exact whole_low d w h0 h1 _ _ _ k rfl hf c m (by rw [x]; omega) (by omega) (by omega) mb (Ie.whp_low _ k hk)
    · obtain ⟨k, hk⟩ : ∃ k : Nat, (Ie.ex (d % 9223372036854775808) : Int) = 1074 + k := ⟨((Ie.ex (d % 9223372036854775808) : Int) - 1074).toNat, by omega⟩
      exact whole_high d w h0 h1 _ _ _ k rfl hf c m (by rw [x]; omega) (by omega) mb (Ie.whp_high _ k hk).1
  · omega
  · omega
end Go.Proofs.YtdemopkdcnaibaaGreatDoor



/-
  ieee: ToInt.
-/
namespace Go.Proofs.YtdemopkdcnaibaaGreatDoor
open Go Go.RowKit Go.Deep

theorem ret_ie {a b c d : Int} (h : a = b) (k : c = d) : Ending.returned (.tuple #[.int .i64 a, .int .i64 c]) = .returned (.tuple #[.int .i64 b, .int .i64 d]) := by rw [h, k]

set_option maxRecDepth 100000 in
theorem toInt_inf (d : Int) (w : World) (h0 : 0 ≤ d) (h1 : d < 18446744073709551616) (hr : 9218868437227405312 ≤ d % 9223372036854775808) :
    Calls Tryz.prog 57 #[.int .u64 d] w fun e w' => e = .returned (.tuple #[.int .i64 0, .int .i64 5]) ∧ w' = w := by
  have F := hid (whole_inf d w h0 h1 hr)
  clear hr
  go_enter Tryz.func57, Tryz.ntmps57
  go_wp2_with fail
  refine F.out.mono ?_
  rintro e w' ⟨rfl, rfl⟩
  go_wp2_with fail
  go_ret2
  exact ⟨rfl, rfl⟩

/-- What ToInt tells of a finite double: the number, or 0 and ErrRange. -/
def ToIntIs (neg : Bool) (W : Int) (j f : Int) : Prop :=
  (W ≤ (if neg = true then 9223372036854775808 else 9223372036854775807) ∧ j = (if neg = true then -W else W) ∧ f = 0) ∨ ((if neg = true then 9223372036854775808 else 9223372036854775807) < W ∧ j = 0 ∧ f = 41)

set_option maxRecDepth 100000 in
set_option maxHeartbeats 4000000 in
theorem toInt_fin (d : Int) (w : World) (h0 : 0 ≤ d) (h1 : d < 18446744073709551616) (hr : d % 9223372036854775808 < 9218868437227405312) (neg : Bool) (hneg : decide (9223372036854775808 ≤ d) = neg) (V : Int) (hV : Ie.whp (d % 9223372036854775808) = V) (V0 : 0 ≤ V) (Vb : V < Nm.pw 4096) :
    Calls Tryz.prog 57 #[.int .u64 d] w fun e w' => ∃ j f, e = .returned (.tuple #[.int .i64 j, .int .i64 f]) ∧ ToIntIs neg V j f ∧ Below w.heap.size w w' := by
  have F : Hid (Calls Tryz.prog 58 #[.int .u64 d] w fun e w' => ∃ r os, e = .returned (.tuple #[.bool neg, .slice r (List.length os) (List.length os), .int .i64 0]) ∧ Ans w.heap.size w' r os V ∧ Below w.heap.size w w') := by
    have := whole_fin d w h0 h1 hr
    simp only [WholeTold] at this
    rw [hneg, hV] at this
    exact this
  have VB := hid Vb
  clear hneg hV hr Vb
  rcases (show 18446744073709551616 ≤ V ∨ V < 18446744073709551616 by omega) with hb | hb
  · have TU : Hid (∀ (wx : World) (r : Option Addr) (os : List Int) (B : Nat), Ans B wx r os V → ∃ u, Calls Tryz.prog 112 #[.slice r os.length os.length] wx fun e w' => e = .returned (.tuple #[.int .u64 u, .bool false]) ∧ w' = wx) := by
      intro wx r os B A
      have l := ans_small A 4096 VB.out
      have := toUint_any r _ _ os wx (A.arg (by omega))
      have h2 : decide (Nm.tsize os ≤ 1) = false := by
        rw [decide_eq_false_iff_not]
        intro hh
        have := (Nm.tsize_le_iff A.2.1 1).1 hh
        rw [A.2.2.2.1] at this
        have e : Nm.pw 1 = 18446744073709551616 := rfl
        omega
      rw [h2] at this
      exact ⟨_, this⟩
    cases neg
    · go_enter Tryz.func57, Tryz.ntmps57
      go_wp2_with fail
      refine F.out.mono ?_
      rintro e w1 ⟨r, os, rfl, A, hB⟩
      obtain ⟨u, hu⟩ := TU.out w1 r os _ A
      have HU := hid hu
      have HB := hid hB
      clear hu hB A F TU
      go_wp2_with fail
      refine HU.out.mono ?_
      rintro e w2 ⟨rfl, rfl⟩
      go_wp2_with fail
      go_ret2
      exact ⟨0, 41, rfl, .inr ⟨by simp; omega, rfl, rfl⟩, HB.out⟩
    · go_enter Tryz.func57, Tryz.ntmps57
      go_wp2_with fail
      refine F.out.mono ?_
      rintro e w1 ⟨r, os, rfl, A, hB⟩
      obtain ⟨u, hu⟩ := TU.out w1 r os _ A
      have HU := hid hu
      have HB := hid hB
      clear hu hB A F TU
      go_wp2_with fail
      refine HU.out.mono ?_
      rintro e w2 ⟨rfl, rfl⟩
      go_wp2_with fail
      go_ret2
      exact ⟨0, 41, rfl, .inr ⟨by simp; omega, rfl, rfl⟩, HB.out⟩
  · have TU : Hid (∀ (wx : World) (r : Option Addr) (os : List Int) (B : Nat), Ans B wx r os V → Calls Tryz.prog 112 #[.slice r os.length os.length] wx fun e w' => e = .returned (.tuple #[.int .u64 V, .bool true]) ∧ w' = wx) := by
      intro wx r os B A
      have l := ans_small A 4096 VB.out
      exact toU_is r _ _ os wx (A.arg (by omega)) V A.2.2.2.1 hb
    cases neg
    · rcases (show 9223372036854775807 < V ∨ V ≤ 9223372036854775807 by omega) with hm | hm
      · go_enter Tryz.func57, Tryz.ntmps57
        go_wp2_with fail
        refine F.out.mono ?_
        rintro e w1 ⟨r, os, rfl, A, hB⟩
        have HU := hid (TU.out w1 r os _ A)
        have HB := hid hB
        clear hB A F TU
        go_wp2_with fail
        refine HU.out.mono ?_
        rintro e w2 ⟨rfl, rfl⟩
        go_wp2_with fail
        go_ret2
        exact ⟨0, 41, rfl, .inr ⟨by simp; omega, rfl, rfl⟩, HB.out⟩
      · go_enter Tryz.func57, Tryz.ntmps57
        go_wp2_with fail
        refine F.out.mono ?_
        rintro e w1 ⟨r, os, rfl, A, hB⟩
        have HU := hid (TU.out w1 r os _ A)
        have HB := hid hB
        clear hB A F TU
        go_wp2_with fail
        refine HU.out.mono ?_
        rintro e w2 ⟨rfl, rfl⟩
        go_wp2_with fail
        go_ret2
        exact ⟨V, 0, rfl, .inl ⟨by simp; omega, rfl, rfl⟩, HB.out⟩
    · rcases (show 9223372036854775808 < V ∨ V = 9223372036854775808 ∨ V < 9223372036854775808 by omega) with hm | hm | hm
      · go_enter Tryz.func57, Tryz.ntmps57
        go_wp2_with fail
        refine F.out.mono ?_
        rintro e w1 ⟨r, os, rfl, A, hB⟩
        have HU := hid (TU.out w1 r os _ A)
        have HB := hid hB
        clear hB A F TU
        go_wp2_with fail
        refine HU.out.mono ?_
        rintro e w2 ⟨rfl, rfl⟩
        go_wp2_with fail
        go_ret2
        exact ⟨0, 41, rfl, .inr ⟨by simp; omega, rfl, rfl⟩, HB.out⟩
      · subst hm
        go_enter Tryz.func57, Tryz.ntmps57
        go_wp2_with fail
        refine F.out.mono ?_
        rintro e w1 ⟨r, os, rfl, A, hB⟩
        have HU := hid (TU.out w1 r os _ A)
        have HB := hid hB
        clear hB A F TU
        go_wp2_with fail
        refine HU.out.mono ?_
        rintro e w2 ⟨rfl, rfl⟩
        go_wp2_with fail
        go_ret2
        exact ⟨-9223372036854775808, 0, ret_ie (by first | decide | (simp [wrap64] <;> omega) | rfl) rfl, .inl ⟨by simp, rfl, rfl⟩, HB.out⟩
      · go_enter Tryz.func57, Tryz.ntmps57
        go_wp2_with fail
        refine F.out.mono ?_
        rintro e w1 ⟨r, os, rfl, A, hB⟩
        have HU := hid (TU.out w1 r os _ A)
        have HB := hid hB
        clear hB A F TU
        go_wp2_with fail
        refine HU.out.mono ?_
        rintro e w2 ⟨rfl, rfl⟩
        go_wp2_with fail
        go_ret2
        exact ⟨-V, 0, rfl, .inl ⟨by simp; omega, rfl, rfl⟩, HB.out⟩
end Go.Proofs.YtdemopkdcnaibaaGreatDoor

namespace Go.Proofs.YtdemopkdcnaibaaGreatDoor
namespace Sc

def pk (xs : List Int) (i : Nat) : Int := xs.getD i 0
def dg (x : Int) : Bool := decide (48 ≤ x) && decide (x ≤ 57)
def bl (x : Int) : Bool := decide (x = 32) || (decide (9 ≤ x) && decide (x ≤ 13))
/-- How many bytes from place i on have p, one behind the other. -/
def run (p : Int → Bool) (xs : List Int) (i : Nat) : Nat := ((xs.drop i).takeWhile p).length
def sg (xs : List Int) (i : Nat) : Nat := if pk xs i = 43 ∨ pk xs i = 45 then 1 else 0

theorem dg_iff {x : Int} : dg x = true ↔ 48 ≤ x ∧ x ≤ 57 := by simp [dg]
theorem dg_not {x : Int} : dg x = false ↔ ¬ (48 ≤ x ∧ x ≤ 57) := by rw [← dg_iff]; simp
theorem bl_iff {x : Int} : bl x = true ↔ x = 32 ∨ (9 ≤ x ∧ x ≤ 13) := by simp [bl]
theorem bl_not {x : Int} : bl x = false ↔ ¬ (x = 32 ∨ (9 ≤ x ∧ x ≤ 13)) := by rw [← bl_iff]; simp

theorem pk_ge {xs : List Int} {i : Nat} (h : xs.length ≤ i) : pk xs i = 0 := by simp [pk, List.getD, List.getElem?_eq_none h]
theorem pk_lt {xs : List Int} {i : Nat} (h : pk xs i ≠ 0) : i < xs.length := by
  rcases Nat.lt_or_ge i xs.length with c | c
  · exact c
  · exact absurd (pk_ge c) h
theorem pk_take (xs : List Int) (m i : Nat) : pk (xs.take m) i = if i < m then pk xs i else 0 := by
  unfold pk
  by_cases h : i < m
  · simp [List.getD, h]
  · simp [List.getD, List.getElem?_take, h]
theorem pk_drop (xs : List Int) (m i : Nat) : pk (xs.drop m) i = pk xs (m + i) := by simp [pk, List.getD, List.getElem?_drop]
theorem pk_append (xs ys : List Int) (i : Nat) : pk (xs ++ ys) i = if i < xs.length then pk xs i else pk ys (i - xs.length) := by
  by_cases h : i < xs.length
  · simp [pk, List.getD, List.getElem?_append_left h, h]
  · simp [pk, List.getD, List.getElem?_append_right (Nat.le_of_not_lt h), h]

theorem run_step {p : Int → Bool} (hp : p 0 = false) (xs : List Int) (i : Nat) : run p xs i = if p (pk xs i) = true then run p xs (i + 1) + 1 else 0 := by
  unfold run
  rcases Nat.lt_or_ge i xs.length with h | h
  · rw [List.drop_eq_getElem_cons h, List.takeWhile_cons]
    have e : pk xs i = xs[i] := by simp [pk, List.getD, h]
    rw [e]
    split <;> simp
  · rw [List.drop_of_length_le h, pk_ge h, hp]
    simp

theorem run_zero {p : Int → Bool} (hp : p 0 = false) {xs : List Int} {i : Nat} (h : p (pk xs i) = false) : run p xs i = 0 := by
  rw [run_step hp, h]; simp
theorem run_succ {p : Int → Bool} (hp : p 0 = false) {xs : List Int} {i : Nat} (h : p (pk xs i) = true) : run p xs i = run p xs (i + 1) + 1 := by
  rw [run_step hp, h]; simp
theorem run_pos {p : Int → Bool} (hp : p 0 = false) {xs : List Int} {i : Nat} (h : 0 < run p xs i) : p (pk xs i) = true := by
  cases c : p (pk xs i) with
  | true => rfl
  | false => rw [run_zero hp c] at h; omega
theorem run_le (p : Int → Bool) (xs : List Int) (i : Nat) : run p xs i ≤ xs.length - i := by
  unfold run
  have := List.IsPrefix.length_le (List.takeWhile_prefix p (l := xs.drop i))
  rw [List.length_drop] at this
  exact this
theorem run_all {p : Int → Bool} {xs : List Int} {i : Nat} : ∀ j, j < run p xs i → p (pk xs (i + j)) = true := by
  intro j hj
  have h1 := List.takeWhile_prefix p (l := xs.drop i)
  obtain ⟨t, ht⟩ := h1
  have h2 : (xs.drop i)[j]? = ((xs.drop i).takeWhile p)[j]? := by
    conv => lhs; rw [← ht]
    rw [List.getElem?_append_left hj]
  rw [List.getElem?_drop, List.getElem?_eq_getElem hj] at h2
  have h3 : pk xs (i + j) = ((xs.drop i).takeWhile p)[j] := by simp [pk, List.getD, h2]
  rw [h3]
  have := List.all_takeWhile (p := p) (l := xs.drop i)
  rw [List.all_eq_true] at this
  exact this _ (List.getElem_mem hj)
theorem run_end {p : Int → Bool} (hp : p 0 = false) {xs : List Int} : ∀ (n i : Nat), run p xs i = n → p (pk xs (i + n)) = false := by
  intro n
  induction n with
  | zero =>
    intro i h
    rw [Nat.add_zero]
    cases c : p (pk xs i) with
    | false => rfl
    | true => rw [run_succ hp c] at h; omega
  | succ n ih =>
    intro i h
    have h1 := run_pos hp (show 0 < run p xs i by omega)
    rw [run_succ hp h1] at h
    have := ih (i + 1) (by omega)
    rw [show i + (n + 1) = i + 1 + n by omega]
    exact this
/-- A run is what it is: n bytes have p, the next one has not. -/
theorem run_is {p : Int → Bool} (hp : p 0 = false) {xs : List Int} : ∀ (n i : Nat), (∀ j, j < n → p (pk xs (i + j)) = true) → p (pk xs (i + n)) = false → run p xs i = n := by
  intro n
  induction n with
  | zero => intro i _ h; exact run_zero hp h
  | succ n ih =>
    intro i h1 h2
    have h0 := h1 0 (by omega)
    rw [Nat.add_zero] at h0
    rw [run_succ hp h0]
    rw [ih (i + 1) (fun j hj => by rw [show i + 1 + j = i + (j + 1) by omega]; exact h1 (j + 1) (by omega)) (by rw [show i + 1 + n = i + (n + 1) by omega]; exact h2)]
theorem run_take {p : Int → Bool} (hp : p 0 = false) (xs : List Int) (m i : Nat) : run p (xs.take m) i = min (run p xs i) (m - i) := by
  apply run_is hp
  · intro j hj
    rw [pk_take, if_pos (by omega)]
    exact run_all j (by omega)
  · rw [pk_take]
    by_cases c : i + min (run p xs i) (m - i) < m
    · rw [if_pos c, show min (run p xs i) (m - i) = run p xs i by omega]
      exact run_end hp _ _ rfl
    · rw [if_neg c]; exact hp

theorem dg0 : dg 0 = false := rfl
theorem bl0 : bl 0 = false := rfl

/-- A literal's parts: its sign, the digits ahead of and behind the point, the exponent that is written, the place behind it. -/
structure Lt where
  neg : Bool
  ah : List Int
  bh : List Int
  sc : Int
  en : Nat

/-- An exponent's digits as a number, cut at 10^15. -/
def cap (l : List Int) : Int := l.foldl (fun s x => min (10 * s + (x - 48)) 1000000000000000) 0
theorem cap_nil : cap [] = 0 := rfl
theorem cap_snoc (l : List Int) (x : Int) : cap (l ++ [x]) = min (10 * cap l + (x - 48)) 1000000000000000 := by simp [cap]
theorem take_snoc {xs : List Int} {v c : Nat} (h : v + c < xs.length) : (xs.drop v).take (c + 1) = (xs.drop v).take c ++ [pk xs (v + c)] := by
  rw [List.take_add_one, List.getElem?_drop, List.getElem?_eq_getElem h]
  simp [pk, List.getD, h]
theorem cap_b : ∀ (l : List Int), (∀ x ∈ l, dg x = true) → 0 ≤ cap l ∧ cap l ≤ 1000000000000000 := by
  intro l
  rw [← List.reverse_reverse l]
  induction l.reverse with
  | nil => intro _; simp [cap]
  | cons x t ih =>
    intro h
    rw [List.reverse_cons, cap_snoc]
    have h1 := ih (fun y hy => h y (by simp at hy ⊢; exact .inl hy))
    have h2 := dg_iff.1 (h x (by simp))
    omega

/-- Where the digits behind the sign begin. -/
def p1 (xs : List Int) (k : Nat) : Nat := k + sg xs k
/-- Where they end. -/
def p2 (xs : List Int) (k : Nat) : Nat := p1 xs k + run dg xs (p1 xs k)
/-- How many digits stand behind the point. -/
def bn (xs : List Int) (k : Nat) : Nat := if pk xs (p2 xs k) = 46 then run dg xs (p2 xs k + 1) else 0
/-- The place behind the digits and the point. -/
def p3 (xs : List Int) (k : Nat) : Nat := if pk xs (p2 xs k) = 46 then p2 xs k + 1 + run dg xs (p2 xs k + 1) else p2 xs k
/-- Where the exponent's digits begin, behind a letter at t. -/
def p4 (xs : List Int) (t : Nat) : Nat := t + 1 + sg xs (t + 1)
def isE (x : Int) : Bool := decide (x = 101) || decide (x = 69)
/-- Has it an exponent? -/
def hasE (xs : List Int) (t : Nat) : Bool := isE (pk xs t) && dg (pk xs (p4 xs t))
def some? (xs : List Int) (k : Nat) : Prop := run dg xs (p1 xs k) + bn xs k ≠ 0
instance (xs : List Int) (k : Nat) : Decidable (some? xs k) := inferInstanceAs (Decidable (_ ≠ _))
def lit (xs : List Int) (k : Nat) : Lt :=
  { neg := decide (pk xs k = 45)
    ah := (xs.drop (p1 xs k)).take (run dg xs (p1 xs k))
    bh := (xs.drop (p2 xs k + 1)).take (bn xs k)
    sc := if hasE xs (p3 xs k) = true then (if pk xs (p3 xs k + 1) = 45 then - cap ((xs.drop (p4 xs (p3 xs k))).take (run dg xs (p4 xs (p3 xs k)))) else cap ((xs.drop (p4 xs (p3 xs k))).take (run dg xs (p4 xs (p3 xs k))))) else 0
    en := if hasE xs (p3 xs k) = true then p4 xs (p3 xs k) + run dg xs (p4 xs (p3 xs k)) else p3 xs k }
def rd (xs : List Int) (k : Nat) : Option Lt := if some? xs k then some (lit xs k) else none

theorem sg_le (xs : List Int) (i : Nat) : sg xs i ≤ 1 := by unfold sg; split <;> omega
theorem sg_lt {xs : List Int} {i : Nat} (h : sg xs i = 1) : i < xs.length := by
  unfold sg at h
  split at h
  · next c => exact pk_lt (by omega)
  · omega
theorem sg_take (xs : List Int) (m i : Nat) (h : i < m) : sg (xs.take m) i = sg xs i := by simp only [sg, pk_take, if_pos h]
theorem sg_past (xs : List Int) (m i : Nat) (h : m ≤ i) : sg (xs.take m) i = 0 := by simp only [sg, pk_take, if_neg (show ¬ i < m by omega)]; simp

theorem en_eq (xs : List Int) (k : Nat) : (lit xs k).en = if hasE xs (p3 xs k) = true then p4 xs (p3 xs k) + run dg xs (p4 xs (p3 xs k)) else p3 xs k := rfl
theorem p3_en (xs : List Int) (k : Nat) : p3 xs k ≤ (lit xs k).en := by
  rw [en_eq]
  split
  · unfold p4; omega
  · omega
theorem p2_p3 (xs : List Int) (k : Nat) : p2 xs k ≤ p3 xs k := by unfold p3; split <;> omega
theorem p3_lt (xs : List Int) (k : Nat) : pk xs (p2 xs k) = 46 → p2 xs k < p3 xs k := by intro h; unfold p3; rw [if_pos h]; omega

theorem p1_le (xs : List Int) (k : Nat) (h : k ≤ xs.length) : p1 xs k ≤ xs.length := by
  unfold p1
  have := sg_le xs k
  rcases Nat.lt_or_ge (sg xs k) 1 with c | c
  · omega
  · have := sg_lt (xs := xs) (i := k) (by omega); omega
theorem p2_le (xs : List Int) (k : Nat) (h : k ≤ xs.length) : p2 xs k ≤ xs.length := by
  have h1 := p1_le xs k h
  have h2 := run_le dg xs (p1 xs k)
  unfold p2; omega
theorem p3_le (xs : List Int) (k : Nat) (h : k ≤ xs.length) : p3 xs k ≤ xs.length := by
  have h1 := p2_le xs k h
  unfold p3
  split
  · next c =>
    have h2 := run_le dg xs (p2 xs k + 1)
    have h3 : p2 xs k < xs.length := pk_lt (by omega)
    omega
  · exact h1
theorem p4_le (xs : List Int) (t : Nat) (h : t < xs.length) : p4 xs t ≤ xs.length := by
  unfold p4
  rcases Nat.lt_or_ge (sg xs (t + 1)) 1 with c | c
  · omega
  · have := sg_lt (xs := xs) (i := t + 1) (by have := sg_le xs (t + 1); omega); have := sg_le xs (t + 1); omega
theorem isE_lt {xs : List Int} {t : Nat} (h : isE (pk xs t) = true) : t < xs.length := by
  apply pk_lt
  intro c
  rw [c] at h
  simp [isE] at h
theorem en_le (xs : List Int) (k : Nat) (h : k ≤ xs.length) : (lit xs k).en ≤ xs.length := by
  rw [en_eq]
  split
  · next c =>
    unfold hasE at c
    rw [Bool.and_eq_true] at c
    have h1 := p4_le xs _ (isE_lt c.1)
    have h2 := run_le dg xs (p4 xs (p3 xs k))
    omega
  · exact p3_le xs k h

/-- What is no literal is none in any beginning. -/
theorem rd_none_take {xs : List Int} {k m : Nat} (h : ¬ some? xs k) (hk : k < m) : ¬ some? (xs.take m) k := by
  unfold some? at *
  have h1 : run dg xs (p1 xs k) = 0 := by omega
  have h2 : bn xs k = 0 := by omega
  have e1 : p1 (xs.take m) k = p1 xs k := by unfold p1; rw [sg_take _ _ _ hk]
  have e2 : run dg (xs.take m) (p1 xs k) = 0 := by rw [run_take dg0]; omega
  have e3 : p2 (xs.take m) k = p2 xs k := by unfold p2; rw [e1, e2, h1]
  rw [e1, e2]
  have e4 : bn (xs.take m) k = 0 := by
    unfold bn at *
    rw [e3, pk_take, run_take dg0]
    by_cases c : p2 xs k < m
    · rw [if_pos c]
      split
      · next c2 => rw [if_pos c2] at h2; omega
      · rfl
    · rw [if_neg c]; simp
  omega
theorem rd_none_past {xs : List Int} {k m : Nat} (hk : m ≤ k) : ¬ some? (xs.take m) k := by
  unfold some?
  have z : ∀ i, m ≤ i → pk (xs.take m) i = 0 := fun i hi => by rw [pk_take, if_neg (by omega)]
  have r : ∀ i, m ≤ i → run dg (xs.take m) i = 0 := fun i hi => by rw [run_take dg0]; omega
  have e1 : p1 (xs.take m) k = k := by unfold p1; rw [sg_past _ _ _ hk]; omega
  have e2 : p2 (xs.take m) k = k := by unfold p2; rw [e1, r k hk]; omega
  rw [e1, r k hk]
  unfold bn
  rw [e2, z k hk]
  simp

theorem take_take_drop {xs : List Int} {m p a : Nat} (h : p + a ≤ m) : ((xs.take m).drop p).take a = (xs.drop p).take a := by
  rw [List.drop_take, List.take_take, Nat.min_eq_left (by omega)]

/-- A literal is the same one in any beginning that holds it whole. -/
theorem lit_take {xs : List Int} {k m : Nat} (hs : some? xs k) (hm : (lit xs k).en ≤ m) : some? (xs.take m) k ∧ lit (xs.take m) k = lit xs k := by
  have q3 := p3_en xs k
  have q2 := p2_p3 xs k
  have q1 : p1 xs k ≤ p2 xs k := by unfold p2; omega
  have q0 : k < m := by
    rcases Nat.lt_or_ge k m with c | c
    · exact c
    · exfalso
      have e1 : p3 xs k = k := by unfold p1 at *; omega
      unfold some? at hs
      have : run dg xs (p1 xs k) = 0 := by unfold p2 p1 at *; omega
      rcases Classical.em (pk xs (p2 xs k) = 46) with c2 | c2
      · have := p3_lt xs k c2; unfold p1 at *; omega
      · apply hs; rw [this]; unfold bn; rw [if_neg c2]
  have e1 : p1 (xs.take m) k = p1 xs k := by unfold p1; rw [sg_take _ _ _ q0]
  have e2 : run dg (xs.take m) (p1 xs k) = run dg xs (p1 xs k) := by rw [run_take dg0]; unfold p2 at *; omega
  have e3 : p2 (xs.take m) k = p2 xs k := by unfold p2; rw [e1, e2]
  have e5 : (pk (xs.take m) (p2 xs k) = 46) ↔ (pk xs (p2 xs k) = 46) := by
    rw [pk_take]
    split
    · exact Iff.rfl
    · next c =>
      constructor
      · intro h; omega
      · intro h; have := p3_lt xs k h; omega
  have e6 : pk xs (p2 xs k) = 46 → run dg (xs.take m) (p2 xs k + 1) = run dg xs (p2 xs k + 1) := by
    intro h
    rw [run_take dg0]
    unfold p3 at q3
    rw [if_pos h] at q3
    omega
  have e7 : bn (xs.take m) k = bn xs k := by
    unfold bn
    rw [e3]
    by_cases c : pk xs (p2 xs k) = 46
    · rw [if_pos c, if_pos (e5.2 c), e6 c]
    · rw [if_neg c, if_neg (fun h => c (e5.1 h))]
  have e8 : p3 (xs.take m) k = p3 xs k := by
    unfold p3
    rw [e3]
    by_cases c : pk xs (p2 xs k) = 46
    · rw [if_pos c, if_pos (e5.2 c), e6 c]
    · rw [if_neg c, if_neg (fun h => c (e5.1 h))]
  have hb : p2 xs k + 1 + bn xs k ≤ m ∨ bn xs k = 0 := by
    unfold bn
    by_cases c : pk xs (p2 xs k) = 46
    · rw [if_pos c]; unfold p3 at q3; rw [if_pos c] at q3; omega
    · rw [if_neg c]; omega
  refine ⟨by unfold some? at *; rw [e1, e2, e7]; exact hs, ?_⟩
  have ea : ((xs.take m).drop (p1 xs k)).take (run dg xs (p1 xs k)) = (xs.drop (p1 xs k)).take (run dg xs (p1 xs k)) := take_take_drop (by unfold p2 at *; omega)
  have eb : ((xs.take m).drop (p2 xs k + 1)).take (bn xs k) = (xs.drop (p2 xs k + 1)).take (bn xs k) := by
    rcases hb with h | h
    · exact take_take_drop h
    · rw [h]; simp
  have ec : decide (pk (xs.take m) k = 45) = decide (pk xs k = 45) := by rw [pk_take, if_pos q0]
  by_cases c : hasE xs (p3 xs k) = true
  · have hen : p4 xs (p3 xs k) + run dg xs (p4 xs (p3 xs k)) ≤ m := by
      have : (lit xs k).en = p4 xs (p3 xs k) + run dg xs (p4 xs (p3 xs k)) := by rw [en_eq, if_pos c]
      omega
    have c' := c
    unfold hasE at c'
    rw [Bool.and_eq_true] at c'
    have h1 : p4 xs (p3 xs k) < m := by
      have := run_succ dg0 c'.2
      omega
    have h0 : p3 xs k + 1 ≤ p4 xs (p3 xs k) := by unfold p4; omega
    have f1 : p4 (xs.take m) (p3 xs k) = p4 xs (p3 xs k) := by unfold p4; rw [sg_take _ _ _ (by omega)]
    have f2 : run dg (xs.take m) (p4 xs (p3 xs k)) = run dg xs (p4 xs (p3 xs k)) := by rw [run_take dg0]; omega
    have f3 : hasE (xs.take m) (p3 xs k) = true := by
      unfold hasE
      rw [f1, pk_take, if_pos (by omega), pk_take, if_pos h1]
      exact c
    have f4 : ((xs.take m).drop (p4 xs (p3 xs k))).take (run dg xs (p4 xs (p3 xs k))) = (xs.drop (p4 xs (p3 xs k))).take (run dg xs (p4 xs (p3 xs k))) := take_take_drop hen
    have f5 : pk (xs.take m) (p3 xs k + 1) = pk xs (p3 xs k + 1) := by rw [pk_take, if_pos (by omega)]
    unfold lit
    rw [e1, e2, e3, e7, e8, if_pos f3, if_pos f3, if_pos c, if_pos c, f1, f2, f4, f5, ea, eb, ec]
  · have f3 : ¬ hasE (xs.take m) (p3 xs k) = true := by
      intro h
      apply c
      unfold hasE at *
      rw [Bool.and_eq_true] at *
      have h1 := isE_lt h.1
      rw [List.length_take] at h1
      have g1 := h.1
      rw [pk_take, if_pos (by omega)] at g1
      refine ⟨g1, ?_⟩
      have g2 := h.2
      by_cases d : p3 xs k + 1 < m
      · have f1 : p4 (xs.take m) (p3 xs k) = p4 xs (p3 xs k) := by unfold p4; rw [sg_take _ _ _ d]
        rw [f1, pk_take] at g2
        split at g2
        · exact g2
        · simp [dg] at g2
      · exfalso
        have f1 : p4 (xs.take m) (p3 xs k) = p3 xs k + 1 := by unfold p4; rw [sg_past _ _ _ (by omega)]
        rw [f1, pk_take, if_neg d] at g2
        simp [dg] at g2
    unfold lit
    rw [e1, e2, e3, e7, e8, if_neg f3, if_neg f3, if_neg c, if_neg c, ea, eb, ec]

/-- A literal is not empty, and ends with a digit or a point. -/
theorem lit_last {xs : List Int} {k : Nat} (hs : some? xs k) : k < (lit xs k).en ∧ bl (pk xs ((lit xs k).en - 1)) = false := by
  have key : ∀ i, k ≤ i → (dg (pk xs i) = true ∨ pk xs i = 46) → i + 1 = (lit xs k).en → k < (lit xs k).en ∧ bl (pk xs ((lit xs k).en - 1)) = false := by
    intro i h1 h2 h3
    refine ⟨by omega, ?_⟩
    rw [← h3, Nat.add_sub_cancel, bl_not]
    rcases h2 with h2 | h2
    · have := dg_iff.1 h2; omega
    · omega
  have k1 : k ≤ p1 xs k := by unfold p1; omega
  by_cases c : hasE xs (p3 xs k) = true
  · have he : (lit xs k).en = p4 xs (p3 xs k) + run dg xs (p4 xs (p3 xs k)) := by rw [en_eq, if_pos c]
    have c' := c
    unfold hasE at c'
    rw [Bool.and_eq_true] at c'
    have h1 := run_succ dg0 c'.2
    have h2 := p2_p3 xs k
    have h0 : p3 xs k + 1 ≤ p4 xs (p3 xs k) := by unfold p4; omega
    refine key (p4 xs (p3 xs k) + (run dg xs (p4 xs (p3 xs k)) - 1)) ?_ (.inl (run_all _ (by omega))) (by omega)
    unfold p2 at h2; omega
  · have he : (lit xs k).en = p3 xs k := by rw [en_eq, if_neg c]
    by_cases c2 : pk xs (p2 xs k) = 46
    · have h3 : p3 xs k = p2 xs k + 1 + run dg xs (p2 xs k + 1) := by unfold p3; rw [if_pos c2]
      by_cases c3 : run dg xs (p2 xs k + 1) = 0
      · refine key (p2 xs k) ?_ (.inr c2) (by omega)
        unfold p2; omega
      · refine key (p2 xs k + 1 + (run dg xs (p2 xs k + 1) - 1)) ?_ (.inl (run_all _ (by omega))) (by omega)
        unfold p2; omega
    · have h3 : p3 xs k = p2 xs k := by unfold p3; rw [if_neg c2]
      have h4 : run dg xs (p1 xs k) ≠ 0 := by
        intro h
        apply hs
        rw [h]; unfold bn; rw [if_neg c2]
      refine key (p1 xs k + (run dg xs (p1 xs k) - 1)) (by omega) (.inl (run_all _ (by omega))) ?_
      rw [he, h3]; unfold p2; omega

/-- A Dec. -/
structure D where
  neg : Bool
  ds : List Int
  e : Int
deriving DecidableEq

def z (x : Int) : Bool := decide (x = 48)
/-- Zeros at the head, at the end. -/
def lz (ds : List Int) : Nat := (ds.takeWhile z).length
def tz (ds : List Int) : Nat := lz ds.reverse
/-- The normal form of digits with an exponent. -/
def nrm (neg : Bool) (ds : List Int) (e : Int) : D :=
  if lz ds = ds.length then ⟨neg, [48], 0⟩ else ⟨neg, (ds.drop (lz ds)).take (ds.length - tz ds - lz ds), e + tz ds⟩
def Lt.d (l : Lt) : D := nrm l.neg (l.ah ++ l.bh) (l.sc - l.bh.length)
end Sc
end Go.Proofs.YtdemopkdcnaibaaGreatDoor

namespace Go.Proofs.YtdemopkdcnaibaaGreatDoor
open Go.RowKit Go.Deep

/-- s has just these bytes. -/
def Str (s : ByteArray) (xs : List Int) : Prop := s.data.toList.map (fun b => (b.toNat : Int)) = xs

theorem Str.self (s : ByteArray) : Str s (s.data.toList.map (fun b => (b.toNat : Int))) := rfl

theorem Str.size {s : ByteArray} {xs : List Int} (h : Str s xs) : s.size = xs.length := by
  rw [← h, List.length_map, Array.length_toList]
  rfl

theorem Str.at {s : ByteArray} {xs : List Int} (h : Str s xs) (t : Nat) (ht : t < s.size) : ((s[t]'ht).toNat : Int) = xs.getD t 0 := by
  rw [← h]
  have : t < s.data.toList.length := by rw [Array.length_toList]; exact ht
  simp only [List.getD_eq_getElem?_getD, List.getElem?_map, List.getElem?_eq_getElem this, Option.map_some, Option.getD_some]
  rfl

theorem Str.mem {s : ByteArray} {xs : List Int} (h : Str s xs) {x : Int} (hx : x ∈ xs) : 0 ≤ x ∧ x < 256 := by
  rw [← h] at hx
  obtain ⟨b, _, rfl⟩ := List.mem_map.1 hx
  have := b.toNat_lt
  omega

theorem Str.atb {s : ByteArray} {xs : List Int} (h : Str s xs) (t : Nat) : 0 ≤ xs.getD t 0 ∧ xs.getD t 0 < 256 := by
  by_cases ht : t < xs.length
  · have : xs.getD t 0 = xs[t] := by simp [List.getD, ht]
    rw [this]
    exact h.mem (List.getElem_mem ht)
  · rw [show xs.getD t 0 = 0 by simp [List.getD, List.getElem?_eq_none (show xs.length ≤ t by omega)]]
    omega

theorem Str.extract {s : ByteArray} {xs : List Int} (h : Str s xs) (a b : Nat) : Str (s.extract a b) ((xs.drop a).take (b - a)) := by
  unfold Str at *
  rw [← h, ByteArray.data_extract]
  simp [List.map_drop, List.map_take]

theorem Str.of_nums {xs : List Int} (h : ∀ x ∈ xs, 0 ≤ x ∧ x < 256) : Str (strOfNums xs) xs := by
  unfold Str
  rw [strOfNums_data, List.map_map]
  conv => rhs; rw [← List.map_id xs]
  apply List.map_congr_left
  intro x hx
  have := h x hx
  simp only [Function.comp, id]
  rw [UInt8.toNat_ofNat_of_lt' (by show x.toNat < 256; omega)]
  omega

theorem Str.inj {s t : ByteArray} {xs : List Int} (h : Str s xs) (k : Str t xs) : s = t := by
  unfold Str at h k
  have e : s.data.toList = t.data.toList := by
    rw [← k] at h
    exact List.map_inj_right (fun a b hab => by
      have : a.toNat = b.toNat := by omega
      exact UInt8.toNat_inj.1 this) |>.1 h
  cases s
  cases t
  simp only at e
  rw [Array.toList_inj.1 e]

/-- s == t, asked by the bytes. -/
theorem Str.eq {s t : ByteArray} {xs ys : List Int} (h : Str s xs) (k : Str t ys) : (s.toList == t.toList) = decide (xs = ys) := by
  by_cases e : xs = ys
  · subst e
    rw [h.inj k]
    simp
  · rw [decide_eq_false e, beq_eq_false_iff_ne]
    intro c
    apply e
    rw [ByteArray.toList_eq, ByteArray.toList_eq] at c
    rw [← h, ← k, c]
theorem str_nil0 : Str ⟨#[]⟩ [] := rfl
end Go.Proofs.YtdemopkdcnaibaaGreatDoor

namespace Go.Proofs.YtdemopkdcnaibaaGreatDoor
open Go.RowKit Go.Deep Go.Shelf

def vcloneRen : Go.Shelf.Ren := ⟨fun _ => 207, fun t => if t = 37 then 166 else if t = 47 then 167 else if t = 5 then 5 else if t = 9 then 9 else if t = 3 then 3 else t, fun g => g⟩
theorem vcloneLays : LaysPu.n25 Tryz.prog vcloneRen where
  mixed := by kernel_rfl
  f25 := by kernel_rfl
  t0 := by kernel_rfl
  a0 := fun _ => by kernel_rfl
  z0 := fun _ => by kernel_rfl
  v0 := fun _ => by kernel_rfl
  i0 := by kernel_rfl
  t3 := by kernel_rfl
  a3 := fun _ => by kernel_rfl
  z3 := fun _ => by kernel_rfl
  v3 := fun _ => by kernel_rfl
  i3 := by kernel_rfl
  t4 := by kernel_rfl
  a4 := fun _ => by kernel_rfl
  z4 := fun _ => by kernel_rfl
  v4 := fun _ => by kernel_rfl
  i4 := by kernel_rfl
  t5 := by kernel_rfl
  a5 := fun _ => by kernel_rfl
  z5 := fun _ => by kernel_rfl
  v5 := fun _ => by kernel_rfl
  i5 := by kernel_rfl
  t9 := by kernel_rfl
  a9 := fun _ => by kernel_rfl
  z9 := fun _ => by kernel_rfl
  v9 := fun _ => by kernel_rfl
  i9 := by kernel_rfl
  t37 := by kernel_rfl
  a37 := fun _ => by kernel_rfl
  z37 := fun _ => by kernel_rfl
  v37 := fun _ => by kernel_rfl
  i37 := by kernel_rfl
  t47 := by kernel_rfl
  a47 := fun _ => by kernel_rfl
  z47 := fun _ => by kernel_rfl
  v47 := fun _ => by kernel_rfl
  i47 := by kernel_rfl

theorem vclone_any (s : ByteArray) (w : World) (hs : s.size ≤ 281474976710656) : Calls Tryz.prog 159 #[.string s] w fun e w' => e = .returned (.string s) ∧ Below w.heap.size w w' := by
  have C : Hid (Calls Tryz.prog 207 #[.string s] w fun e w' => e = .returned (.string s) ∧ Below w.heap.size w w') := AnyPu.stringslite_Clone vcloneLays s w (by omega)
  go_enter Tryz.func159, Tryz.ntmps159
  go_wp2_with fail
  refine C.out.mono ?_
  rintro e w1 ⟨rfl, d1⟩
  have D := hid d1
  clear d1
  go_wp2_with fail
  go_ret
  exact ⟨rfl, D.out⟩
end Go.Proofs.YtdemopkdcnaibaaGreatDoor

/-
  A whole number beside a double: one answer (split of UOne).
-/
namespace Go.Proofs.YtdemopkdcnaibaaGreatDoor
namespace Ie

theorem kind3 (d : Int) : isn d = true ∨ isi d = true ∨ fin d := by
  simp only [isn, isi, fin, decide_eq_true_iff]
  omega

theorem WIs.one {d r r' : Int} {up : Bool} (h : WIs d up r) (h' : WIs d up r') : r = r' := by
  rcases kind3 d with k | k | k
  · rw [h.1 k, h'.1 k]
  · rw [h.2.1 k, h'.2.1 k]
  · obtain ⟨y, rfl, y0, -, a, b⟩ := h.2.2 k
    obtain ⟨y', rfl, y0', -, a', b'⟩ := h'.2.2 k
    cases g : intg d
    · rw [un_inj y0 y0' ((b g).trans (b' g).symm)]
    · rw [a g, a' g]

end Ie
end Go.Proofs.YtdemopkdcnaibaaGreatDoor

namespace Go.Proofs.YtdemopkdcnaibaaGreatDoor
open Go
namespace Ch

abbrev L8 := List UInt8
/-- The text of a list of bytes. -/
def tx (l : L8) : ByteArray := ⟨l.toArray⟩
theorem tx_data (l : L8) : (tx l).data.toList = l := by simp [tx]
theorem tx_self (s : ByteArray) : tx s.data.toList = s := by simp [tx]
theorem tx_size (l : L8) : (tx l).size = l.length := by
  show (tx l).data.size = _
  rw [← Array.length_toList, tx_data]
theorem tx_inj {a b : L8} (h : tx a = tx b) : a = b := by rw [← tx_data a, h, tx_data]
theorem size_len (s : ByteArray) : s.data.toList.length = s.size := by rw [Array.length_toList]; rfl
theorem tx_ext (s : ByteArray) (a b : Nat) : s.extract a b = tx ((s.data.toList.drop a).take (b - a)) := Lib.extract_eq s a b
theorem tx_nil : tx [] = ByteArray.empty := rfl

/-- The first n of the texts, sep between. -/
def jt (sep : L8) (xs : List ByteArray) : Nat → L8
  | 0 => []
  | n + 1 => jt sep xs n ++ ((if n = 0 then [] else sep) ++ (xs.getD n ByteArray.empty).data.toList)
def jn (sep : L8) (xs : List ByteArray) : L8 := jt sep xs xs.length
/-- The texts, sep ahead of each. -/
def ja (sep : L8) : List ByteArray → L8
  | [] => []
  | x :: r => sep ++ (x.data.toList ++ ja sep r)

theorem ja_app (sep : L8) (xs ys : List ByteArray) : ja sep (xs ++ ys) = ja sep xs ++ ja sep ys := by
  induction xs with
  | nil => rfl
  | cons x r ih => simp [ja, ih]
theorem jt_cons (sep : L8) (x : ByteArray) (r : List ByteArray) : ∀ n, n ≤ r.length → jt sep (x :: r) (n + 1) = x.data.toList ++ ja sep (r.take n)
  | 0, _ => by simp [jt, ja]
  | n + 1, h => by
    rw [jt, jt_cons sep x r n (by omega), if_neg (by omega)]
    have e : r.take (n + 1) = r.take n ++ [r[n]'(by omega)] := by rw [List.take_append_getElem]
    have g : (x :: r).getD (n + 1) ByteArray.empty = r[n]'(by omega) := by simp [List.getD, List.getElem?_eq_getElem (show n < r.length by omega)]
    rw [e, ja_app, g]
    simp [ja]
theorem jn_nil (sep : L8) : jn sep [] = [] := rfl
theorem jn_cons (sep : L8) (x : ByteArray) (r : List ByteArray) : jn sep (x :: r) = x.data.toList ++ ja sep r := by
  rw [jn, List.length_cons, jt_cons sep x r r.length (Nat.le_refl _), List.take_length]
theorem jt_len_mono (sep : L8) (xs : List ByteArray) : ∀ {m n : Nat}, m ≤ n → (jt sep xs m).length ≤ (jt sep xs n).length := by
  intro m n h
  induction h with
  | refl => exact Nat.le_refl _
  | step h ih => exact Nat.le_trans ih (by rw [jt, List.length_append]; omega)

/-- Cut at sep as often as it stands, and joined by sep: the text. -/
theorem join_splitK (sep : L8) (hsep : sep ≠ []) : ∀ (k : Nat) (s : L8), ∃ x r, Lib.splitK sep 0 k s = x :: r ∧ x ++ ja sep (r.map tx) = s
  | 0, s => ⟨s, [], rfl, by simp [ja]⟩
  | k + 1, s => by
    unfold Lib.splitK
    rcases Lib.index_spec s sep with ⟨h, _⟩ | ⟨i, h, hi, ho, _⟩
    · rw [if_pos (by simp [h])]
      exact ⟨s, [], rfl, by simp [ja]⟩
    · rw [if_neg (by rw [h]; simp), h]
      obtain ⟨y, r, e1, e2⟩ := join_splitK sep hsep k (s.drop (i + sep.length))
      refine ⟨s.take i, y :: r, by rw [← e1]; simp, ?_⟩
      have hr : i + sep.length ≤ s.length := by rcases Lib.occAt_room ho with h | h; exact h; exact absurd h hsep
      have h2 := Lib.occAt_iff_take s sep i hr
      rw [ho] at h2
      have h3 : (s.drop i).take sep.length = sep := by simpa using h2.symm
      rw [List.map_cons, ja, tx_data, e2]
      conv => rhs; rw [← List.take_append_drop i s, ← List.take_append_drop sep.length (s.drop i), h3, List.drop_drop]
/-- No part holds the separator. -/
theorem splitK_free (sep : L8) (hsep : sep ≠ []) : ∀ (k : Nat) (s : L8), k = Lib.count s sep → ∀ x ∈ Lib.splitK sep 0 k s, Lib.index x sep = -1
  | 0, s, hk, x, hx => by
    rcases Lib.index_spec s sep with ⟨h, _⟩ | ⟨i, h, hi, ho, _⟩
    · simp [Lib.splitK] at hx; rw [hx]; exact h
    · rw [Lib.count_hit hsep h] at hk; omega
  | k + 1, s, hk, x, hx => by
    rcases Lib.index_spec s sep with ⟨h, _⟩ | ⟨i, h, hi, ho, hn⟩
    · rw [Lib.count_miss h] at hk; omega
    · rw [Lib.count_hit hsep h] at hk
      unfold Lib.splitK at hx
      rw [if_neg (by rw [h]; simp), h] at hx
      rcases List.mem_cons.1 hx with rfl | hx
      · refine Lib.index_none fun j hj => ?_
        have hr : i + sep.length ≤ s.length := by rcases Lib.occAt_room ho with h | h; exact h; exact absurd h hsep
        by_cases hc : Lib.occAt (s.take ((i : Int).toNat + 0)) sep j = true
        · exfalso
          have hl : (s.take ((i : Int).toNat + 0)).length = i := by simp; omega
          have hr2 : j + sep.length ≤ i := by rcases Lib.occAt_room hc with h | h; rw [hl] at h; exact h; exact absurd h hsep
          have hpos : 0 < sep.length := List.length_pos_iff.2 hsep
          have h3 := Lib.occAt_iff_take _ sep j (by rw [hl]; exact hr2)
          rw [hc] at h3
          have h4 := Lib.occAt_iff_take s sep j (by omega)
          rw [hn j (by omega)] at h4
          have h5 : ((s.take ((i : Int).toNat + 0)).drop j).take sep.length = (s.drop j).take sep.length := by
            rw [List.drop_take, List.take_take]
            congr 1
            simp
            omega
          rw [h5, ← h4] at h3
          cases h3
        · simpa using hc
      · exact splitK_free sep hsep k _ (by simpa using (by omega : k = Lib.count (s.drop (i + sep.length)) sep)) x (by simpa using hx)

/-- The parts by a text that isn't empty. -/
def cut (s sep : ByteArray) : List ByteArray := Lib.splitB sep 0 (Lib.countB s sep) s
theorem cut_data (s sep : ByteArray) : (cut s sep).map (·.data.toList) = Lib.splitK sep.data.toList 0 (Lib.count s.data.toList sep.data.toList) s.data.toList := Lib.splitB_data sep 0 _ s
theorem map_tx (xs : List ByteArray) : (xs.map (·.data.toList)).map tx = xs := by
  rw [List.map_map]
  conv => rhs; rw [← List.map_id xs]
  exact List.map_congr_left fun x _ => tx_self x
theorem sep_ne {sep : ByteArray} (h : 1 ≤ sep.size) : sep.data.toList ≠ [] := by
  intro e
  have := size_len sep
  rw [e] at this
  simp at this
  omega
theorem cut_join (s sep : ByteArray) (h : 1 ≤ sep.size) : jn sep.data.toList (cut s sep) = s.data.toList := by
  obtain ⟨x, r, e1, e2⟩ := join_splitK sep.data.toList (sep_ne h) (Lib.count s.data.toList sep.data.toList) s.data.toList
  have e3 := cut_data s sep
  rw [e1] at e3
  have e4 : cut s sep = tx x :: r.map tx := by rw [← map_tx (cut s sep), e3]; rfl
  rw [e4, jn_cons, tx_data, e2]
theorem cut_free (s sep : ByteArray) (h : 1 ≤ sep.size) : ∀ x ∈ cut s sep, Lib.index x.data.toList sep.data.toList = -1 := by
  intro x hx
  exact splitK_free _ (sep_ne h) _ _ rfl _ (by rw [← cut_data s sep]; exact List.mem_map.2 ⟨x, hx, rfl⟩)
theorem cut_len (s sep : ByteArray) (h : 1 ≤ sep.size) : (cut s sep).length = Lib.countB s sep + 1 := Lib.splitB_all sep h 0 _ s rfl

/-- Byte by byte. -/
def sg (s : ByteArray) : List ByteArray := s.data.toList.map fun c => ⟨#[c]⟩
theorem sg_len (s : ByteArray) : (sg s).length = s.size := by rw [sg, List.length_map, size_len]
theorem ja_sg : ∀ l : L8, ja [] (l.map fun c => (⟨#[c]⟩ : ByteArray)) = l
  | [] => rfl
  | c :: r => by rw [List.map_cons, ja, ja_sg r]; rfl
theorem sg_join (s : ByteArray) : jn [] (sg s) = s.data.toList := by
  unfold sg
  rcases h : s.data.toList with _ | ⟨c, r⟩
  · rfl
  · rw [List.map_cons, jn_cons, ja_sg]; rfl
theorem sg_one (s : ByteArray) : ∀ x ∈ sg s, x.size = 1 := by
  intro x hx
  obtain ⟨c, _, rfl⟩ := List.mem_map.1 hx
  rfl
theorem sg_at (s : ByteArray) (i : Nat) (h : i < s.size) : (sg s)[i]? = some (s.extract i (i + 1)) := by
  have hl : i < s.data.toList.length := by rw [size_len]; exact h
  rw [tx_ext, sg, List.getElem?_map, List.getElem?_eq_getElem hl, Nat.add_sub_cancel_left, List.drop_eq_getElem_cons hl]
  rfl
theorem sg_take (s : ByteArray) (i : Nat) (h : i < s.size) : (sg s).take (i + 1) = (sg s).take i ++ [s.extract i (i + 1)] := by
  have hl : i < (sg s).length := by rw [sg_len]; exact h
  have := sg_at s i h
  rw [List.getElem?_eq_getElem hl] at this
  rw [← Option.some.inj this, List.take_append_getElem]

/-- A blank; none. -/
def bl (c : UInt8) : Bool := decide (c.toNat = 32) || (decide (9 ≤ c.toNat) && decide (c.toNat ≤ 13))
def nb (c : UInt8) : Bool := !bl c
/-- The runs of bytes that are no blanks. -/
def wl (l : L8) : List L8 :=
  match l with
  | [] => []
  | c :: r => (if (c :: r).takeWhile nb = [] then [] else [(c :: r).takeWhile nb]) ++ wl ((c :: r).drop (((c :: r).takeWhile nb).length + 1))
termination_by l.length
decreasing_by simp; omega
theorem wl_nil : wl [] = [] := by rw [wl]
theorem wl_step (l : L8) (h : l ≠ []) : wl l = (if l.takeWhile nb = [] then [] else [l.takeWhile nb]) ++ wl (l.drop ((l.takeWhile nb).length + 1)) := by
  cases l with
  | nil => exact absurd rfl h
  | cons c r => rw [wl]
def wd (s : ByteArray) : List ByteArray := (wl s.data.toList).map tx

theorem tw_drop (l : L8) : l.drop (l.takeWhile nb).length = l.dropWhile nb := by
  have e : l.drop (l.takeWhile nb).length = (l.takeWhile nb ++ l.dropWhile nb).drop (l.takeWhile nb).length := by rw [List.takeWhile_append_dropWhile]
  rw [e, List.drop_left]
/-- An induction along the runs. -/
theorem run_ind {P : L8 → Prop} (h0 : P []) (h1 : ∀ t : L8, (∀ c ∈ t, nb c = true) → t ≠ [] → P t) (h2 : ∀ (t : L8) (b : UInt8) (r : L8), (∀ c ∈ t, nb c = true) → bl b = true → P r → P (t ++ b :: r)) : ∀ (n : Nat) (l : L8), l.length ≤ n → P l
  | 0, l, h => by rw [List.length_eq_zero_iff.1 (Nat.le_zero.1 h)]; exact h0
  | n + 1, l, h => by
    have e : l = l.takeWhile nb ++ l.dropWhile nb := (List.takeWhile_append_dropWhile).symm
    have ht : ∀ c ∈ l.takeWhile nb, nb c = true := fun c hc => List.all_eq_true.1 List.all_takeWhile c hc
    rcases hd : l.dropWhile nb with _ | ⟨b, r⟩
    · rw [hd, List.append_nil] at e
      by_cases hn : l = []
      · rw [hn]; exact h0
      · rw [e]; exact h1 _ ht (by rw [← e]; exact hn)
    · have hb : bl b = true := by
        have := List.head?_dropWhile_not nb l
        rw [hd] at this
        simpa [nb] using this
      rw [e, hd]
      refine h2 _ _ _ ht hb (run_ind h0 h1 h2 n r ?_)
      rw [e, hd] at h
      simp at h
      omega
theorem tw_all (t : L8) (ht : ∀ c ∈ t, nb c = true) : t.takeWhile nb = t := by
  induction t with
  | nil => rfl
  | cons c r ih => rw [List.takeWhile_cons, if_pos (ht c List.mem_cons_self), ih fun x hx => ht x (List.mem_cons_of_mem _ hx)]
theorem tw_app (t : L8) (b : UInt8) (r : L8) (ht : ∀ c ∈ t, nb c = true) (hb : bl b = true) : (t ++ b :: r).takeWhile nb = t := by
  induction t with
  | nil => simp [nb, hb]
  | cons c u ih => rw [List.cons_append, List.takeWhile_cons, if_pos (ht c List.mem_cons_self), ih fun x hx => ht x (List.mem_cons_of_mem _ hx)]
theorem wl_all (t : L8) (ht : ∀ c ∈ t, nb c = true) (hn : t ≠ []) : wl t = [t] := by
  rw [wl_step t hn, tw_all t ht, if_neg hn]
  rw [List.drop_eq_nil_of_le (by omega), wl_nil, List.append_nil]
theorem wl_app (t : L8) (b : UInt8) (r : L8) (ht : ∀ c ∈ t, nb c = true) (hb : bl b = true) : wl (t ++ b :: r) = (if t = [] then [] else [t]) ++ wl r := by
  rw [wl_step _ (by simp), tw_app t b r ht hb]
  congr 2
  rw [← List.drop_drop]
  simp
theorem wl_flat (l : L8) : (wl l).flatten = l.filter nb := by
  refine run_ind (P := fun l => (wl l).flatten = l.filter nb) (by rw [wl_nil]; rfl) ?_ ?_ l.length l (Nat.le_refl _)
  · intro t ht hn
    rw [wl_all t ht hn]
    simp only [List.flatten_cons, List.flatten_nil, List.append_nil]
    exact (List.filter_eq_self.2 ht).symm
  · intro t b r ht hb ih
    rw [wl_app t b r ht hb, List.flatten_append, ih, List.filter_append, List.filter_eq_self.2 ht, List.filter_cons, show nb b = false by rw [nb, hb]; rfl]
    congr 1
    by_cases h : t = [] <;> simp [h]
theorem wl_good (l : L8) : ∀ x ∈ wl l, x ≠ [] ∧ ∀ c ∈ x, bl c = false := by
  have nbf : ∀ t : L8, (∀ c ∈ t, nb c = true) → ∀ c ∈ t, bl c = false := fun t ht c hc => by have := ht c hc; simpa [nb] using this
  refine run_ind (P := fun l => ∀ x ∈ wl l, x ≠ [] ∧ ∀ c ∈ x, bl c = false) (by rw [wl_nil]; intro x hx; cases hx) ?_ ?_ l.length l (Nat.le_refl _)
  · intro t ht hn x hx
    rw [wl_all t ht hn] at hx
    simp at hx
    subst hx
    exact ⟨hn, nbf _ ht⟩
  · intro t b r ht hb ih x hx
    rw [wl_app t b r ht hb] at hx
    rcases List.mem_append.1 hx with hx | hx
    · by_cases h : t = []
      · simp [h] at hx
      · simp [h] at hx
        subst hx
        exact ⟨h, nbf _ ht⟩
    · exact ih x hx
theorem ja_flat : ∀ ls : List L8, ja [] (ls.map tx) = ls.flatten
  | [] => rfl
  | x :: r => by rw [List.map_cons, ja, ja_flat r, tx_data]; simp
theorem jn_flat (ls : List L8) : jn [] (ls.map tx) = ls.flatten := by
  cases ls with
  | nil => rfl
  | cons x r => rw [List.map_cons, jn_cons, ja_flat, tx_data]; rfl
theorem wd_join (s : ByteArray) : jn [] (wd s) = s.data.toList.filter nb := by rw [wd, jn_flat, wl_flat]
theorem wd_good (s : ByteArray) : ∀ x ∈ wd s, x.data.toList ≠ [] ∧ ∀ c ∈ x.data.toList, bl c = false := by
  intro x hx
  obtain ⟨l, hl, rfl⟩ := List.mem_map.1 hx
  rw [tx_data]
  exact wl_good _ l hl

/-- How many runs begin among the first n bytes. -/
def bg (l : L8) : Nat → Nat
  | 0 => 0
  | n + 1 => bg l n + (if nb (l.getD n 0) && (decide (n = 0) || bl (l.getD (n - 1) 0)) then 1 else 0)
/-- How many runs begin, by what stood ahead. -/
def bs : Bool → L8 → Nat
  | _, [] => 0
  | p, c :: r => (if nb c && p then 1 else 0) + bs (bl c) r
theorem bs_bg (l : L8) : ∀ n, n ≤ l.length → bs true l = bg l n + bs (decide (n = 0) || bl (l.getD (n - 1) 0)) (l.drop n)
  | 0, _ => by simp [bg]
  | n + 1, h => by
    rw [bs_bg l n (by omega), bg, List.drop_eq_getElem_cons (show n < l.length by omega), bs]
    have e : l.getD n 0 = l[n]'(by omega) := by simp [List.getD, List.getElem?_eq_getElem (show n < l.length by omega)]
    rw [show (decide (n + 1 = 0) || bl (l.getD (n + 1 - 1) 0)) = bl (l[n]'(by omega)) by rw [Nat.add_sub_cancel, e]; simp, e]
    omega
theorem bs_all (t : L8) (ht : ∀ c ∈ t, nb c = true) : bs false t = 0 := by
  induction t with
  | nil => rfl
  | cons c r ih =>
    have h := ht c List.mem_cons_self
    have hb : bl c = false := by simpa [nb] using h
    rw [bs, hb, ih fun x hx => ht x (List.mem_cons_of_mem _ hx)]
    simp
theorem bs_app (t : L8) (b : UInt8) (r : L8) (ht : ∀ c ∈ t, nb c = true) (hb : bl b = true) (p : Bool) : bs p (t ++ b :: r) = (if t ≠ [] ∧ p = true then 1 else 0) + bs true r := by
  induction t generalizing p with
  | nil => simp [bs, hb, nb]
  | cons c u ih =>
    have h := ht c List.mem_cons_self
    have hc : bl c = false := by simpa [nb] using h
    rw [List.cons_append, bs, hc, ih (fun x hx => ht x (List.mem_cons_of_mem _ hx)), h]
    simp
theorem bs_wl (l : L8) : (wl l).length = bs true l := by
  refine run_ind (P := fun l => (wl l).length = bs true l) (by rw [wl_nil]; rfl) ?_ ?_ l.length l (Nat.le_refl _)
  · intro t ht hn
    rw [wl_all t ht hn]
    cases t with
    | nil => exact absurd rfl hn
    | cons c r =>
      have h := ht c List.mem_cons_self
      have hc : bl c = false := by simpa [nb] using h
      rw [bs, hc, bs_all r fun x hx => ht x (List.mem_cons_of_mem _ hx), h]
      rfl
  · intro t b r ht hb ih
    rw [wl_app t b r ht hb, List.length_append, ih, bs_app t b r ht hb]
    by_cases h : t = [] <;> simp [h]
theorem wd_len (s : ByteArray) : (wd s).length = bg s.data.toList s.size := by
  have e := bs_bg s.data.toList s.size (by rw [size_len]; exact Nat.le_refl _)
  rw [List.drop_eq_nil_of_le (by rw [size_len]; exact Nat.le_refl _)] at e
  rw [wd, List.length_map, bs_wl, e]
  rfl
theorem bg_le (l : L8) : ∀ n, bg l n ≤ n
  | 0 => Nat.le_refl _
  | n + 1 => by have := bg_le l n; rw [bg]; split <;> omega
theorem wd_le (s : ByteArray) : (wd s).length ≤ s.size := by rw [wd_len]; exact bg_le _ _
end Ch
end Go.Proofs.YtdemopkdcnaibaaGreatDoor

namespace Go.Proofs.YtdemopkdcnaibaaGreatDoor
open Go Go.RowKit Go.Deep

namespace Ie
theorem wd_1 : Wd 1 4607182418800017408 := ⟨by decide, by decide, by rw [un_1, Int.one_mul, show 1074 = 52 + 1022 by rfl, Nm.two_add]; rfl⟩
theorem pw4096 {V : Int} (h : V ≤ 9007199254740992) : V < Nm.pw 4096 := by
  have : Nm.pw 1 ≤ Nm.pw 4096 := Nm.pw_mono (by omega)
  have e : Nm.pw 1 = 18446744073709551616 := rfl
  omega
end Ie

set_option maxRecDepth 100000 in
set_option maxHeartbeats 2000000 in
theorem cplace_any (s : ByteArray) (d : Int) (w : World) (hT : Tab w) (d0 : 0 ≤ d) (d1 : d < 18446744073709551616) (ok : Ie.okd d = true) (hs : s.size ≤ 281474976710656) :
    Calls Tryz.prog 158 #[.string s, .int .u64 d] w fun e w' => e = .returned (.int .i64 (Ie.pls d ((s.size : Int) + 1))) ∧ Below w.heap.size w w' := by
  have hsi : (s.size : Int) ≤ 281474976710656 := by omega
  have CP1 := hid (compare_any d 4607182418800017408 w d0 d1 (by omega) (by omega))
  have C1 := (Ie.cmv_wd Ie.wd_1 (by omega) d0 d1 ok).1
  have FI := hid (fromI_nn ((s.size : Int) + 1) w hT (by omega) (by omega))
  by_cases a : Ie.ngd d = true ∨ Ie.un (Ie.ab d) < 1 * 2 ^ 1074
  · have cl := C1.2 a
    have E := hid (Ie.pls_low (L := (s.size : Int) + 1) (by omega) a)
    generalize Ie.cmv d 4607182418800017408 = c at *
    clear C1 a hT FI ok
    go_enter Tryz.func158, Tryz.ntmps158
    go_wp2_with fail
    refine CP1.out.mono ?_
    rintro e w1 ⟨rfl, hw⟩
    rw [hw]
    clear hw CP1
    go_wp2_with fail
    go_ret
    exact ⟨by rw [E.out]; rfl, Below.refl _ _⟩
  · have cl : ¬ Ie.cmv d 4607182418800017408 < 0 := fun h => a (C1.1 h)
    have C2 := hid (fun X (hx : Ie.Wd ((s.size : Int) + 1) X) => (Ie.cmv_wd hx (by omega) d0 d1 ok).2)
    have CP2 := hid (fun X wx (hx : Ie.Wd ((s.size : Int) + 1) X) => compare_any d X wx d0 d1 hx.1 (by have := hx.2.1; omega))
    have WD := hid (fun X (hx : Ie.Rnd ((s.size : Int) + 1) 1 0 false X) => Ie.wd_rnd (by omega) (by omega) hx)
    generalize Ie.cmv d 4607182418800017408 = c at *
    clear C1 hT
    by_cases b : Ie.ngd d = false ∧ ((s.size : Int) + 1) * 2 ^ 1074 < Ie.un (Ie.ab d)
    · have E := hid (Ie.pls_high (L := (s.size : Int) + 1) (by omega) b)
      have C3 : Hid (∀ X, Ie.Wd ((s.size : Int) + 1) X → 0 < Ie.cmv d X) := fun X hx => (C2.out X hx).2 b
      clear C2 a b ok
      go_enter Tryz.func158, Tryz.ntmps158
      go_wp2_with fail
      refine CP1.out.mono ?_
      rintro e w1 ⟨rfl, hw⟩
      rw [hw]
      clear hw CP1
      go_wp2_with fail
      refine FI.out.mono ?_
      rintro e w1 ⟨X, rfl, hR, hB⟩
      have hX := WD.out X hR
      have cg := C3.out X hX
      have CQ := hid (CP2.out X w1 hX)
      have HB := hid hB
      generalize Ie.cmv d X = c2 at *
      clear hX hR hB C3 CP2 WD FI
      go_wp2_with fail
      refine CQ.out.mono ?_
      rintro e w2 ⟨rfl, hw⟩
      rw [hw]
      clear hw CQ
      go_wp2_with fail
      go_ret
      exact ⟨by rw [E.out]; rfl, HB.out⟩
    · have M := Ie.pls_mid a b
      have C3 : Hid (∀ X, Ie.Wd ((s.size : Int) + 1) X → ¬ 0 < Ie.cmv d X) := fun X hx h => b ((C2.out X hx).1 h)
      have FL : Hid (∀ X, Ie.Wd ((s.size : Int) + 1) X → Ie.ab d < 9218868437227405312) := fun X hx => Ie.fin_le hx (by
        rcases Int.lt_or_le (((s.size : Int) + 1) * 2 ^ 1074) (Ie.un (Ie.ab d)) with g | g
        · exact absurd ⟨M.1, g⟩ b
        · exact g)
      have TI : Hid (∀ X wx, Ie.Wd ((s.size : Int) + 1) X → Calls Tryz.prog 57 #[.int .u64 d] wx fun e w' => ∃ f, e = .returned (.tuple #[.int .i64 (Ie.whp (Ie.ab d)), .int .i64 f]) ∧ Below wx.heap.size wx w') := fun X wx hx => by
        refine (toInt_fin d wx d0 d1 (FL.out X hx) false M.1 (Ie.whp (Ie.ab d)) rfl (by have := M.2.1; omega) (Ie.pw4096 (by have := M.2.2.1; omega))).mono ?_
        rintro e w' ⟨j, f, rfl, h, hB⟩
        rcases h with ⟨_, hj, _⟩ | ⟨h, _, _⟩
        · exact ⟨f, by rw [hj]; rfl, hB⟩
        · have := M.2.2.1
          simp at h
          omega
      have E := hid M.2.2.2
      clear C2 a b ok M FL
      generalize Ie.whp (Ie.ab d) = V at *
      go_enter Tryz.func158, Tryz.ntmps158
      go_wp2_with fail
      refine CP1.out.mono ?_
      rintro e w1 ⟨rfl, hw⟩
      rw [hw]
      clear hw CP1
      go_wp2_with fail
      refine FI.out.mono ?_
      rintro e w1 ⟨X, rfl, hR, hB⟩
      have hX := WD.out X hR
      have cg := C3.out X hX
      have CQ := hid (CP2.out X w1 hX)
      have TQ := hid (TI.out X w1 hX)
      have HB := hid hB
      generalize Ie.cmv d X = c2 at *
      clear hX hR hB C3 CP2 WD FI TI
      go_wp2_with fail
      refine CQ.out.mono ?_
      rintro e w2 ⟨rfl, hw⟩
      rw [hw]
      clear hw CQ
      go_wp2_with fail
      refine TQ.out.mono ?_
      rintro e w2 ⟨f, rfl, hB⟩
      have H2 := hid (below_on HB.out hB)
      clear hB TQ HB
      go_wp2_with fail
      go_ret
      exact ⟨by rw [E.out]; rfl, H2.out⟩

namespace Ch
/-- The bytes of s at the places from lo on, below hi. -/
def ct (s : ByteArray) (lo hi : Int) : ByteArray := if lo < hi then s.extract (lo.toNat - 1) (hi.toNat - 1) else ⟨#[]⟩
/-- What piece answers. -/
def pcs (s : ByteArray) (x e : Int) : ByteArray := if Ie.isn x = true ∨ Ie.isn e = true then ⟨#[]⟩ else ct s (Ie.pls x ((s.size : Int) + 1)) (Ie.pls e ((s.size : Int) + 1))
theorem ok_of {d : Int} (h : Ie.isn d = false) : Ie.okd d = true := by
  rw [Ie.isn, decide_eq_false_iff_not, Ie.ab] at h
  rw [Ie.okd, decide_eq_true_eq]; omega
theorem ct_same {s : ByteArray} {a b L : Int} (L1 : 1 ≤ L) : ct s (max 1 (min L a)) (max 1 (min L b)) = ct s (max 1 a) (min b L) := by
  rw [ct, ct]
  by_cases h : max 1 a < min b L
  · rw [if_pos h, if_pos (by omega), show max 1 (min L a) = max 1 a by omega, show max 1 (min L b) = min b L by omega]
  · rw [if_neg h, if_neg (by omega)]
theorem pls_inf {L : Int} (h : 1 ≤ L) (h2 : L ≤ 9007199254740992) : Ie.pls 9218868437227405312 L = L := by
  obtain ⟨X, hX⟩ := Ie.wd_ex (k := L) (by omega) h2
  refine Ie.pls_high h ⟨by decide, ?_⟩
  rw [← hX.2.2, show Ie.ab 9218868437227405312 = 9218868437227405312 by decide]
  exact Ie.un_lt hX.1 hX.2.1
theorem pls_bd (d : Int) {L : Int} (h : 1 ≤ L) : 1 ≤ Ie.pls d L ∧ Ie.pls d L ≤ L := by rw [Ie.pls]; omega
end Ch

set_option maxRecDepth 100000 in
set_option maxHeartbeats 4000000 in
theorem cpiece_any (s : ByteArray) (m x d : Int) (w : World) (hT : Tab w) (m0 : 0 ≤ m) (m1 : m < 18446744073709551616) (hx : Ie.WIs m (Ie.nrup (Ie.un (Ie.ab m))) x) (x0 : 0 ≤ x) (x1 : x < 18446744073709551616) (d0 : 0 ≤ d) (d1 : d < 18446744073709551616) (hs : s.size ≤ 281474976710656) :
    Calls Tryz.prog 84 #[.string s, .int .u64 m, .int .u64 d] w fun e w' => e = .returned (.string (Ch.pcs s x d)) ∧ Below w.heap.size w w' := by
  have hsi : (s.size : Int) ≤ 281474976710656 := by omega
  have NE : Hid (Calls Tryz.prog 147 #[.int .u64 m] w fun e w' => e = .returned (.int .u64 x) ∧ Below w.heap.size w w') := by
    refine (near6_any m w hT m0 m1).mono ?_
    rintro e w' ⟨r, rfl, h, hB⟩
    exact ⟨by rw [h.one hx], hB⟩
  have CX := hid (fun wx => class_any x wx x0 x1)
  have CD := hid (fun wx => class_any d wx d0 d1)
  have TB : Hid (∀ wx, Below w.heap.size w wx → Tab wx) := fun wx b => hT.below b
  have PX := hid (fun wx (b : Below w.heap.size w wx) (k : Ie.okd x = true) => cplace_any s x wx (TB.out wx b) x0 x1 k hs)
  have PD := hid (fun wx (b : Below w.heap.size w wx) (k : Ie.okd d = true) => cplace_any s d wx (TB.out wx b) d0 d1 k hs)
  have KX := Ie.isn_cls x
  have KD := Ie.isn_cls d
  have BX := Ch.pls_bd x (L := (s.size : Int) + 1) (by omega)
  have BD := Ch.pls_bd d (L := (s.size : Int) + 1) (by omega)
  cases nx : Ie.isn x with
  | true =>
    have E : Hid (Ch.pcs s x d = ⟨#[]⟩) := by rw [Hid, Ch.pcs, if_pos (.inl nx)]
    rw [nx] at KX
    have KX : Ie.cls x = 4 := by simpa using KX
    generalize Ie.cls x = cx at *
    clear PX PD TB BX BD KD CD hT hx nx
    go_enter Tryz.func84, Tryz.ntmps84
    go_wp2_with fail
    refine NE.out.mono ?_
    rintro e w1 ⟨rfl, hB⟩
    have HB := hid hB
    clear hB NE
    go_wp2_with fail
    refine (CX.out _).mono ?_
    rintro e w2 ⟨rfl, hw⟩
    rw [hw]
    clear hw CX
    go_wp2_with fail
    go_ret
    exact ⟨by rw [E.out]; rfl, HB.out⟩
  | false =>
    cases nd : Ie.isn d with
    | true =>
      have E : Hid (Ch.pcs s x d = ⟨#[]⟩) := by rw [Hid, Ch.pcs, if_pos (.inr nd)]
      rw [nx] at KX
      rw [nd] at KD
      have KX : ¬ Ie.cls x = 4 := by simpa using KX
      have KD : Ie.cls d = 4 := by simpa using KD
      generalize Ie.cls x = cx at *
      generalize Ie.cls d = cd at *
      clear PX PD TB BX BD hT hx nx nd
      go_enter Tryz.func84, Tryz.ntmps84
      go_wp2_with fail
      refine NE.out.mono ?_
      rintro e w1 ⟨rfl, hB⟩
      have HB := hid hB
      clear hB NE
      go_wp2_with fail
      refine (CX.out _).mono ?_
      rintro e w2 ⟨rfl, hw⟩
      rw [hw]
      clear hw CX
      go_wp2_with fail
      refine (CD.out _).mono ?_
      rintro e w2 ⟨rfl, hw⟩
      rw [hw]
      clear hw CD
      go_wp2_with fail
      go_ret
      exact ⟨by rw [E.out]; rfl, HB.out⟩
    | false =>
      have E : Hid (Ch.pcs s x d = Ch.ct s (Ie.pls x ((s.size : Int) + 1)) (Ie.pls d ((s.size : Int) + 1))) := by rw [Hid, Ch.pcs, if_neg (by rw [nx, nd]; simp)]
      rw [nx] at KX
      rw [nd] at KD
      have KX : ¬ Ie.cls x = 4 := by simpa using KX
      have KD : ¬ Ie.cls d = 4 := by simpa using KD
      have PX := hid (fun wx b => PX.out wx b (Ch.ok_of nx))
      have PD := hid (fun wx b => PD.out wx b (Ch.ok_of nd))
      generalize Ie.cls x = cx at *
      generalize Ie.cls d = cd at *
      obtain ⟨lo, hlo⟩ : ∃ lo : Nat, (lo : Int) + 1 = Ie.pls x ((s.size : Int) + 1) := ⟨(Ie.pls x ((s.size : Int) + 1) - 1).toNat, by omega⟩
      obtain ⟨hi, hhi⟩ : ∃ hi : Nat, (hi : Int) + 1 = Ie.pls d ((s.size : Int) + 1) := ⟨(Ie.pls d ((s.size : Int) + 1) - 1).toNat, by omega⟩
      rw [← hlo, ← hhi] at E
      rw [← hlo] at PX BX
      rw [← hhi] at PD BD
      have l2 : lo ≤ s.size := by omega
      have h2 : hi ≤ s.size := by omega
      have l2i : (lo : Int) ≤ (s.size : Int) := by omega
      have h2i : (hi : Int) ≤ (s.size : Int) := by omega
      have CLN := hid (fun wx (a b : Nat) => vclone_any (s.extract a b) wx (by rw [ByteArray.size_extract]; omega))
      clear TB BX BD hT hx nx nd hlo hhi
      by_cases c : lo < hi
      · have ci : (lo : Int) < (hi : Int) := by omega
        have E2 : Hid (Ch.ct s ((lo : Int) + 1) ((hi : Int) + 1) = s.extract lo hi) := by
          rw [Hid, Ch.ct, if_pos (by omega), show ((lo : Int) + 1).toNat - 1 = lo by omega, show ((hi : Int) + 1).toNat - 1 = hi by omega]
        go_enter Tryz.func84, Tryz.ntmps84
        go_wp2_with fail
        refine NE.out.mono ?_
        rintro e w1 ⟨rfl, hB⟩
        have HB := hid hB
        clear hB NE
        go_wp2_with fail
        refine (CX.out _).mono ?_
        rintro e w2 ⟨rfl, hw⟩
        rw [hw]
        clear hw CX
        go_wp2_with fail
        refine (CD.out _).mono ?_
        rintro e w2 ⟨rfl, hw⟩
        rw [hw]
        clear hw CD
        go_wp2_with fail
        refine (PX.out _ HB.out).mono ?_
        rintro e w2 ⟨rfl, hB⟩
        have HC := hid (below_on HB.out hB)
        clear hB PX HB
        go_wp2_with fail
        refine (PD.out _ HC.out).mono ?_
        rintro e w3 ⟨rfl, hB⟩
        have HD := hid (below_on HC.out hB)
        clear hB PD HC
        go_wp2_with fail
        refine (CLN.out _ _ _).mono ?_
        rintro e w4 ⟨rfl, hB⟩
        have HE := hid (below_on HD.out hB)
        clear hB HD CLN
        go_wp2_with fail
        go_ret
        exact ⟨by rw [E.out, E2.out]; rfl, HE.out⟩
      · have ci : ¬ (lo : Int) < (hi : Int) := by omega
        have E2 : Hid (Ch.ct s ((lo : Int) + 1) ((hi : Int) + 1) = ⟨#[]⟩) := by
          rw [Hid, Ch.ct, if_neg (by omega)]
        go_enter Tryz.func84, Tryz.ntmps84
        go_wp2_with fail
        refine NE.out.mono ?_
        rintro e w1 ⟨rfl, hB⟩
        have HB := hid hB
        clear hB NE
        go_wp2_with fail
        refine (CX.out _).mono ?_
        rintro e w2 ⟨rfl, hw⟩
        rw [hw]
        clear hw CX
        go_wp2_with fail
        refine (CD.out _).mono ?_
        rintro e w2 ⟨rfl, hw⟩
        rw [hw]
        clear hw CD
        go_wp2_with fail
        refine (PX.out _ HB.out).mono ?_
        rintro e w2 ⟨rfl, hB⟩
        have HC := hid (below_on HB.out hB)
        clear hB PX HB
        go_wp2_with fail
        refine (PD.out _ HC.out).mono ?_
        rintro e w3 ⟨rfl, hB⟩
        have HD := hid (below_on HC.out hB)
        clear hB PD HC
        go_wp2_with fail
        go_ret
        exact ⟨by rw [E.out, E2.out]; rfl, HD.out⟩

/-- What Substr and From answer. -/
theorem cfrom_any (s : ByteArray) (m x : Int) (w : World) (hT : Tab w) (m0 : 0 ≤ m) (m1 : m < 18446744073709551616) (hx : Ie.WIs m (Ie.nrup (Ie.un (Ie.ab m))) x) (x0 : 0 ≤ x) (x1 : x < 18446744073709551616) (hs : s.size ≤ 281474976710656) :
    Calls Tryz.prog 19 #[.string s, .int .u64 m] w fun e w' => e = .returned (.string (Ch.pcs s x 9218868437227405312)) ∧ Below w.heap.size w w' := by
  have P := hid (cpiece_any s m x 9218868437227405312 w hT m0 m1 hx x0 x1 (by omega) (by omega) hs)
  clear hT hx
  go_enter Tryz.func19, Tryz.ntmps19
  go_wp2_with fail
  refine P.out.mono ?_
  rintro e w1 ⟨rfl, hB⟩
  have HB := hid hB
  clear hB P
  go_wp2_with fail
  go_ret
  exact ⟨rfl, HB.out⟩

set_option maxRecDepth 100000 in
set_option maxHeartbeats 2000000 in
theorem csubstr_any (s : ByteArray) (m x n y r : Int) (w : World) (hT : Tab w) (m0 : 0 ≤ m) (m1 : m < 18446744073709551616) (hx : Ie.WIs m (Ie.nrup (Ie.un (Ie.ab m))) x) (x0 : 0 ≤ x) (x1 : x < 18446744073709551616)
    (n0 : 0 ≤ n) (n1 : n < 18446744073709551616) (hy : Ie.WIs n (Ie.nrup (Ie.un (Ie.ab n))) y) (y0 : 0 ≤ y) (y1 : y < 18446744073709551616) (hr : Ie.AddR x y r) (r0 : 0 ≤ r) (r1 : r < 18446744073709551616) (hs : s.size ≤ 281474976710656) :
    Calls Tryz.prog 20 #[.string s, .int .u64 m, .int .u64 n] w fun e w' => e = .returned (.string (Ch.pcs s x r)) ∧ Below w.heap.size w w' := by
  have TB : Hid (∀ wx, Below w.heap.size w wx → Tab wx) := fun wx b => hT.below b
  have BH : Hid (Calls Tryz.prog 85 #[.int .u64 m, .int .u64 n] w fun e w' => e = .returned (.int .u64 r) ∧ Below w.heap.size w w') := by
    have NX : Hid (Calls Tryz.prog 147 #[.int .u64 m] w fun e w' => e = .returned (.int .u64 x) ∧ Below w.heap.size w w') := by
      refine (near6_any m w hT m0 m1).mono ?_
      rintro e w' ⟨r, rfl, h, hB⟩
      exact ⟨by rw [h.one hx], hB⟩
    have NY : Hid (∀ wx, Below w.heap.size w wx → Calls Tryz.prog 147 #[.int .u64 n] wx fun e w' => e = .returned (.int .u64 y) ∧ Below wx.heap.size wx w') := fun wx b => by
      refine (near6_any n wx (TB.out wx b) n0 n1).mono ?_
      rintro e w' ⟨r, rfl, h, hB⟩
      exact ⟨by rw [h.one hy], hB⟩
    have AD : Hid (∀ wx, Below w.heap.size w wx → Calls Tryz.prog 160 #[.int .u64 x, .int .u64 y] wx fun e w' => e = .returned (.int .u64 r) ∧ Below wx.heap.size wx w') := fun wx b => by
      refine (softAdd_any x y wx x0 x1 y0 y1 (TB.out wx b)).mono ?_
      rintro e w' ⟨q, f, rfl, h, hB⟩
      exact ⟨by rw [h.r.one hr], hB⟩
    clear hT hx hy hr TB
    rw [Hid]
    go_enter Tryz.func85, Tryz.ntmps85
    go_wp2_with fail
    refine NX.out.mono ?_
    rintro e w1 ⟨rfl, hB⟩
    have HB := hid hB
    clear hB NX
    go_wp2_with fail
    refine (NY.out _ HB.out).mono ?_
    rintro e w2 ⟨rfl, hB⟩
    have HC := hid (below_on HB.out hB)
    clear hB NY HB
    go_wp2_with fail
    refine (AD.out _ HC.out).mono ?_
    rintro e w3 ⟨rfl, hB⟩
    have HD := hid (below_on HC.out hB)
    clear hB AD HC
    go_wp2_with fail
    go_ret
    exact ⟨rfl, HD.out⟩
  have P := hid (fun wx (b : Below w.heap.size w wx) => cpiece_any s m x r wx (TB.out wx b) m0 m1 hx x0 x1 r0 r1 hs)
  clear hT hx hy hr TB
  go_enter Tryz.func20, Tryz.ntmps20
  go_wp2_with fail
  refine BH.out.mono ?_
  rintro e w1 ⟨rfl, hB⟩
  have HB := hid hB
  clear hB BH
  go_wp2_with fail
  refine (P.out _ HB.out).mono ?_
  rintro e w2 ⟨rfl, hB⟩
  have HC := hid (below_on HB.out hB)
  clear hB P HB
  go_wp2_with fail
  go_ret
  exact ⟨rfl, HC.out⟩
end Go.Proofs.YtdemopkdcnaibaaGreatDoor

namespace Go.Proofs.YtdemopkdcnaibaaGreatDoor
open Go Go.RowKit Go.Deep

set_option maxRecDepth 100000 in
theorem zput_any (neg : Bool) (e f : Int) (w : World) (e0 : 0 ≤ e) (e1 : e ≤ 2047) (f0 : 0 ≤ f) (f1 : f ≤ 9007199254740992) (h : e * 4503599627370496 + f < 9223372036854775808) :
    Calls Tryz.prog 95 #[.bool neg, .int .i64 e, .int .u64 f] w fun r w' => r = .returned (.int .u64 (Ie.sg neg (e * 4503599627370496 + f))) ∧ w' = w := by
  cases neg
  · go_enter Tryz.func95, Tryz.ntmps95
    go_wp2
    go_ret
    exact ⟨rfl, rfl⟩
  · go_enter Tryz.func95, Tryz.ntmps95
    go_wp2
    go_ret
    exact ⟨rfl, rfl⟩

theorem ret_sg {neg : Bool} {a b : Int} (h : a = b) : Ending.returned (.tuple #[.int .u64 (Ie.sg neg a), .int .i64 0]) = .returned (.tuple #[.int .u64 (Ie.sg neg b), .int .i64 0]) := by rw [h]
end Go.Proofs.YtdemopkdcnaibaaGreatDoor

/-
  The document's put and Decode.
-/
namespace Go.Proofs.YtdemopkdcnaibaaGreatDoor
open Go Go.RowKit Go.Deep

set_option maxRecDepth 100000 in
set_option maxHeartbeats 4000000 in
theorem zdecode_any (d : Int) (w : World) (h0 : 0 ≤ d) (h1 : d < 18446744073709551616) :
    Calls Tryz.prog 26 #[.int .u64 d] w fun e w' => e = .returned (partsOf (decide (9223372036854775808 ≤ d)) (Ie.cls d) (Ie.dm d) (Ie.de d)) ∧ Below w.heap.size w w' := by
  obtain ⟨f, hf⟩ : ∃ f, d / 4503599627370496 % 2048 = f := ⟨_, rfl⟩
  obtain ⟨y, hy⟩ : ∃ y, d % 4503599627370496 = y := ⟨_, rfl⟩
  obtain ⟨sv, hs⟩ : ∃ sv, d / 9223372036854775808 = sv := ⟨_, rfl⟩
  have hf' : Ie.fld d = f := hf
  have fb0 : 0 ≤ f := by omega
  have fb1 : f < 2048 := by omega
  have y0 : 0 ≤ y := by omega
  have y1 : y < 4503599627370496 := by omega
  have sc : (sv = 0 ∧ decide (9223372036854775808 ≤ d) = false) ∨ (sv = 1 ∧ decide (9223372036854775808 ≤ d) = true) := by
    rcases (show d < 9223372036854775808 ∨ 9223372036854775808 ≤ d by omega) with h | h
    · left; exact ⟨by omega, by simp; omega⟩
    · right; exact ⟨by omega, by simp; omega⟩
  have hc : Ie.cls d = if f = 0 then (if y = 0 then 0 else 1) else if f = 2047 then (if y = 0 then 3 else 4) else 2 := by rw [Ie.cls, hf', hy]
  have hm : Ie.dm d = if Ie.cls d = 2 then 4503599627370496 + y else if Ie.cls d = 1 ∨ Ie.cls d = 4 then y else 0 := by rw [Ie.dm, hy]
  have he : Ie.de d = if Ie.cls d = 2 then f - 1075 else if Ie.cls d = 1 then -1074 else 0 := by rw [Ie.de, hf']
  rcases sc with ⟨hv, sn⟩ | ⟨hv, sn⟩ <;> rw [sn] <;> rw [hv] at hs <;> clear hv sn
  · by_cases a : f = 0
    · subst a
      by_cases b : y = 0
      · subst b
        rw [if_pos rfl, if_pos rfl] at hc
        rw [hm, he, hc]
        show Calls _ _ _ _ fun e w' => e = .returned (partsOf _ 0 0 0) ∧ _
        go_enter Tryz.func26, Tryz.ntmps26
        go_wp2_with fail
        (try simp only [Exit.inBlock, Exit.then])
        refine bodyPost_ret (results_cell_row rfl _ _ w.heap.size 26 _ (0, 0) _ rfl (heap_alloc_new _ _) Tryz.underlying26 rfl (by kernel_rfl)) rfl ?_
        exact ⟨rfl, Below.alloc (Below.refl _ _) (Nat.le_refl _) _⟩
      · have b' : (y == 0) = false := by rw [beq_eq_false_iff_ne]; exact b
        rw [if_pos rfl, if_neg b] at hc
        rw [hm, he, hc]
        show Calls _ _ _ _ fun e w' => e = .returned (partsOf _ 1 y (-1074)) ∧ _
        go_enter Tryz.func26, Tryz.ntmps26
        go_wp2_with fail
        (try simp only [Exit.inBlock, Exit.then])
        refine bodyPost_ret (results_cell_row rfl _ _ w.heap.size 26 _ (0, 0) _ rfl (heap_alloc_new _ _) Tryz.underlying26 rfl (by kernel_rfl)) rfl ?_
        exact ⟨rfl, Below.alloc (Below.refl _ _) (Nat.le_refl _) _⟩
    · have a' : (f == 0) = false := by rw [beq_eq_false_iff_ne]; exact a
      have ap : 0 < f := by omega
      by_cases a2 : f = 2047
      · subst a2
        by_cases b : y = 0
        · subst b
          rw [if_neg a, if_pos rfl, if_pos rfl] at hc
          rw [hm, he, hc]
          show Calls _ _ _ _ fun e w' => e = .returned (partsOf _ 3 0 0) ∧ _
          go_enter Tryz.func26, Tryz.ntmps26
          go_wp2_with fail
          (try simp only [Exit.inBlock, Exit.then])
          refine bodyPost_ret (results_cell_row rfl _ _ w.heap.size 26 _ (0, 0) _ rfl (heap_alloc_new _ _) Tryz.underlying26 rfl (by kernel_rfl)) rfl ?_
          exact ⟨rfl, Below.alloc (Below.refl _ _) (Nat.le_refl _) _⟩
        · have b' : (y == 0) = false := by rw [beq_eq_false_iff_ne]; exact b
          rw [if_neg a, if_pos rfl, if_neg b] at hc
          rw [hm, he, hc]
          show Calls _ _ _ _ fun e w' => e = .returned (partsOf _ 4 y 0) ∧ _
          go_enter Tryz.func26, Tryz.ntmps26
          go_wp2_with fail
          (try simp only [Exit.inBlock, Exit.then])
          refine bodyPost_ret (results_cell_row rfl _ _ w.heap.size 26 _ (0, 0) _ rfl (heap_alloc_new _ _) Tryz.underlying26 rfl (by kernel_rfl)) rfl ?_
          exact ⟨rfl, Below.alloc (Below.refl _ _) (Nat.le_refl _) _⟩
      · have a2' : (f == 2047) = false := by rw [beq_eq_false_iff_ne]; exact a2
        rw [if_neg a, if_neg a2] at hc
        rw [hm, he, hc]
        show Calls _ _ _ _ fun e w' => e = .returned (partsOf _ 2 (4503599627370496 + y) (f - 1075)) ∧ _
        go_enter Tryz.func26, Tryz.ntmps26
        go_wp2_with fail
        (try simp only [Exit.inBlock, Exit.then])
        refine bodyPost_ret (results_cell_row rfl _ _ w.heap.size 26 _ (0, 0) _ rfl (heap_alloc_new _ _) Tryz.underlying26 rfl (by kernel_rfl)) rfl ?_
        exact ⟨rfl, Below.alloc (Below.refl _ _) (Nat.le_refl _) _⟩
  · by_cases a : f = 0
    · subst a
      by_cases b : y = 0
      · subst b
        rw [if_pos rfl, if_pos rfl] at hc
        rw [hm, he, hc]
        show Calls _ _ _ _ fun e w' => e = .returned (partsOf _ 0 0 0) ∧ _
        go_enter Tryz.func26, Tryz.ntmps26
        go_wp2_with fail
        (try simp only [Exit.inBlock, Exit.then])
        refine bodyPost_ret (results_cell_row rfl _ _ w.heap.size 26 _ (0, 0) _ rfl (heap_alloc_new _ _) Tryz.underlying26 rfl (by kernel_rfl)) rfl ?_
        exact ⟨rfl, Below.alloc (Below.refl _ _) (Nat.le_refl _) _⟩
      · have b' : (y == 0) = false := by rw [beq_eq_false_iff_ne]; exact b
        rw [if_pos rfl, if_neg b] at hc
        rw [hm, he, hc]
        show Calls _ _ _ _ fun e w' => e = .returned (partsOf _ 1 y (-1074)) ∧ _
        go_enter Tryz.func26, Tryz.ntmps26
        go_wp2_with fail
        (try simp only [Exit.inBlock, Exit.then])
        refine bodyPost_ret (results_cell_row rfl _ _ w.heap.size 26 _ (0, 0) _ rfl (heap_alloc_new _ _) Tryz.underlying26 rfl (by kernel_rfl)) rfl ?_
        exact ⟨rfl, Below.alloc (Below.refl _ _) (Nat.le_refl _) _⟩
    · have a' : (f == 0) = false := by rw [beq_eq_false_iff_ne]; exact a
      have ap : 0 < f := by omega
      by_cases a2 : f = 2047
      · subst a2
        by_cases b : y = 0
        · subst b
          rw [if_neg a, if_pos rfl, if_pos rfl] at hc
          rw [hm, he, hc]
          show Calls _ _ _ _ fun e w' => e = .returned (partsOf _ 3 0 0) ∧ _
          go_enter Tryz.func26, Tryz.ntmps26
          go_wp2_with fail
          (try simp only [Exit.inBlock, Exit.then])
          refine bodyPost_ret (results_cell_row rfl _ _ w.heap.size 26 _ (0, 0) _ rfl (heap_alloc_new _ _) Tryz.underlying26 rfl (by kernel_rfl)) rfl ?_
          exact ⟨rfl, Below.alloc (Below.refl _ _) (Nat.le_refl _) _⟩
        · have b' : (y == 0) = false := by rw [beq_eq_false_iff_ne]; exact b
          rw [if_neg a, if_pos rfl, if_neg b] at hc
          rw [hm, he, hc]
          show Calls _ _ _ _ fun e w' => e = .returned (partsOf _ 4 y 0) ∧ _
          go_enter Tryz.func26, Tryz.ntmps26
          go_wp2_with fail
          (try simp only [Exit.inBlock, Exit.then])
          refine bodyPost_ret (results_cell_row rfl _ _ w.heap.size 26 _ (0, 0) _ rfl (heap_alloc_new _ _) Tryz.underlying26 rfl (by kernel_rfl)) rfl ?_
          exact ⟨rfl, Below.alloc (Below.refl _ _) (Nat.le_refl _) _⟩
      · have a2' : (f == 2047) = false := by rw [beq_eq_false_iff_ne]; exact a2
        rw [if_neg a, if_neg a2] at hc
        rw [hm, he, hc]
        show Calls _ _ _ _ fun e w' => e = .returned (partsOf _ 2 (4503599627370496 + y) (f - 1075)) ∧ _
        go_enter Tryz.func26, Tryz.ntmps26
        go_wp2_with fail
        (try simp only [Exit.inBlock, Exit.then])
        refine bodyPost_ret (results_cell_row rfl _ _ w.heap.size 26 _ (0, 0) _ rfl (heap_alloc_new _ _) Tryz.underlying26 rfl (by kernel_rfl)) rfl ?_
        exact ⟨rfl, Below.alloc (Below.refl _ _) (Nat.le_refl _) _⟩
end Go.Proofs.YtdemopkdcnaibaaGreatDoor

namespace Go.Proofs.YtdemopkdcnaibaaGreatDoor
open Go.RowKit Go.Deep

theorem cmp_at3 {zs ys : List Int} (hz : Nm.Limbs zs) (hy : Nm.Limbs ys) (hl : (Nm.trim zs).length = (Nm.trim ys).length) (t : Nat) (ht : t < (Nm.trim zs).length) (he : ∀ i, t + 1 ≤ i → (Nm.trim zs).getD i 0 = (Nm.trim ys).getD i 0) {x y : Int}
    (hx : x = (Nm.trim zs).getD t 0) (hy' : y = (Nm.trim ys).getD t 0) : (x < y → cmpI (Nm.val zs) (Nm.val ys) = -1) ∧ (y < x → cmpI (Nm.val zs) (Nm.val ys) = 1) := by
  refine ⟨fun h => ?_, fun h => ?_⟩
  · rw [← cmp_at hz hy hl t ht he hx hy' (by omega)]
    simp [sgn]; omega
  · rw [← cmp_at hz hy hl t ht he hx hy' (by omega)]
    simp [sgn, h]

set_option maxRecDepth 100000 in
set_option maxHeartbeats 2000000 in
theorem refCmp_any (p q : Option Addr) (n cap m cap' : Nat) (zs ys : List Int) (w : World) (ha : Arg w p n cap zs) (hb : Arg w q m cap' ys) :
    Calls Tryz.prog 125 #[.slice p n cap, .slice q m cap'] w fun e w' => e = .returned (.int .i64 (cmpI (Nm.val zs) (Nm.val ys))) ∧ Below w.heap.size w w' := by
  obtain ⟨a1, a2, a3, a4, a5⟩ := ha
  obtain ⟨b1, b2, b3, b4, b5⟩ := hb
  have tl := Nm.tsize_le zs
  have tl' := Nm.tsize_le ys
  have S1 := hid (refSize_any p n cap zs w a1 (by omega) a4)
  have S2 := hid (refSize_any q m cap' ys w b1 (by omega) b4)
  by_cases h1 : Nm.tsize zs < Nm.tsize ys
  · have E := hid (cmpI_lt (val_lt_of_tsize a5 b5 h1))
    have h1' : (Nm.tsize zs : Int) < (Nm.tsize ys : Int) := by omega
    clear h1
    go_enter Tryz.func125, Tryz.ntmps125
    go_wp2_with fail
    refine S1.out.mono ?_
    rintro e w' ⟨rfl, rfl⟩
    go_wp2_with fail
    refine S2.out.mono ?_
    rintro e w' ⟨rfl, rfl⟩
    go_wp2
    go_ret
    exact ⟨ret_i64 E.out.symm, Below.refl _ _⟩
  by_cases h2 : Nm.tsize ys < Nm.tsize zs
  · have E := hid (cmpI_gt (val_lt_of_tsize b5 a5 h2))
    have h1' : ¬ (Nm.tsize zs : Int) < (Nm.tsize ys : Int) := by omega
    have h2' : (Nm.tsize ys : Int) < (Nm.tsize zs : Int) := by omega
    clear h1 h2
    go_enter Tryz.func125, Tryz.ntmps125
    go_wp2_with fail
    refine S1.out.mono ?_
    rintro e w' ⟨rfl, rfl⟩
    go_wp2_with fail
    refine S2.out.mono ?_
    rintro e w' ⟨rfl, rfl⟩
    go_wp2
    go_ret
    exact ⟨ret_i64 E.out.symm, Below.refl _ _⟩
  obtain ⟨N, HN⟩ : ∃ N, Hid (Nm.tsize zs = N) := ⟨_, rfl⟩
  have HN' : Hid (Nm.tsize ys = N) := by have := HN.out; exact (show Nm.tsize ys = N by omega)
  have T1 := S1.out
  have T2 := S2.out
  rw [HN.out] at T1
  rw [HN'.out] at T2
  have HT1 := hid T1
  have HT2 := hid T2
  have hN : N ≤ 17592186044416 := by have := HN.out; omega
  have L1 := hid (Nm.trim_length zs)
  have L2 := hid (Nm.trim_length ys)
  clear h1 h2 tl tl' T1 T2 S1 S2
  have FIN : Hid (Nm.trim zs = Nm.trim ys → cmpI (Nm.val zs) (Nm.val ys) = 0) := fun h => cmpI_eq (by rw [← Nm.val_trim zs, ← Nm.val_trim ys, h])
  by_cases h0 : N = 0
  · subst h0
    go_enter Tryz.func125, Tryz.ntmps125
    go_wp2_with fail
    refine HT1.out.mono ?_
    rintro e w' ⟨rfl, rfl⟩
    go_wp2_with fail
    refine HT2.out.mono ?_
    rintro e w' ⟨rfl, rfl⟩
    go_wp2_with fail
    refine wp_loop_rounds 1 ?_
    rw [rounds_succ]
    go_wp2
    go_ret
    exact ⟨ret_i64 (FIN.out (by rw [List.eq_nil_of_length_eq_zero (L1.out.trans HN.out), List.eq_nil_of_length_eq_zero (L2.out.trans HN'.out)])).symm, Below.refl _ _⟩
  · obtain ⟨b, off, rfl, hbw, HC⟩ := a4.trim.at (by have := L1.out; have := HN.out; omega)
    obtain ⟨b', off', rfl, hbw', HC'⟩ := b4.trim.at (by have := L2.out; have := HN'.out; omega)
    have hNn : N ≤ n := by have := HN.out; have := Nm.tsize_le zs; omega
    have hNm : N ≤ m := by have := HN'.out; have := Nm.tsize_le ys; omega
    go_enter Tryz.func125, Tryz.ntmps125
    go_wp2_with fail
    refine HT1.out.mono ?_
    rintro e w' ⟨rfl, rfl⟩
    go_wp2_with fail
    refine HT2.out.mono ?_
    rintro e w' ⟨rfl, rfl⟩
    go_wp2_with fail
    go_loopw [7] (fun i wr => ∃ j : Nat, j ≤ N ∧ i = .int .i64 ((j : Int) - 1) ∧ Hid (∀ t, j ≤ t → (Nm.trim zs).getD t 0 = (Nm.trim ys).getD t 0) ∧ Below w'.heap.size w' wr) (fun i _ => (intOf i + 1).toNat)
    case atStart => exact ⟨N, Nat.le_refl _, rfl, fun t ht => by rw [List.getD, List.getElem?_eq_none (by have := L1.out; have := HN.out; omega), List.getD, List.getElem?_eq_none (by have := L2.out; have := HN'.out; omega)], Below.refl _ _⟩
    case round =>
      obtain ⟨j, hj, rfl, hE, hB⟩ := hrel
      by_cases hj0 : j = 0
      · subst hj0
        have HB := hid hB
        clear hB
        go_wp2
        go_ret
        refine ⟨ret_i64 (FIN.out ?_).symm, HB.out⟩
        have e := Nm.drop_eq_of_getD (by rw [L1.out, L2.out, HN.out, HN'.out]) 0 hE.out
        simpa using e
      · obtain ⟨t, rfl⟩ : ∃ t, j = t + 1 := ⟨j - 1, by omega⟩
        obtain ⟨x, hx, X⟩ : ∃ x, wr.cell? ⟨b, off + t, none⟩ = some (.int .u64 x) ∧ Hid (x = (Nm.trim zs).getD t 0) := ⟨_, (hB.cell (p := ⟨b, off + t, none⟩) hbw).trans (HC.out t (by have := L1.out; have := HN.out; omega)), rfl⟩
        obtain ⟨y, hy, Y⟩ : ∃ y, wr.cell? ⟨b', off' + t, none⟩ = some (.int .u64 y) ∧ Hid (y = (Nm.trim ys).getD t 0) := ⟨_, (hB.cell (p := ⟨b', off' + t, none⟩) hbw').trans (HC'.out t (by have := L2.out; have := HN'.out; omega)), rfl⟩
        have HB := hid hB
        have CM := hid (cmp_at3 a5 b5 (by rw [L1.out, L2.out, HN.out, HN'.out]) t (by rw [L1.out, HN.out]; omega) hE.out X.out Y.out)
        clear hB
        have htn : (t : Int) < (n : Int) := by omega
        have htm : (t : Int) < (m : Int) := by omega
        by_cases hxy : x < y
        · go_wp2_with fail
          go_quiet (fail)
          go_wp2
          go_ret
          exact ⟨ret_i64 (CM.out.1 hxy).symm, below_drewN HB.out _⟩
        · go_wp2_with fail
          go_quiet (fail)
          have hx2 : (wr.drewN nq).cell? ⟨b, off + t, none⟩ = some (.int .u64 x) := hx
          have hy2 : (wr.drewN nq).cell? ⟨b', off' + t, none⟩ = some (.int .u64 y) := hy
          have HB2 := hid (below_drewN HB.out nq)
          clear hx hy HB
          generalize wr.drewN nq = wq at *
          by_cases hyx : y < x
          · go_wp2_with fail
            go_quiet (fail)
            go_wp2
            go_ret
            exact ⟨ret_i64 (CM.out.2 hyx).symm, below_drewN HB2.out _⟩
          · have EQ : Hid (x = y) := by show _ = _; omega
            go_wp2_with fail
            go_quiet (fail)
            go_wp2
            go_roundw
            case rel =>
              refine ⟨t, by omega, by go_num, fun i hi => ?_, below_drewN HB2.out _⟩
              by_cases e : i = t
              · subst e; rw [← X.out, ← Y.out]; exact EQ.out
              · exact hE.out i (by omega)
            case measure => simp [intOf]
end Go.Proofs.YtdemopkdcnaibaaGreatDoor
