/-
  Texts put together: IWalk1B, IOrdD, IOrdC, Walk1, Walk5a, V0, VStr, ReN, VaC, IWalk1, IOrd1, IOrd2, VCompare, VCmpI, IDec, INum2, IKinds, IIntgN, VItoa, VClone, ReLay, NMem, NStr, Bits, Walk2a, Len, BitLenW, SmallA, BlenIs, NToU, NSpread0, Walk5, Small, QLimbs, FromW, TrimW, NGroup, NBTrim, FDec, XMem, TrailW, MSt, FRow3, VTrimL, NSTrim, NClone, JPadN, JLay, S4B, NPush, PoT10, FTab, LTab.
-/
import Derived.Test.YtigmhnlcmhpepaaGreatDoorWAA
import Derived.Deep.QuietTactic
import Derived.BigQuiet
import Derived.Test.YtigmhnlcmhpepaaGreatDoorRows
import Derived.WalkKit
import Derived.WalkSpells
import Derived.Deep.OwnRows
import Derived.Laws.CopyRow
import Derived.Laws.IdiomCopy
import Derived.Laws.AppendOwn
import Derived.Laws.MakeOwn
import Derived.Laws.Rows
import Derived.Laws.Concat
import Derived.OpenShut
import Derived.WalkMore
import Derived.ScopeJumps
import Derived.Deep.RegionWith
import Derived.Laws.ResultCell
import Derived.Test.YtigmhnlcmhpepaaGreatDoorWAB
import Derived.Laws.BytesArg
import Derived.Laws.IdiomStrings
import Derived.Laws.Strings3
import Derived.Laws.DeepStrings4
import Derived.Deep.LoopGhost
import Derived.Deep.RegionHeld3
import Derived.Deep.CutBlock
import Derived.Deep.CutRange
import Derived.Deep.DeepCutAuto
import Derived.Shelf.Small.Strs
import Derived.Shelf.Strconv.Itoa3
import Derived.Shelf.Pu.Clone
import Derived.Shelf.SlSortCmp.WholeK
import Derived.Shelf.Bits.Mul64
import Derived.Shelf.Strconv.Itoa0
import Derived.Laws.Bits64b
import Derived.Lib.ItoaNum
import Derived.BigRegion
import Derived.Shelf.Spec.TrailingZeros
import Derived.Shelf.Strings.Repeat
import Derived.Laws.OwnMore
import Derived.Lib.LaidTab
/-
  ieee: field, Class.
-/
namespace Go.Proofs.YtigmhnlcmhpepaaGreatDoor
open Go Go.RowKit Go.Deep

set_option maxRecDepth 100000 in
set_option maxHeartbeats 1000000 in
theorem field_any (d : Int) (w : World) (h0 : 0 ≤ d) (h1 : d < 18446744073709551616) :
    Calls Tryz.prog 74 #[.int .u64 d] w fun e w' => e = .returned (.int .i64 (Ie.fld d)) ∧ w' = w := by
  obtain ⟨q, hq⟩ : ∃ q, d / 4503599627370496 = q := ⟨_, rfl⟩
  have q0 : 0 ≤ q := by omega
  have q1 : q < 18446744073709551616 := by omega
  have B := Ib.field_and q q0 q1
  have E : Hid (Ie.fld d = q % 2048) := by rw [Hid, Ie.fld, hq]
  have m0 : 0 ≤ q % 2048 := by omega
  have m1 : q % 2048 ≤ 2047 := by omega
  go_enter Tryz.func74, Tryz.ntmps74
  go_wp2
  go_ret
  exact ⟨i_retI E.out.symm, rfl⟩

set_option maxRecDepth 100000 in
set_option maxHeartbeats 1000000 in
theorem class_any (d : Int) (w : World) (h0 : 0 ≤ d) (h1 : d < 18446744073709551616) :
    Calls Tryz.prog 54 #[.int .u64 d] w fun e w' => e = .returned (.int .i64 (Ie.cls d)) ∧ w' = w := by
  have B := Ib.frac_and d h0 h1
  have F := hid (field_any d w h0 h1)
  obtain ⟨f, hf⟩ : ∃ f, Ie.fld d = f := ⟨_, rfl⟩
  rw [hf] at F
  have f0 : 0 ≤ f ∧ f < 2048 := by rw [← hf]; simp only [Ie.fld]; omega
  by_cases hz : d % 4503599627370496 = 0
  · by_cases e1 : f = 0
    · subst e1
      have E : Hid (Ie.cls d = 0) := by rw [Hid, Ie.cls, if_pos hf, if_pos hz]
      clear hf f0
      go_enter Tryz.func54, Tryz.ntmps54
      go_wp2_with fail
      refine F.out.mono ?_
      rintro e w' ⟨rfl, rfl⟩
      go_wp2_with fail
      go_ret
      exact ⟨i_retI E.out.symm, rfl⟩
    · by_cases e2 : f = 2047
      · subst e2
        have E : Hid (Ie.cls d = 3) := by rw [Hid, Ie.cls, if_neg (by omega), if_pos hf, if_pos hz]
        clear hf f0 e1
        go_enter Tryz.func54, Tryz.ntmps54
        go_wp2_with fail
        refine F.out.mono ?_
        rintro e w' ⟨rfl, rfl⟩
        go_wp2_with fail
        go_ret
        exact ⟨i_retI E.out.symm, rfl⟩
      · have E : Hid (Ie.cls d = 2) := by rw [Hid, Ie.cls, if_neg (by omega), if_neg (by omega)]
        have e1' : (f == 0) = false := by rw [beq_eq_false_iff_ne]; exact e1
        have e2' : (f == 2047) = false := by rw [beq_eq_false_iff_ne]; exact e2
        clear hf f0
        go_enter Tryz.func54, Tryz.ntmps54
        go_wp2_with fail
        refine F.out.mono ?_
        rintro e w' ⟨rfl, rfl⟩
        go_wp2_with fail
        go_ret
        exact ⟨i_retI E.out.symm, rfl⟩
  · have hz' : (d % 4503599627370496 == 0) = false := by rw [beq_eq_false_iff_ne]; exact hz
    by_cases e1 : f = 0
    · subst e1
      have E : Hid (Ie.cls d = 1) := by rw [Hid, Ie.cls, if_pos hf, if_neg hz]
      clear hf f0
      go_enter Tryz.func54, Tryz.ntmps54
      go_wp2_with fail
      refine F.out.mono ?_
      rintro e w' ⟨rfl, rfl⟩
      go_wp2_with fail
      go_ret
      exact ⟨i_retI E.out.symm, rfl⟩
    · by_cases e2 : f = 2047
      · subst e2
        have E : Hid (Ie.cls d = 4) := by rw [Hid, Ie.cls, if_neg (by omega), if_pos hf, if_neg hz]
        clear hf f0 e1
        go_enter Tryz.func54, Tryz.ntmps54
        go_wp2_with fail
        refine F.out.mono ?_
        rintro e w' ⟨rfl, rfl⟩
        go_wp2_with fail
        go_ret
        exact ⟨i_retI E.out.symm, rfl⟩
      · have E : Hid (Ie.cls d = 2) := by rw [Hid, Ie.cls, if_neg (by omega), if_neg (by omega)]
        have e1' : (f == 0) = false := by rw [beq_eq_false_iff_ne]; exact e1
        have e2' : (f == 2047) = false := by rw [beq_eq_false_iff_ne]; exact e2
        clear hf f0
        go_enter Tryz.func54, Tryz.ntmps54
        go_wp2_with fail
        refine F.out.mono ?_
        rintro e w' ⟨rfl, rfl⟩
        go_wp2_with fail
        go_ret
        exact ⟨i_retI E.out.symm, rfl⟩

end Go.Proofs.YtigmhnlcmhpepaaGreatDoor

/-
  ieee: the order of doubles, in numbers.
-/
namespace Go.Proofs.YtigmhnlcmhpepaaGreatDoor
open Go Go.RowKit Go.Deep

namespace Ie
/-- No NaN. -/
def okd (d : Int) : Bool := decide (d % 9223372036854775808 ≤ 9218868437227405312)
/-- The rank. -/
def rk (d : Int) : Int := if d < 9223372036854775808 then d else 9223372036854775808 - d
theorem cls4 (d : Int) : cls d = 4 ↔ okd d = false := by
  rw [okd, decide_eq_false_iff_not, cls]
  by_cases a : fld d = 0
  · rw [if_pos a]
    simp only [fld] at a
    by_cases b : d % 4503599627370496 = 0
    · rw [if_pos b]; omega
    · rw [if_neg b]; omega
  · rw [if_neg a]
    by_cases c : fld d = 2047
    · rw [if_pos c]
      simp only [fld] at a c
      by_cases b : d % 4503599627370496 = 0
      · rw [if_pos b]; omega
      · rw [if_neg b]; omega
    · rw [if_neg c]
      simp only [fld] at a c
      omega
/-- Rank's number. -/
def rkv (d : Int) : Int := if okd d = true then rk d else 0
end Ie

theorem ret_i64b {a b : Int} {c d : Bool} (h : a = b) (k : c = d) : Ending.returned (.tuple #[.int .i64 a, .bool c]) = .returned (.tuple #[.int .i64 b, .bool d]) := by rw [h, k]
end Go.Proofs.YtigmhnlcmhpepaaGreatDoor

/-
  Orders as numbers.
-/
namespace Go.Proofs.YtigmhnlcmhpepaaGreatDoor
open Go Go.RowKit Go.Deep

namespace Ie
/-- -1, 0 or 1. -/
def cm (a b : Int) : Int := if a < b then -1 else if b < a then 1 else 0
end Ie

namespace Ie
/-- Compare's number. -/
def cmv (a b : Int) : Int := if okd a = true ∧ okd b = true then cm (rk a) (rk b) else 0
end Ie
end Go.Proofs.YtigmhnlcmhpepaaGreatDoor

namespace Go.Proofs.YtigmhnlcmhpepaaGreatDoor
open Go.RowKit Go.Deep

theorem ret_slice {p : Option Addr} {a b : Nat} (h : a = b) : Ending.returned (.slice p a a) = .returned (.slice p b b) := by rw [h]

set_option maxHeartbeats 400000 in
theorem trimmed_any (p : Option Addr) (n cap : Nat) (zs : List Int) (w : World) (hn : zs.length = n) (hc : n ≤ cap) (hm : cap ≤ 140737488355328) (h : Lies w p zs) :
    Calls Tryz.prog 177 #[.slice p n cap] w fun e w' => e = .returned (.slice p (Nm.tsize zs) (Nm.tsize zs)) ∧ w' = w := by
  rcases h with rfl | ⟨b, off, rfl, hcell⟩
  · have hn0 : n = 0 := by simpa using hn.symm
    subst hn0
    go_enter Tryz.func177, Tryz.ntmps177
    go_wp2
    refine wp_loop_rounds 1 ?_
    rw [rounds_succ]
    go_wp2
    go_ret
    exact ⟨rfl, rfl⟩
  · have H : Hid (zs.length = n) := hn
    have HC : Hid (∀ i, i < zs.length → w.cell? ⟨b, off + i, none⟩ = some (.int .u64 (zs.getD i 0))) := hcell
    clear hn hcell
    go_enter Tryz.func177, Tryz.ntmps177
    go_wp2
    go_loop [3] (fun t => ∃ k : Nat, k ≤ n ∧ t = .int .i64 k ∧ Hid (∀ j, k ≤ j → zs.getD j 0 = 0)) (fun t => (intOf t).toNat)
    case atStart => exact ⟨n, Nat.le_refl _, rfl, fun j hj => by simp [List.getD, List.getElem?_eq_none (show zs.length ≤ j by have := H.out; omega)]⟩
    case round =>
      obtain ⟨k, hk, rfl, hz⟩ := hrel
      by_cases h0 : k = 0
      · subst h0
        go_wp2
        go_ret
        exact ⟨ret_slice (Nm.tsize_unique zs 0 hz.out (.inl rfl)).symm, rfl⟩
      · obtain ⟨j, rfl⟩ : ∃ j, k = j + 1 := ⟨k - 1, by omega⟩
        obtain ⟨x, hx, X⟩ : ∃ x, w.cell? ⟨b, off + j, none⟩ = some (.int .u64 x) ∧ Hid (x = zs.getD j 0) := ⟨_, HC.out j (by have := H.out; omega), rfl⟩
        by_cases hx0 : x = 0
        · subst hx0
          go_wp2
          go_round
          case rel =>
            refine ⟨j, by omega, rfl, fun i hi => ?_⟩
            by_cases e : i = j
            · subst e; exact X.out.symm
            · exact hz.out i (by omega)
          case measure => simp [intOf]
        · go_wp2
          go_ret
          exact ⟨ret_slice (Nm.tsize_unique zs (j + 1) hz.out (.inr (by rw [Nat.add_sub_cancel, ← X.out]; exact hx0))).symm, rfl⟩

/-- Of an operand that is not too big: trimmed, to be read. -/
theorem limited_ok (p : Option Addr) (n cap : Nat) (zs : List Int) (w : World) (hn : zs.length = n) (hc : n ≤ cap) (hm : cap ≤ 140737488355328) (h : Lies w p zs) (hs : Nm.tsize zs ≤ 4096) :
    Calls Tryz.prog 193 #[.slice p n cap] w fun e w' => e = .returned (.tuple #[.slice p (Nm.tsize zs) (Nm.tsize zs), .int .i64 0]) ∧ w' = w := by
  have hsz : (Nm.tsize zs : Int) ≤ 4096 := by omega
  go_enter Tryz.func193, Tryz.ntmps193
  go_wp2_with (go_at_call 177; refine (trimmed_any p n cap zs _ hn hc hm h).mono ?_; rintro e w' ⟨rfl, rfl⟩)
  go_ret2
  exact ⟨rfl, rfl⟩

theorem limited_big (p : Option Addr) (n cap : Nat) (zs : List Int) (w : World) (hn : zs.length = n) (hc : n ≤ cap) (hm : cap ≤ 140737488355328) (h : Lies w p zs) (hs : 4096 < Nm.tsize zs) :
    Calls Tryz.prog 193 #[.slice p n cap] w fun e w' => e = .returned (.tuple #[.slice none 0 0, .int .i64 2]) ∧ w' = w := by
  have hsz : (4096 : Int) < (Nm.tsize zs : Int) := by omega
  go_enter Tryz.func193, Tryz.ntmps193
  go_wp2_with (go_at_call 177; refine (trimmed_any p n cap zs _ hn hc hm h).mono ?_; rintro e w' ⟨rfl, rfl⟩)
  go_ret2
  exact ⟨rfl, rfl⟩

/-- A copy with m limbs 0 on top, in a new block. -/
theorem widened_any (p : Option Addr) (n cap m : Nat) (mi : Int) (zs : List Int) (w : World) (hmi : mi = (m : Int)) (hn : zs.length = n) (hnm : n + m ≤ 35184372088832) (h : Lies w p zs) :
    Calls Tryz.prog 247 #[.slice p n cap, .int .i64 mi] w fun e w' => e = .returned (.slice (some ⟨w.heap.size, 0, none⟩) (n + m) (n + m)) ∧ Own w' w.heap.size (zs ++ List.replicate m 0) ∧ Below w.heap.size w w' ∧ w'.heap.size = w.heap.size + 1 := by
  subst hmi
  have hmk := make64 (n + m) hnm w
  have em : ((n + m : Nat) : Int) = (n : Int) + (m : Int) := by omega
  rw [em] at hmk
  clear em
  have hb0 : Below w.heap.size w (w.alloc (.cells (madeCells #[.int .u64 0] (n + m)) 22)) := (Below.refl _ _).alloc (Nat.le_refl _) _
  have ho : Own (w.alloc (.cells (madeCells #[.int .u64 0] (n + m)) 22)) w.heap.size (List.replicate (n + m) 0) := by
    rw [made_zero]; exact Own.alloc w _
  obtain ⟨w1, hcp, ho1, hb1, hz1⟩ := copy64 w.heap.size (n + m) (List.replicate (n + m) 0) p n cap zs 3 _ (by simp) hn (by omega) ho (h.below hb0 (Nat.le_refl _))
  have E : Hid (Own w1 w.heap.size (zs ++ List.replicate m 0)) := by
    have e : List.drop n (List.replicate (n + m) (0 : Int)) = List.replicate m 0 := by simp
    rw [e] at ho1
    exact ho1
  have F : Hid (Below w.heap.size w w1) := hb0.trans hb1
  have G : Hid (w1.heap.size = w.heap.size + 1) := hz1.trans (World.size_alloc _ _)
  clear hb0 ho ho1 hb1 hz1 h hn
  go_enter Tryz.func247, Tryz.ntmps247
  go_wp2
  go_ret
  exact ⟨rfl, E.out, F.out, G.out⟩

theorem pair_ok (p q : Option Addr) (n cap m cap' : Nat) (zs ys : List Int) (w : World) (hn : zs.length = n) (hc : n ≤ cap) (hm : cap ≤ 140737488355328) (h : Lies w p zs) (hs : Nm.tsize zs ≤ 4096)
    (hn' : ys.length = m) (hc' : m ≤ cap') (hm' : cap' ≤ 140737488355328) (h' : Lies w q ys) (hs' : Nm.tsize ys ≤ 4096) :
    Calls Tryz.prog 233 #[.slice p n cap, .slice q m cap'] w fun e w' => e = .returned (.tuple #[.slice p (Nm.tsize zs) (Nm.tsize zs), .slice q (Nm.tsize ys) (Nm.tsize ys), .int .i64 0]) ∧ w' = w := by
  go_enter Tryz.func233, Tryz.ntmps233
  go_wp2_with fail
  refine (limited_ok p n cap zs _ hn hc hm h hs).mono ?_
  rintro e w' ⟨rfl, rfl⟩
  go_wp2_with fail
  refine (limited_ok q m cap' ys _ hn' hc' hm' h' hs').mono ?_
  rintro e w' ⟨rfl, rfl⟩
  go_wp2_with fail
  go_ret3
  exact ⟨rfl, rfl⟩

/-- Of a list of our own: answered trimmed, if it isn't too big. -/
theorem limited_own (g n : Nat) (zs : List Int) (w : World) (hn : zs.length = n) (hm : n ≤ 140737488355328) (h : Own w g zs) (hl : Nm.Limbs zs) (B : Nat) (hB : B ≤ g) (hs : Nm.val zs < Nm.pw 4096) :
    Calls Tryz.prog 193 #[.slice (some ⟨g, 0, none⟩) n n] w fun e w' => ∃ p ys, e = .returned (.tuple #[.slice p (List.length ys) (List.length ys), .int .i64 0]) ∧ Ans B w p ys (Nm.val zs) ∧ w' = w := by
  refine (limited_ok (some ⟨g, 0, none⟩) n n zs w hn (Nat.le_refl _) hm h.lies ((Nm.tsize_le_iff hl 4096).2 hs)).mono ?_
  rintro e w' ⟨rfl, rfl⟩
  refine ⟨some ⟨g, 0, none⟩, Nm.trim zs, ?_, ⟨h.lies.take _, hl.take _, ?_, Nm.val_trim zs, ?_⟩, rfl⟩
  · rw [Nm.trim_length]
  · rw [Nm.trim_trim, Nm.trim_length]
  · intro a ha
    cases ha
    exact hB

theorem limited_own_big (g n : Nat) (zs : List Int) (w : World) (hn : zs.length = n) (hm : n ≤ 140737488355328) (h : Own w g zs) (hl : Nm.Limbs zs) (hs : Nm.pw 4096 ≤ Nm.val zs) :
    Calls Tryz.prog 193 #[.slice (some ⟨g, 0, none⟩) n n] w fun e w' => e = .returned (.tuple #[.slice none 0 0, .int .i64 2]) ∧ w' = w := by
  refine limited_big (some ⟨g, 0, none⟩) n n zs w hn (Nat.le_refl _) hm h.lies ?_
  have := Nm.tsize_le_iff hl 4096
  omega

end Go.Proofs.YtigmhnlcmhpepaaGreatDoor

namespace Go.Proofs.YtigmhnlcmhpepaaGreatDoor
open Go.RowKit Go.Deep

/-- -1, 0 or 1. -/
def cmpI (x y : Int) : Int := if x < y then -1 else if x = y then 0 else 1

theorem cmpI_lt {x y : Int} (h : x < y) : cmpI x y = -1 := by rw [cmpI, if_pos h]
theorem cmpI_eq {x y : Int} (h : x = y) : cmpI x y = 0 := by rw [cmpI, if_neg (by omega), if_pos h]
theorem cmpI_gt {x y : Int} (h : y < x) : cmpI x y = 1 := by rw [cmpI, if_neg (by omega), if_neg (by omega)]

theorem below_drewN {B : Nat} {a w : World} (h : Below B a w) : ∀ n, Below B a (w.drewN n) := by
  intro n
  exact ⟨h.os, h.tape, h.output, h.size, h.block⟩

/-- A slice with an element in it has an address. -/
theorem Lies.at {w : World} {p : Option Addr} {zs : List Int} (h : Lies w p zs) (h0 : 0 < zs.length) :
    ∃ b off, p = some ⟨b, off, none⟩ ∧ b < w.heap.size ∧ Hid (∀ i, i < zs.length → w.cell? ⟨b, off + i, none⟩ = some (.int .u64 (zs.getD i 0))) := by
  rcases h with rfl | ⟨b, off, hp, h⟩
  · simp at h0
  · exact ⟨b, off, hp, cell_lt (h 0 h0), h⟩

theorem val_lt_of_tsize {zs ys : List Int} (hz : Nm.Limbs zs) (hy : Nm.Limbs ys) (h : Nm.tsize zs < Nm.tsize ys) : Nm.val zs < Nm.val ys := by
  have h1 := Nm.val_lt_tsize hz
  have h2 := Nm.val_ge_top hy (by omega)
  have h3 := Nm.pw_mono (show Nm.tsize zs ≤ Nm.tsize ys - 1 by omega)
  omega

theorem ret_i64 {a b : Int} (h : a = b) : Ending.returned (.int .i64 a) = .returned (.int .i64 b) := by rw [h]
end Go.Proofs.YtigmhnlcmhpepaaGreatDoor

namespace Go.Proofs.YtigmhnlcmhpepaaGreatDoor
open Go Go.RowKit Go.Deep

theorem alloc_b (w : World) (A : Obj) : Below w.heap.size w (w.alloc A) := Below.alloc (w := w) (Below.refl w.heap.size w) (Nat.le_refl _) A

theorem below_on {a b c : World} (h : Below a.heap.size a b) (k : Below b.heap.size b c) : Below a.heap.size a c := h.trans (k.mono h.size)

/-- Five cells that may be written. -/
def Row5 (w : World) (b t : Nat) (v0 v1 v2 v3 v4 : Value) : Prop := w.heap[b]? = some (.cells #[v0, v1, v2, v3, v4] t (0, 0))

theorem Row5.below {B : Nat} {w w' : World} {b t : Nat} {v0 v1 v2 v3 v4 : Value} (h : Row5 w b t v0 v1 v2 v3 v4) (hB : Below B w w') (hb : b < B) : Row5 w' b t v0 v1 v2 v3 v4 := by
  rw [Row5, hB.block b hb]; exact h

theorem Row5.lt {w : World} {b t : Nat} {v0 v1 v2 v3 v4 : Value} (h : Row5 w b t v0 v1 v2 v3 v4) : b < w.heap.size := by
  rcases Nat.lt_or_ge b w.heap.size with hl | hl
  · exact hl
  · simp [Row5, Array.getElem?_eq_none hl] at h

theorem Row5.cells {w : World} {b t : Nat} {v0 v1 v2 v3 v4 : Value} (h : Row5 w b t v0 v1 v2 v3 v4) :
    (w.cell? ⟨b, 0, none⟩ = some v0 ∧ w.cell? ⟨b, 1, none⟩ = some v1 ∧ w.cell? ⟨b, 2, none⟩ = some v2 ∧ w.cell? ⟨b, 3, none⟩ = some v3 ∧ w.cell? ⟨b, 4, none⟩ = some v4) ∧
    (w.frozen? ⟨b, 0, none⟩ = false ∧ w.frozen? ⟨b, 1, none⟩ = false ∧ w.frozen? ⟨b, 2, none⟩ = false ∧ w.frozen? ⟨b, 3, none⟩ = false ∧ w.frozen? ⟨b, 4, none⟩ = false) := by
  simp only [Row5] at h
  refine ⟨⟨?_, ?_, ?_, ?_, ?_⟩, ⟨?_, ?_, ?_, ?_, ?_⟩⟩ <;> simp [World.cell?, World.frozen?, h]

theorem Row5.new (w : World) (t : Nat) (v0 v1 v2 v3 v4 : Value) : Row5 (w.alloc (.cells #[v0, v1, v2, v3, v4] t)) w.heap.size t v0 v1 v2 v3 v4 := heap_alloc_new w _

theorem set1 {w : World} {b o t : Nat} {v : Value} {c c' : Array Value} (h : w.heap[b]? = some (.cells c t (0, 0))) (e : c.setIfInBounds o v = c') : (w.setCell ⟨b, o, none⟩ v).heap[b]? = some (.cells c' t (0, 0)) := by
  subst e
  simp [World.setCell, Array.getElem?_modify, h]

theorem results_row_tmp {P : Program} {fn : Func} {p u : Tmp} {ty : TypeId} (h : fn.results = #[.cell p ty, .tmp u]) (tmps : Array Value) (w : World) (g : Nat) (t : TypeId) (cs : Array Value) (fr : Nat × Nat) (d : TypeDesc)
    (hp : tmps.getD p undef = .pointer (some ⟨g, 0, none⟩)) (hg : w.heap[g]? = some (.cells cs t fr))
    (hu : P.underlying ty = some d) (hd : (match d with | .struct _ | .array _ _ => true | _ => false) = true) (hi : (P.info? ty).map (·.size) = some cs.size) :
    (results fn tmps).run P w = .ok (.tuple #[.agg cs, tmps.getD u undef]) w := by
  rw [results_cell_tmp h, hp]
  simp [asAddr, run_loadVar_row w g t ty cs fr d hg hu hd hi, Result.andThen]

end Go.Proofs.YtigmhnlcmhpepaaGreatDoor

namespace Go.Proofs.YtigmhnlcmhpepaaGreatDoor
open Go.RowKit Go.Deep

/-- s has just these bytes. -/
def Str (s : ByteArray) (xs : List Int) : Prop := s.data.toList.map (fun b => (b.toNat : Int)) = xs

theorem Str.self (s : ByteArray) : Str s (s.data.toList.map (fun b => (b.toNat : Int))) := rfl

theorem Str.size {s : ByteArray} {xs : List Int} (h : Str s xs) : s.size = xs.length := by
  rw [← h, List.length_map, Array.length_toList]
  rfl

theorem Str.at {s : ByteArray} {xs : List Int} (h : Str s xs) (t : Nat) (ht : t < s.size) : ((s[t]'ht).toNat : Int) = xs.getD t 0 := by
  rw [← h]
  have : t < s.data.toList.length := by rw [Array.length_toList]; exact ht
  simp only [List.getD_eq_getElem?_getD, List.getElem?_map, List.getElem?_eq_getElem this, Option.map_some, Option.getD_some]
  rfl

theorem Str.mem {s : ByteArray} {xs : List Int} (h : Str s xs) {x : Int} (hx : x ∈ xs) : 0 ≤ x ∧ x < 256 := by
  rw [← h] at hx
  obtain ⟨b, _, rfl⟩ := List.mem_map.1 hx
  have := b.toNat_lt
  omega

theorem Str.atb {s : ByteArray} {xs : List Int} (h : Str s xs) (t : Nat) : 0 ≤ xs.getD t 0 ∧ xs.getD t 0 < 256 := by
  by_cases ht : t < xs.length
  · have : xs.getD t 0 = xs[t] := by simp [List.getD, ht]
    rw [this]
    exact h.mem (List.getElem_mem ht)
  · rw [show xs.getD t 0 = 0 by simp [List.getD, List.getElem?_eq_none (show xs.length ≤ t by omega)]]
    omega

theorem Str.extract {s : ByteArray} {xs : List Int} (h : Str s xs) (a b : Nat) : Str (s.extract a b) ((xs.drop a).take (b - a)) := by
  unfold Str at *
  rw [← h, ByteArray.data_extract]
  simp [List.map_drop, List.map_take]

theorem Str.of_nums {xs : List Int} (h : ∀ x ∈ xs, 0 ≤ x ∧ x < 256) : Str (strOfNums xs) xs := by
  unfold Str
  rw [strOfNums_data, List.map_map]
  conv => rhs; rw [← List.map_id xs]
  apply List.map_congr_left
  intro x hx
  have := h x hx
  simp only [Function.comp, id]
  rw [UInt8.toNat_ofNat_of_lt' (by show x.toNat < 256; omega)]
  omega

theorem Str.inj {s t : ByteArray} {xs : List Int} (h : Str s xs) (k : Str t xs) : s = t := by
  unfold Str at h k
  have e : s.data.toList = t.data.toList := by
    rw [← k] at h
    exact List.map_inj_right (fun a b hab => by
      have : a.toNat = b.toNat := by omega
      exact UInt8.toNat_inj.1 this) |>.1 h
  cases s
  cases t
  simp only at e
  rw [Array.toList_inj.1 e]

/-- s == t, asked by the bytes. -/
theorem Str.eq {s t : ByteArray} {xs ys : List Int} (h : Str s xs) (k : Str t ys) : (s.toList == t.toList) = decide (xs = ys) := by
  by_cases e : xs = ys
  · subst e
    rw [h.inj k]
    simp
  · rw [decide_eq_false e, beq_eq_false_iff_ne]
    intro c
    apply e
    rw [ByteArray.toList_eq, ByteArray.toList_eq] at c
    rw [← h, ← k, c]
end Go.Proofs.YtigmhnlcmhpepaaGreatDoor

namespace Go.Proofs.YtigmhnlcmhpepaaGreatDoor
open Go

namespace Re
/-- A text's bytes. -/
def bl (s : ByteArray) : List Int := s.data.toList.map fun x => (x.toNat : Int)
theorem bl_inj {s t : ByteArray} (h : bl s = bl t) : s = t := (Str.self s).inj (by rw [Str]; exact h.symm)

/-- Where a value stands: a number's place, or a text. -/
inductive Rk where
  | nu (n : Int)
  | tx (s : ByteArray)
  deriving Inhabited
/-- A ticket: a place and a number of its own. -/
structure Tk where
  r : Rk
  i : Int
  deriving Inhabited

/-- The order of places. -/
def cm : Rk → Rk → Int
  | .nu a, .nu b => Ie.cm a b
  | .nu _, .tx _ => -1
  | .tx _, .nu _ => 1
  | .tx s, .tx t => Sc.lex (bl s) (bl t)
/-- The order of tickets. -/
def ct (x y : Tk) : Int := if cm x.r y.r = 0 then Sc.cmpI x.i y.i else cm x.r y.r

theorem icm_c (x y : Int) : (x < y ∧ Ie.cm x y = -1) ∨ (x = y ∧ Ie.cm x y = 0) ∨ (y < x ∧ Ie.cm x y = 1) := by
  unfold Ie.cm
  rcases Int.lt_trichotomy x y with h | h | h
  · exact Or.inl ⟨h, if_pos h⟩
  · exact Or.inr (Or.inl ⟨h, by rw [if_neg (by omega), if_neg (by omega)]⟩)
  · exact Or.inr (Or.inr ⟨h, by rw [if_neg (by omega), if_pos h]⟩)

theorem cm_b (a b : Rk) : cm a b = -1 ∨ cm a b = 0 ∨ cm a b = 1 := by
  cases a with
  | nu a => cases b with
    | nu b => rcases icm_c a b with h | h | h <;> simp [cm, h.2]
    | tx t => exact Or.inl rfl
  | tx s => cases b with
    | nu b => exact Or.inr (Or.inr rfl)
    | tx t => exact Sc.lex_b _ _
theorem cm_anti (a b : Rk) : cm b a = - cm a b := by
  cases a with
  | nu a => cases b with
    | nu b =>
      show Ie.cm b a = - Ie.cm a b
      rcases icm_c a b with h | h | h <;> rcases icm_c b a with g | g | g <;> rw [h.2, g.2] <;> omega
    | tx t => rfl
  | tx s => cases b with
    | nu b => rfl
    | tx t => exact Sc.lex_anti _ _
theorem cm_trans (a b c : Rk) : cm a b ≤ 0 → cm b c ≤ 0 → cm a c ≤ 0 ∧ (cm a c = 0 → cm a b = 0 ∧ cm b c = 0) := by
  intro h k
  cases a with
  | nu a => cases b with
    | nu b => cases c with
      | nu c =>
        show Ie.cm a c ≤ 0 ∧ (Ie.cm a c = 0 → Ie.cm a b = 0 ∧ Ie.cm b c = 0)
        change Ie.cm a b ≤ 0 at h
        change Ie.cm b c ≤ 0 at k
        rcases icm_c a b with p | p | p <;> rcases icm_c b c with q | q | q <;> rcases icm_c a c with r | r | r <;> rw [p.2, q.2, r.2] <;> rw [p.2] at h <;> rw [q.2] at k <;> omega
      | tx t => exact ⟨(by show (-1 : Int) ≤ 0; decide), fun h => absurd h (by show ¬ (-1 : Int) = 0; decide)⟩
    | tx t => cases c with
      | nu c => exact absurd k (by show ¬ (1 : Int) ≤ 0; decide)
      | tx u => exact ⟨(by show (-1 : Int) ≤ 0; decide), fun h => absurd h (by show ¬ (-1 : Int) = 0; decide)⟩
  | tx s => cases b with
    | nu b => exact absurd h (by show ¬ (1 : Int) ≤ 0; decide)
    | tx t => cases c with
      | nu c => exact absurd k (by show ¬ (1 : Int) ≤ 0; decide)
      | tx u => exact Sc.lex_trans _ _ _ h k
theorem cm_zero {a b : Rk} (h : cm a b = 0) : a = b := by
  cases a with
  | nu a => cases b with
    | nu b =>
      change Ie.cm a b = 0 at h
      rcases icm_c a b with p | p | p
      · omega
      · rw [p.1]
      · omega
    | tx t => exact absurd h (by show ¬ (-1 : Int) = 0; decide)
  | tx s => cases b with
    | nu b => exact absurd h (by show ¬ (1 : Int) = 0; decide)
    | tx t => rw [bl_inj ((Sc.lex_zero _ _).1 h)]

theorem ct_zero {x y : Tk} (h : ct x y = 0) : x = y := by
  unfold ct at h
  by_cases c : cm x.r y.r = 0
  · rw [if_pos c] at h
    rcases Sc.cmpI_c x.i y.i with p | p | p
    · omega
    · cases x; cases y; simp only [Tk.mk.injEq]; exact ⟨cm_zero c, p.1⟩
    · omega
  · rw [if_neg c] at h; exact absurd h c
theorem ct_anti (x y : Tk) : ct y x = - ct x y := by
  unfold ct
  have e := cm_anti x.r y.r
  by_cases c : cm x.r y.r = 0
  · rw [if_pos c, if_pos (by omega)]
    rcases Sc.cmpI_c x.i y.i with h | h | h <;> rcases Sc.cmpI_c y.i x.i with g | g | g <;> rw [h.2, g.2] <;> omega
  · rw [if_neg c, if_neg (by omega), e]
theorem ct_b (x y : Tk) : ct x y = -1 ∨ ct x y = 0 ∨ ct x y = 1 := by
  unfold ct
  by_cases c : cm x.r y.r = 0
  · rw [if_pos c]; rcases Sc.cmpI_c x.i y.i with h | h | h <;> rw [h.2] <;> simp
  · rw [if_neg c]; exact cm_b _ _
theorem ct_le {x y : Tk} : ct x y ≤ 0 ↔ cm x.r y.r < 0 ∨ (cm x.r y.r = 0 ∧ x.i ≤ y.i) := by
  unfold ct
  by_cases c : cm x.r y.r = 0
  · rw [if_pos c]
    rcases Sc.cmpI_c x.i y.i with h | h | h <;> rw [h.2] <;> constructor <;> intro q <;> omega
  · rw [if_neg c]; constructor <;> intro q <;> omega
theorem ct_trans {x y z : Tk} (h : ct x y ≤ 0) (k : ct y z ≤ 0) : ct x z ≤ 0 := by
  rw [ct_le] at *
  have b1 : cm x.r y.r ≤ 0 := by omega
  have b2 : cm y.r z.r ≤ 0 := by omega
  obtain ⟨t1, t2⟩ := cm_trans _ _ _ b1 b2
  by_cases c : cm x.r z.r = 0
  · have := t2 c; omega
  · omega

/-- A raw value's number, where it is one. -/
def nu (k n : Int) : Int := if k = 1 ∨ k = 3 then n else 0
/-- A double's place among numbers. -/
def pl (n : Int) : Int := if Ie.okd n = true then Ie.rkv n else 9223372036854775807
/-- A raw value's place. -/
def rt (k n : Int) (s : ByteArray) : Rk := if k = 2 then .tx s else .nu (pl (nu k n))
/-- A place as it lies in memory. -/
def er : Rk → Array Value
  | .nu n => #[.bool false, .int .i64 n, .string ⟨#[]⟩]
  | .tx s => #[.bool true, .int .i64 0, .string s]
/-- A ticket as it lies in memory. -/
def et (x : Tk) : List Value := (er x.r).toList ++ [.int .i64 x.i]
theorem rt_tx {k n : Int} {s : ByteArray} (h : k = 2) : rt k n s = .tx s := if_pos h
theorem rt_nu {k n : Int} {s : ByteArray} (h : k ≠ 2) : rt k n s = .nu (pl (nu k n)) := if_neg h
end Re
end Go.Proofs.YtigmhnlcmhpepaaGreatDoor

namespace Go.Proofs.YtigmhnlcmhpepaaGreatDoor
open Go Go.RowKit Go.Deep

namespace Va
/-- What counts in a raw value. -/
def ins (k n : Int) (s : ByteArray) : Value := if k = 1 then .iface 88 (.agg #[.int .u64 n]) else if k = 2 then .iface 62 (.agg #[.string s]) else if k = 3 then .iface 90 (.agg #[.int .u64 n, .string s]) else .iface 94 (.agg #[])
end Va

set_option maxRecDepth 100000 in
theorem vinside_any (k n : Int) (s : ByteArray) (w : World) :
    Calls Tryz.prog 26 #[.agg #[.int .i64 k, .int .u64 n, .string s]] w fun e w' => e = .returned (Va.ins k n s) ∧ Below w.heap.size w w' := by
  have B := hid (alloc_b w (.cells #[.int .i64 k, .int .u64 n, .string s] 24))
  by_cases k1 : k = 1
  · subst k1
    go_enter Tryz.func26, Tryz.ntmps26
    go_wp2_with fail
    go_ret
    exact ⟨rfl, B.out⟩
  have e1 : (k == 1) = false := by simpa using k1
  by_cases k2 : k = 2
  · subst k2
    go_enter Tryz.func26, Tryz.ntmps26
    go_wp2_with fail
    go_ret
    exact ⟨rfl, B.out⟩
  have e2 : (k == 2) = false := by simpa using k2
  by_cases k3 : k = 3
  · subst k3
    go_enter Tryz.func26, Tryz.ntmps26
    go_wp2_with fail
    go_ret
    exact ⟨rfl, B.out⟩
  have e3 : (k == 3) = false := by simpa using k3
  have F : Hid (Va.ins k n s = .iface 94 (.agg #[])) := by rw [Hid, Va.ins, if_neg k1, if_neg k2, if_neg k3]
  clear k1 k2 k3
  go_enter Tryz.func26, Tryz.ntmps26
  go_wp2_with fail
  go_ret
  exact ⟨by rw [F.out]; rfl, B.out⟩
end Go.Proofs.YtigmhnlcmhpepaaGreatDoor

/-
  ieee: Abs.
-/
namespace Go.Proofs.YtigmhnlcmhpepaaGreatDoor
open Go Go.RowKit Go.Deep

set_option maxRecDepth 100000 in
theorem abs_any (d : Int) (w : World) (h0 : 0 ≤ d) (h1 : d < 18446744073709551616) :
    Calls Tryz.prog 55 #[.int .u64 d] w fun e w' => e = .returned (.int .u64 (d % 9223372036854775808)) ∧ w' = w := by
  have B := Ib.sign_andNot d h0 h1
  go_enter Tryz.func55, Tryz.ntmps55
  go_wp2
  go_ret
  exact ⟨rfl, rfl⟩
end Go.Proofs.YtigmhnlcmhpepaaGreatDoor

/-
  ieee: place, Total, Rank, Compare, AtRank, Up, Down; cmp.Compare of two int64.
-/
namespace Go.Proofs.YtigmhnlcmhpepaaGreatDoor
open Go Go.RowKit Go.Deep


set_option maxRecDepth 100000 in
theorem isNaN_any (x : Int) (w : World) : Calls Tryz.prog 56 #[.int .i64 x] w fun e w' => e = .returned (.bool false) ∧ w' = w := by
  go_enter Tryz.func56, Tryz.ntmps56
  go_wp2
  go_ret
  exact ⟨by simp, rfl⟩

set_option maxRecDepth 100000 in
theorem ccmp_any (x y : Int) (w : World) : Calls Tryz.prog 43 #[.int .i64 x, .int .i64 y] w fun e w' => e = .returned (.int .i64 (Ie.cm x y)) ∧ w' = w := by
  by_cases h1 : x < y
  · have E : Hid (Ie.cm x y = -1) := by rw [Hid, Ie.cm, if_pos h1]
    go_enter Tryz.func43, Tryz.ntmps43
    go_wp2_with fail
    refine (isNaN_any x w).mono ?_
    rintro e w' ⟨rfl, rfl⟩
    go_wp2_with fail
    refine (isNaN_any y _).mono ?_
    rintro e w' ⟨rfl, rfl⟩
    go_wp2_with fail
    go_ret
    exact ⟨i_retI E.out.symm, rfl⟩
  · by_cases h2 : y < x
    · have E : Hid (Ie.cm x y = 1) := by rw [Hid, Ie.cm, if_neg h1, if_pos h2]
      go_enter Tryz.func43, Tryz.ntmps43
      go_wp2_with fail
      refine (isNaN_any x w).mono ?_
      rintro e w' ⟨rfl, rfl⟩
      go_wp2_with fail
      refine (isNaN_any y _).mono ?_
      rintro e w' ⟨rfl, rfl⟩
      go_wp2_with fail
      go_ret
      exact ⟨i_retI E.out.symm, rfl⟩
    · have E : Hid (Ie.cm x y = 0) := by rw [Hid, Ie.cm, if_neg h1, if_neg h2]
      go_enter Tryz.func43, Tryz.ntmps43
      go_wp2_with fail
      refine (isNaN_any x w).mono ?_
      rintro e w' ⟨rfl, rfl⟩
      go_wp2_with fail
      refine (isNaN_any y _).mono ?_
      rintro e w' ⟨rfl, rfl⟩
      go_wp2_with fail
      go_ret
      exact ⟨i_retI E.out.symm, rfl⟩
end Go.Proofs.YtigmhnlcmhpepaaGreatDoor

/-
  ieee: Rank, Compare, Total, AtRank, Up, Down.
-/
namespace Go.Proofs.YtigmhnlcmhpepaaGreatDoor
open Go Go.RowKit Go.Deep


set_option maxRecDepth 100000 in
set_option maxHeartbeats 1000000 in
theorem rank_any (d : Int) (w : World) (h0 : 0 ≤ d) (h1 : d < 18446744073709551616) :
    Calls Tryz.prog 41 #[.int .u64 d] w fun e w' => e = .returned (.tuple #[.int .i64 (Ie.rkv d), .bool (Ie.okd d)]) ∧ w' = w := by
  have B := Ib.sign_and d h0 h1
  have CL := hid (class_any d w h0 h1)
  have AB := hid (abs_any d w h0 h1)
  have c4 := Ie.cls4 d
  obtain ⟨c, hc⟩ : ∃ c, Ie.cls d = c := ⟨_, rfl⟩
  rw [hc] at CL c4
  obtain ⟨sv, hsv⟩ : ∃ sv, d / 9223372036854775808 * 9223372036854775808 = sv := ⟨_, rfl⟩
  rw [hsv] at B
  obtain ⟨r, hr⟩ : ∃ r, d % 9223372036854775808 = r := ⟨_, rfl⟩
  rw [hr] at AB
  have r0 : 0 ≤ r := by omega
  have r1 : r < 9223372036854775808 := by omega
  by_cases hn : c = 4
  · have E : Hid (0 = Ie.rkv d ∧ false = Ie.okd d) := by
      have := c4.1 hn
      exact ⟨by rw [Ie.rkv, this]; rfl, this.symm⟩
    subst hn
    clear hc hsv hr c4
    go_enter Tryz.func41, Tryz.ntmps41
    go_wp2_with fail
    refine CL.out.mono ?_
    rintro e w' ⟨rfl, rfl⟩
    go_wp2_with fail
    go_ret2
    exact ⟨ret_i64b E.out.1 E.out.2, rfl⟩
  · have ok : Ie.okd d = true := by
      cases h : Ie.okd d
      · exact absurd (c4.2 h) hn
      · rfl
    have hn' : (c == 4) = false := by rw [beq_eq_false_iff_ne]; exact hn
    rcases (show d < 9223372036854775808 ∨ 9223372036854775808 ≤ d by omega) with hs | hs
    · have E : Hid (r = Ie.rkv d ∧ true = Ie.okd d) := ⟨by rw [Ie.rkv, ok, if_pos rfl, Ie.rk, if_pos hs]; omega, ok.symm⟩
      have hz : sv = 0 := by omega
      subst hz
      clear hc hsv hr c4 ok hs hn
      go_enter Tryz.func41, Tryz.ntmps41
      go_wp2_with fail
      refine CL.out.mono ?_
      rintro e w' ⟨rfl, rfl⟩
      go_wp2_with fail
      refine AB.out.mono ?_
      rintro e w' ⟨rfl, rfl⟩
      go_wp2_with fail
      go_ret2
      exact ⟨ret_i64b E.out.1 E.out.2, rfl⟩
    · have E : Hid (-r = Ie.rkv d ∧ true = Ie.okd d) := ⟨by rw [Ie.rkv, ok, if_pos rfl, Ie.rk, if_neg (by omega)]; omega, ok.symm⟩
      have hz : sv = 9223372036854775808 := by omega
      subst hz
      clear hc hsv hr c4 ok hs hn
      go_enter Tryz.func41, Tryz.ntmps41
      go_wp2_with fail
      refine CL.out.mono ?_
      rintro e w' ⟨rfl, rfl⟩
      go_wp2_with fail
      refine AB.out.mono ?_
      rintro e w' ⟨rfl, rfl⟩
      go_wp2_with fail
      go_ret2
      exact ⟨ret_i64b E.out.1 E.out.2, rfl⟩

set_option maxRecDepth 100000 in
set_option maxHeartbeats 1000000 in
theorem compare_any (a b : Int) (w : World) (a0 : 0 ≤ a) (a1 : a < 18446744073709551616) (b0 : 0 ≤ b) (b1 : b < 18446744073709551616) :
    Calls Tryz.prog 35 #[.int .u64 a, .int .u64 b] w fun e w' => e = .returned (.tuple #[.int .i64 (Ie.cmv a b), .bool (Ie.okd a && Ie.okd b)]) ∧ w' = w := by
  have P1 := hid (rank_any a w a0 a1)
  have P2 := hid (rank_any b w b0 b1)
  have X1 : Hid (Ie.okd a = true → Ie.rkv a = Ie.rk a) := by intro h; rw [Ie.rkv, if_pos h]
  have X2 : Hid (Ie.okd b = true → Ie.rkv b = Ie.rk b) := by intro h; rw [Ie.rkv, if_pos h]
  have V : Hid (Ie.cmv a b = if Ie.okd a = true ∧ Ie.okd b = true then Ie.cm (Ie.rk a) (Ie.rk b) else 0) := rfl
  generalize Ie.cmv a b = cv at *
  generalize Ie.rkv a = x at *
  generalize Ie.rkv b = y at *
  generalize Ie.okd a = oa at *
  generalize Ie.okd b = ob at *
  clear a0 a1 b0 b1
  cases oa
  · go_enter Tryz.func35, Tryz.ntmps35
    go_wp2_with fail
    refine P1.out.mono ?_
    rintro e w' ⟨rfl, rfl⟩
    go_wp2_with fail
    refine P2.out.mono ?_
    rintro e w' ⟨rfl, rfl⟩
    go_wp2_with fail
    go_ret2
    exact ⟨ret_i64b (by rw [V.out]; rfl) rfl, rfl⟩
  · cases ob
    · go_enter Tryz.func35, Tryz.ntmps35
      go_wp2_with fail
      refine P1.out.mono ?_
      rintro e w' ⟨rfl, rfl⟩
      go_wp2_with fail
      refine P2.out.mono ?_
      rintro e w' ⟨rfl, rfl⟩
      go_wp2_with fail
      go_ret2
      exact ⟨ret_i64b (by rw [V.out]; rfl) rfl, rfl⟩
    · go_enter Tryz.func35, Tryz.ntmps35
      go_wp2_with fail
      refine P1.out.mono ?_
      rintro e w' ⟨rfl, rfl⟩
      go_wp2_with fail
      refine P2.out.mono ?_
      rintro e w' ⟨rfl, rfl⟩
      go_wp2_with fail
      refine (ccmp_any _ _ _).mono ?_
      rintro e w' ⟨rfl, rfl⟩
      go_wp2_with fail
      go_ret2
      exact ⟨ret_i64b (by rw [V.out, if_pos ⟨trivial, trivial⟩, X1.out trivial, X2.out trivial]) rfl, rfl⟩

end Go.Proofs.YtigmhnlcmhpepaaGreatDoor

namespace Go.Proofs.YtigmhnlcmhpepaaGreatDoor
open Go Go.RowKit Go.Deep Go.Shelf

def compLays_ren : Go.Shelf.Ren := ⟨fun | 106 => 24 | 213 => 38 | 265 => 51 | n => n, fun | 9 => 9 | 3 => 3 | n => n, fun | n => n⟩
theorem compLays : Go.Proofs.Lays.n106 Tryz.prog compLays_ren := {
  mixed := by kernel_rfl
  f106 := Tryz.func24.trans (congrArg some (by kernel_rfl))
  f213 := Tryz.func38.trans (congrArg some (by kernel_rfl))
  f265 := Tryz.func51.trans (congrArg some (by kernel_rfl))
  t3 := Tryz.underlying3
  a3 := Tryz.isAgg3
  z3 := Tryz.sizeOf3
  v3 := Tryz.zeroValue3
  t9 := Tryz.underlying9
  a9 := Tryz.isAgg9
  z9 := Tryz.sizeOf9
  v9 := Tryz.zeroValue9 }

theorem lex_bytes (a b : List UInt8) : Lib.compareBytes a b = Sc.lex (a.map fun x => (x.toNat : Int)) (b.map fun x => (x.toNat : Int)) := by
  induction a generalizing b with
  | nil => cases b <;> rfl
  | cons x a ih =>
    cases b with
    | nil => rfl
    | cons y b =>
      simp only [Lib.compareBytes, List.map_cons, Sc.lex, ih]
      have h1 : (x < y) ↔ ((x.toNat : Int) < (y.toNat : Int)) := by rw [UInt8.lt_iff_toNat_lt]; omega
      have h2 : (y < x) ↔ ((y.toNat : Int) < (x.toNat : Int)) := by rw [UInt8.lt_iff_toNat_lt]; omega
      simp only [h1, h2]

theorem scompare_any (s t : ByteArray) (xs ys : List Int) (w : World) (hs : Str s xs) (ht : Str t ys) :
    Calls Tryz.prog 24 #[.string s, .string t] w fun e w' => e = .returned (.int .i64 (Sc.lex xs ys)) ∧ w' = w := by
  refine (Any.strings_Compare compLays s t w).mono ?_
  rintro e w' ⟨rfl, rfl⟩
  rw [lex_bytes]
  unfold Str at hs ht
  rw [hs, ht]
  exact ⟨rfl, rfl⟩
end Go.Proofs.YtigmhnlcmhpepaaGreatDoor

namespace Go.Proofs.YtigmhnlcmhpepaaGreatDoor
open Go Go.RowKit Go.Deep

theorem isnan_any (x : Int) (w : World) : Calls Tryz.prog 52 #[.int .i64 x] w fun e w' => e = .returned (.bool false) ∧ w' = w := by
  have h : (x != x) = false := by simp
  go_enter Tryz.func52, Tryz.ntmps52
  go_wp2_with fail
  go_ret
  exact ⟨by simp, rfl⟩

theorem cmpint_any (x y : Int) (w : World) : Calls Tryz.prog 39 #[.int .i64 x, .int .i64 y] w fun e w' => e = .returned (.int .i64 (Sc.cmpI x y)) ∧ w' = w := by
  have X := hid (fun wx => isnan_any x wx)
  have Y := hid (fun wx => isnan_any y wx)
  have C := hid (Sc.cmpI_c x y)
  go_enter Tryz.func39, Tryz.ntmps39
  go_wp2_with fail
  refine (X.out _).mono ?_
  rintro e w1 ⟨rfl, rfl⟩
  go_wp2_with fail
  refine (Y.out _).mono ?_
  rintro e w1 ⟨rfl, rfl⟩
  go_wp2_with fail
  all_goals (go_ret; exact ⟨congrArg (fun z => Ending.returned (.int .i64 z)) (by have := C.out; omega), rfl⟩)
end Go.Proofs.YtigmhnlcmhpepaaGreatDoor

/-
  ieee: Decode (made by mkdec.py).
-/
namespace Go.Proofs.YtigmhnlcmhpepaaGreatDoor
open Go Go.RowKit Go.Deep

namespace Ie
/-- The mantissa that Decode tells. -/
def dm (d : Int) : Int := if cls d = 2 then 4503599627370496 + d % 4503599627370496 else if cls d = 1 ∨ cls d = 4 then d % 4503599627370496 else 0
/-- The exponent that Decode tells. -/
def de (d : Int) : Int := if cls d = 2 then fld d - 1075 else if cls d = 1 then -1074 else 0
theorem cls_cases (d : Int) : cls d = 0 ∨ cls d = 1 ∨ cls d = 2 ∨ cls d = 3 ∨ cls d = 4 := by
  simp only [cls]; split <;> split <;> (try split) <;> omega
theorem fld_bd (d : Int) : 0 ≤ fld d ∧ fld d < 2048 := by simp only [fld]; omega
end Ie

/-- A double taken apart, as Go has it. -/
def partsOf (neg : Bool) (c m e : Int) : Value := .agg #[.bool neg, .int .i64 c, .int .u64 m, .int .i64 e]

theorem ret_parts {n n' : Bool} {c c' m m' e e' : Int} (h0 : n = n') (h1 : c = c') (h2 : m = m') (h3 : e = e') : Ending.returned (partsOf n c m e) = .returned (partsOf n' c' m' e') := by rw [h0, h1, h2, h3]

theorem twice_alloc (w : World) (A B : Obj) : Below w.heap.size w ((w.alloc A).alloc B) := by
  have h1 := Below.alloc (w := w) (Below.refl w.heap.size w) (Nat.le_refl _) A
  exact Below.alloc h1 (by have := h1.size; omega) B

set_option maxRecDepth 100000 in
set_option maxHeartbeats 4000000 in
theorem decode_any (d : Int) (w : World) (h0 : 0 ≤ d) (h1 : d < 18446744073709551616) :
    Calls Tryz.prog 143 #[.int .u64 d] w fun e w' => e = .returned (partsOf (decide (9223372036854775808 ≤ d)) (Ie.cls d) (Ie.dm d) (Ie.de d)) ∧ Below w.heap.size w w' := by
  have B := Ib.sign_and d h0 h1
  have F := Ib.frac_and d h0 h1
  have CL := hid (fun (wx : World) => class_any d wx h0 h1)
  have FL := hid (fun (wx : World) => field_any d wx h0 h1)
  obtain ⟨sv, hsv⟩ : ∃ sv, d / 9223372036854775808 * 9223372036854775808 = sv := ⟨_, rfl⟩
  rw [hsv] at B
  obtain ⟨f, hf⟩ : ∃ f, Ie.fld d = f := ⟨_, rfl⟩
  have fb := Ie.fld_bd d
  obtain ⟨y, hy⟩ : ∃ y, d % 4503599627370496 = y := ⟨_, rfl⟩
  have y0 : 0 ≤ y := by omega
  have y1 : y < 4503599627370496 := by omega
  rw [hf] at FL fb
  rw [hy] at F
  have O := Ib.hidden_or y y0 y1
  obtain ⟨fb0, fb1⟩ := fb
  have DM : Hid (Ie.dm d = if Ie.cls d = 2 then 4503599627370496 + y else if Ie.cls d = 1 ∨ Ie.cls d = 4 then y else 0) := by rw [Hid, Ie.dm, hy]
  have DE : Hid (Ie.de d = if Ie.cls d = 2 then f - 1075 else if Ie.cls d = 1 then -1074 else 0) := by rw [Hid, Ie.de, hf]
  have cc := Ie.cls_cases d
  have sc : (sv = 0 ∧ decide (9223372036854775808 ≤ d) = false) ∨ (sv = 9223372036854775808 ∧ decide (9223372036854775808 ≤ d) = true) := by
    rcases (show d < 9223372036854775808 ∨ 9223372036854775808 ≤ d by omega) with h | h
    · left; exact ⟨by omega, by simp; omega⟩
    · right; exact ⟨by omega, by simp; omega⟩
  rcases sc with ⟨rfl, sn⟩ | ⟨rfl, sn⟩ <;> rw [sn] <;> rcases cc with hc | hc | hc | hc | hc <;> rw [hc] at CL DM DE ⊢ <;> clear hsv hf hy hc sn
  · go_enter Tryz.func143, Tryz.ntmps143
    go_wp2_with fail
    refine (CL.out _).mono ?_
    rintro e w' ⟨rfl, rfl⟩
    go_wp2_with fail
    (try simp only [Exit.inBlock, Exit.then])
    refine bodyPost_ret (results_cell_row rfl _ _ w.heap.size 220 _ (0, 0) _ rfl (heap_alloc2_old _ _ _) Tryz.underlying220 rfl (by kernel_rfl)) rfl ?_
    exact ⟨ret_parts rfl rfl (by rw [DM.out]; rfl) (by rw [DE.out]; first | rfl | (show _ = f - 1075; omega)), twice_alloc _ _ _⟩
  · go_enter Tryz.func143, Tryz.ntmps143
    go_wp2_with fail
    refine (CL.out _).mono ?_
    rintro e w' ⟨rfl, rfl⟩
    go_wp2_with fail
    (try simp only [Exit.inBlock, Exit.then])
    refine bodyPost_ret (results_cell_row rfl _ _ w.heap.size 220 _ (0, 0) _ rfl (heap_alloc2_old _ _ _) Tryz.underlying220 rfl (by kernel_rfl)) rfl ?_
    exact ⟨ret_parts rfl rfl (by rw [DM.out]; rfl) (by rw [DE.out]; first | rfl | (show _ = f - 1075; omega)), twice_alloc _ _ _⟩
  · go_enter Tryz.func143, Tryz.ntmps143
    go_wp2_with fail
    refine (CL.out _).mono ?_
    rintro e w' ⟨rfl, rfl⟩
    go_wp2_with fail
    refine (FL.out _).mono ?_
    rintro e w' ⟨rfl, rfl⟩
    go_wp2_with fail
    (try simp only [Exit.inBlock, Exit.then])
    refine bodyPost_ret (results_cell_row rfl _ _ w.heap.size 220 _ (0, 0) _ rfl (heap_alloc2_old _ _ _) Tryz.underlying220 rfl (by kernel_rfl)) rfl ?_
    exact ⟨ret_parts rfl rfl (by rw [DM.out]; rfl) (by rw [DE.out]; first | rfl | (show _ = f - 1075; omega)), twice_alloc _ _ _⟩
  · go_enter Tryz.func143, Tryz.ntmps143
    go_wp2_with fail
    refine (CL.out _).mono ?_
    rintro e w' ⟨rfl, rfl⟩
    go_wp2_with fail
    (try simp only [Exit.inBlock, Exit.then])
    refine bodyPost_ret (results_cell_row rfl _ _ w.heap.size 220 _ (0, 0) _ rfl (heap_alloc2_old _ _ _) Tryz.underlying220 rfl (by kernel_rfl)) rfl ?_
    exact ⟨ret_parts rfl rfl (by rw [DM.out]; rfl) (by rw [DE.out]; first | rfl | (show _ = f - 1075; omega)), twice_alloc _ _ _⟩
  · go_enter Tryz.func143, Tryz.ntmps143
    go_wp2_with fail
    refine (CL.out _).mono ?_
    rintro e w' ⟨rfl, rfl⟩
    go_wp2_with fail
    (try simp only [Exit.inBlock, Exit.then])
    refine bodyPost_ret (results_cell_row rfl _ _ w.heap.size 220 _ (0, 0) _ rfl (heap_alloc2_old _ _ _) Tryz.underlying220 rfl (by kernel_rfl)) rfl ?_
    exact ⟨ret_parts rfl rfl (by rw [DM.out]; rfl) (by rw [DE.out]; first | rfl | (show _ = f - 1075; omega)), twice_alloc _ _ _⟩
  · go_enter Tryz.func143, Tryz.ntmps143
    go_wp2_with fail
    refine (CL.out _).mono ?_
    rintro e w' ⟨rfl, rfl⟩
    go_wp2_with fail
    (try simp only [Exit.inBlock, Exit.then])
    refine bodyPost_ret (results_cell_row rfl _ _ w.heap.size 220 _ (0, 0) _ rfl (heap_alloc2_old _ _ _) Tryz.underlying220 rfl (by kernel_rfl)) rfl ?_
    exact ⟨ret_parts rfl rfl (by rw [DM.out]; rfl) (by rw [DE.out]; first | rfl | (show _ = f - 1075; omega)), twice_alloc _ _ _⟩
  · go_enter Tryz.func143, Tryz.ntmps143
    go_wp2_with fail
    refine (CL.out _).mono ?_
    rintro e w' ⟨rfl, rfl⟩
    go_wp2_with fail
    (try simp only [Exit.inBlock, Exit.then])
    refine bodyPost_ret (results_cell_row rfl _ _ w.heap.size 220 _ (0, 0) _ rfl (heap_alloc2_old _ _ _) Tryz.underlying220 rfl (by kernel_rfl)) rfl ?_
    exact ⟨ret_parts rfl rfl (by rw [DM.out]; rfl) (by rw [DE.out]; first | rfl | (show _ = f - 1075; omega)), twice_alloc _ _ _⟩
  · go_enter Tryz.func143, Tryz.ntmps143
    go_wp2_with fail
    refine (CL.out _).mono ?_
    rintro e w' ⟨rfl, rfl⟩
    go_wp2_with fail
    refine (FL.out _).mono ?_
    rintro e w' ⟨rfl, rfl⟩
    go_wp2_with fail
    (try simp only [Exit.inBlock, Exit.then])
    refine bodyPost_ret (results_cell_row rfl _ _ w.heap.size 220 _ (0, 0) _ rfl (heap_alloc2_old _ _ _) Tryz.underlying220 rfl (by kernel_rfl)) rfl ?_
    exact ⟨ret_parts rfl rfl (by rw [DM.out]; rfl) (by rw [DE.out]; first | rfl | (show _ = f - 1075; omega)), twice_alloc _ _ _⟩
  · go_enter Tryz.func143, Tryz.ntmps143
    go_wp2_with fail
    refine (CL.out _).mono ?_
    rintro e w' ⟨rfl, rfl⟩
    go_wp2_with fail
    (try simp only [Exit.inBlock, Exit.then])
    refine bodyPost_ret (results_cell_row rfl _ _ w.heap.size 220 _ (0, 0) _ rfl (heap_alloc2_old _ _ _) Tryz.underlying220 rfl (by kernel_rfl)) rfl ?_
    exact ⟨ret_parts rfl rfl (by rw [DM.out]; rfl) (by rw [DE.out]; first | rfl | (show _ = f - 1075; omega)), twice_alloc _ _ _⟩
  · go_enter Tryz.func143, Tryz.ntmps143
    go_wp2_with fail
    refine (CL.out _).mono ?_
    rintro e w' ⟨rfl, rfl⟩
    go_wp2_with fail
    (try simp only [Exit.inBlock, Exit.then])
    refine bodyPost_ret (results_cell_row rfl _ _ w.heap.size 220 _ (0, 0) _ rfl (heap_alloc2_old _ _ _) Tryz.underlying220 rfl (by kernel_rfl)) rfl ?_
    exact ⟨ret_parts rfl rfl (by rw [DM.out]; rfl) (by rw [DE.out]; first | rfl | (show _ = f - 1075; omega)), twice_alloc _ _ _⟩
end Go.Proofs.YtigmhnlcmhpepaaGreatDoor

/-
  Doubles as numbers: what the laws need.
-/
namespace Go.Proofs.YtigmhnlcmhpepaaGreatDoor
namespace Ie

theorem Rnd.next {n d e x u : Int} (hd : 0 < d) (h : Rnd n d e false x) (h' : Rnd n d e true u) : u = x ∨ u = x + 1 := by
  have h1 : x ≤ u := h.mono hd hd h' (a := 0) (a' := 0) (by omega) (.inr ⟨rfl, fun h => by cases h⟩)
  rcases (show u ≤ x + 1 ∨ x + 1 < u by omega) with h2 | h2
  · omega
  · exfalso
    obtain ⟨a, b, hab, hN⟩ := h.at
    have hN' := h' a b hab
    have g1 := hN.2.2 (by have := hN'.1.2; omega)
    have g2 := hN'.2.1 (by have := hN.1.1; omega)
    have g3 := Int.mul_lt_mul_of_pos_right (md_lt hN.1.1 (show x < u - 1 by omega)) (Int.mul_pos hd (Nm.two_pos b))
    rcases g1 with g | g <;> rcases g2 with g' | g' <;> omega

/-- Below the middle above it. -/
theorem Rnd.hi {n d e x : Int} (h : Rnd n d e false x) (hx : x < 9218868437227405312) {M : Int} {E s t : Nat} (hM : md x = M * 2 ^ E) (hst : (s : Int) - t = E - 1075 - e) :
    n * 2 ^ t < M * d * 2 ^ s ∨ (n * 2 ^ t = M * d * 2 ^ s ∧ x % 2 = 0) := by
  have hN := h (t + E) s (by omega)
  have hE := Nm.two_pos E
  have e1 : n * 2 ^ (t + E) = n * 2 ^ t * 2 ^ E := by rw [Nm.two_add, Int.mul_assoc]
  have e2 : md x * (d * 2 ^ s) = M * d * 2 ^ s * 2 ^ E := by rw [hM]; ac_rfl
  rcases hN.2.2 hx with g | ⟨g, g', _⟩
  · rw [e1, e2] at g
    exact .inl (Int.lt_of_mul_lt_mul_right g (by omega))
  · rw [e1, e2] at g
    exact .inr ⟨Int.eq_of_mul_eq_mul_right (by omega) g, g'⟩

/-- Above the middle below it. -/
theorem Rnd.lo {n d e x : Int} (h : Rnd n d e false x) (hx : 0 < x) {M : Int} {E s t : Nat} (hM : md (x - 1) = M * 2 ^ E) (hst : (s : Int) - t = E - 1075 - e) :
    M * d * 2 ^ s < n * 2 ^ t ∨ (M * d * 2 ^ s = n * 2 ^ t ∧ x % 2 = 0) := by
  have hN := h (t + E) s (by omega)
  have hE := Nm.two_pos E
  have e1 : n * 2 ^ (t + E) = n * 2 ^ t * 2 ^ E := by rw [Nm.two_add, Int.mul_assoc]
  have e2 : md (x - 1) * (d * 2 ^ s) = M * d * 2 ^ s * 2 ^ E := by rw [hM]; ac_rfl
  rcases hN.2.1 hx with g | ⟨g, g'⟩
  · rw [e1, e2] at g
    exact .inl (Int.lt_of_mul_lt_mul_right g (by omega))
  · rw [e1, e2] at g
    refine .inr ⟨Int.eq_of_mul_eq_mul_right (by omega) g, ?_⟩
    rcases g' with g' | g'
    · exact g'
    · cases g'

end Ie
end Go.Proofs.YtigmhnlcmhpepaaGreatDoor

/-
  What Decode tells, by the bits without the sign.
-/
namespace Go.Proofs.YtigmhnlcmhpepaaGreatDoor
open Go Go.RowKit Go.Deep

namespace Ie
end Ie

namespace Ie
/-- The whole part of a finite double's value. -/
def whp (r : Int) : Int := vl r / 2 ^ 1075

end Ie
end Go.Proofs.YtigmhnlcmhpepaaGreatDoor

namespace Go.Proofs.YtigmhnlcmhpepaaGreatDoor
namespace Ie
/-- Whether it is a whole number. -/
def intg (d : Int) : Bool := decide (d % 9223372036854775808 < 9218868437227405312 ∧ vl (d % 9223372036854775808) = whp (d % 9223372036854775808) * 2 ^ 1075)

end Ie
end Go.Proofs.YtigmhnlcmhpepaaGreatDoor

namespace Go.Proofs.YtigmhnlcmhpepaaGreatDoor
open Go Go.RowKit Go.Deep Go.Shelf

def Tab10 (w : World) : Prop := Lib.TabIs Tryz.prog w "internal/strconv.uint64pow10" .u64 Lib.pow10Tab

def itl (n : Int) : List Int := (Lib.itoa n).map fun b => (b.toNat : Int)
theorem itl_str (n : Int) : Str ⟨(Lib.itoa n).toArray⟩ (itl n) := rfl

theorem below_grown {w : World} (k : Nat) (os : Array Obj) : Below w.heap.size w (Go.Sort.grow (w.drewN k) os) := by
  refine ⟨rfl, rfl, rfl, ?_, fun j hj => ?_⟩
  · show w.heap.size ≤ (w.heap ++ os).size
    simp
  · show (w.heap ++ os)[j]? = w.heap[j]?
    rw [Array.getElem?_append_left hj]

end Go.Proofs.YtigmhnlcmhpepaaGreatDoor

namespace Go.Proofs.YtigmhnlcmhpepaaGreatDoor
open Go.RowKit Go.Deep Go.Shelf

def vcloneRen : Go.Shelf.Ren := ⟨fun _ => 73, fun t => if t = 37 then 172 else if t = 47 then 173 else if t = 5 then 5 else if t = 9 then 9 else if t = 3 then 3 else t, fun g => g⟩
theorem vcloneLays : LaysPu.n25 Tryz.prog vcloneRen where
  mixed := by kernel_rfl
  f25 := by kernel_rfl
  t0 := by kernel_rfl
  a0 := fun _ => by kernel_rfl
  z0 := fun _ => by kernel_rfl
  v0 := fun _ => by kernel_rfl
  i0 := by kernel_rfl
  t3 := by kernel_rfl
  a3 := fun _ => by kernel_rfl
  z3 := fun _ => by kernel_rfl
  v3 := fun _ => by kernel_rfl
  i3 := by kernel_rfl
  t4 := by kernel_rfl
  a4 := fun _ => by kernel_rfl
  z4 := fun _ => by kernel_rfl
  v4 := fun _ => by kernel_rfl
  i4 := by kernel_rfl
  t5 := by kernel_rfl
  a5 := fun _ => by kernel_rfl
  z5 := fun _ => by kernel_rfl
  v5 := fun _ => by kernel_rfl
  i5 := by kernel_rfl
  t9 := by kernel_rfl
  a9 := fun _ => by kernel_rfl
  z9 := fun _ => by kernel_rfl
  v9 := fun _ => by kernel_rfl
  i9 := by kernel_rfl
  t37 := by kernel_rfl
  a37 := fun _ => by kernel_rfl
  z37 := fun _ => by kernel_rfl
  v37 := fun _ => by kernel_rfl
  i37 := by kernel_rfl
  t47 := by kernel_rfl
  a47 := fun _ => by kernel_rfl
  z47 := fun _ => by kernel_rfl
  v47 := fun _ => by kernel_rfl
  i47 := by kernel_rfl

theorem vclone_any (s : ByteArray) (w : World) (hs : s.size ≤ 281474976710656) : Calls Tryz.prog 50 #[.string s] w fun e w' => e = .returned (.string s) ∧ Below w.heap.size w w' := by
  have C : Hid (Calls Tryz.prog 73 #[.string s] w fun e w' => e = .returned (.string s) ∧ Below w.heap.size w w') := AnyPu.stringslite_Clone vcloneLays s w (by omega)
  go_enter Tryz.func50, Tryz.ntmps50
  go_wp2_with fail
  refine C.out.mono ?_
  rintro e w1 ⟨rfl, d1⟩
  have D := hid d1
  clear d1
  go_wp2_with fail
  go_ret
  exact ⟨rfl, D.out⟩
end Go.Proofs.YtigmhnlcmhpepaaGreatDoor

namespace Go.Proofs.YtigmhnlcmhpepaaGreatDoor
open Go Go.RowKit Go.Deep Go.Shelf

def sortLays_ren : Go.Shelf.Ren := ⟨fun | 6 => 34 | 14 => 44 | 15 => 45 | 20 => 57 | 21 => 58 | 22 => 59 | 23 => 60 | 24 => 61 | 25 => 62 | 26 => 63 | 27 => 64 | 28 => 65 | 29 => 66 | 46 => 75 | 47 => 76 | 48 => 77 | 49 => 78 | 50 => 79 | 57 => 101 | n => n, fun | 22 => 82 | 23 => 83 | 24 => 66 | 25 => 84 | 27 => 50 | 29 => 95 | 33 => 321 | 37 => 100 | 38 => 101 | 39 => 102 | 42 => 112 | 44 => 117 | 45 => 118 | 46 => 119 | 47 => 120 | 48 => 121 | 49 => 122 | 50 => 85 | 51 => 123 | 52 => 124 | 53 => 125 | 54 => 114 | 55 => 22 | 66 => 147 | 67 => 148 | 68 => 149 | 69 => 150 | 70 => 151 | 71 => 152 | 76 => 174 | 77 => 175 | 78 => 176 | 81 => 192 | 82 => 329 | 83 => 330 | 84 => 331 | 85 => 332 | 86 => 333 | 87 => 47 | 88 => 334 | 89 => 335 | 90 => 336 | 91 => 173 | 92 => 337 | 93 => 338 | 94 => 339 | 95 => 340 | 96 => 248 | n => n, fun | n => n⟩
theorem sortLays : Go.Proofs.SlLaysF0.n6 Tryz.prog sortLays_ren := {
  mixed := by kernel_rfl
  f6 := ⟨ "slices.SortFunc[[]abacus/relate.ticket,abacus/relate.ticket]", by kernel_rfl, Tryz.func34.trans (congrArg some (by kernel_rfl))⟩
  f14 := ⟨ "slices.pdqsortCmpFunc[abacus/relate.ticket]", by kernel_rfl, Tryz.func44.trans (congrArg some (by kernel_rfl))⟩
  f15 := Tryz.func45.trans (congrArg some (by kernel_rfl))
  f20 := ⟨ "slices.insertionSortCmpFunc[abacus/relate.ticket]", by kernel_rfl, Tryz.func57.trans (congrArg some (by kernel_rfl))⟩
  f21 := ⟨ "slices.heapSortCmpFunc[abacus/relate.ticket]", by kernel_rfl, Tryz.func58.trans (congrArg some (by kernel_rfl))⟩
  f22 := ⟨ "slices.breakPatternsCmpFunc[abacus/relate.ticket]", by kernel_rfl, Tryz.func59.trans (congrArg some (by kernel_rfl))⟩
  f23 := ⟨ "slices.choosePivotCmpFunc[abacus/relate.ticket]", by kernel_rfl, Tryz.func60.trans (congrArg some (by kernel_rfl))⟩
  f24 := ⟨ "slices.reverseRangeCmpFunc[abacus/relate.ticket]", by kernel_rfl, Tryz.func61.trans (congrArg some (by kernel_rfl))⟩
  f25 := ⟨ "slices.partialInsertionSortCmpFunc[abacus/relate.ticket]", by kernel_rfl, Tryz.func62.trans (congrArg some (by kernel_rfl))⟩
  f26 := ⟨ "slices.partitionEqualCmpFunc[abacus/relate.ticket]", by kernel_rfl, Tryz.func63.trans (congrArg some (by kernel_rfl))⟩
  f27 := ⟨ "slices.partitionCmpFunc[abacus/relate.ticket]", by kernel_rfl, Tryz.func64.trans (congrArg some (by kernel_rfl))⟩
  f28 := Tryz.func65.trans (congrArg some (by kernel_rfl))
  f29 := Tryz.func66.trans (congrArg some (by kernel_rfl))
  f46 := ⟨ "slices.siftDownCmpFunc[abacus/relate.ticket]", by kernel_rfl, Tryz.func75.trans (congrArg some (by kernel_rfl))⟩
  f47 := Tryz.func76.trans (congrArg some (by kernel_rfl))
  f48 := Tryz.func77.trans (congrArg some (by kernel_rfl))
  f49 := ⟨ "slices.medianAdjacentCmpFunc[abacus/relate.ticket]", by kernel_rfl, Tryz.func78.trans (congrArg some (by kernel_rfl))⟩
  f50 := ⟨ "slices.medianCmpFunc[abacus/relate.ticket]", by kernel_rfl, Tryz.func79.trans (congrArg some (by kernel_rfl))⟩
  f57 := ⟨ "slices.order2CmpFunc[abacus/relate.ticket]", by kernel_rfl, Tryz.func101.trans (congrArg some (by kernel_rfl))⟩
  t0 := Tryz.underlying0
  a0 := Tryz.isAgg0
  z0 := Tryz.sizeOf0
  v0 := Tryz.zeroValue0
  t3 := Tryz.underlying3
  a3 := Tryz.isAgg3
  z3 := Tryz.sizeOf3
  v3 := Tryz.zeroValue3
  t4 := Tryz.underlying4
  a4 := Tryz.isAgg4
  z4 := Tryz.sizeOf4
  v4 := Tryz.zeroValue4
  t5 := Tryz.underlying5
  a5 := Tryz.isAgg5
  z5 := Tryz.sizeOf5
  v5 := Tryz.zeroValue5
  t9 := Tryz.underlying9
  a9 := Tryz.isAgg9
  z9 := Tryz.sizeOf9
  v9 := Tryz.zeroValue9
  t22 := Tryz.underlying82
  a22 := Tryz.isAgg82
  z22 := Tryz.sizeOf82
  v22 := Tryz.zeroValue82
  t25 := Tryz.underlying84
  a25 := Tryz.isAgg84
  z25 := Tryz.sizeOf84
  v25 := Tryz.zeroValue84
  t39 := Tryz.underlying102
  a39 := Tryz.isAgg102
  z39 := Tryz.sizeOf102
  v39 := Tryz.zeroValue102
  t45 := Tryz.underlying118
  a45 := Tryz.isAgg118
  z45 := Tryz.sizeOf118
  v45 := Tryz.zeroValue118
  t46 := Tryz.underlying119
  a46 := Tryz.isAgg119
  z46 := Tryz.sizeOf119
  v46 := Tryz.zeroValue119
  t50 := Tryz.underlying85
  a50 := Tryz.isAgg85
  z50 := Tryz.sizeOf85
  v50 := Tryz.zeroValue85
  t53 := Tryz.underlying125
  a53 := Tryz.isAgg125
  z53 := Tryz.sizeOf125
  v53 := Tryz.zeroValue125
  t55 := Tryz.underlying22
  a55 := Tryz.isAgg22
  z55 := Tryz.sizeOf22
  v55 := Tryz.zeroValue22
  t66 := Tryz.underlying147
  a66 := Tryz.isAgg147
  z66 := Tryz.sizeOf147
  v66 := Tryz.zeroValue147
  t70 := Tryz.underlying151
  a70 := Tryz.isAgg151
  z70 := Tryz.sizeOf151
  v70 := Tryz.zeroValue151
  t76 := Tryz.underlying174
  a76 := Tryz.isAgg174
  z76 := Tryz.sizeOf174
  v76 := Tryz.zeroValue174
  t77 := Tryz.underlying175
  a77 := Tryz.isAgg175
  z77 := Tryz.sizeOf175
  v77 := Tryz.zeroValue175 }
end Go.Proofs.YtigmhnlcmhpepaaGreatDoor

namespace Go.Proofs.YtigmhnlcmhpepaaGreatDoor
open Go.RowKit Go.Deep

def OwnB (w : World) (g : Nat) (zs : List Int) : Prop := w.heap[g]? = some (.cells (zs.map (Value.int .u8)).toArray 5 (0, 0))

theorem OwnB.cell {w : World} {g : Nat} {zs : List Int} (h : OwnB w g zs) (i : Nat) (hi : i < zs.length) : w.cell? ⟨g, i, none⟩ = some (.int .u8 (zs.getD i 0)) := by
  simp only [OwnB] at h
  simp [World.cell?, h, List.getD, hi]

theorem OwnB.free {w : World} {g : Nat} {zs : List Int} (h : OwnB w g zs) (i : Nat) : w.frozen? ⟨g, i, none⟩ = false := by
  simp only [OwnB] at h
  simp [World.frozen?, h]

theorem OwnB.lt {w : World} {g : Nat} {zs : List Int} (h : OwnB w g zs) : g < w.heap.size := by
  rcases Nat.lt_or_ge g w.heap.size with hl | hl
  · exact hl
  · simp [OwnB, Array.getElem?_eq_none hl] at h

theorem OwnB.set {w : World} {g : Nat} {zs : List Int} (h : OwnB w g zs) (i : Nat) (s : Int) : OwnB (w.setCell ⟨g, i, none⟩ (.int .u8 s)) g (zs.set i s) := by
  have hl := h.lt
  simp only [OwnB] at h ⊢
  simp [World.setCell, Array.getElem?_modify, h, List.map_set]

theorem OwnB.below {w w' : World} {B g : Nat} {zs : List Int} (h : OwnB w g zs) (hb : Below B w w') (hg : g < B) : OwnB w' g zs := by
  simp only [OwnB] at h ⊢
  rw [hb.block g hg, h]

theorem OwnB.drewN {w : World} {g : Nat} {zs : List Int} (h : OwnB w g zs) (n : Nat) : OwnB (w.drewN n) g zs := h

theorem OwnB.alloc (w : World) (zs : List Int) : OwnB (w.alloc (.cells (zs.map (Value.int .u8)).toArray 5)) w.heap.size zs := by
  show (w.heap.push _)[w.heap.size]? = _
  rw [Array.getElem?_push, if_pos rfl]

theorem made_zero8 (n : Nat) : madeCells #[Value.int .u8 0] n = ((List.replicate n (0 : Int)).map (Value.int .u8)).toArray := by
  apply Array.toList_inj.1
  rw [toList_madeCells_one]
  simp

theorem info8 : (Tryz.prog.info? 5).map (fun i => (i.zero, i.size, i.bytes)) = some (some (.int .u8 0), 1, 1) := by kernel_rfl

/-- make([]byte, n). -/
theorem make8 (n : Nat) (h : n ≤ 35184372088832) (w : World) :
    (Instr.makeSlice 172 (.int .i64 (n : Int)) (.int .i64 (n : Int))).run Tryz.prog w = .ok (.slice (some ⟨w.heap.size, 0, none⟩) n n) (w.alloc (.cells (madeCells #[.int .u8 0] n) 5)) :=
  run_make_row' 172 5 (.int .u8 0) 1 Tryz.underlying172 info8 rfl .i64 .i64 n (by omega) (by omega) w

/-- Only the block g, and new ones, have changed. -/
structure Only (g : Nat) (w w' : World) : Prop where
  os : w'.os = w.os
  tape : w'.tape = w.tape
  output : w'.output = w.output
  size : w.heap.size ≤ w'.heap.size
  block : ∀ j, j < w.heap.size → j ≠ g → w'.heap[j]? = w.heap[j]?

theorem Only.refl (g : Nat) (w : World) : Only g w w := ⟨rfl, rfl, rfl, Nat.le_refl _, fun _ _ _ => rfl⟩
theorem Only.trans {g : Nat} {a b c : World} (h : Only g a b) (k : Only g b c) : Only g a c :=
  ⟨k.os.trans h.os, k.tape.trans h.tape, k.output.trans h.output, Nat.le_trans h.size k.size, fun i hi hs => (k.block i (Nat.lt_of_lt_of_le hi h.size) hs).trans (h.block i hi hs)⟩
theorem Only.of_below {g : Nat} {a b : World} (h : Below a.heap.size a b) : Only g a b := ⟨h.os, h.tape, h.output, h.size, fun i hi _ => h.block i hi⟩
theorem Only.below {g B : Nat} {a b : World} (h : Only g a b) (hg : B ≤ g) (hB : B ≤ a.heap.size) : Below B a b := ⟨h.os, h.tape, h.output, h.size, fun i hi => h.block i (by omega) (by omega)⟩
theorem Only.set {w : World} {g : Nat} (i : Nat) (v : Value) : Only g w (w.setCell ⟨g, i, none⟩ v) := by
  refine ⟨rfl, rfl, rfl, by simp [World.setCell], fun j _ hne => ?_⟩
  simp only [World.setCell, Array.getElem?_modify]
  rw [if_neg (fun h => hne h.symm)]
theorem Only.drewN {g : Nat} {a b : World} (h : Only g a b) (n : Nat) : Only g a (b.drewN n) := ⟨h.os, h.tape, h.output, h.size, h.block⟩
theorem Only.cell {g : Nat} {a b : World} (h : Only g a b) {p : Addr} {v : Value} (hc : a.cell? p = some v) (hp : p.block ≠ g) : b.cell? p = some v := by
  have := h.block p.block (cell_lt hc) hp
  rw [← hc]
  simp only [World.cell?, this]

theorem Lies.only {w w' : World} {g : Nat} {p : Option Addr} {zs : List Int} (h : Lies w p zs) (k : Only g w w') (hp : ∀ a, p = some a → a.block ≠ g) : Lies w' p zs := by
  rcases h with h | ⟨b, off, rfl, h⟩
  · exact .inl h
  · exact .inr ⟨b, off, rfl, fun i hi => k.cell (h i hi) (hp ⟨b, off, none⟩ rfl)⟩

theorem Arg.only {w w' : World} {g : Nat} {p : Option Addr} {n cap : Nat} {zs : List Int} (h : Arg w p n cap zs) (k : Only g w w') (hp : ∀ a, p = some a → a.block ≠ g) : Arg w' p n cap zs := ⟨h.1, h.2.1, h.2.2.1, h.2.2.2.1.only k hp, h.2.2.2.2⟩

/-- Digits written into a row of bytes, from a place on. -/
def put (ds : List Int) (o : Nat) (xs : List Int) : List Int := ds.take o ++ xs ++ ds.drop (o + xs.length)

theorem put_length (ds : List Int) (o : Nat) (xs : List Int) (h : o + xs.length ≤ ds.length) : (put ds o xs).length = ds.length := by
  simp [put]
  omega

theorem put_nil (ds : List Int) (o : Nat) : put ds o [] = ds := by simp [put]

/-- One more at the head. -/
theorem put_head (ds : List Int) (o : Nat) (x : Int) (xs : List Int) (h : o + 1 + xs.length ≤ ds.length) : (put ds (o + 1) xs).set o x = put ds o (x :: xs) := by
  have h1 : ds.take (o + 1) = ds.take o ++ [ds.getD o 0] := by
    rw [List.take_add_one]
    simp [List.getElem?_eq_getElem (show o < ds.length by omega)]
  simp only [put, h1, List.length_cons]
  rw [List.append_assoc, List.append_assoc, List.set_append_right _ _ (by simp; omega)]
  simp [show min o ds.length = o by omega, show o + 1 + xs.length = o + (xs.length + 1) by omega]

/-- Two rows side by side. -/
theorem put_two (ds : List Int) (o : Nat) (xs ys : List Int) (h : o + xs.length + ys.length ≤ ds.length) : put (put ds o xs) (o + xs.length) ys = put ds o (xs ++ ys) := by
  have hl : (ds.take o ++ xs).length = o + xs.length := by simp; omega
  simp only [put]
  rw [List.take_append_of_le_length (by omega), List.take_of_length_le (by omega), ← hl, List.drop_append, List.drop_of_length_le (by omega), List.nil_append, List.drop_drop]
  simp only [hl, List.length_append, List.append_assoc]
  congr 4
  omega
end Go.Proofs.YtigmhnlcmhpepaaGreatDoor



namespace Go.Proofs.YtigmhnlcmhpepaaGreatDoor
open Go.RowKit Go.Deep

/-- The kit's contract for Mul64, laid at this program. -/
def mulRen : Go.Shelf.Ren := ⟨fun _ => 191, fun t => if t = 53 then 22 else 102, fun g => g⟩
theorem mulLays : Lays.n264 Tryz.prog mulRen where
  mixed := by kernel_rfl
  f264 := by kernel_rfl
  t46 := by kernel_rfl
  a46 := fun _ => by kernel_rfl
  z46 := fun _ => by kernel_rfl
  v46 := fun _ => by kernel_rfl
  t53 := by kernel_rfl
  a53 := fun _ => by kernel_rfl
  z53 := fun _ => by kernel_rfl
  v53 := fun _ => by kernel_rfl

theorem mul64_nat (x y : Nat) (hx : x < 18446744073709551616) (hy : y < 18446744073709551616) (w : World) :
    Calls Tryz.prog 191 #[.int .u64 x, .int .u64 y] w fun e w' => e = .returned (.tuple #[.int .u64 ((x * y / 18446744073709551616 : Nat) : Int), .int .u64 ((x * y % 18446744073709551616 : Nat) : Int)]) ∧ w' = w :=
  Any.bits_Mul64 mulLays x y hx hy w

/-- Mul64: the two limbs of the product, under names. -/
theorem mul64 (x y : Int) (hx : 0 ≤ x) (hx' : x < 18446744073709551616) (hy : 0 ≤ y) (hy' : y < 18446744073709551616) (w : World) :
    Calls Tryz.prog 191 #[.int .u64 x, .int .u64 y] w fun e w' => ∃ h l : Int, e = .returned (.tuple #[.int .u64 h, .int .u64 l]) ∧ (0 ≤ h ∧ h ≤ 18446744073709551614 ∧ 0 ≤ l ∧ l < 18446744073709551616) ∧ Hid (l + 18446744073709551616 * h = x * y) ∧ Hid (h = x * y / 18446744073709551616) ∧ w' = w := by
  obtain ⟨x, rfl⟩ := Int.eq_ofNat_of_zero_le hx
  obtain ⟨y, rfl⟩ := Int.eq_ofNat_of_zero_le hy
  refine (mul64_nat x y (by omega) (by omega) w).mono ?_
  rintro e w' ⟨rfl, rfl⟩
  have hb : x * y ≤ 18446744073709551615 * 18446744073709551615 := Nat.mul_le_mul (by omega) (by omega)
  have hc : ((x * y : Nat) : Int) = (x : Int) * (y : Int) := Int.natCast_mul x y
  rw [← hc]
  refine ⟨_, _, rfl, ?_, ?_, ?_, rfl⟩
  · generalize x * y = t at hb
    omega
  · show _ = _
    generalize x * y = t
    omega
  · show _ = _
    generalize x * y = t
    omega
end Go.Proofs.YtigmhnlcmhpepaaGreatDoor

namespace Go.Proofs.YtigmhnlcmhpepaaGreatDoor
open Go.RowKit Go.Deep

theorem Ans.small {B : Nat} {w : World} {p : Option Addr} {ys : List Int} {n : Int} (h : Ans B w p ys n) (hn : n < Nm.pw 4096) : ys.length ≤ 4096 := by
  have h1 := (Nm.tsize_le_iff h.2.1 4096).2 (by rw [h.2.2.2.1]; exact hn)
  have h2 := h.2.2.1
  omega

theorem Arg.small {w : World} {p : Option Addr} {n cap : Nat} {zs : List Int} (h : Arg w p n cap zs) (hn : Nm.val zs < Nm.pw 4096) : Nm.tsize zs ≤ 4096 := (Nm.tsize_le_iff h.2.2.2.2 4096).2 hn

/-- Behind j limbs of a sum: what is in the block, and the carry beyond it, is T. -/
def AddInv (g k : Nat) (w : World) (T : Int) (j : Nat) (c : Int) (os : List Int) (wr : World) : Prop :=
  Own wr g os ∧ os.length = k ∧ Nm.Limbs os ∧ Nm.val os + Nm.pw j * c = T ∧ Below g w wr ∧ wr.heap.size = w.heap.size

theorem AddInv.step {g k : Nat} {w : World} {T : Int} {j : Nat} {c : Int} {os : List Int} {wr : World} (h : AddInv g k w T j c os wr) (hj : j < k) {x s c' : Int}
    (hs : s = (os.getD j 0 + x + c) % 18446744073709551616) (hc : c' = (os.getD j 0 + x + c) / 18446744073709551616) :
    AddInv g k w (T + Nm.pw j * x) (j + 1) c' (os.set j s) (wr.setCell ⟨g, j, none⟩ (.int .u64 s)) := by
  obtain ⟨h1, h2, h3, h4, h5, h6⟩ := h
  refine ⟨h1.set j s, by simpa using h2, h3.set j (by omega) (by omega), Nm.add_step (by omega) (by omega) h4, h5.setCell (Nat.le_refl _) _, by simpa [World.setCell] using h6⟩

theorem AddInv.end {g k : Nat} {w : World} {T : Int} {j : Nat} {c : Int} {os : List Int} {wr : World} (h : AddInv g k w T j c os wr) (hT : T < Nm.pw k) (hc : 1 ≤ c) : j < k := by
  obtain ⟨h1, h2, h3, h4, h5, h6⟩ := h
  rcases Nat.lt_or_ge j k with hj | hj
  · exact hj
  · have e1 := Nm.pw_mono hj
    have e2 := (Nm.val_bd os h3).1
    have e3 := Nm.pw_pos j
    have e4 : Nm.pw j * 1 ≤ Nm.pw j * c := Int.mul_le_mul_of_nonneg_left hc (by omega)
    omega

/-- Behind j limbs of a product added in, from limb o on: what is in the block, and the carry beyond, is T; behind limb 'top' nothing has turned. -/
def MulInv (g k top : Nat) (w : World) (zs : List Int) (T : Int) (j : Nat) (c : Int) (os : List Int) (wr : World) : Prop :=
  AddInv g k w T j c os wr ∧ (0 ≤ c ∧ c < 18446744073709551616) ∧ ∀ i, top ≤ i → os.getD i 0 = zs.getD i 0

/-- One limb: s + 2^64 c' = out[j] + x m + c. -/
theorem MulInv.step {g k top : Nat} {w : World} {zs : List Int} {T : Int} {j : Nat} {c : Int} {os : List Int} {wr : World} (h : MulInv g k top w zs T j c os wr) (hj : j < k) (ht : j < top) {x s c' : Int}
    (hs0 : 0 ≤ s ∧ s < 18446744073709551616) (hc0 : 0 ≤ c' ∧ c' < 18446744073709551616) (hs : s + 18446744073709551616 * c' = os.getD j 0 + x + c) :
    MulInv g k top w zs (T + Nm.pw j * x) (j + 1) c' (os.set j s) (wr.setCell ⟨g, j, none⟩ (.int .u64 s)) := by
  obtain ⟨⟨h1, h2, h3, h4, h5, h6⟩, h7, h8⟩ := h
  refine ⟨⟨h1.set j s, by simpa using h2, h3.set j hs0.1 hs0.2, Nm.add_step (by omega) hs h4, h5.setCell (Nat.le_refl _) _, by simpa [World.setCell] using h6⟩, hc0, fun i hi => ?_⟩
  rw [Nm.getD_set _ _ _ _ (by omega), if_neg (by omega)]
  exact h8 i hi

/-- The limbs of one round of addTimes. -/
theorem times_step {x m y c p l h : Int} {s1 k1 s2 k2 : Int} (hp : l + 18446744073709551616 * h = p) (hl : 0 ≤ l ∧ l < 18446744073709551616) (hh : 0 ≤ h) (hx : 0 ≤ x ∧ x < 18446744073709551616) (hm : 0 ≤ m ∧ m < 18446744073709551616) (hxm : p = x * m)
    (hy : 0 ≤ y ∧ y < 18446744073709551616) (hc : 0 ≤ c ∧ c < 18446744073709551616)
    (e1 : s1 = (l + y + 0) % 18446744073709551616) (e2 : k1 = (l + y + 0) / 18446744073709551616) (e3 : s2 = (s1 + c + 0) % 18446744073709551616) (e4 : k2 = (s1 + c + 0) / 18446744073709551616) :
    (0 ≤ s2 ∧ s2 < 18446744073709551616) ∧ (0 ≤ h + k1 + k2 ∧ h + k1 + k2 < 18446744073709551616) ∧ s2 + 18446744073709551616 * (h + k1 + k2) = y + x * m + c := by
  have hb : x * m ≤ 18446744073709551615 * 18446744073709551615 := Int.mul_le_mul (by omega) (by omega) (by omega) (by omega)
  rw [← hxm] at hb ⊢
  clear hxm
  omega

set_option maxHeartbeats 1000000 in
theorem addTimes_any (g k o n cap : Nat) (zs : List Int) (q : Option Addr) (cap' : Nat) (ys : List Int) (m : Int) (w : World) (hk : zs.length = k) (hkm : k ≤ 35184372088832) (ho : Own w g zs) (hl : Nm.Limbs zs)
    (hn : ys.length = n) (hon : o + n ≤ k) (hy : Lies w q ys) (hly : Nm.Limbs ys) (hq : 0 < ys.length → ∀ a, q = some a → a.block < g) (hm0 : 0 ≤ m) (hm1 : m < 18446744073709551616) :
    Calls Tryz.prog 234 #[.slice (some ⟨g, o, none⟩) n cap, .slice q n cap', .int .u64 m] w fun e w' => ∃ (c : Int) (os : List Int), e = .returned (.int .u64 c) ∧
      MulInv g k (o + n) w zs (Nm.val zs + Nm.pw o * (Nm.val ys * m)) (o + n) c os w' := by
  rcases hy with rfl | ⟨b, off, rfl, hcell⟩
  · have hn0 : n = 0 := by simpa using hn.symm
    subst hn0
    have E : MulInv g k (o + 0) w zs (Nm.val zs + Nm.pw o * (Nm.val [] * m)) (o + 0) 0 zs w := ⟨⟨ho, hk, hl, by simp [Nm.val], Below.refl _ _, rfl⟩, by omega, fun _ _ => rfl⟩
    clear ho hl hq hn hk
    go_enter Tryz.func234, Tryz.ntmps234
    go_wp2
    refine wp_loop_rounds 1 ?_
    rw [rounds_succ]
    go_wp2
    go_ret
    exact ⟨0, zs, rfl, E⟩
  · have hbg : 0 < ys.length → b < g := fun h => hq h _ rfl
    have I0 : MulInv g k (o + n) w zs (Nm.val zs + Nm.pw o * (Nm.val (ys.take 0) * m)) (o + 0) 0 zs w := ⟨⟨ho, hk, hl, by simp [Nm.val], Below.refl _ _, rfl⟩, by omega, fun _ _ => rfl⟩
    have HC : Hid (∀ i, i < ys.length → w.cell? ⟨b, off + i, none⟩ = some (.int .u64 (ys.getD i 0))) := hcell
    have HM : Hid (ys.length = n) := hn
    have HY : Hid (Nm.Limbs ys) := hly
    clear hcell hn hly hq ho hk hl
    go_enter Tryz.func234, Tryz.ntmps234
    go_wp2
    go_loopw [7, 15] (fun c i wr => ∃ (j : Nat) (cc : Int) (os : List Int), j ≤ n ∧ i = .int .i64 j ∧ c = .int .u64 cc ∧ MulInv g k (o + n) w zs (Nm.val zs + Nm.pw o * (Nm.val (ys.take j) * m)) (o + j) cc os wr) (fun _ i _ => n - (intOf i).toNat)
    case atStart => exact ⟨0, 0, zs, Nat.zero_le _, rfl, rfl, I0⟩
    case round =>
      clear I0
      obtain ⟨j, cc, os, hj, rfl, rfl, I⟩ := hrel
      by_cases hlt : j < n
      · obtain ⟨x, hx, X⟩ : ∃ x, wr.cell? ⟨b, off + j, none⟩ = some (.int .u64 x) ∧ Hid (x = ys.getD j 0) :=
          ⟨_, (I.1.2.2.2.2.1.cell (p := ⟨b, off + j, none⟩) (hbg (by have := HM.out; omega))).trans (HC.out j (by have := HM.out; omega)), rfl⟩
        obtain ⟨y, hyc, Y⟩ : ∃ y, wr.cell? ⟨g, o + j, none⟩ = some (.int .u64 y) ∧ Hid (y = os.getD (o + j) 0) := ⟨_, I.1.1.cell (o + j) (by have := I.1.2.1; omega), rfl⟩
        have hfr := I.1.1.free (o + j)
        have hx0 : 0 ≤ x ∧ x < 18446744073709551616 := by have := HY.out.at j; have := X.out; omega
        have hy0 : 0 ≤ y ∧ y < 18446744073709551616 := by have := I.1.2.2.1.at (o + j); have := Y.out; omega
        have hcc := I.2.1
        obtain ⟨hx0, hx1⟩ := hx0
        obtain ⟨hy0, hy1⟩ := hy0
        obtain ⟨hcc0, hcc1⟩ := hcc
        go_wp2_with fail
        refine (mul64 x m hx0 hx1 hm0 hm1 _).mono ?_
        rintro e w' ⟨h, l, rfl, ⟨hh0, hh1, hl0, hl1⟩, P1, _, rfl⟩
        obtain ⟨s1, S1⟩ : ∃ s, Hid (s = (l + y + 0) % 18446744073709551616) := ⟨_, rfl⟩
        obtain ⟨k1, K1⟩ : ∃ c, Hid (c = (l + y + 0) / 18446744073709551616) := ⟨_, rfl⟩
        obtain ⟨s2, S2⟩ : ∃ s, Hid (s = (s1 + cc + 0) % 18446744073709551616) := ⟨_, rfl⟩
        obtain ⟨k2, K2⟩ : ∃ c, Hid (c = (s1 + cc + 0) / 18446744073709551616) := ⟨_, rfl⟩
        have hs1 : 0 ≤ s1 := by have := S1.out; omega
        have ST := hid (times_step P1.out ⟨hl0, hl1⟩ hh0 ⟨hx0, hx1⟩ ⟨hm0, hm1⟩ rfl ⟨hy0, hy1⟩ ⟨hcc0, hcc1⟩ S1.out K1.out S2.out K2.out)
        have hk1 : 0 ≤ k1 := by have := K1.out; omega
        have hk2 : 0 ≤ k2 := by have := K2.out; omega
        have hkk : h + k1 + k2 < 18446744073709551616 := ST.out.2.1.2
        go_wp2_with (first | simp only [add64' l y 0 s1 k1 hl0 hy0 (Int.le_refl 0) (by decide) S1.out K1.out] | simp only [add64' s1 cc 0 s2 k2 hs1 hcc0 (Int.le_refl 0) (by decide) S2.out K2.out])
        go_roundw
        case rel =>
          have hst := I.step (by omega) (by omega) (x := x * m) (s := s2) (c' := h + k1 + k2) ST.out.1 ST.out.2.1 (by rw [← Y.out]; exact ST.out.2.2)
          refine ⟨j + 1, h + k1 + k2, os.set (o + j) s2, by omega, by go_num, rfl, ?_⟩
          have e : Nm.val zs + Nm.pw o * (Nm.val (ys.take (j + 1)) * m) = Nm.val zs + Nm.pw o * (Nm.val (ys.take j) * m) + Nm.pw (o + j) * (x * m) := by
            rw [Nm.val_take_succ ys j (by have := HM.out; omega), ← X.out, Nm.pw_add, Int.add_mul, Int.mul_add, Int.mul_assoc, Int.mul_assoc]
            omega
          rw [e]
          exact hst
        case measure => simp [intOf]; omega
      · have hjn : j = n := by omega
        subst hjn
        rw [List.take_of_length_le (by have := HM.out; omega)] at I
        go_wp2
        go_ret
        exact ⟨cc, os, rfl, I⟩
end Go.Proofs.YtigmhnlcmhpepaaGreatDoor

namespace Go.Proofs.YtigmhnlcmhpepaaGreatDoor
open Go.RowKit Go.Deep

/-- The kit's contract for Len64, laid at this program. -/
def lenRen : Go.Shelf.Ren := ⟨fun _ => 66, fun t => if t = 53 then 22 else if t = 46 then 102 else if t = 5 then 5 else if t = 9 then 9 else if t = 4 then 4 else 3, fun g => g⟩
theorem lenLays : Lays.n129 Tryz.prog lenRen where
  mixed := by kernel_rfl
  f129 := by kernel_rfl
  t3 := by kernel_rfl
  a3 := fun _ => by kernel_rfl
  z3 := fun _ => by kernel_rfl
  v3 := fun _ => by kernel_rfl
  t4 := by kernel_rfl
  a4 := fun _ => by kernel_rfl
  z4 := fun _ => by kernel_rfl
  v4 := fun _ => by kernel_rfl
  t5 := by kernel_rfl
  a5 := fun _ => by kernel_rfl
  z5 := fun _ => by kernel_rfl
  v5 := fun _ => by kernel_rfl
  t9 := by kernel_rfl
  a9 := fun _ => by kernel_rfl
  z9 := fun _ => by kernel_rfl
  v9 := fun _ => by kernel_rfl
  t46 := by kernel_rfl
  a46 := fun _ => by kernel_rfl
  z46 := fun _ => by kernel_rfl
  v46 := fun _ => by kernel_rfl
  t53 := by kernel_rfl
  a53 := fun _ => by kernel_rfl
  z53 := fun _ => by kernel_rfl
  v53 := fun _ => by kernel_rfl

theorem len64 (x : Int) (w : World) (h0 : 0 ≤ x) (h1 : x < 18446744073709551616) :
    Calls Tryz.prog 66 #[.int .u64 x] w fun e w' => e = .returned (.int .i64 (Lib.bitLen x.toNat)) ∧ w' = w :=
  Any.bits_Len64 lenLays x w h0 (by omega)

theorem bitLen_small (x : Nat) (h : x < 18446744073709551616) : Lib.bitLen x ≤ 64 := Lib.bitLen_le x 64 (Nat.le_refl _) (by simpa using h)

end Go.Proofs.YtigmhnlcmhpepaaGreatDoor

namespace Go.Proofs.YtigmhnlcmhpepaaGreatDoor
open Go.RowKit Go.Deep

/-- The number of binary digits. -/
def blen (zs : List Int) : Int := if Nm.tsize zs = 0 then 0 else ((Nm.tsize zs : Int) - 1) * 64 + Lib.bitLen (zs.getD (Nm.tsize zs - 1) 0).toNat

theorem blen_trim (zs : List Int) (t : Nat) (ht : Nm.tsize zs = t + 1) : blen zs = (t : Int) * 64 + Lib.bitLen ((Nm.trim zs).getD t 0).toNat := by
  have e : (Nm.trim zs).getD t 0 = zs.getD t 0 := by rw [Nm.trim, Nm.getD_take, if_pos (by omega)]
  rw [blen, if_neg (by omega), e, ht]
  simp

theorem retI {a b : Int} (h : a = b) : Ending.returned (.int .i64 a) = .returned (.int .i64 b) := by rw [h]

set_option maxRecDepth 100000 in
set_option maxHeartbeats 1000000 in
theorem bitLen_any (p : Option Addr) (n cap : Nat) (zs : List Int) (w : World) (ha : Arg w p n cap zs) :
    Calls Tryz.prog 176 #[.slice p n cap] w fun e w' => e = .returned (.int .i64 (blen zs)) ∧ w' = w := by
  obtain ⟨a1, a2, a3, a4, a5⟩ := ha
  have tl := Nm.tsize_le zs
  by_cases h0 : Nm.tsize zs = 0
  · have h0' : ((Nm.tsize zs : Int) == 0) = true := by simp [h0]
    have E : Hid (blen zs = 0) := by rw [Hid, blen, if_pos h0]
    clear h0 tl
    go_enter Tryz.func176, Tryz.ntmps176
    go_wp2_with fail
    refine (trimmed_any p n cap zs _ a1 a2 (by omega) a4).mono ?_
    rintro e w' ⟨rfl, rfl⟩
    go_wp2_with fail
    go_ret
    exact ⟨retI E.out.symm, rfl⟩
  · obtain ⟨t, ht⟩ : ∃ t, Nm.tsize zs = t + 1 := ⟨Nm.tsize zs - 1, by omega⟩
    have T1 := trimmed_any p n cap zs w a1 a2 (by omega) a4
    rw [ht] at T1
    have h0' : ((t : Int) + 1 == 0) = false := by rw [beq_eq_false_iff_ne]; omega
    have E := hid (blen_trim zs t ht)
    have L := hid ((Nm.trim_length zs).trans ht)
    obtain ⟨b, off, rfl, hc⟩ : ∃ b off, p = some ⟨b, off, none⟩ ∧ w.cell? ⟨b, off + t, none⟩ = some (.int .u64 ((Nm.trim zs).getD t 0)) := by
      have l := L.out
      rcases a4.trim with h | ⟨b, off, hp, h⟩
      · rw [h] at l
        simp at l
      · exact ⟨b, off, hp, h t (by omega)⟩
    obtain ⟨x, X⟩ : ∃ x, Hid (x = (Nm.trim zs).getD t 0) := ⟨_, rfl⟩
    rw [← X.out] at hc
    have hx0 := a5.trim.at t
    rw [← X.out] at hx0
    obtain ⟨hx0, hx1⟩ := hx0
    have E2 : Hid (blen zs = (t : Int) * 64 + Lib.bitLen x.toNat) := by rw [Hid, X.out]; exact E.out
    obtain ⟨l, hl⟩ : ∃ l, Lib.bitLen x.toNat = l := ⟨_, rfl⟩
    have hl64 : l ≤ 64 := by rw [← hl]; exact bitLen_small _ (by omega)
    have hl64' : (l : Int) ≤ 64 := by omega
    have L64 := len64 x w hx0 hx1
    rw [hl] at L64 E2
    have HT := hid T1
    have HL := hid L64
    have ht44 : (t : Int) < 17592186044416 := by omega
    clear T1 L64 hl E X h0 ht tl a1 a2 a4 a5 L
    go_enter Tryz.func176, Tryz.ntmps176
    go_wp2_with fail
    refine HT.out.mono ?_
    rintro e w' ⟨rfl, rfl⟩
    go_wp2_with fail
    refine HL.out.mono ?_
    rintro e w' ⟨rfl, rfl⟩
    go_wp2_with fail
    go_ret
    exact ⟨retI E2.out.symm, rfl⟩
end Go.Proofs.YtigmhnlcmhpepaaGreatDoor

namespace Go.Proofs.YtigmhnlcmhpepaaGreatDoor
open Go.RowKit Go.Deep

theorem chain {B : Nat} {w w1 w2 : World} (h : Below B w w1) (k : Below w1.heap.size w1 w2) (hB : B ≤ w.heap.size) : Below B w w2 := h.trans (k.mono (by have := h.size; omega))

theorem Arg.tl {w : World} {p : Option Addr} {n cap : Nat} {zs : List Int} (h : Arg w p n cap zs) : Nm.tsize zs ≤ n := by have := Nm.tsize_le zs; have := h.1; omega

/-- The number of an answer's limbs, by the number itself. -/
theorem Ans.len {B : Nat} {w : World} {p : Option Addr} {ys zs : List Int} {n : Int} (h : Ans B w p ys n) (hz : Nm.Limbs zs) (hv : n = Nm.val zs) : ys.length = Nm.tsize zs := by
  rw [← h.2.2.1]
  exact Nm.tsize_congr h.2.1 hz (h.2.2.2.1.trans hv)
end Go.Proofs.YtigmhnlcmhpepaaGreatDoor

namespace Go.Proofs.YtigmhnlcmhpepaaGreatDoor
open Go.RowKit Go.Deep

/-- What BitLen tells. -/
theorem blen_is (zs : List Int) (hz : Nm.Limbs zs) : ∃ L : Nat, blen zs = (L : Int) ∧ Nm.BLen (Nm.val zs) L ∧ L ≤ 64 * Nm.tsize zs ∧ (0 < Nm.tsize zs → 64 * Nm.tsize zs < L + 64) := by
  by_cases h0 : Nm.tsize zs = 0
  · have hv := (Nm.tsize_zero_iff hz).1 h0
    exact ⟨0, by rw [blen, if_pos h0]; rfl, ⟨by rw [hv]; decide, fun _ => rfl, fun h => by omega⟩, by omega, fun h => by omega⟩
  · obtain ⟨t, ht⟩ : ∃ t, Nm.tsize zs = t + 1 := ⟨Nm.tsize zs - 1, by omega⟩
    have hx := hz.at t
    have hx0 := Nm.tsize_top zs (by omega)
    rw [show Nm.tsize zs - 1 = t by omega] at hx0
    obtain ⟨n, hn⟩ := Int.eq_ofNat_of_zero_le hx.1
    have hb := Lib.bitLenAux_bounds 64 n (by simpa using (show n < 18446744073709551616 by omega)) (by omega)
    rw [show Lib.bitLenAux 64 n = Lib.bitLen n from rfl] at hb
    have hs := bitLen_small n (by omega)
    obtain ⟨l, hl⟩ : ∃ l, Lib.bitLen n = l := ⟨_, rfl⟩
    rw [hl] at hb hs
    have e1 : ((2 ^ (l - 1) : Nat) : Int) = (2 : Int) ^ (l - 1) := by simp
    have e2 : ((2 ^ l : Nat) : Int) = (2 : Int) ^ l := by simp
    refine ⟨64 * t + l, ?_, Nm.blen_at zs t l hz ht hb.1 (by omega) (by omega), by omega, fun _ => by omega⟩
    rw [blen, if_neg h0, show Nm.tsize zs - 1 = t by omega, hn, Int.toNat_natCast, hl, ht]
    omega
end Go.Proofs.YtigmhnlcmhpepaaGreatDoor

namespace Go.Proofs.YtigmhnlcmhpepaaGreatDoor
open Go.RowKit Go.Deep

/-- What ToUint answers: the limb, and whether it is one. -/
def toU (zs : List Int) : Int := if Nm.tsize zs = 1 then zs.getD 0 0 else 0

theorem ret_to {a b : Int} {c d : Bool} (h : a = b) (k : c = d) : Ending.returned (.tuple #[.int .u64 a, .bool c]) = .returned (.tuple #[.int .u64 b, .bool d]) := by rw [h, k]

theorem toUint_any (p : Option Addr) (n cap : Nat) (zs : List Int) (w : World) (ha : Arg w p n cap zs) :
    Calls Tryz.prog 219 #[.slice p n cap] w fun e w' => e = .returned (.tuple #[.int .u64 (toU zs), .bool (decide (Nm.tsize zs ≤ 1))]) ∧ w' = w := by
  obtain ⟨a1, a2, a3, a4, a5⟩ := ha
  have tl := Nm.tsize_le zs
  have S1 := trimmed_any p n cap zs w a1 a2 (by omega) a4
  rcases (show Nm.tsize zs = 0 ∨ Nm.tsize zs = 1 ∨ 1 < Nm.tsize zs by omega) with h | h | h
  · have E : Hid (0 = toU zs ∧ true = decide (Nm.tsize zs ≤ 1)) := by simp [Hid, toU, h]
    rw [h] at S1
    have HS := hid S1
    clear S1 h
    go_enter Tryz.func219, Tryz.ntmps219
    go_wp2_with fail
    refine HS.out.mono ?_
    rintro e w' ⟨rfl, rfl⟩
    go_wp2
    go_ret2
    exact ⟨ret_to E.out.1 E.out.2, rfl⟩
  · have E : Hid (zs.getD 0 0 = toU zs ∧ true = decide (Nm.tsize zs ≤ 1)) := by simp [Hid, toU, h]
    obtain ⟨b, off, rfl, hbw, HC⟩ := a4.at (by omega)
    have hc := HC.out 0 (by omega)
    rw [Nat.add_zero] at hc
    rw [h] at S1
    have HS := hid S1
    clear S1 h
    go_enter Tryz.func219, Tryz.ntmps219
    go_wp2_with fail
    refine HS.out.mono ?_
    rintro e w' ⟨rfl, rfl⟩
    go_wp2
    go_ret2
    exact ⟨ret_to E.out.1 E.out.2, rfl⟩
  · have E : Hid (0 = toU zs ∧ false = decide (Nm.tsize zs ≤ 1)) := by
      refine ⟨?_, ?_⟩
      · rw [toU, if_neg (by omega)]
      · simp; omega
    have h1 : ((Nm.tsize zs : Int) == 0) = false := by rw [beq_eq_false_iff_ne]; omega
    have h2 : ((Nm.tsize zs : Int) == 1) = false := by rw [beq_eq_false_iff_ne]; omega
    have HS := hid S1
    clear S1 h
    go_enter Tryz.func219, Tryz.ntmps219
    go_wp2_with fail
    refine HS.out.mono ?_
    rintro e w' ⟨rfl, rfl⟩
    go_wp2
    go_ret2
    exact ⟨ret_to E.out.1 E.out.2, rfl⟩

theorem toU_val {zs : List Int} (hl : Nm.Limbs zs) (hv : Nm.val zs < 18446744073709551616) : toU zs = Nm.val zs := by
  have h1 : Nm.tsize zs ≤ 1 := (Nm.tsize_le_iff hl 1).2 (by simpa [Nm.pw] using hv)
  by_cases h : Nm.tsize zs = 1
  · rw [toU, if_pos h, ← Nm.val_trim zs, Nm.trim, h]
    cases zs with
    | nil => simp [Nm.val]
    | cons z zs => simp [Nm.val]
  · have h0 : Nm.tsize zs = 0 := by omega
    rw [toU, if_neg h, ← Nm.val_trim zs, Nm.trim, h0]
    simp [Nm.val]
end Go.Proofs.YtigmhnlcmhpepaaGreatDoor

namespace Go.Proofs.YtigmhnlcmhpepaaGreatDoor
open Go.RowKit Go.Deep

set_option maxRecDepth 100000 in
set_option maxHeartbeats 4000000 in
theorem spread_zero (B : Int) (W g o cap cp n c : Nat) (p pm : Option Addr) (za ds : List Int) (V : Int) (w : World) (h2 : 2 ≤ B) (h36 : B ≤ 36) (hW : W ≤ 63) (hd : OwnB w g ds) (hol : o + W ≤ ds.length) (ha : Arg w p n c za) (hV : Nm.val za = V) (hV1 : V < 18446744073709551616) :
    Calls Tryz.prog 209 #[.slice (some ⟨g, o, none⟩) W cap, .slice p n c, .slice pm 0 cp, .int .u64 B] w fun e w' => e = .returned (.tuple #[]) ∧ OwnB w' g (put ds o (Dn.dg B W V)) ∧ Only g w w' := by
  have hB0 : (B == 0) = false := by rw [beq_eq_false_iff_ne]; omega
  have hV0 : 0 ≤ V := by rw [← hV]; exact (Nm.val_bd za ha.2.2.2.2).1
  have TU : Hid (Calls Tryz.prog 219 #[.slice p n c] w fun e w' => e = .returned (.tuple #[.int .u64 V, .bool (decide (Nm.tsize za ≤ 1))]) ∧ w' = w) := by
    have := toUint_any p n c za w ha
    rw [toU_val ha.2.2.2.2 (by rw [hV]; exact hV1), hV] at this
    exact this
  have hWi : (W : Int) ≤ 63 := by omega
  have OB := hid hd
  have HOL := hid hol
  clear ha hV hd hol
  go_enter Tryz.func209, Tryz.ntmps209
  go_wp2_with fail
  refine TU.out.mono ?_
  rintro e w' ⟨rfl, rfl⟩
  clear TU
  go_wp2_with fail
  go_loopw [8, 10] (fun a i wr => ∃ (j : Nat) (N : Int), a = .int .u64 N ∧ i = .int .i64 ((j : Int) - 1) ∧ j ≤ W ∧ 0 ≤ N ∧ N < 18446744073709551616 ∧ Hid (N = V / B ^ (W - j) ∧ OwnB wr g (put ds (o + j) (Dn.dg B (W - j) V)) ∧ Only g w' wr)) (fun _ i _ => (intOf i + 1).toNat)
  case atStart =>
    refine ⟨W, V, rfl, rfl, Nat.le_refl _, hV0, hV1, ?_, ?_, Only.refl _ _⟩
    · rw [Nat.sub_self, Int.pow_zero, Int.ediv_one]
    · rw [Nat.sub_self, Dn.dg, put_nil]
      exact OB.out
  case round =>
    obtain ⟨j, N, rfl, rfl, hj, hN0, hN1, I⟩ := hrel
    cases j with
    | zero =>
      have F : Hid (OwnB wr g (put ds o (Dn.dg B W V)) ∧ Only g w' wr) := ⟨I.out.2.1, I.out.2.2⟩
      clear I
      go_wp2_with fail
      (try simp only [Exit.inBlock, Exit.then])
      refine bodyPost_ret (results_none rfl _ _ _) rfl ?_
      exact ⟨rfl, F.out⟩
    | succ u =>
      rw [show ((u + 1 : Nat) : Int) - 1 = (u : Int) by omega]
      have hu : (u : Int) < (W : Int) := by omega
      have hB1 : 0 < B := by omega
      obtain ⟨d, hd⟩ : ∃ d, N % B = d := ⟨_, rfl⟩
      obtain ⟨M, hM⟩ : ∃ M, N / B = M := ⟨_, rfl⟩
      have hd0 : 0 ≤ d := by rw [← hd]; exact Int.emod_nonneg _ (by omega)
      have hd1 : d < 36 := by have := Int.emod_lt_of_pos N hB1; omega
      have hM0 : 0 ≤ M := by rw [← hM]; exact Int.ediv_nonneg hN0 (by omega)
      have hM1 : M < 18446744073709551616 := by have := Int.ediv_le_self B hN0; omega
      have hlen : (put ds (o + (u + 1)) (Dn.dg B (W - (u + 1)) V)).length = ds.length := put_length _ _ _ (by rw [Dn.dg_length]; have := HOL.out; omega)
      have ST : Hid (∀ wq, Below wr.heap.size wr wq → OwnB (wq.setCell ⟨g, o + u, none⟩ (.int .u8 d)) g (put ds (o + u) (Dn.dg B (W - u) V)) ∧ Only g w' (wq.setCell ⟨g, o + u, none⟩ (.int .u8 d))) := by
        intro wq hb
        have h1 := (I.out.2.1.below hb I.out.2.1.lt).set (o + u) d
        rw [show o + (u + 1) = o + u + 1 by omega, put_head _ _ _ _ (by rw [Dn.dg_length]; have := HOL.out; omega)] at h1
        have e1 : d :: Dn.dg B (W - (u + 1)) V = Dn.dg B (W - u) V := by
          rw [show W - u = W - (u + 1) + 1 by omega, Dn.dg_head hB1, ← I.out.1, hd, Dn.dg_mod hB1]
        rw [e1] at h1
        exact ⟨h1, (I.out.2.2.trans (Only.of_below hb)).trans (Only.set _ _)⟩
      have EM : Hid (M = V / B ^ (W - u)) := by
        show _ = _
        rw [← hM, I.out.1, show W - u = W - (u + 1) + 1 by omega, Int.pow_succ, Int.ediv_ediv_of_nonneg (Int.le_of_lt (Int.pow_pos hB1))]
      obtain ⟨y, hy⟩ : ∃ y, wr.cell? ⟨g, o + u, none⟩ = some (.int .u8 y) := ⟨_, I.out.2.1.cell (o + u) (by rw [hlen]; have := HOL.out; omega)⟩
      have hfr := I.out.2.1.free (o + u)
      clear I hlen
      go_wp2_with fail
      go_region
      all_goals
        go_wp2
        go_roundw
        case rel => exact ⟨u, M, by first | rfl | rw [hM], by go_num, by omega, hM0, hM1, EM.out, ST.out _ (below_drewN (Below.refl _ _) _)⟩
        case measure => simp [intOf]
end Go.Proofs.YtigmhnlcmhpepaaGreatDoor

namespace Go.Proofs.YtigmhnlcmhpepaaGreatDoor
open Go.RowKit Go.Deep

def sgn (b : Bool) : Int := if b then 1 else -1

theorem sign_any (b : Bool) (w : World) : Calls Tryz.prog 232 #[.bool b] w fun e w' => e = .returned (.int .i64 (sgn b)) ∧ w' = w := by
  cases b
  · go_enter Tryz.func232, Tryz.ntmps232
    go_wp2
    go_ret
    exact ⟨rfl, rfl⟩
  · go_enter Tryz.func232, Tryz.ntmps232
    go_wp2
    go_ret
    exact ⟨rfl, rfl⟩

theorem cmp_at {zs ys : List Int} (hz : Nm.Limbs zs) (hy : Nm.Limbs ys) (hl : (Nm.trim zs).length = (Nm.trim ys).length) (t : Nat) (ht : t < (Nm.trim zs).length) (he : ∀ i, t + 1 ≤ i → (Nm.trim zs).getD i 0 = (Nm.trim ys).getD i 0) {x y : Int}
    (hx : x = (Nm.trim zs).getD t 0) (hy' : y = (Nm.trim ys).getD t 0) (hxy : x ≠ y) : sgn (decide (y < x)) = cmpI (Nm.val zs) (Nm.val ys) := by
  have hd := Nm.drop_eq_of_getD hl (t + 1) he
  rw [← Nm.val_trim zs, ← Nm.val_trim ys]
  by_cases h : y < x
  · rw [cmpI_gt (Nm.val_lt_at hy.trim hz.trim t (by omega) hl.symm (by rw [← hx, ← hy']; exact h) hd.symm)]
    simp [sgn, h]
  · rw [cmpI_lt (Nm.val_lt_at hz.trim hy.trim t ht hl (by rw [← hx, ← hy']; omega) hd)]
    simp [sgn, h]

set_option maxHeartbeats 1000000 in
theorem cmp_any (p q : Option Addr) (n cap m cap' : Nat) (zs ys : List Int) (w : World) (ha : Arg w p n cap zs) (hb : Arg w q m cap' ys) :
    Calls Tryz.prog 217 #[.slice p n cap, .slice q m cap'] w fun e w' => e = .returned (.int .i64 (cmpI (Nm.val zs) (Nm.val ys))) ∧ Below w.heap.size w w' := by
  obtain ⟨a1, a2, a3, a4, a5⟩ := ha
  obtain ⟨b1, b2, b3, b4, b5⟩ := hb
  have tl := Nm.tsize_le zs
  have tl' := Nm.tsize_le ys
  by_cases h1 : Nm.tsize zs < Nm.tsize ys
  · have E := hid (cmpI_lt (val_lt_of_tsize a5 b5 h1))
    have E' : Hid (sgn (decide (Nm.tsize ys < Nm.tsize zs)) = -1) := by simp [Hid, sgn]; omega
    have h1' : ((Nm.tsize zs : Int) != (Nm.tsize ys : Int)) = true := by rw [bne_iff_ne]; omega
    go_enter Tryz.func217, Tryz.ntmps217
    go_wp2_with fail
    refine (trimmed_any p n cap zs _ a1 a2 (by omega) a4).mono ?_
    rintro e w' ⟨rfl, rfl⟩
    go_wp2_with fail
    refine (trimmed_any q m cap' ys _ b1 b2 (by omega) b4).mono ?_
    rintro e w' ⟨rfl, rfl⟩
    go_wp2_with fail
    refine (sign_any _ _).mono ?_
    rintro e w' ⟨rfl, rfl⟩
    go_wp2
    go_ret
    exact ⟨ret_i64 (by rw [E.out]; first | exact E'.out | simp [sgn]), Below.refl _ _⟩
  by_cases h2 : Nm.tsize ys < Nm.tsize zs
  · have E := hid (cmpI_gt (val_lt_of_tsize b5 a5 h2))
    have E' : Hid (sgn (decide (Nm.tsize ys < Nm.tsize zs)) = 1) := by simp [Hid, sgn, h2]
    have h1' : ((Nm.tsize zs : Int) != (Nm.tsize ys : Int)) = true := by rw [bne_iff_ne]; omega
    go_enter Tryz.func217, Tryz.ntmps217
    go_wp2_with fail
    refine (trimmed_any p n cap zs _ a1 a2 (by omega) a4).mono ?_
    rintro e w' ⟨rfl, rfl⟩
    go_wp2_with fail
    refine (trimmed_any q m cap' ys _ b1 b2 (by omega) b4).mono ?_
    rintro e w' ⟨rfl, rfl⟩
    go_wp2_with fail
    refine (sign_any _ _).mono ?_
    rintro e w' ⟨rfl, rfl⟩
    go_wp2
    go_ret
    exact ⟨ret_i64 (by rw [E.out]; first | exact E'.out | simp [sgn]), Below.refl _ _⟩
  obtain ⟨N, HN⟩ : ∃ N, Hid (Nm.tsize zs = N) := ⟨_, rfl⟩
  have HN' : Hid (Nm.tsize ys = N) := by have := HN.out; exact (show Nm.tsize ys = N by omega)
  have T1 := trimmed_any p n cap zs w a1 a2 (by omega) a4
  have T2 := trimmed_any q m cap' ys w b1 b2 (by omega) b4
  rw [HN.out] at T1
  rw [HN'.out] at T2
  have hN : N ≤ 17592186044416 := by have := HN.out; omega
  have L1 := hid (Nm.trim_length zs)
  have L2 := hid (Nm.trim_length ys)
  clear h1 h2 tl tl'
  have fin : Nm.trim zs = Nm.trim ys → cmpI (Nm.val zs) (Nm.val ys) = 0 := fun h => cmpI_eq (by rw [← Nm.val_trim zs, ← Nm.val_trim ys, h])
  have FIN := hid fin
  clear fin
  by_cases h0 : N = 0
  · have HT1 := hid T1
    have HT2 := hid T2
    clear T1 T2
    subst h0
    go_enter Tryz.func217, Tryz.ntmps217
    go_wp2_with fail
    refine HT1.out.mono ?_
    rintro e w' ⟨rfl, rfl⟩
    go_wp2_with fail
    refine HT2.out.mono ?_
    rintro e w' ⟨rfl, rfl⟩
    go_wp2_with fail
    refine wp_loop_rounds 1 ?_
    rw [rounds_succ]
    go_wp2
    go_ret
    exact ⟨ret_i64 (FIN.out (by rw [List.eq_nil_of_length_eq_zero (L1.out.trans HN.out), List.eq_nil_of_length_eq_zero (L2.out.trans HN'.out)])).symm, Below.refl _ _⟩
  · obtain ⟨b, off, rfl, hbw, HC⟩ := a4.trim.at (by have := L1.out; have := HN.out; omega)
    obtain ⟨b', off', rfl, hbw', HC'⟩ := b4.trim.at (by have := L2.out; have := HN'.out; omega)
    have HT1 := hid T1
    have HT2 := hid T2
    clear T1 T2
    go_enter Tryz.func217, Tryz.ntmps217
    go_wp2_with fail
    refine HT1.out.mono ?_
    rintro e w' ⟨rfl, rfl⟩
    go_wp2_with fail
    refine HT2.out.mono ?_
    rintro e w' ⟨rfl, rfl⟩
    go_wp2_with fail
    go_loopw [5] (fun i wr => ∃ j : Nat, j ≤ N ∧ i = .int .i64 ((j : Int) - 1) ∧ Hid (∀ t, j ≤ t → (Nm.trim zs).getD t 0 = (Nm.trim ys).getD t 0) ∧ Below w'.heap.size w' wr) (fun i _ => (intOf i + 1).toNat)
    case atStart => exact ⟨N, Nat.le_refl _, rfl, fun t ht => by rw [List.getD, List.getElem?_eq_none (by have := L1.out; have := HN.out; omega), List.getD, List.getElem?_eq_none (by have := L2.out; have := HN'.out; omega)], Below.refl _ _⟩
    case round =>
      obtain ⟨j, hj, rfl, hE, hB⟩ := hrel
      by_cases hj0 : j = 0
      · subst hj0
        have HB := hid hB
        clear hB
        go_wp2
        go_ret
        refine ⟨ret_i64 (FIN.out ?_).symm, HB.out⟩
        have e := Nm.drop_eq_of_getD (by rw [L1.out, L2.out, HN.out, HN'.out]) 0 hE.out
        simpa using e
      · obtain ⟨t, rfl⟩ : ∃ t, j = t + 1 := ⟨j - 1, by omega⟩
        obtain ⟨x, hx, X⟩ : ∃ x, wr.cell? ⟨b, off + t, none⟩ = some (.int .u64 x) ∧ Hid (x = (Nm.trim zs).getD t 0) := ⟨_, (hB.cell (p := ⟨b, off + t, none⟩) hbw).trans (HC.out t (by have := L1.out; have := HN.out; omega)), rfl⟩
        obtain ⟨y, hy, Y⟩ : ∃ y, wr.cell? ⟨b', off' + t, none⟩ = some (.int .u64 y) ∧ Hid (y = (Nm.trim ys).getD t 0) := ⟨_, (hB.cell (p := ⟨b', off' + t, none⟩) hbw').trans (HC'.out t (by have := L2.out; have := HN'.out; omega)), rfl⟩
        have HB := hid hB
        clear hB
        have htN : (t : Int) < (N : Int) := by omega
        by_cases hxy : x = y
        · have hxy' : (x != y) = false := by simp [hxy]
          have HXY := hid hxy
          clear hxy
          go_wp2_with fail
          go_quiet (fail)
          go_wp2
          go_roundw
          case rel =>
            refine ⟨t, by omega, by go_num, fun i hi => ?_, below_drewN HB.out _⟩
            by_cases e : i = t
            · subst e; rw [← X.out, ← Y.out]; exact HXY.out
            · exact hE.out i (by omega)
          case measure => simp [intOf]
        · have hxy' : (x != y) = true := by simp [hxy]
          have HXY := hid hxy
          clear hxy
          go_wp2_with fail
          go_quiet (fail)
          have hx2 : (wr.drewN nq).cell? ⟨b, off + t, none⟩ = some (.int .u64 x) := hx
          have hy2 : (wr.drewN nq).cell? ⟨b', off' + t, none⟩ = some (.int .u64 y) := hy
          have HB2 := hid (below_drewN HB.out nq)
          clear hx hy HB
          generalize wr.drewN nq = wq at *
          go_wp2_with fail
          go_quiet ((go_at_call 232; exact Calls.quiet_of_same (sign_any _ _)))
          go_wp2
          go_ret
          exact ⟨ret_i64 (cmp_at a5 b5 (by rw [L1.out, L2.out, HN.out, HN'.out]) t (by rw [L1.out, HN.out]; omega) hE.out X.out Y.out HXY.out), below_drewN HB2.out _⟩

end Go.Proofs.YtigmhnlcmhpepaaGreatDoor

namespace Go.Proofs.YtigmhnlcmhpepaaGreatDoor
open Go.RowKit Go.Deep

theorem cmp_is (c : Int) (p q : Option Addr) (n cap m cap' : Nat) (zs ys : List Int) (w : World) (ha : Arg w p n cap zs) (hb : Arg w q m cap' ys) (hc : cmpI (Nm.val zs) (Nm.val ys) = c) :
    Calls Tryz.prog 217 #[.slice p n cap, .slice q m cap'] w fun e w' => e = .returned (.int .i64 c) ∧ Below w.heap.size w w' := by
  rw [← hc]
  exact cmp_any p q n cap m cap' zs ys w ha hb
end Go.Proofs.YtigmhnlcmhpepaaGreatDoor

namespace Go.Proofs.YtigmhnlcmhpepaaGreatDoor
open Go.RowKit Go.Deep

theorem limbs_any (p : Option Addr) (n cap : Nat) (zs : List Int) (w : World) (ha : Arg w p n cap zs) :
    Calls Tryz.prog 235 #[.slice p n cap] w fun e w' => e = .returned (.int .i64 (Nm.tsize zs : Int)) ∧ w' = w := by
  obtain ⟨L, h1, _, h3, h4⟩ := blen_is zs ha.2.2.2.2
  have tl := Nm.tsize_le zs
  have hn := ha.1
  have hc := ha.2.2.1
  have hc' := ha.2.1
  have H := bitLen_any p n cap zs w ha
  rw [h1] at H
  have HB := hid H
  obtain ⟨N, HN⟩ : ∃ N, Hid (Nm.tsize zs = N) := ⟨_, rfl⟩
  rw [HN.out] at h3 h4 ⊢
  have hL : (L : Int) ≤ 1125899906842624000 := by have := HN.out; omega
  have hL0 : (0 : Int) ≤ (L : Int) := by omega
  have E : Hid (((L : Int) + 64 - 1) / 64 = (N : Int)) := by show _ = _; omega
  have E2 : Hid (((L : Int) + 64 - 1).tdiv 64 = (N : Int)) := by show _ = _; rw [Int.tdiv_eq_ediv_of_nonneg (by omega)]; exact E.out
  clear h1 h3 h4 H hn hc hc' tl ha
  go_enter Tryz.func235, Tryz.ntmps235
  go_wp2_with fail
  refine HB.out.mono ?_
  rintro e w' ⟨rfl, rfl⟩
  go_wp2_with fail
  go_ret
  exact ⟨ret_i64 (by first | exact E.out | exact E2.out), rfl⟩
end Go.Proofs.YtigmhnlcmhpepaaGreatDoor

namespace Go.Proofs.YtigmhnlcmhpepaaGreatDoor
open Go.RowKit Go.Deep

theorem ans_none (B : Nat) (w : World) (p : Option Addr) (h : ∀ a, p = some a → B ≤ a.block) : Ans B w p [] 0 :=
  ⟨Lies.nil _ _, Nm.Limbs.nil, rfl, rfl, h⟩

theorem limb_one {x : Int} (h : 0 ≤ x ∧ x < 18446744073709551616) : Nm.Limbs [x] := Nm.Limbs.mk h.1 h.2 Nm.Limbs.nil

theorem fromUint_any (x : Int) (w : World) (h0 : 0 ≤ x) (h1 : x < 18446744073709551616) :
    Calls Tryz.prog 144 #[.int .u64 x] w fun e w' => ∃ r os, e = .returned (.slice r (List.length os) (List.length os)) ∧ Ans w.heap.size w' r os x ∧ Below w.heap.size w w' := by
  by_cases hx : x = 0
  · subst hx
    go_enter Tryz.func144, Tryz.ntmps144
    go_wp2
    go_ret
    exact ⟨none, [], rfl, ans_none _ _ _ (fun a h => by cases h), Below.refl _ _⟩
  · have hx' : (x == 0) = false := by rw [beq_eq_false_iff_ne]; exact hx
    have D : Hid (Below w.heap.size w (w.alloc (.cells #[.int .u64 x] 22))) := (Below.refl _ _).alloc (Nat.le_refl _) _
    have A : Hid (Ans w.heap.size (w.alloc (.cells #[.int .u64 x] 22)) (some ⟨w.heap.size, 0, none⟩) [x] x) := ⟨(Own.alloc w [x]).lies, limb_one ⟨h0, h1⟩, by simp [Nm.tsize, hx], by simp [Nm.val], fun a h => by cases h; exact Nat.le_refl _⟩
    go_enter Tryz.func144, Tryz.ntmps144
    go_wp2
    go_ret
    exact ⟨some ⟨w.heap.size, 0, none⟩, [x], rfl, A.out, D.out⟩
end Go.Proofs.YtigmhnlcmhpepaaGreatDoor

namespace Go.Proofs.YtigmhnlcmhpepaaGreatDoor
open Go.RowKit Go.Deep

/-- Trim: the trimmed list, in new memory. -/
theorem trim_any (p : Option Addr) (n cap : Nat) (zs : List Int) (w : World) (ha : Arg w p n cap zs) :
    Calls Tryz.prog 237 #[.slice p n cap] w fun e w' => ∃ r os, e = .returned (.slice r (List.length os) (List.length os)) ∧ os = Nm.trim zs ∧ Ans w.heap.size w' r os (Nm.val zs) ∧ Below w.heap.size w w' := by
  obtain ⟨a1, a2, a3, a4, a5⟩ := ha
  have tl := Nm.tsize_le zs
  go_enter Tryz.func237, Tryz.ntmps237
  go_wp2_with fail
  refine (trimmed_any p n cap zs _ a1 a2 (by omega) a4).mono ?_
  rintro e w' ⟨rfl, rfl⟩
  go_wp2_with fail
  refine (widened_any p (Nm.tsize zs) (Nm.tsize zs) 0 0 (Nm.trim zs) _ rfl (Nm.trim_length zs) (by omega) a4.trim).mono ?_
  rintro e w1 ⟨rfl, ho, hb1, hz1⟩
  have HO := hid ho
  have HB := hid hb1
  clear ho hb1 hz1 tl
  go_wp2
  go_ret
  refine ⟨some ⟨w'.heap.size, 0, none⟩, Nm.trim zs, ?_, rfl, ⟨?_, a5.trim, ?_, Nm.val_trim zs, ?_⟩, HB.out⟩
  · rw [Nm.trim_length]; rfl
  · have := HO.out
    simp only [List.replicate_zero, List.append_nil] at this
    exact this.lies
  · rw [Nm.trim_trim, Nm.trim_length]
  · intro a h
    cases h
    exact Nat.le_refl _
end Go.Proofs.YtigmhnlcmhpepaaGreatDoor

namespace Go.Proofs.YtigmhnlcmhpepaaGreatDoor
open Go.RowKit Go.Deep

/-- So many digits a limb holds. -/
theorem few64 {B : Int} {W : Nat} (hB : 2 ≤ B) (h : B ^ W < 18446744073709551616) : W ≤ 63 := by
  have := Ln.small (A := B ^ W) (L := 64) hB (Int.le_refl _) (by rw [show (2 : Int) ^ 64 = 18446744073709551616 by decide]; exact h)
  omega

set_option maxRecDepth 100000 in
set_option maxHeartbeats 1000000 in
theorem group_any (B : Int) (w : World) (h2 : 2 ≤ B) (h36 : B ≤ 36) :
    Calls Tryz.prog 207 #[.int .u64 B] w fun e w' => (∃ (W : Nat) (P : Int), e = .returned (.tuple #[.int .u64 P, .int .i64 (W : Int)]) ∧ P = B ^ W ∧ 1 ≤ W ∧ W ≤ 63 ∧ P < 18446744073709551616) ∧ w' = w := by
  have hB0 : (B == 0) = false := by rw [beq_eq_false_iff_ne]; omega
  go_enter Tryz.func207, Tryz.ntmps207
  go_wp2_with fail
  go_loop [4, 5] (fun p c => ∃ (P : Int) (W : Nat), p = .int .u64 P ∧ c = .int .i64 (W : Int) ∧ 1 ≤ P ∧ P ≤ 18446744073709551615 ∧ Hid (P = B ^ W ∧ 1 ≤ W ∧ W ≤ 63)) (fun _ c => 64 - (intOf c).toNat)
  case atStart => exact ⟨B, 1, rfl, rfl, by omega, by omega, by rw [Int.pow_succ, Int.pow_zero, Int.one_mul], by omega, by omega⟩
  case round =>
    obtain ⟨P, W, rfl, rfl, hP1, hP2, F⟩ := hrel
    have hW : (W : Int) ≤ 63 := by have := F.out.2.2; omega
    by_cases hle : P ≤ 18446744073709551615 / B
    · have hm : P * B ≤ 18446744073709551615 := (Int.le_ediv_iff_mul_le (by omega)).1 hle
      have hm0 : 0 ≤ P * B := Int.mul_nonneg (by omega) (by omega)
      have hm1 : 1 ≤ P * B := by have := Int.mul_le_mul (a := 1) (b := 1) hP1 (show 1 ≤ B by omega) (by omega) (by omega); omega
      have q1 : IntKind.u64.wrap (P * B) = P * B := by rw [IntKind.wrap_u64]; omega
      have W2 : Hid (W + 1 ≤ 63) := few64 h2 (by rw [Int.pow_succ, ← F.out.1]; omega)
      have HM := hid hm
      have HM1 := hid hm1
      clear hm hm0 hm1
      go_wp2_with fail
      go_round
      case rel => exact ⟨P * B, W + 1, rfl, by go_num, HM1.out, HM.out, by rw [Int.pow_succ, ← F.out.1], by omega, W2.out⟩
      case measure => simp [intOf]; have := F.out.2; omega
    · go_wp2_with fail
      go_ret2
      exact ⟨⟨W, P, rfl, F.out.1, F.out.2.1, F.out.2.2, by omega⟩, rfl⟩
end Go.Proofs.YtigmhnlcmhpepaaGreatDoor

namespace Go.Proofs.YtigmhnlcmhpepaaGreatDoor
open Go.RowKit Go.Deep

/-- j zeros stand at the head, and then another digit. -/
structure Lead (ds : List Int) (j : Nat) : Prop where
  zero : ∀ i, i < j → ds.getD i 0 = 0
  next : ds.getD j 0 ≠ 0

theorem Lead.strip : ∀ {ds : List Int} {j : Nat}, Lead ds j → Dn.strip ds = ds.drop j
  | [], j, h => absurd (by simp) h.next
  | d :: ds, 0, h => by
    have := h.next
    simp at this
    simp [Dn.strip, this]
  | d :: ds, j + 1, h => by
    have h0 := h.zero 0 (by omega)
    simp at h0
    subst h0
    have ih : Lead ds j := ⟨fun i hi => by have := h.zero (i + 1) (by omega); simpa using this, by have := h.next; simpa using this⟩
    have := Lead.strip ih
    simp only [Dn.strip, List.dropWhile_cons, decide_true, if_true, List.drop_succ_cons] at this ⊢
    exact this

theorem Lead.lt {ds : List Int} {j : Nat} (h : Lead ds j) : j < ds.length := by
  rcases Nat.lt_or_ge j ds.length with c | c
  · exact c
  · exact absurd (by simp [List.getD, List.getElem?_eq_none c]) h.next

theorem Lead.ex : ∀ {ds : List Int}, Dn.strip ds ≠ [] → ∃ j, Lead ds j
  | [], h => absurd rfl h
  | d :: ds, h => by
    by_cases c : d = 0
    · subst c
      have : Dn.strip ds ≠ [] := by simpa [Dn.strip] using h
      obtain ⟨j, hj⟩ := Lead.ex this
      refine ⟨j + 1, fun i hi => ?_, by simpa using hj.next⟩
      cases i with
      | zero => simp
      | succ i => simpa using hj.zero i (by omega)
    · exact ⟨0, fun i hi => by omega, by simpa using c⟩

set_option maxRecDepth 100000 in
set_option maxHeartbeats 1000000 in
theorem btrim1_any (g n J : Nat) (ds : List Int) (w : World) (hd : OwnB w g ds) (hn : ds.length = n) (hJ : Lead ds J) :
    Calls Tryz.prog 221 #[.slice (some ⟨g, 0, none⟩) n n, .int .u8 0] w fun e w' => e = .returned (.slice (some ⟨g, J, none⟩) (n - J) (n - J)) ∧ w' = w := by
  have HJ := hid hJ
  have HL : Hid (J < n) := by show _ < _; have := hJ.lt; omega
  have HO := hid hd
  have HN := hid hn
  clear hd hn hJ
  go_enter Tryz.func221, Tryz.ntmps221
  go_wp2_with fail
  go_loop [0] (fun s => ∃ j m : Nat, s = .slice (some ⟨g, j, none⟩) m m ∧ j ≤ J ∧ Hid (j + m = n)) (fun s => match s with | .slice _ m _ => m | _ => 0)
  case atStart => exact ⟨0, n, rfl, Nat.zero_le _, by show _ = _; omega⟩
  case round =>
    obtain ⟨j, m, rfl, hj, E⟩ := hrel
    have hm : 0 < m := by have := E.out; have := HL.out; omega
    have hmi : (0 : Int) < (m : Int) := by omega
    have hmz : ((m : Int) == 0) = false := by rw [beq_eq_false_iff_ne]; omega
    have hm1 : 1 ≤ m := by omega
    obtain ⟨x, hx, X⟩ : ∃ x, w.cell? ⟨g, j, none⟩ = some (.int .u8 x) ∧ Hid (x = ds.getD j 0) := ⟨_, HO.out.cell j (by have := E.out; have := HN.out; omega), rfl⟩
    by_cases hlt : j < J
    · have hx0 : x = 0 := by rw [X.out]; exact HJ.out.zero j hlt
      subst hx0
      go_wp2_with fail
      go_round
      case rel => exact ⟨j + 1, m - 1, by rw [if_neg (by have := E.out; have := HL.out; omega)], by omega, by show _ = _; have := E.out; omega⟩
      case measure => simp; omega
    · obtain rfl : j = J := by omega
      have hx0 : (x == 0) = false := by rw [beq_eq_false_iff_ne, X.out]; exact HJ.out.next
      obtain rfl : m = n - j := by have := E.out; omega
      go_wp2_with fail
      go_ret
      exact ⟨rfl, rfl⟩

set_option maxRecDepth 100000 in
theorem btrim_any (g n J : Nat) (ds : List Int) (w : World) (hd : OwnB w g ds) (hn : ds.length = n) (hJ : Lead ds J) :
    Calls Tryz.prog 210 #[.slice (some ⟨g, 0, none⟩) n n, .string ⟨#[0]⟩] w fun e w' => e = .returned (.slice (some ⟨g, J, none⟩) (n - J) (n - J)) ∧ w' = w := by
  have T := hid (btrim1_any g n J ds w hd hn hJ)
  have hz : ((n : Int) == 0) = false := by rw [beq_eq_false_iff_ne]; have := hJ.lt; omega
  clear hd hn hJ
  go_enter Tryz.func210, Tryz.ntmps210
  go_wp2_with fail
  refine T.out.mono ?_
  rintro e w' ⟨rfl, rfl⟩
  go_wp2_with fail
  go_ret
  exact ⟨rfl, rfl⟩
end Go.Proofs.YtigmhnlcmhpepaaGreatDoor

namespace Go.Proofs.YtigmhnlcmhpepaaGreatDoor
open Go Go.RowKit Go.Deep

theorem Ie.fdec (d : Int) (h : Ie.cls d < 3) : 0 ≤ Ie.dm d ∧ Ie.dm d < 9007199254740992 ∧ -1074 ≤ Ie.de d ∧ Ie.de d ≤ 971 ∧ (Ie.cls d = 0 ↔ Ie.dm d = 0) := by
  have fb := Ie.fld_bd d
  unfold Ie.dm Ie.de
  unfold Ie.cls at *
  by_cases a : Ie.fld d = 0
  · rw [if_pos a] at *
    by_cases b : d % 4503599627370496 = 0
    · simp only [if_pos b]
      simp
    · simp only [if_neg b]
      simp
      omega
  · rw [if_neg a] at *
    by_cases b : Ie.fld d = 2047
    · rw [if_pos b] at *
      by_cases c : d % 4503599627370496 = 0
      · rw [if_pos c] at h; omega
      · rw [if_neg c] at h; omega
    · simp only [if_neg b]
      simp
      omega

theorem fretB {a b : Bool} (h : a = b) : Ending.returned (.bool a) = .returned (.bool b) := by rw [h]

/-- No NaN and no infinity. -/
def Ie.fnt (d : Int) : Bool := decide (Ie.cls d < 3)

set_option maxRecDepth 100000 in
theorem ffinite_any (d : Int) (w : World) (h0 : 0 ≤ d) (h1 : d < 18446744073709551616) :
    Calls Tryz.prog 211 #[.int .u64 d] w fun e w' => e = .returned (.bool (Ie.fnt d)) ∧ w' = w := by
  have C := hid (class_any d w h0 h1)
  have E : Hid (Ie.fnt d = decide (Ie.cls d < 3)) := rfl
  generalize Ie.cls d = c at *
  go_enter Tryz.func211, Tryz.ntmps211
  go_wp2_with fail
  refine C.out.mono ?_
  rintro e w' ⟨rfl, rfl⟩
  go_wp2_with fail
  go_ret
  exact ⟨fretB E.out.symm, rfl⟩
end Go.Proofs.YtigmhnlcmhpepaaGreatDoor

/-
  Small structs in memory: an exact (four cells), a num (two).
-/
namespace Go.Proofs.YtigmhnlcmhpepaaGreatDoor
open Go Go.RowKit Go.Deep

/-- Four cells that may be written. -/
def Row4 (w : World) (b t : Nat) (v0 v1 v2 v3 : Value) : Prop := w.heap[b]? = some (.cells #[v0, v1, v2, v3] t (0, 0))

theorem Row4.below {B : Nat} {w w' : World} {b t : Nat} {v0 v1 v2 v3 : Value} (h : Row4 w b t v0 v1 v2 v3) (hB : Below B w w') (hb : b < B) : Row4 w' b t v0 v1 v2 v3 := by
  rw [Row4, hB.block b hb]; exact h

theorem Row4.lt {w : World} {b t : Nat} {v0 v1 v2 v3 : Value} (h : Row4 w b t v0 v1 v2 v3) : b < w.heap.size := by
  rcases Nat.lt_or_ge b w.heap.size with hl | hl
  · exact hl
  · simp [Row4, Array.getElem?_eq_none hl] at h

theorem Row4.cells {w : World} {b t : Nat} {v0 v1 v2 v3 : Value} (h : Row4 w b t v0 v1 v2 v3) :
    (w.cell? ⟨b, 0, none⟩ = some v0 ∧ w.cell? ⟨b, 1, none⟩ = some v1 ∧ w.cell? ⟨b, 2, none⟩ = some v2 ∧ w.cell? ⟨b, 3, none⟩ = some v3) ∧
    (w.frozen? ⟨b, 0, none⟩ = false ∧ w.frozen? ⟨b, 1, none⟩ = false ∧ w.frozen? ⟨b, 2, none⟩ = false ∧ w.frozen? ⟨b, 3, none⟩ = false) := by
  simp only [Row4] at h
  refine ⟨⟨?_, ?_, ?_, ?_⟩, ⟨?_, ?_, ?_, ?_⟩⟩ <;> simp [World.cell?, World.frozen?, h]

theorem Row4.heap {w w' : World} {b t : Nat} {v0 v1 v2 v3 : Value} (h : Row4 w b t v0 v1 v2 v3) (e : w'.heap = w.heap) : Row4 w' b t v0 v1 v2 v3 := by
  rw [Row4, e]; exact h

theorem Row4.new (w : World) (t : Nat) (v0 v1 v2 v3 : Value) : Row4 (w.alloc (.cells #[v0, v1, v2, v3] t)) w.heap.size t v0 v1 v2 v3 := heap_alloc_new w _

theorem Row4.set {w : World} {b t : Nat} {v0 v1 v2 v3 u0 u1 u2 u3 : Value} (h : Row4 w b t v0 v1 v2 v3) :
    Row4 ((((w.setCell ⟨b, 0, none⟩ u0).setCell ⟨b, 1, none⟩ u1).setCell ⟨b, 2, none⟩ u2).setCell ⟨b, 3, none⟩ u3) b t u0 u1 u2 u3 := by
  have h0 := set1 (o := 0) (v := u0) (c' := #[u0, v1, v2, v3]) h (by simp [Array.setIfInBounds])
  have h1 := set1 (o := 1) (v := u1) (c' := #[u0, u1, v2, v3]) h0 (by simp [Array.setIfInBounds])
  have h2 := set1 (o := 2) (v := u2) (c' := #[u0, u1, u2, v3]) h1 (by simp [Array.setIfInBounds])
  exact set1 (o := 3) (v := u3) (c' := #[u0, u1, u2, u3]) h2 (by simp [Array.setIfInBounds])

/-- A list somewhere else stays. -/
theorem Lies.set {w : World} {p : Option Addr} {zs : List Int} {b o : Nat} {v : Value} (h : Lies w p zs) (hne : ∀ a, p = some a → a.block ≠ b) : Lies (w.setCell ⟨b, o, none⟩ v) p zs := by
  rcases h with rfl | ⟨b', off, hp, h⟩
  · exact .inl rfl
  · refine .inr ⟨b', off, hp, fun i hi => ?_⟩
    rw [← h i hi]
    have := hne _ hp
    simp only [World.cell?, World.setCell, Array.getElem?_modify]
    rw [if_neg (by simp only at this; omega)]

/-- Two cells that may be written. -/
def Row2 (w : World) (b t : Nat) (v0 v1 : Value) : Prop := w.heap[b]? = some (.cells #[v0, v1] t (0, 0))

theorem Row2.below {B : Nat} {w w' : World} {b t : Nat} {v0 v1 : Value} (h : Row2 w b t v0 v1) (hB : Below B w w') (hb : b < B) : Row2 w' b t v0 v1 := by
  rw [Row2, hB.block b hb]; exact h

theorem Row2.lt {w : World} {b t : Nat} {v0 v1 : Value} (h : Row2 w b t v0 v1) : b < w.heap.size := by
  rcases Nat.lt_or_ge b w.heap.size with hl | hl
  · exact hl
  · simp [Row2, Array.getElem?_eq_none hl] at h

theorem Row2.cells {w : World} {b t : Nat} {v0 v1 : Value} (h : Row2 w b t v0 v1) :
    (w.cell? ⟨b, 0, none⟩ = some v0 ∧ w.cell? ⟨b, 1, none⟩ = some v1) ∧ (w.frozen? ⟨b, 0, none⟩ = false ∧ w.frozen? ⟨b, 1, none⟩ = false) := by
  simp only [Row2] at h
  refine ⟨⟨?_, ?_⟩, ⟨?_, ?_⟩⟩ <;> simp [World.cell?, World.frozen?, h]

theorem Row2.new (w : World) (t : Nat) (v0 v1 : Value) : Row2 (w.alloc (.cells #[v0, v1] t)) w.heap.size t v0 v1 := heap_alloc_new w _

theorem Row2.set {w : World} {b t : Nat} {v0 v1 u0 u1 : Value} (h : Row2 w b t v0 v1) : Row2 ((w.setCell ⟨b, 0, none⟩ u0).setCell ⟨b, 1, none⟩ u1) b t u0 u1 := by
  have h0 := set1 (o := 0) (v := u0) (c' := #[u0, v1]) h (by simp [Array.setIfInBounds])
  exact set1 (o := 1) (v := u1) (c' := #[u0, u1]) h0 (by simp [Array.setIfInBounds])

end Go.Proofs.YtigmhnlcmhpepaaGreatDoor

namespace Go.Proofs.YtigmhnlcmhpepaaGreatDoor
open Go.RowKit Go.Deep

/-- The kit's contract for TrailingZeros64, laid at this program. -/
def tzRen : Go.Shelf.Ren := ⟨fun _ => 188, fun t => if t = 22 then 22 else if t = 25 then 102 else if t = 54 then 279 else if t = 5 then 5 else if t = 4 then 4 else if t = 0 then 0 else 3, fun _ => 5⟩
theorem tzLays : Lays7.n29 Tryz.prog tzRen where
  mixed := by kernel_rfl
  f29 := by kernel_rfl
  t0 := by kernel_rfl
  a0 := fun _ => by kernel_rfl
  z0 := fun _ => by kernel_rfl
  v0 := fun _ => by kernel_rfl
  i0 := by kernel_rfl
  t3 := by kernel_rfl
  a3 := fun _ => by kernel_rfl
  z3 := fun _ => by kernel_rfl
  v3 := fun _ => by kernel_rfl
  i3 := by kernel_rfl
  t4 := by kernel_rfl
  a4 := fun _ => by kernel_rfl
  z4 := fun _ => by kernel_rfl
  v4 := fun _ => by kernel_rfl
  i4 := by kernel_rfl
  t5 := by kernel_rfl
  a5 := fun _ => by kernel_rfl
  z5 := fun _ => by kernel_rfl
  v5 := fun _ => by kernel_rfl
  i5 := by kernel_rfl
  t22 := by kernel_rfl
  a22 := fun _ => by kernel_rfl
  z22 := fun _ => by kernel_rfl
  v22 := fun _ => by kernel_rfl
  i22 := by kernel_rfl
  t25 := by kernel_rfl
  a25 := fun _ => by kernel_rfl
  z25 := fun _ => by kernel_rfl
  v25 := fun _ => by kernel_rfl
  i25 := by kernel_rfl
  t54 := by kernel_rfl
  a54 := fun _ => by kernel_rfl
  z54 := fun _ => by kernel_rfl
  g1 := by kernel_rfl

/-- The table that TrailingZeros64 reads. -/
def Tab (w : World) : Prop := TabAt 5 Lib.deBruijn64tab w

theorem Tab.below {w w' : World} (h : Tab w) (hb : Below w.heap.size w w') : Tab w' := by
  intro j hj
  have hc := h j hj
  rw [hb.cell (p := ⟨5, j, none⟩) (cell_lt hc)]
  exact hc

theorem tz64 (x : Int) (w : World) (h0 : 0 < x) (h1 : x < 18446744073709551616) (hT : Tab w) :
    Calls Tryz.prog 188 #[.int .u64 x] w fun e w' => ∃ (t : Nat) (m : Int), e = .returned (.int .i64 t) ∧ t ≤ 63 ∧ Hid (x = 2 ^ t * (2 * m + 1)) ∧ w' = w := by
  obtain ⟨n, rfl⟩ := Int.eq_ofNat_of_zero_le (show 0 ≤ x by omega)
  refine (Any7.bits_TrailingZeros64 tzLays n (by omega) w (fun _ => hT)).mono ?_
  rintro e w' ⟨rfl, rfl⟩
  obtain ⟨m, hm, hlt⟩ := Lib.ctzFrom_spec 64 n (by omega) (by simpa using (show n < 18446744073709551616 by omega))
  refine ⟨Lib.ctzFrom 64 n, m, by rw [Lib.ctz, if_neg (by omega)], by omega, ?_, rfl⟩
  show (n : Int) = _
  have e : ((2 ^ Lib.ctzFrom 64 n * (2 * m + 1) : Nat) : Int) = 2 ^ Lib.ctzFrom 64 n * (2 * (m : Int) + 1) := by simp
  rw [← e, ← hm]

end Go.Proofs.YtigmhnlcmhpepaaGreatDoor

/-
  A state as one predicate: what it says of the memory, and that only new memory was written.
-/
namespace Go.Proofs.YtigmhnlcmhpepaaGreatDoor
open Go Go.RowKit Go.Deep

structure St (S : World → Prop) (w wx : World) : Prop where
  cells : S wx
  bel : Below w.heap.size w wx

def Stays (S : World → Prop) : Prop := ∀ wx w' : World, S wx → Below wx.heap.size wx w' → S w'

theorem St.on {S : World → Prop} {w wx w' : World} (h : St S w wx) (k : Stays S) (hB : Below wx.heap.size wx w') : St S w w' := ⟨k _ _ h.cells hB, h.bel.trans (hB.mono h.bel.size)⟩
theorem St.drew {S : World → Prop} {w wx : World} (h : St S w wx) (k : Stays S) : St S w wx.drew := h.on k ⟨rfl, rfl, rfl, Nat.le_refl _, fun _ _ => rfl⟩
theorem St.more {S T : World → Prop} {w wx w' : World} (h : St S w wx) (k : Stays S) (hB : Below wx.heap.size wx w') (t : T w') : St (fun x => S x ∧ T x) w w' := ⟨⟨k _ _ h.cells hB, t⟩, h.bel.trans (hB.mono h.bel.size)⟩
theorem St.to {S T : World → Prop} {w wx w' : World} (h : St S w wx) (hB : Below wx.heap.size wx w') (t : T w') : St T w w' := ⟨t, h.bel.trans (hB.mono h.bel.size)⟩

theorem Stays.cell (a : Addr) (v : Value) : Stays (fun w => w.cell? a = some v) := fun _ _ h hB => (hB.cell (cell_lt h)).trans h
theorem Stays.and {S T : World → Prop} (h : Stays S) (k : Stays T) : Stays (fun w => S w ∧ T w) := fun _ _ g hB => ⟨h _ _ g.1 hB, k _ _ g.2 hB⟩
theorem Stays.arg (p : Option Addr) (n cap : Nat) (os : List Int) : Stays (fun w => Arg w p n cap os) := fun _ _ h hB => h.below hB (Nat.le_refl _)
theorem Stays.tab : Stays Tab := fun _ _ h hB => h.below hB
theorem Stays.bel (w : World) : Stays (fun x => Below w.heap.size w x) := fun _ _ h hB => h.trans (hB.mono h.size)
theorem Stays.const (p : Prop) : Stays (fun _ => p) := fun _ _ h _ => h

/-- The state under a name of its own. -/
theorem state (S : World → Prop) (w : World) (k : Stays S) : ∃ SS : World → Prop, Hid (∀ wx w' : World, SS wx → Below wx.heap.size wx w' → SS w') ∧ Hid (∀ wx : World, SS wx → S wx) ∧ Hid (∀ wx : World, SS wx → Below w.heap.size w wx) ∧ Hid (∀ wx : World, S wx → Below w.heap.size w wx → SS wx) :=
  ⟨St S w, fun _ _ h hB => h.on k hB, fun _ h => h.cells, fun _ h => h.bel, fun _ h b => ⟨h, b⟩⟩

theorem drew_nil (w : World) : Below w.heap.size w w.drew := ⟨rfl, rfl, rfl, Nat.le_refl _, fun _ _ => rfl⟩
end Go.Proofs.YtigmhnlcmhpepaaGreatDoor

namespace Go.Proofs.YtigmhnlcmhpepaaGreatDoor
open Go Go.RowKit Go.Deep

theorem fset1 {w : World} {b o t : Nat} {v : Value} {c c' : Array Value} (h : w.heap[b]? = some (.cells c t (0, 0))) (e : c.setIfInBounds o v = c') : (w.setCell ⟨b, o, none⟩ v).heap[b]? = some (.cells c' t (0, 0)) := by
  subst e
  simp [World.setCell, Array.getElem?_modify, h]


/-- Three cells that may be written. -/
def FR3 (w : World) (b : Nat) (v0 v1 v2 : Value) : Prop := w.heap[b]? = some (.cells #[v0, v1, v2] 104 (0, 0))
theorem FR3.new (w : World) (v0 v1 v2 : Value) : FR3 (w.alloc (.cells #[v0, v1, v2] 104)) w.heap.size v0 v1 v2 := heap_alloc_new w _
theorem FR3.below {B : Nat} {w w' : World} {b : Nat} {v0 v1 v2 : Value} (h : FR3 w b v0 v1 v2) (hB : Below B w w') (hb : b < B) : FR3 w' b v0 v1 v2 := by
  rw [FR3, hB.block b hb]; exact h
theorem FR3.lt {w : World} {b : Nat} {v0 v1 v2 : Value} (h : FR3 w b v0 v1 v2) : b < w.heap.size := by
  rcases Nat.lt_or_ge b w.heap.size with hl | hl
  · exact hl
  · simp [FR3, Array.getElem?_eq_none hl] at h
theorem FR3.cells {w : World} {b : Nat} {v0 v1 v2 : Value} (h : FR3 w b v0 v1 v2) :
    (w.cell? ⟨b, 0, none⟩ = some v0 ∧ w.cell? ⟨b, 1, none⟩ = some v1 ∧ w.cell? ⟨b, 2, none⟩ = some v2) ∧
    (w.frozen? ⟨b, 0, none⟩ = false ∧ w.frozen? ⟨b, 1, none⟩ = false ∧ w.frozen? ⟨b, 2, none⟩ = false) := by
  simp only [FR3] at h
  refine ⟨⟨?_, ?_, ?_⟩, ⟨?_, ?_, ?_⟩⟩ <;> simp [World.cell?, World.frozen?, h]
theorem FR3.put {w : World} {b : Nat} {v0 v1 v2 : Value} (h : FR3 w b v0 v1 v2) (u0 u1 u2 : Value) :
    FR3 (((w.setCell ⟨b, 0, none⟩ u0).setCell ⟨b, 1, none⟩ u1).setCell ⟨b, 2, none⟩ u2) b u0 u1 u2 := by
  have h0 := fset1 (o := 0) (v := u0) (c' := #[u0, v1, v2]) h (by simp [Array.setIfInBounds])
  have h1 := fset1 (o := 1) (v := u1) (c' := #[u0, u1, v2]) h0 (by simp [Array.setIfInBounds])
  exact fset1 (o := 2) (v := u2) (c' := #[u0, u1, u2]) h1 (by simp [Array.setIfInBounds])
theorem FR3.far {w : World} {b c o : Nat} {v v0 v1 v2 : Value} (h : FR3 w b v0 v1 v2) (hc : c ≠ b) : FR3 (w.setCell ⟨c, o, none⟩ v) b v0 v1 v2 := by
  simp only [FR3] at *
  simp only [World.setCell, Array.getElem?_modify]
  rw [if_neg hc]; exact h
theorem fset3_below {B : Nat} {w w' : World} {b : Nat} {u0 u1 u2 : Value} (h : Below B w w') (hb : B ≤ b) : Below B w (((w'.setCell ⟨b, 0, none⟩ u0).setCell ⟨b, 1, none⟩ u1).setCell ⟨b, 2, none⟩ u2) :=
  ((h.setCell (p := ⟨b, 0, none⟩) hb u0).setCell (p := ⟨b, 1, none⟩) hb u1).setCell (p := ⟨b, 2, none⟩) hb u2


end Go.Proofs.YtigmhnlcmhpepaaGreatDoor

namespace Go.Proofs.YtigmhnlcmhpepaaGreatDoor
open Go.RowKit Go.Deep

/-- s' is s without some zeros at its head, and opens with none. -/
def Bared (xs : List Int) (s' : ByteArray) (j : Nat) : Prop := Str s' (xs.drop j) ∧ j ≤ xs.length ∧ (∀ i, i < j → xs.getD i 0 = 48)

def STold (xs : List Int) (e : Ending) : Prop := ∃ s' j, e = .returned (.string s') ∧ Bared xs s' j ∧ (j < xs.length → xs.getD j 0 ≠ 48)

set_option maxRecDepth 100000 in
set_option maxHeartbeats 1000000 in
theorem strim1_any (s : ByteArray) (xs : List Int) (w : World) (hs : Str s xs) (hn1 : xs.length ≤ 562949953421312) :
    Calls Tryz.prog 122 #[.string s, .int .u8 48] w fun e w' => STold xs e ∧ w' = w := by
  have HS := hid hs
  have HN := hid hn1
  clear hs hn1
  go_enter Tryz.func122, Tryz.ntmps122
  go_wp2_with fail
  go_loop [0] (fun c => ∃ s' j, c = .string s' ∧ Hid (Bared xs s' j)) (fun c => match c with | .string s' => s'.size | _ => 0)
  case atStart => exact ⟨s, 0, rfl, HS.out, Nat.zero_le _, fun i hi => by omega⟩
  case round =>
    obtain ⟨s', j, rfl, I⟩ := hrel
    obtain ⟨m, HM⟩ : ∃ m, Hid (s'.size = m) := ⟨_, rfl⟩
    have hsz : s'.size = m := HM.out
    have hjm : Hid (j + m = xs.length) := by show _ = _; have := I.out.1.size; have := I.out.2.1; have := HM.out; simp at *; omega
    have hmb : (m : Int) ≤ 562949953421312 := by have := HN.out; have := hjm.out; omega
    by_cases h0 : m = 0
    · subst h0
      have F : Hid (STold xs (.returned (.string s'))) := ⟨s', j, rfl, I.out, fun h => by have := hjm.out; omega⟩
      clear I
      go_wp2_with fail
      go_ret
      exact ⟨F.out, rfl⟩
    · have hm : 0 < m := by omega
      have hmi : (0 : Int) < (m : Int) := by omega
      obtain ⟨x, X⟩ : ∃ x, Hid (xs.getD j 0 = x) := ⟨_, rfl⟩
      have hx : ∀ h : 0 < s'.size, ((s'[0]'h).toNat : Int) = x := fun h => by rw [I.out.1.at 0 h, ← X.out]; simp [List.getD]
      by_cases hd : x = 48
      · subst hd
        have F : Hid (Bared xs (s'.extract 1 s'.size) (j + 1)) := by
          refine ⟨?_, by have := hjm.out; omega, fun i hi => ?_⟩
          · have := I.out.1.extract 1 s'.size
            rw [List.drop_drop, List.take_of_length_le (by have := hjm.out; have := HM.out; simp; omega)] at this
            exact this
          · by_cases e : i = j
            · subst e; exact X.out
            · exact I.out.2.2 i (by omega)
        rw [hsz] at F
        have SZ : Hid ((s'.extract 1 m).size < s'.size) := by
          show _ < _
          have e1 := F.out.1.size
          have e2 := HM.out
          have e3 := hjm.out
          simp only [List.length_drop] at e1
          omega
        clear I
        go_wp2_with fail
        go_round
        case rel => exact ⟨_, _, rfl, F.out⟩
        case measure => exact SZ.out
      · have hd2 : (x == 48) = false := by rw [beq_eq_false_iff_ne]; exact hd
        have F : Hid (STold xs (.returned (.string s'))) := ⟨s', j, rfl, I.out, fun _ => by rw [X.out]; exact hd⟩
        clear I
        go_wp2_with fail
        go_ret
        exact ⟨F.out, rfl⟩

end Go.Proofs.YtigmhnlcmhpepaaGreatDoor



namespace Go.Proofs.YtigmhnlcmhpepaaGreatDoor
open Go.RowKit Go.Deep Go.Shelf

def cloneRen : Go.Shelf.Ren := ⟨fun _ => 73, fun t => if t = 37 then 172 else if t = 47 then 173 else if t = 5 then 5 else if t = 9 then 9 else if t = 3 then 3 else t, fun g => g⟩
theorem cloneLays : LaysPu.n25 Tryz.prog cloneRen where
  mixed := by kernel_rfl
  f25 := by kernel_rfl
  t0 := by kernel_rfl
  a0 := fun _ => by kernel_rfl
  z0 := fun _ => by kernel_rfl
  v0 := fun _ => by kernel_rfl
  i0 := by kernel_rfl
  t3 := by kernel_rfl
  a3 := fun _ => by kernel_rfl
  z3 := fun _ => by kernel_rfl
  v3 := fun _ => by kernel_rfl
  i3 := by kernel_rfl
  t4 := by kernel_rfl
  a4 := fun _ => by kernel_rfl
  z4 := fun _ => by kernel_rfl
  v4 := fun _ => by kernel_rfl
  i4 := by kernel_rfl
  t5 := by kernel_rfl
  a5 := fun _ => by kernel_rfl
  z5 := fun _ => by kernel_rfl
  v5 := fun _ => by kernel_rfl
  i5 := by kernel_rfl
  t9 := by kernel_rfl
  a9 := fun _ => by kernel_rfl
  z9 := fun _ => by kernel_rfl
  v9 := fun _ => by kernel_rfl
  i9 := by kernel_rfl
  t37 := by kernel_rfl
  a37 := fun _ => by kernel_rfl
  z37 := fun _ => by kernel_rfl
  v37 := fun _ => by kernel_rfl
  i37 := by kernel_rfl
  t47 := by kernel_rfl
  a47 := fun _ => by kernel_rfl
  z47 := fun _ => by kernel_rfl
  v47 := fun _ => by kernel_rfl
  i47 := by kernel_rfl

theorem clone_any (s : ByteArray) (w : World) (hs : s.size ≤ 140737488355328) : Calls Tryz.prog 50 #[.string s] w fun e w' => e = .returned (.string s) ∧ Below w.heap.size w w' := by
  have C : Hid (Calls Tryz.prog 73 #[.string s] w fun e w' => e = .returned (.string s) ∧ Below w.heap.size w w') := AnyPu.stringslite_Clone cloneLays s w (by omega)
  go_enter Tryz.func50, Tryz.ntmps50
  go_wp2_with fail
  refine C.out.mono ?_
  rintro e w1 ⟨rfl, d1⟩
  have D := hid d1
  clear d1
  go_wp2_with fail
  go_ret
  exact ⟨rfl, D.out⟩
end Go.Proofs.YtigmhnlcmhpepaaGreatDoor

namespace Go.Proofs.YtigmhnlcmhpepaaGreatDoor
open Go.RowKit Go.Deep
namespace Wh

/-- The error of a raw directive, its verb left out. -/
def chk (F W P : Int) : Int := if F < 0 ∨ 31 < F ∨ W < 0 ∨ P < -1 then 1 else if 4096 < W ∨ 4096 < P then 6 else 0
theorem chk_ok {F W P : Int} (h : chk F W P = 0) : (0 ≤ F ∧ F ≤ 31) ∧ (0 ≤ W ∧ W ≤ 4096) ∧ (-1 ≤ P ∧ P ≤ 4096) := by
  unfold chk at h
  split at h
  · omega
  · split at h
    · omega
    · omega
/-- A flag of a sum of flags. -/
def bit (F k : Int) : Bool := decide (F / k % 2 = 1)
/-- n times the byte c. -/
def rep (c n : Int) : List Int := List.replicate n.toNat c
theorem rep_len (c n : Int) : (rep c n).length = n.toNat := List.length_replicate
theorem rep_neg {c n : Int} (h : n ≤ 0) : rep c n = [] := by
  rw [rep, show n.toNat = 0 by omega]; rfl
theorem rep_by {c n x : Int} (h0 : 0 ≤ c ∧ c < 256) (h : x ∈ rep c n) : 0 ≤ x ∧ x < 256 := by
  rw [rep, List.mem_replicate] at h
  rw [h.2]; exact h0

/-- A text's bytes. -/
def By (xs : List Int) : Prop := ∀ x ∈ xs, 0 ≤ x ∧ x < 256
theorem By.nil : By [] := by intro x h; simp at h
theorem By.app {a b : List Int} (h : By a) (k : By b) : By (a ++ b) := by
  intro x hx
  rcases List.mem_append.1 hx with q | q
  · exact h x q
  · exact k x q
theorem By.rep {c n : Int} (h0 : 0 ≤ c ∧ c < 256) : By (rep c n) := fun _ h => rep_by h0 h
theorem By.take {a : List Int} (h : By a) (k : Nat) : By (a.take k) := fun x hx => h x (List.mem_of_mem_take hx)
theorem By.cons {c : Int} {a : List Int} (h0 : 0 ≤ c ∧ c < 256) (h : By a) : By (c :: a) := by
  intro x hx
  rcases List.mem_cons.1 hx with q | q
  · rw [q]; exact h0
  · exact h x q

/-- Head and body brought to the width. -/
def padT (F W : Int) (z : Bool) (h b : List Int) : List Int :=
  if bit F 1 = true then h ++ b ++ rep 32 (W - h.length - b.length)
  else if bit F 16 = true ∧ z = true then h ++ rep 48 (W - h.length - b.length) ++ b
  else rep 32 (W - h.length - b.length) ++ h ++ b
def padE (F W P : Int) (h b : List Int) : Int := if chk F W P = 0 then (if 16777216 < h.length + b.length then 3 else 0) else chk F W P
def pad (F W P : Int) (z : Bool) (h b : List Int) : List Int := if padE F W P h b = 0 then padT F W z h b else []
theorem padT_by {F W : Int} {z : Bool} {h b : List Int} (hh : By h) (hb : By b) : By (padT F W z h b) := by
  unfold padT
  split
  · exact (hh.app hb).app (By.rep (by omega))
  · split
    · exact (hh.app (By.rep (by omega))).app hb
    · exact ((By.rep (by omega)).app hh).app hb
theorem padT_zero (F : Int) (z : Bool) (h b : List Int) : padT F 0 z h b = h ++ b := by
  have e : ∀ c, rep c (0 - (h.length : Int) - (b.length : Int)) = [] := fun c => rep_neg (by omega)
  unfold padT
  rw [e, e]
  split
  · simp
  · split <;> simp
theorem padT_len (F W : Int) (z : Bool) (h b : List Int) : (padT F W z h b).length = h.length + b.length + (W - h.length - b.length).toNat := by
  unfold padT
  split
  · simp [rep_len] <;> omega
  · split <;> simp [rep_len] <;> omega

def cut (P : Int) (t : List Int) : List Int := if P = -1 then t else t.take P.toNat
end Wh
end Go.Proofs.YtigmhnlcmhpepaaGreatDoor

namespace Go.Proofs.YtigmhnlcmhpepaaGreatDoor
open Go Go.RowKit Go.Deep Go.Shelf

def jren : Go.Shelf.Ren := ⟨fun | 105 => 141 | 212 => 172 | 99 => 173 | 165 => 140 | 166 => 110 | 170 => 174 | 169 => 111 | 263 => 190 | 264 => 191 | 206 => 192 | 240 => 137 | 241 => 171 | 276 => 170 | 277 => 189 | 158 => 179 | 167 => 109 | 230 => 194 | 203 => 195 | 197 => 159 | 118 => 203 | 168 => 204 | 270 => 205 | 262 => 206 | 260 => 184 | 242 => 215 | 313 => 216 | 278 => 229 | 274 => 230 | 275 => 231 | 137 => 91 | 217 => 108 | 266 => 136 | n => n, fun | 9 => 9 | 3 => 3 | 4 => 4 | 20 => 20 | 0 => 0 | 46 => 102 | 109 => 250 | 5 => 5 | 72 => 186 | 76 => 190 | 51 => 125 | 146 => 262 | 53 => 22 | 148 => 264 | 70 => 184 | 37 => 172 | 75 => 188 | 127 => 173 | 164 => 248 | 80 => 192 | 107 => 268 | 21 => 21 | 105 => 237 | 162 => 294 | 203 => 292 | 119 => 273 | 139 => 276 | 138 => 275 | 160 => 310 | 208 => 322 | 206 => 320 | n => n, fun | 13 => 6 | 3 => 2 | 4 => 3 | n => n⟩
theorem repLays : Go.Proofs.Lays.n105 Tryz.prog jren where
  mixed := by kernel_rfl
  f99 := Tryz.func173.trans (congrArg some (by kernel_rfl))
  f105 := Tryz.func141.trans (congrArg some (by kernel_rfl))
  f165 := Tryz.func140.trans (congrArg some (by kernel_rfl))
  f166 := Tryz.func110.trans (congrArg some (by kernel_rfl))
  f169 := Tryz.func111.trans (congrArg some (by kernel_rfl))
  f170 := Tryz.func174.trans (congrArg some (by kernel_rfl))
  f206 := Tryz.func192.trans (congrArg some (by kernel_rfl))
  f212 := Tryz.func172.trans (congrArg some (by kernel_rfl))
  f240 := Tryz.func137.trans (congrArg some (by kernel_rfl))
  f241 := Tryz.func171.trans (congrArg some (by kernel_rfl))
  f263 := Tryz.func190.trans (congrArg some (by kernel_rfl))
  f264 := Tryz.func191.trans (congrArg some (by kernel_rfl))
  f276 := Tryz.func170.trans (congrArg some (by kernel_rfl))
  f277 := Tryz.func189.trans (congrArg some (by kernel_rfl))
  t0 := by kernel_rfl
  a0 := fun _ => by kernel_rfl
  z0 := fun _ => by kernel_rfl
  v0 := fun _ => by kernel_rfl
  t3 := by kernel_rfl
  a3 := fun _ => by kernel_rfl
  z3 := fun _ => by kernel_rfl
  v3 := fun _ => by kernel_rfl
  t4 := by kernel_rfl
  a4 := fun _ => by kernel_rfl
  z4 := fun _ => by kernel_rfl
  v4 := fun _ => by kernel_rfl
  t5 := by kernel_rfl
  a5 := fun _ => by kernel_rfl
  z5 := fun _ => by kernel_rfl
  v5 := fun _ => by kernel_rfl
  t9 := by kernel_rfl
  a9 := fun _ => by kernel_rfl
  z9 := fun _ => by kernel_rfl
  v9 := fun _ => by kernel_rfl
  t20 := by kernel_rfl
  a20 := fun _ => by kernel_rfl
  z20 := fun _ => by kernel_rfl
  v20 := fun _ => by kernel_rfl
  t37 := by kernel_rfl
  a37 := fun _ => by kernel_rfl
  z37 := fun _ => by kernel_rfl
  v37 := fun _ => by kernel_rfl
  t46 := by kernel_rfl
  a46 := fun _ => by kernel_rfl
  z46 := fun _ => by kernel_rfl
  v46 := fun _ => by kernel_rfl
  t51 := by kernel_rfl
  a51 := fun _ => by kernel_rfl
  z51 := fun _ => by kernel_rfl
  v51 := fun _ => by kernel_rfl
  t53 := by kernel_rfl
  a53 := fun _ => by kernel_rfl
  z53 := fun _ => by kernel_rfl
  v53 := fun _ => by kernel_rfl
  t70 := by kernel_rfl
  a70 := fun _ => by kernel_rfl
  z70 := fun _ => by kernel_rfl
  v70 := fun _ => by kernel_rfl
  t72 := by kernel_rfl
  a72 := fun _ => by kernel_rfl
  z72 := fun _ => by kernel_rfl
  v72 := fun _ => by kernel_rfl
  t75 := by kernel_rfl
  a75 := fun _ => by kernel_rfl
  z75 := fun _ => by kernel_rfl
  v75 := fun _ => by kernel_rfl
  t76 := by kernel_rfl
  a76 := fun _ => by kernel_rfl
  z76 := fun _ => by kernel_rfl
  v76 := fun _ => by kernel_rfl
  t109 := by kernel_rfl
  a109 := fun _ => by kernel_rfl
  z109 := fun _ => by kernel_rfl
  v109 := fun _ => by kernel_rfl
  t127 := by kernel_rfl
  a127 := fun _ => by kernel_rfl
  z127 := fun _ => by kernel_rfl
  v127 := fun _ => by kernel_rfl
  t146 := by kernel_rfl
  a146 := fun _ => by kernel_rfl
  z146 := fun _ => by kernel_rfl
  v146 := fun _ => by kernel_rfl
  t148 := by kernel_rfl
  a148 := fun _ => by kernel_rfl
  z148 := fun _ => by kernel_rfl
  v148 := fun _ => by kernel_rfl
  t164 := by kernel_rfl
  a164 := fun _ => by kernel_rfl
  z164 := fun _ => by kernel_rfl
  v164 := fun _ => by kernel_rfl
theorem jwsLays : Go.Proofs.Lays.n166 Tryz.prog jren where
  mixed := by kernel_rfl
  f166 := Tryz.func110.trans (congrArg some (by kernel_rfl))
  f240 := Tryz.func137.trans (congrArg some (by kernel_rfl))
  f276 := Tryz.func170.trans (congrArg some (by kernel_rfl))
  t0 := by kernel_rfl
  a0 := fun _ => by kernel_rfl
  z0 := fun _ => by kernel_rfl
  v0 := fun _ => by kernel_rfl
  t3 := by kernel_rfl
  a3 := fun _ => by kernel_rfl
  z3 := fun _ => by kernel_rfl
  v3 := fun _ => by kernel_rfl
  t4 := by kernel_rfl
  a4 := fun _ => by kernel_rfl
  z4 := fun _ => by kernel_rfl
  v4 := fun _ => by kernel_rfl
  t9 := by kernel_rfl
  a9 := fun _ => by kernel_rfl
  z9 := fun _ => by kernel_rfl
  v9 := fun _ => by kernel_rfl
  t20 := by kernel_rfl
  a20 := fun _ => by kernel_rfl
  z20 := fun _ => by kernel_rfl
  v20 := fun _ => by kernel_rfl
  t37 := by kernel_rfl
  a37 := fun _ => by kernel_rfl
  z37 := fun _ => by kernel_rfl
  v37 := fun _ => by kernel_rfl
  t70 := by kernel_rfl
  a70 := fun _ => by kernel_rfl
  z70 := fun _ => by kernel_rfl
  v70 := fun _ => by kernel_rfl
  t72 := by kernel_rfl
  a72 := fun _ => by kernel_rfl
  z72 := fun _ => by kernel_rfl
  v72 := fun _ => by kernel_rfl
  t75 := by kernel_rfl
  a75 := fun _ => by kernel_rfl
  z75 := fun _ => by kernel_rfl
  v75 := fun _ => by kernel_rfl
  t164 := by kernel_rfl
  a164 := fun _ => by kernel_rfl
  z164 := fun _ => by kernel_rfl
  v164 := fun _ => by kernel_rfl
theorem idxLays : Go.Proofs.Lays.n137 Tryz.prog jren where
  mixed := by kernel_rfl
  f137 := Tryz.func91.trans (congrArg some (by kernel_rfl))
  f217 := Tryz.func108.trans (congrArg some (by kernel_rfl))
  f266 := Tryz.func136.trans (congrArg some (by kernel_rfl))
  t3 := by kernel_rfl
  a3 := fun _ => by kernel_rfl
  z3 := fun _ => by kernel_rfl
  v3 := fun _ => by kernel_rfl
  t5 := by kernel_rfl
  a5 := fun _ => by kernel_rfl
  z5 := fun _ => by kernel_rfl
  v5 := fun _ => by kernel_rfl
  t9 := by kernel_rfl
  a9 := fun _ => by kernel_rfl
  z9 := fun _ => by kernel_rfl
  v9 := fun _ => by kernel_rfl
theorem jExtra : Builder.Extra Tryz.prog jren where
  sizeBuilder := by kernel_rfl
  liesBuilder := by kernel_rfl
  t5 := by kernel_rfl
  a5 := fun _ => by kernel_rfl
  z5 := fun _ => by kernel_rfl
  v5 := fun _ => by kernel_rfl
  infoByte := by kernel_rfl
  cellsByte := by kernel_rfl
  sizeByte := by kernel_rfl
  neB5 := by decide
end Go.Proofs.YtigmhnlcmhpepaaGreatDoor

namespace Go.Proofs.YtigmhnlcmhpepaaGreatDoor
open Go Go.RowKit Go.Deep

/-- Four cells that may be written. -/
def S4 (w : World) (b : Nat) (v0 v1 v2 v3 : Value) : Prop := w.heap[b]? = some (.cells #[v0, v1, v2, v3] 141 (0, 0))
theorem S4.new (w : World) (v0 v1 v2 v3 : Value) : S4 (w.alloc (.cells #[v0, v1, v2, v3] 141)) w.heap.size v0 v1 v2 v3 := heap_alloc_new w _
theorem S4.lt {w : World} {b : Nat} {v0 v1 v2 v3 : Value} (h : S4 w b v0 v1 v2 v3) : b < w.heap.size := by
  rcases Nat.lt_or_ge b w.heap.size with hl | hl
  · exact hl
  · simp [S4, Array.getElem?_eq_none hl] at h
theorem S4.below {w w' : World} {b : Nat} {v0 v1 v2 v3 : Value} (h : S4 w b v0 v1 v2 v3) (hB : Below w.heap.size w w') : S4 w' b v0 v1 v2 v3 := by
  rw [S4, hB.block b h.lt]; exact h
theorem S4.cells {w : World} {b : Nat} {v0 v1 v2 v3 : Value} (h : S4 w b v0 v1 v2 v3) :
    (w.cell? ⟨b, 0, none⟩ = some v0 ∧ w.cell? ⟨b, 1, none⟩ = some v1 ∧ w.cell? ⟨b, 2, none⟩ = some v2 ∧ w.cell? ⟨b, 3, none⟩ = some v3) ∧
    (w.frozen? ⟨b, 0, none⟩ = false ∧ w.frozen? ⟨b, 1, none⟩ = false ∧ w.frozen? ⟨b, 2, none⟩ = false ∧ w.frozen? ⟨b, 3, none⟩ = false) := by
  simp only [S4] at h
  refine ⟨⟨?_, ?_, ?_, ?_⟩, ⟨?_, ?_, ?_, ?_⟩⟩ <;> simp [World.cell?, World.frozen?, h]
theorem S4.far {w : World} {b c o : Nat} {v v0 v1 v2 v3 : Value} (h : S4 w b v0 v1 v2 v3) (hc : c ≠ b) : S4 (w.setCell ⟨c, o, none⟩ v) b v0 v1 v2 v3 := by
  simp only [S4] at *
  simp only [World.setCell, Array.getElem?_modify]
  rw [if_neg hc]; exact h

/-- A Spec's box among what stays. -/
structure SB (w0 : World) (bx : Nat) (V F W P : Int) (wk : World) : Prop where
  bel : Below w0.heap.size w0 wk
  box : S4 wk bx (.int .u8 V) (.int .i64 F) (.int .i64 W) (.int .i64 P)
theorem SB.new (w : World) (V F W P : Int) : SB w w.heap.size V F W P (w.alloc (.cells #[.int .u8 V, .int .i64 F, .int .i64 W, .int .i64 P] 141)) := ⟨alloc_b w _, S4.new w _ _ _ _⟩
theorem SB.on {w0 wk w' : World} {bx : Nat} {V F W P : Int} (h : SB w0 bx V F W P wk) (k : Below wk.heap.size wk w') : SB w0 bx V F W P w' := ⟨below_on h.bel k, h.box.below k⟩
theorem SB.drew {w0 wk : World} {bx : Nat} {V F W P : Int} (h : SB w0 bx V F W P wk) : SB w0 bx V F W P wk.drew := ⟨h.bel.drew, h.box⟩
theorem SB.flat {w0 wk : World} {bx : Nat} {V F W P : Int} (h : SB w0 bx V F W P wk) : wk.cell? ⟨bx, 0, none⟩ = some (.int .u8 V) ∧ wk.cell? ⟨bx, 1, none⟩ = some (.int .i64 F) ∧ wk.cell? ⟨bx, 2, none⟩ = some (.int .i64 W) ∧ wk.cell? ⟨bx, 3, none⟩ = some (.int .i64 P) := h.box.cells.1
end Go.Proofs.YtigmhnlcmhpepaaGreatDoor

namespace Go.Proofs.YtigmhnlcmhpepaaGreatDoor
open Go.RowKit Go.Deep

theorem wpList_append_b {ty : TypeId} {ops : Array Oper} {rest : List Oper} {o : Oper} {a : Act} {Q : Exit → Act → World → Prop} (hgd : o.guard = none) (s x : Operand)
    (ho : o.op = .call { callee := .builtin .append, args := #[s, x], argTypes := #[ty, ty] }) {v y v' : Value} {w w' : World} (hr : (Builtin.append_ #[ty, ty] o.type #[v, y]).run Tryz.prog w = .ok v' w') (hs : a.eval s = v) (hx : a.eval x = y)
    (h : wpList Tryz.prog ops Q rest (a.put o.dst v') w') : wpList Tryz.prog ops Q (o :: rest) a w := by
  refine wpList_plain hgd fun K hK => ?_
  unfold Oper.wp execOp
  simp only [ho, resolve, invoke, builtin, Sem.run_bind, Sem.run_pure, Result.andThen_ok, List.map_toArray, List.map_cons, List.map_nil, hs, hx, hr]
  exact hK _ _ h

/-- The bytes, in a block of our own from base on. -/
def Row8 (base : Nat) (w : World) (mv : Value) (xs : List Int) : Prop := w.ownsRow base 5 1 mv xs.length (xs.map (Value.int .u8))

theorem Row8.below {base : Nat} {w w' : World} {mv : Value} {xs : List Int} (h : Row8 base w mv xs) (hb : Below w.heap.size w w') : Row8 base w' mv xs :=
  World.ownsRow.kept (row := none) h ⟨hb.os, hb.tape, hb.output, hb.size, fun j hj _ => hb.block j hj⟩ (by cases h : Value.ownBlock mv <;> simp)

theorem Row8.push {base : Nat} {w : World} {mv : Value} {xs : List Int} (ho : Row8 base w mv xs) (x : Int) (hn : xs.length < 140737488351232) (hb : base ≤ w.heap.size) :
    ∃ mv' w', (Builtin.append_ #[172, 172] 172 #[mv, .slice (some ⟨w.heap.size, 0, none⟩) 1 1]).run Tryz.prog (w.alloc (.cells #[.int .u8 x] 5)) = .ok mv' w' ∧ Row8 base w' mv' (xs ++ [x]) ∧ w.heap.size ≤ w'.heap.size ∧
      Below base w w' ∧ (∀ j, j < w.heap.size → some j ≠ mv.ownBlock → w'.heap[j]? = w.heap[j]?) := by
  obtain ⟨i, hi, hz⟩ := Option.map_eq_some_iff.1 info8
  simp only [Prod.mk.injEq] at hz
  obtain ⟨z1, z2, z3⟩ := hz
  have bm : Below w.heap.size w (w.alloc (.cells #[.int .u8 x] 5)) := (Below.refl _ _).alloc (Nat.le_refl _) _
  have hs : (w.alloc (.cells #[.int .u8 x] 5)).heap.size = w.heap.size + 1 := World.size_alloc _ _
  have ho' := World.ownsRow.alloc ho (.cells #[.int .u8 x] 5)
  have hcell : (w.alloc (.cells #[.int .u8 x] 5)).cell? ⟨w.heap.size, 0, none⟩ = some (.int .u8 x) :=
    (OwnB.alloc w [x]).cell 0 (by simp)
  obtain ⟨v', w', hr, h1, h2, _⟩ := run_append_own (P := Tryz.prog) (w.alloc (.cells #[.int .u8 x] 5)) base 172 172 5 i (.int .u8 0) 1 1 Tryz.underlying172 hi z1 z2 z3 rfl (by omega) mv xs.length (xs.map (Value.int .u8)) ho'
    ⟨w.heap.size, 0, none⟩ 1 1 [.int .u8 x] rfl (fun j u hu => by
      cases j with
      | zero =>
        simp at hu
        subst hu
        rw [Go.WideShapes.add_plain]
        exact hcell
      | succ j => simp at hu) (fun u hu => by simp at hu; subst hu; rfl) (by simp only [maxLen]; omega) (by omega) (by rw [hs]; omega)
  refine ⟨v', w', hr, by simpa [Row8] using h1, by have := h2.size; omega, ?_, fun j hj hne => ?_⟩
  · have hb2 : Below base (w.alloc (.cells #[.int .u8 x] 5)) w' := by
      refine ⟨h2.os, h2.tape, h2.output, h2.size, fun j hj => h2.block j (by rw [hs]; omega) ?_⟩
      intro hk
      have := (ho'.lt j hk.symm).1
      omega
    exact (bm.mono hb).trans hb2
  · rw [h2.block j (by rw [hs]; omega) hne]
    exact bm.block j hj

/-- The row's shape. -/
theorem Row8.shape {base : Nat} {w : World} {mv : Value} {xs : List Int} (h : Row8 base w mv xs) : ∃ pm cp, mv = .slice pm xs.length cp := by
  rcases h.2 with ⟨rfl, h0⟩ | ⟨g, cp, cur, rfl, _⟩
  · exact ⟨none, 0, by rw [h0]⟩
  · exact ⟨_, cp, rfl⟩

/-- string(b) of such a row that has an address. -/
theorem Row8.cells {base : Nat} {w : World} {mv : Value} {xs : List Int} (h : Row8 base w mv xs) (h0 : xs ≠ []) : ∃ g cp, mv = .slice (some ⟨g, 0, none⟩) xs.length cp ∧ ∀ i, i < xs.length → w.cell? ⟨g, 0 + i, none⟩ = some (.int .u8 (xs.getD i 0)) := by
  rcases h.2 with ⟨rfl, hn⟩ | ⟨g, cp, cur, rfl, _⟩
  · exact absurd (List.eq_nil_of_length_eq_zero hn) h0
  · refine ⟨g, cp, rfl, fun i hi => ?_⟩
    have := World.ownsRow.cells h (g := g) rfl i (.int .u8 (xs.getD i 0)) (by simp [List.getD, hi])
    rw [Go.WideShapes.add_plain] at this
    exact this
end Go.Proofs.YtigmhnlcmhpepaaGreatDoor

namespace Go.Proofs.YtigmhnlcmhpepaaGreatDoor
open Go Go.RowKit Go.Deep Go.Shelf

theorem xtab10_below {w w' : World} (h : Tab10 w) (k : Below w.heap.size w w') : Tab10 w' := by
  unfold Tab10 Lib.TabIs World.var? at *
  cases hg : Tryz.prog.globalNamed "internal/strconv.uint64pow10" with
  | none => rw [hg] at h; simp at h
  | some g =>
    rw [hg] at h
    simp only [Option.bind_some] at h ⊢
    have hl : g < w.heap.size := by
      rcases Nat.lt_or_ge g w.heap.size with c | c
      · exact c
      · rw [Array.getElem?_eq_none c] at h; simp at h
    rw [k.block g hl]; exact h
theorem Tab10.bel {w w' : World} (h : Tab10 w) (k : Below w.heap.size w w') : Tab10 w' := xtab10_below h k
end Go.Proofs.YtigmhnlcmhpepaaGreatDoor

namespace Go.Proofs.YtigmhnlcmhpepaaGreatDoor
open Go Go.RowKit Go.Deep

theorem tab_laid : (Rows.laid_math_bits_deBruijn64tab : DataW Unit) = Lib.tabData .u8 (List.map Int.ofNat Lib.deBruijn64tab) := by kernel_rfl

theorem tab_of {W : World} {rest : List (String × DataW Unit)} (h : laidMet Tryz.prog (("math/bits.deBruijn64tab", Rows.laid_math_bits_deBruijn64tab) :: rest) W) : Tab W := by
  rw [tab_laid] at h
  have ht := Lib.tabIs_of_head (g := 5) (t := 279) (e := 5) (n := 64) (k := .u8) (zs := List.map Int.ofNat Lib.deBruijn64tab) (by kernel_rfl) (by kernel_rfl) Tryz.underlying279 Tryz.underlying5 (by kernel_rfl) (by kernel_rfl) h
  intro j hj
  have hl : (List.map Int.ofNat Lib.deBruijn64tab).length = Lib.deBruijn64tab.length := by simp
  rw [ht.cell (g := 5) (by kernel_rfl) j (by omega)]
  simp [List.getD, hj]

end Go.Proofs.YtigmhnlcmhpepaaGreatDoor

namespace Go.Proofs.YtigmhnlcmhpepaaGreatDoor
open Go Go.RowKit Go.Deep

theorem laid_tail12 {P : Program} {W : World} {x : String × DataW Unit} {rest : List (String × DataW Unit)} (h : laidMet P (x :: rest) W) : laidMet P rest W := by
  obtain ⟨ps, ⟨g, t, cs, fuel, p, q, _, _, _, _, hr, rfl⟩, hn, hc⟩ := h
  exact ⟨q, hr, (List.nodup_append.1 hn).2.1, fun b off hm => hc b off (List.mem_append_right _ hm)⟩

theorem pow_laid12 : (Rows.laid_internal_strconv_uint64pow10 : DataW Unit) = Lib.tabData .u64 Lib.pow10Tab := by kernel_rfl

theorem tables12 {W : World} {a : String × DataW Unit} {rest : List (String × DataW Unit)} (h : laidMet Tryz.prog (a :: ("math/bits.deBruijn64tab", Rows.laid_math_bits_deBruijn64tab) :: ("internal/strconv.uint64pow10", Rows.laid_internal_strconv_uint64pow10) :: rest) W) : Tab W ∧ Tab10 W := by
  have h1 := laid_tail12 h
  have h2 := laid_tail12 h1
  rw [pow_laid12] at h2
  exact ⟨tab_of h1, Lib.tabIs_of_head (g := 1) (t := 242) (e := 22) (n := 20) (by kernel_rfl) (by kernel_rfl) Tryz.underlying242 Tryz.underlying22 (by kernel_rfl) (by kernel_rfl) h2⟩
end Go.Proofs.YtigmhnlcmhpepaaGreatDoor
