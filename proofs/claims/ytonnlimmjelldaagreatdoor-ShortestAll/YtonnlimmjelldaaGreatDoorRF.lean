/-
  Texts put together: VSlim, VNormA, LExact, IWalk1A, IOrdD, IUp, IDown, IWalk1, LHalf, MSt, LSpan, VCompare, VCmpI, VCmp.
-/
import Derived.Test.YtonnlimmjelldaaGreatDoorRE
import Derived.Test.YtonnlimmjelldaaGreatDoorVOrd
import Derived.Deep.Cut
import Derived.Deep.RegionHeld3
import Derived.Test.YtonnlimmjelldaaGreatDoorFDec
import Derived.Test.YtonnlimmjelldaaGreatDoorFRow3
import Derived.Test.YtonnlimmjelldaaGreatDoorLNum4
import Derived.Test.YtonnlimmjelldaaGreatDoorIWalk1C
import Derived.Test.YtonnlimmjelldaaGreatDoorIWalk1B
import Derived.Test.YtonnlimmjelldaaGreatDoorXMem
import Derived.Test.YtonnlimmjelldaaGreatDoorRC
import Derived.Test.YtonnlimmjelldaaGreatDoorVStr
import Derived.Shelf.Small.Strs
import Derived.Test.YtonnlimmjelldaaGreatDoorV0
namespace Go.Proofs.YtonnlimmjelldaaGreatDoor
open Go Go.RowKit Go.Deep

/-- What slim, and Norm, tell of a Dec. -/
def nmd (neg : Bool) (ds : List Int) (e : Int) : Sc.D := if Sc.IsDec ds e then Sc.nrm neg ds e else ⟨false, [], 0⟩
theorem isdec_n {ds : List Int} {e : Int} {neg : Bool} (h1 : ds ≠ []) (h2 : -1152921504606846976 ≤ e) (h3 : e ≤ 1152921504606846976) (h4 : ∀ i, i < ds.length → Sc.dg (Sc.pk ds i) = true) : Sc.IsDec ds e ↔ (Sc.nrm neg ds e).e ≤ 1152921504606846976 := by
  have h4' : ∀ x ∈ ds, Sc.dg x = true := by
    intro x hx
    obtain ⟨i, hi, rfl⟩ := List.mem_iff_getElem.1 hx
    have := h4 i hi
    simpa [Sc.pk, List.getD, hi] using this
  by_cases c : Sc.lz ds = ds.length
  · rw [Sc.nrm_zero c]
    constructor
    · intro _; show (0 : Int) ≤ _; omega
    · intro _; exact ⟨h1, h2, h3, h4', fun h => absurd c h⟩
  · rw [Sc.nrm_pos c]
    constructor
    · intro h; exact h.2.2.2.2 c
    · intro h; exact ⟨h1, h2, h3, h4', fun _ => h⟩

theorem Str.ne {s : ByteArray} {xs : List Int} (h : Str s xs) (hx : xs ≠ []) : s.toList ≠ [] ∧ (s.toList == []) = false ∧ s.toList.isEmpty = false := by
  have e1 : s.toList ≠ [] := by
    intro c
    apply hx
    rw [ByteArray.toList_eq] at c
    rw [← h, c]
    rfl
  exact ⟨e1, by rw [beq_eq_false_iff_ne]; exact e1, by rw [List.isEmpty_eq_false_iff]; exact e1⟩

/-- What slim tells. -/
def SlimTold (neg : Bool) (ds : List Int) (e : Int) (w : World) (r : Ending) (w' : World) : Prop := ∃ v, r = .returned (.tuple #[v, .bool (decide (Sc.IsDec ds e))]) ∧ DecIs v (nmd neg ds e) ∧ Below w.heap.size w w'

theorem Two3.drew {w w' : World} {v0 v1 v2 u0 u1 u2 : Value} (h : Two3 w w' v0 v1 v2 u0 u1 u2) (n : Nat) : Two3 w (w'.drewN n) v0 v1 v2 u0 u1 u2 := ⟨below_drewN h.1 n, h.2.1, h.2.2⟩

set_option maxRecDepth 100000 in
set_option maxHeartbeats 2000000 in
theorem slim_any (neg : Bool) (s : ByteArray) (xs : List Int) (e : Int) (w : World) (hs : Str s xs) (hn : xs.length ≤ 281474976710656) :
    Calls Tryz.prog 47 #[decV neg s e] w fun r w' => SlimTold neg xs e w r w' := by
  have ZF : Hid (¬ Sc.IsDec xs e → ∀ w', Below w.heap.size w w' → SlimTold neg xs e w (.returned (.tuple #[.agg #[.bool false, .string ⟨#[]⟩, .int .i64 0], .bool false])) w') := fun z w' b => ⟨_, by rw [decide_eq_false z], by unfold nmd; rw [if_neg z]; exact ⟨_, rfl, str_nil0⟩, b⟩
  have hsz := hs.size
  by_cases h1 : xs = []
  · have Z2 := hid (ZF.out fun c => c.1 h1)
    have hs0 : s = ⟨#[]⟩ := hs.inj (by rw [h1]; rfl)
    subst hs0
    clear hs h1 ZF hn
    unfold decV
    go_enter Tryz.func47, Tryz.ntmps47
    go_wp2_with fail
    (try simp only [Exit.inBlock, Exit.then])
    refine bodyPost_ret (results_row_tmp rfl _ _ (w.heap.size + 1) 28 _ (0, 0) _ rfl (Two3.new w _ _ _ _ _ _).2.2 Tryz.underlying28 rfl (by kernel_rfl)) rfl ?_
    exact Z2.out _ (Two3.new w _ _ _ _ _ _).1
  · obtain ⟨q1, q2, q3⟩ := hs.ne h1
    by_cases h2 : -1152921504606846976 ≤ e ∧ e ≤ 1152921504606846976
    · obtain ⟨e0, e1⟩ := h2
      have T := hid (fun wx => dtrim_any neg s xs e wx hs hn (by omega) (by omega))
      have ID : Hid ((∀ i, i < xs.length → Sc.dg (Sc.pk xs i) = true) → (Sc.IsDec xs e ↔ (Sc.nrm neg xs e).e ≤ 1152921504606846976)) := isdec_n h1 e0 e1
      have IN : Hid (∀ j, j < xs.length → Sc.dg (Sc.pk xs j) = false → ¬ Sc.IsDec xs e) := fun j hj hd c => by
        have := c.2.2.2.1 (Sc.pk xs j) (by simp [Sc.pk, List.getD, hj])
        rw [hd] at this; exact absurd this (by simp)
      have DG := hid (fun (j : Nat) (wx : World) => digit_any (Sc.pk xs j) wx (hs.atb j).1 (hs.atb j).2)
      have HS := hid hs
      have HN := hid hn
      have NE := hid (Sc.nrm_e neg xs e)
      clear hs hn h1
      unfold decV
      go_enter Tryz.func47, Tryz.ntmps47
      go_wp2_with fail
      go_loop [22] (fun c => ∃ j : Nat, c = .int .i64 j ∧ Hid (j ≤ xs.length ∧ ∀ i, i < j → Sc.dg (Sc.pk xs i) = true)) (fun c => match c with | .int _ j => xs.length - j.toNat | _ => 0)
      case atStart => exact ⟨0, rfl, Nat.zero_le _, fun i hi => by omega⟩
      case round =>
        obtain ⟨j, rfl, I⟩ := hrel
        have hjb : (j : Int) ≤ 281474976710656 := by have := I.out.1; have := HN.out; omega
        by_cases hj : j < xs.length
        · have hji : (j : Int) < (xs.length : Int) := by omega
          have hx := HS.out.pk j
          have D := hid (fun wx => DG.out j wx)
          cases hd : Sc.dg (Sc.pk xs j) with
          | true =>
            rw [hd] at D
            have I2 : Hid (j + 1 ≤ xs.length ∧ ∀ i, i < j + 1 → Sc.dg (Sc.pk xs i) = true) := ⟨by omega, fun i hi => by
              by_cases c : i = j
              · subst c; exact hd
              · exact I.out.2 i (by omega)⟩
            clear hd I
            go_wp2_with fail
            refine (D.out _).mono ?_
            rintro r w1 ⟨rfl, rfl⟩
            go_wp2_with fail
            go_round
            case rel => exact ⟨j + 1, by go_num, I2.out⟩
            case measure => simp; omega
          | false =>
            rw [hd] at D
            have Z2 := hid (ZF.out (IN.out j hj hd))
            clear hd
            go_wp2_with fail
            refine (D.out _).mono ?_
            rintro r w1 ⟨rfl, rfl⟩
            go_wp2_with fail
            (try simp only [Exit.inBlock, Exit.then])
            refine bodyPost_ret (results_row_tmp rfl _ _ (w.heap.size + 1) 28 _ (0, 0) _ rfl (Two3.new w _ _ _ _ _ _).2.2 Tryz.underlying28 rfl (by kernel_rfl)) rfl ?_
            exact Z2.out _ (Two3.new w _ _ _ _ _ _).1
        · have hji : ¬ (j : Int) < (xs.length : Int) := by omega
          have ID2 := hid (ID.out fun i hi => I.out.2 i (by omega))
          have Z := hid (Two3.new w (.bool neg) (.string s) (.int .i64 e) (.bool false) (.string ⟨#[]⟩) (.int .i64 0))
          clear I
          go_wp2_with fail
          refine (T.out _).mono ?_
          rintro r w1 ⟨v, rfl, ⟨t, hv, ht⟩, hB⟩
          unfold decV at hv
          subst hv
          have S := hid ((Z.out.on hB).putA (.bool (Sc.nrm neg xs e).neg) (.string t) (.int .i64 (Sc.nrm neg xs e).e))
          obtain ⟨⟨c0, c1, c2⟩, f0, f1, f2⟩ := (Z.out.on hB).2.1.cells
          obtain ⟨⟨d0, d1, d2⟩, g0, g1, g2⟩ := (Z.out.on hB).2.2.cells
          have HT := hid ht
          clear hB ht Z T
          by_cases hb : (Sc.nrm neg xs e).e ≤ 1152921504606846976
          · have isd := ID2.out.2 hb
            have GG : Hid (∀ w', Below w.heap.size w w' → SlimTold neg xs e w (.returned (.tuple #[.agg #[.bool (Sc.nrm neg xs e).neg, .string t, .int .i64 (Sc.nrm neg xs e).e], .bool true])) w') := fun w' b => ⟨_, by rw [decide_eq_true isd], by unfold nmd; rw [if_pos isd]; exact ⟨t, rfl, HT.out⟩, b⟩
            clear isd ID ID2 IN NE
            generalize Sc.nrm neg xs e = N at *
            go_wp2_with fail
            (try simp only [Exit.inBlock, Exit.then])
            refine bodyPost_ret (results_row_tmp rfl _ _ (w.heap.size + 1) 28 _ (0, 0) _ rfl (S.out.putB _ _ _).2.2 Tryz.underlying28 rfl (by kernel_rfl)) rfl ?_
            exact GG.out _ (S.out.putB _ _ _).1
          · have Z2 := hid (ZF.out fun c => hb (ID2.out.1 c))
            have hb2 : 1152921504606846976 < (Sc.nrm neg xs e).e := by omega
            clear ID ID2 IN NE
            generalize Sc.nrm neg xs e = N at *
            go_wp2_with fail
            (try simp only [Exit.inBlock, Exit.then])
            refine bodyPost_ret (results_row_tmp rfl _ _ (w.heap.size + 1) 28 _ (0, 0) _ rfl (S.out.putB _ _ _).2.2 Tryz.underlying28 rfl (by kernel_rfl)) rfl ?_
            exact Z2.out _ (S.out.putB _ _ _).1
    · have Z2 := hid (ZF.out fun c => h2 ⟨c.2.1, c.2.2.1⟩)
      rcases (show e < -1152921504606846976 ∨ (-1152921504606846976 ≤ e ∧ 1152921504606846976 < e) by omega) with he | ⟨he0, he⟩
      all_goals
        clear hs hn h1 ZF h2
        unfold decV
        go_enter Tryz.func47, Tryz.ntmps47
        go_wp2_with fail
        (try simp only [Exit.inBlock, Exit.then])
        refine bodyPost_ret (results_row_tmp rfl _ _ (w.heap.size + 1) 28 _ (0, 0) _ rfl (Two3.new w _ _ _ _ _ _).2.2 Tryz.underlying28 rfl (by kernel_rfl)) rfl ?_
        exact Z2.out _ (Two3.new w _ _ _ _ _ _).1
end Go.Proofs.YtonnlimmjelldaaGreatDoor

namespace Go.Proofs.YtonnlimmjelldaaGreatDoor
open Go Go.RowKit Go.Deep

def errOf (ds : List Int) (e : Int) : Int := if Sc.IsDec ds e then 0 else 80

def NormTold (neg : Bool) (xs : List Int) (e : Int) (w : World) (r : Ending) (w' : World) : Prop := ∃ v, r = .returned (.tuple #[v, .int .i64 (errOf xs e)]) ∧ DecIs v (nmd neg xs e) ∧ Below w.heap.size w w'

set_option maxRecDepth 100000 in
set_option maxHeartbeats 2000000 in
theorem norm_any (neg : Bool) (s : ByteArray) (xs : List Int) (e : Int) (w : World) (hs : Str s xs) (hn : xs.length ≤ 281474976710655) :
    Calls Tryz.prog 24 #[decV neg s e] w fun r w' => NormTold neg xs e w r w' := by
  have T := hid (fun wx => slim_any neg s xs e wx hs (by omega))
  have Z := hid (Two3.new w (.bool neg) (.string s) (.int .i64 e) (.bool false) (.string ⟨#[]⟩) (.int .i64 0))
  have LN : Hid ((nmd neg xs e).ds.length ≤ 281474976710656) := by
    show _ ≤ _
    unfold nmd
    split
    · exact nrm_ds_len _ _ _ (by omega)
    · simp
  clear hs hn
  unfold decV at T ⊢
  go_enter Tryz.func24, Tryz.ntmps24
  go_wp2_with fail
  refine (T.out _).mono ?_
  rintro r w1 ⟨v, rfl, ⟨t, hv, ht⟩, hB⟩
  unfold decV at hv
  subst hv
  have S := hid ((Z.out.on hB).putA (.bool (nmd neg xs e).neg) (.string t) (.int .i64 (nmd neg xs e).e))
  obtain ⟨⟨c0, c1, c2⟩, f0, f1, f2⟩ := (Z.out.on hB).2.1.cells
  have HT := hid ht
  have O := hid (fun wx => own_any (nmd neg xs e).neg t (nmd neg xs e).e wx (by rw [ht.size]; exact LN.out))
  unfold decV at O
  obtain ⟨d, hd⟩ : ∃ d, decide (Sc.IsDec xs e) = d := ⟨_, rfl⟩
  rw [hd]
  cases d with
  | true =>
    have E : Hid (errOf xs e = 0) := by show _ = _; unfold errOf; rw [if_pos (of_decide_eq_true hd)]
    have GG : Hid (∀ w', Below w.heap.size w w' → NormTold neg xs e w (.returned (.tuple #[.agg #[.bool (nmd neg xs e).neg, .string t, .int .i64 (nmd neg xs e).e], .int .i64 0])) w') := fun w' b => ⟨_, by rw [E.out]; rfl, ⟨t, rfl, HT.out⟩, b⟩
    obtain ⟨⟨d0, d1, d2⟩, g0, g1, g2⟩ := (Z.out.on hB).2.2.cells
    clear hB ht Z T hd E
    generalize nmd neg xs e = N at *
    go_wp2_with fail
    refine (O.out _).mono ?_
    rintro r w2 ⟨rfl, hB⟩
    have S2 := hid (S.out.on hB)
    clear c0 c1 c2 f0 f1 f2 d0 d1 d2 g0 g1 g2 hB
    obtain ⟨⟨d0, d1, d2⟩, g0, g1, g2⟩ := S2.out.2.2.cells
    go_wp2_with fail
    (try simp only [Exit.inBlock, Exit.then])
    refine bodyPost_ret (results_row_tmp rfl _ _ (w.heap.size + 1) 28 _ (0, 0) _ rfl (S2.out.putB _ _ _).2.2 Tryz.underlying28 rfl (by kernel_rfl)) rfl ?_
    exact GG.out _ (S2.out.putB _ _ _).1
  | false =>
    have hnd := of_decide_eq_false hd
    have E : Hid (errOf xs e = 80) := by show _ = _; unfold errOf; rw [if_neg hnd]
    have EN : Hid (nmd neg xs e = ⟨false, [], 0⟩) := by show _ = _; unfold nmd; rw [if_neg hnd]
    have GG : Hid (∀ w', Below w.heap.size w w' → NormTold neg xs e w (.returned (.tuple #[.agg #[.bool false, .string ⟨#[]⟩, .int .i64 0], .int .i64 80])) w') := fun w' b => ⟨_, by rw [E.out], by rw [EN.out]; exact ⟨_, rfl, str_nil0⟩, b⟩
    obtain ⟨⟨d0, d1, d2⟩, g0, g1, g2⟩ := (Z.out.on hB).2.2.cells
    clear hB ht Z T hd hnd O
    rw [EN.out] at S ⊢
    go_wp2_with fail
    (try simp only [Exit.inBlock, Exit.then])
    refine bodyPost_ret (results_row_tmp rfl _ _ (w.heap.size + 1) 28 _ (0, 0) _ rfl (S.out.putB _ _ _).2.2 Tryz.underlying28 rfl (by kernel_rfl)) rfl ?_
    exact GG.out _ (S.out.putB _ _ _).1
end Go.Proofs.YtonnlimmjelldaaGreatDoor

namespace Go.Proofs.YtonnlimmjelldaaGreatDoor
open Go Go.RowKit Go.Deep

set_option maxRecDepth 100000 in
theorem zfinite_any (d : Int) (w : World) (h0 : 0 ≤ d) (h1 : d < 18446744073709551616) :
    Calls Tryz.prog 18 #[.int .u64 d] w fun e w' => e = .returned (.bool (Ie.fnt d)) ∧ w' = w := by
  have C := hid (class_any d w h0 h1)
  have E : Hid (Ie.fnt d = decide (Ie.cls d < 3)) := rfl
  generalize Ie.cls d = c at *
  go_enter Tryz.func18, Tryz.ntmps18
  go_wp2_with fail
  refine C.out.mono ?_
  rintro e w' ⟨rfl, rfl⟩
  go_wp2_with fail
  go_ret
  exact ⟨fretB E.out.symm, rfl⟩

/-- The sign bit. -/
def Sh.ng (d : Int) : Bool := decide (9223372036854775808 ≤ d)
theorem zand_sign (d : Int) (h0 : 0 ≤ d) (h1 : d < 18446744073709551616) : (bits .and .u64 d 9223372036854775808 != 0) = Sh.ng d := by
  unfold Sh.ng
  rw [Ib.sign_and d h0 h1]
  rcases (show d < 9223372036854775808 ∨ 9223372036854775808 ≤ d by omega) with c | c
  · have e : d / 9223372036854775808 = 0 := by omega
    rw [e]
    simp
    omega
  · have e : d / 9223372036854775808 = 1 := by omega
    rw [e]
    simp [c]

set_option maxRecDepth 100000 in
theorem znegative_any (d : Int) (w : World) (h0 : 0 ≤ d) (h1 : d < 18446744073709551616) :
    Calls Tryz.prog 23 #[.int .u64 d] w fun e w' => e = .returned (.bool (Sh.ng d)) ∧ w' = w := by
  have AS := zand_sign d h0 h1
  generalize Sh.ng d = n at *
  go_enter Tryz.func23, Tryz.ntmps23
  go_wp2_with fail
  go_ret
  exact ⟨rfl, rfl⟩

/-- s writes T in base 10, zero too. -/
structure DigZ (T : Int) (s : ByteArray) (xs : List Int) : Prop where
  str : Str s xs
  digs : Digs xs
  val : dv xs = T
  ne : xs ≠ []
  len : xs.length ≤ 3000

set_option maxRecDepth 100000 in
theorem zdigits_any (p : Option Addr) (os : List Int) (B : Nat) (T : Int) (w : World) (K : Nat) (A : Ans B w p os T) (h0 : 0 ≤ T) (hK : K ≤ 2000) (hb : T < 10 ^ K) :
    Calls Tryz.prog 77 #[.slice p (List.length os) (List.length os)] w fun e w' => ∃ s xs, e = .returned (.tuple #[.string s, .int .i64 0]) ∧ DigZ T s xs ∧ Below w.heap.size w w' := by
  rcases (show 0 < T ∨ T = 0 by omega) with hT | hT
  · refine (fdigits_any p os B T w K A hT hK hb).mono ?_
    rintro e w' ⟨s, xs, rfl, D, hB⟩
    exact ⟨s, xs, rfl, ⟨D.str, D.digs, D.val, D.ne, D.len⟩, hB⟩
  · subst hT
    have hp : (0 : Int) < Nm.pw 4096 := Int.lt_of_le_of_lt (Int.le_of_lt (show (0 : Int) < 10 ^ 0 by decide)) (fp10_pw (by omega))
    have IB : Hid (Calls Tryz.prog 107 #[.slice p (List.length os) (List.length os), .int .i64 10, .bool false] w fun e w' => ∃ s xs, e = .returned (.tuple #[.string s, .int .i64 0]) ∧ DigZ 0 s xs ∧ Below w.heap.size w w') := by
      refine (inBase_any p _ _ os 10 false w (A.argT hp) (by omega) (by omega)).mono ?_
      rintro e w' ⟨s, xs, E, rfl, hs, h, hB⟩
      have ts := A.tsT hp
      have hv : Nm.val os = 0 := A.2.2.2.1
      have hz : Nm.tsize os = 0 := (Nm.tsize_zero_iff A.2.1).2 hv
      cases h with
      | big c => omega
      | base _ c => omega
      | zero c _ _ => exact ⟨s, _, rfl, ⟨hs, fun d hd => by simp at hd; omega, rfl, by simp, by simp⟩, hB⟩
      | ok L c1 c2 c3 c4 c5 => omega
    clear A hb hp hK h0
    go_enter Tryz.func77, Tryz.ntmps77
    go_wp2_with fail
    refine IB.out.mono ?_
    rintro e w' ⟨s, xs, rfl, D, hB⟩
    have HD := hid (And.intro D hB)
    clear D hB IB
    go_wp2_with fail
    go_ret2
    exact ⟨s, xs, rfl, HD.out.1, HD.out.2⟩

set_option maxRecDepth 100000 in
set_option maxHeartbeats 2000000 in
theorem znormal_any (s : ByteArray) (xs : List Int) (q : Int) (w : World) (hs : Str s xs) (hd : Digs xs) (hn : xs ≠ []) (h0 : -1075 ≤ q) (h1 : q ≤ 100000) (hl : xs.length ≤ 100000) :
    Calls Tryz.prog 45 #[.string s, .int .i64 q] w fun r w' => ∃ v, r = .returned v ∧ DecIs v (Sh.dd (dv xs * 10 ^ (q + 1075).toNat)) ∧ Below w.heap.size w w' := by
  have NO := hid (fun wx : World => norm_any false s xs q wx hs (by omega))
  have E0 : Hid (errOf xs q = 0 ∧ nmd false xs q = Sh.dd (dv xs * 10 ^ (q + 1075).toNat)) := by
    have i := Sh.isdec hd hn h0 h1 hl
    refine ⟨by rw [errOf, if_pos i], ?_⟩
    rw [nmd, if_pos i]
    exact Sh.nrm_dd hd h0
  have Z := FR3.new w (.bool false) (.string ⟨#[]⟩) (.int .i64 0)
  have ZB := hid (alloc_b w (.cells #[.bool false, .string ⟨#[]⟩, .int .i64 0] 28))
  have HZ : Hid (FR3 (w.alloc (.cells #[.bool false, .string ⟨#[]⟩, .int .i64 0] 28)) w.heap.size (.bool false) (.string ⟨#[]⟩) (.int .i64 0) ∧ w.heap.size < (w.alloc (.cells #[.bool false, .string ⟨#[]⟩, .int .i64 0] 28)).heap.size) := ⟨Z, Z.lt⟩
  unfold NormTold decV at NO
  rw [E0.out.1, E0.out.2] at NO
  clear E0 Z hs hd hn h0 h1 hl
  generalize Sh.dd (dv xs * 10 ^ (q + 1075).toNat) = DD at *
  go_enter Tryz.func45, Tryz.ntmps45
  go_wp2_with fail
  refine (NO.out _).mono ?_
  rintro e w1 ⟨v, rfl, ⟨t, hv, ht⟩, hB⟩
  unfold decV at hv
  subst hv
  have R6 := hid (HZ.out.1.below (hB.trans ((alloc_b w1 (.cells #[.bool DD.neg, .string t, .int .i64 DD.e] 28)).mono hB.size)) HZ.out.2)
  have HB6 := hid (ZB.out.trans ((hB.trans ((alloc_b w1 (.cells #[.bool DD.neg, .string t, .int .i64 DD.e] 28)).mono hB.size)).mono ZB.out.size))
  obtain ⟨⟨c0, c1, c2⟩, f0, f1, f2⟩ := R6.out.cells
  have G6 : Hid (∃ v, Ending.returned (.agg #[.bool DD.neg, .string t, .int .i64 DD.e]) = .returned v ∧ DecIs v DD) := ⟨_, rfl, t, rfl, ht⟩
  clear ht NO hB HZ ZB
  go_wp2_with fail
  (try simp only [Exit.inBlock, Exit.then])
  refine bodyPost_ret (results_cell_row rfl _ _ w.heap.size 28 _ (0, 0) _ rfl (R6.out.put _ _ _) Tryz.underlying28 rfl (by kernel_rfl)) rfl ?_
  obtain ⟨v, h1, h2⟩ := G6.out
  exact ⟨v, h1, h2, fset3_below HB6.out (Nat.le_refl _)⟩

theorem zroom {q : Int} {n k : Nat} (q1 : q < 18014398509481984) : q * 2 ^ k * 5 ^ n < 10 ^ (20 + n + k) := by
  have h1 := f5_10 n
  have h2 := f2_10 k
  have p1 : (0 : Int) < 5 ^ n := Int.pow_pos (by omega)
  have p2 : (0 : Int) < 2 ^ k := Int.pow_pos (by omega)
  have p3 : (0 : Int) < 10 ^ n := Int.pow_pos (by omega)
  have a1 : q * 2 ^ k * 5 ^ n ≤ 18014398509481984 * 2 ^ k * 5 ^ n := Int.mul_le_mul_of_nonneg_right (Int.mul_le_mul_of_nonneg_right (Int.le_of_lt q1) (Int.le_of_lt p2)) (Int.le_of_lt p1)
  have a2 : 18014398509481984 * 2 ^ k * 5 ^ n ≤ 18014398509481984 * 10 ^ k * (10 : Int) ^ n := Int.mul_le_mul (Int.mul_le_mul_of_nonneg_left h2 (by omega)) h1 (Int.le_of_lt p1) (Int.mul_nonneg (by omega) (Int.le_of_lt (Int.pow_pos (by omega))))
  have a3 : 18014398509481984 * 10 ^ k * (10 : Int) ^ n < 100000000000000000000 * 10 ^ k * 10 ^ n := Int.mul_lt_mul_of_pos_right (Int.mul_lt_mul_of_pos_right (by omega) (Int.pow_pos (by omega))) p3
  rw [Int.pow_add, Int.pow_add, show (10 : Int) ^ 20 = 100000000000000000000 by decide, Int.mul_assoc 100000000000000000000, Int.mul_comm ((10 : Int) ^ n) (10 ^ k), ← Int.mul_assoc]
  omega

/-- The number in units. -/
theorem zunits {m e : Int} (h0 : -1075 ≤ e) : m * 2 ^ e.toNat * 5 ^ (-e).toNat * 10 ^ (min e 0 + 1075).toNat = m * 2 ^ (e + 1075).toNat * Sh.T5 := by
  unfold Sh.T5
  rcases (show 0 ≤ e ∨ e < 0 by omega) with c | c
  · rw [show (-e).toNat = 0 by omega, show (min e 0 + 1075).toNat = 1075 by omega, show (e + 1075).toNat = e.toNat + 1075 by omega, Int.pow_zero, Int.mul_one, Int.pow_add]
    generalize 1075 = z
    rw [show (10 : Int) = 2 * 5 from rfl, Int.mul_pow]
    generalize (5 : Int) ^ z = x1
    generalize (2 : Int) ^ z = x2
    generalize (2 : Int) ^ e.toNat = x3
    ac_rfl
  · obtain ⟨n, hn⟩ : ∃ n : Nat, (-e).toNat = n := ⟨_, rfl⟩
    obtain ⟨k, hk⟩ : ∃ k : Nat, (e + 1075).toNat = k := ⟨_, rfl⟩
    have e1 : 1075 = n + k := by omega
    rw [show e.toNat = 0 by omega, show (min e 0 + 1075).toNat = k by omega, hn, hk, Int.pow_zero, Int.mul_one]
    conv => rhs; rw [e1]
    rw [Int.pow_add, show (10 : Int) = 2 * 5 from rfl, Int.mul_pow]
    generalize (5 : Int) ^ n = x1
    generalize (5 : Int) ^ k = x2
    generalize (2 : Int) ^ k = x3
    ac_rfl

set_option maxRecDepth 100000 in
set_option maxHeartbeats 4000000 in
theorem zexact_any (m e : Int) (w : World) (h0 : 0 ≤ m) (h1 : m < 18014398509481984) (e0 : -1075 ≤ e) (e1 : e ≤ 971) :
    Calls Tryz.prog 41 #[.int .u64 m, .int .i64 e] w fun r w' => ∃ v, r = .returned v ∧ DecIs v (Sh.dd (m * 2 ^ (e + 1075).toNat * Sh.T5)) ∧ Below w.heap.size w w' := by
  have FU := hid (fun (wx : World) => fromUint_any m wx h0 (by omega))
  obtain ⟨k, hk⟩ : ∃ k : Nat, e.toNat = k := ⟨_, rfl⟩
  obtain ⟨n, hn⟩ : ∃ n : Nat, (-e).toNat = n := ⟨_, rfl⟩
  have PW := hid (fun (wx : World) => fpow5_ok (n : Int) n wx rfl (by omega))
  have rT := zroom (q := m) (n := n) (k := k) h1
  have tp : (0 : Int) < 2 ^ k := Int.pow_pos (by omega)
  have fp : (0 : Int) < 5 ^ n := Int.pow_pos (by omega)
  have r1 : m * 2 ^ k < Nm.pw 4096 := by
    have := zroom (q := m) (n := 0) (k := k) h1
    rw [Int.pow_zero, Int.mul_one] at this
    exact Int.lt_trans this (fp10_pw (by omega))
  have r5 : (5 : Int) ^ n < Nm.pw 4096 := Int.lt_of_le_of_lt (f5_10 n) (fp10_pw (by omega))
  have SH : Hid (∀ (wx : World) (p : Option Addr) (os : List Int) (B : Nat), Ans B wx p os m → Calls Tryz.prog 74 #[.slice p (List.length os) (List.length os), .int .i64 (k : Int)] wx fun e w' => ∃ r os, e = .returned (.tuple #[.slice r (List.length os) (List.length os), .int .i64 0]) ∧ Ans wx.heap.size w' r os (m * 2 ^ k) ∧ Below wx.heap.size wx w') := by
    intro wx p os B A
    have rm : m < Nm.pw 4096 := Int.lt_trans (show m < 10 ^ 20 by rw [show (10 : Int) ^ 20 = 100000000000000000000 by decide]; omega) (fp10_pw (by omega))
    have s := fshl_any p _ _ os (k : Int) k wx (A.argT rm) (A.tsT rm) rfl (by rw [A.2.2.2.1]; exact r1)
    rw [A.2.2.2.1] at s
    exact s
  have MU : Hid (∀ (wx : World) (p r : Option Addr) (os zs : List Int), (∃ B, Ans B wx p os (m * 2 ^ k)) → (∃ B, Ans B wx r zs (5 ^ n)) → Calls Tryz.prog 76 #[.slice p (List.length os) (List.length os), .slice r (List.length zs) (List.length zs)] wx fun e w' => ∃ r os, e = .returned (.tuple #[.slice r (List.length os) (List.length os), .int .i64 0]) ∧ Ans wx.heap.size w' r os (m * 2 ^ k * 5 ^ n) ∧ Below wx.heap.size wx w') := by
    rintro wx p r os zs ⟨B, A⟩ ⟨B', A'⟩
    have s := mul_ok p r _ _ _ _ os zs wx (A.argT r1) (A'.argT r5) (A.tsT r1) (A'.tsT r5) (by rw [A.2.2.2.1, A'.2.2.2.1]; exact Int.lt_trans rT (fp10_pw (by omega)))
    rw [A.2.2.2.1, A'.2.2.2.1] at s
    exact s
  have DG : Hid (∀ (wx : World) (r : Option Addr) (zs : List Int) (B : Nat), Ans B wx r zs (m * 2 ^ k * 5 ^ n) → Calls Tryz.prog 77 #[.slice r (List.length zs) (List.length zs)] wx fun e w' => ∃ s xs, e = .returned (.tuple #[.string s, .int .i64 0]) ∧ DigZ (m * 2 ^ k * 5 ^ n) s xs ∧ Below wx.heap.size wx w') :=
    fun wx r zs B A => zdigits_any r zs B _ wx (20 + n + k) A (Int.mul_nonneg (Int.mul_nonneg h0 (Int.le_of_lt tp)) (Int.le_of_lt fp)) (by omega) rT
  have NM : Hid (∀ (wx : World) (s : ByteArray) (xs : List Int), DigZ (m * 2 ^ k * 5 ^ n) s xs → Calls Tryz.prog 45 #[.string s, .int .i64 (min e 0)] wx fun r w' => ∃ v, r = .returned v ∧ DecIs v (Sh.dd (m * 2 ^ (e + 1075).toNat * Sh.T5)) ∧ Below wx.heap.size wx w') := by
    intro wx s xs D
    have h := znormal_any s xs (min e 0) wx D.str D.digs D.ne (by omega) (by omega) (by have := D.len; omega)
    rw [D.val, ← hk, ← hn, zunits e0] at h
    exact h
  have Z := FR3.new w (.bool false) (.string ⟨#[]⟩) (.int .i64 0)
  have ZB := hid (alloc_b w (.cells #[.bool false, .string ⟨#[]⟩, .int .i64 0] 28))
  have HZ : Hid (FR3 (w.alloc (.cells #[.bool false, .string ⟨#[]⟩, .int .i64 0] 28)) w.heap.size (.bool false) (.string ⟨#[]⟩) (.int .i64 0) ∧ w.heap.size < (w.alloc (.cells #[.bool false, .string ⟨#[]⟩, .int .i64 0] 28)).heap.size) := ⟨Z, Z.lt⟩
  have mk : m * 2 ^ k = m * 2 ^ k := rfl
  generalize Sh.dd (m * 2 ^ (e + 1075).toNat * Sh.T5) = DD at *
  generalize m * 2 ^ k * 5 ^ n = T at *
  clear rT tp fp r1 r5 Z h0 mk
  rcases (show 0 < e ∨ e ≤ 0 by omega) with c | c
  · have hke : e = (k : Int) := by omega
    have hn0 : n = 0 := by omega
    subst hke
    subst hn0
    rw [show min (k : Int) 0 = 0 by omega] at NM
    rw [show ((0 : Nat) : Int) = 0 from rfl] at PW
    clear hk hn e0
    go_enter Tryz.func41, Tryz.ntmps41
    go_wp2_with fail
    refine (FU.out _).mono ?_
    rintro e w1 ⟨p, os, rfl, A1, B1⟩
    have S1 := hid (SH.out _ _ _ _ A1)
    have HB1 := hid B1
    clear A1 B1 SH FU
    go_wp2_with fail
    refine S1.out.mono ?_
    rintro e w2 ⟨r2, z2, rfl, A2, B2⟩
    have SA : Hid (∀ wx, Below w2.heap.size w2 wx → ∃ B, Ans B wx r2 z2 (m * 2 ^ k)) := fun wx h => ⟨_, A2.below h (Nat.le_refl _)⟩
    have HB2 := hid (HB1.out.trans (B2.mono HB1.out.size))
    clear A2 B2 S1 HB1
    go_wp2_with fail
    refine (PW.out _).mono ?_
    rintro e w3 ⟨r3, z3, rfl, A3, B3⟩
    have M3 := hid (MU.out _ _ _ _ _ (SA.out _ B3) ⟨_, A3⟩)
    have HB3 := hid (HB2.out.trans (B3.mono HB2.out.size))
    clear A3 B3 PW SA HB2 MU
    go_wp2_with fail
    refine M3.out.mono ?_
    rintro e w4 ⟨r4, z4, rfl, A4, B4⟩
    have D4 := hid (DG.out _ _ _ _ A4)
    have HB4 := hid (HB3.out.trans (B4.mono HB3.out.size))
    clear A4 B4 M3 HB3 DG
    go_wp2_with fail
    refine D4.out.mono ?_
    rintro e w5 ⟨s, xs, rfl, D5, B5⟩
    have N5 := hid (NM.out w5 s xs D5)
    have HB5 := hid (HB4.out.trans (B5.mono HB4.out.size))
    clear D5 B5 D4 HB4 NM
    go_wp2_with fail
    refine N5.out.mono ?_
    rintro e w6 ⟨v, rfl, ⟨t, hv, ht⟩, B6⟩
    unfold decV at hv
    subst hv
    have HB6 := hid (HB5.out.trans (B6.mono HB5.out.size))
    have R6 := hid (HZ.out.1.below HB6.out HZ.out.2)
    obtain ⟨⟨c0, c1, c2⟩, f0, f1, f2⟩ := R6.out.cells
    have G6 : Hid (∃ v, Ending.returned (.agg #[.bool DD.neg, .string t, .int .i64 DD.e]) = .returned v ∧ DecIs v DD) := ⟨_, rfl, t, rfl, ht⟩
    clear B6 N5 HB5 ht
    go_wp2_with fail
    (try simp only [Exit.inBlock, Exit.then])
    refine bodyPost_ret (results_cell_row rfl _ _ w.heap.size 28 _ (0, 0) _ rfl (R6.out.put _ _ _) Tryz.underlying28 rfl (by kernel_rfl)) rfl ?_
    obtain ⟨v, h1, h2⟩ := G6.out
    exact ⟨v, h1, h2, fset3_below (ZB.out.trans (HB6.out.mono ZB.out.size)) (Nat.le_refl _)⟩
  · have hk0 : k = 0 := by omega
    subst hk0
    rw [show min e 0 = e by omega] at NM
    rw [show ((n : Nat) : Int) = -e by omega] at PW
    clear hk SH
    go_enter Tryz.func41, Tryz.ntmps41
    go_wp2_with fail
    refine (FU.out _).mono ?_
    rintro e' w2 ⟨r2, z2, rfl, A2, B2⟩
    have SA : Hid (∀ wx, Below w2.heap.size w2 wx → ∃ B, Ans B wx r2 z2 (m * 2 ^ 0)) := fun wx h => ⟨_, by rw [Int.pow_zero, Int.mul_one]; exact A2.below h (Nat.le_refl _)⟩
    have HB2 := hid B2
    clear A2 B2 FU
    go_wp2_with fail
    refine (PW.out _).mono ?_
    rintro e9 w3 ⟨r3, z3, rfl, A3, B3⟩
    have M3 := hid (MU.out _ _ _ _ _ (SA.out _ B3) ⟨_, A3⟩)
    have HB3 := hid (HB2.out.trans (B3.mono HB2.out.size))
    clear A3 B3 PW SA HB2 MU
    go_wp2_with fail
    refine M3.out.mono ?_
    rintro e9 w4 ⟨r4, z4, rfl, A4, B4⟩
    have D4 := hid (DG.out _ _ _ _ A4)
    have HB4 := hid (HB3.out.trans (B4.mono HB3.out.size))
    clear A4 B4 M3 HB3 DG
    go_wp2_with fail
    refine D4.out.mono ?_
    rintro e9 w5 ⟨s, xs, rfl, D5, B5⟩
    have N5 := hid (NM.out w5 s xs D5)
    have HB5 := hid (HB4.out.trans (B5.mono HB4.out.size))
    clear D5 B5 D4 HB4 NM
    go_wp2_with fail
    refine N5.out.mono ?_
    rintro e9 w6 ⟨v, rfl, ⟨t, hv, ht⟩, B6⟩
    unfold decV at hv
    subst hv
    have HB6 := hid (HB5.out.trans (B6.mono HB5.out.size))
    have R6 := hid (HZ.out.1.below HB6.out HZ.out.2)
    obtain ⟨⟨c0, c1, c2⟩, f0, f1, f2⟩ := R6.out.cells
    have G6 : Hid (∃ v, Ending.returned (.agg #[.bool DD.neg, .string t, .int .i64 DD.e]) = .returned v ∧ DecIs v DD) := ⟨_, rfl, t, rfl, ht⟩
    clear B6 N5 HB5 ht
    go_wp2_with fail
    (try simp only [Exit.inBlock, Exit.then])
    refine bodyPost_ret (results_cell_row rfl _ _ w.heap.size 28 _ (0, 0) _ rfl (R6.out.put _ _ _) Tryz.underlying28 rfl (by kernel_rfl)) rfl ?_
    obtain ⟨v, h1, h2⟩ := G6.out
    exact ⟨v, h1, h2, fset3_below (ZB.out.trans (HB6.out.mono ZB.out.size)) (Nat.le_refl _)⟩
end Go.Proofs.YtonnlimmjelldaaGreatDoor

/-
  ieee: Neg.
-/
namespace Go.Proofs.YtonnlimmjelldaaGreatDoor
open Go Go.RowKit Go.Deep

set_option maxRecDepth 100000 in
theorem neg_any (d : Int) (w : World) (h0 : 0 ≤ d) (h1 : d < 18446744073709551616) :
    Calls Tryz.prog 78 #[.int .u64 d] w fun e w' => e = .returned (.int .u64 (Ie.ng d)) ∧ w' = w := by
  have B : bits .xor .u64 d 9223372036854775808 = Ie.ng d := Ib.sign_xor d h0 h1
  go_enter Tryz.func78, Tryz.ntmps78
  go_wp2
  go_ret
  exact ⟨rfl, rfl⟩
end Go.Proofs.YtonnlimmjelldaaGreatDoor

/-
  ieee: the order of doubles, in numbers.
-/
namespace Go.Proofs.YtonnlimmjelldaaGreatDoor
open Go Go.RowKit Go.Deep

namespace Ie
/-- No NaN. -/
def okd (d : Int) : Bool := decide (d % 9223372036854775808 ≤ 9218868437227405312)
/-- The rank. -/
def rk (d : Int) : Int := if d < 9223372036854775808 then d else 9223372036854775808 - d
theorem cls4 (d : Int) : cls d = 4 ↔ okd d = false := by
  rw [okd, decide_eq_false_iff_not, cls]
  by_cases a : fld d = 0
  · rw [if_pos a]
    simp only [fld] at a
    by_cases b : d % 4503599627370496 = 0
    · rw [if_pos b]; omega
    · rw [if_neg b]; omega
  · rw [if_neg a]
    by_cases c : fld d = 2047
    · rw [if_pos c]
      simp only [fld] at a c
      by_cases b : d % 4503599627370496 = 0
      · rw [if_pos b]; omega
      · rw [if_neg b]; omega
    · rw [if_neg c]
      simp only [fld] at a c
      omega
/-- Rank's number. -/
def rkv (d : Int) : Int := if okd d = true then rk d else 0
/-- The next one above. -/
def upd (d : Int) : Int :=
  if okd d = false then 9221120237041090560 else if d = 9218868437227405312 then d else if d = 9223372036854775808 then 1 else if 9223372036854775808 < d then d - 1 else d + 1
/-- The next one below. -/
def dnd (d : Int) : Int := if okd d = false then 9221120237041090560 else ng (upd (ng d))
/-- The double at a rank. -/
def atr (i : Int) : Int := if i < 0 then 9223372036854775808 - i else i
end Ie

theorem ret_i64b {a b : Int} {c d : Bool} (h : a = b) (k : c = d) : Ending.returned (.tuple #[.int .i64 a, .bool c]) = .returned (.tuple #[.int .i64 b, .bool d]) := by rw [h, k]
theorem ret_u64b {a b : Int} {c d : Bool} (h : a = b) (k : c = d) : Ending.returned (.tuple #[.int .u64 a, .bool c]) = .returned (.tuple #[.int .u64 b, .bool d]) := by rw [h, k]
end Go.Proofs.YtonnlimmjelldaaGreatDoor

/-
  ieee: Up, Down.
-/
namespace Go.Proofs.YtonnlimmjelldaaGreatDoor
open Go Go.RowKit Go.Deep

set_option maxRecDepth 100000 in
set_option maxHeartbeats 2000000 in
theorem up_any (d : Int) (w : World) (h0 : 0 ≤ d) (h1 : d < 18446744073709551616) :
    Calls Tryz.prog 79 #[.int .u64 d] w fun e w' => e = .returned (.int .u64 (Ie.upd d)) ∧ w' = w := by
  have B := Ib.sign_and d h0 h1
  have CL := hid (class_any d w h0 h1)
  have c4 := Ie.cls4 d
  obtain ⟨c, hc⟩ : ∃ c, Ie.cls d = c := ⟨_, rfl⟩
  rw [hc] at CL c4
  obtain ⟨sv, hsv⟩ : ∃ sv, d / 9223372036854775808 * 9223372036854775808 = sv := ⟨_, rfl⟩
  rw [hsv] at B
  by_cases hn : c = 4
  · have E : Hid (9221120237041090560 = Ie.upd d) := by rw [Hid, Ie.upd, if_pos (c4.1 hn)]
    subst hn
    clear hc hsv c4
    go_enter Tryz.func79, Tryz.ntmps79
    go_wp2_with fail
    refine CL.out.mono ?_
    rintro e w' ⟨rfl, rfl⟩
    go_wp2_with fail
    go_ret
    exact ⟨i_retU E.out, rfl⟩
  · have ok : Ie.okd d = true := by
      cases h : Ie.okd d
      · exact absurd (c4.2 h) hn
      · rfl
    have hn' : (c == 4) = false := by rw [beq_eq_false_iff_ne]; exact hn
    have E0 : Ie.upd d = if d = 9218868437227405312 then d else if d = 9223372036854775808 then 1 else if 9223372036854775808 < d then d - 1 else d + 1 := by rw [Ie.upd, ok, if_neg (by decide)]
    by_cases e1 : d = 9218868437227405312
    · subst e1
      rw [if_pos rfl] at E0
      have E := hid E0
      clear hc hsv c4 ok E0 hn
      go_enter Tryz.func79, Tryz.ntmps79
      go_wp2_with fail
      refine CL.out.mono ?_
      rintro e w' ⟨rfl, rfl⟩
      go_wp2_with fail
      go_ret
      exact ⟨i_retU E.out.symm, rfl⟩
    · have e1' : (d == 9218868437227405312) = false := by rw [beq_eq_false_iff_ne]; exact e1
      rw [if_neg e1] at E0
      by_cases e2 : d = 9223372036854775808
      · subst e2
        rw [if_pos rfl] at E0
        have E := hid E0
        clear hc hsv c4 ok E0 hn
        go_enter Tryz.func79, Tryz.ntmps79
        go_wp2_with fail
        refine CL.out.mono ?_
        rintro e w' ⟨rfl, rfl⟩
        go_wp2_with fail
        go_ret
        exact ⟨i_retU E.out.symm, rfl⟩
      · have e2' : (d == 9223372036854775808) = false := by rw [beq_eq_false_iff_ne]; exact e2
        rw [if_neg e2] at E0
        by_cases e3 : 9223372036854775808 < d
        · rw [if_pos e3] at E0
          have E := hid E0
          have hz : sv = 9223372036854775808 := by omega
          subst hz
          clear hc hsv c4 ok E0 hn e1 e2
          go_enter Tryz.func79, Tryz.ntmps79
          go_wp2_with fail
          refine CL.out.mono ?_
          rintro e w' ⟨rfl, rfl⟩
          go_wp2_with fail
          go_ret
          exact ⟨i_retU E.out.symm, rfl⟩
        · rw [if_neg e3] at E0
          have E := hid E0
          have hz : sv = 0 := by omega
          subst hz
          have lt : d < 9223372036854775808 := by omega
          clear hc hsv c4 ok E0 hn e1 e2 e3
          go_enter Tryz.func79, Tryz.ntmps79
          go_wp2_with fail
          refine CL.out.mono ?_
          rintro e w' ⟨rfl, rfl⟩
          go_wp2_with fail
          go_ret
          exact ⟨i_retU E.out.symm, rfl⟩

end Go.Proofs.YtonnlimmjelldaaGreatDoor

/-
  ieee: Down.
-/
namespace Go.Proofs.YtonnlimmjelldaaGreatDoor
open Go Go.RowKit Go.Deep

theorem Ie.ng_bd (d : Int) (h0 : 0 ≤ d) (h1 : d < 18446744073709551616) : 0 ≤ Ie.ng d ∧ Ie.ng d < 18446744073709551616 := by
  simp only [Ie.ng]; split <;> omega

theorem Ie.upd_bd (d : Int) (h0 : 0 ≤ d) (h1 : d < 18446744073709551616) : 0 ≤ Ie.upd d ∧ Ie.upd d < 18446744073709551616 := by
  simp only [Ie.upd]
  split
  · omega
  · split
    · omega
    · split
      · omega
      · split <;> omega

set_option maxRecDepth 100000 in
set_option maxHeartbeats 2000000 in
theorem down_any (d : Int) (w : World) (h0 : 0 ≤ d) (h1 : d < 18446744073709551616) :
    Calls Tryz.prog 43 #[.int .u64 d] w fun e w' => e = .returned (.int .u64 (Ie.dnd d)) ∧ w' = w := by
  have CL := hid (class_any d w h0 h1)
  have c4 := Ie.cls4 d
  obtain ⟨c, hc⟩ : ∃ c, Ie.cls d = c := ⟨_, rfl⟩
  rw [hc] at CL c4
  by_cases hn : c = 4
  · have E : Hid (9221120237041090560 = Ie.dnd d) := by rw [Hid, Ie.dnd, if_pos (c4.1 hn)]
    subst hn
    clear hc c4
    go_enter Tryz.func43, Tryz.ntmps43
    go_wp2_with fail
    refine CL.out.mono ?_
    rintro e w' ⟨rfl, rfl⟩
    go_wp2_with fail
    go_ret
    exact ⟨i_retU E.out, rfl⟩
  · have ok : Ie.okd d = true := by
      cases h : Ie.okd d
      · exact absurd (c4.2 h) hn
      · rfl
    have hn' : (c == 4) = false := by rw [beq_eq_false_iff_ne]; exact hn
    have E : Hid (Ie.dnd d = Ie.ng (Ie.upd (Ie.ng d))) := by rw [Hid, Ie.dnd, ok, if_neg (by decide)]
    have b1 := Ie.ng_bd d h0 h1
    have b2 := Ie.upd_bd _ b1.1 b1.2
    have N1 := hid (neg_any d w h0 h1)
    have U1 := hid (up_any _ w b1.1 b1.2)
    have N2 := hid (neg_any _ w b2.1 b2.2)
    clear hc c4 ok hn b1 b2
    go_enter Tryz.func43, Tryz.ntmps43
    go_wp2_with fail
    refine CL.out.mono ?_
    rintro e w' ⟨rfl, rfl⟩
    go_wp2_with fail
    refine N1.out.mono ?_
    rintro e w' ⟨rfl, rfl⟩
    go_wp2_with fail
    refine U1.out.mono ?_
    rintro e w' ⟨rfl, rfl⟩
    go_wp2_with fail
    refine N2.out.mono ?_
    rintro e w' ⟨rfl, rfl⟩
    go_wp2_with fail
    go_ret
    exact ⟨i_retU E.out.symm, rfl⟩
end Go.Proofs.YtonnlimmjelldaaGreatDoor

/-
  ieee: Abs.
-/
namespace Go.Proofs.YtonnlimmjelldaaGreatDoor
open Go Go.RowKit Go.Deep

set_option maxRecDepth 100000 in
theorem abs_any (d : Int) (w : World) (h0 : 0 ≤ d) (h1 : d < 18446744073709551616) :
    Calls Tryz.prog 39 #[.int .u64 d] w fun e w' => e = .returned (.int .u64 (d % 9223372036854775808)) ∧ w' = w := by
  have B := Ib.sign_andNot d h0 h1
  go_enter Tryz.func39, Tryz.ntmps39
  go_wp2
  go_ret
  exact ⟨rfl, rfl⟩
end Go.Proofs.YtonnlimmjelldaaGreatDoor

namespace Go.Proofs.YtonnlimmjelldaaGreatDoor
open Go Go.RowKit Go.Deep

/-- A block's cells. -/
def RB (w : World) (b t : Nat) (cs : Array Value) : Prop := w.heap[b]? = some (.cells cs t (0, 0))
theorem RB.new (w : World) (t : Nat) (cs : Array Value) : RB (w.alloc (.cells cs t)) w.heap.size t cs := heap_alloc_new w _
theorem RB.below {B : Nat} {w w' : World} {b t : Nat} {cs : Array Value} (h : RB w b t cs) (hB : Below B w w') (hb : b < B) : RB w' b t cs := by
  rw [RB, hB.block b hb]; exact h
theorem RB.lt {w : World} {b t : Nat} {cs : Array Value} (h : RB w b t cs) : b < w.heap.size := by
  rcases Nat.lt_or_ge b w.heap.size with hl | hl
  · exact hl
  · simp [RB, Array.getElem?_eq_none hl] at h
theorem RB.cell {w : World} {b t : Nat} {cs : Array Value} (h : RB w b t cs) (i : Nat) (v : Value) (hi : cs[i]? = some v) : w.cell? ⟨b, i, none⟩ = some v := by
  simp only [RB] at h
  simp [World.cell?, h, hi]
theorem RB.free {w : World} {b t : Nat} {cs : Array Value} (h : RB w b t cs) (i : Nat) : w.frozen? ⟨b, i, none⟩ = false := by
  simp only [RB] at h
  simp [World.frozen?, h]
theorem RB.far {w : World} {b c o t : Nat} {v : Value} {cs : Array Value} (h : RB w b t cs) (hc : c ≠ b) : RB (w.setCell ⟨c, o, none⟩ v) b t cs := by
  simp only [RB] at *
  simp only [World.setCell, Array.getElem?_modify]
  rw [if_neg hc]; exact h
theorem RB.set {w : World} {b t : Nat} {cs : Array Value} (h : RB w b t cs) (o : Nat) (v : Value) : RB (w.setCell ⟨b, o, none⟩ v) b t (cs.setIfInBounds o v) := fset1 h rfl

def cells10 (a0 a1 a2 b0 b1 b2 c0 c1 c2 d : Value) : Array Value := #[a0, a1, a2, b0, b1, b2, c0, c1, c2, d]
def Ten (w : World) (b : Nat) (a0 a1 a2 b0 b1 b2 c0 c1 c2 d : Value) : Prop := RB w b 44 #[a0, a1, a2, b0, b1, b2, c0, c1, c2, d]
theorem Ten.cells {w : World} {b : Nat} {a0 a1 a2 b0 b1 b2 c0 c1 c2 d : Value} (h : Ten w b a0 a1 a2 b0 b1 b2 c0 c1 c2 d) :
    (w.cell? ⟨b, 0, none⟩ = some a0 ∧ w.cell? ⟨b, 1, none⟩ = some a1 ∧ w.cell? ⟨b, 2, none⟩ = some a2) ∧ (w.cell? ⟨b, 3, none⟩ = some b0 ∧ w.cell? ⟨b, 4, none⟩ = some b1 ∧ w.cell? ⟨b, 5, none⟩ = some b2) ∧ (w.cell? ⟨b, 6, none⟩ = some c0 ∧ w.cell? ⟨b, 7, none⟩ = some c1 ∧ w.cell? ⟨b, 8, none⟩ = some c2) ∧ w.cell? ⟨b, 9, none⟩ = some d :=
  ⟨⟨h.cell 0 _ rfl, h.cell 1 _ rfl, h.cell 2 _ rfl⟩, ⟨h.cell 3 _ rfl, h.cell 4 _ rfl, h.cell 5 _ rfl⟩, ⟨h.cell 6 _ rfl, h.cell 7 _ rfl, h.cell 8 _ rfl⟩, h.cell 9 _ rfl⟩
theorem Ten.free {w : World} {b : Nat} {a0 a1 a2 b0 b1 b2 c0 c1 c2 d : Value} (h : Ten w b a0 a1 a2 b0 b1 b2 c0 c1 c2 d) :
    (w.frozen? ⟨b, 0, none⟩ = false ∧ w.frozen? ⟨b, 1, none⟩ = false ∧ w.frozen? ⟨b, 2, none⟩ = false) ∧ (w.frozen? ⟨b, 3, none⟩ = false ∧ w.frozen? ⟨b, 4, none⟩ = false ∧ w.frozen? ⟨b, 5, none⟩ = false) ∧ (w.frozen? ⟨b, 6, none⟩ = false ∧ w.frozen? ⟨b, 7, none⟩ = false ∧ w.frozen? ⟨b, 8, none⟩ = false) ∧ w.frozen? ⟨b, 9, none⟩ = false :=
  ⟨⟨RB.free h 0, RB.free h 1, RB.free h 2⟩, ⟨RB.free h 3, RB.free h 4, RB.free h 5⟩, ⟨RB.free h 6, RB.free h 7, RB.free h 8⟩, RB.free h 9⟩
theorem Ten.put {w : World} {b : Nat} {a0 a1 a2 b0 b1 b2 c0 c1 c2 d : Value} (h : Ten w b a0 a1 a2 b0 b1 b2 c0 c1 c2 d) (x0 x1 x2 y0 y1 y2 z0 z1 z2 u : Value) :
    Ten ((((((((((w.setCell ⟨b, 0, none⟩ x0).setCell ⟨b, 1, none⟩ x1).setCell ⟨b, 2, none⟩ x2).setCell ⟨b, 3, none⟩ y0).setCell ⟨b, 4, none⟩ y1).setCell ⟨b, 5, none⟩ y2).setCell ⟨b, 6, none⟩ z0).setCell ⟨b, 7, none⟩ z1).setCell ⟨b, 8, none⟩ z2).setCell ⟨b, 9, none⟩ u) b x0 x1 x2 y0 y1 y2 z0 z1 z2 u := by
  have h0 := fset1 (o := 0) (v := x0) (c' := #[x0, a1, a2, b0, b1, b2, c0, c1, c2, d]) h (by simp [Array.setIfInBounds])
  have h1 := fset1 (o := 1) (v := x1) (c' := #[x0, x1, a2, b0, b1, b2, c0, c1, c2, d]) h0 (by simp [Array.setIfInBounds])
  have h2 := fset1 (o := 2) (v := x2) (c' := #[x0, x1, x2, b0, b1, b2, c0, c1, c2, d]) h1 (by simp [Array.setIfInBounds])
  have h3 := fset1 (o := 3) (v := y0) (c' := #[x0, x1, x2, y0, b1, b2, c0, c1, c2, d]) h2 (by simp [Array.setIfInBounds])
  have h4 := fset1 (o := 4) (v := y1) (c' := #[x0, x1, x2, y0, y1, b2, c0, c1, c2, d]) h3 (by simp [Array.setIfInBounds])
  have h5 := fset1 (o := 5) (v := y2) (c' := #[x0, x1, x2, y0, y1, y2, c0, c1, c2, d]) h4 (by simp [Array.setIfInBounds])
  have h6 := fset1 (o := 6) (v := z0) (c' := #[x0, x1, x2, y0, y1, y2, z0, c1, c2, d]) h5 (by simp [Array.setIfInBounds])
  have h7 := fset1 (o := 7) (v := z1) (c' := #[x0, x1, x2, y0, y1, y2, z0, z1, c2, d]) h6 (by simp [Array.setIfInBounds])
  have h8 := fset1 (o := 8) (v := z2) (c' := #[x0, x1, x2, y0, y1, y2, z0, z1, z2, d]) h7 (by simp [Array.setIfInBounds])
  have h9 := fset1 (o := 9) (v := u) (c' := #[x0, x1, x2, y0, y1, y2, z0, z1, z2, u]) h8 (by simp [Array.setIfInBounds])
  exact h9
theorem set10_below {B : Nat} {w w' : World} {b : Nat} {x0 x1 x2 y0 y1 y2 z0 z1 z2 u : Value} (h : Below B w w') (hb : B ≤ b) : Below B w ((((((((((w'.setCell ⟨b, 0, none⟩ x0).setCell ⟨b, 1, none⟩ x1).setCell ⟨b, 2, none⟩ x2).setCell ⟨b, 3, none⟩ y0).setCell ⟨b, 4, none⟩ y1).setCell ⟨b, 5, none⟩ y2).setCell ⟨b, 6, none⟩ z0).setCell ⟨b, 7, none⟩ z1).setCell ⟨b, 8, none⟩ z2).setCell ⟨b, 9, none⟩ u) :=
  (fset3_below h hb).setCell (p := ⟨b, 3, none⟩) hb y0 |>.setCell (p := ⟨b, 4, none⟩) hb y1 |>.setCell (p := ⟨b, 5, none⟩) hb y2 |>.setCell (p := ⟨b, 6, none⟩) hb z0 |>.setCell (p := ⟨b, 7, none⟩) hb z1 |>.setCell (p := ⟨b, 8, none⟩) hb z2 |>.setCell (p := ⟨b, 9, none⟩) hb u

namespace Ie
theorem dec_fin2 (x : Int) (h0 : 0 < x) (h1 : x < 9218868437227405312) : dm x = man x ∧ de x = (ex x : Int) - 1074 := by
  have hf : fld x = x / 4503599627370496 := by simp only [fld]; omega
  by_cases hs : x < 4503599627370496
  · have c : cls x = 1 := by
      rw [cls, hf, if_pos (by omega), if_neg (by omega)]
    constructor
    · rw [dm, c, if_neg (by omega), if_pos (by omega), man, if_pos hs]; omega
    · rw [de, c, if_neg (by omega), if_pos rfl, ex]; omega
  · have c : cls x = 2 := by
      rw [cls, hf, if_neg (by omega), if_neg (by omega)]
    constructor
    · rw [dm, c, if_pos rfl, man, if_neg hs]
    · rw [de, c, if_pos rfl, ex, hf]; omega
end Ie
theorem Sh.zB0 : (1 : Int) * 2 ^ ((-1075 : Int) + 1075).toNat * Sh.T5 = Sh.B 0 := by rw [Sh.B, Ie.md_zero]; rfl
theorem Sh.zB {a : Int} : (2 * Ie.man a + 1) * 2 ^ ((Ie.ex a : Int) - 1074 - 1 + 1075).toNat * Sh.T5 = Sh.B a := by
  rw [Sh.B, Ie.md, show ((Ie.ex a : Int) - 1074 - 1 + 1075).toNat = Ie.ex a by omega]
theorem Sh.zV {a : Int} : Ie.man a * 2 ^ ((Ie.ex a : Int) - 1074 + 1075).toNat * Sh.T5 = Sh.V a := by
  rw [Sh.V, Ie.vl, show ((Ie.ex a : Int) - 1074 + 1075).toNat = Ie.ex a + 1 by omega, Int.pow_succ]
  generalize (2 : Int) ^ Ie.ex a = y
  generalize Sh.T5 = z
  congr 1
  rw [Int.mul_comm y 2, ← Int.mul_assoc, Int.mul_comm (Ie.man a) 2]
theorem Sh.ex_le {a : Int} (h : a < 9218868437227405312) : (Ie.ex a : Int) ≤ 2045 := by unfold Ie.ex; omega
theorem Sh.cls0 : Ie.cls 0 = 0 ∧ Ie.dm 0 = 0 ∧ Ie.de 0 = 0 := by decide
theorem Sh.clsP {a : Int} (h0 : 0 < a) (h1 : a < 9218868437227405312) : (Ie.cls a == 0) = false ∧ (Ie.cls a != 0) = true := by
  have : Ie.cls a ≠ 0 := by
    unfold Ie.cls Ie.fld
    split
    · split
      · omega
      · omega
    · split
      · split <;> omega
      · omega
  simp [this]

set_option maxRecDepth 100000 in
set_option maxHeartbeats 4000000 in
theorem zhalfway_any (a : Int) (w : World) (h0 : 0 ≤ a) (h1 : a < 9218868437227405312) :
    Calls Tryz.prog 42 #[.int .u64 a] w fun r w' => ∃ v, r = .returned v ∧ DecIs v (Sh.dd (Sh.B a)) ∧ Below w.heap.size w w' := by
  have D := hid (fun wx : World => decode_any a wx h0 (by omega))
  have Z := FR3.new w (.bool false) (.string ⟨#[]⟩) (.int .i64 0)
  have ZB := hid (alloc_b w (.cells #[.bool false, .string ⟨#[]⟩, .int .i64 0] 28))
  have HZ : Hid (FR3 (w.alloc (.cells #[.bool false, .string ⟨#[]⟩, .int .i64 0] 28)) w.heap.size (.bool false) (.string ⟨#[]⟩) (.int .i64 0) ∧ w.heap.size < (w.alloc (.cells #[.bool false, .string ⟨#[]⟩, .int .i64 0] 28)).heap.size) := ⟨Z, Z.lt⟩
  simp only [partsOf] at D
  clear Z
  rcases (show a = 0 ∨ 0 < a by omega) with ha | ha
  · subst ha
    have EX := hid (fun wx : World => zexact_any 1 (-1075) wx (by omega) (by omega) (by omega) (by omega))
    rw [Sh.zB0] at EX
    obtain ⟨k1, k2, k3⟩ := Sh.cls0
    rw [k1, k2, k3] at D
    clear k1 k2 k3 h0 h1
    generalize Sh.dd (Sh.B 0) = DD at *
    generalize decide (9223372036854775808 ≤ (0 : Int)) = neg at *
    go_enter Tryz.func42, Tryz.ntmps42
    go_wp2_with fail
    refine (D.out _).mono ?_
    rintro e w1 ⟨rfl, B1⟩
    have HB1 := hid B1
    clear B1 D
    go_wp2_with fail
    refine (EX.out _).mono ?_
    rintro e w2 ⟨v, rfl, ⟨t, hv, ht⟩, B2⟩
    unfold decV at hv
    subst hv
    have HB6 := hid (HB1.out.trans (((alloc_b w1 _).trans (B2.mono (alloc_b w1 _).size)).mono HB1.out.size))
    have R6 := hid (HZ.out.1.below HB6.out HZ.out.2)
    obtain ⟨⟨c0, c1, c2⟩, f0, f1, f2⟩ := R6.out.cells
    have G6 : Hid (∃ v, Ending.returned (.agg #[.bool DD.neg, .string t, .int .i64 DD.e]) = .returned v ∧ DecIs v DD) := ⟨_, rfl, t, rfl, ht⟩
    clear B2 EX ht HB1
    go_wp2_with fail
    (try simp only [Exit.inBlock, Exit.then])
    refine bodyPost_ret (results_cell_row rfl _ _ w.heap.size 28 _ (0, 0) _ rfl (R6.out.put _ _ _) Tryz.underlying28 rfl (by kernel_rfl)) rfl ?_
    obtain ⟨v, h1, h2⟩ := G6.out
    exact ⟨v, h1, h2, fset3_below (ZB.out.trans (HB6.out.mono ZB.out.size)) (Nat.le_refl _)⟩
  · obtain ⟨k2, k3⟩ := Ie.dec_fin2 a ha h1
    obtain ⟨k4, k5⟩ := Sh.clsP ha h1
    have xb := Sh.ex_le h1
    have mb := Ie.man_nn a h0
    rw [k2, k3] at D
    have EX := hid (fun wx : World => zexact_any (2 * Ie.man a + 1) ((Ie.ex a : Int) - 1074 - 1) wx (by omega) (by omega) (by omega) (by omega))
    rw [Sh.zB] at EX
    have xb0 : (0 : Int) ≤ (Ie.ex a : Int) := by omega
    clear k2 k3 h0 h1 ha
    generalize Sh.dd (Sh.B a) = DD at *
    generalize decide (9223372036854775808 ≤ a) = neg at *
    generalize Ie.cls a = c at *
    generalize Ie.man a = m at *
    generalize (Ie.ex a : Int) = x at *
    go_enter Tryz.func42, Tryz.ntmps42
    go_wp2_with fail
    refine (D.out _).mono ?_
    rintro e w1 ⟨rfl, B1⟩
    have HB1 := hid B1
    clear B1 D
    go_wp2_with fail
    refine (EX.out _).mono ?_
    rintro e w2 ⟨v, rfl, ⟨t, hv, ht⟩, B2⟩
    unfold decV at hv
    subst hv
    have HB6 := hid (HB1.out.trans (((alloc_b w1 _).trans (B2.mono (alloc_b w1 _).size)).mono HB1.out.size))
    have R6 := hid (HZ.out.1.below HB6.out HZ.out.2)
    obtain ⟨⟨c0, c1, c2⟩, f0, f1, f2⟩ := R6.out.cells
    have G6 : Hid (∃ v, Ending.returned (.agg #[.bool DD.neg, .string t, .int .i64 DD.e]) = .returned v ∧ DecIs v DD) := ⟨_, rfl, t, rfl, ht⟩
    clear B2 EX ht HB1
    go_wp2_with fail
    (try simp only [Exit.inBlock, Exit.then])
    refine bodyPost_ret (results_cell_row rfl _ _ w.heap.size 28 _ (0, 0) _ rfl (R6.out.put _ _ _) Tryz.underlying28 rfl (by kernel_rfl)) rfl ?_
    obtain ⟨v, h1, h2⟩ := G6.out
    exact ⟨v, h1, h2, fset3_below (ZB.out.trans (HB6.out.mono ZB.out.size)) (Nat.le_refl _)⟩
end Go.Proofs.YtonnlimmjelldaaGreatDoor

/-
  A state as one predicate: what it says of the memory, and that only new memory was written.
-/
namespace Go.Proofs.YtonnlimmjelldaaGreatDoor
open Go Go.RowKit Go.Deep

structure St (S : World → Prop) (w wx : World) : Prop where
  cells : S wx
  bel : Below w.heap.size w wx

def Stays (S : World → Prop) : Prop := ∀ wx w' : World, S wx → Below wx.heap.size wx w' → S w'

theorem St.on {S : World → Prop} {w wx w' : World} (h : St S w wx) (k : Stays S) (hB : Below wx.heap.size wx w') : St S w w' := ⟨k _ _ h.cells hB, h.bel.trans (hB.mono h.bel.size)⟩
theorem St.drew {S : World → Prop} {w wx : World} (h : St S w wx) (k : Stays S) : St S w wx.drew := h.on k ⟨rfl, rfl, rfl, Nat.le_refl _, fun _ _ => rfl⟩
theorem St.more {S T : World → Prop} {w wx w' : World} (h : St S w wx) (k : Stays S) (hB : Below wx.heap.size wx w') (t : T w') : St (fun x => S x ∧ T x) w w' := ⟨⟨k _ _ h.cells hB, t⟩, h.bel.trans (hB.mono h.bel.size)⟩
theorem St.imp {S T : World → Prop} {w wx : World} (h : St S w wx) (k : ∀ x, S x → T x) : St T w wx := ⟨k _ h.cells, h.bel⟩
theorem St.to {S T : World → Prop} {w wx w' : World} (h : St S w wx) (hB : Below wx.heap.size wx w') (t : T w') : St T w w' := ⟨t, h.bel.trans (hB.mono h.bel.size)⟩

theorem Stays.cell (a : Addr) (v : Value) : Stays (fun w => w.cell? a = some v) := fun _ _ h hB => (hB.cell (cell_lt h)).trans h
theorem Stays.and {S T : World → Prop} (h : Stays S) (k : Stays T) : Stays (fun w => S w ∧ T w) := fun _ _ g hB => ⟨h _ _ g.1 hB, k _ _ g.2 hB⟩
theorem Stays.ans (B : Nat) (p : Option Addr) (os : List Int) (v : Int) : Stays (fun w => Ans B w p os v) := fun _ _ h hB => h.below hB (Nat.le_refl _)
theorem Stays.arg (p : Option Addr) (n cap : Nat) (os : List Int) : Stays (fun w => Arg w p n cap os) := fun _ _ h hB => h.below hB (Nat.le_refl _)
theorem Stays.tab : Stays Tab := fun _ _ h hB => h.below hB
theorem Stays.bel (w : World) : Stays (fun x => Below w.heap.size w x) := fun _ _ h hB => h.trans (hB.mono h.size)
theorem Stays.const (p : Prop) : Stays (fun _ => p) := fun _ _ h _ => h

/-- The state under a name of its own. -/
theorem state (S : World → Prop) (w : World) (k : Stays S) : ∃ SS : World → Prop, Hid (∀ wx w' : World, SS wx → Below wx.heap.size wx w' → SS w') ∧ Hid (∀ wx : World, SS wx → S wx) ∧ Hid (∀ wx : World, SS wx → Below w.heap.size w wx) ∧ Hid (∀ wx : World, S wx → Below w.heap.size w wx → SS wx) :=
  ⟨St S w, fun _ _ h hB => h.on k hB, fun _ h => h.cells, fun _ h => h.bel, fun _ h b => ⟨h, b⟩⟩

theorem drew_nil (w : World) : Below w.heap.size w w.drew := ⟨rfl, rfl, rfl, Nat.le_refl _, fun _ _ => rfl⟩
end Go.Proofs.YtonnlimmjelldaaGreatDoor

namespace Go.Proofs.YtonnlimmjelldaaGreatDoor
open Go Go.RowKit Go.Deep

/-- A span: a double, its bounds. -/
def spanV (P A B : Sc.D) (s1 s2 s3 : ByteArray) (c : Bool) : Value := .agg #[.bool P.neg, .string s1, .int .i64 P.e, .bool A.neg, .string s2, .int .i64 A.e, .bool B.neg, .string s3, .int .i64 B.e, .bool c]
def SpanIs (v : Value) (a : Int) : Prop := ∃ s1 s2 s3, v = spanV (Sh.dd (Sh.V a)) (Sh.dd (Sh.A a)) (Sh.dd (Sh.B a)) s1 s2 s3 (decide (a % 2 = 0)) ∧ Str s1 (Sh.dd (Sh.V a)).ds ∧ Str s2 (Sh.dd (Sh.A a)).ds ∧ Str s3 (Sh.dd (Sh.B a)).ds

theorem Sh.dnP {a : Int} (h0 : 0 < a) (h1 : a < 9218868437227405312) : Ie.dnd a = a - 1 := by
  have k : ∀ x : Int, x = a ∨ x = a + 9223372036854775808 → Ie.okd x = true := by
    intro x hx
    unfold Ie.okd
    apply decide_eq_true
    omega
  have n1 : Ie.ng a = a + 9223372036854775808 := by unfold Ie.ng; rw [if_pos (by omega)]
  unfold Ie.dnd
  rw [if_neg (by rw [k a (.inl rfl)]; decide), n1]
  unfold Ie.upd
  rw [if_neg (by rw [k _ (.inr rfl)]; decide), if_neg (by omega), if_neg (by omega), if_pos (by omega)]
  unfold Ie.ng
  rw [if_neg (by omega)]
  omega
theorem dec_open {k : Nat} {vs : Array Value} {D : Sc.D} (h : ∀ wx : World, Calls Tryz.prog k vs wx fun r w' => ∃ v, r = .returned v ∧ DecIs v D ∧ Below wx.heap.size wx w') :
    ∀ wx : World, Calls Tryz.prog k vs wx fun r w' => ∃ t, r = .returned (.agg #[.bool D.neg, .string t, .int .i64 D.e]) ∧ Hid (Str t D.ds) ∧ Below wx.heap.size wx w' := by
  intro wx
  refine (h wx).mono ?_
  rintro e w' ⟨v, rfl, ⟨t, hv, ht⟩, hB⟩
  exact ⟨t, by rw [hv]; rfl, ht, hB⟩
theorem set_far {w : World} {b c o i : Nat} {v : Value} (h : b ≠ c) : (w.setCell ⟨b, o, none⟩ v).cell? ⟨c, i, none⟩ = w.cell? ⟨c, i, none⟩ := by
  simp only [World.setCell, World.cell?, Array.getElem?_modify]
  rw [if_neg h]
theorem Sh.A0 : Sh.A 0 = 0 := by rw [Sh.A, if_pos rfl]
theorem Sh.AP {a : Int} (h : 0 < a) : Sh.A a = Sh.B (a - 1) := by rw [Sh.A, if_neg (by omega)]
theorem Sh.z00 : (0 : Int) * 2 ^ ((0 : Int) + 1075).toNat * Sh.T5 = 0 := by rw [Int.zero_mul, Int.zero_mul]

set_option maxRecDepth 100000 in
set_option maxHeartbeats 1000000 in
theorem zspan_any (d : Int) (w : World) (h0 : 0 ≤ d) (h1 : d < 18446744073709551616) (hf : d % 9223372036854775808 < 9218868437227405312) :
    Calls Tryz.prog 19 #[.int .u64 d] w fun r w' => ∃ v, r = .returned v ∧ SpanIs v (d % 9223372036854775808) ∧ Below w.heap.size w w' := by
  have AB := hid (fun wx : World => abs_any d wx h0 h1)
  obtain ⟨a, ha⟩ : ∃ a, d % 9223372036854775808 = a := ⟨_, rfl⟩
  have a0 : 0 ≤ a := by omega
  rw [ha] at hf AB ⊢
  have D := hid (fun wx : World => decode_any a wx a0 (by omega))
  have E0' := fun wx : World => zexact_any 0 0 wx (by omega) (by omega) (by omega) (by omega)
  rw [Sh.z00] at E0'
  have E0 := hid (dec_open E0')
  clear E0'
  have HI := hid (dec_open (fun wx : World => zhalfway_any a wx a0 hf))
  simp only [partsOf] at D
  have G : Hid (∀ s1 s2 s3, Str s1 (Sh.dd (Sh.V a)).ds → Str s2 (Sh.dd (Sh.A a)).ds → Str s3 (Sh.dd (Sh.B a)).ds → SpanIs (spanV (Sh.dd (Sh.V a)) (Sh.dd (Sh.A a)) (Sh.dd (Sh.B a)) s1 s2 s3 (decide (a % 2 = 0))) a) := fun s1 s2 s3 g1 g2 g3 => ⟨s1, s2, s3, rfl, g1, g2, g3⟩
  have cl : (a.tmod 2 == 0) = decide (a % 2 = 0) := by rw [Int.tmod_eq_emod_of_nonneg a0]; by_cases q : a % 2 = 0 <;> simp [q]
  have TZ : Hid (Ten (w.alloc (.cells #[.bool false, .string ⟨#[]⟩, .int .i64 0, .bool false, .string ⟨#[]⟩, .int .i64 0, .bool false, .string ⟨#[]⟩, .int .i64 0, .bool false] 44)) w.heap.size (.bool false) (.string ⟨#[]⟩) (.int .i64 0) (.bool false) (.string ⟨#[]⟩) (.int .i64 0) (.bool false) (.string ⟨#[]⟩) (.int .i64 0) (.bool false)) := RB.new w 44 _
  have ZB := hid (alloc_b w (.cells #[.bool false, .string ⟨#[]⟩, .int .i64 0, .bool false, .string ⟨#[]⟩, .int .i64 0, .bool false, .string ⟨#[]⟩, .int .i64 0, .bool false] 44))
  clear ha h0 h1
  rcases (show a = 0 ∨ 0 < a by omega) with hz | hp
  · subst hz
    obtain ⟨k1, k2, k3⟩ := Sh.cls0
    rw [k1, k2, k3] at D
    rw [Sh.A0, Sh.V_zero, show decide ((0 : Int) % 2 = 0) = true from rfl] at G
    have EV := E0
    clear k1 k2 k3 hf a0
    generalize decide (9223372036854775808 ≤ (0 : Int)) = neg at *
    generalize Sh.dd 0 = DA at *
    generalize Sh.dd (Sh.B 0) = DB at *
    go_enter Tryz.func19, Tryz.ntmps19
    go_wp2_with fail
    refine (AB.out _).mono ?_
    rintro e wz ⟨rfl, hz⟩
    subst hz
    go_wp2_with fail
    refine (D.out _).mono ?_
    rintro e w1 ⟨rfl, B1⟩
    have PC : Hid ((w1.alloc (.cells #[.bool neg, .int .i64 0, .int .u64 0, .int .i64 0] 67)).cell? ⟨w1.heap.size, 2, none⟩ = some (.int .u64 0) ∧ (w1.alloc (.cells #[.bool neg, .int .i64 0, .int .u64 0, .int .i64 0] 67)).cell? ⟨w1.heap.size, 3, none⟩ = some (.int .i64 0)) := ⟨(RB.new w1 67 _).cell 2 _ rfl, (RB.new w1 67 _).cell 3 _ rfl⟩
    have HS1 : Hid (w.heap.size < w1.heap.size) := Nat.lt_of_lt_of_le (RB.lt TZ.out) B1.size
    have PC0 : Hid ((w1.alloc (.cells #[.bool neg, .int .i64 0, .int .u64 0, .int .i64 0] 67)).cell? ⟨w1.heap.size, 1, none⟩ = some (.int .i64 0)) := (RB.new w1 67 _).cell 1 _ rfl
    have HB1 := hid (B1.trans ((alloc_b w1 (.cells #[.bool neg, .int .i64 0, .int .u64 0, .int .i64 0] 67)).mono B1.size))
    clear B1 D AB
    go_wp2_with fail
    refine (E0.out _).mono ?_
    rintro e w2 ⟨t2, rfl, HT2, B2⟩
    have HB2 := hid (HB1.out.trans (B2.mono HB1.out.size))
    have PC : Hid (w2.cell? ⟨w1.heap.size, 2, none⟩ = some (.int .u64 0) ∧ w2.cell? ⟨w1.heap.size, 3, none⟩ = some (.int .i64 0)) := ⟨(B2.cell (cell_lt PC.out.1)).trans PC.out.1, (B2.cell (cell_lt PC.out.2)).trans PC.out.2⟩
    have HBs : Hid (w.heap.size < w1.heap.size ∧ w1.heap.size < w2.heap.size) := ⟨HS1.out, Nat.lt_of_lt_of_le (RB.lt (RB.new w1 67 _)) B2.size⟩
    have PC1 : Hid (w2.cell? ⟨w1.heap.size, 1, none⟩ = some (.int .i64 0)) := (B2.cell (cell_lt PC0.out)).trans PC0.out
    clear B2 E0 HB1
    have hbL := hid (HB2.out.trans ((alloc_b w2 (.cells #[.bool DA.neg, .string t2, .int .i64 DA.e] 28)).mono HB2.out.size))
    obtain ⟨SS, KS, CS, BS, MS⟩ := state (fun w' => Ten w' w.heap.size (.bool false) (.string ⟨#[]⟩) (.int .i64 0) (.bool false) (.string ⟨#[]⟩) (.int .i64 0) (.bool false) (.string ⟨#[]⟩) (.int .i64 0) (.bool false) ∧ (w'.cell? ⟨w1.heap.size, 2, none⟩ = some (.int .u64 0) ∧ w'.cell? ⟨w1.heap.size, 3, none⟩ = some (.int .i64 0)) ∧ (w'.cell? ⟨w2.heap.size, 0, none⟩ = some (.bool DA.neg) ∧ w'.cell? ⟨w2.heap.size, 1, none⟩ = some (.string t2) ∧ w'.cell? ⟨w2.heap.size, 2, none⟩ = some (.int .i64 DA.e))) w
      (Stays.and (fun _ _ g hB => RB.below g hB (RB.lt g)) (((Stays.cell _ _).and (Stays.cell _ _)).and ((Stays.cell _ _).and ((Stays.cell _ _).and (Stays.cell _ _)))))
    have P3 := FR3.new w2 (.bool DA.neg) (.string t2) (.int .i64 DA.e)
    have aL := alloc_b w2 (.cells #[.bool DA.neg, .string t2, .int .i64 DA.e] 28)
    have S0 := hid (MS.out _ ⟨RB.below TZ.out hbL.out (RB.lt TZ.out), ⟨(aL.cell (cell_lt PC.out.1)).trans PC.out.1, (aL.cell (cell_lt PC.out.2)).trans PC.out.2⟩, P3.cells.1⟩ (ZB.out.trans (hbL.out.mono ZB.out.size)))
    have lt1 : w.heap.size ≠ w1.heap.size := by have := HBs.out; omega
    have lt2 : w.heap.size ≠ w2.heap.size := by have := HBs.out; omega
    obtain ⟨g, hg⟩ : ∃ g : World → Nat → Value, Hid (∀ w' i, g w' i = (w'.cell? ⟨w.heap.size, i, none⟩).getD (.bool false)) := ⟨_, fun _ _ => rfl⟩
    have TG : Hid (∀ (wx : World) (x0 x1 x2 x3 x4 x5 x6 x7 x8 x9 : Value), Ten wx w.heap.size x0 x1 x2 x3 x4 x5 x6 x7 x8 x9 → (wx.cell? ⟨w.heap.size, 0, none⟩ = some (g wx 0) ∧ wx.frozen? ⟨w.heap.size, 0, none⟩ = false) ∧ (wx.cell? ⟨w.heap.size, 1, none⟩ = some (g wx 1) ∧ wx.frozen? ⟨w.heap.size, 1, none⟩ = false) ∧ (wx.cell? ⟨w.heap.size, 2, none⟩ = some (g wx 2) ∧ wx.frozen? ⟨w.heap.size, 2, none⟩ = false) ∧ (wx.cell? ⟨w.heap.size, 3, none⟩ = some (g wx 3) ∧ wx.frozen? ⟨w.heap.size, 3, none⟩ = false) ∧ (wx.cell? ⟨w.heap.size, 4, none⟩ = some (g wx 4) ∧ wx.frozen? ⟨w.heap.size, 4, none⟩ = false) ∧ (wx.cell? ⟨w.heap.size, 5, none⟩ = some (g wx 5) ∧ wx.frozen? ⟨w.heap.size, 5, none⟩ = false) ∧ (wx.cell? ⟨w.heap.size, 6, none⟩ = some (g wx 6) ∧ wx.frozen? ⟨w.heap.size, 6, none⟩ = false) ∧ (wx.cell? ⟨w.heap.size, 7, none⟩ = some (g wx 7) ∧ wx.frozen? ⟨w.heap.size, 7, none⟩ = false) ∧ (wx.cell? ⟨w.heap.size, 8, none⟩ = some (g wx 8) ∧ wx.frozen? ⟨w.heap.size, 8, none⟩ = false) ∧ (wx.cell? ⟨w.heap.size, 9, none⟩ = some (g wx 9) ∧ wx.frozen? ⟨w.heap.size, 9, none⟩ = false)) := by
      intro wx x0 x1 x2 x3 x4 x5 x6 x7 x8 x9 h
      have key : ∀ i v, wx.cell? ⟨w.heap.size, i, none⟩ = some v → wx.cell? ⟨w.heap.size, i, none⟩ = some (g wx i) := fun i v q => by rw [hg.out, q]; rfl
      exact ⟨⟨key 0 _ (RB.cell h 0 _ rfl), RB.free h 0⟩, ⟨key 1 _ (RB.cell h 1 _ rfl), RB.free h 1⟩, ⟨key 2 _ (RB.cell h 2 _ rfl), RB.free h 2⟩, ⟨key 3 _ (RB.cell h 3 _ rfl), RB.free h 3⟩, ⟨key 4 _ (RB.cell h 4 _ rfl), RB.free h 4⟩, ⟨key 5 _ (RB.cell h 5 _ rfl), RB.free h 5⟩, ⟨key 6 _ (RB.cell h 6 _ rfl), RB.free h 6⟩, ⟨key 7 _ (RB.cell h 7 _ rfl), RB.free h 7⟩, ⟨key 8 _ (RB.cell h 8 _ rfl), RB.free h 8⟩, ⟨key 9 _ (RB.cell h 9 _ rfl), RB.free h 9⟩⟩
    have FT : Hid (∀ wx : World, SS wx → (((wx.cell? ⟨w1.heap.size, 2, none⟩ = some (.int .u64 0) ∧ wx.cell? ⟨w1.heap.size, 3, none⟩ = some (.int .i64 0)) ∧ (wx.cell? ⟨w2.heap.size, 0, none⟩ = some (.bool DA.neg) ∧ wx.cell? ⟨w2.heap.size, 1, none⟩ = some (.string t2) ∧ wx.cell? ⟨w2.heap.size, 2, none⟩ = some (.int .i64 DA.e))) ∧ (wx.cell? ⟨w.heap.size, 0, none⟩ = some (g wx 0) ∧ wx.frozen? ⟨w.heap.size, 0, none⟩ = false) ∧ (wx.cell? ⟨w.heap.size, 1, none⟩ = some (g wx 1) ∧ wx.frozen? ⟨w.heap.size, 1, none⟩ = false) ∧ (wx.cell? ⟨w.heap.size, 2, none⟩ = some (g wx 2) ∧ wx.frozen? ⟨w.heap.size, 2, none⟩ = false) ∧ (wx.cell? ⟨w.heap.size, 3, none⟩ = some (g wx 3) ∧ wx.frozen? ⟨w.heap.size, 3, none⟩ = false) ∧ (wx.cell? ⟨w.heap.size, 4, none⟩ = some (g wx 4) ∧ wx.frozen? ⟨w.heap.size, 4, none⟩ = false) ∧ (wx.cell? ⟨w.heap.size, 5, none⟩ = some (g wx 5) ∧ wx.frozen? ⟨w.heap.size, 5, none⟩ = false) ∧ (wx.cell? ⟨w.heap.size, 6, none⟩ = some (g wx 6) ∧ wx.frozen? ⟨w.heap.size, 6, none⟩ = false) ∧ (wx.cell? ⟨w.heap.size, 7, none⟩ = some (g wx 7) ∧ wx.frozen? ⟨w.heap.size, 7, none⟩ = false) ∧ (wx.cell? ⟨w.heap.size, 8, none⟩ = some (g wx 8) ∧ wx.frozen? ⟨w.heap.size, 8, none⟩ = false) ∧ (wx.cell? ⟨w.heap.size, 9, none⟩ = some (g wx 9) ∧ wx.frozen? ⟨w.heap.size, 9, none⟩ = false))) := fun wx h => ⟨(CS.out wx h).2, TG.out wx _ _ _ _ _ _ _ _ _ _ (CS.out wx h).1⟩
    have FS : Hid (∀ (wx : World) (x0 x1 x2 x3 x4 x5 x6 x7 x8 x9 : Value), SS wx → (((((((((((((wx.setCell ⟨w.heap.size, 0, none⟩ x0).setCell ⟨w.heap.size, 1, none⟩ x1).setCell ⟨w.heap.size, 2, none⟩ x2).setCell ⟨w.heap.size, 3, none⟩ x3).setCell ⟨w.heap.size, 4, none⟩ x4).setCell ⟨w.heap.size, 5, none⟩ x5).setCell ⟨w.heap.size, 6, none⟩ x6).setCell ⟨w.heap.size, 7, none⟩ x7).setCell ⟨w.heap.size, 8, none⟩ x8).setCell ⟨w.heap.size, 9, none⟩ x9).cell? ⟨w1.heap.size, 2, none⟩ = some (.int .u64 0) ∧ ((((((((((wx.setCell ⟨w.heap.size, 0, none⟩ x0).setCell ⟨w.heap.size, 1, none⟩ x1).setCell ⟨w.heap.size, 2, none⟩ x2).setCell ⟨w.heap.size, 3, none⟩ x3).setCell ⟨w.heap.size, 4, none⟩ x4).setCell ⟨w.heap.size, 5, none⟩ x5).setCell ⟨w.heap.size, 6, none⟩ x6).setCell ⟨w.heap.size, 7, none⟩ x7).setCell ⟨w.heap.size, 8, none⟩ x8).setCell ⟨w.heap.size, 9, none⟩ x9).cell? ⟨w1.heap.size, 3, none⟩ = some (.int .i64 0)) ∧ (((((((((((wx.setCell ⟨w.heap.size, 0, none⟩ x0).setCell ⟨w.heap.size, 1, none⟩ x1).setCell ⟨w.heap.size, 2, none⟩ x2).setCell ⟨w.heap.size, 3, none⟩ x3).setCell ⟨w.heap.size, 4, none⟩ x4).setCell ⟨w.heap.size, 5, none⟩ x5).setCell ⟨w.heap.size, 6, none⟩ x6).setCell ⟨w.heap.size, 7, none⟩ x7).setCell ⟨w.heap.size, 8, none⟩ x8).setCell ⟨w.heap.size, 9, none⟩ x9).cell? ⟨w2.heap.size, 0, none⟩ = some (.bool DA.neg) ∧ ((((((((((wx.setCell ⟨w.heap.size, 0, none⟩ x0).setCell ⟨w.heap.size, 1, none⟩ x1).setCell ⟨w.heap.size, 2, none⟩ x2).setCell ⟨w.heap.size, 3, none⟩ x3).setCell ⟨w.heap.size, 4, none⟩ x4).setCell ⟨w.heap.size, 5, none⟩ x5).setCell ⟨w.heap.size, 6, none⟩ x6).setCell ⟨w.heap.size, 7, none⟩ x7).setCell ⟨w.heap.size, 8, none⟩ x8).setCell ⟨w.heap.size, 9, none⟩ x9).cell? ⟨w2.heap.size, 1, none⟩ = some (.string t2) ∧ ((((((((((wx.setCell ⟨w.heap.size, 0, none⟩ x0).setCell ⟨w.heap.size, 1, none⟩ x1).setCell ⟨w.heap.size, 2, none⟩ x2).setCell ⟨w.heap.size, 3, none⟩ x3).setCell ⟨w.heap.size, 4, none⟩ x4).setCell ⟨w.heap.size, 5, none⟩ x5).setCell ⟨w.heap.size, 6, none⟩ x6).setCell ⟨w.heap.size, 7, none⟩ x7).setCell ⟨w.heap.size, 8, none⟩ x8).setCell ⟨w.heap.size, 9, none⟩ x9).cell? ⟨w2.heap.size, 2, none⟩ = some (.int .i64 DA.e))) ∧ (((((((((((wx.setCell ⟨w.heap.size, 0, none⟩ x0).setCell ⟨w.heap.size, 1, none⟩ x1).setCell ⟨w.heap.size, 2, none⟩ x2).setCell ⟨w.heap.size, 3, none⟩ x3).setCell ⟨w.heap.size, 4, none⟩ x4).setCell ⟨w.heap.size, 5, none⟩ x5).setCell ⟨w.heap.size, 6, none⟩ x6).setCell ⟨w.heap.size, 7, none⟩ x7).setCell ⟨w.heap.size, 8, none⟩ x8).setCell ⟨w.heap.size, 9, none⟩ x9).cell? ⟨w.heap.size, 0, none⟩ = some (g ((((((((((wx.setCell ⟨w.heap.size, 0, none⟩ x0).setCell ⟨w.heap.size, 1, none⟩ x1).setCell ⟨w.heap.size, 2, none⟩ x2).setCell ⟨w.heap.size, 3, none⟩ x3).setCell ⟨w.heap.size, 4, none⟩ x4).setCell ⟨w.heap.size, 5, none⟩ x5).setCell ⟨w.heap.size, 6, none⟩ x6).setCell ⟨w.heap.size, 7, none⟩ x7).setCell ⟨w.heap.size, 8, none⟩ x8).setCell ⟨w.heap.size, 9, none⟩ x9) 0) ∧ ((((((((((wx.setCell ⟨w.heap.size, 0, none⟩ x0).setCell ⟨w.heap.size, 1, none⟩ x1).setCell ⟨w.heap.size, 2, none⟩ x2).setCell ⟨w.heap.size, 3, none⟩ x3).setCell ⟨w.heap.size, 4, none⟩ x4).setCell ⟨w.heap.size, 5, none⟩ x5).setCell ⟨w.heap.size, 6, none⟩ x6).setCell ⟨w.heap.size, 7, none⟩ x7).setCell ⟨w.heap.size, 8, none⟩ x8).setCell ⟨w.heap.size, 9, none⟩ x9).frozen? ⟨w.heap.size, 0, none⟩ = false) ∧ (((((((((((wx.setCell ⟨w.heap.size, 0, none⟩ x0).setCell ⟨w.heap.size, 1, none⟩ x1).setCell ⟨w.heap.size, 2, none⟩ x2).setCell ⟨w.heap.size, 3, none⟩ x3).setCell ⟨w.heap.size, 4, none⟩ x4).setCell ⟨w.heap.size, 5, none⟩ x5).setCell ⟨w.heap.size, 6, none⟩ x6).setCell ⟨w.heap.size, 7, none⟩ x7).setCell ⟨w.heap.size, 8, none⟩ x8).setCell ⟨w.heap.size, 9, none⟩ x9).cell? ⟨w.heap.size, 1, none⟩ = some (g ((((((((((wx.setCell ⟨w.heap.size, 0, none⟩ x0).setCell ⟨w.heap.size, 1, none⟩ x1).setCell ⟨w.heap.size, 2, none⟩ x2).setCell ⟨w.heap.size, 3, none⟩ x3).setCell ⟨w.heap.size, 4, none⟩ x4).setCell ⟨w.heap.size, 5, none⟩ x5).setCell ⟨w.heap.size, 6, none⟩ x6).setCell ⟨w.heap.size, 7, none⟩ x7).setCell ⟨w.heap.size, 8, none⟩ x8).setCell ⟨w.heap.size, 9, none⟩ x9) 1) ∧ ((((((((((wx.setCell ⟨w.heap.size, 0, none⟩ x0).setCell ⟨w.heap.size, 1, none⟩ x1).setCell ⟨w.heap.size, 2, none⟩ x2).setCell ⟨w.heap.size, 3, none⟩ x3).setCell ⟨w.heap.size, 4, none⟩ x4).setCell ⟨w.heap.size, 5, none⟩ x5).setCell ⟨w.heap.size, 6, none⟩ x6).setCell ⟨w.heap.size, 7, none⟩ x7).setCell ⟨w.heap.size, 8, none⟩ x8).setCell ⟨w.heap.size, 9, none⟩ x9).frozen? ⟨w.heap.size, 1, none⟩ = false) ∧ (((((((((((wx.setCell ⟨w.heap.size, 0, none⟩ x0).setCell ⟨w.heap.size, 1, none⟩ x1).setCell ⟨w.heap.size, 2, none⟩ x2).setCell ⟨w.heap.size, 3, none⟩ x3).setCell ⟨w.heap.size, 4, none⟩ x4).setCell ⟨w.heap.size, 5, none⟩ x5).setCell ⟨w.heap.size, 6, none⟩ x6).setCell ⟨w.heap.size, 7, none⟩ x7).setCell ⟨w.heap.size, 8, none⟩ x8).setCell ⟨w.heap.size, 9, none⟩ x9).cell? ⟨w.heap.size, 2, none⟩ = some (g ((((((((((wx.setCell ⟨w.heap.size, 0, none⟩ x0).setCell ⟨w.heap.size, 1, none⟩ x1).setCell ⟨w.heap.size, 2, none⟩ x2).setCell ⟨w.heap.size, 3, none⟩ x3).setCell ⟨w.heap.size, 4, none⟩ x4).setCell ⟨w.heap.size, 5, none⟩ x5).setCell ⟨w.heap.size, 6, none⟩ x6).setCell ⟨w.heap.size, 7, none⟩ x7).setCell ⟨w.heap.size, 8, none⟩ x8).setCell ⟨w.heap.size, 9, none⟩ x9) 2) ∧ ((((((((((wx.setCell ⟨w.heap.size, 0, none⟩ x0).setCell ⟨w.heap.size, 1, none⟩ x1).setCell ⟨w.heap.size, 2, none⟩ x2).setCell ⟨w.heap.size, 3, none⟩ x3).setCell ⟨w.heap.size, 4, none⟩ x4).setCell ⟨w.heap.size, 5, none⟩ x5).setCell ⟨w.heap.size, 6, none⟩ x6).setCell ⟨w.heap.size, 7, none⟩ x7).setCell ⟨w.heap.size, 8, none⟩ x8).setCell ⟨w.heap.size, 9, none⟩ x9).frozen? ⟨w.heap.size, 2, none⟩ = false) ∧ (((((((((((wx.setCell ⟨w.heap.size, 0, none⟩ x0).setCell ⟨w.heap.size, 1, none⟩ x1).setCell ⟨w.heap.size, 2, none⟩ x2).setCell ⟨w.heap.size, 3, none⟩ x3).setCell ⟨w.heap.size, 4, none⟩ x4).setCell ⟨w.heap.size, 5, none⟩ x5).setCell ⟨w.heap.size, 6, none⟩ x6).setCell ⟨w.heap.size, 7, none⟩ x7).setCell ⟨w.heap.size, 8, none⟩ x8).setCell ⟨w.heap.size, 9, none⟩ x9).cell? ⟨w.heap.size, 3, none⟩ = some (g ((((((((((wx.setCell ⟨w.heap.size, 0, none⟩ x0).setCell ⟨w.heap.size, 1, none⟩ x1).setCell ⟨w.heap.size, 2, none⟩ x2).setCell ⟨w.heap.size, 3, none⟩ x3).setCell ⟨w.heap.size, 4, none⟩ x4).setCell ⟨w.heap.size, 5, none⟩ x5).setCell ⟨w.heap.size, 6, none⟩ x6).setCell ⟨w.heap.size, 7, none⟩ x7).setCell ⟨w.heap.size, 8, none⟩ x8).setCell ⟨w.heap.size, 9, none⟩ x9) 3) ∧ ((((((((((wx.setCell ⟨w.heap.size, 0, none⟩ x0).setCell ⟨w.heap.size, 1, none⟩ x1).setCell ⟨w.heap.size, 2, none⟩ x2).setCell ⟨w.heap.size, 3, none⟩ x3).setCell ⟨w.heap.size, 4, none⟩ x4).setCell ⟨w.heap.size, 5, none⟩ x5).setCell ⟨w.heap.size, 6, none⟩ x6).setCell ⟨w.heap.size, 7, none⟩ x7).setCell ⟨w.heap.size, 8, none⟩ x8).setCell ⟨w.heap.size, 9, none⟩ x9).frozen? ⟨w.heap.size, 3, none⟩ = false) ∧ (((((((((((wx.setCell ⟨w.heap.size, 0, none⟩ x0).setCell ⟨w.heap.size, 1, none⟩ x1).setCell ⟨w.heap.size, 2, none⟩ x2).setCell ⟨w.heap.size, 3, none⟩ x3).setCell ⟨w.heap.size, 4, none⟩ x4).setCell ⟨w.heap.size, 5, none⟩ x5).setCell ⟨w.heap.size, 6, none⟩ x6).setCell ⟨w.heap.size, 7, none⟩ x7).setCell ⟨w.heap.size, 8, none⟩ x8).setCell ⟨w.heap.size, 9, none⟩ x9).cell? ⟨w.heap.size, 4, none⟩ = some (g ((((((((((wx.setCell ⟨w.heap.size, 0, none⟩ x0).setCell ⟨w.heap.size, 1, none⟩ x1).setCell ⟨w.heap.size, 2, none⟩ x2).setCell ⟨w.heap.size, 3, none⟩ x3).setCell ⟨w.heap.size, 4, none⟩ x4).setCell ⟨w.heap.size, 5, none⟩ x5).setCell ⟨w.heap.size, 6, none⟩ x6).setCell ⟨w.heap.size, 7, none⟩ x7).setCell ⟨w.heap.size, 8, none⟩ x8).setCell ⟨w.heap.size, 9, none⟩ x9) 4) ∧ ((((((((((wx.setCell ⟨w.heap.size, 0, none⟩ x0).setCell ⟨w.heap.size, 1, none⟩ x1).setCell ⟨w.heap.size, 2, none⟩ x2).setCell ⟨w.heap.size, 3, none⟩ x3).setCell ⟨w.heap.size, 4, none⟩ x4).setCell ⟨w.heap.size, 5, none⟩ x5).setCell ⟨w.heap.size, 6, none⟩ x6).setCell ⟨w.heap.size, 7, none⟩ x7).setCell ⟨w.heap.size, 8, none⟩ x8).setCell ⟨w.heap.size, 9, none⟩ x9).frozen? ⟨w.heap.size, 4, none⟩ = false) ∧ (((((((((((wx.setCell ⟨w.heap.size, 0, none⟩ x0).setCell ⟨w.heap.size, 1, none⟩ x1).setCell ⟨w.heap.size, 2, none⟩ x2).setCell ⟨w.heap.size, 3, none⟩ x3).setCell ⟨w.heap.size, 4, none⟩ x4).setCell ⟨w.heap.size, 5, none⟩ x5).setCell ⟨w.heap.size, 6, none⟩ x6).setCell ⟨w.heap.size, 7, none⟩ x7).setCell ⟨w.heap.size, 8, none⟩ x8).setCell ⟨w.heap.size, 9, none⟩ x9).cell? ⟨w.heap.size, 5, none⟩ = some (g ((((((((((wx.setCell ⟨w.heap.size, 0, none⟩ x0).setCell ⟨w.heap.size, 1, none⟩ x1).setCell ⟨w.heap.size, 2, none⟩ x2).setCell ⟨w.heap.size, 3, none⟩ x3).setCell ⟨w.heap.size, 4, none⟩ x4).setCell ⟨w.heap.size, 5, none⟩ x5).setCell ⟨w.heap.size, 6, none⟩ x6).setCell ⟨w.heap.size, 7, none⟩ x7).setCell ⟨w.heap.size, 8, none⟩ x8).setCell ⟨w.heap.size, 9, none⟩ x9) 5) ∧ ((((((((((wx.setCell ⟨w.heap.size, 0, none⟩ x0).setCell ⟨w.heap.size, 1, none⟩ x1).setCell ⟨w.heap.size, 2, none⟩ x2).setCell ⟨w.heap.size, 3, none⟩ x3).setCell ⟨w.heap.size, 4, none⟩ x4).setCell ⟨w.heap.size, 5, none⟩ x5).setCell ⟨w.heap.size, 6, none⟩ x6).setCell ⟨w.heap.size, 7, none⟩ x7).setCell ⟨w.heap.size, 8, none⟩ x8).setCell ⟨w.heap.size, 9, none⟩ x9).frozen? ⟨w.heap.size, 5, none⟩ = false) ∧ (((((((((((wx.setCell ⟨w.heap.size, 0, none⟩ x0).setCell ⟨w.heap.size, 1, none⟩ x1).setCell ⟨w.heap.size, 2, none⟩ x2).setCell ⟨w.heap.size, 3, none⟩ x3).setCell ⟨w.heap.size, 4, none⟩ x4).setCell ⟨w.heap.size, 5, none⟩ x5).setCell ⟨w.heap.size, 6, none⟩ x6).setCell ⟨w.heap.size, 7, none⟩ x7).setCell ⟨w.heap.size, 8, none⟩ x8).setCell ⟨w.heap.size, 9, none⟩ x9).cell? ⟨w.heap.size, 6, none⟩ = some (g ((((((((((wx.setCell ⟨w.heap.size, 0, none⟩ x0).setCell ⟨w.heap.size, 1, none⟩ x1).setCell ⟨w.heap.size, 2, none⟩ x2).setCell ⟨w.heap.size, 3, none⟩ x3).setCell ⟨w.heap.size, 4, none⟩ x4).setCell ⟨w.heap.size, 5, none⟩ x5).setCell ⟨w.heap.size, 6, none⟩ x6).setCell ⟨w.heap.size, 7, none⟩ x7).setCell ⟨w.heap.size, 8, none⟩ x8).setCell ⟨w.heap.size, 9, none⟩ x9) 6) ∧ ((((((((((wx.setCell ⟨w.heap.size, 0, none⟩ x0).setCell ⟨w.heap.size, 1, none⟩ x1).setCell ⟨w.heap.size, 2, none⟩ x2).setCell ⟨w.heap.size, 3, none⟩ x3).setCell ⟨w.heap.size, 4, none⟩ x4).setCell ⟨w.heap.size, 5, none⟩ x5).setCell ⟨w.heap.size, 6, none⟩ x6).setCell ⟨w.heap.size, 7, none⟩ x7).setCell ⟨w.heap.size, 8, none⟩ x8).setCell ⟨w.heap.size, 9, none⟩ x9).frozen? ⟨w.heap.size, 6, none⟩ = false) ∧ (((((((((((wx.setCell ⟨w.heap.size, 0, none⟩ x0).setCell ⟨w.heap.size, 1, none⟩ x1).setCell ⟨w.heap.size, 2, none⟩ x2).setCell ⟨w.heap.size, 3, none⟩ x3).setCell ⟨w.heap.size, 4, none⟩ x4).setCell ⟨w.heap.size, 5, none⟩ x5).setCell ⟨w.heap.size, 6, none⟩ x6).setCell ⟨w.heap.size, 7, none⟩ x7).setCell ⟨w.heap.size, 8, none⟩ x8).setCell ⟨w.heap.size, 9, none⟩ x9).cell? ⟨w.heap.size, 7, none⟩ = some (g ((((((((((wx.setCell ⟨w.heap.size, 0, none⟩ x0).setCell ⟨w.heap.size, 1, none⟩ x1).setCell ⟨w.heap.size, 2, none⟩ x2).setCell ⟨w.heap.size, 3, none⟩ x3).setCell ⟨w.heap.size, 4, none⟩ x4).setCell ⟨w.heap.size, 5, none⟩ x5).setCell ⟨w.heap.size, 6, none⟩ x6).setCell ⟨w.heap.size, 7, none⟩ x7).setCell ⟨w.heap.size, 8, none⟩ x8).setCell ⟨w.heap.size, 9, none⟩ x9) 7) ∧ ((((((((((wx.setCell ⟨w.heap.size, 0, none⟩ x0).setCell ⟨w.heap.size, 1, none⟩ x1).setCell ⟨w.heap.size, 2, none⟩ x2).setCell ⟨w.heap.size, 3, none⟩ x3).setCell ⟨w.heap.size, 4, none⟩ x4).setCell ⟨w.heap.size, 5, none⟩ x5).setCell ⟨w.heap.size, 6, none⟩ x6).setCell ⟨w.heap.size, 7, none⟩ x7).setCell ⟨w.heap.size, 8, none⟩ x8).setCell ⟨w.heap.size, 9, none⟩ x9).frozen? ⟨w.heap.size, 7, none⟩ = false) ∧ (((((((((((wx.setCell ⟨w.heap.size, 0, none⟩ x0).setCell ⟨w.heap.size, 1, none⟩ x1).setCell ⟨w.heap.size, 2, none⟩ x2).setCell ⟨w.heap.size, 3, none⟩ x3).setCell ⟨w.heap.size, 4, none⟩ x4).setCell ⟨w.heap.size, 5, none⟩ x5).setCell ⟨w.heap.size, 6, none⟩ x6).setCell ⟨w.heap.size, 7, none⟩ x7).setCell ⟨w.heap.size, 8, none⟩ x8).setCell ⟨w.heap.size, 9, none⟩ x9).cell? ⟨w.heap.size, 8, none⟩ = some (g ((((((((((wx.setCell ⟨w.heap.size, 0, none⟩ x0).setCell ⟨w.heap.size, 1, none⟩ x1).setCell ⟨w.heap.size, 2, none⟩ x2).setCell ⟨w.heap.size, 3, none⟩ x3).setCell ⟨w.heap.size, 4, none⟩ x4).setCell ⟨w.heap.size, 5, none⟩ x5).setCell ⟨w.heap.size, 6, none⟩ x6).setCell ⟨w.heap.size, 7, none⟩ x7).setCell ⟨w.heap.size, 8, none⟩ x8).setCell ⟨w.heap.size, 9, none⟩ x9) 8) ∧ ((((((((((wx.setCell ⟨w.heap.size, 0, none⟩ x0).setCell ⟨w.heap.size, 1, none⟩ x1).setCell ⟨w.heap.size, 2, none⟩ x2).setCell ⟨w.heap.size, 3, none⟩ x3).setCell ⟨w.heap.size, 4, none⟩ x4).setCell ⟨w.heap.size, 5, none⟩ x5).setCell ⟨w.heap.size, 6, none⟩ x6).setCell ⟨w.heap.size, 7, none⟩ x7).setCell ⟨w.heap.size, 8, none⟩ x8).setCell ⟨w.heap.size, 9, none⟩ x9).frozen? ⟨w.heap.size, 8, none⟩ = false) ∧ (((((((((((wx.setCell ⟨w.heap.size, 0, none⟩ x0).setCell ⟨w.heap.size, 1, none⟩ x1).setCell ⟨w.heap.size, 2, none⟩ x2).setCell ⟨w.heap.size, 3, none⟩ x3).setCell ⟨w.heap.size, 4, none⟩ x4).setCell ⟨w.heap.size, 5, none⟩ x5).setCell ⟨w.heap.size, 6, none⟩ x6).setCell ⟨w.heap.size, 7, none⟩ x7).setCell ⟨w.heap.size, 8, none⟩ x8).setCell ⟨w.heap.size, 9, none⟩ x9).cell? ⟨w.heap.size, 9, none⟩ = some (g ((((((((((wx.setCell ⟨w.heap.size, 0, none⟩ x0).setCell ⟨w.heap.size, 1, none⟩ x1).setCell ⟨w.heap.size, 2, none⟩ x2).setCell ⟨w.heap.size, 3, none⟩ x3).setCell ⟨w.heap.size, 4, none⟩ x4).setCell ⟨w.heap.size, 5, none⟩ x5).setCell ⟨w.heap.size, 6, none⟩ x6).setCell ⟨w.heap.size, 7, none⟩ x7).setCell ⟨w.heap.size, 8, none⟩ x8).setCell ⟨w.heap.size, 9, none⟩ x9) 9) ∧ ((((((((((wx.setCell ⟨w.heap.size, 0, none⟩ x0).setCell ⟨w.heap.size, 1, none⟩ x1).setCell ⟨w.heap.size, 2, none⟩ x2).setCell ⟨w.heap.size, 3, none⟩ x3).setCell ⟨w.heap.size, 4, none⟩ x4).setCell ⟨w.heap.size, 5, none⟩ x5).setCell ⟨w.heap.size, 6, none⟩ x6).setCell ⟨w.heap.size, 7, none⟩ x7).setCell ⟨w.heap.size, 8, none⟩ x8).setCell ⟨w.heap.size, 9, none⟩ x9).frozen? ⟨w.heap.size, 9, none⟩ = false))) := fun wx x0 x1 x2 x3 x4 x5 x6 x7 x8 x9 h => by
      obtain ⟨⟨p2, p3⟩, q0, q1, q2⟩ := (CS.out wx h).2
      refine ⟨⟨⟨?_, ?_⟩, ?_, ?_, ?_⟩, TG.out _ _ _ _ _ _ _ _ _ _ _ (Ten.put (CS.out wx h).1 x0 x1 x2 x3 x4 x5 x6 x7 x8 x9)⟩
      · simp only [set_far lt1]; exact p2
      · simp only [set_far lt1]; exact p3
      · simp only [set_far lt2]; exact q0
      · simp only [set_far lt2]; exact q1
      · simp only [set_far lt2]; exact q2
    have TT : Hid (∀ wx : World, SS wx → Ten wx w.heap.size (.bool false) (.string ⟨#[]⟩) (.int .i64 0) (.bool false) (.string ⟨#[]⟩) (.int .i64 0) (.bool false) (.string ⟨#[]⟩) (.int .i64 0) (.bool false)) := fun wx h => (CS.out wx h).1
    have pc1 := (aL.cell (cell_lt PC1.out)).trans PC1.out
    clear P3 aL hbL HB2 ZB MS TZ PC CS lt1 lt2 TG hg
    go_upto_region 6 with fail
    generalize w2.alloc (.cells #[.bool DA.neg, .string t2, .int .i64 DA.e] 28) = wL at *
    have T0 := hid (KS.out _ _ S0.out (drew_nil _))
    clear S0
    go_region_held3 (fun w' => ((w'.cell? ⟨w1.heap.size, 2, none⟩ = some (.int .u64 0) ∧ w'.cell? ⟨w1.heap.size, 3, none⟩ = some (.int .i64 0)) ∧ (w'.cell? ⟨w2.heap.size, 0, none⟩ = some (.bool DA.neg) ∧ w'.cell? ⟨w2.heap.size, 1, none⟩ = some (.string t2) ∧ w'.cell? ⟨w2.heap.size, 2, none⟩ = some (.int .i64 DA.e))) ∧ (w'.cell? ⟨w.heap.size, 0, none⟩ = some (g w' 0) ∧ w'.frozen? ⟨w.heap.size, 0, none⟩ = false) ∧ (w'.cell? ⟨w.heap.size, 1, none⟩ = some (g w' 1) ∧ w'.frozen? ⟨w.heap.size, 1, none⟩ = false) ∧ (w'.cell? ⟨w.heap.size, 2, none⟩ = some (g w' 2) ∧ w'.frozen? ⟨w.heap.size, 2, none⟩ = false) ∧ (w'.cell? ⟨w.heap.size, 3, none⟩ = some (g w' 3) ∧ w'.frozen? ⟨w.heap.size, 3, none⟩ = false) ∧ (w'.cell? ⟨w.heap.size, 4, none⟩ = some (g w' 4) ∧ w'.frozen? ⟨w.heap.size, 4, none⟩ = false) ∧ (w'.cell? ⟨w.heap.size, 5, none⟩ = some (g w' 5) ∧ w'.frozen? ⟨w.heap.size, 5, none⟩ = false) ∧ (w'.cell? ⟨w.heap.size, 6, none⟩ = some (g w' 6) ∧ w'.frozen? ⟨w.heap.size, 6, none⟩ = false) ∧ (w'.cell? ⟨w.heap.size, 7, none⟩ = some (g w' 7) ∧ w'.frozen? ⟨w.heap.size, 7, none⟩ = false) ∧ (w'.cell? ⟨w.heap.size, 8, none⟩ = some (g w' 8) ∧ w'.frozen? ⟨w.heap.size, 8, none⟩ = false) ∧ (w'.cell? ⟨w.heap.size, 9, none⟩ = some (g w' 9) ∧ w'.frozen? ⟨w.heap.size, 9, none⟩ = false)) (first | (with_reducible exact FS.out _ _ _ _ _ _ _ _ _ _ _ T2.out) | (with_reducible exact FT.out _ T2.out) | (with_reducible exact FT.out _ T1.out) | (with_reducible exact FT.out _ T0.out)) (first
      | (go_at_call 41; with_reducible refine (EV.out _).mono ?_; rintro e w5 ⟨t1, rfl, HT1, hB⟩; (first | (have T2 := hid (KS.out _ _ T1.out hB); clear hB) | (have T1 := hid (KS.out _ _ T0.out hB); clear hB)))
      | (go_at_call 42; with_reducible refine (HI.out _).mono ?_; rintro e w5 ⟨t3, rfl, HT3, hB⟩; (first | (have T2 := hid (KS.out _ _ T1.out hB); clear hB) | (have T1 := hid (KS.out _ _ T0.out hB); clear hB))))
    have KV := hid (G.out t1 t2 t3 HT1.out HT2.out HT3.out)
    have KB := hid (BS.out _ T2.out)
    have KT := hid (TT.out _ T2.out)
    clear HT1 HT2 HT3 FT FS TT T0 T1 T2 KS BS G HI EV
    go_wp2_with fail
    (try simp only [Exit.inBlock, Exit.then])
    refine bodyPost_ret (results_cell_row rfl _ _ w.heap.size 44 _ (0, 0) _ rfl (KT.out.put _ _ _ _ _ _ _ _ _ _) Tryz.underlying44 rfl (by kernel_rfl)) rfl ?_
    exact ⟨_, rfl, KV.out, set10_below KB.out (Nat.le_refl _)⟩
  · obtain ⟨k2, k3⟩ := Ie.dec_fin2 a hp hf
    obtain ⟨k4, k5⟩ := Sh.clsP hp hf
    have xb := Sh.ex_le hf
    have mb := Ie.man_nn a a0
    rw [k2, k3] at D
    have EV' := fun wx : World => zexact_any (Ie.man a) ((Ie.ex a : Int) - 1074) wx mb.1 (by omega) (by omega) (by omega)
    rw [Sh.zV] at EV'
    have EV := hid (dec_open EV')
    have DN := hid (fun wx : World => down_any a wx a0 (by omega))
    rw [Sh.dnP hp hf] at DN
    have HL' := fun wx : World => zhalfway_any (a - 1) wx (by omega) (by omega)
    rw [← Sh.AP hp] at HL'
    have HL := hid (dec_open HL')
    clear EV' HL' k2 k3 xb mb k4
    generalize decide (9223372036854775808 ≤ a) = neg at *
    generalize decide (a % 2 = 0) = cb at *
    generalize Sh.dd 0 = D0 at *
    generalize Sh.dd (Sh.V a) = DV at *
    generalize Sh.dd (Sh.A a) = DA at *
    generalize Sh.dd (Sh.B a) = DB at *
    generalize Ie.cls a = c at *
    generalize Ie.man a = m at *
    generalize (Ie.ex a : Int) - 1074 = x at *
    go_enter Tryz.func19, Tryz.ntmps19
    go_wp2_with fail
    refine (AB.out _).mono ?_
    rintro e wz ⟨rfl, hz⟩
    subst hz
    go_wp2_with fail
    refine (D.out _).mono ?_
    rintro e w1 ⟨rfl, B1⟩
    have PC : Hid ((w1.alloc (.cells #[.bool neg, .int .i64 c, .int .u64 m, .int .i64 x] 67)).cell? ⟨w1.heap.size, 2, none⟩ = some (.int .u64 m) ∧ (w1.alloc (.cells #[.bool neg, .int .i64 c, .int .u64 m, .int .i64 x] 67)).cell? ⟨w1.heap.size, 3, none⟩ = some (.int .i64 x)) := ⟨(RB.new w1 67 _).cell 2 _ rfl, (RB.new w1 67 _).cell 3 _ rfl⟩
    have HS1 : Hid (w.heap.size < w1.heap.size) := Nat.lt_of_lt_of_le (RB.lt TZ.out) B1.size
    have PC0 : Hid ((w1.alloc (.cells #[.bool neg, .int .i64 c, .int .u64 m, .int .i64 x] 67)).cell? ⟨w1.heap.size, 1, none⟩ = some (.int .i64 c)) := (RB.new w1 67 _).cell 1 _ rfl
    have HB1 := hid (B1.trans ((alloc_b w1 (.cells #[.bool neg, .int .i64 c, .int .u64 m, .int .i64 x] 67)).mono B1.size))
    clear B1 D AB
    go_wp2_with fail
    refine (E0.out _).mono ?_
    rintro e w2 ⟨t0, rfl, HT0, B2⟩
    have HB2 := hid (HB1.out.trans (B2.mono HB1.out.size))
    have PC : Hid (w2.cell? ⟨w1.heap.size, 2, none⟩ = some (.int .u64 m) ∧ w2.cell? ⟨w1.heap.size, 3, none⟩ = some (.int .i64 x)) := ⟨(B2.cell (cell_lt PC.out.1)).trans PC.out.1, (B2.cell (cell_lt PC.out.2)).trans PC.out.2⟩
    have HBs : Hid (w.heap.size < w1.heap.size ∧ w1.heap.size < w2.heap.size) := ⟨HS1.out, Nat.lt_of_lt_of_le (RB.lt (RB.new w1 67 _)) B2.size⟩
    have PC1 : Hid (w2.cell? ⟨w1.heap.size, 1, none⟩ = some (.int .i64 c)) := (B2.cell (cell_lt PC0.out)).trans PC0.out
    have aL := alloc_b w2 (.cells #[.bool D0.neg, .string t0, .int .i64 D0.e] 28)
    have pc1 := (aL.cell (cell_lt PC1.out)).trans PC1.out
    have P3 := hid (FR3.new w2 (.bool D0.neg) (.string t0) (.int .i64 D0.e))
    have HBL := hid (HB2.out.trans (aL.mono HB2.out.size))
    have PCL : Hid ((w2.alloc (.cells #[.bool D0.neg, .string t0, .int .i64 D0.e] 28)).cell? ⟨w1.heap.size, 2, none⟩ = some (.int .u64 m) ∧ (w2.alloc (.cells #[.bool D0.neg, .string t0, .int .i64 D0.e] 28)).cell? ⟨w1.heap.size, 3, none⟩ = some (.int .i64 x)) := ⟨(aL.cell (cell_lt PC.out.1)).trans PC.out.1, (aL.cell (cell_lt PC.out.2)).trans PC.out.2⟩
    clear B2 E0 HB1 aL PC PC0 PC1 HB2 HT0
    go_wp2_with fail
    refine (DN.out _).mono ?_
    rintro e wz ⟨rfl, hz⟩
    subst hz
    go_wp2_with fail
    refine (HL.out _).mono ?_
    rintro e w3 ⟨t2, rfl, HT2, B3⟩
    have HB3 := hid (HBL.out.trans (B3.mono HBL.out.size))
    have R3 := hid (P3.out.below B3 P3.out.lt)
    have PC : Hid (w3.cell? ⟨w1.heap.size, 2, none⟩ = some (.int .u64 m) ∧ w3.cell? ⟨w1.heap.size, 3, none⟩ = some (.int .i64 x)) := ⟨(B3.cell (cell_lt PCL.out.1)).trans PCL.out.1, (B3.cell (cell_lt PCL.out.2)).trans PCL.out.2⟩
    obtain ⟨⟨lc0, lc1, lc2⟩, lf0, lf1, lf2⟩ := R3.out.cells
    clear B3 PCL P3 HL DN pc1
    have lt3 : w2.heap.size ≠ w1.heap.size := by have := HBs.out; omega
    have hbL : Hid (Below w.heap.size w (((w3.setCell ⟨w2.heap.size, 0, none⟩ (.bool DA.neg)).setCell ⟨w2.heap.size, 1, none⟩ (.string t2)).setCell ⟨w2.heap.size, 2, none⟩ (.int .i64 DA.e))) := fset3_below (ZB.out.trans (HB3.out.mono ZB.out.size)) (by have := HBs.out; omega)
    have TL : Hid (Ten (((w3.setCell ⟨w2.heap.size, 0, none⟩ (.bool DA.neg)).setCell ⟨w2.heap.size, 1, none⟩ (.string t2)).setCell ⟨w2.heap.size, 2, none⟩ (.int .i64 DA.e)) w.heap.size (.bool false) (.string ⟨#[]⟩) (.int .i64 0) (.bool false) (.string ⟨#[]⟩) (.int .i64 0) (.bool false) (.string ⟨#[]⟩) (.int .i64 0) (.bool false)) :=
      RB.far (RB.far (RB.far (RB.below TZ.out HB3.out (RB.lt TZ.out)) (by have := HBs.out; omega)) (by have := HBs.out; omega)) (by have := HBs.out; omega)
    obtain ⟨SS, KS, CS, BS, MS⟩ := state (fun w' => Ten w' w.heap.size (.bool false) (.string ⟨#[]⟩) (.int .i64 0) (.bool false) (.string ⟨#[]⟩) (.int .i64 0) (.bool false) (.string ⟨#[]⟩) (.int .i64 0) (.bool false) ∧ (w'.cell? ⟨w1.heap.size, 2, none⟩ = some (.int .u64 m) ∧ w'.cell? ⟨w1.heap.size, 3, none⟩ = some (.int .i64 x)) ∧ (w'.cell? ⟨w2.heap.size, 0, none⟩ = some (.bool DA.neg) ∧ w'.cell? ⟨w2.heap.size, 1, none⟩ = some (.string t2) ∧ w'.cell? ⟨w2.heap.size, 2, none⟩ = some (.int .i64 DA.e))) w
      (Stays.and (fun _ _ g hB => RB.below g hB (RB.lt g)) (((Stays.cell _ _).and (Stays.cell _ _)).and ((Stays.cell _ _).and ((Stays.cell _ _).and (Stays.cell _ _)))))
    have S0 := hid (MS.out _ ⟨TL.out, ⟨by simp only [set_far lt3]; exact PC.out.1, by simp only [set_far lt3]; exact PC.out.2⟩, (R3.out.put _ _ _).cells.1⟩ hbL.out)
    have lt1 : w.heap.size ≠ w1.heap.size := by have := HBs.out; omega
    have lt2 : w.heap.size ≠ w2.heap.size := by have := HBs.out; omega
    obtain ⟨g, hg⟩ : ∃ g : World → Nat → Value, Hid (∀ w' i, g w' i = (w'.cell? ⟨w.heap.size, i, none⟩).getD (.bool false)) := ⟨_, fun _ _ => rfl⟩
    have TG : Hid (∀ (wx : World) (x0 x1 x2 x3 x4 x5 x6 x7 x8 x9 : Value), Ten wx w.heap.size x0 x1 x2 x3 x4 x5 x6 x7 x8 x9 → (wx.cell? ⟨w.heap.size, 0, none⟩ = some (g wx 0) ∧ wx.frozen? ⟨w.heap.size, 0, none⟩ = false) ∧ (wx.cell? ⟨w.heap.size, 1, none⟩ = some (g wx 1) ∧ wx.frozen? ⟨w.heap.size, 1, none⟩ = false) ∧ (wx.cell? ⟨w.heap.size, 2, none⟩ = some (g wx 2) ∧ wx.frozen? ⟨w.heap.size, 2, none⟩ = false) ∧ (wx.cell? ⟨w.heap.size, 3, none⟩ = some (g wx 3) ∧ wx.frozen? ⟨w.heap.size, 3, none⟩ = false) ∧ (wx.cell? ⟨w.heap.size, 4, none⟩ = some (g wx 4) ∧ wx.frozen? ⟨w.heap.size, 4, none⟩ = false) ∧ (wx.cell? ⟨w.heap.size, 5, none⟩ = some (g wx 5) ∧ wx.frozen? ⟨w.heap.size, 5, none⟩ = false) ∧ (wx.cell? ⟨w.heap.size, 6, none⟩ = some (g wx 6) ∧ wx.frozen? ⟨w.heap.size, 6, none⟩ = false) ∧ (wx.cell? ⟨w.heap.size, 7, none⟩ = some (g wx 7) ∧ wx.frozen? ⟨w.heap.size, 7, none⟩ = false) ∧ (wx.cell? ⟨w.heap.size, 8, none⟩ = some (g wx 8) ∧ wx.frozen? ⟨w.heap.size, 8, none⟩ = false) ∧ (wx.cell? ⟨w.heap.size, 9, none⟩ = some (g wx 9) ∧ wx.frozen? ⟨w.heap.size, 9, none⟩ = false)) := by
      intro wx x0 x1 x2 x3 x4 x5 x6 x7 x8 x9 h
      have key : ∀ i v, wx.cell? ⟨w.heap.size, i, none⟩ = some v → wx.cell? ⟨w.heap.size, i, none⟩ = some (g wx i) := fun i v q => by rw [hg.out, q]; rfl
      exact ⟨⟨key 0 _ (RB.cell h 0 _ rfl), RB.free h 0⟩, ⟨key 1 _ (RB.cell h 1 _ rfl), RB.free h 1⟩, ⟨key 2 _ (RB.cell h 2 _ rfl), RB.free h 2⟩, ⟨key 3 _ (RB.cell h 3 _ rfl), RB.free h 3⟩, ⟨key 4 _ (RB.cell h 4 _ rfl), RB.free h 4⟩, ⟨key 5 _ (RB.cell h 5 _ rfl), RB.free h 5⟩, ⟨key 6 _ (RB.cell h 6 _ rfl), RB.free h 6⟩, ⟨key 7 _ (RB.cell h 7 _ rfl), RB.free h 7⟩, ⟨key 8 _ (RB.cell h 8 _ rfl), RB.free h 8⟩, ⟨key 9 _ (RB.cell h 9 _ rfl), RB.free h 9⟩⟩
    have FT : Hid (∀ wx : World, SS wx → (((wx.cell? ⟨w1.heap.size, 2, none⟩ = some (.int .u64 m) ∧ wx.cell? ⟨w1.heap.size, 3, none⟩ = some (.int .i64 x)) ∧ (wx.cell? ⟨w2.heap.size, 0, none⟩ = some (.bool DA.neg) ∧ wx.cell? ⟨w2.heap.size, 1, none⟩ = some (.string t2) ∧ wx.cell? ⟨w2.heap.size, 2, none⟩ = some (.int .i64 DA.e))) ∧ (wx.cell? ⟨w.heap.size, 0, none⟩ = some (g wx 0) ∧ wx.frozen? ⟨w.heap.size, 0, none⟩ = false) ∧ (wx.cell? ⟨w.heap.size, 1, none⟩ = some (g wx 1) ∧ wx.frozen? ⟨w.heap.size, 1, none⟩ = false) ∧ (wx.cell? ⟨w.heap.size, 2, none⟩ = some (g wx 2) ∧ wx.frozen? ⟨w.heap.size, 2, none⟩ = false) ∧ (wx.cell? ⟨w.heap.size, 3, none⟩ = some (g wx 3) ∧ wx.frozen? ⟨w.heap.size, 3, none⟩ = false) ∧ (wx.cell? ⟨w.heap.size, 4, none⟩ = some (g wx 4) ∧ wx.frozen? ⟨w.heap.size, 4, none⟩ = false) ∧ (wx.cell? ⟨w.heap.size, 5, none⟩ = some (g wx 5) ∧ wx.frozen? ⟨w.heap.size, 5, none⟩ = false) ∧ (wx.cell? ⟨w.heap.size, 6, none⟩ = some (g wx 6) ∧ wx.frozen? ⟨w.heap.size, 6, none⟩ = false) ∧ (wx.cell? ⟨w.heap.size, 7, none⟩ = some (g wx 7) ∧ wx.frozen? ⟨w.heap.size, 7, none⟩ = false) ∧ (wx.cell? ⟨w.heap.size, 8, none⟩ = some (g wx 8) ∧ wx.frozen? ⟨w.heap.size, 8, none⟩ = false) ∧ (wx.cell? ⟨w.heap.size, 9, none⟩ = some (g wx 9) ∧ wx.frozen? ⟨w.heap.size, 9, none⟩ = false))) := fun wx h => ⟨(CS.out wx h).2, TG.out wx _ _ _ _ _ _ _ _ _ _ (CS.out wx h).1⟩
    have FS : Hid (∀ (wx : World) (x0 x1 x2 x3 x4 x5 x6 x7 x8 x9 : Value), SS wx → (((((((((((((wx.setCell ⟨w.heap.size, 0, none⟩ x0).setCell ⟨w.heap.size, 1, none⟩ x1).setCell ⟨w.heap.size, 2, none⟩ x2).setCell ⟨w.heap.size, 3, none⟩ x3).setCell ⟨w.heap.size, 4, none⟩ x4).setCell ⟨w.heap.size, 5, none⟩ x5).setCell ⟨w.heap.size, 6, none⟩ x6).setCell ⟨w.heap.size, 7, none⟩ x7).setCell ⟨w.heap.size, 8, none⟩ x8).setCell ⟨w.heap.size, 9, none⟩ x9).cell? ⟨w1.heap.size, 2, none⟩ = some (.int .u64 m) ∧ ((((((((((wx.setCell ⟨w.heap.size, 0, none⟩ x0).setCell ⟨w.heap.size, 1, none⟩ x1).setCell ⟨w.heap.size, 2, none⟩ x2).setCell ⟨w.heap.size, 3, none⟩ x3).setCell ⟨w.heap.size, 4, none⟩ x4).setCell ⟨w.heap.size, 5, none⟩ x5).setCell ⟨w.heap.size, 6, none⟩ x6).setCell ⟨w.heap.size, 7, none⟩ x7).setCell ⟨w.heap.size, 8, none⟩ x8).setCell ⟨w.heap.size, 9, none⟩ x9).cell? ⟨w1.heap.size, 3, none⟩ = some (.int .i64 x)) ∧ (((((((((((wx.setCell ⟨w.heap.size, 0, none⟩ x0).setCell ⟨w.heap.size, 1, none⟩ x1).setCell ⟨w.heap.size, 2, none⟩ x2).setCell ⟨w.heap.size, 3, none⟩ x3).setCell ⟨w.heap.size, 4, none⟩ x4).setCell ⟨w.heap.size, 5, none⟩ x5).setCell ⟨w.heap.size, 6, none⟩ x6).setCell ⟨w.heap.size, 7, none⟩ x7).setCell ⟨w.heap.size, 8, none⟩ x8).setCell ⟨w.heap.size, 9, none⟩ x9).cell? ⟨w2.heap.size, 0, none⟩ = some (.bool DA.neg) ∧ ((((((((((wx.setCell ⟨w.heap.size, 0, none⟩ x0).setCell ⟨w.heap.size, 1, none⟩ x1).setCell ⟨w.heap.size, 2, none⟩ x2).setCell ⟨w.heap.size, 3, none⟩ x3).setCell ⟨w.heap.size, 4, none⟩ x4).setCell ⟨w.heap.size, 5, none⟩ x5).setCell ⟨w.heap.size, 6, none⟩ x6).setCell ⟨w.heap.size, 7, none⟩ x7).setCell ⟨w.heap.size, 8, none⟩ x8).setCell ⟨w.heap.size, 9, none⟩ x9).cell? ⟨w2.heap.size, 1, none⟩ = some (.string t2) ∧ ((((((((((wx.setCell ⟨w.heap.size, 0, none⟩ x0).setCell ⟨w.heap.size, 1, none⟩ x1).setCell ⟨w.heap.size, 2, none⟩ x2).setCell ⟨w.heap.size, 3, none⟩ x3).setCell ⟨w.heap.size, 4, none⟩ x4).setCell ⟨w.heap.size, 5, none⟩ x5).setCell ⟨w.heap.size, 6, none⟩ x6).setCell ⟨w.heap.size, 7, none⟩ x7).setCell ⟨w.heap.size, 8, none⟩ x8).setCell ⟨w.heap.size, 9, none⟩ x9).cell? ⟨w2.heap.size, 2, none⟩ = some (.int .i64 DA.e))) ∧ (((((((((((wx.setCell ⟨w.heap.size, 0, none⟩ x0).setCell ⟨w.heap.size, 1, none⟩ x1).setCell ⟨w.heap.size, 2, none⟩ x2).setCell ⟨w.heap.size, 3, none⟩ x3).setCell ⟨w.heap.size, 4, none⟩ x4).setCell ⟨w.heap.size, 5, none⟩ x5).setCell ⟨w.heap.size, 6, none⟩ x6).setCell ⟨w.heap.size, 7, none⟩ x7).setCell ⟨w.heap.size, 8, none⟩ x8).setCell ⟨w.heap.size, 9, none⟩ x9).cell? ⟨w.heap.size, 0, none⟩ = some (g ((((((((((wx.setCell ⟨w.heap.size, 0, none⟩ x0).setCell ⟨w.heap.size, 1, none⟩ x1).setCell ⟨w.heap.size, 2, none⟩ x2).setCell ⟨w.heap.size, 3, none⟩ x3).setCell ⟨w.heap.size, 4, none⟩ x4).setCell ⟨w.heap.size, 5, none⟩ x5).setCell ⟨w.heap.size, 6, none⟩ x6).setCell ⟨w.heap.size, 7, none⟩ x7).setCell ⟨w.heap.size, 8, none⟩ x8).setCell ⟨w.heap.size, 9, none⟩ x9) 0) ∧ ((((((((((wx.setCell ⟨w.heap.size, 0, none⟩ x0).setCell ⟨w.heap.size, 1, none⟩ x1).setCell ⟨w.heap.size, 2, none⟩ x2).setCell ⟨w.heap.size, 3, none⟩ x3).setCell ⟨w.heap.size, 4, none⟩ x4).setCell ⟨w.heap.size, 5, none⟩ x5).setCell ⟨w.heap.size, 6, none⟩ x6).setCell ⟨w.heap.size, 7, none⟩ x7).setCell ⟨w.heap.size, 8, none⟩ x8).setCell ⟨w.heap.size, 9, none⟩ x9).frozen? ⟨w.heap.size, 0, none⟩ = false) ∧ (((((((((((wx.setCell ⟨w.heap.size, 0, none⟩ x0).setCell ⟨w.heap.size, 1, none⟩ x1).setCell ⟨w.heap.size, 2, none⟩ x2).setCell ⟨w.heap.size, 3, none⟩ x3).setCell ⟨w.heap.size, 4, none⟩ x4).setCell ⟨w.heap.size, 5, none⟩ x5).setCell ⟨w.heap.size, 6, none⟩ x6).setCell ⟨w.heap.size, 7, none⟩ x7).setCell ⟨w.heap.size, 8, none⟩ x8).setCell ⟨w.heap.size, 9, none⟩ x9).cell? ⟨w.heap.size, 1, none⟩ = some (g ((((((((((wx.setCell ⟨w.heap.size, 0, none⟩ x0).setCell ⟨w.heap.size, 1, none⟩ x1).setCell ⟨w.heap.size, 2, none⟩ x2).setCell ⟨w.heap.size, 3, none⟩ x3).setCell ⟨w.heap.size, 4, none⟩ x4).setCell ⟨w.heap.size, 5, none⟩ x5).setCell ⟨w.heap.size, 6, none⟩ x6).setCell ⟨w.heap.size, 7, none⟩ x7).setCell ⟨w.heap.size, 8, none⟩ x8).setCell ⟨w.heap.size, 9, none⟩ x9) 1) ∧ ((((((((((wx.setCell ⟨w.heap.size, 0, none⟩ x0).setCell ⟨w.heap.size, 1, none⟩ x1).setCell ⟨w.heap.size, 2, none⟩ x2).setCell ⟨w.heap.size, 3, none⟩ x3).setCell ⟨w.heap.size, 4, none⟩ x4).setCell ⟨w.heap.size, 5, none⟩ x5).setCell ⟨w.heap.size, 6, none⟩ x6).setCell ⟨w.heap.size, 7, none⟩ x7).setCell ⟨w.heap.size, 8, none⟩ x8).setCell ⟨w.heap.size, 9, none⟩ x9).frozen? ⟨w.heap.size, 1, none⟩ = false) ∧ (((((((((((wx.setCell ⟨w.heap.size, 0, none⟩ x0).setCell ⟨w.heap.size, 1, none⟩ x1).setCell ⟨w.heap.size, 2, none⟩ x2).setCell ⟨w.heap.size, 3, none⟩ x3).setCell ⟨w.heap.size, 4, none⟩ x4).setCell ⟨w.heap.size, 5, none⟩ x5).setCell ⟨w.heap.size, 6, none⟩ x6).setCell ⟨w.heap.size, 7, none⟩ x7).setCell ⟨w.heap.size, 8, none⟩ x8).setCell ⟨w.heap.size, 9, none⟩ x9).cell? ⟨w.heap.size, 2, none⟩ = some (g ((((((((((wx.setCell ⟨w.heap.size, 0, none⟩ x0).setCell ⟨w.heap.size, 1, none⟩ x1).setCell ⟨w.heap.size, 2, none⟩ x2).setCell ⟨w.heap.size, 3, none⟩ x3).setCell ⟨w.heap.size, 4, none⟩ x4).setCell ⟨w.heap.size, 5, none⟩ x5).setCell ⟨w.heap.size, 6, none⟩ x6).setCell ⟨w.heap.size, 7, none⟩ x7).setCell ⟨w.heap.size, 8, none⟩ x8).setCell ⟨w.heap.size, 9, none⟩ x9) 2) ∧ ((((((((((wx.setCell ⟨w.heap.size, 0, none⟩ x0).setCell ⟨w.heap.size, 1, none⟩ x1).setCell ⟨w.heap.size, 2, none⟩ x2).setCell ⟨w.heap.size, 3, none⟩ x3).setCell ⟨w.heap.size, 4, none⟩ x4).setCell ⟨w.heap.size, 5, none⟩ x5).setCell ⟨w.heap.size, 6, none⟩ x6).setCell ⟨w.heap.size, 7, none⟩ x7).setCell ⟨w.heap.size, 8, none⟩ x8).setCell ⟨w.heap.size, 9, none⟩ x9).frozen? ⟨w.heap.size, 2, none⟩ = false) ∧ (((((((((((wx.setCell ⟨w.heap.size, 0, none⟩ x0).setCell ⟨w.heap.size, 1, none⟩ x1).setCell ⟨w.heap.size, 2, none⟩ x2).setCell ⟨w.heap.size, 3, none⟩ x3).setCell ⟨w.heap.size, 4, none⟩ x4).setCell ⟨w.heap.size, 5, none⟩ x5).setCell ⟨w.heap.size, 6, none⟩ x6).setCell ⟨w.heap.size, 7, none⟩ x7).setCell ⟨w.heap.size, 8, none⟩ x8).setCell ⟨w.heap.size, 9, none⟩ x9).cell? ⟨w.heap.size, 3, none⟩ = some (g ((((((((((wx.setCell ⟨w.heap.size, 0, none⟩ x0).setCell ⟨w.heap.size, 1, none⟩ x1).setCell ⟨w.heap.size, 2, none⟩ x2).setCell ⟨w.heap.size, 3, none⟩ x3).setCell ⟨w.heap.size, 4, none⟩ x4).setCell ⟨w.heap.size, 5, none⟩ x5).setCell ⟨w.heap.size, 6, none⟩ x6).setCell ⟨w.heap.size, 7, none⟩ x7).setCell ⟨w.heap.size, 8, none⟩ x8).setCell ⟨w.heap.size, 9, none⟩ x9) 3) ∧ ((((((((((wx.setCell ⟨w.heap.size, 0, none⟩ x0).setCell ⟨w.heap.size, 1, none⟩ x1).setCell ⟨w.heap.size, 2, none⟩ x2).setCell ⟨w.heap.size, 3, none⟩ x3).setCell ⟨w.heap.size, 4, none⟩ x4).setCell ⟨w.heap.size, 5, none⟩ x5).setCell ⟨w.heap.size, 6, none⟩ x6).setCell ⟨w.heap.size, 7, none⟩ x7).setCell ⟨w.heap.size, 8, none⟩ x8).setCell ⟨w.heap.size, 9, none⟩ x9).frozen? ⟨w.heap.size, 3, none⟩ = false) ∧ (((((((((((wx.setCell ⟨w.heap.size, 0, none⟩ x0).setCell ⟨w.heap.size, 1, none⟩ x1).setCell ⟨w.heap.size, 2, none⟩ x2).setCell ⟨w.heap.size, 3, none⟩ x3).setCell ⟨w.heap.size, 4, none⟩ x4).setCell ⟨w.heap.size, 5, none⟩ x5).setCell ⟨w.heap.size, 6, none⟩ x6).setCell ⟨w.heap.size, 7, none⟩ x7).setCell ⟨w.heap.size, 8, none⟩ x8).setCell ⟨w.heap.size, 9, none⟩ x9).cell? ⟨w.heap.size, 4, none⟩ = some (g ((((((((((wx.setCell ⟨w.heap.size, 0, none⟩ x0).setCell ⟨w.heap.size, 1, none⟩ x1).setCell ⟨w.heap.size, 2, none⟩ x2).setCell ⟨w.heap.size, 3, none⟩ x3).setCell ⟨w.heap.size, 4, none⟩ x4).setCell ⟨w.heap.size, 5, none⟩ x5).setCell ⟨w.heap.size, 6, none⟩ x6).setCell ⟨w.heap.size, 7, none⟩ x7).setCell ⟨w.heap.size, 8, none⟩ x8).setCell ⟨w.heap.size, 9, none⟩ x9) 4) ∧ ((((((((((wx.setCell ⟨w.heap.size, 0, none⟩ x0).setCell ⟨w.heap.size, 1, none⟩ x1).setCell ⟨w.heap.size, 2, none⟩ x2).setCell ⟨w.heap.size, 3, none⟩ x3).setCell ⟨w.heap.size, 4, none⟩ x4).setCell ⟨w.heap.size, 5, none⟩ x5).setCell ⟨w.heap.size, 6, none⟩ x6).setCell ⟨w.heap.size, 7, none⟩ x7).setCell ⟨w.heap.size, 8, none⟩ x8).setCell ⟨w.heap.size, 9, none⟩ x9).frozen? ⟨w.heap.size, 4, none⟩ = false) ∧ (((((((((((wx.setCell ⟨w.heap.size, 0, none⟩ x0).setCell ⟨w.heap.size, 1, none⟩ x1).setCell ⟨w.heap.size, 2, none⟩ x2).setCell ⟨w.heap.size, 3, none⟩ x3).setCell ⟨w.heap.size, 4, none⟩ x4).setCell ⟨w.heap.size, 5, none⟩ x5).setCell ⟨w.heap.size, 6, none⟩ x6).setCell ⟨w.heap.size, 7, none⟩ x7).setCell ⟨w.heap.size, 8, none⟩ x8).setCell ⟨w.heap.size, 9, none⟩ x9).cell? ⟨w.heap.size, 5, none⟩ = some (g ((((((((((wx.setCell ⟨w.heap.size, 0, none⟩ x0).setCell ⟨w.heap.size, 1, none⟩ x1).setCell ⟨w.heap.size, 2, none⟩ x2).setCell ⟨w.heap.size, 3, none⟩ x3).setCell ⟨w.heap.size, 4, none⟩ x4).setCell ⟨w.heap.size, 5, none⟩ x5).setCell ⟨w.heap.size, 6, none⟩ x6).setCell ⟨w.heap.size, 7, none⟩ x7).setCell ⟨w.heap.size, 8, none⟩ x8).setCell ⟨w.heap.size, 9, none⟩ x9) 5) ∧ ((((((((((wx.setCell ⟨w.heap.size, 0, none⟩ x0).setCell ⟨w.heap.size, 1, none⟩ x1).setCell ⟨w.heap.size, 2, none⟩ x2).setCell ⟨w.heap.size, 3, none⟩ x3).setCell ⟨w.heap.size, 4, none⟩ x4).setCell ⟨w.heap.size, 5, none⟩ x5).setCell ⟨w.heap.size, 6, none⟩ x6).setCell ⟨w.heap.size, 7, none⟩ x7).setCell ⟨w.heap.size, 8, none⟩ x8).setCell ⟨w.heap.size, 9, none⟩ x9).frozen? ⟨w.heap.size, 5, none⟩ = false) ∧ (((((((((((wx.setCell ⟨w.heap.size, 0, none⟩ x0).setCell ⟨w.heap.size, 1, none⟩ x1).setCell ⟨w.heap.size, 2, none⟩ x2).setCell ⟨w.heap.size, 3, none⟩ x3).setCell ⟨w.heap.size, 4, none⟩ x4).setCell ⟨w.heap.size, 5, none⟩ x5).setCell ⟨w.heap.size, 6, none⟩ x6).setCell ⟨w.heap.size, 7, none⟩ x7).setCell ⟨w.heap.size, 8, none⟩ x8).setCell ⟨w.heap.size, 9, none⟩ x9).cell? ⟨w.heap.size, 6, none⟩ = some (g ((((((((((wx.setCell ⟨w.heap.size, 0, none⟩ x0).setCell ⟨w.heap.size, 1, none⟩ x1).setCell ⟨w.heap.size, 2, none⟩ x2).setCell ⟨w.heap.size, 3, none⟩ x3).setCell ⟨w.heap.size, 4, none⟩ x4).setCell ⟨w.heap.size, 5, none⟩ x5).setCell ⟨w.heap.size, 6, none⟩ x6).setCell ⟨w.heap.size, 7, none⟩ x7).setCell ⟨w.heap.size, 8, none⟩ x8).setCell ⟨w.heap.size, 9, none⟩ x9) 6) ∧ ((((((((((wx.setCell ⟨w.heap.size, 0, none⟩ x0).setCell ⟨w.heap.size, 1, none⟩ x1).setCell ⟨w.heap.size, 2, none⟩ x2).setCell ⟨w.heap.size, 3, none⟩ x3).setCell ⟨w.heap.size, 4, none⟩ x4).setCell ⟨w.heap.size, 5, none⟩ x5).setCell ⟨w.heap.size, 6, none⟩ x6).setCell ⟨w.heap.size, 7, none⟩ x7).setCell ⟨w.heap.size, 8, none⟩ x8).setCell ⟨w.heap.size, 9, none⟩ x9).frozen? ⟨w.heap.size, 6, none⟩ = false) ∧ (((((((((((wx.setCell ⟨w.heap.size, 0, none⟩ x0).setCell ⟨w.heap.size, 1, none⟩ x1).setCell ⟨w.heap.size, 2, none⟩ x2).setCell ⟨w.heap.size, 3, none⟩ x3).setCell ⟨w.heap.size, 4, none⟩ x4).setCell ⟨w.heap.size, 5, none⟩ x5).setCell ⟨w.heap.size, 6, none⟩ x6).setCell ⟨w.heap.size, 7, none⟩ x7).setCell ⟨w.heap.size, 8, none⟩ x8).setCell ⟨w.heap.size, 9, none⟩ x9).cell? ⟨w.heap.size, 7, none⟩ = some (g ((((((((((wx.setCell ⟨w.heap.size, 0, none⟩ x0).setCell ⟨w.heap.size, 1, none⟩ x1).setCell ⟨w.heap.size, 2, none⟩ x2).setCell ⟨w.heap.size, 3, none⟩ x3).setCell ⟨w.heap.size, 4, none⟩ x4).setCell ⟨w.heap.size, 5, none⟩ x5).setCell ⟨w.heap.size, 6, none⟩ x6).setCell ⟨w.heap.size, 7, none⟩ x7).setCell ⟨w.heap.size, 8, none⟩ x8).setCell ⟨w.heap.size, 9, none⟩ x9) 7) ∧ ((((((((((wx.setCell ⟨w.heap.size, 0, none⟩ x0).setCell ⟨w.heap.size, 1, none⟩ x1).setCell ⟨w.heap.size, 2, none⟩ x2).setCell ⟨w.heap.size, 3, none⟩ x3).setCell ⟨w.heap.size, 4, none⟩ x4).setCell ⟨w.heap.size, 5, none⟩ x5).setCell ⟨w.heap.size, 6, none⟩ x6).setCell ⟨w.heap.size, 7, none⟩ x7).setCell ⟨w.heap.size, 8, none⟩ x8).setCell ⟨w.heap.size, 9, none⟩ x9).frozen? ⟨w.heap.size, 7, none⟩ = false) ∧ (((((((((((wx.setCell ⟨w.heap.size, 0, none⟩ x0).setCell ⟨w.heap.size, 1, none⟩ x1).setCell ⟨w.heap.size, 2, none⟩ x2).setCell ⟨w.heap.size, 3, none⟩ x3).setCell ⟨w.heap.size, 4, none⟩ x4).setCell ⟨w.heap.size, 5, none⟩ x5).setCell ⟨w.heap.size, 6, none⟩ x6).setCell ⟨w.heap.size, 7, none⟩ x7).setCell ⟨w.heap.size, 8, none⟩ x8).setCell ⟨w.heap.size, 9, none⟩ x9).cell? ⟨w.heap.size, 8, none⟩ = some (g ((((((((((wx.setCell ⟨w.heap.size, 0, none⟩ x0).setCell ⟨w.heap.size, 1, none⟩ x1).setCell ⟨w.heap.size, 2, none⟩ x2).setCell ⟨w.heap.size, 3, none⟩ x3).setCell ⟨w.heap.size, 4, none⟩ x4).setCell ⟨w.heap.size, 5, none⟩ x5).setCell ⟨w.heap.size, 6, none⟩ x6).setCell ⟨w.heap.size, 7, none⟩ x7).setCell ⟨w.heap.size, 8, none⟩ x8).setCell ⟨w.heap.size, 9, none⟩ x9) 8) ∧ ((((((((((wx.setCell ⟨w.heap.size, 0, none⟩ x0).setCell ⟨w.heap.size, 1, none⟩ x1).setCell ⟨w.heap.size, 2, none⟩ x2).setCell ⟨w.heap.size, 3, none⟩ x3).setCell ⟨w.heap.size, 4, none⟩ x4).setCell ⟨w.heap.size, 5, none⟩ x5).setCell ⟨w.heap.size, 6, none⟩ x6).setCell ⟨w.heap.size, 7, none⟩ x7).setCell ⟨w.heap.size, 8, none⟩ x8).setCell ⟨w.heap.size, 9, none⟩ x9).frozen? ⟨w.heap.size, 8, none⟩ = false) ∧ (((((((((((wx.setCell ⟨w.heap.size, 0, none⟩ x0).setCell ⟨w.heap.size, 1, none⟩ x1).setCell ⟨w.heap.size, 2, none⟩ x2).setCell ⟨w.heap.size, 3, none⟩ x3).setCell ⟨w.heap.size, 4, none⟩ x4).setCell ⟨w.heap.size, 5, none⟩ x5).setCell ⟨w.heap.size, 6, none⟩ x6).setCell ⟨w.heap.size, 7, none⟩ x7).setCell ⟨w.heap.size, 8, none⟩ x8).setCell ⟨w.heap.size, 9, none⟩ x9).cell? ⟨w.heap.size, 9, none⟩ = some (g ((((((((((wx.setCell ⟨w.heap.size, 0, none⟩ x0).setCell ⟨w.heap.size, 1, none⟩ x1).setCell ⟨w.heap.size, 2, none⟩ x2).setCell ⟨w.heap.size, 3, none⟩ x3).setCell ⟨w.heap.size, 4, none⟩ x4).setCell ⟨w.heap.size, 5, none⟩ x5).setCell ⟨w.heap.size, 6, none⟩ x6).setCell ⟨w.heap.size, 7, none⟩ x7).setCell ⟨w.heap.size, 8, none⟩ x8).setCell ⟨w.heap.size, 9, none⟩ x9) 9) ∧ ((((((((((wx.setCell ⟨w.heap.size, 0, none⟩ x0).setCell ⟨w.heap.size, 1, none⟩ x1).setCell ⟨w.heap.size, 2, none⟩ x2).setCell ⟨w.heap.size, 3, none⟩ x3).setCell ⟨w.heap.size, 4, none⟩ x4).setCell ⟨w.heap.size, 5, none⟩ x5).setCell ⟨w.heap.size, 6, none⟩ x6).setCell ⟨w.heap.size, 7, none⟩ x7).setCell ⟨w.heap.size, 8, none⟩ x8).setCell ⟨w.heap.size, 9, none⟩ x9).frozen? ⟨w.heap.size, 9, none⟩ = false))) := fun wx x0 x1 x2 x3 x4 x5 x6 x7 x8 x9 h => by
      obtain ⟨⟨p2, p3⟩, q0, q1, q2⟩ := (CS.out wx h).2
      refine ⟨⟨⟨?_, ?_⟩, ?_, ?_, ?_⟩, TG.out _ _ _ _ _ _ _ _ _ _ _ (Ten.put (CS.out wx h).1 x0 x1 x2 x3 x4 x5 x6 x7 x8 x9)⟩
      · simp only [set_far lt1]; exact p2
      · simp only [set_far lt1]; exact p3
      · simp only [set_far lt2]; exact q0
      · simp only [set_far lt2]; exact q1
      · simp only [set_far lt2]; exact q2
    have TT : Hid (∀ wx : World, SS wx → Ten wx w.heap.size (.bool false) (.string ⟨#[]⟩) (.int .i64 0) (.bool false) (.string ⟨#[]⟩) (.int .i64 0) (.bool false) (.string ⟨#[]⟩) (.int .i64 0) (.bool false)) := fun wx h => (CS.out wx h).1
    clear hbL HB3 HBL ZB MS TZ TL PC CS lt1 lt2 lt3 TG hg R3
    go_upto_region 6 with fail
    generalize ((w3.setCell ⟨w2.heap.size, 0, none⟩ (.bool DA.neg)).setCell ⟨w2.heap.size, 1, none⟩ (.string t2)).setCell ⟨w2.heap.size, 2, none⟩ (.int .i64 DA.e) = wL at *
    clear lc0 lc1 lc2 lf0 lf1 lf2
    have T0 := hid (KS.out _ _ S0.out (drew_nil _))
    clear S0
    go_region_held3 (fun w' => ((w'.cell? ⟨w1.heap.size, 2, none⟩ = some (.int .u64 m) ∧ w'.cell? ⟨w1.heap.size, 3, none⟩ = some (.int .i64 x)) ∧ (w'.cell? ⟨w2.heap.size, 0, none⟩ = some (.bool DA.neg) ∧ w'.cell? ⟨w2.heap.size, 1, none⟩ = some (.string t2) ∧ w'.cell? ⟨w2.heap.size, 2, none⟩ = some (.int .i64 DA.e))) ∧ (w'.cell? ⟨w.heap.size, 0, none⟩ = some (g w' 0) ∧ w'.frozen? ⟨w.heap.size, 0, none⟩ = false) ∧ (w'.cell? ⟨w.heap.size, 1, none⟩ = some (g w' 1) ∧ w'.frozen? ⟨w.heap.size, 1, none⟩ = false) ∧ (w'.cell? ⟨w.heap.size, 2, none⟩ = some (g w' 2) ∧ w'.frozen? ⟨w.heap.size, 2, none⟩ = false) ∧ (w'.cell? ⟨w.heap.size, 3, none⟩ = some (g w' 3) ∧ w'.frozen? ⟨w.heap.size, 3, none⟩ = false) ∧ (w'.cell? ⟨w.heap.size, 4, none⟩ = some (g w' 4) ∧ w'.frozen? ⟨w.heap.size, 4, none⟩ = false) ∧ (w'.cell? ⟨w.heap.size, 5, none⟩ = some (g w' 5) ∧ w'.frozen? ⟨w.heap.size, 5, none⟩ = false) ∧ (w'.cell? ⟨w.heap.size, 6, none⟩ = some (g w' 6) ∧ w'.frozen? ⟨w.heap.size, 6, none⟩ = false) ∧ (w'.cell? ⟨w.heap.size, 7, none⟩ = some (g w' 7) ∧ w'.frozen? ⟨w.heap.size, 7, none⟩ = false) ∧ (w'.cell? ⟨w.heap.size, 8, none⟩ = some (g w' 8) ∧ w'.frozen? ⟨w.heap.size, 8, none⟩ = false) ∧ (w'.cell? ⟨w.heap.size, 9, none⟩ = some (g w' 9) ∧ w'.frozen? ⟨w.heap.size, 9, none⟩ = false)) (first | (with_reducible exact FS.out _ _ _ _ _ _ _ _ _ _ _ T2.out) | (with_reducible exact FT.out _ T2.out) | (with_reducible exact FT.out _ T1.out) | (with_reducible exact FT.out _ T0.out)) (first
      | (go_at_call 41; with_reducible refine (EV.out _).mono ?_; rintro e w5 ⟨t1, rfl, HT1, hB⟩; (first | (have T2 := hid (KS.out _ _ T1.out hB); clear hB) | (have T1 := hid (KS.out _ _ T0.out hB); clear hB)))
      | (go_at_call 42; with_reducible refine (HI.out _).mono ?_; rintro e w5 ⟨t3, rfl, HT3, hB⟩; (first | (have T2 := hid (KS.out _ _ T1.out hB); clear hB) | (have T1 := hid (KS.out _ _ T0.out hB); clear hB))))
    have KV := hid (G.out t1 t2 t3 HT1.out HT2.out HT3.out)
    have KB := hid (BS.out _ T2.out)
    have KT := hid (TT.out _ T2.out)
    clear HT1 HT2 HT3 FT FS TT T0 T1 T2 KS BS G HI EV
    go_wp2_with fail
    (try simp only [Exit.inBlock, Exit.then])
    refine bodyPost_ret (results_cell_row rfl _ _ w.heap.size 44 _ (0, 0) _ rfl (KT.out.put _ _ _ _ _ _ _ _ _ _) Tryz.underlying44 rfl (by kernel_rfl)) rfl ?_
    exact ⟨_, rfl, KV.out, set10_below KB.out (Nat.le_refl _)⟩
end Go.Proofs.YtonnlimmjelldaaGreatDoor

namespace Go.Proofs.YtonnlimmjelldaaGreatDoor
open Go Go.RowKit Go.Deep Go.Shelf

def compLays_ren : Go.Shelf.Ren := ⟨fun | 106 => 123 | 213 => 160 | 265 => 178 | n => n, fun | 9 => 9 | 3 => 3 | n => n, fun | n => n⟩
theorem compLays : Go.Proofs.Lays.n106 Tryz.prog compLays_ren := {
  mixed := by kernel_rfl
  f106 := Tryz.func123.trans (congrArg some (by kernel_rfl))
  f213 := Tryz.func160.trans (congrArg some (by kernel_rfl))
  f265 := Tryz.func178.trans (congrArg some (by kernel_rfl))
  t3 := Tryz.underlying3
  a3 := Tryz.isAgg3
  z3 := Tryz.sizeOf3
  v3 := Tryz.zeroValue3
  t9 := Tryz.underlying9
  a9 := Tryz.isAgg9
  z9 := Tryz.sizeOf9
  v9 := Tryz.zeroValue9 }

theorem lex_bytes (a b : List UInt8) : Lib.compareBytes a b = Sc.lex (a.map fun x => (x.toNat : Int)) (b.map fun x => (x.toNat : Int)) := by
  induction a generalizing b with
  | nil => cases b <;> rfl
  | cons x a ih =>
    cases b with
    | nil => rfl
    | cons y b =>
      simp only [Lib.compareBytes, List.map_cons, Sc.lex, ih]
      have h1 : (x < y) ↔ ((x.toNat : Int) < (y.toNat : Int)) := by rw [UInt8.lt_iff_toNat_lt]; omega
      have h2 : (y < x) ↔ ((y.toNat : Int) < (x.toNat : Int)) := by rw [UInt8.lt_iff_toNat_lt]; omega
      simp only [h1, h2]

theorem scompare_any (s t : ByteArray) (xs ys : List Int) (w : World) (hs : Str s xs) (ht : Str t ys) :
    Calls Tryz.prog 123 #[.string s, .string t] w fun e w' => e = .returned (.int .i64 (Sc.lex xs ys)) ∧ w' = w := by
  refine (Any.strings_Compare compLays s t w).mono ?_
  rintro e w' ⟨rfl, rfl⟩
  rw [lex_bytes]
  unfold Str at hs ht
  rw [hs, ht]
  exact ⟨rfl, rfl⟩
end Go.Proofs.YtonnlimmjelldaaGreatDoor

namespace Go.Proofs.YtonnlimmjelldaaGreatDoor
open Go Go.RowKit Go.Deep

theorem isnan_any (x : Int) (w : World) : Calls Tryz.prog 159 #[.int .i64 x] w fun e w' => e = .returned (.bool false) ∧ w' = w := by
  have h : (x != x) = false := by simp
  go_enter Tryz.func159, Tryz.ntmps159
  go_wp2_with fail
  go_ret
  exact ⟨by simp, rfl⟩

theorem cmpint_any (x y : Int) (w : World) : Calls Tryz.prog 122 #[.int .i64 x, .int .i64 y] w fun e w' => e = .returned (.int .i64 (Sc.cmpI x y)) ∧ w' = w := by
  have X := hid (fun wx => isnan_any x wx)
  have Y := hid (fun wx => isnan_any y wx)
  have C := hid (Sc.cmpI_c x y)
  go_enter Tryz.func122, Tryz.ntmps122
  go_wp2_with fail
  refine (X.out _).mono ?_
  rintro e w1 ⟨rfl, rfl⟩
  go_wp2_with fail
  refine (Y.out _).mono ?_
  rintro e w1 ⟨rfl, rfl⟩
  go_wp2_with fail
  all_goals (go_ret; exact ⟨congrArg (fun z => Ending.returned (.int .i64 z)) (by have := C.out; omega), rfl⟩)
end Go.Proofs.YtonnlimmjelldaaGreatDoor

namespace Go.Proofs.YtonnlimmjelldaaGreatDoor
open Go Go.RowKit Go.Deep

theorem str48 : (⟨#[48]⟩ : ByteArray).toList = [48] := by rw [ByteArray.toList_eq]

theorem vsign_any (d : Sc.D) (s : ByteArray) (w : World) (hs : Str s d.ds) : Calls Tryz.prog 121 #[.agg #[.bool d.neg, .string s, .int .i64 d.e]] w fun e w' => e = .returned (.int .i64 (Sc.sgn d)) ∧ Below w.heap.size w w' := by
  have B := hid (alloc_b w (.cells #[.bool d.neg, .string s, .int .i64 d.e] 28))
  rcases Sc.sgn_c d with ⟨h1, h2⟩ | ⟨h1, h3, h2⟩ | ⟨h1, h3, h2⟩
  · have hs0 : s = ⟨#[48]⟩ := hs.inj (by rw [h1]; rfl)
    subst hs0
    rw [h2]
    clear hs h1 h2
    go_enter Tryz.func121, Tryz.ntmps121
    go_wp2_with fail
    go_ret
    exact ⟨rfl, B.out⟩
  · have q : (s.toList == [48]) = false := by
      have := hs.eq (t := ⟨#[48]⟩) (ys := [48]) rfl
      rw [decide_eq_false h1, str48] at this
      exact this
    have q1 : s.toList ≠ [48] := by simpa using q
    rw [h2, h3]
    rw [h3] at B
    clear hs h1 h2 h3
    go_enter Tryz.func121, Tryz.ntmps121
    go_wp2_with fail
    go_ret
    exact ⟨rfl, B.out⟩
  · have q : (s.toList == [48]) = false := by
      have := hs.eq (t := ⟨#[48]⟩) (ys := [48]) rfl
      rw [decide_eq_false h1, str48] at this
      exact this
    have q1 : s.toList ≠ [48] := by simpa using q
    rw [h2, h3]
    rw [h3] at B
    clear hs h1 h2 h3
    go_enter Tryz.func121, Tryz.ntmps121
    go_wp2_with fail
    go_ret
    exact ⟨rfl, B.out⟩







/-- What Cmp tells. -/
def cmpE (na : Bool) (xs : List Int) (ea : Int) (nb : Bool) (ys : List Int) (eb : Int) : Int × Int := if Sc.IsDec xs ea ∧ Sc.IsDec ys eb then (Sc.cmpD (Sc.nrm na xs ea) (Sc.nrm nb ys eb), 0) else (0, 80)

theorem nmd_e (neg : Bool) (xs : List Int) (e : Int) (hn : xs.length ≤ 281474976710656) : -1152921504606846976 ≤ (nmd neg xs e).e ∧ (nmd neg xs e).e ≤ 1152921504606846976 ∧ (nmd neg xs e).ds.length ≤ 281474976710657 := by
  unfold nmd
  split
  · next h =>
    refine ⟨?_, ?_, ?_⟩
    · rcases Sc.nrm_e neg xs e with k | k
      · omega
      · have := h.2.1; omega
    · by_cases c : Sc.lz xs = xs.length
      · rw [Sc.nrm_zero c]; show (0 : Int) ≤ _; omega
      · rw [Sc.nrm_pos c]; exact h.2.2.2.2 c
    · have := Sc.nrm_len neg xs e; omega
  · simp

/-- Two Decs by their sizes. -/
theorem cmpD_same {a b : Sc.D} (h : Sc.sgn a = Sc.sgn b) : Sc.cmpD a b = if a.neg = true then Sc.mc b a else Sc.mc a b := by
  unfold Sc.cmpD; rw [if_neg (by simpa using h)]
theorem cmpD_apart {a b : Sc.D} (h : Sc.sgn a ≠ Sc.sgn b) : Sc.cmpD a b = Sc.cmpI (Sc.sgn a) (Sc.sgn b) := by
  unfold Sc.cmpD; rw [if_pos h]
theorem mc_apart {a b : Sc.D} (h : Sc.pl a ≠ Sc.pl b) : Sc.mc a b = Sc.cmpI (Sc.pl a) (Sc.pl b) := by
  unfold Sc.mc; rw [if_pos h]
theorem mc_same {a b : Sc.D} (h : Sc.pl a = Sc.pl b) : Sc.mc a b = Sc.lex a.ds b.ds := by
  unfold Sc.mc; rw [if_neg (by simpa using h)]
end Go.Proofs.YtonnlimmjelldaaGreatDoor
