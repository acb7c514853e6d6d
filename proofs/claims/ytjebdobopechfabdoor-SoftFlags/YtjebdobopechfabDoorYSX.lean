/-
  Texts put together: YSpec, YWorks, YSame, YLift.
-/
import Derived.Test.YtjebdobopechfabDoorXSpec
import Derived.Test.YtjebdobopechfabDoorYUnits
import Derived.Test.YtjebdobopechfabDoorIDown
import Derived.Test.YtjebdobopechfabDoorYNum
import Derived.Test.YtjebdobopechfabDoorIDec
import Derived.Test.YtjebdobopechfabDoorIUp
import Derived.Test.YtjebdobopechfabDoorWalk4
import Derived.Test.YtjebdobopechfabDoorSmall
/-
  What is rounded is nearest, in the law's words; finite of law05.
-/
namespace Go.Proofs.YtjebdobopechfabDoor
open Go Go.RowKit Go.Deep
namespace Ie

theorem us_sb (neg : Bool) (x : Int) (h0 : 0 ≤ x) (h1 : x < 9223372036854775808) : us (sb neg x) = sn neg (un x) := by
  obtain ⟨h2, h3⟩ := ab_sb neg x h0 h1
  rw [us, h2, h3]

theorem okd_sb (neg : Bool) (x : Int) (h0 : 0 ≤ x) (h1 : x ≤ 9218868437227405312) : okd (sb neg x) = true := by
  have := (ab_sb neg x h0 (by omega)).1
  rw [ab] at this
  rw [okd, this, decide_eq_true_eq]
  exact h1

theorem isn_sb (neg : Bool) (x : Int) (h0 : 0 ≤ x) (h1 : x ≤ 9218868437227405312) : isn (sb neg x) = false := by
  rw [isn, (ab_sb neg x h0 (by omega)).1, decide_eq_false_iff_not]
  omega

/-- The next double above, by its sign. -/
theorem upd_sb (neg : Bool) (x : Int) (h0 : 0 ≤ x) (h1 : x ≤ 9218868437227405312) :
    upd (sb neg x) = if neg = true then (if x = 0 then sb false 1 else sb true (x - 1)) else (if x = 9218868437227405312 then sb false x else sb false (x + 1)) := by
  rw [upd, okd_sb neg x h0 h1, if_neg (by decide)]
  cases neg <;> simp only [sb, Bool.false_eq_true, if_true, if_false]
  · split <;> (try split) <;> (try split) <;> omega
  · split
    · omega
    · split
      · rw [if_pos (by omega)]
      · rw [if_pos (by omega), if_neg (by omega)]; omega

theorem ng_sb (neg : Bool) (x : Int) (h0 : 0 ≤ x) (h1 : x ≤ 9218868437227405312) : ng (sb neg x) = sb (!neg) x := by
  cases neg <;> simp only [ng, sb, Bool.false_eq_true, if_true, if_false, Bool.not_true, Bool.not_false] <;> split <;> omega

theorem dnd_sb (neg : Bool) (x : Int) (h0 : 0 ≤ x) (h1 : x ≤ 9218868437227405312) :
    dnd (sb neg x) = if neg = true then (if x = 9218868437227405312 then sb true x else sb true (x + 1)) else (if x = 0 then sb true 1 else sb false (x - 1)) := by
  rw [dnd, okd_sb neg x h0 h1, if_neg (by decide), ng_sb neg x h0 h1, upd_sb _ x h0 h1]
  cases neg <;> simp only [Bool.false_eq_true, if_true, if_false, Bool.not_true, Bool.not_false]
  · split
    · exact ng_sb false 1 (by omega) (by omega)
    · exact ng_sb true (x - 1) (by omega) (by omega)
  · split
    · exact ng_sb false x (by omega) (by omega)
    · exact ng_sb false (x + 1) (by omega) (by omega)

theorem az_sub_sn (neg : Bool) (V W : Int) : az (sn neg V - sn neg W) = az (V - W) := by
  cases neg
  · rfl
  · rw [sn_true, sn_true, show -V - -W = -(V - W) by omega, az_neg]

/-- What is rounded lies as near as its neighbours. -/
theorem RS.near {S m : Int} {z : Bool} {r : Int} (m0 : 0 < m) (h : RS S m z r) :
    (az (S - us r * m) < az (S - us (upd r) * m) ∨ (az (S - us r * m) = az (S - us (upd r) * m) ∧ r % 2 = 0)) ∧
    (az (S - us r * m) < az (S - us (dnd r) * m) ∨ (az (S - us r * m) = az (S - us (dnd r) * m) ∧ r % 2 = 0)) ∧
    (0 ≤ r ∧ r < 18446744073709551616) ∧ isn r = false ∧ isn (upd r) = false ∧ isn (dnd r) = false := by
  obtain ⟨neg, V, x, rfl, rfl, v0, hN, -⟩ := h
  obtain ⟨x0, x1⟩ := hN.1
  have r2 : sb neg x % 2 = x % 2 := by cases neg <;> simp only [sb, Bool.false_eq_true, if_true, if_false] <;> omega
  have rb : 0 ≤ sb neg x ∧ sb neg x < 18446744073709551616 := by cases neg <;> simp only [sb, Bool.false_eq_true, if_true, if_false] <;> omega
  have hs : us (sb neg x) * m = sn neg (un x * m) := by rw [us_sb neg x x0 (by omega), sn_mul_right]
  -- a neighbour away from nothing, and one towards it
  have far : x < 9218868437227405312 → az (sn neg V - us (sb neg x) * m) < az (sn neg V - us (sb neg (x + 1)) * m) ∨ (az (sn neg V - us (sb neg x) * m) = az (sn neg V - us (sb neg (x + 1)) * m) ∧ sb neg x % 2 = 0) := by
    intro hx
    rw [r2, hs, us_sb neg (x + 1) (by omega) (by omega), sn_mul_right, az_sub_sn, az_sub_sn]
    exact near_up m0 hN hx
  have close : 0 < x → az (sn neg V - us (sb neg x) * m) < az (sn neg V - us (sb neg (x - 1)) * m) ∨ (az (sn neg V - us (sb neg x) * m) = az (sn neg V - us (sb neg (x - 1)) * m) ∧ sb neg x % 2 = 0) := by
    intro hx
    rw [r2, hs, us_sb neg (x - 1) (by omega) (by omega), sn_mul_right, az_sub_sn, az_sub_sn]
    exact near_down m0 hN hx
  have cross : x = 0 → az (sn neg V - us (sb neg x) * m) < az (sn neg V - us (sb (!neg) 1) * m) := by
    intro hx
    subst hx
    rw [hs, us_sb (!neg) 1 (by omega) (by omega), sn_not, Int.neg_mul, sn_mul_right, az_sub_sn]
    have := near_cross m0 v0
    rw [Int.neg_mul] at this
    rw [show sn neg V - -sn neg (un 1 * m) = sn neg V - sn neg (-(un 1 * m)) by cases neg <;> simp only [sn, Bool.false_eq_true, if_true, if_false] <;> omega, az_sub_sn]
    exact this
  have even : (9218868437227405312 : Int) % 2 = 0 := by decide
  rw [upd_sb neg x x0 x1, dnd_sb neg x x0 x1]
  refine ⟨?_, ?_, rb, isn_sb neg x x0 x1, ?_, ?_⟩
  · cases neg <;> simp only [Bool.false_eq_true, if_true, if_false]
    · split
      · rename_i hx; right; exact ⟨rfl, by rw [r2, hx]; rfl⟩
      · exact far (by omega)
    · split
      · rename_i hx; left; exact cross hx
      · exact close (by omega)
  · cases neg <;> simp only [Bool.false_eq_true, if_true, if_false]
    · split
      · rename_i hx; left; exact cross hx
      · exact close (by omega)
    · split
      · rename_i hx; right; exact ⟨rfl, by rw [r2, hx]; rfl⟩
      · exact far (by omega)
  · cases neg <;> simp only [Bool.false_eq_true, if_true, if_false] <;> split <;> apply isn_sb <;> omega
  · cases neg <;> simp only [Bool.false_eq_true, if_true, if_false] <;> split <;> apply isn_sb <;> omega
end Ie

set_option maxRecDepth 100000 in
theorem yfinite_any (d : Int) (w : World) (h0 : 0 ≤ d) (h1 : d < 18446744073709551616) :
    Calls Tryd.prog 11 #[.int .u64 d] w fun e w' => e = .returned (.bool (decide (Ie.ab d < 9218868437227405312))) ∧ w' = w := by
  have B := Ib.sign_andNot d h0 h1
  rw [← Ie.ab] at B
  generalize Ie.ab d = x at B
  go_enter Tryd.func11, Tryd.ntmps11
  go_wp2
  go_ret
  exact ⟨rfl, rfl⟩
end Go.Proofs.YtjebdobopechfabDoor

/-
  law05: works (made by mkybase.py).
-/
namespace Go.Proofs.YtjebdobopechfabDoor
open Go Go.RowKit Go.Deep

theorem arg_lit {w : World} {g : Nat} {x : Int} (h : w.heap[g]? = some (.cells #[.int .u64 x] 22 (0, 0))) (h0 : 0 ≤ x) (h1 : x < 18446744073709551616) : Arg w (some ⟨g, 0, none⟩) 1 1 [x] := by
  refine ⟨rfl, Nat.le_refl _, by omega, .inr ⟨g, 0, rfl, fun i hi => ?_⟩, Nm.Limbs.mk h0 h1 Nm.Limbs.nil⟩
  obtain rfl : i = 0 := by simpa using hi
  simp [World.cell?, h]

set_option maxRecDepth 100000 in
set_option maxHeartbeats 4000000 in
theorem works_any (w : World) :
    Calls Tryd.prog 9 #[] w fun e w' => e = .returned (.bool true) ∧ Below w.heap.size w w' := by
  have pw1 : (15 : Int) < Nm.pw 4096 := by
    rw [pw_4096]
    have := Nm.two_mono (show 4 ≤ 262144 by omega)
    have e : (2 : Int) ^ 4 = 16 := rfl
    omega
  have M1 : Hid (∀ g1 g2 : Obj, g1 = .cells #[.int .u64 3] 22 → g2 = .cells #[.int .u64 5] 22 → Calls Tryd.prog 34 #[.slice (some ⟨w.heap.size, 0, none⟩) 1 1, .slice (some ⟨w.heap.size + 1, 0, none⟩) 1 1] ((w.alloc g1).alloc g2) fun e w' => ∃ r os, e = .returned (.tuple #[.slice r (List.length os) (List.length os), .int .i64 0]) ∧ Ans w.heap.size w' r os 15 ∧ Below w.heap.size w w') := by
    intro g1 g2 e1 e2
    subst e1 e2
    have hb := twice_alloc w (.cells #[.int .u64 3] 22) (.cells #[.int .u64 5] 22)
    refine (mul_ok _ _ 1 1 1 1 [3] [5] _ (arg_lit (heap_alloc2_old w _ _) (by omega) (by omega)) (arg_lit (heap_alloc2_new w _ _) (by omega) (by omega)) (by decide) (by decide) (by exact pw1)).mono ?_
    rintro e w1 ⟨r, os, rfl, A, hB⟩
    exact ⟨r, os, rfl, ⟨A.1, A.2.1, A.2.2.1, A.2.2.2.1, fun a h => by have := A.2.2.2.2 a h; have := hb.size; omega⟩, hb.trans (hB.mono hb.size)⟩
  have D1 : Hid (∀ wx : World, Calls Tryd.prog 26 #[.int .u64 4613937818241073152] wx fun e w' => e = .returned (.agg #[.bool false, .int .i64 2, .int .u64 6755399441055744, .int .i64 (-51)]) ∧ Below wx.heap.size wx w') := by
    intro wx
    exact decode_any 4613937818241073152 wx (by omega) (by omega)
  have U1 : Hid (∀ wx : World, Calls Tryd.prog 15 #[.int .u64 0] wx fun e w' => e = .returned (.int .u64 1) ∧ w' = wx) := by
    intro wx
    exact up_any 0 wx (by omega) (by omega)
  clear pw1
  go_enter Tryd.func9, Tryd.ntmps9
  go_wp2_with fail
  refine (M1.out _ _ rfl rfl).mono ?_
  rintro e w1 ⟨r, os, rfl, A, hB1⟩
  have HA := hid A
  have HB1 := hid hB1
  clear hB1 M1 A
  go_wp2_with fail
  refine (D1.out w1).mono ?_
  rintro e w2 ⟨rfl, hB2⟩
  have A2 := HA.out.below hB2 (Nat.le_refl _)
  have HB2 := hid (HB1.out.trans (hB2.mono HB1.out.size))
  have CM : Hid (∀ g1 g2 : Obj, g1 = .cells #[.bool false, .int .i64 2, .int .u64 6755399441055744, .int .i64 (-51)] 38 → g2 = .cells #[.int .u64 15] 22 → Calls Tryd.prog 17 #[.slice r os.length os.length, .slice (some ⟨w2.heap.size + 1, 0, none⟩) 1 1] ((w2.alloc g1).alloc g2) fun e w' => e = .returned (.int .i64 0) ∧ Below w.heap.size w w' ∧ w'.cell? ⟨w2.heap.size, 2, none⟩ = some (.int .u64 6755399441055744) ∧ w'.cell? ⟨w2.heap.size, 3, none⟩ = some (.int .i64 (-51))) := by
    intro g1 g2 e1 e2
    subst e1 e2
    have hb := twice_alloc w2 (.cells #[.bool false, .int .i64 2, .int .u64 6755399441055744, .int .i64 (-51)] 38) (.cells #[.int .u64 15] 22)
    have A3 := A2.below hb (Nat.le_refl _)
    have gg := (A3.tl' (K := 4) (by decide) (by omega)).1
    have lt : w2.heap.size < ((w2.alloc (.cells #[.bool false, .int .i64 2, .int .u64 6755399441055744, .int .i64 (-51)] 38)).alloc (.cells #[.int .u64 15] 22)).heap.size := by simp; omega
    have R : Row4 ((w2.alloc (.cells #[.bool false, .int .i64 2, .int .u64 6755399441055744, .int .i64 (-51)] 38)).alloc (.cells #[.int .u64 15] 22)) w2.heap.size 38 (.bool false) (.int .i64 2) (.int .u64 6755399441055744) (.int .i64 (-51)) := heap_alloc2_old w2 _ _
    refine (cmp_is 0 _ _ _ _ _ _ os [15] _ gg (arg_lit (heap_alloc2_new w2 _ _) (by omega) (by omega)) (by rw [A3.2.2.2.1]; rfl)).mono ?_
    rintro e w' ⟨rfl, hB⟩
    have R' := R.below hB lt
    have H := HB2.out.trans (hb.mono HB2.out.size)
    exact ⟨rfl, H.trans (hB.mono H.size), R'.cells.1.2.2.1, R'.cells.1.2.2.2⟩
  clear A2 hB2 D1 HB1 HA HB2
  go_wp2_with fail
  refine (CM.out _ _ rfl rfl).mono ?_
  rintro e w3 ⟨rfl, hB3, c2, c3⟩
  have HB3 := hid hB3
  clear hB3 CM
  go_wp2_with fail
  refine (U1.out _).mono ?_
  rintro e w4 ⟨rfl, rfl⟩
  go_wp2_with fail
  go_ret
  exact ⟨rfl, HB3.out⟩
end Go.Proofs.YtjebdobopechfabDoor

/-
  law05: same, adds, modest (made by mkytwo.py).
-/
namespace Go.Proofs.YtjebdobopechfabDoor
open Go Go.RowKit Go.Deep

set_option maxRecDepth 100000 in
set_option maxHeartbeats 8000000 in
theorem same_any (n1 n2 : Bool) (p1 p2 : Option Addr) (o1 o2 : List Int) (V1 V2 : Int) (B1 B2 : Nat) (w : World) (a1 : Ans B1 w p1 o1 V1) (a2 : Ans B2 w p2 o2 V2) (b1 : V1 < 2 ^ 9000) (b2 : V2 < 2 ^ 9000) :
    Calls Tryd.prog 21 #[numOf n1 p1 o1.length o1.length, numOf n2 p2 o2.length o2.length] w fun e w' => e = .returned (.bool (decide (Ie.sn n1 V1 = Ie.sn n2 V2))) ∧ Below w.heap.size w w' := by
  have AP := hid (fun (wx : World) (hx : Below w.heap.size w wx) => apart_any n1 n2 p1 p2 o1 o2 V1 V2 B1 B2 wx (a1.below hx (Nat.le_refl _)) (a2.below hx (Nat.le_refl _)) b1 b2)
  have h1 := alloc_b w (.cells #[.bool n1, .slice p1 o1.length o1.length] 28)
  have h2 := Below.alloc h1 h1.size (.cells #[.bool n2, .slice p2 o2.length o2.length] 28)
  have H2 := hid h2
  simp only [numOf] at AP ⊢
  generalize Ie.sn n1 V1 = z1 at *
  generalize Ie.sn n2 V2 = z2 at *
  clear a1 a2 b1 b2 h1 h2
  go_enter Tryd.func21, Tryd.ntmps21
  go_wp2_with fail
  refine (AP.out _ H2.out).mono ?_
  rintro e wc ⟨p, os, rfl, A, hB⟩
  have e0 : (os.length = 0) ↔ z1 = z2 := by
    have g := Nm.tsize_zero_iff A.2.1
    rw [A.2.2.1, A.2.2.2.1] at g
    rw [g]
    constructor
    · intro h
      have : z1 - z2 = 0 := by simp only [Ie.az] at h; split at h <;> omega
      omega
    · intro h
      rw [h, Int.sub_self]; decide
  have KK := hid (H2.out.trans (hB.mono H2.out.size))
  rcases Nat.eq_zero_or_pos os.length with h | h
  · have d : Hid (decide (z1 = z2) = true) := decide_eq_true (e0.1 h)
    clear A hB H2 AP e0
    go_wp2_with fail
    go_ret
    exact ⟨by rw [d.out]; rfl, KK.out⟩
  · have d : Hid (decide (z1 = z2) = false) := decide_eq_false (fun h' => by have := e0.2 h'; omega)
    have l0 : ((os.length : Int) == 0) = false := by rw [beq_eq_false_iff_ne]; omega
    clear A hB H2 AP e0
    go_wp2_with fail
    go_ret
    exact ⟨by rw [d.out]; rfl, KK.out⟩

set_option maxRecDepth 100000 in
set_option maxHeartbeats 8000000 in
theorem adds_any (w : World) (hT : Tab w) :
    Calls Tryd.prog 19 #[] w fun e w' => e = .returned (.bool true) ∧ Below w.heap.size w w' := by
  have AL := hid (fun (wx : World) (hx : Below w.heap.size w wx) => softAdd_any 4607182418800017408 4611686018427387904 wx (by omega) (by omega) (by omega) (by omega) (hT.below hx))
  have SL := hid (fun (wx : World) (hx : Below w.heap.size w wx) => softSub_any 4613937818241073152 4611686018427387904 wx (by omega) (by omega) (by omega) (by omega) (hT.below hx))
  clear hT
  go_enter Tryd.func19, Tryd.ntmps19
  go_wp2_with fail
  refine (AL.out w (Below.refl _ _)).mono ?_
  rintro e w2 ⟨r, f, rfl, hr, hB2⟩
  obtain rfl := Ie.add_12 hr
  have HB2 := hid hB2
  clear hr hB2 AL
  go_wp2_with fail
  refine (SL.out w2 HB2.out).mono ?_
  rintro e w3 ⟨r, f, rfl, hr, hB3⟩
  obtain rfl := Ie.sub_32 hr
  have HB3 := hid (HB2.out.trans (hB3.mono HB2.out.size))
  clear hr hB3 SL HB2
  go_wp2_with fail
  go_ret
  exact ⟨rfl, HB3.out⟩

set_option maxRecDepth 100000 in
theorem modest_any (d : Int) (w : World) (h0 : 0 ≤ d) (h1 : d < 18446744073709551616) :
    Calls Tryd.prog 22 #[.int .u64 d] w fun e w' => e = .returned (.bool (decide (Ie.ab d < 9209861237972664320))) ∧ w' = w := by
  have B := Ib.sign_andNot d h0 h1
  rw [← Ie.ab] at B
  generalize Ie.ab d = x at B
  go_enter Tryd.func22, Tryd.ntmps22
  go_wp2
  go_ret
  exact ⟨rfl, rfl⟩
end Go.Proofs.YtjebdobopechfabDoor

/-
  law05: lifted (made by mkybase.py).
-/
namespace Go.Proofs.YtjebdobopechfabDoor
open Go Go.RowKit Go.Deep

/-- A num of a given sign is told. -/
def NumAt (neg : Bool) (V : Int) (w : World) (e : Ending) (w' : World) : Prop :=
  ∃ p os, e = .returned (numOf neg p (List.length os) (List.length os)) ∧ Ans w.heap.size w' p os V ∧ Below w.heap.size w w'

set_option maxRecDepth 100000 in
set_option maxHeartbeats 4000000 in
theorem lifted_any (n1 : Bool) (p1 : Option Addr) (o1 : List Int) (V1 kk : Int) (k : Nat) (B1 : Nat) (w : World) (a1 : Ans B1 w p1 o1 V1) (b1 : V1 < 2 ^ 4500) (hk : kk = (k : Int)) (hk2 : k ≤ 4000) :
    Calls Tryd.prog 12 #[numOf n1 p1 o1.length o1.length, .int .i64 kk] w fun e w' => NumAt n1 (V1 * 2 ^ k) w e w' := by
  obtain ⟨g1, t1⟩ := a1.tl' b1 (by omega)
  have x1 := a1.2.2.2.1
  have room : V1 * 2 ^ k < Nm.pw 4096 := by
    rw [pw_4096]
    have h1 : V1 * 2 ^ k < 2 ^ 4500 * 2 ^ k := Int.mul_lt_mul_of_pos_right b1 (Nm.two_pos k)
    rw [← Nm.two_add] at h1
    have := Nm.two_mono (show 4500 + k ≤ 262144 by omega)
    omega
  have SH : Hid (∀ wx : World, Below w.heap.size w wx → Calls Tryd.prog 36 #[.slice p1 o1.length o1.length, .int .i64 kk] wx fun e w' => ∃ r os, e = .returned (.tuple #[.slice r (List.length os) (List.length os), .int .i64 0]) ∧ Ans wx.heap.size w' r os (V1 * 2 ^ k) ∧ Below wx.heap.size wx w') := by
    intro wx hx
    have := shl_any p1 _ _ o1 kk k wx (g1.below hx (Nat.le_refl _)) t1 hk (by rw [x1]; exact room)
    rw [x1] at this
    exact this
  have h1 := alloc_b w (.cells #[.bool n1, .slice p1 o1.length o1.length] 28)
  have s1 : (w.alloc (.cells #[.bool n1, .slice p1 o1.length o1.length] 28)).heap.size = w.heap.size + 1 := by simp
  have R0 := Row2.new (w.alloc (.cells #[.bool n1, .slice p1 o1.length o1.length] 28)) 28 (.bool false) (.slice none 0 0)
  rw [s1] at R0
  have X0 := (Row2.new w 28 (.bool n1) (.slice p1 o1.length o1.length)).below (alloc_b (w.alloc (.cells #[.bool n1, .slice p1 o1.length o1.length] 28)) (.cells #[.bool false, .slice none 0 0] 28)) (by omega)
  have h2 := Below.alloc h1 h1.size (.cells #[.bool false, .slice none 0 0] 28)
  have HR := hid R0
  have HX := hid X0
  have HB := hid h2
  simp only [numOf]
  generalize V1 * 2 ^ k = U at *
  clear a1 b1 hk hk2 g1 t1 x1 room h1 s1 R0 X0 h2
  go_enter Tryd.func12, Tryd.ntmps12
  go_wp2_with fail
  refine (SH.out _ HB.out).mono ?_
  rintro e wc ⟨r, os, rfl, A, hB⟩
  have Rc := HR.out.below hB HR.out.lt
  have Xc := HX.out.below hB HX.out.lt
  have lt := HR.out.lt
  have A' := A.set2 (b := w.heap.size + 1) (u0 := .bool n1) (u1 := .slice r os.length os.length) lt
  have KK : Hid (NumAt n1 U w (.returned (numOf n1 r (List.length os) (List.length os))) ((wc.setCell ⟨w.heap.size + 1, 0, none⟩ (.bool n1)).setCell ⟨w.heap.size + 1, 1, none⟩ (.slice r os.length os.length))) :=
    ⟨r, os, rfl, ⟨A'.1, A'.2.1, A'.2.2.1, A'.2.2.2.1, fun a h => by have := A'.2.2.2.2 a h; have := HB.out.size; omega⟩, set2_below (HB.out.trans (hB.mono HB.out.size)) (by omega)⟩
  obtain ⟨⟨q0, q1⟩, -⟩ := Xc.cells
  have RR := hid Rc
  obtain ⟨⟨r0, r1⟩, ⟨f0, f1⟩⟩ := Rc.cells
  clear Rc Xc lt A A' hB HR HX HB SH
  go_wp2_with fail
  (try simp only [Exit.inBlock, Exit.then])
  refine bodyPost_ret (results_cell_row rfl _ _ (w.heap.size + 1) 28 _ (0, 0) _ rfl (Row2.set RR.out) Tryd.underlying28 rfl (by kernel_rfl)) rfl ?_
  exact KK.out
end Go.Proofs.YtjebdobopechfabDoor
