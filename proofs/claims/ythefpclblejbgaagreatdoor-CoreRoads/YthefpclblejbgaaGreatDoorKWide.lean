/-
  quick: numbers of 128 bits and their products with one limb.
-/
import Derived.Test.YthefpclblejbgaaGreatDoorIRound
import Derived.Test.YthefpclblejbgaaGreatDoorBits
import Derived.Test.YthefpclblejbgaaGreatDoorBitsA
import Derived.Test.YthefpclblejbgaaGreatDoorV0
import Derived.Test.YthefpclblejbgaaGreatDoorKNum2
import Derived.Deep.Cut
import Derived.Deep.RegionHeld3
namespace Go.Proofs.YthefpclblejbgaaGreatDoor
open Go Go.RowKit Go.Deep

/-- Two limbs in a box, three limbs in a box. -/
def At2 (w : World) (b : Nat) (x y : Int) : Prop := w.heap[b]? = some (.cells #[.int .u64 x, .int .u64 y] 103 (0, 0))
def At3 (w : World) (b : Nat) (x y z : Int) : Prop := w.heap[b]? = some (.cells #[.int .u64 x, .int .u64 y, .int .u64 z] 100 (0, 0))
def wideV (x y : Int) : Value := .agg #[.int .u64 x, .int .u64 y]
def prodV (x y z : Int) : Value := .agg #[.int .u64 x, .int .u64 y, .int .u64 z]

theorem At2.below {B : Nat} {w w' : World} {b : Nat} {x y : Int} (h : At2 w b x y) (hB : Below B w w') (hb : b < B) : At2 w' b x y := by
  rw [At2, hB.block b hb]; exact h
theorem At3.below {B : Nat} {w w' : World} {b : Nat} {x y z : Int} (h : At3 w b x y z) (hB : Below B w w') (hb : b < B) : At3 w' b x y z := by
  rw [At3, hB.block b hb]; exact h
theorem At2.lt {w : World} {b : Nat} {x y : Int} (h : At2 w b x y) : b < w.heap.size := by
  rcases Nat.lt_or_ge b w.heap.size with hl | hl
  · exact hl
  · simp [At2, Array.getElem?_eq_none hl] at h
theorem At3.lt {w : World} {b : Nat} {x y z : Int} (h : At3 w b x y z) : b < w.heap.size := by
  rcases Nat.lt_or_ge b w.heap.size with hl | hl
  · exact hl
  · simp [At3, Array.getElem?_eq_none hl] at h
theorem At2.cells {w : World} {b : Nat} {x y : Int} (h : At2 w b x y) :
    (w.cell? ⟨b, 0, none⟩ = some (.int .u64 x) ∧ w.cell? ⟨b, 1, none⟩ = some (.int .u64 y)) ∧ w.frozen? ⟨b, 0, none⟩ = false ∧ w.frozen? ⟨b, 1, none⟩ = false := by
  simp only [At2] at h
  refine ⟨⟨?_, ?_⟩, ?_, ?_⟩ <;> simp [World.cell?, World.frozen?, h]
theorem At3.cells {w : World} {b : Nat} {x y z : Int} (h : At3 w b x y z) :
    (w.cell? ⟨b, 0, none⟩ = some (.int .u64 x) ∧ w.cell? ⟨b, 1, none⟩ = some (.int .u64 y) ∧ w.cell? ⟨b, 2, none⟩ = some (.int .u64 z)) ∧ w.frozen? ⟨b, 0, none⟩ = false ∧ w.frozen? ⟨b, 1, none⟩ = false ∧ w.frozen? ⟨b, 2, none⟩ = false := by
  simp only [At3] at h
  refine ⟨⟨?_, ?_, ?_⟩, ?_, ?_, ?_⟩ <;> simp [World.cell?, World.frozen?, h]
theorem At2.arg {w : World} {b : Nat} {x y : Int} (h : At2 w b x y) (x0 : 0 ≤ x) (x1 : x < 18446744073709551616) (y0 : 0 ≤ y) (y1 : y < 18446744073709551616) : Arg w (some ⟨b, 0, none⟩) 2 2 [x, y] := by
  refine ⟨rfl, Nat.le_refl _, by omega, .inr ⟨b, 0, rfl, fun i hi => ?_⟩, Nm.Limbs.mk x0 x1 (Nm.Limbs.mk y0 y1 Nm.Limbs.nil)⟩
  obtain ⟨⟨c0, c1⟩, _⟩ := h.cells
  rcases (show i = 0 ∨ i = 1 by simp at hi; omega) with rfl | rfl
  · exact c0
  · exact c1
theorem At3.arg {w : World} {b : Nat} {x y z : Int} (h : At3 w b x y z) (x0 : 0 ≤ x) (x1 : x < 18446744073709551616) (y0 : 0 ≤ y) (y1 : y < 18446744073709551616) (z0 : 0 ≤ z) (z1 : z < 18446744073709551616) : Arg w (some ⟨b, 0, none⟩) 3 3 [x, y, z] := by
  refine ⟨rfl, Nat.le_refl _, by omega, .inr ⟨b, 0, rfl, fun i hi => ?_⟩, Nm.Limbs.mk x0 x1 (Nm.Limbs.mk y0 y1 (Nm.Limbs.mk z0 z1 Nm.Limbs.nil))⟩
  obtain ⟨⟨c0, c1, c2⟩, _⟩ := h.cells
  rcases (show i = 0 ∨ i = 1 ∨ i = 2 by simp at hi; omega) with rfl | rfl | rfl
  · exact c0
  · exact c1
  · exact c2

/-- The number of three limbs. -/
def n3 (a b c : Int) : Int := a + 18446744073709551616 * b + 340282366920938463463374607431768211456 * c
def n2 (a b : Int) : Int := a + 18446744073709551616 * b
def Bd (x : Int) : Prop := 0 ≤ x ∧ x < 18446744073709551616

theorem inTable_any (q : Int) (w : World) :
    Calls Tryz.prog 66 #[.int .i64 q] w fun e w' => e = .returned (.bool (decide (-342 ≤ q ∧ q ≤ 308))) ∧ w' = w := by
  by_cases h : -342 ≤ q
  · by_cases k : q ≤ 308
    · rw [decide_eq_true (show -342 ≤ q ∧ q ≤ 308 from ⟨h, k⟩)]
      go_enter Tryz.func66, Tryz.ntmps66
      go_wp2_with fail
      go_ret
      exact ⟨rfl, rfl⟩
    · rw [decide_eq_false (show ¬ (-342 ≤ q ∧ q ≤ 308) by omega)]
      go_enter Tryz.func66, Tryz.ntmps66
      go_wp2_with fail
      go_ret
      exact ⟨rfl, rfl⟩
  · rw [decide_eq_false (show ¬ (-342 ≤ q ∧ q ≤ 308) by omega)]
    go_enter Tryz.func66, Tryz.ntmps66
    go_wp2_with fail
    go_ret
    exact ⟨rfl, rfl⟩

theorem exact_any9 (q : Int) (w : World) :
    Calls Tryz.prog 68 #[.int .i64 q] w fun e w' => e = .returned (.bool (decide (0 ≤ q ∧ q ≤ 55))) ∧ w' = w := by
  by_cases h : 0 ≤ q
  · by_cases k : q ≤ 55
    · rw [decide_eq_true (show 0 ≤ q ∧ q ≤ 55 from ⟨h, k⟩)]
      go_enter Tryz.func68, Tryz.ntmps68
      go_wp2_with fail
      go_ret
      exact ⟨rfl, rfl⟩
    · rw [decide_eq_false (show ¬ (0 ≤ q ∧ q ≤ 55) by omega)]
      go_enter Tryz.func68, Tryz.ntmps68
      go_wp2_with fail
      go_ret
      exact ⟨rfl, rfl⟩
  · rw [decide_eq_false (show ¬ (0 ≤ q ∧ q ≤ 55) by omega)]
    go_enter Tryz.func68, Tryz.ntmps68
    go_wp2_with fail
    go_ret
    exact ⟨rfl, rfl⟩

set_option maxRecDepth 100000 in
set_option maxHeartbeats 1000000 in
theorem head_any (a b c : Int) (w : World) :
    Calls Tryz.prog 102 #[prodV a b c] w fun e w' => e = .returned (wideV b c) ∧ Below w.heap.size w w' := by
  unfold prodV wideV
  go_enter Tryz.func102, Tryz.ntmps102
  go_wp2_with fail
  refine bodyPost_ret (results_cell_row rfl _ _ (w.heap.size + 1) 103 _ (0, 0) _ rfl (heap_alloc2_new _ _ _) Tryz.underlying103 rfl (by kernel_rfl)) rfl ?_
  exact ⟨rfl, below_on (alloc_b _ _) (alloc_b _ _)⟩

theorem mid3 (w : World) (A B C : Obj) : (((w.alloc A).alloc B).alloc C).heap[w.heap.size + 1]? = some B := by
  rw [heap_alloc_old _ _ (by show w.heap.size + 1 < ((w.heap.push A).push B).size; simp)]
  exact heap_alloc2_new w A B

theorem times_num {w x y h l h2 l2 s c : Int} (w0 : Bd w) (x0 : Bd x) (y0 : Bd y) (hl : Bd h ∧ Bd l) (hl2 : Bd h2 ∧ Bd l2) (e1 : l + 18446744073709551616 * h = w * x) (e2 : l2 + 18446744073709551616 * h2 = w * y)
    (hs : s = (l2 + h + 0) % 18446744073709551616) (hc : c = (l2 + h + 0) / 18446744073709551616) : Bd (h2 + c) ∧ n3 l s (h2 + c) = w * n2 x y := by
  unfold Bd at *
  have hd : w * n2 x y = w * x + 18446744073709551616 * (w * y) := by unfold n2; rw [Int.mul_add, Int.mul_left_comm]
  have b1 : w * x ≤ 18446744073709551615 * 18446744073709551615 := Int.mul_le_mul (by omega) (by omega) (by omega) (by omega)
  have b2 : w * y ≤ 18446744073709551615 * 18446744073709551615 := Int.mul_le_mul (by omega) (by omega) (by omega) (by omega)
  rw [hd, ← e1, ← e2]
  rw [← e1] at b1
  rw [← e2] at b2
  unfold n3
  refine ⟨⟨by omega, by omega⟩, by omega⟩

set_option maxRecDepth 100000 in
set_option maxHeartbeats 1000000 in
theorem ptimes_any (v x y : Int) (w : World) (hv : Bd v) (hx : Bd x) (hy : Bd y) :
    Calls Tryz.prog 63 #[.int .u64 v, wideV x y] w fun e w' => ∃ a b c, e = .returned (prodV a b c) ∧ (Bd a ∧ Bd b ∧ Bd c) ∧ n3 a b c = v * n2 x y ∧ Below w.heap.size w w' := by
  have M1 := hid (fun wx => mul64 v x hv.1 hv.2 hx.1 hx.2 wx)
  have M2 := hid (fun wx => mul64 v y hv.1 hv.2 hy.1 hy.2 wx)
  have HV := hid (And.intro hv (And.intro hx hy))
  clear hv hx hy
  unfold prodV wideV
  go_enter Tryz.func63, Tryz.ntmps63
  go_wp2_with fail
  refine (M1.out _).mono ?_
  rintro e w1 ⟨h, l, rfl, b1, e1, _, rfl⟩
  have B1 := hid b1
  clear b1
  go_wp2_with fail
  refine (M2.out _).mono ?_
  rintro e w1 ⟨h2, l2, rfl, b2, e2, _, rfl⟩
  have b1 := B1.out
  obtain ⟨s, hs⟩ : ∃ s, s = (l2 + h + 0) % 18446744073709551616 := ⟨_, rfl⟩
  obtain ⟨c, hc⟩ : ∃ c, c = (l2 + h + 0) / 18446744073709551616 := ⟨_, rfl⟩
  have AD := add64' l2 h 0 s c (by omega) (by omega) (by omega) (by omega) hs hc
  have N := hid (times_num HV.out.1 HV.out.2.1 HV.out.2.2 ⟨⟨by omega, by omega⟩, by omega, by omega⟩ ⟨⟨by omega, by omega⟩, by omega, by omega⟩ e1.out e2.out hs hc)
  have F : Hid ((Bd l ∧ Bd s ∧ Bd (h2 + c)) ∧ n3 l s (h2 + c) = v * n2 x y) := ⟨⟨⟨by omega, by omega⟩, ⟨by omega, by omega⟩, N.out.1⟩, N.out.2⟩
  have c0 : 0 ≤ h2 + c := N.out.1.1
  have c1 : h2 + c < 18446744073709551616 := N.out.1.2
  clear e1 e2 hs hc b1 b2 N
  go_wp2_with fail
  refine bodyPost_ret (results_cell_row rfl _ _ (w.heap.size + 1) 100 _ (0, 0) _ rfl (mid3 _ _ _ _) Tryz.underlying100 rfl (by kernel_rfl)) rfl ?_
  exact ⟨_, _, _, rfl, F.out.1, F.out.2, below_on (below_on (alloc_b _ _) (alloc_b _ _)) (alloc_b _ _)⟩

theorem plus_num {a b c v s k s1 k1 : Int} (ha : Bd a) (hb : Bd b) (hc : Bd c) (hv : Bd v) (hN : n3 a b c + v < 6277101735386680763835789423207666416102355444464034512896)
    (hs : s = (a + v + 0) % 18446744073709551616) (hk : k = (a + v + 0) / 18446744073709551616) (hs1 : s1 = (b + 0 + k) % 18446744073709551616) (hk1 : k1 = (b + 0 + k) / 18446744073709551616) :
    (Bd s ∧ Bd s1 ∧ Bd (c + k1)) ∧ n3 s s1 (c + k1) = n3 a b c + v := by
  unfold Bd n3 at *
  refine ⟨⟨⟨by omega, by omega⟩, ⟨by omega, by omega⟩, by omega, by omega⟩, by omega⟩

set_option maxRecDepth 100000 in
set_option maxHeartbeats 1000000 in
theorem pplus_any (a b c v : Int) (w : World) (ha : Bd a) (hb : Bd b) (hc : Bd c) (hv : Bd v) (hN : n3 a b c + v < 6277101735386680763835789423207666416102355444464034512896) :
    Calls Tryz.prog 69 #[prodV a b c, .int .u64 v] w fun e w' => ∃ x y z, e = .returned (prodV x y z) ∧ (Bd x ∧ Bd y ∧ Bd z) ∧ n3 x y z = n3 a b c + v ∧ Below w.heap.size w w' := by
  obtain ⟨s, hs⟩ : ∃ s, s = (a + v + 0) % 18446744073709551616 := ⟨_, rfl⟩
  obtain ⟨k, hk⟩ : ∃ k, k = (a + v + 0) / 18446744073709551616 := ⟨_, rfl⟩
  obtain ⟨s1, hs1⟩ : ∃ s, s = (b + 0 + k) % 18446744073709551616 := ⟨_, rfl⟩
  obtain ⟨k1, hk1⟩ : ∃ k1, k1 = (b + 0 + k) / 18446744073709551616 := ⟨_, rfl⟩
  have F := hid (plus_num ha hb hc hv hN hs hk hs1 hk1)
  have A1 := add64' a v 0 s k ha.1 hv.1 (by omega) (by omega) hs hk
  have A2 := add64' b 0 k s1 k1 hb.1 (by omega) (by unfold Bd at *; omega) (by unfold Bd at *; omega) hs1 hk1
  have c0 : 0 ≤ c + k1 := F.out.1.2.2.1
  have c1 : c + k1 < 18446744073709551616 := F.out.1.2.2.2
  clear hs hk hs1 hk1 hN ha hb hc hv
  unfold prodV
  go_enter Tryz.func69, Tryz.ntmps69
  go_wp2_with fail
  refine bodyPost_ret (results_cell_row rfl _ _ (w.heap.size + 1) 100 _ (0, 0) _ rfl (heap_alloc2_new _ _ _) Tryz.underlying100 rfl (by kernel_rfl)) rfl ?_
  exact ⟨_, _, _, rfl, F.out.1, F.out.2, below_on (alloc_b _ _) (alloc_b _ _)⟩

theorem n3_val (a b c : Int) : Nm.val [a, b, c] = n3 a b c := by unfold n3; simp only [Nm.val]; omega
theorem n2_val (a b : Int) : Nm.val [a, b] = n2 a b := by unfold n2; simp only [Nm.val]; omega
theorem ts3 (a b c : Int) : Nm.tsize [a, b, c] ≤ 4096 := Nat.le_trans (Nm.tsize_le _) (by simp)
theorem ts2 (a b : Int) : Nm.tsize [a, b] ≤ 4096 := Nat.le_trans (Nm.tsize_le _) (by simp)

set_option maxRecDepth 100000 in
set_option maxHeartbeats 1000000 in
theorem pround_any (a b c e : Int) (w : World) (hT : Tab w) (h : Bd a ∧ Bd b ∧ Bd c) :
    Calls Tryz.prog 64 #[prodV a b c, .int .i64 e] w fun r w' => ∃ x, r = .returned (.int .u64 x) ∧ Ie.Rnd (n3 a b c) 1 e false x ∧ Below w.heap.size w w' := by
  have R := hid (round_any false (some ⟨w.heap.size, 0, none⟩) 3 3 [a, b, c] (w.alloc (.cells #[.int .u64 a, .int .u64 b, .int .u64 c] 100)) (At3.arg (heap_alloc_new w _) h.1.1 h.1.2 h.2.1.1 h.2.1.2 h.2.2.1 h.2.2.2) (hT.below (alloc_b _ _)) (ts3 _ _ _) (n3 a b c) e false (n3_val a b c))
  clear h hT
  unfold prodV
  go_enter Tryz.func64, Tryz.ntmps64
  go_wp2_with fail
  refine R.out.mono ?_
  rintro r w1 ⟨x, rfl, hR, hB⟩
  have F := hid (And.intro hR (below_on (alloc_b _ _) hB))
  clear hR hB
  unfold Ie.sg
  go_wp2_with fail
  go_ret
  exact ⟨x, rfl, F.out⟩

/-- Two products in their boxes. -/
def TP (w wx : World) (a b c x y z : Int) : Prop := Below w.heap.size w wx ∧ At3 wx w.heap.size a b c ∧ At3 wx (w.heap.size + 1) x y z
theorem TP.new (w : World) (a b c x y z : Int) : TP w ((w.alloc (.cells #[.int .u64 a, .int .u64 b, .int .u64 c] 100)).alloc (.cells #[.int .u64 x, .int .u64 y, .int .u64 z] 100)) a b c x y z :=
  ⟨below_on (alloc_b _ _) (alloc_b _ _), heap_alloc2_old _ _ _, heap_alloc2_new _ _ _⟩
theorem TP.on {w wx wy : World} {a b c x y z : Int} (h : TP w wx a b c x y z) (k : Below wx.heap.size wx wy) : TP w wy a b c x y z :=
  ⟨below_on h.1 k, h.2.1.below k h.2.1.lt, h.2.2.below k h.2.2.lt⟩
theorem TP.drew {w wx : World} {a b c x y z : Int} (h : TP w wx a b c x y z) : TP w wx.drew a b c x y z := ⟨⟨h.1.1, h.1.2, h.1.3, h.1.4, h.1.5⟩, h.2.1, h.2.2⟩
theorem TP.flat {w wx : World} {a b c x y z : Int} (h : TP w wx a b c x y z) :
    (wx.cell? ⟨w.heap.size, 0, none⟩ = some (.int .u64 a) ∧ wx.cell? ⟨w.heap.size, 1, none⟩ = some (.int .u64 b) ∧ wx.cell? ⟨w.heap.size, 2, none⟩ = some (.int .u64 c)) ∧
    wx.cell? ⟨w.heap.size + 1, 0, none⟩ = some (.int .u64 x) ∧ wx.cell? ⟨w.heap.size + 1, 1, none⟩ = some (.int .u64 y) ∧ wx.cell? ⟨w.heap.size + 1, 2, none⟩ = some (.int .u64 z) :=
  ⟨h.2.1.cells.1, h.2.2.cells.1⟩

theorem eq_wide (a b c d : Int) (w : World) : (Op.equalIn 10000 103 (.agg #[.int .u64 a, .int .u64 b]) (.agg #[.int .u64 c, .int .u64 d])).run Tryz.prog w = .ok (decide (a = c ∧ b = d)) w := by
  have u3 := Tryz.underlying27
  have a3 := Tryz.isAgg27
  have z3 := Tryz.sizeOf27
  rw [show (10000 : Nat) = 9999 + 1 from rfl, Op.equalIn]
  simp only [Sem.run_bind, run_underlying Tryz.underlying103, Result.andThen_ok]
  simp only [Std.Legacy.Range.forIn_eq_forIn_range', Std.Legacy.Range.size, Nat.sub_zero, Nat.add_sub_cancel, Nat.div_one, List.range'_succ, List.range'_zero, List.forIn_cons, List.forIn_nil]
  go_simp
  by_cases h1 : a = c <;> by_cases h2 : b = d <;> simp [h1, h2]

set_option maxRecDepth 100000 in
set_option maxHeartbeats 4000000 in
theorem same_any9 (a b c x y z : Int) (w : World) :
    Calls Tryz.prog 70 #[prodV a b c, prodV x y z] w fun r w' => r = .returned (.bool (decide (a ≠ 0 ∧ b = y ∧ c = z))) ∧ Below w.heap.size w w' := by
  have Z := hid (TP.new w a b c x y z)
  have H1 := hid (fun wx => head_any a b c wx)
  have H2 := hid (fun wx => head_any x y z wx)
  by_cases h : a = 0
  · subst h
    rw [decide_eq_false (show ¬ ((0 : Int) ≠ 0 ∧ b = y ∧ c = z) by omega)]
    clear H1 H2
    unfold prodV
    go_enter Tryz.func70, Tryz.ntmps70
    go_upto_region 1 with fail
    go_quiet (fail)
    all_goals go_wp2_with fail
    all_goals go_ret
    exact ⟨rfl, ⟨Z.out.1.1, Z.out.1.2, Z.out.1.3, Z.out.1.4, Z.out.1.5⟩⟩
  · have hb : (a == 0) = false := by rw [beq_eq_false_iff_ne]; exact h
    have hn : (a != 0) = true := by rw [bne, hb]; rfl
    have EQ := eq_wide b c y z
    have DE : decide (a ≠ 0 ∧ b = y ∧ c = z) = decide (b = y ∧ c = z) := by simp [h]
    rw [DE]
    obtain ⟨t, ht⟩ : ∃ t, decide (b = y ∧ c = z) = t := ⟨_, rfl⟩
    rw [ht] at EQ ⊢
    clear ht DE
    unfold wideV at H1 H2
    unfold prodV at *
    go_enter Tryz.func70, Tryz.ntmps70
    go_upto_region 1 with fail
    generalize ((w.alloc (Obj.cells #[Value.int IntKind.u64 a, Value.int IntKind.u64 b, Value.int IntKind.u64 c] 100)).alloc (Obj.cells #[Value.int IntKind.u64 x, Value.int IntKind.u64 y, Value.int IntKind.u64 z] 100)) = wz at *
    have ZD := hid Z.out.drew
    obtain ⟨⟨c0, c1, c2⟩, c3, c4, c5⟩ := ZD.out.flat
    go_region_held3 (fun wx => (wx.cell? ⟨w.heap.size, 0, none⟩ = some (.int .u64 a) ∧ wx.cell? ⟨w.heap.size, 1, none⟩ = some (.int .u64 b) ∧ wx.cell? ⟨w.heap.size, 2, none⟩ = some (.int .u64 c)) ∧ wx.cell? ⟨w.heap.size + 1, 0, none⟩ = some (.int .u64 x) ∧ wx.cell? ⟨w.heap.size + 1, 1, none⟩ = some (.int .u64 y) ∧ wx.cell? ⟨w.heap.size + 1, 2, none⟩ = some (.int .u64 z)) (first | (with_reducible exact Z2.out.flat) | (with_reducible exact Z1.out.flat) | (with_reducible exact ZD.out.flat)) (first
      | (go_at_call 102; first
        | (with_reducible refine (H1.out _).mono ?_; rintro r w2 ⟨rfl, hB⟩; first | (have Z2 := hid (Z1.out.on hB); clear hB) | (have Z1 := hid (ZD.out.on hB); clear hB))
        | (with_reducible refine (H2.out _).mono ?_; rintro r w2 ⟨rfl, hB⟩; first | (have Z2 := hid (Z1.out.on hB); clear hB) | (have Z1 := hid (ZD.out.on hB); clear hB))))
    all_goals go_wp2_with fail
    all_goals go_ret
    all_goals exact ⟨rfl, Z2.out.1⟩
end Go.Proofs.YthefpclblejbgaaGreatDoor
