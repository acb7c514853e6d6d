/-
  Texts put together: LHalf, TrailW, MSt, LSpan, VWalk1.
-/
import Derived.Test.YtmdcilllcgaliaaGreatDoorRC
import Derived.Deep.RegionHeld3
import Derived.Test.YtmdcilllcgaliaaGreatDoorBlenIs
import Derived.Shelf.Spec.TrailingZeros
import Derived.Laws.Bits64b
import Derived.Lib.ItoaNum
import Derived.Test.YtmdcilllcgaliaaGreatDoorXMem
namespace Go.Proofs.YtmdcilllcgaliaaGreatDoor
open Go Go.RowKit Go.Deep

/-- A block's cells. -/
def RB (w : World) (b t : Nat) (cs : Array Value) : Prop := w.heap[b]? = some (.cells cs t (0, 0))
theorem RB.new (w : World) (t : Nat) (cs : Array Value) : RB (w.alloc (.cells cs t)) w.heap.size t cs := heap_alloc_new w _
theorem RB.below {B : Nat} {w w' : World} {b t : Nat} {cs : Array Value} (h : RB w b t cs) (hB : Below B w w') (hb : b < B) : RB w' b t cs := by
  rw [RB, hB.block b hb]; exact h
theorem RB.lt {w : World} {b t : Nat} {cs : Array Value} (h : RB w b t cs) : b < w.heap.size := by
  rcases Nat.lt_or_ge b w.heap.size with hl | hl
  · exact hl
  · simp [RB, Array.getElem?_eq_none hl] at h
theorem RB.cell {w : World} {b t : Nat} {cs : Array Value} (h : RB w b t cs) (i : Nat) (v : Value) (hi : cs[i]? = some v) : w.cell? ⟨b, i, none⟩ = some v := by
  simp only [RB] at h
  simp [World.cell?, h, hi]
theorem RB.free {w : World} {b t : Nat} {cs : Array Value} (h : RB w b t cs) (i : Nat) : w.frozen? ⟨b, i, none⟩ = false := by
  simp only [RB] at h
  simp [World.frozen?, h]
theorem RB.far {w : World} {b c o t : Nat} {v : Value} {cs : Array Value} (h : RB w b t cs) (hc : c ≠ b) : RB (w.setCell ⟨c, o, none⟩ v) b t cs := by
  simp only [RB] at *
  simp only [World.setCell, Array.getElem?_modify]
  rw [if_neg hc]; exact h
theorem RB.set {w : World} {b t : Nat} {cs : Array Value} (h : RB w b t cs) (o : Nat) (v : Value) : RB (w.setCell ⟨b, o, none⟩ v) b t (cs.setIfInBounds o v) := fset1 h rfl

def cells10 (a0 a1 a2 b0 b1 b2 c0 c1 c2 d : Value) : Array Value := #[a0, a1, a2, b0, b1, b2, c0, c1, c2, d]
def Ten (w : World) (b : Nat) (a0 a1 a2 b0 b1 b2 c0 c1 c2 d : Value) : Prop := RB w b 58 #[a0, a1, a2, b0, b1, b2, c0, c1, c2, d]
theorem Ten.cells {w : World} {b : Nat} {a0 a1 a2 b0 b1 b2 c0 c1 c2 d : Value} (h : Ten w b a0 a1 a2 b0 b1 b2 c0 c1 c2 d) :
    (w.cell? ⟨b, 0, none⟩ = some a0 ∧ w.cell? ⟨b, 1, none⟩ = some a1 ∧ w.cell? ⟨b, 2, none⟩ = some a2) ∧ (w.cell? ⟨b, 3, none⟩ = some b0 ∧ w.cell? ⟨b, 4, none⟩ = some b1 ∧ w.cell? ⟨b, 5, none⟩ = some b2) ∧ (w.cell? ⟨b, 6, none⟩ = some c0 ∧ w.cell? ⟨b, 7, none⟩ = some c1 ∧ w.cell? ⟨b, 8, none⟩ = some c2) ∧ w.cell? ⟨b, 9, none⟩ = some d :=
  ⟨⟨h.cell 0 _ rfl, h.cell 1 _ rfl, h.cell 2 _ rfl⟩, ⟨h.cell 3 _ rfl, h.cell 4 _ rfl, h.cell 5 _ rfl⟩, ⟨h.cell 6 _ rfl, h.cell 7 _ rfl, h.cell 8 _ rfl⟩, h.cell 9 _ rfl⟩
theorem Ten.free {w : World} {b : Nat} {a0 a1 a2 b0 b1 b2 c0 c1 c2 d : Value} (h : Ten w b a0 a1 a2 b0 b1 b2 c0 c1 c2 d) :
    (w.frozen? ⟨b, 0, none⟩ = false ∧ w.frozen? ⟨b, 1, none⟩ = false ∧ w.frozen? ⟨b, 2, none⟩ = false) ∧ (w.frozen? ⟨b, 3, none⟩ = false ∧ w.frozen? ⟨b, 4, none⟩ = false ∧ w.frozen? ⟨b, 5, none⟩ = false) ∧ (w.frozen? ⟨b, 6, none⟩ = false ∧ w.frozen? ⟨b, 7, none⟩ = false ∧ w.frozen? ⟨b, 8, none⟩ = false) ∧ w.frozen? ⟨b, 9, none⟩ = false :=
  ⟨⟨RB.free h 0, RB.free h 1, RB.free h 2⟩, ⟨RB.free h 3, RB.free h 4, RB.free h 5⟩, ⟨RB.free h 6, RB.free h 7, RB.free h 8⟩, RB.free h 9⟩
theorem Ten.put {w : World} {b : Nat} {a0 a1 a2 b0 b1 b2 c0 c1 c2 d : Value} (h : Ten w b a0 a1 a2 b0 b1 b2 c0 c1 c2 d) (x0 x1 x2 y0 y1 y2 z0 z1 z2 u : Value) :
    Ten ((((((((((w.setCell ⟨b, 0, none⟩ x0).setCell ⟨b, 1, none⟩ x1).setCell ⟨b, 2, none⟩ x2).setCell ⟨b, 3, none⟩ y0).setCell ⟨b, 4, none⟩ y1).setCell ⟨b, 5, none⟩ y2).setCell ⟨b, 6, none⟩ z0).setCell ⟨b, 7, none⟩ z1).setCell ⟨b, 8, none⟩ z2).setCell ⟨b, 9, none⟩ u) b x0 x1 x2 y0 y1 y2 z0 z1 z2 u := by
  have h0 := fset1 (o := 0) (v := x0) (c' := #[x0, a1, a2, b0, b1, b2, c0, c1, c2, d]) h (by simp [Array.setIfInBounds])
  have h1 := fset1 (o := 1) (v := x1) (c' := #[x0, x1, a2, b0, b1, b2, c0, c1, c2, d]) h0 (by simp [Array.setIfInBounds])
  have h2 := fset1 (o := 2) (v := x2) (c' := #[x0, x1, x2, b0, b1, b2, c0, c1, c2, d]) h1 (by simp [Array.setIfInBounds])
  have h3 := fset1 (o := 3) (v := y0) (c' := #[x0, x1, x2, y0, b1, b2, c0, c1, c2, d]) h2 (by simp [Array.setIfInBounds])
  have h4 := fset1 (o := 4) (v := y1) (c' := #[x0, x1, x2, y0, y1, b2, c0, c1, c2, d]) h3 (by simp [Array.setIfInBounds])
  have h5 := fset1 (o := 5) (v := y2) (c' := #[x0, x1, x2, y0, y1, y2, c0, c1, c2, d]) h4 (by simp [Array.setIfInBounds])
  have h6 := fset1 (o := 6) (v := z0) (c' := #[x0, x1, x2, y0, y1, y2, z0, c1, c2, d]) h5 (by simp [Array.setIfInBounds])
  have h7 := fset1 (o := 7) (v := z1) (c' := #[x0, x1, x2, y0, y1, y2, z0, z1, c2, d]) h6 (by simp [Array.setIfInBounds])
  have h8 := fset1 (o := 8) (v := z2) (c' := #[x0, x1, x2, y0, y1, y2, z0, z1, z2, d]) h7 (by simp [Array.setIfInBounds])
  have h9 := fset1 (o := 9) (v := u) (c' := #[x0, x1, x2, y0, y1, y2, z0, z1, z2, u]) h8 (by simp [Array.setIfInBounds])
  exact h9
theorem set10_below {B : Nat} {w w' : World} {b : Nat} {x0 x1 x2 y0 y1 y2 z0 z1 z2 u : Value} (h : Below B w w') (hb : B ≤ b) : Below B w ((((((((((w'.setCell ⟨b, 0, none⟩ x0).setCell ⟨b, 1, none⟩ x1).setCell ⟨b, 2, none⟩ x2).setCell ⟨b, 3, none⟩ y0).setCell ⟨b, 4, none⟩ y1).setCell ⟨b, 5, none⟩ y2).setCell ⟨b, 6, none⟩ z0).setCell ⟨b, 7, none⟩ z1).setCell ⟨b, 8, none⟩ z2).setCell ⟨b, 9, none⟩ u) :=
  (fset3_below h hb).setCell (p := ⟨b, 3, none⟩) hb y0 |>.setCell (p := ⟨b, 4, none⟩) hb y1 |>.setCell (p := ⟨b, 5, none⟩) hb y2 |>.setCell (p := ⟨b, 6, none⟩) hb z0 |>.setCell (p := ⟨b, 7, none⟩) hb z1 |>.setCell (p := ⟨b, 8, none⟩) hb z2 |>.setCell (p := ⟨b, 9, none⟩) hb u

namespace Ie
theorem dec_fin2 (x : Int) (h0 : 0 < x) (h1 : x < 9218868437227405312) : dm x = man x ∧ de x = (ex x : Int) - 1074 := by
  have hf : fld x = x / 4503599627370496 := by simp only [fld]; omega
  by_cases hs : x < 4503599627370496
  · have c : cls x = 1 := by
      rw [cls, hf, if_pos (by omega), if_neg (by omega)]
    constructor
    · rw [dm, c, if_neg (by omega), if_pos (by omega), man, if_pos hs]; omega
    · rw [de, c, if_neg (by omega), if_pos rfl, ex]; omega
  · have c : cls x = 2 := by
      rw [cls, hf, if_neg (by omega), if_neg (by omega)]
    constructor
    · rw [dm, c, if_pos rfl, man, if_neg hs]
    · rw [de, c, if_pos rfl, ex, hf]; omega
end Ie
theorem Sh.zB0 : (1 : Int) * 2 ^ ((-1075 : Int) + 1075).toNat * Sh.T5 = Sh.B 0 := by rw [Sh.B, Ie.md_zero]; rfl
theorem Sh.zB {a : Int} : (2 * Ie.man a + 1) * 2 ^ ((Ie.ex a : Int) - 1074 - 1 + 1075).toNat * Sh.T5 = Sh.B a := by
  rw [Sh.B, Ie.md, show ((Ie.ex a : Int) - 1074 - 1 + 1075).toNat = Ie.ex a by omega]
theorem Sh.zV {a : Int} : Ie.man a * 2 ^ ((Ie.ex a : Int) - 1074 + 1075).toNat * Sh.T5 = Sh.V a := by
  rw [Sh.V, Ie.vl, show ((Ie.ex a : Int) - 1074 + 1075).toNat = Ie.ex a + 1 by omega, Int.pow_succ]
  generalize (2 : Int) ^ Ie.ex a = y
  generalize Sh.T5 = z
  congr 1
  rw [Int.mul_comm y 2, ← Int.mul_assoc, Int.mul_comm (Ie.man a) 2]
theorem Sh.ex_le {a : Int} (h : a < 9218868437227405312) : (Ie.ex a : Int) ≤ 2045 := by unfold Ie.ex; omega
theorem Sh.cls0 : Ie.cls 0 = 0 ∧ Ie.dm 0 = 0 ∧ Ie.de 0 = 0 := by decide
theorem Sh.clsP {a : Int} (h0 : 0 < a) (h1 : a < 9218868437227405312) : (Ie.cls a == 0) = false ∧ (Ie.cls a != 0) = true := by
  have : Ie.cls a ≠ 0 := by
    unfold Ie.cls Ie.fld
    split
    · split
      · omega
      · omega
    · split
      · split <;> omega
      · omega
  simp [this]

set_option maxRecDepth 100000 in
set_option maxHeartbeats 4000000 in
theorem zhalfway_any (a : Int) (w : World) (h0 : 0 ≤ a) (h1 : a < 9218868437227405312) :
    Calls Tryz.prog 56 #[.int .u64 a] w fun r w' => ∃ v, r = .returned v ∧ DecIs v (Sh.dd (Sh.B a)) ∧ Below w.heap.size w w' := by
  have D := hid (fun wx : World => decode_any a wx h0 (by omega))
  have Z := FR3.new w (.bool false) (.string ⟨#[]⟩) (.int .i64 0)
  have ZB := hid (alloc_b w (.cells #[.bool false, .string ⟨#[]⟩, .int .i64 0] 28))
  have HZ : Hid (FR3 (w.alloc (.cells #[.bool false, .string ⟨#[]⟩, .int .i64 0] 28)) w.heap.size (.bool false) (.string ⟨#[]⟩) (.int .i64 0) ∧ w.heap.size < (w.alloc (.cells #[.bool false, .string ⟨#[]⟩, .int .i64 0] 28)).heap.size) := ⟨Z, Z.lt⟩
  simp only [partsOf] at D
  clear Z
  rcases (show a = 0 ∨ 0 < a by omega) with ha | ha
  · subst ha
    have EX := hid (fun wx : World => zexact_any 1 (-1075) wx (by omega) (by omega) (by omega) (by omega))
    rw [Sh.zB0] at EX
    obtain ⟨k1, k2, k3⟩ := Sh.cls0
    rw [k1, k2, k3] at D
    clear k1 k2 k3 h0 h1
    generalize Sh.dd (Sh.B 0) = DD at *
    generalize decide (9223372036854775808 ≤ (0 : Int)) = neg at *
    go_enter Tryz.func56, Tryz.ntmps56
    go_wp2_with fail
    refine (D.out _).mono ?_
    rintro e w1 ⟨rfl, B1⟩
    have HB1 := hid B1
    clear B1 D
    go_wp2_with fail
    refine (EX.out _).mono ?_
    rintro e w2 ⟨v, rfl, ⟨t, hv, ht⟩, B2⟩
    unfold decV at hv
    subst hv
    have HB6 := hid (HB1.out.trans (((alloc_b w1 _).trans (B2.mono (alloc_b w1 _).size)).mono HB1.out.size))
    have R6 := hid (HZ.out.1.below HB6.out HZ.out.2)
    obtain ⟨⟨c0, c1, c2⟩, f0, f1, f2⟩ := R6.out.cells
    have G6 : Hid (∃ v, Ending.returned (.agg #[.bool DD.neg, .string t, .int .i64 DD.e]) = .returned v ∧ DecIs v DD) := ⟨_, rfl, t, rfl, ht⟩
    clear B2 EX ht HB1
    go_wp2_with fail
    (try simp only [Exit.inBlock, Exit.then])
    refine bodyPost_ret (results_cell_row rfl _ _ w.heap.size 28 _ (0, 0) _ rfl (R6.out.put _ _ _) Tryz.underlying28 rfl (by kernel_rfl)) rfl ?_
    obtain ⟨v, h1, h2⟩ := G6.out
    exact ⟨v, h1, h2, fset3_below (ZB.out.trans (HB6.out.mono ZB.out.size)) (Nat.le_refl _)⟩
  · obtain ⟨k2, k3⟩ := Ie.dec_fin2 a ha h1
    obtain ⟨k4, k5⟩ := Sh.clsP ha h1
    have xb := Sh.ex_le h1
    have mb := Ie.man_nn a h0
    rw [k2, k3] at D
    have EX := hid (fun wx : World => zexact_any (2 * Ie.man a + 1) ((Ie.ex a : Int) - 1074 - 1) wx (by omega) (by omega) (by omega) (by omega))
    rw [Sh.zB] at EX
    have xb0 : (0 : Int) ≤ (Ie.ex a : Int) := by omega
    clear k2 k3 h0 h1 ha
    generalize Sh.dd (Sh.B a) = DD at *
    generalize decide (9223372036854775808 ≤ a) = neg at *
    generalize Ie.cls a = c at *
    generalize Ie.man a = m at *
    generalize (Ie.ex a : Int) = x at *
    go_enter Tryz.func56, Tryz.ntmps56
    go_wp2_with fail
    refine (D.out _).mono ?_
    rintro e w1 ⟨rfl, B1⟩
    have HB1 := hid B1
    clear B1 D
    go_wp2_with fail
    refine (EX.out _).mono ?_
    rintro e w2 ⟨v, rfl, ⟨t, hv, ht⟩, B2⟩
    unfold decV at hv
    subst hv
    have HB6 := hid (HB1.out.trans (((alloc_b w1 _).trans (B2.mono (alloc_b w1 _).size)).mono HB1.out.size))
    have R6 := hid (HZ.out.1.below HB6.out HZ.out.2)
    obtain ⟨⟨c0, c1, c2⟩, f0, f1, f2⟩ := R6.out.cells
    have G6 : Hid (∃ v, Ending.returned (.agg #[.bool DD.neg, .string t, .int .i64 DD.e]) = .returned v ∧ DecIs v DD) := ⟨_, rfl, t, rfl, ht⟩
    clear B2 EX ht HB1
    go_wp2_with fail
    (try simp only [Exit.inBlock, Exit.then])
    refine bodyPost_ret (results_cell_row rfl _ _ w.heap.size 28 _ (0, 0) _ rfl (R6.out.put _ _ _) Tryz.underlying28 rfl (by kernel_rfl)) rfl ?_
    obtain ⟨v, h1, h2⟩ := G6.out
    exact ⟨v, h1, h2, fset3_below (ZB.out.trans (HB6.out.mono ZB.out.size)) (Nat.le_refl _)⟩
end Go.Proofs.YtmdcilllcgaliaaGreatDoor

namespace Go.Proofs.YtmdcilllcgaliaaGreatDoor
open Go.RowKit Go.Deep

/-- The kit's contract for TrailingZeros64, laid at this program. -/
def tzRen : Go.Shelf.Ren := ⟨fun _ => 66, fun t => if t = 22 then 25 else if t = 25 then 83 else if t = 54 then 128 else if t = 5 then 5 else if t = 4 then 4 else if t = 0 then 0 else 3, fun _ => 0⟩
theorem tzLays : Lays7.n29 Tryz.prog tzRen where
  mixed := by kernel_rfl
  f29 := by kernel_rfl
  t0 := by kernel_rfl
  a0 := fun _ => by kernel_rfl
  z0 := fun _ => by kernel_rfl
  v0 := fun _ => by kernel_rfl
  i0 := by kernel_rfl
  t3 := by kernel_rfl
  a3 := fun _ => by kernel_rfl
  z3 := fun _ => by kernel_rfl
  v3 := fun _ => by kernel_rfl
  i3 := by kernel_rfl
  t4 := by kernel_rfl
  a4 := fun _ => by kernel_rfl
  z4 := fun _ => by kernel_rfl
  v4 := fun _ => by kernel_rfl
  i4 := by kernel_rfl
  t5 := by kernel_rfl
  a5 := fun _ => by kernel_rfl
  z5 := fun _ => by kernel_rfl
  v5 := fun _ => by kernel_rfl
  i5 := by kernel_rfl
  t22 := by kernel_rfl
  a22 := fun _ => by kernel_rfl
  z22 := fun _ => by kernel_rfl
  v22 := fun _ => by kernel_rfl
  i22 := by kernel_rfl
  t25 := by kernel_rfl
  a25 := fun _ => by kernel_rfl
  z25 := fun _ => by kernel_rfl
  v25 := fun _ => by kernel_rfl
  i25 := by kernel_rfl
  t54 := by kernel_rfl
  a54 := fun _ => by kernel_rfl
  z54 := fun _ => by kernel_rfl
  g1 := by kernel_rfl

/-- The table that TrailingZeros64 reads. -/
def Tab (w : World) : Prop := TabAt 0 Lib.deBruijn64tab w

theorem Tab.below {w w' : World} (h : Tab w) (hb : Below w.heap.size w w') : Tab w' := by
  intro j hj
  have hc := h j hj
  rw [hb.cell (p := ⟨0, j, none⟩) (cell_lt hc)]
  exact hc

theorem tz64 (x : Int) (w : World) (h0 : 0 < x) (h1 : x < 18446744073709551616) (hT : Tab w) :
    Calls Tryz.prog 66 #[.int .u64 x] w fun e w' => ∃ (t : Nat) (m : Int), e = .returned (.int .i64 t) ∧ t ≤ 63 ∧ Hid (x = 2 ^ t * (2 * m + 1)) ∧ w' = w := by
  obtain ⟨n, rfl⟩ := Int.eq_ofNat_of_zero_le (show 0 ≤ x by omega)
  refine (Any7.bits_TrailingZeros64 tzLays n (by omega) w (fun _ => hT)).mono ?_
  rintro e w' ⟨rfl, rfl⟩
  obtain ⟨m, hm, hlt⟩ := Lib.ctzFrom_spec 64 n (by omega) (by simpa using (show n < 18446744073709551616 by omega))
  refine ⟨Lib.ctzFrom 64 n, m, by rw [Lib.ctz, if_neg (by omega)], by omega, ?_, rfl⟩
  show (n : Int) = _
  have e : ((2 ^ Lib.ctzFrom 64 n * (2 * m + 1) : Nat) : Int) = 2 ^ Lib.ctzFrom 64 n * (2 * (m : Int) + 1) := by simp
  rw [← e, ← hm]

set_option maxHeartbeats 1000000 in
theorem trail_any (p : Option Addr) (n cap : Nat) (zs : List Int) (w : World) (ha : Arg w p n cap zs) (hT : Tab w) :
    Calls Tryz.prog 280 #[.slice p n cap] w fun e w' => ∃ t : Nat, e = .returned (.int .i64 t) ∧ Nm.Trl (Nm.val zs) t ∧ w' = w := by
  obtain ⟨a1, a2, a3, a4, a5⟩ := ha
  rcases a4 with rfl | ⟨b, off, rfl, hcell⟩
  · have hn0 : n = 0 := by simpa using a1.symm
    subst hn0
    go_enter Tryz.func280, Tryz.ntmps280
    go_wp2
    refine wp_loop_rounds 1 ?_
    rw [rounds_succ]
    go_wp2
    go_ret
    exact ⟨0, rfl, .inl ⟨rfl, rfl⟩, rfl⟩
  · have H := hid a1
    have HC := hid hcell
    have HT := hid hT
    clear a1 hcell hT
    go_enter Tryz.func280, Tryz.ntmps280
    go_wp2
    go_loop [7] (fun t => ∃ k : Nat, k ≤ n ∧ t = .int .i64 k ∧ Hid (∀ j, j < k → zs.getD j 0 = 0)) (fun t => n - (intOf t).toNat)
    case atStart => exact ⟨0, Nat.zero_le _, rfl, fun j hj => by omega⟩
    case round =>
      obtain ⟨k, hk, rfl, hz⟩ := hrel
      by_cases hlt : k < n
      · obtain ⟨x, hx, X⟩ : ∃ x, w.cell? ⟨b, off + k, none⟩ = some (.int .u64 x) ∧ Hid (x = zs.getD k 0) := ⟨_, HC.out k (by have := H.out; omega), rfl⟩
        by_cases hx0 : x = 0
        · have hx0' : (x != 0) = false := by simp [hx0]
          have X0 := hid hx0
          clear hx0
          go_wp2
          go_round
          case rel =>
            refine ⟨k + 1, by omega, by go_num, fun i hi => ?_⟩
            by_cases e : i = k
            · subst e; rw [← X.out]; exact X0.out
            · exact hz.out i (by omega)
          case measure => simp [intOf]; omega
        · have hx0' : (x != 0) = true := by simp [hx0]
          have hxb := a5.at k
          rw [← X.out] at hxb
          have hx1 : 0 < x := by omega
          obtain ⟨hxa, hxb⟩ := hxb
          go_wp2_with fail
          refine (tz64 x _ hx1 hxb HT.out).mono ?_
          rintro e w' ⟨t, m, rfl, ht, E, rfl⟩
          go_wp2_with fail
          go_ret
          refine ⟨64 * k + t, retI (by omega), Nm.trl_at zs k t m (by have := H.out; omega) hz.out (by rw [← X.out]; exact E.out) ht, rfl⟩
      · have E : Hid (Nm.val zs = 0) := by
          have h0 : Nm.tsize zs = 0 := Nm.tsize_unique zs 0 (fun j _ => by
            by_cases hj : j < k
            · exact hz.out j hj
            · simp [List.getD, List.getElem?_eq_none (show zs.length ≤ j by have := H.out; omega)]) (.inl rfl)
          exact (Nm.tsize_zero_iff a5).1 h0
        go_wp2
        go_ret
        exact ⟨0, rfl, .inl ⟨E.out, rfl⟩, rfl⟩

end Go.Proofs.YtmdcilllcgaliaaGreatDoor

/-
  A state as one predicate: what it says of the memory, and that only new memory was written.
-/
namespace Go.Proofs.YtmdcilllcgaliaaGreatDoor
open Go Go.RowKit Go.Deep

structure St (S : World → Prop) (w wx : World) : Prop where
  cells : S wx
  bel : Below w.heap.size w wx

def Stays (S : World → Prop) : Prop := ∀ wx w' : World, S wx → Below wx.heap.size wx w' → S w'

theorem St.on {S : World → Prop} {w wx w' : World} (h : St S w wx) (k : Stays S) (hB : Below wx.heap.size wx w') : St S w w' := ⟨k _ _ h.cells hB, h.bel.trans (hB.mono h.bel.size)⟩
theorem St.drew {S : World → Prop} {w wx : World} (h : St S w wx) (k : Stays S) : St S w wx.drew := h.on k ⟨rfl, rfl, rfl, Nat.le_refl _, fun _ _ => rfl⟩
theorem St.more {S T : World → Prop} {w wx w' : World} (h : St S w wx) (k : Stays S) (hB : Below wx.heap.size wx w') (t : T w') : St (fun x => S x ∧ T x) w w' := ⟨⟨k _ _ h.cells hB, t⟩, h.bel.trans (hB.mono h.bel.size)⟩
theorem St.imp {S T : World → Prop} {w wx : World} (h : St S w wx) (k : ∀ x, S x → T x) : St T w wx := ⟨k _ h.cells, h.bel⟩
theorem St.to {S T : World → Prop} {w wx w' : World} (h : St S w wx) (hB : Below wx.heap.size wx w') (t : T w') : St T w w' := ⟨t, h.bel.trans (hB.mono h.bel.size)⟩

theorem Stays.cell (a : Addr) (v : Value) : Stays (fun w => w.cell? a = some v) := fun _ _ h hB => (hB.cell (cell_lt h)).trans h
theorem Stays.and {S T : World → Prop} (h : Stays S) (k : Stays T) : Stays (fun w => S w ∧ T w) := fun _ _ g hB => ⟨h _ _ g.1 hB, k _ _ g.2 hB⟩
theorem Stays.ans (B : Nat) (p : Option Addr) (os : List Int) (v : Int) : Stays (fun w => Ans B w p os v) := fun _ _ h hB => h.below hB (Nat.le_refl _)
theorem Stays.arg (p : Option Addr) (n cap : Nat) (os : List Int) : Stays (fun w => Arg w p n cap os) := fun _ _ h hB => h.below hB (Nat.le_refl _)
theorem Stays.tab : Stays Tab := fun _ _ h hB => h.below hB
theorem Stays.bel (w : World) : Stays (fun x => Below w.heap.size w x) := fun _ _ h hB => h.trans (hB.mono h.size)
theorem Stays.const (p : Prop) : Stays (fun _ => p) := fun _ _ h _ => h

/-- The state under a name of its own. -/
theorem state (S : World → Prop) (w : World) (k : Stays S) : ∃ SS : World → Prop, Hid (∀ wx w' : World, SS wx → Below wx.heap.size wx w' → SS w') ∧ Hid (∀ wx : World, SS wx → S wx) ∧ Hid (∀ wx : World, SS wx → Below w.heap.size w wx) ∧ Hid (∀ wx : World, S wx → Below w.heap.size w wx → SS wx) :=
  ⟨St S w, fun _ _ h hB => h.on k hB, fun _ h => h.cells, fun _ h => h.bel, fun _ h b => ⟨h, b⟩⟩

theorem drew_nil (w : World) : Below w.heap.size w w.drew := ⟨rfl, rfl, rfl, Nat.le_refl _, fun _ _ => rfl⟩
end Go.Proofs.YtmdcilllcgaliaaGreatDoor

namespace Go.Proofs.YtmdcilllcgaliaaGreatDoor
open Go Go.RowKit Go.Deep

/-- A span: a double, its bounds. -/
def spanV (P A B : Sc.D) (s1 s2 s3 : ByteArray) (c : Bool) : Value := .agg #[.bool P.neg, .string s1, .int .i64 P.e, .bool A.neg, .string s2, .int .i64 A.e, .bool B.neg, .string s3, .int .i64 B.e, .bool c]
def SpanIs (v : Value) (a : Int) : Prop := ∃ s1 s2 s3, v = spanV (Sh.dd (Sh.V a)) (Sh.dd (Sh.A a)) (Sh.dd (Sh.B a)) s1 s2 s3 (decide (a % 2 = 0)) ∧ Str s1 (Sh.dd (Sh.V a)).ds ∧ Str s2 (Sh.dd (Sh.A a)).ds ∧ Str s3 (Sh.dd (Sh.B a)).ds

theorem Sh.dnP {a : Int} (h0 : 0 < a) (h1 : a < 9218868437227405312) : Ie.dnd a = a - 1 := by
  have k : ∀ x : Int, x = a ∨ x = a + 9223372036854775808 → Ie.okd x = true := by
    intro x hx
    unfold Ie.okd
    apply decide_eq_true
    omega
  have n1 : Ie.ng a = a + 9223372036854775808 := by unfold Ie.ng; rw [if_pos (by omega)]
  unfold Ie.dnd
  rw [if_neg (by rw [k a (.inl rfl)]; decide), n1]
  unfold Ie.upd
  rw [if_neg (by rw [k _ (.inr rfl)]; decide), if_neg (by omega), if_neg (by omega), if_pos (by omega)]
  unfold Ie.ng
  rw [if_neg (by omega)]
  omega
theorem dec_open {k : Nat} {vs : Array Value} {D : Sc.D} (h : ∀ wx : World, Calls Tryz.prog k vs wx fun r w' => ∃ v, r = .returned v ∧ DecIs v D ∧ Below wx.heap.size wx w') :
    ∀ wx : World, Calls Tryz.prog k vs wx fun r w' => ∃ t, r = .returned (.agg #[.bool D.neg, .string t, .int .i64 D.e]) ∧ Hid (Str t D.ds) ∧ Below wx.heap.size wx w' := by
  intro wx
  refine (h wx).mono ?_
  rintro e w' ⟨v, rfl, ⟨t, hv, ht⟩, hB⟩
  exact ⟨t, by rw [hv]; rfl, ht, hB⟩
theorem set_far {w : World} {b c o i : Nat} {v : Value} (h : b ≠ c) : (w.setCell ⟨b, o, none⟩ v).cell? ⟨c, i, none⟩ = w.cell? ⟨c, i, none⟩ := by
  simp only [World.setCell, World.cell?, Array.getElem?_modify]
  rw [if_neg h]
theorem Sh.A0 : Sh.A 0 = 0 := by rw [Sh.A, if_pos rfl]
theorem Sh.AP {a : Int} (h : 0 < a) : Sh.A a = Sh.B (a - 1) := by rw [Sh.A, if_neg (by omega)]
theorem Sh.z00 : (0 : Int) * 2 ^ ((0 : Int) + 1075).toNat * Sh.T5 = 0 := by rw [Int.zero_mul, Int.zero_mul]

set_option maxRecDepth 100000 in
set_option maxHeartbeats 1000000 in
theorem zspan_any (d : Int) (w : World) (h0 : 0 ≤ d) (h1 : d < 18446744073709551616) (hf : d % 9223372036854775808 < 9218868437227405312) :
    Calls Tryz.prog 31 #[.int .u64 d] w fun r w' => ∃ v, r = .returned v ∧ SpanIs v (d % 9223372036854775808) ∧ Below w.heap.size w w' := by
  have AB := hid (fun wx : World => abs_any d wx h0 h1)
  obtain ⟨a, ha⟩ : ∃ a, d % 9223372036854775808 = a := ⟨_, rfl⟩
  have a0 : 0 ≤ a := by omega
  rw [ha] at hf AB ⊢
  have D := hid (fun wx : World => decode_any a wx a0 (by omega))
  have E0' := fun wx : World => zexact_any 0 0 wx (by omega) (by omega) (by omega) (by omega)
  rw [Sh.z00] at E0'
  have E0 := hid (dec_open E0')
  clear E0'
  have HI := hid (dec_open (fun wx : World => zhalfway_any a wx a0 hf))
  simp only [partsOf] at D
  have G : Hid (∀ s1 s2 s3, Str s1 (Sh.dd (Sh.V a)).ds → Str s2 (Sh.dd (Sh.A a)).ds → Str s3 (Sh.dd (Sh.B a)).ds → SpanIs (spanV (Sh.dd (Sh.V a)) (Sh.dd (Sh.A a)) (Sh.dd (Sh.B a)) s1 s2 s3 (decide (a % 2 = 0))) a) := fun s1 s2 s3 g1 g2 g3 => ⟨s1, s2, s3, rfl, g1, g2, g3⟩
  have cl : (a.tmod 2 == 0) = decide (a % 2 = 0) := by rw [Int.tmod_eq_emod_of_nonneg a0]; by_cases q : a % 2 = 0 <;> simp [q]
  have TZ : Hid (Ten (w.alloc (.cells #[.bool false, .string ⟨#[]⟩, .int .i64 0, .bool false, .string ⟨#[]⟩, .int .i64 0, .bool false, .string ⟨#[]⟩, .int .i64 0, .bool false] 58)) w.heap.size (.bool false) (.string ⟨#[]⟩) (.int .i64 0) (.bool false) (.string ⟨#[]⟩) (.int .i64 0) (.bool false) (.string ⟨#[]⟩) (.int .i64 0) (.bool false)) := RB.new w 58 _
  have ZB := hid (alloc_b w (.cells #[.bool false, .string ⟨#[]⟩, .int .i64 0, .bool false, .string ⟨#[]⟩, .int .i64 0, .bool false, .string ⟨#[]⟩, .int .i64 0, .bool false] 58))
  clear ha h0 h1
  rcases (show a = 0 ∨ 0 < a by omega) with hz | hp
  · subst hz
    obtain ⟨k1, k2, k3⟩ := Sh.cls0
    rw [k1, k2, k3] at D
    rw [Sh.A0, Sh.V_zero, show decide ((0 : Int) % 2 = 0) = true from rfl] at G
    have EV := E0
    clear k1 k2 k3 hf a0
    generalize decide (9223372036854775808 ≤ (0 : Int)) = neg at *
    generalize Sh.dd 0 = DA at *
    generalize Sh.dd (Sh.B 0) = DB at *
    go_enter Tryz.func31, Tryz.ntmps31
    go_wp2_with fail
    refine (AB.out _).mono ?_
    rintro e wz ⟨rfl, hz⟩
    subst hz
    go_wp2_with fail
    refine (D.out _).mono ?_
    rintro e w1 ⟨rfl, B1⟩
    have PC : Hid ((w1.alloc (.cells #[.bool neg, .int .i64 0, .int .u64 0, .int .i64 0] 79)).cell? ⟨w1.heap.size, 2, none⟩ = some (.int .u64 0) ∧ (w1.alloc (.cells #[.bool neg, .int .i64 0, .int .u64 0, .int .i64 0] 79)).cell? ⟨w1.heap.size, 3, none⟩ = some (.int .i64 0)) := ⟨(RB.new w1 79 _).cell 2 _ rfl, (RB.new w1 79 _).cell 3 _ rfl⟩
    have HS1 : Hid (w.heap.size < w1.heap.size) := Nat.lt_of_lt_of_le (RB.lt TZ.out) B1.size
    have PC0 : Hid ((w1.alloc (.cells #[.bool neg, .int .i64 0, .int .u64 0, .int .i64 0] 79)).cell? ⟨w1.heap.size, 1, none⟩ = some (.int .i64 0)) := (RB.new w1 79 _).cell 1 _ rfl
    have HB1 := hid (B1.trans ((alloc_b w1 (.cells #[.bool neg, .int .i64 0, .int .u64 0, .int .i64 0] 79)).mono B1.size))
    clear B1 D AB
    go_wp2_with fail
    refine (E0.out _).mono ?_
    rintro e w2 ⟨t2, rfl, HT2, B2⟩
    have HB2 := hid (HB1.out.trans (B2.mono HB1.out.size))
    have PC : Hid (w2.cell? ⟨w1.heap.size, 2, none⟩ = some (.int .u64 0) ∧ w2.cell? ⟨w1.heap.size, 3, none⟩ = some (.int .i64 0)) := ⟨(B2.cell (cell_lt PC.out.1)).trans PC.out.1, (B2.cell (cell_lt PC.out.2)).trans PC.out.2⟩
    have HBs : Hid (w.heap.size < w1.heap.size ∧ w1.heap.size < w2.heap.size) := ⟨HS1.out, Nat.lt_of_lt_of_le (RB.lt (RB.new w1 79 _)) B2.size⟩
    have PC1 : Hid (w2.cell? ⟨w1.heap.size, 1, none⟩ = some (.int .i64 0)) := (B2.cell (cell_lt PC0.out)).trans PC0.out
    clear B2 E0 HB1
    have hbL := hid (HB2.out.trans ((alloc_b w2 (.cells #[.bool DA.neg, .string t2, .int .i64 DA.e] 28)).mono HB2.out.size))
    obtain ⟨SS, KS, CS, BS, MS⟩ := state (fun w' => Ten w' w.heap.size (.bool false) (.string ⟨#[]⟩) (.int .i64 0) (.bool false) (.string ⟨#[]⟩) (.int .i64 0) (.bool false) (.string ⟨#[]⟩) (.int .i64 0) (.bool false) ∧ (w'.cell? ⟨w1.heap.size, 2, none⟩ = some (.int .u64 0) ∧ w'.cell? ⟨w1.heap.size, 3, none⟩ = some (.int .i64 0)) ∧ (w'.cell? ⟨w2.heap.size, 0, none⟩ = some (.bool DA.neg) ∧ w'.cell? ⟨w2.heap.size, 1, none⟩ = some (.string t2) ∧ w'.cell? ⟨w2.heap.size, 2, none⟩ = some (.int .i64 DA.e))) w
      (Stays.and (fun _ _ g hB => RB.below g hB (RB.lt g)) (((Stays.cell _ _).and (Stays.cell _ _)).and ((Stays.cell _ _).and ((Stays.cell _ _).and (Stays.cell _ _)))))
    have P3 := FR3.new w2 (.bool DA.neg) (.string t2) (.int .i64 DA.e)
    have aL := alloc_b w2 (.cells #[.bool DA.neg, .string t2, .int .i64 DA.e] 28)
    have S0 := hid (MS.out _ ⟨RB.below TZ.out hbL.out (RB.lt TZ.out), ⟨(aL.cell (cell_lt PC.out.1)).trans PC.out.1, (aL.cell (cell_lt PC.out.2)).trans PC.out.2⟩, P3.cells.1⟩ (ZB.out.trans (hbL.out.mono ZB.out.size)))
    have lt1 : w.heap.size ≠ w1.heap.size := by have := HBs.out; omega
    have lt2 : w.heap.size ≠ w2.heap.size := by have := HBs.out; omega
    obtain ⟨g, hg⟩ : ∃ g : World → Nat → Value, Hid (∀ w' i, g w' i = (w'.cell? ⟨w.heap.size, i, none⟩).getD (.bool false)) := ⟨_, fun _ _ => rfl⟩
    have TG : Hid (∀ (wx : World) (x0 x1 x2 x3 x4 x5 x6 x7 x8 x9 : Value), Ten wx w.heap.size x0 x1 x2 x3 x4 x5 x6 x7 x8 x9 → (wx.cell? ⟨w.heap.size, 0, none⟩ = some (g wx 0) ∧ wx.frozen? ⟨w.heap.size, 0, none⟩ = false) ∧ (wx.cell? ⟨w.heap.size, 1, none⟩ = some (g wx 1) ∧ wx.frozen? ⟨w.heap.size, 1, none⟩ = false) ∧ (wx.cell? ⟨w.heap.size, 2, none⟩ = some (g wx 2) ∧ wx.frozen? ⟨w.heap.size, 2, none⟩ = false) ∧ (wx.cell? ⟨w.heap.size, 3, none⟩ = some (g wx 3) ∧ wx.frozen? ⟨w.heap.size, 3, none⟩ = false) ∧ (wx.cell? ⟨w.heap.size, 4, none⟩ = some (g wx 4) ∧ wx.frozen? ⟨w.heap.size, 4, none⟩ = false) ∧ (wx.cell? ⟨w.heap.size, 5, none⟩ = some (g wx 5) ∧ wx.frozen? ⟨w.heap.size, 5, none⟩ = false) ∧ (wx.cell? ⟨w.heap.size, 6, none⟩ = some (g wx 6) ∧ wx.frozen? ⟨w.heap.size, 6, none⟩ = false) ∧ (wx.cell? ⟨w.heap.size, 7, none⟩ = some (g wx 7) ∧ wx.frozen? ⟨w.heap.size, 7, none⟩ = false) ∧ (wx.cell? ⟨w.heap.size, 8, none⟩ = some (g wx 8) ∧ wx.frozen? ⟨w.heap.size, 8, none⟩ = false) ∧ (wx.cell? ⟨w.heap.size, 9, none⟩ = some (g wx 9) ∧ wx.frozen? ⟨w.heap.size, 9, none⟩ = false)) := by
      intro wx x0 x1 x2 x3 x4 x5 x6 x7 x8 x9 h
      have key : ∀ i v, wx.cell? ⟨w.heap.size, i, none⟩ = some v → wx.cell? ⟨w.heap.size, i, none⟩ = some (g wx i) := fun i v q => by rw [hg.out, q]; rfl
      exact ⟨⟨key 0 _ (RB.cell h 0 _ rfl), RB.free h 0⟩, ⟨key 1 _ (RB.cell h 1 _ rfl), RB.free h 1⟩, ⟨key 2 _ (RB.cell h 2 _ rfl), RB.free h 2⟩, ⟨key 3 _ (RB.cell h 3 _ rfl), RB.free h 3⟩, ⟨key 4 _ (RB.cell h 4 _ rfl), RB.free h 4⟩, ⟨key 5 _ (RB.cell h 5 _ rfl), RB.free h 5⟩, ⟨key 6 _ (RB.cell h 6 _ rfl), RB.free h 6⟩, ⟨key 7 _ (RB.cell h 7 _ rfl), RB.free h 7⟩, ⟨key 8 _ (RB.cell h 8 _ rfl), RB.free h 8⟩, ⟨key 9 _ (RB.cell h 9 _ rfl), RB.free h 9⟩⟩
    have FT : Hid (∀ wx : World, SS wx → (((wx.cell? ⟨w1.heap.size, 2, none⟩ = some (.int .u64 0) ∧ wx.cell? ⟨w1.heap.size, 3, none⟩ = some (.int .i64 0)) ∧ (wx.cell? ⟨w2.heap.size, 0, none⟩ = some (.bool DA.neg) ∧ wx.cell? ⟨w2.heap.size, 1, none⟩ = some (.string t2) ∧ wx.cell? ⟨w2.heap.size, 2, none⟩ = some (.int .i64 DA.e))) ∧ (wx.cell? ⟨w.heap.size, 0, none⟩ = some (g wx 0) ∧ wx.frozen? ⟨w.heap.size, 0, none⟩ = false) ∧ (wx.cell? ⟨w.heap.size, 1, none⟩ = some (g wx 1) ∧ wx.frozen? ⟨w.heap.size, 1, none⟩ = false) ∧ (wx.cell? ⟨w.heap.size, 2, none⟩ = some (g wx 2) ∧ wx.frozen? ⟨w.heap.size, 2, none⟩ = false) ∧ (wx.cell? ⟨w.heap.size, 3, none⟩ = some (g wx 3) ∧ wx.frozen? ⟨w.heap.size, 3, none⟩ = false) ∧ (wx.cell? ⟨w.heap.size, 4, none⟩ = some (g wx 4) ∧ wx.frozen? ⟨w.heap.size, 4, none⟩ = false) ∧ (wx.cell? ⟨w.heap.size, 5, none⟩ = some (g wx 5) ∧ wx.frozen? ⟨w.heap.size, 5, none⟩ = false) ∧ (wx.cell? ⟨w.heap.size, 6, none⟩ = some (g wx 6) ∧ wx.frozen? ⟨w.heap.size, 6, none⟩ = false) ∧ (wx.cell? ⟨w.heap.size, 7, none⟩ = some (g wx 7) ∧ wx.frozen? ⟨w.heap.size, 7, none⟩ = false) ∧ (wx.cell? ⟨w.heap.size, 8, none⟩ = some (g wx 8) ∧ wx.frozen? ⟨w.heap.size, 8, none⟩ = false) ∧ (wx.cell? ⟨w.heap.size, 9, none⟩ = some (g wx 9) ∧ wx.frozen? ⟨w.heap.size, 9, none⟩ = false))) := fun wx h => ⟨(CS.out wx h).2, TG.out wx _ _ _ _ _ _ _ _ _ _ (CS.out wx h).1⟩
    have FS : Hid (∀ (wx : World) (x0 x1 x2 x3 x4 x5 x6 x7 x8 x9 : Value), SS wx → (((((((((((((wx.setCell ⟨w.heap.size, 0, none⟩ x0).setCell ⟨w.heap.size, 1, none⟩ x1).setCell ⟨w.heap.size, 2, none⟩ x2).setCell ⟨w.heap.size, 3, none⟩ x3).setCell ⟨w.heap.size, 4, none⟩ x4).setCell ⟨w.heap.size, 5, none⟩ x5).setCell ⟨w.heap.size, 6, none⟩ x6).setCell ⟨w.heap.size, 7, none⟩ x7).setCell ⟨w.heap.size, 8, none⟩ x8).setCell ⟨w.heap.size, 9, none⟩ x9).cell? ⟨w1.heap.size, 2, none⟩ = some (.int .u64 0) ∧ ((((((((((wx.setCell ⟨w.heap.size, 0, none⟩ x0).setCell ⟨w.heap.size, 1, none⟩ x1).setCell ⟨w.heap.size, 2, none⟩ x2).setCell ⟨w.heap.size, 3, none⟩ x3).setCell ⟨w.heap.size, 4, none⟩ x4).setCell ⟨w.heap.size, 5, none⟩ x5).setCell ⟨w.heap.size, 6, none⟩ x6).setCell ⟨w.heap.size, 7, none⟩ x7).setCell ⟨w.heap.size, 8, none⟩ x8).setCell ⟨w.heap.size, 9, none⟩ x9).cell? ⟨w1.heap.size, 3, none⟩ = some (.int .i64 0)) ∧ (((((((((((wx.setCell ⟨w.heap.size, 0, none⟩ x0).setCell ⟨w.heap.size, 1, none⟩ x1).setCell ⟨w.heap.size, 2, none⟩ x2).setCell ⟨w.heap.size, 3, none⟩ x3).setCell ⟨w.heap.size, 4, none⟩ x4).setCell ⟨w.heap.size, 5, none⟩ x5).setCell ⟨w.heap.size, 6, none⟩ x6).setCell ⟨w.heap.size, 7, none⟩ x7).setCell ⟨w.heap.size, 8, none⟩ x8).setCell ⟨w.heap.size, 9, none⟩ x9).cell? ⟨w2.heap.size, 0, none⟩ = some (.bool DA.neg) ∧ ((((((((((wx.setCell ⟨w.heap.size, 0, none⟩ x0).setCell ⟨w.heap.size, 1, none⟩ x1).setCell ⟨w.heap.size, 2, none⟩ x2).setCell ⟨w.heap.size, 3, none⟩ x3).setCell ⟨w.heap.size, 4, none⟩ x4).setCell ⟨w.heap.size, 5, none⟩ x5).setCell ⟨w.heap.size, 6, none⟩ x6).setCell ⟨w.heap.size, 7, none⟩ x7).setCell ⟨w.heap.size, 8, none⟩ x8).setCell ⟨w.heap.size, 9, none⟩ x9).cell? ⟨w2.heap.size, 1, none⟩ = some (.string t2) ∧ ((((((((((wx.setCell ⟨w.heap.size, 0, none⟩ x0).setCell ⟨w.heap.size, 1, none⟩ x1).setCell ⟨w.heap.size, 2, none⟩ x2).setCell ⟨w.heap.size, 3, none⟩ x3).setCell ⟨w.heap.size, 4, none⟩ x4).setCell ⟨w.heap.size, 5, none⟩ x5).setCell ⟨w.heap.size, 6, none⟩ x6).setCell ⟨w.heap.size, 7, none⟩ x7).setCell ⟨w.heap.size, 8, none⟩ x8).setCell ⟨w.heap.size, 9, none⟩ x9).cell? ⟨w2.heap.size, 2, none⟩ = some (.int .i64 DA.e))) ∧ (((((((((((wx.setCell ⟨w.heap.size, 0, none⟩ x0).setCell ⟨w.heap.size, 1, none⟩ x1).setCell ⟨w.heap.size, 2, none⟩ x2).setCell ⟨w.heap.size, 3, none⟩ x3).setCell ⟨w.heap.size, 4, none⟩ x4).setCell ⟨w.heap.size, 5, none⟩ x5).setCell ⟨w.heap.size, 6, none⟩ x6).setCell ⟨w.heap.size, 7, none⟩ x7).setCell ⟨w.heap.size, 8, none⟩ x8).setCell ⟨w.heap.size, 9, none⟩ x9).cell? ⟨w.heap.size, 0, none⟩ = some (g ((((((((((wx.setCell ⟨w.heap.size, 0, none⟩ x0).setCell ⟨w.heap.size, 1, none⟩ x1).setCell ⟨w.heap.size, 2, none⟩ x2).setCell ⟨w.heap.size, 3, none⟩ x3).setCell ⟨w.heap.size, 4, none⟩ x4).setCell ⟨w.heap.size, 5, none⟩ x5).setCell ⟨w.heap.size, 6, none⟩ x6).setCell ⟨w.heap.size, 7, none⟩ x7).setCell ⟨w.heap.size, 8, none⟩ x8).setCell ⟨w.heap.size, 9, none⟩ x9) 0) ∧ ((((((((((wx.setCell ⟨w.heap.size, 0, none⟩ x0).setCell ⟨w.heap.size, 1, none⟩ x1).setCell ⟨w.heap.size, 2, none⟩ x2).setCell ⟨w.heap.size, 3, none⟩ x3).setCell ⟨w.heap.size, 4, none⟩ x4).setCell ⟨w.heap.size, 5, none⟩ x5).setCell ⟨w.heap.size, 6, none⟩ x6).setCell ⟨w.heap.size, 7, none⟩ x7).setCell ⟨w.heap.size, 8, none⟩ x8).setCell ⟨w.heap.size, 9, none⟩ x9).frozen? ⟨w.heap.size, 0, none⟩ = false) ∧ (((((((((((wx.setCell ⟨w.heap.size, 0, none⟩ x0).setCell ⟨w.heap.size, 1, none⟩ x1).setCell ⟨w.heap.size, 2, none⟩ x2).setCell ⟨w.heap.size, 3, none⟩ x3).setCell ⟨w.heap.size, 4, none⟩ x4).setCell ⟨w.heap.size, 5, none⟩ x5).setCell ⟨w.heap.size, 6, none⟩ x6).setCell ⟨w.heap.size, 7, none⟩ x7).setCell ⟨w.heap.size, 8, none⟩ x8).setCell ⟨w.heap.size, 9, none⟩ x9).cell? ⟨w.heap.size, 1, none⟩ = some (g ((((((((((wx.setCell ⟨w.heap.size, 0, none⟩ x0).setCell ⟨w.heap.size, 1, none⟩ x1).setCell ⟨w.heap.size, 2, none⟩ x2).setCell ⟨w.heap.size, 3, none⟩ x3).setCell ⟨w.heap.size, 4, none⟩ x4).setCell ⟨w.heap.size, 5, none⟩ x5).setCell ⟨w.heap.size, 6, none⟩ x6).setCell ⟨w.heap.size, 7, none⟩ x7).setCell ⟨w.heap.size, 8, none⟩ x8).setCell ⟨w.heap.size, 9, none⟩ x9) 1) ∧ ((((((((((wx.setCell ⟨w.heap.size, 0, none⟩ x0).setCell ⟨w.heap.size, 1, none⟩ x1).setCell ⟨w.heap.size, 2, none⟩ x2).setCell ⟨w.heap.size, 3, none⟩ x3).setCell ⟨w.heap.size, 4, none⟩ x4).setCell ⟨w.heap.size, 5, none⟩ x5).setCell ⟨w.heap.size, 6, none⟩ x6).setCell ⟨w.heap.size, 7, none⟩ x7).setCell ⟨w.heap.size, 8, none⟩ x8).setCell ⟨w.heap.size, 9, none⟩ x9).frozen? ⟨w.heap.size, 1, none⟩ = false) ∧ (((((((((((wx.setCell ⟨w.heap.size, 0, none⟩ x0).setCell ⟨w.heap.size, 1, none⟩ x1).setCell ⟨w.heap.size, 2, none⟩ x2).setCell ⟨w.heap.size, 3, none⟩ x3).setCell ⟨w.heap.size, 4, none⟩ x4).setCell ⟨w.heap.size, 5, none⟩ x5).setCell ⟨w.heap.size, 6, none⟩ x6).setCell ⟨w.heap.size, 7, none⟩ x7).setCell ⟨w.heap.size, 8, none⟩ x8).setCell ⟨w.heap.size, 9, none⟩ x9).cell? ⟨w.heap.size, 2, none⟩ = some (g ((((((((((wx.setCell ⟨w.heap.size, 0, none⟩ x0).setCell ⟨w.heap.size, 1, none⟩ x1).setCell ⟨w.heap.size, 2, none⟩ x2).setCell ⟨w.heap.size, 3, none⟩ x3).setCell ⟨w.heap.size, 4, none⟩ x4).setCell ⟨w.heap.size, 5, none⟩ x5).setCell ⟨w.heap.size, 6, none⟩ x6).setCell ⟨w.heap.size, 7, none⟩ x7).setCell ⟨w.heap.size, 8, none⟩ x8).setCell ⟨w.heap.size, 9, none⟩ x9) 2) ∧ ((((((((((wx.setCell ⟨w.heap.size, 0, none⟩ x0).setCell ⟨w.heap.size, 1, none⟩ x1).setCell ⟨w.heap.size, 2, none⟩ x2).setCell ⟨w.heap.size, 3, none⟩ x3).setCell ⟨w.heap.size, 4, none⟩ x4).setCell ⟨w.heap.size, 5, none⟩ x5).setCell ⟨w.heap.size, 6, none⟩ x6).setCell ⟨w.heap.size, 7, none⟩ x7).setCell ⟨w.heap.size, 8, none⟩ x8).setCell ⟨w.heap.size, 9, none⟩ x9).frozen? ⟨w.heap.size, 2, none⟩ = false) ∧ (((((((((((wx.setCell ⟨w.heap.size, 0, none⟩ x0).setCell ⟨w.heap.size, 1, none⟩ x1).setCell ⟨w.heap.size, 2, none⟩ x2).setCell ⟨w.heap.size, 3, none⟩ x3).setCell ⟨w.heap.size, 4, none⟩ x4).setCell ⟨w.heap.size, 5, none⟩ x5).setCell ⟨w.heap.size, 6, none⟩ x6).setCell ⟨w.heap.size, 7, none⟩ x7).setCell ⟨w.heap.size, 8, none⟩ x8).setCell ⟨w.heap.size, 9, none⟩ x9).cell? ⟨w.heap.size, 3, none⟩ = some (g ((((((((((wx.setCell ⟨w.heap.size, 0, none⟩ x0).setCell ⟨w.heap.size, 1, none⟩ x1).setCell ⟨w.heap.size, 2, none⟩ x2).setCell ⟨w.heap.size, 3, none⟩ x3).setCell ⟨w.heap.size, 4, none⟩ x4).setCell ⟨w.heap.size, 5, none⟩ x5).setCell ⟨w.heap.size, 6, none⟩ x6).setCell ⟨w.heap.size, 7, none⟩ x7).setCell ⟨w.heap.size, 8, none⟩ x8).setCell ⟨w.heap.size, 9, none⟩ x9) 3) ∧ ((((((((((wx.setCell ⟨w.heap.size, 0, none⟩ x0).setCell ⟨w.heap.size, 1, none⟩ x1).setCell ⟨w.heap.size, 2, none⟩ x2).setCell ⟨w.heap.size, 3, none⟩ x3).setCell ⟨w.heap.size, 4, none⟩ x4).setCell ⟨w.heap.size, 5, none⟩ x5).setCell ⟨w.heap.size, 6, none⟩ x6).setCell ⟨w.heap.size, 7, none⟩ x7).setCell ⟨w.heap.size, 8, none⟩ x8).setCell ⟨w.heap.size, 9, none⟩ x9).frozen? ⟨w.heap.size, 3, none⟩ = false) ∧ (((((((((((wx.setCell ⟨w.heap.size, 0, none⟩ x0).setCell ⟨w.heap.size, 1, none⟩ x1).setCell ⟨w.heap.size, 2, none⟩ x2).setCell ⟨w.heap.size, 3, none⟩ x3).setCell ⟨w.heap.size, 4, none⟩ x4).setCell ⟨w.heap.size, 5, none⟩ x5).setCell ⟨w.heap.size, 6, none⟩ x6).setCell ⟨w.heap.size, 7, none⟩ x7).setCell ⟨w.heap.size, 8, none⟩ x8).setCell ⟨w.heap.size, 9, none⟩ x9).cell? ⟨w.heap.size, 4, none⟩ = some (g ((((((((((wx.setCell ⟨w.heap.size, 0, none⟩ x0).setCell ⟨w.heap.size, 1, none⟩ x1).setCell ⟨w.heap.size, 2, none⟩ x2).setCell ⟨w.heap.size, 3, none⟩ x3).setCell ⟨w.heap.size, 4, none⟩ x4).setCell ⟨w.heap.size, 5, none⟩ x5).setCell ⟨w.heap.size, 6, none⟩ x6).setCell ⟨w.heap.size, 7, none⟩ x7).setCell ⟨w.heap.size, 8, none⟩ x8).setCell ⟨w.heap.size, 9, none⟩ x9) 4) ∧ ((((((((((wx.setCell ⟨w.heap.size, 0, none⟩ x0).setCell ⟨w.heap.size, 1, none⟩ x1).setCell ⟨w.heap.size, 2, none⟩ x2).setCell ⟨w.heap.size, 3, none⟩ x3).setCell ⟨w.heap.size, 4, none⟩ x4).setCell ⟨w.heap.size, 5, none⟩ x5).setCell ⟨w.heap.size, 6, none⟩ x6).setCell ⟨w.heap.size, 7, none⟩ x7).setCell ⟨w.heap.size, 8, none⟩ x8).setCell ⟨w.heap.size, 9, none⟩ x9).frozen? ⟨w.heap.size, 4, none⟩ = false) ∧ (((((((((((wx.setCell ⟨w.heap.size, 0, none⟩ x0).setCell ⟨w.heap.size, 1, none⟩ x1).setCell ⟨w.heap.size, 2, none⟩ x2).setCell ⟨w.heap.size, 3, none⟩ x3).setCell ⟨w.heap.size, 4, none⟩ x4).setCell ⟨w.heap.size, 5, none⟩ x5).setCell ⟨w.heap.size, 6, none⟩ x6).setCell ⟨w.heap.size, 7, none⟩ x7).setCell ⟨w.heap.size, 8, none⟩ x8).setCell ⟨w.heap.size, 9, none⟩ x9).cell? ⟨w.heap.size, 5, none⟩ = some (g ((((((((((wx.setCell ⟨w.heap.size, 0, none⟩ x0).setCell ⟨w.heap.size, 1, none⟩ x1).setCell ⟨w.heap.size, 2, none⟩ x2).setCell ⟨w.heap.size, 3, none⟩ x3).setCell ⟨w.heap.size, 4, none⟩ x4).setCell ⟨w.heap.size, 5, none⟩ x5).setCell ⟨w.heap.size, 6, none⟩ x6).setCell ⟨w.heap.size, 7, none⟩ x7).setCell ⟨w.heap.size, 8, none⟩ x8).setCell ⟨w.heap.size, 9, none⟩ x9) 5) ∧ ((((((((((wx.setCell ⟨w.heap.size, 0, none⟩ x0).setCell ⟨w.heap.size, 1, none⟩ x1).setCell ⟨w.heap.size, 2, none⟩ x2).setCell ⟨w.heap.size, 3, none⟩ x3).setCell ⟨w.heap.size, 4, none⟩ x4).setCell ⟨w.heap.size, 5, none⟩ x5).setCell ⟨w.heap.size, 6, none⟩ x6).setCell ⟨w.heap.size, 7, none⟩ x7).setCell ⟨w.heap.size, 8, none⟩ x8).setCell ⟨w.heap.size, 9, none⟩ x9).frozen? ⟨w.heap.size, 5, none⟩ = false) ∧ (((((((((((wx.setCell ⟨w.heap.size, 0, none⟩ x0).setCell ⟨w.heap.size, 1, none⟩ x1).setCell ⟨w.heap.size, 2, none⟩ x2).setCell ⟨w.heap.size, 3, none⟩ x3).setCell ⟨w.heap.size, 4, none⟩ x4).setCell ⟨w.heap.size, 5, none⟩ x5).setCell ⟨w.heap.size, 6, none⟩ x6).setCell ⟨w.heap.size, 7, none⟩ x7).setCell ⟨w.heap.size, 8, none⟩ x8).setCell ⟨w.heap.size, 9, none⟩ x9).cell? ⟨w.heap.size, 6, none⟩ = some (g ((((((((((wx.setCell ⟨w.heap.size, 0, none⟩ x0).setCell ⟨w.heap.size, 1, none⟩ x1).setCell ⟨w.heap.size, 2, none⟩ x2).setCell ⟨w.heap.size, 3, none⟩ x3).setCell ⟨w.heap.size, 4, none⟩ x4).setCell ⟨w.heap.size, 5, none⟩ x5).setCell ⟨w.heap.size, 6, none⟩ x6).setCell ⟨w.heap.size, 7, none⟩ x7).setCell ⟨w.heap.size, 8, none⟩ x8).setCell ⟨w.heap.size, 9, none⟩ x9) 6) ∧ ((((((((((wx.setCell ⟨w.heap.size, 0, none⟩ x0).setCell ⟨w.heap.size, 1, none⟩ x1).setCell ⟨w.heap.size, 2, none⟩ x2).setCell ⟨w.heap.size, 3, none⟩ x3).setCell ⟨w.heap.size, 4, none⟩ x4).setCell ⟨w.heap.size, 5, none⟩ x5).setCell ⟨w.heap.size, 6, none⟩ x6).setCell ⟨w.heap.size, 7, none⟩ x7).setCell ⟨w.heap.size, 8, none⟩ x8).setCell ⟨w.heap.size, 9, none⟩ x9).frozen? ⟨w.heap.size, 6, none⟩ = false) ∧ (((((((((((wx.setCell ⟨w.heap.size, 0, none⟩ x0).setCell ⟨w.heap.size, 1, none⟩ x1).setCell ⟨w.heap.size, 2, none⟩ x2).setCell ⟨w.heap.size, 3, none⟩ x3).setCell ⟨w.heap.size, 4, none⟩ x4).setCell ⟨w.heap.size, 5, none⟩ x5).setCell ⟨w.heap.size, 6, none⟩ x6).setCell ⟨w.heap.size, 7, none⟩ x7).setCell ⟨w.heap.size, 8, none⟩ x8).setCell ⟨w.heap.size, 9, none⟩ x9).cell? ⟨w.heap.size, 7, none⟩ = some (g ((((((((((wx.setCell ⟨w.heap.size, 0, none⟩ x0).setCell ⟨w.heap.size, 1, none⟩ x1).setCell ⟨w.heap.size, 2, none⟩ x2).setCell ⟨w.heap.size, 3, none⟩ x3).setCell ⟨w.heap.size, 4, none⟩ x4).setCell ⟨w.heap.size, 5, none⟩ x5).setCell ⟨w.heap.size, 6, none⟩ x6).setCell ⟨w.heap.size, 7, none⟩ x7).setCell ⟨w.heap.size, 8, none⟩ x8).setCell ⟨w.heap.size, 9, none⟩ x9) 7) ∧ ((((((((((wx.setCell ⟨w.heap.size, 0, none⟩ x0).setCell ⟨w.heap.size, 1, none⟩ x1).setCell ⟨w.heap.size, 2, none⟩ x2).setCell ⟨w.heap.size, 3, none⟩ x3).setCell ⟨w.heap.size, 4, none⟩ x4).setCell ⟨w.heap.size, 5, none⟩ x5).setCell ⟨w.heap.size, 6, none⟩ x6).setCell ⟨w.heap.size, 7, none⟩ x7).setCell ⟨w.heap.size, 8, none⟩ x8).setCell ⟨w.heap.size, 9, none⟩ x9).frozen? ⟨w.heap.size, 7, none⟩ = false) ∧ (((((((((((wx.setCell ⟨w.heap.size, 0, none⟩ x0).setCell ⟨w.heap.size, 1, none⟩ x1).setCell ⟨w.heap.size, 2, none⟩ x2).setCell ⟨w.heap.size, 3, none⟩ x3).setCell ⟨w.heap.size, 4, none⟩ x4).setCell ⟨w.heap.size, 5, none⟩ x5).setCell ⟨w.heap.size, 6, none⟩ x6).setCell ⟨w.heap.size, 7, none⟩ x7).setCell ⟨w.heap.size, 8, none⟩ x8).setCell ⟨w.heap.size, 9, none⟩ x9).cell? ⟨w.heap.size, 8, none⟩ = some (g ((((((((((wx.setCell ⟨w.heap.size, 0, none⟩ x0).setCell ⟨w.heap.size, 1, none⟩ x1).setCell ⟨w.heap.size, 2, none⟩ x2).setCell ⟨w.heap.size, 3, none⟩ x3).setCell ⟨w.heap.size, 4, none⟩ x4).setCell ⟨w.heap.size, 5, none⟩ x5).setCell ⟨w.heap.size, 6, none⟩ x6).setCell ⟨w.heap.size, 7, none⟩ x7).setCell ⟨w.heap.size, 8, none⟩ x8).setCell ⟨w.heap.size, 9, none⟩ x9) 8) ∧ ((((((((((wx.setCell ⟨w.heap.size, 0, none⟩ x0).setCell ⟨w.heap.size, 1, none⟩ x1).setCell ⟨w.heap.size, 2, none⟩ x2).setCell ⟨w.heap.size, 3, none⟩ x3).setCell ⟨w.heap.size, 4, none⟩ x4).setCell ⟨w.heap.size, 5, none⟩ x5).setCell ⟨w.heap.size, 6, none⟩ x6).setCell ⟨w.heap.size, 7, none⟩ x7).setCell ⟨w.heap.size, 8, none⟩ x8).setCell ⟨w.heap.size, 9, none⟩ x9).frozen? ⟨w.heap.size, 8, none⟩ = false) ∧ (((((((((((wx.setCell ⟨w.heap.size, 0, none⟩ x0).setCell ⟨w.heap.size, 1, none⟩ x1).setCell ⟨w.heap.size, 2, none⟩ x2).setCell ⟨w.heap.size, 3, none⟩ x3).setCell ⟨w.heap.size, 4, none⟩ x4).setCell ⟨w.heap.size, 5, none⟩ x5).setCell ⟨w.heap.size, 6, none⟩ x6).setCell ⟨w.heap.size, 7, none⟩ x7).setCell ⟨w.heap.size, 8, none⟩ x8).setCell ⟨w.heap.size, 9, none⟩ x9).cell? ⟨w.heap.size, 9, none⟩ = some (g ((((((((((wx.setCell ⟨w.heap.size, 0, none⟩ x0).setCell ⟨w.heap.size, 1, none⟩ x1).setCell ⟨w.heap.size, 2, none⟩ x2).setCell ⟨w.heap.size, 3, none⟩ x3).setCell ⟨w.heap.size, 4, none⟩ x4).setCell ⟨w.heap.size, 5, none⟩ x5).setCell ⟨w.heap.size, 6, none⟩ x6).setCell ⟨w.heap.size, 7, none⟩ x7).setCell ⟨w.heap.size, 8, none⟩ x8).setCell ⟨w.heap.size, 9, none⟩ x9) 9) ∧ ((((((((((wx.setCell ⟨w.heap.size, 0, none⟩ x0).setCell ⟨w.heap.size, 1, none⟩ x1).setCell ⟨w.heap.size, 2, none⟩ x2).setCell ⟨w.heap.size, 3, none⟩ x3).setCell ⟨w.heap.size, 4, none⟩ x4).setCell ⟨w.heap.size, 5, none⟩ x5).setCell ⟨w.heap.size, 6, none⟩ x6).setCell ⟨w.heap.size, 7, none⟩ x7).setCell ⟨w.heap.size, 8, none⟩ x8).setCell ⟨w.heap.size, 9, none⟩ x9).frozen? ⟨w.heap.size, 9, none⟩ = false))) := fun wx x0 x1 x2 x3 x4 x5 x6 x7 x8 x9 h => by
      obtain ⟨⟨p2, p3⟩, q0, q1, q2⟩ := (CS.out wx h).2
      refine ⟨⟨⟨?_, ?_⟩, ?_, ?_, ?_⟩, TG.out _ _ _ _ _ _ _ _ _ _ _ (Ten.put (CS.out wx h).1 x0 x1 x2 x3 x4 x5 x6 x7 x8 x9)⟩
      · simp only [set_far lt1]; exact p2
      · simp only [set_far lt1]; exact p3
      · simp only [set_far lt2]; exact q0
      · simp only [set_far lt2]; exact q1
      · simp only [set_far lt2]; exact q2
    have TT : Hid (∀ wx : World, SS wx → Ten wx w.heap.size (.bool false) (.string ⟨#[]⟩) (.int .i64 0) (.bool false) (.string ⟨#[]⟩) (.int .i64 0) (.bool false) (.string ⟨#[]⟩) (.int .i64 0) (.bool false)) := fun wx h => (CS.out wx h).1
    have pc1 := (aL.cell (cell_lt PC1.out)).trans PC1.out
    clear P3 aL hbL HB2 ZB MS TZ PC CS lt1 lt2 TG hg
    go_upto_region 6 with fail
    generalize w2.alloc (.cells #[.bool DA.neg, .string t2, .int .i64 DA.e] 28) = wL at *
    have T0 := hid (KS.out _ _ S0.out (drew_nil _))
    clear S0
    go_region_held3 (fun w' => ((w'.cell? ⟨w1.heap.size, 2, none⟩ = some (.int .u64 0) ∧ w'.cell? ⟨w1.heap.size, 3, none⟩ = some (.int .i64 0)) ∧ (w'.cell? ⟨w2.heap.size, 0, none⟩ = some (.bool DA.neg) ∧ w'.cell? ⟨w2.heap.size, 1, none⟩ = some (.string t2) ∧ w'.cell? ⟨w2.heap.size, 2, none⟩ = some (.int .i64 DA.e))) ∧ (w'.cell? ⟨w.heap.size, 0, none⟩ = some (g w' 0) ∧ w'.frozen? ⟨w.heap.size, 0, none⟩ = false) ∧ (w'.cell? ⟨w.heap.size, 1, none⟩ = some (g w' 1) ∧ w'.frozen? ⟨w.heap.size, 1, none⟩ = false) ∧ (w'.cell? ⟨w.heap.size, 2, none⟩ = some (g w' 2) ∧ w'.frozen? ⟨w.heap.size, 2, none⟩ = false) ∧ (w'.cell? ⟨w.heap.size, 3, none⟩ = some (g w' 3) ∧ w'.frozen? ⟨w.heap.size, 3, none⟩ = false) ∧ (w'.cell? ⟨w.heap.size, 4, none⟩ = some (g w' 4) ∧ w'.frozen? ⟨w.heap.size, 4, none⟩ = false) ∧ (w'.cell? ⟨w.heap.size, 5, none⟩ = some (g w' 5) ∧ w'.frozen? ⟨w.heap.size, 5, none⟩ = false) ∧ (w'.cell? ⟨w.heap.size, 6, none⟩ = some (g w' 6) ∧ w'.frozen? ⟨w.heap.size, 6, none⟩ = false) ∧ (w'.cell? ⟨w.heap.size, 7, none⟩ = some (g w' 7) ∧ w'.frozen? ⟨w.heap.size, 7, none⟩ = false) ∧ (w'.cell? ⟨w.heap.size, 8, none⟩ = some (g w' 8) ∧ w'.frozen? ⟨w.heap.size, 8, none⟩ = false) ∧ (w'.cell? ⟨w.heap.size, 9, none⟩ = some (g w' 9) ∧ w'.frozen? ⟨w.heap.size, 9, none⟩ = false)) (first | (with_reducible exact FS.out _ _ _ _ _ _ _ _ _ _ _ T2.out) | (with_reducible exact FT.out _ T2.out) | (with_reducible exact FT.out _ T1.out) | (with_reducible exact FT.out _ T0.out)) (first
      | (go_at_call 55; with_reducible refine (EV.out _).mono ?_; rintro e w5 ⟨t1, rfl, HT1, hB⟩; (first | (have T2 := hid (KS.out _ _ T1.out hB); clear hB) | (have T1 := hid (KS.out _ _ T0.out hB); clear hB)))
      | (go_at_call 56; with_reducible refine (HI.out _).mono ?_; rintro e w5 ⟨t3, rfl, HT3, hB⟩; (first | (have T2 := hid (KS.out _ _ T1.out hB); clear hB) | (have T1 := hid (KS.out _ _ T0.out hB); clear hB))))
    have KV := hid (G.out t1 t2 t3 HT1.out HT2.out HT3.out)
    have KB := hid (BS.out _ T2.out)
    have KT := hid (TT.out _ T2.out)
    clear HT1 HT2 HT3 FT FS TT T0 T1 T2 KS BS G HI EV
    go_wp2_with fail
    (try simp only [Exit.inBlock, Exit.then])
    refine bodyPost_ret (results_cell_row rfl _ _ w.heap.size 58 _ (0, 0) _ rfl (KT.out.put _ _ _ _ _ _ _ _ _ _) Tryz.underlying58 rfl (by kernel_rfl)) rfl ?_
    exact ⟨_, rfl, KV.out, set10_below KB.out (Nat.le_refl _)⟩
  · obtain ⟨k2, k3⟩ := Ie.dec_fin2 a hp hf
    obtain ⟨k4, k5⟩ := Sh.clsP hp hf
    have xb := Sh.ex_le hf
    have mb := Ie.man_nn a a0
    rw [k2, k3] at D
    have EV' := fun wx : World => zexact_any (Ie.man a) ((Ie.ex a : Int) - 1074) wx mb.1 (by omega) (by omega) (by omega)
    rw [Sh.zV] at EV'
    have EV := hid (dec_open EV')
    have DN := hid (fun wx : World => down_any a wx a0 (by omega))
    rw [Sh.dnP hp hf] at DN
    have HL' := fun wx : World => zhalfway_any (a - 1) wx (by omega) (by omega)
    rw [← Sh.AP hp] at HL'
    have HL := hid (dec_open HL')
    clear EV' HL' k2 k3 xb mb k4
    generalize decide (9223372036854775808 ≤ a) = neg at *
    generalize decide (a % 2 = 0) = cb at *
    generalize Sh.dd 0 = D0 at *
    generalize Sh.dd (Sh.V a) = DV at *
    generalize Sh.dd (Sh.A a) = DA at *
    generalize Sh.dd (Sh.B a) = DB at *
    generalize Ie.cls a = c at *
    generalize Ie.man a = m at *
    generalize (Ie.ex a : Int) - 1074 = x at *
    go_enter Tryz.func31, Tryz.ntmps31
    go_wp2_with fail
    refine (AB.out _).mono ?_
    rintro e wz ⟨rfl, hz⟩
    subst hz
    go_wp2_with fail
    refine (D.out _).mono ?_
    rintro e w1 ⟨rfl, B1⟩
    have PC : Hid ((w1.alloc (.cells #[.bool neg, .int .i64 c, .int .u64 m, .int .i64 x] 79)).cell? ⟨w1.heap.size, 2, none⟩ = some (.int .u64 m) ∧ (w1.alloc (.cells #[.bool neg, .int .i64 c, .int .u64 m, .int .i64 x] 79)).cell? ⟨w1.heap.size, 3, none⟩ = some (.int .i64 x)) := ⟨(RB.new w1 79 _).cell 2 _ rfl, (RB.new w1 79 _).cell 3 _ rfl⟩
    have HS1 : Hid (w.heap.size < w1.heap.size) := Nat.lt_of_lt_of_le (RB.lt TZ.out) B1.size
    have PC0 : Hid ((w1.alloc (.cells #[.bool neg, .int .i64 c, .int .u64 m, .int .i64 x] 79)).cell? ⟨w1.heap.size, 1, none⟩ = some (.int .i64 c)) := (RB.new w1 79 _).cell 1 _ rfl
    have HB1 := hid (B1.trans ((alloc_b w1 (.cells #[.bool neg, .int .i64 c, .int .u64 m, .int .i64 x] 79)).mono B1.size))
    clear B1 D AB
    go_wp2_with fail
    refine (E0.out _).mono ?_
    rintro e w2 ⟨t0, rfl, HT0, B2⟩
    have HB2 := hid (HB1.out.trans (B2.mono HB1.out.size))
    have PC : Hid (w2.cell? ⟨w1.heap.size, 2, none⟩ = some (.int .u64 m) ∧ w2.cell? ⟨w1.heap.size, 3, none⟩ = some (.int .i64 x)) := ⟨(B2.cell (cell_lt PC.out.1)).trans PC.out.1, (B2.cell (cell_lt PC.out.2)).trans PC.out.2⟩
    have HBs : Hid (w.heap.size < w1.heap.size ∧ w1.heap.size < w2.heap.size) := ⟨HS1.out, Nat.lt_of_lt_of_le (RB.lt (RB.new w1 79 _)) B2.size⟩
    have PC1 : Hid (w2.cell? ⟨w1.heap.size, 1, none⟩ = some (.int .i64 c)) := (B2.cell (cell_lt PC0.out)).trans PC0.out
    have aL := alloc_b w2 (.cells #[.bool D0.neg, .string t0, .int .i64 D0.e] 28)
    have pc1 := (aL.cell (cell_lt PC1.out)).trans PC1.out
    have P3 := hid (FR3.new w2 (.bool D0.neg) (.string t0) (.int .i64 D0.e))
    have HBL := hid (HB2.out.trans (aL.mono HB2.out.size))
    have PCL : Hid ((w2.alloc (.cells #[.bool D0.neg, .string t0, .int .i64 D0.e] 28)).cell? ⟨w1.heap.size, 2, none⟩ = some (.int .u64 m) ∧ (w2.alloc (.cells #[.bool D0.neg, .string t0, .int .i64 D0.e] 28)).cell? ⟨w1.heap.size, 3, none⟩ = some (.int .i64 x)) := ⟨(aL.cell (cell_lt PC.out.1)).trans PC.out.1, (aL.cell (cell_lt PC.out.2)).trans PC.out.2⟩
    clear B2 E0 HB1 aL PC PC0 PC1 HB2 HT0
    go_wp2_with fail
    refine (DN.out _).mono ?_
    rintro e wz ⟨rfl, hz⟩
    subst hz
    go_wp2_with fail
    refine (HL.out _).mono ?_
    rintro e w3 ⟨t2, rfl, HT2, B3⟩
    have HB3 := hid (HBL.out.trans (B3.mono HBL.out.size))
    have R3 := hid (P3.out.below B3 P3.out.lt)
    have PC : Hid (w3.cell? ⟨w1.heap.size, 2, none⟩ = some (.int .u64 m) ∧ w3.cell? ⟨w1.heap.size, 3, none⟩ = some (.int .i64 x)) := ⟨(B3.cell (cell_lt PCL.out.1)).trans PCL.out.1, (B3.cell (cell_lt PCL.out.2)).trans PCL.out.2⟩
    obtain ⟨⟨lc0, lc1, lc2⟩, lf0, lf1, lf2⟩ := R3.out.cells
    clear B3 PCL P3 HL DN pc1
    have lt3 : w2.heap.size ≠ w1.heap.size := by have := HBs.out; omega
    have hbL : Hid (Below w.heap.size w (((w3.setCell ⟨w2.heap.size, 0, none⟩ (.bool DA.neg)).setCell ⟨w2.heap.size, 1, none⟩ (.string t2)).setCell ⟨w2.heap.size, 2, none⟩ (.int .i64 DA.e))) := fset3_below (ZB.out.trans (HB3.out.mono ZB.out.size)) (by have := HBs.out; omega)
    have TL : Hid (Ten (((w3.setCell ⟨w2.heap.size, 0, none⟩ (.bool DA.neg)).setCell ⟨w2.heap.size, 1, none⟩ (.string t2)).setCell ⟨w2.heap.size, 2, none⟩ (.int .i64 DA.e)) w.heap.size (.bool false) (.string ⟨#[]⟩) (.int .i64 0) (.bool false) (.string ⟨#[]⟩) (.int .i64 0) (.bool false) (.string ⟨#[]⟩) (.int .i64 0) (.bool false)) :=
      RB.far (RB.far (RB.far (RB.below TZ.out HB3.out (RB.lt TZ.out)) (by have := HBs.out; omega)) (by have := HBs.out; omega)) (by have := HBs.out; omega)
    obtain ⟨SS, KS, CS, BS, MS⟩ := state (fun w' => Ten w' w.heap.size (.bool false) (.string ⟨#[]⟩) (.int .i64 0) (.bool false) (.string ⟨#[]⟩) (.int .i64 0) (.bool false) (.string ⟨#[]⟩) (.int .i64 0) (.bool false) ∧ (w'.cell? ⟨w1.heap.size, 2, none⟩ = some (.int .u64 m) ∧ w'.cell? ⟨w1.heap.size, 3, none⟩ = some (.int .i64 x)) ∧ (w'.cell? ⟨w2.heap.size, 0, none⟩ = some (.bool DA.neg) ∧ w'.cell? ⟨w2.heap.size, 1, none⟩ = some (.string t2) ∧ w'.cell? ⟨w2.heap.size, 2, none⟩ = some (.int .i64 DA.e))) w
      (Stays.and (fun _ _ g hB => RB.below g hB (RB.lt g)) (((Stays.cell _ _).and (Stays.cell _ _)).and ((Stays.cell _ _).and ((Stays.cell _ _).and (Stays.cell _ _)))))
    have S0 := hid (MS.out _ ⟨TL.out, ⟨by simp only [set_far lt3]; exact PC.out.1, by simp only [set_far lt3]; exact PC.out.2⟩, (R3.out.put _ _ _).cells.1⟩ hbL.out)
    have lt1 : w.heap.size ≠ w1.heap.size := by have := HBs.out; omega
    have lt2 : w.heap.size ≠ w2.heap.size := by have := HBs.out; omega
    obtain ⟨g, hg⟩ : ∃ g : World → Nat → Value, Hid (∀ w' i, g w' i = (w'.cell? ⟨w.heap.size, i, none⟩).getD (.bool false)) := ⟨_, fun _ _ => rfl⟩
    have TG : Hid (∀ (wx : World) (x0 x1 x2 x3 x4 x5 x6 x7 x8 x9 : Value), Ten wx w.heap.size x0 x1 x2 x3 x4 x5 x6 x7 x8 x9 → (wx.cell? ⟨w.heap.size, 0, none⟩ = some (g wx 0) ∧ wx.frozen? ⟨w.heap.size, 0, none⟩ = false) ∧ (wx.cell? ⟨w.heap.size, 1, none⟩ = some (g wx 1) ∧ wx.frozen? ⟨w.heap.size, 1, none⟩ = false) ∧ (wx.cell? ⟨w.heap.size, 2, none⟩ = some (g wx 2) ∧ wx.frozen? ⟨w.heap.size, 2, none⟩ = false) ∧ (wx.cell? ⟨w.heap.size, 3, none⟩ = some (g wx 3) ∧ wx.frozen? ⟨w.heap.size, 3, none⟩ = false) ∧ (wx.cell? ⟨w.heap.size, 4, none⟩ = some (g wx 4) ∧ wx.frozen? ⟨w.heap.size, 4, none⟩ = false) ∧ (wx.cell? ⟨w.heap.size, 5, none⟩ = some (g wx 5) ∧ wx.frozen? ⟨w.heap.size, 5, none⟩ = false) ∧ (wx.cell? ⟨w.heap.size, 6, none⟩ = some (g wx 6) ∧ wx.frozen? ⟨w.heap.size, 6, none⟩ = false) ∧ (wx.cell? ⟨w.heap.size, 7, none⟩ = some (g wx 7) ∧ wx.frozen? ⟨w.heap.size, 7, none⟩ = false) ∧ (wx.cell? ⟨w.heap.size, 8, none⟩ = some (g wx 8) ∧ wx.frozen? ⟨w.heap.size, 8, none⟩ = false) ∧ (wx.cell? ⟨w.heap.size, 9, none⟩ = some (g wx 9) ∧ wx.frozen? ⟨w.heap.size, 9, none⟩ = false)) := by
      intro wx x0 x1 x2 x3 x4 x5 x6 x7 x8 x9 h
      have key : ∀ i v, wx.cell? ⟨w.heap.size, i, none⟩ = some v → wx.cell? ⟨w.heap.size, i, none⟩ = some (g wx i) := fun i v q => by rw [hg.out, q]; rfl
      exact ⟨⟨key 0 _ (RB.cell h 0 _ rfl), RB.free h 0⟩, ⟨key 1 _ (RB.cell h 1 _ rfl), RB.free h 1⟩, ⟨key 2 _ (RB.cell h 2 _ rfl), RB.free h 2⟩, ⟨key 3 _ (RB.cell h 3 _ rfl), RB.free h 3⟩, ⟨key 4 _ (RB.cell h 4 _ rfl), RB.free h 4⟩, ⟨key 5 _ (RB.cell h 5 _ rfl), RB.free h 5⟩, ⟨key 6 _ (RB.cell h 6 _ rfl), RB.free h 6⟩, ⟨key 7 _ (RB.cell h 7 _ rfl), RB.free h 7⟩, ⟨key 8 _ (RB.cell h 8 _ rfl), RB.free h 8⟩, ⟨key 9 _ (RB.cell h 9 _ rfl), RB.free h 9⟩⟩
    have FT : Hid (∀ wx : World, SS wx → (((wx.cell? ⟨w1.heap.size, 2, none⟩ = some (.int .u64 m) ∧ wx.cell? ⟨w1.heap.size, 3, none⟩ = some (.int .i64 x)) ∧ (wx.cell? ⟨w2.heap.size, 0, none⟩ = some (.bool DA.neg) ∧ wx.cell? ⟨w2.heap.size, 1, none⟩ = some (.string t2) ∧ wx.cell? ⟨w2.heap.size, 2, none⟩ = some (.int .i64 DA.e))) ∧ (wx.cell? ⟨w.heap.size, 0, none⟩ = some (g wx 0) ∧ wx.frozen? ⟨w.heap.size, 0, none⟩ = false) ∧ (wx.cell? ⟨w.heap.size, 1, none⟩ = some (g wx 1) ∧ wx.frozen? ⟨w.heap.size, 1, none⟩ = false) ∧ (wx.cell? ⟨w.heap.size, 2, none⟩ = some (g wx 2) ∧ wx.frozen? ⟨w.heap.size, 2, none⟩ = false) ∧ (wx.cell? ⟨w.heap.size, 3, none⟩ = some (g wx 3) ∧ wx.frozen? ⟨w.heap.size, 3, none⟩ = false) ∧ (wx.cell? ⟨w.heap.size, 4, none⟩ = some (g wx 4) ∧ wx.frozen? ⟨w.heap.size, 4, none⟩ = false) ∧ (wx.cell? ⟨w.heap.size, 5, none⟩ = some (g wx 5) ∧ wx.frozen? ⟨w.heap.size, 5, none⟩ = false) ∧ (wx.cell? ⟨w.heap.size, 6, none⟩ = some (g wx 6) ∧ wx.frozen? ⟨w.heap.size, 6, none⟩ = false) ∧ (wx.cell? ⟨w.heap.size, 7, none⟩ = some (g wx 7) ∧ wx.frozen? ⟨w.heap.size, 7, none⟩ = false) ∧ (wx.cell? ⟨w.heap.size, 8, none⟩ = some (g wx 8) ∧ wx.frozen? ⟨w.heap.size, 8, none⟩ = false) ∧ (wx.cell? ⟨w.heap.size, 9, none⟩ = some (g wx 9) ∧ wx.frozen? ⟨w.heap.size, 9, none⟩ = false))) := fun wx h => ⟨(CS.out wx h).2, TG.out wx _ _ _ _ _ _ _ _ _ _ (CS.out wx h).1⟩
    have FS : Hid (∀ (wx : World) (x0 x1 x2 x3 x4 x5 x6 x7 x8 x9 : Value), SS wx → (((((((((((((wx.setCell ⟨w.heap.size, 0, none⟩ x0).setCell ⟨w.heap.size, 1, none⟩ x1).setCell ⟨w.heap.size, 2, none⟩ x2).setCell ⟨w.heap.size, 3, none⟩ x3).setCell ⟨w.heap.size, 4, none⟩ x4).setCell ⟨w.heap.size, 5, none⟩ x5).setCell ⟨w.heap.size, 6, none⟩ x6).setCell ⟨w.heap.size, 7, none⟩ x7).setCell ⟨w.heap.size, 8, none⟩ x8).setCell ⟨w.heap.size, 9, none⟩ x9).cell? ⟨w1.heap.size, 2, none⟩ = some (.int .u64 m) ∧ ((((((((((wx.setCell ⟨w.heap.size, 0, none⟩ x0).setCell ⟨w.heap.size, 1, none⟩ x1).setCell ⟨w.heap.size, 2, none⟩ x2).setCell ⟨w.heap.size, 3, none⟩ x3).setCell ⟨w.heap.size, 4, none⟩ x4).setCell ⟨w.heap.size, 5, none⟩ x5).setCell ⟨w.heap.size, 6, none⟩ x6).setCell ⟨w.heap.size, 7, none⟩ x7).setCell ⟨w.heap.size, 8, none⟩ x8).setCell ⟨w.heap.size, 9, none⟩ x9).cell? ⟨w1.heap.size, 3, none⟩ = some (.int .i64 x)) ∧ (((((((((((wx.setCell ⟨w.heap.size, 0, none⟩ x0).setCell ⟨w.heap.size, 1, none⟩ x1).setCell ⟨w.heap.size, 2, none⟩ x2).setCell ⟨w.heap.size, 3, none⟩ x3).setCell ⟨w.heap.size, 4, none⟩ x4).setCell ⟨w.heap.size, 5, none⟩ x5).setCell ⟨w.heap.size, 6, none⟩ x6).setCell ⟨w.heap.size, 7, none⟩ x7).setCell ⟨w.heap.size, 8, none⟩ x8).setCell ⟨w.heap.size, 9, none⟩ x9).cell? ⟨w2.heap.size, 0, none⟩ = some (.bool DA.neg) ∧ ((((((((((wx.setCell ⟨w.heap.size, 0, none⟩ x0).setCell ⟨w.heap.size, 1, none⟩ x1).setCell ⟨w.heap.size, 2, none⟩ x2).setCell ⟨w.heap.size, 3, none⟩ x3).setCell ⟨w.heap.size, 4, none⟩ x4).setCell ⟨w.heap.size, 5, none⟩ x5).setCell ⟨w.heap.size, 6, none⟩ x6).setCell ⟨w.heap.size, 7, none⟩ x7).setCell ⟨w.heap.size, 8, none⟩ x8).setCell ⟨w.heap.size, 9, none⟩ x9).cell? ⟨w2.heap.size, 1, none⟩ = some (.string t2) ∧ ((((((((((wx.setCell ⟨w.heap.size, 0, none⟩ x0).setCell ⟨w.heap.size, 1, none⟩ x1).setCell ⟨w.heap.size, 2, none⟩ x2).setCell ⟨w.heap.size, 3, none⟩ x3).setCell ⟨w.heap.size, 4, none⟩ x4).setCell ⟨w.heap.size, 5, none⟩ x5).setCell ⟨w.heap.size, 6, none⟩ x6).setCell ⟨w.heap.size, 7, none⟩ x7).setCell ⟨w.heap.size, 8, none⟩ x8).setCell ⟨w.heap.size, 9, none⟩ x9).cell? ⟨w2.heap.size, 2, none⟩ = some (.int .i64 DA.e))) ∧ (((((((((((wx.setCell ⟨w.heap.size, 0, none⟩ x0).setCell ⟨w.heap.size, 1, none⟩ x1).setCell ⟨w.heap.size, 2, none⟩ x2).setCell ⟨w.heap.size, 3, none⟩ x3).setCell ⟨w.heap.size, 4, none⟩ x4).setCell ⟨w.heap.size, 5, none⟩ x5).setCell ⟨w.heap.size, 6, none⟩ x6).setCell ⟨w.heap.size, 7, none⟩ x7).setCell ⟨w.heap.size, 8, none⟩ x8).setCell ⟨w.heap.size, 9, none⟩ x9).cell? ⟨w.heap.size, 0, none⟩ = some (g ((((((((((wx.setCell ⟨w.heap.size, 0, none⟩ x0).setCell ⟨w.heap.size, 1, none⟩ x1).setCell ⟨w.heap.size, 2, none⟩ x2).setCell ⟨w.heap.size, 3, none⟩ x3).setCell ⟨w.heap.size, 4, none⟩ x4).setCell ⟨w.heap.size, 5, none⟩ x5).setCell ⟨w.heap.size, 6, none⟩ x6).setCell ⟨w.heap.size, 7, none⟩ x7).setCell ⟨w.heap.size, 8, none⟩ x8).setCell ⟨w.heap.size, 9, none⟩ x9) 0) ∧ ((((((((((wx.setCell ⟨w.heap.size, 0, none⟩ x0).setCell ⟨w.heap.size, 1, none⟩ x1).setCell ⟨w.heap.size, 2, none⟩ x2).setCell ⟨w.heap.size, 3, none⟩ x3).setCell ⟨w.heap.size, 4, none⟩ x4).setCell ⟨w.heap.size, 5, none⟩ x5).setCell ⟨w.heap.size, 6, none⟩ x6).setCell ⟨w.heap.size, 7, none⟩ x7).setCell ⟨w.heap.size, 8, none⟩ x8).setCell ⟨w.heap.size, 9, none⟩ x9).frozen? ⟨w.heap.size, 0, none⟩ = false) ∧ (((((((((((wx.setCell ⟨w.heap.size, 0, none⟩ x0).setCell ⟨w.heap.size, 1, none⟩ x1).setCell ⟨w.heap.size, 2, none⟩ x2).setCell ⟨w.heap.size, 3, none⟩ x3).setCell ⟨w.heap.size, 4, none⟩ x4).setCell ⟨w.heap.size, 5, none⟩ x5).setCell ⟨w.heap.size, 6, none⟩ x6).setCell ⟨w.heap.size, 7, none⟩ x7).setCell ⟨w.heap.size, 8, none⟩ x8).setCell ⟨w.heap.size, 9, none⟩ x9).cell? ⟨w.heap.size, 1, none⟩ = some (g ((((((((((wx.setCell ⟨w.heap.size, 0, none⟩ x0).setCell ⟨w.heap.size, 1, none⟩ x1).setCell ⟨w.heap.size, 2, none⟩ x2).setCell ⟨w.heap.size, 3, none⟩ x3).setCell ⟨w.heap.size, 4, none⟩ x4).setCell ⟨w.heap.size, 5, none⟩ x5).setCell ⟨w.heap.size, 6, none⟩ x6).setCell ⟨w.heap.size, 7, none⟩ x7).setCell ⟨w.heap.size, 8, none⟩ x8).setCell ⟨w.heap.size, 9, none⟩ x9) 1) ∧ ((((((((((wx.setCell ⟨w.heap.size, 0, none⟩ x0).setCell ⟨w.heap.size, 1, none⟩ x1).setCell ⟨w.heap.size, 2, none⟩ x2).setCell ⟨w.heap.size, 3, none⟩ x3).setCell ⟨w.heap.size, 4, none⟩ x4).setCell ⟨w.heap.size, 5, none⟩ x5).setCell ⟨w.heap.size, 6, none⟩ x6).setCell ⟨w.heap.size, 7, none⟩ x7).setCell ⟨w.heap.size, 8, none⟩ x8).setCell ⟨w.heap.size, 9, none⟩ x9).frozen? ⟨w.heap.size, 1, none⟩ = false) ∧ (((((((((((wx.setCell ⟨w.heap.size, 0, none⟩ x0).setCell ⟨w.heap.size, 1, none⟩ x1).setCell ⟨w.heap.size, 2, none⟩ x2).setCell ⟨w.heap.size, 3, none⟩ x3).setCell ⟨w.heap.size, 4, none⟩ x4).setCell ⟨w.heap.size, 5, none⟩ x5).setCell ⟨w.heap.size, 6, none⟩ x6).setCell ⟨w.heap.size, 7, none⟩ x7).setCell ⟨w.heap.size, 8, none⟩ x8).setCell ⟨w.heap.size, 9, none⟩ x9).cell? ⟨w.heap.size, 2, none⟩ = some (g ((((((((((wx.setCell ⟨w.heap.size, 0, none⟩ x0).setCell ⟨w.heap.size, 1, none⟩ x1).setCell ⟨w.heap.size, 2, none⟩ x2).setCell ⟨w.heap.size, 3, none⟩ x3).setCell ⟨w.heap.size, 4, none⟩ x4).setCell ⟨w.heap.size, 5, none⟩ x5).setCell ⟨w.heap.size, 6, none⟩ x6).setCell ⟨w.heap.size, 7, none⟩ x7).setCell ⟨w.heap.size, 8, none⟩ x8).setCell ⟨w.heap.size, 9, none⟩ x9) 2) ∧ ((((((((((wx.setCell ⟨w.heap.size, 0, none⟩ x0).setCell ⟨w.heap.size, 1, none⟩ x1).setCell ⟨w.heap.size, 2, none⟩ x2).setCell ⟨w.heap.size, 3, none⟩ x3).setCell ⟨w.heap.size, 4, none⟩ x4).setCell ⟨w.heap.size, 5, none⟩ x5).setCell ⟨w.heap.size, 6, none⟩ x6).setCell ⟨w.heap.size, 7, none⟩ x7).setCell ⟨w.heap.size, 8, none⟩ x8).setCell ⟨w.heap.size, 9, none⟩ x9).frozen? ⟨w.heap.size, 2, none⟩ = false) ∧ (((((((((((wx.setCell ⟨w.heap.size, 0, none⟩ x0).setCell ⟨w.heap.size, 1, none⟩ x1).setCell ⟨w.heap.size, 2, none⟩ x2).setCell ⟨w.heap.size, 3, none⟩ x3).setCell ⟨w.heap.size, 4, none⟩ x4).setCell ⟨w.heap.size, 5, none⟩ x5).setCell ⟨w.heap.size, 6, none⟩ x6).setCell ⟨w.heap.size, 7, none⟩ x7).setCell ⟨w.heap.size, 8, none⟩ x8).setCell ⟨w.heap.size, 9, none⟩ x9).cell? ⟨w.heap.size, 3, none⟩ = some (g ((((((((((wx.setCell ⟨w.heap.size, 0, none⟩ x0).setCell ⟨w.heap.size, 1, none⟩ x1).setCell ⟨w.heap.size, 2, none⟩ x2).setCell ⟨w.heap.size, 3, none⟩ x3).setCell ⟨w.heap.size, 4, none⟩ x4).setCell ⟨w.heap.size, 5, none⟩ x5).setCell ⟨w.heap.size, 6, none⟩ x6).setCell ⟨w.heap.size, 7, none⟩ x7).setCell ⟨w.heap.size, 8, none⟩ x8).setCell ⟨w.heap.size, 9, none⟩ x9) 3) ∧ ((((((((((wx.setCell ⟨w.heap.size, 0, none⟩ x0).setCell ⟨w.heap.size, 1, none⟩ x1).setCell ⟨w.heap.size, 2, none⟩ x2).setCell ⟨w.heap.size, 3, none⟩ x3).setCell ⟨w.heap.size, 4, none⟩ x4).setCell ⟨w.heap.size, 5, none⟩ x5).setCell ⟨w.heap.size, 6, none⟩ x6).setCell ⟨w.heap.size, 7, none⟩ x7).setCell ⟨w.heap.size, 8, none⟩ x8).setCell ⟨w.heap.size, 9, none⟩ x9).frozen? ⟨w.heap.size, 3, none⟩ = false) ∧ (((((((((((wx.setCell ⟨w.heap.size, 0, none⟩ x0).setCell ⟨w.heap.size, 1, none⟩ x1).setCell ⟨w.heap.size, 2, none⟩ x2).setCell ⟨w.heap.size, 3, none⟩ x3).setCell ⟨w.heap.size, 4, none⟩ x4).setCell ⟨w.heap.size, 5, none⟩ x5).setCell ⟨w.heap.size, 6, none⟩ x6).setCell ⟨w.heap.size, 7, none⟩ x7).setCell ⟨w.heap.size, 8, none⟩ x8).setCell ⟨w.heap.size, 9, none⟩ x9).cell? ⟨w.heap.size, 4, none⟩ = some (g ((((((((((wx.setCell ⟨w.heap.size, 0, none⟩ x0).setCell ⟨w.heap.size, 1, none⟩ x1).setCell ⟨w.heap.size, 2, none⟩ x2).setCell ⟨w.heap.size, 3, none⟩ x3).setCell ⟨w.heap.size, 4, none⟩ x4).setCell ⟨w.heap.size, 5, none⟩ x5).setCell ⟨w.heap.size, 6, none⟩ x6).setCell ⟨w.heap.size, 7, none⟩ x7).setCell ⟨w.heap.size, 8, none⟩ x8).setCell ⟨w.heap.size, 9, none⟩ x9) 4) ∧ ((((((((((wx.setCell ⟨w.heap.size, 0, none⟩ x0).setCell ⟨w.heap.size, 1, none⟩ x1).setCell ⟨w.heap.size, 2, none⟩ x2).setCell ⟨w.heap.size, 3, none⟩ x3).setCell ⟨w.heap.size, 4, none⟩ x4).setCell ⟨w.heap.size, 5, none⟩ x5).setCell ⟨w.heap.size, 6, none⟩ x6).setCell ⟨w.heap.size, 7, none⟩ x7).setCell ⟨w.heap.size, 8, none⟩ x8).setCell ⟨w.heap.size, 9, none⟩ x9).frozen? ⟨w.heap.size, 4, none⟩ = false) ∧ (((((((((((wx.setCell ⟨w.heap.size, 0, none⟩ x0).setCell ⟨w.heap.size, 1, none⟩ x1).setCell ⟨w.heap.size, 2, none⟩ x2).setCell ⟨w.heap.size, 3, none⟩ x3).setCell ⟨w.heap.size, 4, none⟩ x4).setCell ⟨w.heap.size, 5, none⟩ x5).setCell ⟨w.heap.size, 6, none⟩ x6).setCell ⟨w.heap.size, 7, none⟩ x7).setCell ⟨w.heap.size, 8, none⟩ x8).setCell ⟨w.heap.size, 9, none⟩ x9).cell? ⟨w.heap.size, 5, none⟩ = some (g ((((((((((wx.setCell ⟨w.heap.size, 0, none⟩ x0).setCell ⟨w.heap.size, 1, none⟩ x1).setCell ⟨w.heap.size, 2, none⟩ x2).setCell ⟨w.heap.size, 3, none⟩ x3).setCell ⟨w.heap.size, 4, none⟩ x4).setCell ⟨w.heap.size, 5, none⟩ x5).setCell ⟨w.heap.size, 6, none⟩ x6).setCell ⟨w.heap.size, 7, none⟩ x7).setCell ⟨w.heap.size, 8, none⟩ x8).setCell ⟨w.heap.size, 9, none⟩ x9) 5) ∧ ((((((((((wx.setCell ⟨w.heap.size, 0, none⟩ x0).setCell ⟨w.heap.size, 1, none⟩ x1).setCell ⟨w.heap.size, 2, none⟩ x2).setCell ⟨w.heap.size, 3, none⟩ x3).setCell ⟨w.heap.size, 4, none⟩ x4).setCell ⟨w.heap.size, 5, none⟩ x5).setCell ⟨w.heap.size, 6, none⟩ x6).setCell ⟨w.heap.size, 7, none⟩ x7).setCell ⟨w.heap.size, 8, none⟩ x8).setCell ⟨w.heap.size, 9, none⟩ x9).frozen? ⟨w.heap.size, 5, none⟩ = false) ∧ (((((((((((wx.setCell ⟨w.heap.size, 0, none⟩ x0).setCell ⟨w.heap.size, 1, none⟩ x1).setCell ⟨w.heap.size, 2, none⟩ x2).setCell ⟨w.heap.size, 3, none⟩ x3).setCell ⟨w.heap.size, 4, none⟩ x4).setCell ⟨w.heap.size, 5, none⟩ x5).setCell ⟨w.heap.size, 6, none⟩ x6).setCell ⟨w.heap.size, 7, none⟩ x7).setCell ⟨w.heap.size, 8, none⟩ x8).setCell ⟨w.heap.size, 9, none⟩ x9).cell? ⟨w.heap.size, 6, none⟩ = some (g ((((((((((wx.setCell ⟨w.heap.size, 0, none⟩ x0).setCell ⟨w.heap.size, 1, none⟩ x1).setCell ⟨w.heap.size, 2, none⟩ x2).setCell ⟨w.heap.size, 3, none⟩ x3).setCell ⟨w.heap.size, 4, none⟩ x4).setCell ⟨w.heap.size, 5, none⟩ x5).setCell ⟨w.heap.size, 6, none⟩ x6).setCell ⟨w.heap.size, 7, none⟩ x7).setCell ⟨w.heap.size, 8, none⟩ x8).setCell ⟨w.heap.size, 9, none⟩ x9) 6) ∧ ((((((((((wx.setCell ⟨w.heap.size, 0, none⟩ x0).setCell ⟨w.heap.size, 1, none⟩ x1).setCell ⟨w.heap.size, 2, none⟩ x2).setCell ⟨w.heap.size, 3, none⟩ x3).setCell ⟨w.heap.size, 4, none⟩ x4).setCell ⟨w.heap.size, 5, none⟩ x5).setCell ⟨w.heap.size, 6, none⟩ x6).setCell ⟨w.heap.size, 7, none⟩ x7).setCell ⟨w.heap.size, 8, none⟩ x8).setCell ⟨w.heap.size, 9, none⟩ x9).frozen? ⟨w.heap.size, 6, none⟩ = false) ∧ (((((((((((wx.setCell ⟨w.heap.size, 0, none⟩ x0).setCell ⟨w.heap.size, 1, none⟩ x1).setCell ⟨w.heap.size, 2, none⟩ x2).setCell ⟨w.heap.size, 3, none⟩ x3).setCell ⟨w.heap.size, 4, none⟩ x4).setCell ⟨w.heap.size, 5, none⟩ x5).setCell ⟨w.heap.size, 6, none⟩ x6).setCell ⟨w.heap.size, 7, none⟩ x7).setCell ⟨w.heap.size, 8, none⟩ x8).setCell ⟨w.heap.size, 9, none⟩ x9).cell? ⟨w.heap.size, 7, none⟩ = some (g ((((((((((wx.setCell ⟨w.heap.size, 0, none⟩ x0).setCell ⟨w.heap.size, 1, none⟩ x1).setCell ⟨w.heap.size, 2, none⟩ x2).setCell ⟨w.heap.size, 3, none⟩ x3).setCell ⟨w.heap.size, 4, none⟩ x4).setCell ⟨w.heap.size, 5, none⟩ x5).setCell ⟨w.heap.size, 6, none⟩ x6).setCell ⟨w.heap.size, 7, none⟩ x7).setCell ⟨w.heap.size, 8, none⟩ x8).setCell ⟨w.heap.size, 9, none⟩ x9) 7) ∧ ((((((((((wx.setCell ⟨w.heap.size, 0, none⟩ x0).setCell ⟨w.heap.size, 1, none⟩ x1).setCell ⟨w.heap.size, 2, none⟩ x2).setCell ⟨w.heap.size, 3, none⟩ x3).setCell ⟨w.heap.size, 4, none⟩ x4).setCell ⟨w.heap.size, 5, none⟩ x5).setCell ⟨w.heap.size, 6, none⟩ x6).setCell ⟨w.heap.size, 7, none⟩ x7).setCell ⟨w.heap.size, 8, none⟩ x8).setCell ⟨w.heap.size, 9, none⟩ x9).frozen? ⟨w.heap.size, 7, none⟩ = false) ∧ (((((((((((wx.setCell ⟨w.heap.size, 0, none⟩ x0).setCell ⟨w.heap.size, 1, none⟩ x1).setCell ⟨w.heap.size, 2, none⟩ x2).setCell ⟨w.heap.size, 3, none⟩ x3).setCell ⟨w.heap.size, 4, none⟩ x4).setCell ⟨w.heap.size, 5, none⟩ x5).setCell ⟨w.heap.size, 6, none⟩ x6).setCell ⟨w.heap.size, 7, none⟩ x7).setCell ⟨w.heap.size, 8, none⟩ x8).setCell ⟨w.heap.size, 9, none⟩ x9).cell? ⟨w.heap.size, 8, none⟩ = some (g ((((((((((wx.setCell ⟨w.heap.size, 0, none⟩ x0).setCell ⟨w.heap.size, 1, none⟩ x1).setCell ⟨w.heap.size, 2, none⟩ x2).setCell ⟨w.heap.size, 3, none⟩ x3).setCell ⟨w.heap.size, 4, none⟩ x4).setCell ⟨w.heap.size, 5, none⟩ x5).setCell ⟨w.heap.size, 6, none⟩ x6).setCell ⟨w.heap.size, 7, none⟩ x7).setCell ⟨w.heap.size, 8, none⟩ x8).setCell ⟨w.heap.size, 9, none⟩ x9) 8) ∧ ((((((((((wx.setCell ⟨w.heap.size, 0, none⟩ x0).setCell ⟨w.heap.size, 1, none⟩ x1).setCell ⟨w.heap.size, 2, none⟩ x2).setCell ⟨w.heap.size, 3, none⟩ x3).setCell ⟨w.heap.size, 4, none⟩ x4).setCell ⟨w.heap.size, 5, none⟩ x5).setCell ⟨w.heap.size, 6, none⟩ x6).setCell ⟨w.heap.size, 7, none⟩ x7).setCell ⟨w.heap.size, 8, none⟩ x8).setCell ⟨w.heap.size, 9, none⟩ x9).frozen? ⟨w.heap.size, 8, none⟩ = false) ∧ (((((((((((wx.setCell ⟨w.heap.size, 0, none⟩ x0).setCell ⟨w.heap.size, 1, none⟩ x1).setCell ⟨w.heap.size, 2, none⟩ x2).setCell ⟨w.heap.size, 3, none⟩ x3).setCell ⟨w.heap.size, 4, none⟩ x4).setCell ⟨w.heap.size, 5, none⟩ x5).setCell ⟨w.heap.size, 6, none⟩ x6).setCell ⟨w.heap.size, 7, none⟩ x7).setCell ⟨w.heap.size, 8, none⟩ x8).setCell ⟨w.heap.size, 9, none⟩ x9).cell? ⟨w.heap.size, 9, none⟩ = some (g ((((((((((wx.setCell ⟨w.heap.size, 0, none⟩ x0).setCell ⟨w.heap.size, 1, none⟩ x1).setCell ⟨w.heap.size, 2, none⟩ x2).setCell ⟨w.heap.size, 3, none⟩ x3).setCell ⟨w.heap.size, 4, none⟩ x4).setCell ⟨w.heap.size, 5, none⟩ x5).setCell ⟨w.heap.size, 6, none⟩ x6).setCell ⟨w.heap.size, 7, none⟩ x7).setCell ⟨w.heap.size, 8, none⟩ x8).setCell ⟨w.heap.size, 9, none⟩ x9) 9) ∧ ((((((((((wx.setCell ⟨w.heap.size, 0, none⟩ x0).setCell ⟨w.heap.size, 1, none⟩ x1).setCell ⟨w.heap.size, 2, none⟩ x2).setCell ⟨w.heap.size, 3, none⟩ x3).setCell ⟨w.heap.size, 4, none⟩ x4).setCell ⟨w.heap.size, 5, none⟩ x5).setCell ⟨w.heap.size, 6, none⟩ x6).setCell ⟨w.heap.size, 7, none⟩ x7).setCell ⟨w.heap.size, 8, none⟩ x8).setCell ⟨w.heap.size, 9, none⟩ x9).frozen? ⟨w.heap.size, 9, none⟩ = false))) := fun wx x0 x1 x2 x3 x4 x5 x6 x7 x8 x9 h => by
      obtain ⟨⟨p2, p3⟩, q0, q1, q2⟩ := (CS.out wx h).2
      refine ⟨⟨⟨?_, ?_⟩, ?_, ?_, ?_⟩, TG.out _ _ _ _ _ _ _ _ _ _ _ (Ten.put (CS.out wx h).1 x0 x1 x2 x3 x4 x5 x6 x7 x8 x9)⟩
      · simp only [set_far lt1]; exact p2
      · simp only [set_far lt1]; exact p3
      · simp only [set_far lt2]; exact q0
      · simp only [set_far lt2]; exact q1
      · simp only [set_far lt2]; exact q2
    have TT : Hid (∀ wx : World, SS wx → Ten wx w.heap.size (.bool false) (.string ⟨#[]⟩) (.int .i64 0) (.bool false) (.string ⟨#[]⟩) (.int .i64 0) (.bool false) (.string ⟨#[]⟩) (.int .i64 0) (.bool false)) := fun wx h => (CS.out wx h).1
    clear hbL HB3 HBL ZB MS TZ TL PC CS lt1 lt2 lt3 TG hg R3
    go_upto_region 6 with fail
    generalize ((w3.setCell ⟨w2.heap.size, 0, none⟩ (.bool DA.neg)).setCell ⟨w2.heap.size, 1, none⟩ (.string t2)).setCell ⟨w2.heap.size, 2, none⟩ (.int .i64 DA.e) = wL at *
    clear lc0 lc1 lc2 lf0 lf1 lf2
    have T0 := hid (KS.out _ _ S0.out (drew_nil _))
    clear S0
    go_region_held3 (fun w' => ((w'.cell? ⟨w1.heap.size, 2, none⟩ = some (.int .u64 m) ∧ w'.cell? ⟨w1.heap.size, 3, none⟩ = some (.int .i64 x)) ∧ (w'.cell? ⟨w2.heap.size, 0, none⟩ = some (.bool DA.neg) ∧ w'.cell? ⟨w2.heap.size, 1, none⟩ = some (.string t2) ∧ w'.cell? ⟨w2.heap.size, 2, none⟩ = some (.int .i64 DA.e))) ∧ (w'.cell? ⟨w.heap.size, 0, none⟩ = some (g w' 0) ∧ w'.frozen? ⟨w.heap.size, 0, none⟩ = false) ∧ (w'.cell? ⟨w.heap.size, 1, none⟩ = some (g w' 1) ∧ w'.frozen? ⟨w.heap.size, 1, none⟩ = false) ∧ (w'.cell? ⟨w.heap.size, 2, none⟩ = some (g w' 2) ∧ w'.frozen? ⟨w.heap.size, 2, none⟩ = false) ∧ (w'.cell? ⟨w.heap.size, 3, none⟩ = some (g w' 3) ∧ w'.frozen? ⟨w.heap.size, 3, none⟩ = false) ∧ (w'.cell? ⟨w.heap.size, 4, none⟩ = some (g w' 4) ∧ w'.frozen? ⟨w.heap.size, 4, none⟩ = false) ∧ (w'.cell? ⟨w.heap.size, 5, none⟩ = some (g w' 5) ∧ w'.frozen? ⟨w.heap.size, 5, none⟩ = false) ∧ (w'.cell? ⟨w.heap.size, 6, none⟩ = some (g w' 6) ∧ w'.frozen? ⟨w.heap.size, 6, none⟩ = false) ∧ (w'.cell? ⟨w.heap.size, 7, none⟩ = some (g w' 7) ∧ w'.frozen? ⟨w.heap.size, 7, none⟩ = false) ∧ (w'.cell? ⟨w.heap.size, 8, none⟩ = some (g w' 8) ∧ w'.frozen? ⟨w.heap.size, 8, none⟩ = false) ∧ (w'.cell? ⟨w.heap.size, 9, none⟩ = some (g w' 9) ∧ w'.frozen? ⟨w.heap.size, 9, none⟩ = false)) (first | (with_reducible exact FS.out _ _ _ _ _ _ _ _ _ _ _ T2.out) | (with_reducible exact FT.out _ T2.out) | (with_reducible exact FT.out _ T1.out) | (with_reducible exact FT.out _ T0.out)) (first
      | (go_at_call 55; with_reducible refine (EV.out _).mono ?_; rintro e w5 ⟨t1, rfl, HT1, hB⟩; (first | (have T2 := hid (KS.out _ _ T1.out hB); clear hB) | (have T1 := hid (KS.out _ _ T0.out hB); clear hB)))
      | (go_at_call 56; with_reducible refine (HI.out _).mono ?_; rintro e w5 ⟨t3, rfl, HT3, hB⟩; (first | (have T2 := hid (KS.out _ _ T1.out hB); clear hB) | (have T1 := hid (KS.out _ _ T0.out hB); clear hB))))
    have KV := hid (G.out t1 t2 t3 HT1.out HT2.out HT3.out)
    have KB := hid (BS.out _ T2.out)
    have KT := hid (TT.out _ T2.out)
    clear HT1 HT2 HT3 FT FS TT T0 T1 T2 KS BS G HI EV
    go_wp2_with fail
    (try simp only [Exit.inBlock, Exit.then])
    refine bodyPost_ret (results_cell_row rfl _ _ w.heap.size 58 _ (0, 0) _ rfl (KT.out.put _ _ _ _ _ _ _ _ _ _) Tryz.underlying58 rfl (by kernel_rfl)) rfl ?_
    exact ⟨_, rfl, KV.out, set10_below KB.out (Nat.le_refl _)⟩
end Go.Proofs.YtmdcilllcgaliaaGreatDoor

namespace Go.Proofs.YtmdcilllcgaliaaGreatDoor
open Go Go.RowKit Go.Deep


theorem blank_any (x : Int) (w : World) (h0 : 0 ≤ x) (h1 : x < 256) : Calls Tryz.prog 96 #[.int .u8 x] w fun e w' => e = .returned (.bool (Sc.bl x)) ∧ w' = w := by
  go_enter Tryz.func96, Tryz.ntmps96
  go_wp2
  all_goals (go_ret; refine ⟨vret_bool ?_, rfl⟩)
  all_goals (rw [Bool.eq_iff_iff]; simp [Sc.bl]; omega)





theorem peek_any (s : ByteArray) (xs : List Int) (k : Nat) (w : World) (hs : Str s xs) (hn : xs.length ≤ 562949953421312) : Calls Tryz.prog 93 #[.string s, .int .i64 k] w fun e w' => e = .returned (.int .u8 (Sc.pk xs k)) ∧ w' = w := by
  have hsz := hs.size
  have hx := hs.pk k
  have HS := hid hs
  have HN := hid hn
  clear hs hn
  by_cases h : k < xs.length
  · have h1 : (k : Int) < (xs.length : Int) := by omega
    go_enter Tryz.func93, Tryz.ntmps93
    go_wp2
    all_goals (go_ret; first | exact ⟨rfl, rfl⟩ | omega)
  · have h1 : ¬ (k : Int) < (xs.length : Int) := by omega
    have e : Sc.pk xs k = 0 := Sc.pk_ge (by omega)
    go_enter Tryz.func93, Tryz.ntmps93
    go_wp2
    all_goals (go_ret; first | exact ⟨rfl, rfl⟩ | exact ⟨by rw [e], rfl⟩ | omega)

theorem past_any (s : ByteArray) (xs : List Int) (k : Nat) (w : World) (hs : Str s xs) (hn : xs.length ≤ 562949953421312) (hk : k ≤ xs.length + 1) : Calls Tryz.prog 94 #[.string s, .int .i64 k] w fun e w' => e = .returned (.int .i64 ((k + Sc.sg xs k : Nat) : Int)) ∧ w' = w := by
  have P := hid (peek_any s xs k w hs hn)
  have b := hs.atb k
  have hx : Sc.pk xs k = xs.getD k 0 := rfl
  rw [← hx] at b
  have hk2 : (k : Int) ≤ 562949953421313 := by omega
  have S : Hid (∀ r : Int, (Sc.pk xs k = 43 ∨ Sc.pk xs k = 45 → r = (k : Int) + 1) → (¬ (Sc.pk xs k = 43 ∨ Sc.pk xs k = 45) → r = (k : Int)) → Ending.returned (.int .i64 r) = .returned (.int .i64 ((k + Sc.sg xs k : Nat) : Int))) := fun r h1 h2 => by
    unfold Sc.sg
    by_cases c : Sc.pk xs k = 43 ∨ Sc.pk xs k = 45
    · rw [if_pos c, h1 c]; rfl
    · rw [if_neg c, h2 c]; rfl
  clear hs hn hk hx
  generalize Sc.pk xs k = x at *
  have hc : x = 43 ∨ x = 45 ∨ ((x == 43) = false ∧ (x == 45) = false ∧ x ≠ 43 ∧ x ≠ 45) := by
    by_cases c1 : x = 43
    · exact .inl c1
    · by_cases c2 : x = 45
      · exact .inr (.inl c2)
      · exact .inr (.inr ⟨by rw [beq_eq_false_iff_ne]; exact c1, by rw [beq_eq_false_iff_ne]; exact c2, c1, c2⟩)
  rcases hc with rfl | rfl | ⟨c1, c2, c3, c4⟩
  all_goals go_enter Tryz.func94, Tryz.ntmps94
  all_goals (go_wp2_with fail; refine P.out.mono ?_; rintro e w1 ⟨rfl, rfl⟩; clear P; go_wp2_with fail; go_ret; refine ⟨?_, rfl⟩; refine S.out _ ?_ ?_)
  all_goals (intro hh; first | omega | (exfalso; revert hh; decide))

set_option maxRecDepth 100000 in
theorem blanks_any (s : ByteArray) (xs : List Int) (k : Nat) (w : World) (hs : Str s xs) (hn : xs.length ≤ 562949953421312) (hk : k ≤ xs.length) : Calls Tryz.prog 64 #[.string s, .int .i64 k] w fun e w' => e = .returned (.int .i64 ((k + Sc.run Sc.bl xs k : Nat) : Int)) ∧ w' = w := by
  have HS := hid hs
  have HN := hid hn
  have hsz := hs.size
  have HK := hid hk
  clear hs hn hk
  go_enter Tryz.func64, Tryz.ntmps64
  go_wp2_with fail
  go_loop [1] (fun c => ∃ j : Nat, c = .int .i64 j ∧ Hid (j ≤ xs.length ∧ k + Sc.run Sc.bl xs k = j + Sc.run Sc.bl xs j)) (fun c => match c with | .int _ j => xs.length - j.toNat | _ => 0)
  case atStart => exact ⟨k, rfl, HK.out, rfl⟩
  case round =>
    obtain ⟨j, rfl, I⟩ := hrel
    have hj : (j : Int) ≤ 562949953421312 := by have := I.out.1; have := HN.out; omega
    have hx := HS.out.pk j
    by_cases h : j < xs.length
    · have hji : (j : Int) < (xs.length : Int) := by omega
      have b : 0 ≤ Sc.pk xs j ∧ Sc.pk xs j < 256 := HS.out.atb j
      have B := hid (blank_any (Sc.pk xs j) w b.1 b.2)
      cases hb : Sc.bl (Sc.pk xs j) with
      | true =>
        have R := hid (Sc.run_succ Sc.bl0 hb)
        rw [hb] at B
        clear hb
        generalize Sc.pk xs j = x at *
        go_wp2_with fail
        refine B.out.mono ?_
        rintro e w1 ⟨rfl, rfl⟩
        go_wp2_with fail
        go_round
        case rel => exact ⟨j + 1, by go_num, by have := I.out.2; have := R.out; show _ ∧ _; omega⟩
        case measure => simp; omega
      | false =>
        have R := hid (Sc.run_zero Sc.bl0 hb)
        rw [hb] at B
        clear hb
        generalize Sc.pk xs j = x at *
        go_wp2_with fail
        refine B.out.mono ?_
        rintro e w1 ⟨rfl, rfl⟩
        go_wp2_with fail
        go_ret
        exact ⟨congrArg (fun z => Ending.returned (.int .i64 z)) (by have := I.out.2; have := R.out; omega), rfl⟩
    · have hji : ¬ (j : Int) < (xs.length : Int) := by omega
      have R : Hid (Sc.run Sc.bl xs j = 0) := Sc.run_zero Sc.bl0 (by rw [Sc.pk_ge (by omega)]; rfl)
      go_wp2_with fail
      go_ret
      exact ⟨congrArg (fun z => Ending.returned (.int .i64 z)) (by have := I.out.2; have := R.out; omega), rfl⟩
end Go.Proofs.YtmdcilllcgaliaaGreatDoor
