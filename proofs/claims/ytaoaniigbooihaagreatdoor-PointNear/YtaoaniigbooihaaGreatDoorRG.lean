/-
  Texts put together: PoD, PoE, PoLaw0, VTrimR, VClone, VDec, VOwn, VDig, VWalk1.
-/
import Derived.Test.YtaoaniigbooihaaGreatDoorRF
import Derived.Test.YtaoaniigbooihaaGreatDoorRE
import Derived.Test.YtaoaniigbooihaaGreatDoorRC
import Derived.Test.YtaoaniigbooihaaGreatDoorVStr
import Derived.Shelf.Pu.Clone
import Derived.Test.YtaoaniigbooihaaGreatDoorVNum2
import Derived.Laws.ResultCell
namespace Go.Proofs.YtaoaniigbooihaaGreatDoor
open Go Go.RowKit Go.Deep Go.Shelf

theorem S4.far {w : World} {b c o : Nat} {v v0 v1 v2 v3 : Value} (h : S4 w b v0 v1 v2 v3) (hc : c ≠ b) : S4 (w.setCell ⟨c, o, none⟩ v) b v0 v1 v2 v3 := by
  simp only [S4] at *
  simp only [World.setCell, Array.getElem?_modify]
  rw [if_neg hc]; exact h
/-- A Spec's box and a number's behind it. -/
structure BD (w0 : World) (V F W P : Int) (x y z : List Int) (wk : World) : Prop where
  bel : Below w0.heap.size w0 wk
  spec : S4 wk w0.heap.size (.int .u8 V) (.int .i64 F) (.int .i64 W) (.int .i64 P)
  num : N3 wk (w0.heap.size + 1) (.string (strOfNums x)) (.string (strOfNums y)) (.string (strOfNums z))
theorem BD.new (w : World) (V F W P : Int) : BD w V F W P [] [] [] ((w.alloc (.cells #[.int .u8 V, .int .i64 F, .int .i64 W, .int .i64 P] 25)).alloc (.cells #[.string ⟨#[]⟩, .string ⟨#[]⟩, .string ⟨#[]⟩] 98)) :=
  ⟨below_on (alloc_b _ _) (alloc_b _ _), heap_alloc2_old _ _ _, heap_alloc2_new _ _ _⟩
theorem BD.on {w0 wk w' : World} {V F W P : Int} {x y z : List Int} (h : BD w0 V F W P x y z wk) (k : Below wk.heap.size wk w') : BD w0 V F W P x y z w' := ⟨below_on h.bel k, h.spec.below k, h.num.below k⟩
theorem BD.drew {w0 wk : World} {V F W P : Int} {x y z : List Int} (h : BD w0 V F W P x y z wk) : BD w0 V F W P x y z wk.drew := ⟨h.bel.drew, h.spec, h.num⟩
theorem BD.put {w0 wk : World} {V F W P : Int} {x y z : List Int} (h : BD w0 V F W P x y z wk) (x' y' z' : List Int) :
    BD w0 V F W P x' y' z' (((wk.setCell ⟨w0.heap.size + 1, 0, none⟩ (.string (strOfNums x'))).setCell ⟨w0.heap.size + 1, 1, none⟩ (.string (strOfNums y'))).setCell ⟨w0.heap.size + 1, 2, none⟩ (.string (strOfNums z'))) :=
  ⟨fset3_below h.bel (Nat.le_succ _), ((h.spec.far (by omega)).far (by omega)).far (by omega), h.num.put _ _ _⟩
theorem BD.put1 {w0 wk : World} {V F W P : Int} {x y z : List Int} (h : BD w0 V F W P x y z wk) (y' : List Int) :
    BD w0 V F W P x y' z (wk.setCell ⟨w0.heap.size + 1, 1, none⟩ (.string (strOfNums y'))) :=
  ⟨h.bel.setCell (p := ⟨w0.heap.size + 1, 1, none⟩) (Nat.le_succ _) _, h.spec.far (by omega), h.num.put1 _⟩
theorem BD.flat {w0 wk : World} {V F W P : Int} {x y z : List Int} (h : BD w0 V F W P x y z wk) :
    (wk.cell? ⟨w0.heap.size, 0, none⟩ = some (.int .u8 V) ∧ wk.cell? ⟨w0.heap.size, 1, none⟩ = some (.int .i64 F) ∧ wk.cell? ⟨w0.heap.size, 2, none⟩ = some (.int .i64 W) ∧ wk.cell? ⟨w0.heap.size, 3, none⟩ = some (.int .i64 P)) ∧
    (wk.cell? ⟨w0.heap.size + 1, 0, none⟩ = some (.string (strOfNums x)) ∧ wk.cell? ⟨w0.heap.size + 1, 1, none⟩ = some (.string (strOfNums y)) ∧ wk.cell? ⟨w0.heap.size + 1, 2, none⟩ = some (.string (strOfNums z))) := ⟨h.spec.cells.1, h.num.cells.1⟩
theorem BD.cells {w0 wk : World} {V F W P : Int} {x y z : List Int} (h : BD w0 V F W P x y z wk) :
    ((wk.cell? ⟨w0.heap.size, 0, none⟩ = some (.int .u8 V) ∧ wk.cell? ⟨w0.heap.size, 1, none⟩ = some (.int .i64 F) ∧ wk.cell? ⟨w0.heap.size, 2, none⟩ = some (.int .i64 W) ∧ wk.cell? ⟨w0.heap.size, 3, none⟩ = some (.int .i64 P))) ∧
    (wk.cell? ⟨w0.heap.size + 1, 0, none⟩ = some (.string (strOfNums x)) ∧ wk.cell? ⟨w0.heap.size + 1, 1, none⟩ = some (.string (strOfNums y)) ∧ wk.cell? ⟨w0.heap.size + 1, 2, none⟩ = some (.string (strOfNums z))) ∧
    (wk.frozen? ⟨w0.heap.size + 1, 0, none⟩ = false ∧ wk.frozen? ⟨w0.heap.size + 1, 1, none⟩ = false ∧ wk.frozen? ⟨w0.heap.size + 1, 2, none⟩ = false) := ⟨h.spec.cells.1, h.num.cells.1, h.num.cells.2⟩

/-- strings.TrimRight at one '0', as a list. -/
theorem ptrim_any (xs : List Int) (w : World) (hx : Wh.By xs) (hl : xs.length ≤ 100000) :
    Calls Tryz.prog 63 #[.string (strOfNums xs), .string ⟨#[48]⟩] w fun e w' => e = .returned (.string (strOfNums (Po.sp xs))) ∧ w' = w := by
  refine (frtrim0_any (strOfNums xs) xs w (Str.of_nums hx) (by omega)).mono ?_
  rintro e w' ⟨⟨s', k, rfl, h1, h2, h3, h4⟩, rfl⟩
  exact ⟨by rw [str_is h1, Po.sp_of h2 h3 h4], rfl⟩

set_option maxRecDepth 100000 in
set_option maxHeartbeats 4000000 in
theorem pbody_f (V F W P d : Int) (w : World) (hT : Tab w) (_v0 : 0 ≤ V) (_v1 : V < 256) (hV : V = 102 ∨ V = 70) (f0 : 0 ≤ F) (f1 : F ≤ 31) (p0 : -1 ≤ P) (p1 : P ≤ 4096) (h0 : 0 ≤ d) (h1 : d < 18446744073709551616) (hf : Ie.fnt d = true) :
    Calls Tryz.prog 33 #[.agg #[.int .u8 V, .int .i64 F, .int .i64 W, .int .i64 P], .int .u64 d] w fun e w' => e = .returned (.string (strOfNums (Po.bdF (Wh.bit F 8) d (Po.pr P)))) ∧ Below w.heap.size w w' := by
  obtain ⟨q0, q1⟩ := Po.pr_bd p0 p1
  have K := Po.plF hf q0 (by omega)
  have PA : Hid (∀ wk, Tab wk → Calls Tryz.prog 60 #[.int .u64 d, .int .i64 (Po.pr P)] wk fun e w' => e = .returned (NumV (Fx.pA d (Po.pr P)) (Fx.pB d (Po.pr P)) []) ∧ Below wk.heap.size wk w') := fun wk h => pplaced_any d (Po.pr P) wk h h0 h1
  have WR : Hid (∀ wk, Calls Tryz.prog 64 #[NumV (Fx.pA d (Po.pr P)) (Fx.pB d (Po.pr P)) [], .bool (Wh.bit F 8)] wk fun e w' => e = .returned (.string (strOfNums (Po.bdF (Wh.bit F 8) d (Po.pr P)))) ∧ Below wk.heap.size wk w') := fun wk => pwritten_any _ _ _ _ wk (Po.digs_by K.a) (Po.digs_by K.b) Wh.By.nil (by have := K.la; omega) (by have := K.lb; omega) (by simp)
  have B := hid (BD.new w V F W P)
  have TT := hid (hT.below (BD.new w V F W P).bel)
  have HS : Hid (∀ wk, Calls Tryz.prog 59 #[.agg #[.int .u8 V, .int .i64 F, .int .i64 W, .int .i64 P], .int .i64 8] wk fun e w' => e = .returned (.bool (Wh.bit F 8)) ∧ Below wk.heap.size wk w') := by
    intro wk
    have q := phas_any V F W P 8 wk
    rw [Po.hb_is f0 f1 (by omega)] at q
    exact q
  unfold NumV at PA WR
  have PR : Hid (Po.pr P = if P = -1 then 6 else P) := rfl
  clear hT h0 h1 hf K f0 f1
  generalize Po.bdF (Wh.bit F 8) d (Po.pr P) = R at *
  generalize Fx.pA d (Po.pr P) = x at *
  generalize Fx.pB d (Po.pr P) = y at *
  generalize Wh.bit F 8 = hh at *
  generalize Po.pr P = pp at *
  rcases hV with rfl | rfl
  · by_cases hP : P = -1
    · have e6 : pp = 6 := by rw [PR.out, if_pos hP]
      subst e6
      subst hP
      clear PR
      go_enter Tryz.func33, Tryz.ntmps33
      go_wp2_with fail
      with_reducible refine (PA.out _ TT.out).mono ?_
      rintro e w1 ⟨rfl, b1⟩
      have B1 := hid (B.out.on b1)
      have B2 := hid (B1.out.put x y [])
      obtain ⟨⟨s0, s1, s2, s3⟩, ⟨c0, c1, c2⟩, g0, g1, g2⟩ := B1.out.cells
      clear b1 B PA TT
      go_upto_region 15 with fail
      have T1 := hid B2.out.drew
      go_region_held3 (fun wx => (wx.cell? ⟨w.heap.size, 0, none⟩ = some (.int .u8 102) ∧ wx.cell? ⟨w.heap.size, 1, none⟩ = some (.int .i64 F) ∧ wx.cell? ⟨w.heap.size, 2, none⟩ = some (.int .i64 W) ∧ wx.cell? ⟨w.heap.size, 3, none⟩ = some (.int .i64 (-1))) ∧ (wx.cell? ⟨w.heap.size + 1, 0, none⟩ = some (.string (strOfNums x)) ∧ wx.cell? ⟨w.heap.size + 1, 1, none⟩ = some (.string (strOfNums y)) ∧ wx.cell? ⟨w.heap.size + 1, 2, none⟩ = some (.string (strOfNums [])))) (first | (with_reducible exact T3.out.flat) | (with_reducible exact T2.out.flat) | (with_reducible exact T1.out.flat)) (first
        | (go_at_call 59; with_reducible refine (HS.out _).mono ?_; rintro e wa ⟨rfl, hB⟩; have T2 := hid (T1.out.on hB); clear hB)
        | (go_at_call 64; with_reducible refine (WR.out _).mono ?_; rintro e wb ⟨rfl, hB⟩; have T3 := hid (T2.out.on hB); clear hB))
      go_wp2_with fail
      go_ret
      exact ⟨rfl, T3.out.bel⟩
    · have e6 : P = pp := by rw [PR.out, if_neg hP]
      have hne : (pp == -1) = false := by rw [← e6]; simpa using hP
      subst e6
      clear PR hP
      go_enter Tryz.func33, Tryz.ntmps33
      go_wp2_with fail
      with_reducible refine (PA.out _ TT.out).mono ?_
      rintro e w1 ⟨rfl, b1⟩
      have B1 := hid (B.out.on b1)
      have B2 := hid (B1.out.put x y [])
      obtain ⟨⟨s0, s1, s2, s3⟩, ⟨c0, c1, c2⟩, g0, g1, g2⟩ := B1.out.cells
      clear b1 B PA TT
      go_upto_region 15 with fail
      have T1 := hid B2.out.drew
      go_region_held3 (fun wx => (wx.cell? ⟨w.heap.size, 0, none⟩ = some (.int .u8 102) ∧ wx.cell? ⟨w.heap.size, 1, none⟩ = some (.int .i64 F) ∧ wx.cell? ⟨w.heap.size, 2, none⟩ = some (.int .i64 W) ∧ wx.cell? ⟨w.heap.size, 3, none⟩ = some (.int .i64 P)) ∧ (wx.cell? ⟨w.heap.size + 1, 0, none⟩ = some (.string (strOfNums x)) ∧ wx.cell? ⟨w.heap.size + 1, 1, none⟩ = some (.string (strOfNums y)) ∧ wx.cell? ⟨w.heap.size + 1, 2, none⟩ = some (.string (strOfNums [])))) (first | (with_reducible exact T3.out.flat) | (with_reducible exact T2.out.flat) | (with_reducible exact T1.out.flat)) (first
        | (go_at_call 59; with_reducible refine (HS.out _).mono ?_; rintro e wa ⟨rfl, hB⟩; have T2 := hid (T1.out.on hB); clear hB)
        | (go_at_call 64; with_reducible refine (WR.out _).mono ?_; rintro e wb ⟨rfl, hB⟩; have T3 := hid (T2.out.on hB); clear hB))
      go_wp2_with fail
      go_ret
      exact ⟨rfl, T3.out.bel⟩
  · by_cases hP : P = -1
    · have e6 : pp = 6 := by rw [PR.out, if_pos hP]
      subst e6
      subst hP
      clear PR
      go_enter Tryz.func33, Tryz.ntmps33
      go_wp2_with fail
      with_reducible refine (PA.out _ TT.out).mono ?_
      rintro e w1 ⟨rfl, b1⟩
      have B1 := hid (B.out.on b1)
      have B2 := hid (B1.out.put x y [])
      obtain ⟨⟨s0, s1, s2, s3⟩, ⟨c0, c1, c2⟩, g0, g1, g2⟩ := B1.out.cells
      clear b1 B PA TT
      go_upto_region 15 with fail
      have T1 := hid B2.out.drew
      go_region_held3 (fun wx => (wx.cell? ⟨w.heap.size, 0, none⟩ = some (.int .u8 70) ∧ wx.cell? ⟨w.heap.size, 1, none⟩ = some (.int .i64 F) ∧ wx.cell? ⟨w.heap.size, 2, none⟩ = some (.int .i64 W) ∧ wx.cell? ⟨w.heap.size, 3, none⟩ = some (.int .i64 (-1))) ∧ (wx.cell? ⟨w.heap.size + 1, 0, none⟩ = some (.string (strOfNums x)) ∧ wx.cell? ⟨w.heap.size + 1, 1, none⟩ = some (.string (strOfNums y)) ∧ wx.cell? ⟨w.heap.size + 1, 2, none⟩ = some (.string (strOfNums [])))) (first | (with_reducible exact T3.out.flat) | (with_reducible exact T2.out.flat) | (with_reducible exact T1.out.flat)) (first
        | (go_at_call 59; with_reducible refine (HS.out _).mono ?_; rintro e wa ⟨rfl, hB⟩; have T2 := hid (T1.out.on hB); clear hB)
        | (go_at_call 64; with_reducible refine (WR.out _).mono ?_; rintro e wb ⟨rfl, hB⟩; have T3 := hid (T2.out.on hB); clear hB))
      go_wp2_with fail
      go_ret
      exact ⟨rfl, T3.out.bel⟩
    · have e6 : P = pp := by rw [PR.out, if_neg hP]
      have hne : (pp == -1) = false := by rw [← e6]; simpa using hP
      subst e6
      clear PR hP
      go_enter Tryz.func33, Tryz.ntmps33
      go_wp2_with fail
      with_reducible refine (PA.out _ TT.out).mono ?_
      rintro e w1 ⟨rfl, b1⟩
      have B1 := hid (B.out.on b1)
      have B2 := hid (B1.out.put x y [])
      obtain ⟨⟨s0, s1, s2, s3⟩, ⟨c0, c1, c2⟩, g0, g1, g2⟩ := B1.out.cells
      clear b1 B PA TT
      go_upto_region 15 with fail
      have T1 := hid B2.out.drew
      go_region_held3 (fun wx => (wx.cell? ⟨w.heap.size, 0, none⟩ = some (.int .u8 70) ∧ wx.cell? ⟨w.heap.size, 1, none⟩ = some (.int .i64 F) ∧ wx.cell? ⟨w.heap.size, 2, none⟩ = some (.int .i64 W) ∧ wx.cell? ⟨w.heap.size, 3, none⟩ = some (.int .i64 P)) ∧ (wx.cell? ⟨w.heap.size + 1, 0, none⟩ = some (.string (strOfNums x)) ∧ wx.cell? ⟨w.heap.size + 1, 1, none⟩ = some (.string (strOfNums y)) ∧ wx.cell? ⟨w.heap.size + 1, 2, none⟩ = some (.string (strOfNums [])))) (first | (with_reducible exact T3.out.flat) | (with_reducible exact T2.out.flat) | (with_reducible exact T1.out.flat)) (first
        | (go_at_call 59; with_reducible refine (HS.out _).mono ?_; rintro e wa ⟨rfl, hB⟩; have T2 := hid (T1.out.on hB); clear hB)
        | (go_at_call 64; with_reducible refine (WR.out _).mono ?_; rintro e wb ⟨rfl, hB⟩; have T3 := hid (T2.out.on hB); clear hB))
      go_wp2_with fail
      go_ret
      exact ⟨rfl, T3.out.bel⟩
set_option maxRecDepth 100000 in
set_option maxHeartbeats 4000000 in
theorem pbody_e (V F W P d : Int) (w : World) (hT : Tab w) (v0 : 0 ≤ V) (v1 : V < 256) (hV : V = 101 ∨ V = 69) (f0 : 0 ≤ F) (f1 : F ≤ 31) (p0 : -1 ≤ P) (p1 : P ≤ 4096) (h0 : 0 ≤ d) (h1 : d < 18446744073709551616) (hf : Ie.fnt d = true) :
    Calls Tryz.prog 33 #[.agg #[.int .u8 V, .int .i64 F, .int .i64 W, .int .i64 P], .int .u64 d] w fun e w' => e = .returned (.string (strOfNums (Po.bdE V (Wh.bit F 8) d (Po.pr P)))) ∧ Below w.heap.size w w' := by
  obtain ⟨q0, q1⟩ := Po.pr_bd p0 p1
  have K := Po.fgF hf (n := Po.pr P + 1) (by omega) (by omega)
  have PA : Hid (∀ wk, Tab wk → Calls Tryz.prog 61 #[.int .u8 V, .int .u64 d, .int .i64 (Po.pr P)] wk fun e w' => e = .returned (NumV ((Fx.gS d (Po.pr P + 1)).take 1) ((Fx.gS d (Po.pr P + 1)).drop 1) (Po.ex V (Fx.gK d (Po.pr P + 1)))) ∧ Below wk.heap.size wk w') := fun wk h => ppowered_any V d (Po.pr P) wk h v0 v1 h0 h1 hf q0 (by omega)
  have WR : Hid (∀ wk, Calls Tryz.prog 64 #[NumV ((Fx.gS d (Po.pr P + 1)).take 1) ((Fx.gS d (Po.pr P + 1)).drop 1) (Po.ex V (Fx.gK d (Po.pr P + 1))), .bool (Wh.bit F 8)] wk fun e w' => e = .returned (.string (strOfNums (Po.bdE V (Wh.bit F 8) d (Po.pr P)))) ∧ Below wk.heap.size wk w') := fun wk => pwritten_any _ _ _ _ wk (Po.digs_by (Po.digs_take K.s _)) (Po.digs_by (Po.digs_drop K.s _)) (Po.ex_by _ _) (by rw [List.length_take]; omega) (by have := K.len; rw [List.length_drop]; omega) (by have := Po.ex_len (V := V) (k := Fx.gK d (Po.pr P + 1)) (by have := K.lo; omega) (by have := K.hi; omega); omega)
  have B := hid (BD.new w V F W P)
  have TT := hid (hT.below (BD.new w V F W P).bel)
  have HS : Hid (∀ wk, Calls Tryz.prog 59 #[.agg #[.int .u8 V, .int .i64 F, .int .i64 W, .int .i64 P], .int .i64 8] wk fun e w' => e = .returned (.bool (Wh.bit F 8)) ∧ Below wk.heap.size wk w') := by
    intro wk
    have q := phas_any V F W P 8 wk
    rw [Po.hb_is f0 f1 (by omega)] at q
    exact q
  unfold NumV at PA WR
  have PR : Hid (Po.pr P = if P = -1 then 6 else P) := rfl
  clear hT h0 h1 hf K f0 f1
  generalize Po.bdE V (Wh.bit F 8) d (Po.pr P) = R at *
  generalize (Fx.gS d (Po.pr P + 1)).take 1 = x at *
  generalize (Fx.gS d (Po.pr P + 1)).drop 1 = y at *
  generalize Po.ex V (Fx.gK d (Po.pr P + 1)) = z at *
  generalize Wh.bit F 8 = hh at *
  generalize Po.pr P = pp at *
  rcases hV with rfl | rfl
  · by_cases hP : P = -1
    · have e6 : pp = 6 := by rw [PR.out, if_pos hP]
      subst e6
      subst hP
      clear PR
      go_enter Tryz.func33, Tryz.ntmps33
      go_wp2_with fail
      with_reducible refine (PA.out _ TT.out).mono ?_
      rintro e w1 ⟨rfl, b1⟩
      have B1 := hid (B.out.on b1)
      have B2 := hid (B1.out.put x y z)
      obtain ⟨⟨s0, s1, s2, s3⟩, ⟨c0, c1, c2⟩, g0, g1, g2⟩ := B1.out.cells
      clear b1 B PA TT
      go_upto_region 15 with fail
      have T1 := hid B2.out.drew
      go_region_held3 (fun wx => (wx.cell? ⟨w.heap.size, 0, none⟩ = some (.int .u8 101) ∧ wx.cell? ⟨w.heap.size, 1, none⟩ = some (.int .i64 F) ∧ wx.cell? ⟨w.heap.size, 2, none⟩ = some (.int .i64 W) ∧ wx.cell? ⟨w.heap.size, 3, none⟩ = some (.int .i64 (-1))) ∧ (wx.cell? ⟨w.heap.size + 1, 0, none⟩ = some (.string (strOfNums x)) ∧ wx.cell? ⟨w.heap.size + 1, 1, none⟩ = some (.string (strOfNums y)) ∧ wx.cell? ⟨w.heap.size + 1, 2, none⟩ = some (.string (strOfNums z)))) (first | (with_reducible exact T3.out.flat) | (with_reducible exact T2.out.flat) | (with_reducible exact T1.out.flat)) (first
        | (go_at_call 59; with_reducible refine (HS.out _).mono ?_; rintro e wa ⟨rfl, hB⟩; have T2 := hid (T1.out.on hB); clear hB)
        | (go_at_call 64; with_reducible refine (WR.out _).mono ?_; rintro e wb ⟨rfl, hB⟩; have T3 := hid (T2.out.on hB); clear hB))
      go_wp2_with fail
      go_ret
      exact ⟨rfl, T3.out.bel⟩
    · have e6 : P = pp := by rw [PR.out, if_neg hP]
      have hne : (pp == -1) = false := by rw [← e6]; simpa using hP
      subst e6
      clear PR hP
      go_enter Tryz.func33, Tryz.ntmps33
      go_wp2_with fail
      with_reducible refine (PA.out _ TT.out).mono ?_
      rintro e w1 ⟨rfl, b1⟩
      have B1 := hid (B.out.on b1)
      have B2 := hid (B1.out.put x y z)
      obtain ⟨⟨s0, s1, s2, s3⟩, ⟨c0, c1, c2⟩, g0, g1, g2⟩ := B1.out.cells
      clear b1 B PA TT
      go_upto_region 15 with fail
      have T1 := hid B2.out.drew
      go_region_held3 (fun wx => (wx.cell? ⟨w.heap.size, 0, none⟩ = some (.int .u8 101) ∧ wx.cell? ⟨w.heap.size, 1, none⟩ = some (.int .i64 F) ∧ wx.cell? ⟨w.heap.size, 2, none⟩ = some (.int .i64 W) ∧ wx.cell? ⟨w.heap.size, 3, none⟩ = some (.int .i64 P)) ∧ (wx.cell? ⟨w.heap.size + 1, 0, none⟩ = some (.string (strOfNums x)) ∧ wx.cell? ⟨w.heap.size + 1, 1, none⟩ = some (.string (strOfNums y)) ∧ wx.cell? ⟨w.heap.size + 1, 2, none⟩ = some (.string (strOfNums z)))) (first | (with_reducible exact T3.out.flat) | (with_reducible exact T2.out.flat) | (with_reducible exact T1.out.flat)) (first
        | (go_at_call 59; with_reducible refine (HS.out _).mono ?_; rintro e wa ⟨rfl, hB⟩; have T2 := hid (T1.out.on hB); clear hB)
        | (go_at_call 64; with_reducible refine (WR.out _).mono ?_; rintro e wb ⟨rfl, hB⟩; have T3 := hid (T2.out.on hB); clear hB))
      go_wp2_with fail
      go_ret
      exact ⟨rfl, T3.out.bel⟩
  · by_cases hP : P = -1
    · have e6 : pp = 6 := by rw [PR.out, if_pos hP]
      subst e6
      subst hP
      clear PR
      go_enter Tryz.func33, Tryz.ntmps33
      go_wp2_with fail
      with_reducible refine (PA.out _ TT.out).mono ?_
      rintro e w1 ⟨rfl, b1⟩
      have B1 := hid (B.out.on b1)
      have B2 := hid (B1.out.put x y z)
      obtain ⟨⟨s0, s1, s2, s3⟩, ⟨c0, c1, c2⟩, g0, g1, g2⟩ := B1.out.cells
      clear b1 B PA TT
      go_upto_region 15 with fail
      have T1 := hid B2.out.drew
      go_region_held3 (fun wx => (wx.cell? ⟨w.heap.size, 0, none⟩ = some (.int .u8 69) ∧ wx.cell? ⟨w.heap.size, 1, none⟩ = some (.int .i64 F) ∧ wx.cell? ⟨w.heap.size, 2, none⟩ = some (.int .i64 W) ∧ wx.cell? ⟨w.heap.size, 3, none⟩ = some (.int .i64 (-1))) ∧ (wx.cell? ⟨w.heap.size + 1, 0, none⟩ = some (.string (strOfNums x)) ∧ wx.cell? ⟨w.heap.size + 1, 1, none⟩ = some (.string (strOfNums y)) ∧ wx.cell? ⟨w.heap.size + 1, 2, none⟩ = some (.string (strOfNums z)))) (first | (with_reducible exact T3.out.flat) | (with_reducible exact T2.out.flat) | (with_reducible exact T1.out.flat)) (first
        | (go_at_call 59; with_reducible refine (HS.out _).mono ?_; rintro e wa ⟨rfl, hB⟩; have T2 := hid (T1.out.on hB); clear hB)
        | (go_at_call 64; with_reducible refine (WR.out _).mono ?_; rintro e wb ⟨rfl, hB⟩; have T3 := hid (T2.out.on hB); clear hB))
      go_wp2_with fail
      go_ret
      exact ⟨rfl, T3.out.bel⟩
    · have e6 : P = pp := by rw [PR.out, if_neg hP]
      have hne : (pp == -1) = false := by rw [← e6]; simpa using hP
      subst e6
      clear PR hP
      go_enter Tryz.func33, Tryz.ntmps33
      go_wp2_with fail
      with_reducible refine (PA.out _ TT.out).mono ?_
      rintro e w1 ⟨rfl, b1⟩
      have B1 := hid (B.out.on b1)
      have B2 := hid (B1.out.put x y z)
      obtain ⟨⟨s0, s1, s2, s3⟩, ⟨c0, c1, c2⟩, g0, g1, g2⟩ := B1.out.cells
      clear b1 B PA TT
      go_upto_region 15 with fail
      have T1 := hid B2.out.drew
      go_region_held3 (fun wx => (wx.cell? ⟨w.heap.size, 0, none⟩ = some (.int .u8 69) ∧ wx.cell? ⟨w.heap.size, 1, none⟩ = some (.int .i64 F) ∧ wx.cell? ⟨w.heap.size, 2, none⟩ = some (.int .i64 W) ∧ wx.cell? ⟨w.heap.size, 3, none⟩ = some (.int .i64 P)) ∧ (wx.cell? ⟨w.heap.size + 1, 0, none⟩ = some (.string (strOfNums x)) ∧ wx.cell? ⟨w.heap.size + 1, 1, none⟩ = some (.string (strOfNums y)) ∧ wx.cell? ⟨w.heap.size + 1, 2, none⟩ = some (.string (strOfNums z)))) (first | (with_reducible exact T3.out.flat) | (with_reducible exact T2.out.flat) | (with_reducible exact T1.out.flat)) (first
        | (go_at_call 59; with_reducible refine (HS.out _).mono ?_; rintro e wa ⟨rfl, hB⟩; have T2 := hid (T1.out.on hB); clear hB)
        | (go_at_call 64; with_reducible refine (WR.out _).mono ?_; rintro e wb ⟨rfl, hB⟩; have T3 := hid (T2.out.on hB); clear hB))
      go_wp2_with fail
      go_ret
      exact ⟨rfl, T3.out.bel⟩
set_option maxRecDepth 100000 in
set_option maxHeartbeats 4000000 in
theorem pbody_g (V F W P d : Int) (w : World) (hT : Tab w) (v0 : 0 ≤ V) (v1 : V < 256) (hV : V ≠ 102 ∧ V ≠ 70 ∧ V ≠ 101 ∧ V ≠ 69) (f0 : 0 ≤ F) (f1 : F ≤ 31) (p0 : -1 ≤ P) (p1 : P ≤ 4096) (h0 : 0 ≤ d) (h1 : d < 18446744073709551616) (hf : Ie.fnt d = true) :
    Calls Tryz.prog 33 #[.agg #[.int .u8 V, .int .i64 F, .int .i64 W, .int .i64 P], .int .u64 d] w fun e w' => e = .returned (.string (strOfNums (Po.bdG V (Wh.bit F 8) d (max (Po.pr P) 1)))) ∧ Below w.heap.size w w' := by
  obtain ⟨q0, q1⟩ := Po.pr_bd p0 p1
  have key : ∃ x y z : List Int, Hid (∀ wk, Tab wk → Calls Tryz.prog 62 #[.int .u8 V, .int .u64 d, .int .i64 (max (Po.pr P) 1)] wk fun e w' => e = .returned (NumV x y z) ∧ Below wk.heap.size wk w') ∧
      Hid (∀ wk, Calls Tryz.prog 64 #[NumV x (Po.st (Wh.bit F 8) y) z, .bool (Wh.bit F 8)] wk fun e w' => e = .returned (.string (strOfNums (Po.bdG V (Wh.bit F 8) d (max (Po.pr P) 1)))) ∧ Below wk.heap.size wk w') ∧ Wh.By y ∧ y.length ≤ 10000 := by
    have K := Po.fgF hf (n := max (Po.pr P) 1) (by omega) (by omega)
    have GN : ∀ wk, Tab wk → _ := fun wk h => pgeneral_any V d (max (Po.pr P) 1) wk h v0 v1 h0 h1 hf (by omega) (by omega)
    by_cases g : -4 ≤ Fx.gK d (max (Po.pr P) 1) ∧ Fx.gK d (max (Po.pr P) 1) < max (Po.pr P) 1
    · have J := Po.plF hf (n := max (Po.pr P) 1 - 1 - Fx.gK d (max (Po.pr P) 1)) (by omega) (by omega)
      simp only [if_pos g] at GN
      refine ⟨_, _, _, GN, fun wk => ?_, Po.digs_by J.b, by have := J.lb; omega⟩
      have q := pwritten_any (Fx.pA d (max (Po.pr P) 1 - 1 - Fx.gK d (max (Po.pr P) 1))) (Po.st (Wh.bit F 8) (Fx.pB d (max (Po.pr P) 1 - 1 - Fx.gK d (max (Po.pr P) 1)))) [] (Wh.bit F 8) wk (Po.digs_by J.a) (Po.digs_by (Po.digs_st _ J.b)) Wh.By.nil (by have := J.la; omega) (by have := J.lb; have := Po.st_len (Wh.bit F 8) (Fx.pB d (max (Po.pr P) 1 - 1 - Fx.gK d (max (Po.pr P) 1))); omega) (by simp)
      unfold Po.bdG
      rw [if_pos g]
      exact q
    · simp only [if_neg g] at GN
      have ln := K.len
      refine ⟨_, _, _, GN, fun wk => ?_, Po.digs_by (Po.digs_drop K.s _), by rw [List.length_drop]; omega⟩
      have q := pwritten_any ((Fx.gS d (max (Po.pr P) 1)).take 1) (Po.st (Wh.bit F 8) ((Fx.gS d (max (Po.pr P) 1)).drop 1)) (Po.ex V (Fx.gK d (max (Po.pr P) 1))) (Wh.bit F 8) wk (Po.digs_by (Po.digs_take K.s _)) (Po.digs_by (Po.digs_st _ (Po.digs_drop K.s _))) (Po.ex_by _ _) (by rw [List.length_take]; omega) (by have := Po.st_len (Wh.bit F 8) ((Fx.gS d (max (Po.pr P) 1)).drop 1); rw [List.length_drop] at this; omega) (by have := Po.ex_len (V := V) (k := Fx.gK d (max (Po.pr P) 1)) (by have := K.lo; omega) (by have := K.hi; omega); omega)
      unfold Po.bdG
      rw [if_neg g]
      exact q
  obtain ⟨x, y, z, PA, WR, yb, yl⟩ := key
  have TR := hid (fun wk => ptrim_any y wk yb (by omega))
  have B := hid (BD.new w V F W P)
  have TT := hid (hT.below (BD.new w V F W P).bel)
  have HS : Hid (∀ wk, Calls Tryz.prog 59 #[.agg #[.int .u8 V, .int .i64 F, .int .i64 W, .int .i64 P], .int .i64 8] wk fun e w' => e = .returned (.bool (Wh.bit F 8)) ∧ Below wk.heap.size wk w') := by
    intro wk
    have q := phas_any V F W P 8 wk
    rw [Po.hb_is f0 f1 (by omega)] at q
    exact q
  unfold NumV at PA WR
  have PR : Hid (Po.pr P = if P = -1 then 6 else P) := rfl
  have n1 : (V == 102) = false := by simpa using hV.1
  have n2 : (V == 70) = false := by simpa using hV.2.1
  have n3 : (V == 101) = false := by simpa using hV.2.2.1
  have n4 : (V == 69) = false := by simpa using hV.2.2.2
  clear hT h0 h1 hf f0 f1 v0 v1 yb yl hV
  generalize Po.bdG V (Wh.bit F 8) d (max (Po.pr P) 1) = R at *
  have E1 : Hid (Wh.bit F 8 = true → Po.st (Wh.bit F 8) y = y) := fun h => by unfold Po.st; rw [if_pos h]
  have E2 : Hid (Wh.bit F 8 = false → Po.st (Wh.bit F 8) y = Po.sp y) := fun h => by unfold Po.st; rw [if_neg (by rw [h]; decide)]
  generalize Wh.bit F 8 = hh at *
  generalize Po.st hh y = ys at *
  generalize Po.sp y = y2 at *
  obtain ⟨mm, hmm⟩ : ∃ mm, max (Po.pr P) 1 = mm := ⟨_, rfl⟩
  rw [hmm] at PA
  cases hh with
  | true =>
    have e := E1.out rfl
    subst e
    clear E1 E2
    by_cases hP : P = -1
    · have e6 : mm = 6 := by rw [← hmm, PR.out, if_pos hP]; decide
      subst e6
      subst hP
      clear PR hmm
      have m61 : max (6 : Int) 1 = 6 := by decide
      go_enter Tryz.func33, Tryz.ntmps33
      go_wp2_with fail
      with_reducible refine (PA.out _ TT.out).mono ?_
      rintro e w1 ⟨rfl, b1⟩
      have B1 := hid (B.out.on b1)
      have B2 := hid (B1.out.put x ys z)
      obtain ⟨⟨s0, s1, s2, s3⟩, ⟨c0, c1, c2⟩, g0, g1, g2⟩ := B1.out.cells
      clear b1 B PA TT
      go_upto_region 7 with fail
      generalize ((w1.setCell ⟨w.heap.size + 1, 0, none⟩ (.string (strOfNums x))).setCell ⟨w.heap.size + 1, 1, none⟩ (.string (strOfNums ys))).setCell ⟨w.heap.size + 1, 2, none⟩ (.string (strOfNums z)) = w2 at *
      clear s0 s1 s2 s3 c0 c1 c2 g0 g1 g2 B1
      obtain ⟨⟨s0, s1, s2, s3⟩, ⟨c0, c1, c2⟩, g0, g1, g2⟩ := B2.out.cells
      go_wp2_with fail
      with_reducible refine (HS.out _).mono ?_
      rintro e w3 ⟨rfl, b3⟩
      have B3 := hid (B2.out.on b3)
      clear s0 s1 s2 s3 c0 c1 c2 g0 g1 g2 B2 b3
      obtain ⟨⟨s0, s1, s2, s3⟩, ⟨c0, c1, c2⟩, g0, g1, g2⟩ := B3.out.cells
      go_upto_region 15 with fail
      have T1 := hid B3.out.drew
      go_region_held3 (fun wx => (wx.cell? ⟨w.heap.size, 0, none⟩ = some (.int .u8 V) ∧ wx.cell? ⟨w.heap.size, 1, none⟩ = some (.int .i64 F) ∧ wx.cell? ⟨w.heap.size, 2, none⟩ = some (.int .i64 W) ∧ wx.cell? ⟨w.heap.size, 3, none⟩ = some (.int .i64 (-1))) ∧ (wx.cell? ⟨w.heap.size + 1, 0, none⟩ = some (.string (strOfNums x)) ∧ wx.cell? ⟨w.heap.size + 1, 1, none⟩ = some (.string (strOfNums ys)) ∧ wx.cell? ⟨w.heap.size + 1, 2, none⟩ = some (.string (strOfNums z)))) (first | (with_reducible exact T3.out.flat) | (with_reducible exact T2.out.flat) | (with_reducible exact T1.out.flat)) (first
        | (go_at_call 59; with_reducible refine (HS.out _).mono ?_; rintro e wa ⟨rfl, hB⟩; have T2 := hid (T1.out.on hB); clear hB)
        | (go_at_call 64; with_reducible refine (WR.out _).mono ?_; rintro e wb ⟨rfl, hB⟩; have T3 := hid (T2.out.on hB); clear hB))
      go_wp2_with fail
      go_ret
      exact ⟨rfl, T3.out.bel⟩
    · have e6 : max P 1 = mm := by rw [← hmm, PR.out, if_neg hP]
      have hne : (P == -1) = false := by simpa using hP
      clear PR hP hmm
      go_enter Tryz.func33, Tryz.ntmps33
      go_wp2_with fail
      with_reducible refine (PA.out _ TT.out).mono ?_
      rintro e w1 ⟨rfl, b1⟩
      have B1 := hid (B.out.on b1)
      have B2 := hid (B1.out.put x ys z)
      obtain ⟨⟨s0, s1, s2, s3⟩, ⟨c0, c1, c2⟩, g0, g1, g2⟩ := B1.out.cells
      clear b1 B PA TT
      go_upto_region 7 with fail
      generalize ((w1.setCell ⟨w.heap.size + 1, 0, none⟩ (.string (strOfNums x))).setCell ⟨w.heap.size + 1, 1, none⟩ (.string (strOfNums ys))).setCell ⟨w.heap.size + 1, 2, none⟩ (.string (strOfNums z)) = w2 at *
      clear s0 s1 s2 s3 c0 c1 c2 g0 g1 g2 B1
      obtain ⟨⟨s0, s1, s2, s3⟩, ⟨c0, c1, c2⟩, g0, g1, g2⟩ := B2.out.cells
      go_wp2_with fail
      with_reducible refine (HS.out _).mono ?_
      rintro e w3 ⟨rfl, b3⟩
      have B3 := hid (B2.out.on b3)
      clear s0 s1 s2 s3 c0 c1 c2 g0 g1 g2 B2 b3
      obtain ⟨⟨s0, s1, s2, s3⟩, ⟨c0, c1, c2⟩, g0, g1, g2⟩ := B3.out.cells
      go_upto_region 15 with fail
      have T1 := hid B3.out.drew
      go_region_held3 (fun wx => (wx.cell? ⟨w.heap.size, 0, none⟩ = some (.int .u8 V) ∧ wx.cell? ⟨w.heap.size, 1, none⟩ = some (.int .i64 F) ∧ wx.cell? ⟨w.heap.size, 2, none⟩ = some (.int .i64 W) ∧ wx.cell? ⟨w.heap.size, 3, none⟩ = some (.int .i64 P)) ∧ (wx.cell? ⟨w.heap.size + 1, 0, none⟩ = some (.string (strOfNums x)) ∧ wx.cell? ⟨w.heap.size + 1, 1, none⟩ = some (.string (strOfNums ys)) ∧ wx.cell? ⟨w.heap.size + 1, 2, none⟩ = some (.string (strOfNums z)))) (first | (with_reducible exact T3.out.flat) | (with_reducible exact T2.out.flat) | (with_reducible exact T1.out.flat)) (first
        | (go_at_call 59; with_reducible refine (HS.out _).mono ?_; rintro e wa ⟨rfl, hB⟩; have T2 := hid (T1.out.on hB); clear hB)
        | (go_at_call 64; with_reducible refine (WR.out _).mono ?_; rintro e wb ⟨rfl, hB⟩; have T3 := hid (T2.out.on hB); clear hB))
      go_wp2_with fail
      go_ret
      exact ⟨rfl, T3.out.bel⟩
  | false =>
    have e := E2.out rfl
    subst e
    clear E1 E2
    by_cases hP : P = -1
    · have e6 : mm = 6 := by rw [← hmm, PR.out, if_pos hP]; decide
      subst e6
      subst hP
      clear PR hmm
      have m61 : max (6 : Int) 1 = 6 := by decide
      go_enter Tryz.func33, Tryz.ntmps33
      go_wp2_with fail
      with_reducible refine (PA.out _ TT.out).mono ?_
      rintro e w1 ⟨rfl, b1⟩
      have B1 := hid (B.out.on b1)
      have B2 := hid (B1.out.put x y z)
      obtain ⟨⟨s0, s1, s2, s3⟩, ⟨c0, c1, c2⟩, g0, g1, g2⟩ := B1.out.cells
      clear b1 B PA TT
      go_upto_region 7 with fail
      generalize ((w1.setCell ⟨w.heap.size + 1, 0, none⟩ (.string (strOfNums x))).setCell ⟨w.heap.size + 1, 1, none⟩ (.string (strOfNums y))).setCell ⟨w.heap.size + 1, 2, none⟩ (.string (strOfNums z)) = w2 at *
      clear s0 s1 s2 s3 c0 c1 c2 g0 g1 g2 B1
      obtain ⟨⟨s0, s1, s2, s3⟩, ⟨c0, c1, c2⟩, g0, g1, g2⟩ := B2.out.cells
      go_wp2_with fail
      with_reducible refine (HS.out _).mono ?_
      rintro e w3 ⟨rfl, b3⟩
      have B3 := hid (B2.out.on b3)
      clear s0 s1 s2 s3 c0 c1 c2 g0 g1 g2 B2 b3
      obtain ⟨⟨s0, s1, s2, s3⟩, ⟨c0, c1, c2⟩, g0, g1, g2⟩ := B3.out.cells
      go_wp2_with fail
      with_reducible refine (TR.out _).mono ?_
      rintro e w4 ⟨rfl, hw4⟩
      rw [hw4]
      clear hw4 w4
      have B4 := hid (B3.out.put1 ys)
      go_upto_region 15 with fail
      have T1 := hid B4.out.drew
      go_region_held3 (fun wx => (wx.cell? ⟨w.heap.size, 0, none⟩ = some (.int .u8 V) ∧ wx.cell? ⟨w.heap.size, 1, none⟩ = some (.int .i64 F) ∧ wx.cell? ⟨w.heap.size, 2, none⟩ = some (.int .i64 W) ∧ wx.cell? ⟨w.heap.size, 3, none⟩ = some (.int .i64 (-1))) ∧ (wx.cell? ⟨w.heap.size + 1, 0, none⟩ = some (.string (strOfNums x)) ∧ wx.cell? ⟨w.heap.size + 1, 1, none⟩ = some (.string (strOfNums ys)) ∧ wx.cell? ⟨w.heap.size + 1, 2, none⟩ = some (.string (strOfNums z)))) (first | (with_reducible exact T3.out.flat) | (with_reducible exact T2.out.flat) | (with_reducible exact T1.out.flat)) (first
        | (go_at_call 59; with_reducible refine (HS.out _).mono ?_; rintro e wa ⟨rfl, hB⟩; have T2 := hid (T1.out.on hB); clear hB)
        | (go_at_call 64; with_reducible refine (WR.out _).mono ?_; rintro e wb ⟨rfl, hB⟩; have T3 := hid (T2.out.on hB); clear hB))
      go_wp2_with fail
      go_ret
      exact ⟨rfl, T3.out.bel⟩
    · have e6 : max P 1 = mm := by rw [← hmm, PR.out, if_neg hP]
      have hne : (P == -1) = false := by simpa using hP
      clear PR hP hmm
      go_enter Tryz.func33, Tryz.ntmps33
      go_wp2_with fail
      with_reducible refine (PA.out _ TT.out).mono ?_
      rintro e w1 ⟨rfl, b1⟩
      have B1 := hid (B.out.on b1)
      have B2 := hid (B1.out.put x y z)
      obtain ⟨⟨s0, s1, s2, s3⟩, ⟨c0, c1, c2⟩, g0, g1, g2⟩ := B1.out.cells
      clear b1 B PA TT
      go_upto_region 7 with fail
      generalize ((w1.setCell ⟨w.heap.size + 1, 0, none⟩ (.string (strOfNums x))).setCell ⟨w.heap.size + 1, 1, none⟩ (.string (strOfNums y))).setCell ⟨w.heap.size + 1, 2, none⟩ (.string (strOfNums z)) = w2 at *
      clear s0 s1 s2 s3 c0 c1 c2 g0 g1 g2 B1
      obtain ⟨⟨s0, s1, s2, s3⟩, ⟨c0, c1, c2⟩, g0, g1, g2⟩ := B2.out.cells
      go_wp2_with fail
      with_reducible refine (HS.out _).mono ?_
      rintro e w3 ⟨rfl, b3⟩
      have B3 := hid (B2.out.on b3)
      clear s0 s1 s2 s3 c0 c1 c2 g0 g1 g2 B2 b3
      obtain ⟨⟨s0, s1, s2, s3⟩, ⟨c0, c1, c2⟩, g0, g1, g2⟩ := B3.out.cells
      go_wp2_with fail
      with_reducible refine (TR.out _).mono ?_
      rintro e w4 ⟨rfl, hw4⟩
      rw [hw4]
      clear hw4 w4
      have B4 := hid (B3.out.put1 ys)
      go_upto_region 15 with fail
      have T1 := hid B4.out.drew
      go_region_held3 (fun wx => (wx.cell? ⟨w.heap.size, 0, none⟩ = some (.int .u8 V) ∧ wx.cell? ⟨w.heap.size, 1, none⟩ = some (.int .i64 F) ∧ wx.cell? ⟨w.heap.size, 2, none⟩ = some (.int .i64 W) ∧ wx.cell? ⟨w.heap.size, 3, none⟩ = some (.int .i64 P)) ∧ (wx.cell? ⟨w.heap.size + 1, 0, none⟩ = some (.string (strOfNums x)) ∧ wx.cell? ⟨w.heap.size + 1, 1, none⟩ = some (.string (strOfNums ys)) ∧ wx.cell? ⟨w.heap.size + 1, 2, none⟩ = some (.string (strOfNums z)))) (first | (with_reducible exact T3.out.flat) | (with_reducible exact T2.out.flat) | (with_reducible exact T1.out.flat)) (first
        | (go_at_call 59; with_reducible refine (HS.out _).mono ?_; rintro e wa ⟨rfl, hB⟩; have T2 := hid (T1.out.on hB); clear hB)
        | (go_at_call 64; with_reducible refine (WR.out _).mono ?_; rintro e wb ⟨rfl, hB⟩; have T3 := hid (T2.out.on hB); clear hB))
      go_wp2_with fail
      go_ret
      exact ⟨rfl, T3.out.bel⟩

theorem pbody_any (V F W P d : Int) (w : World) (hT : Tab w) (v0 : 0 ≤ V) (v1 : V < 256) (f0 : 0 ≤ F) (f1 : F ≤ 31) (p0 : -1 ≤ P) (p1 : P ≤ 4096) (h0 : 0 ≤ d) (h1 : d < 18446744073709551616) (hf : Ie.fnt d = true) :
    Calls Tryz.prog 33 #[.agg #[.int .u8 V, .int .i64 F, .int .i64 W, .int .i64 P], .int .u64 d] w fun e w' => e = .returned (.string (strOfNums (Po.bd V (Wh.bit F 8) P d))) ∧ Below w.heap.size w w' := by
  unfold Po.bd
  by_cases c1 : V = 102 ∨ V = 70
  · rw [if_pos c1]; exact pbody_f V F W P d w hT v0 v1 c1 f0 f1 p0 p1 h0 h1 hf
  · rw [if_neg c1]
    by_cases c2 : V = 101 ∨ V = 69
    · rw [if_pos c2]; exact pbody_e V F W P d w hT v0 v1 c2 f0 f1 p0 p1 h0 h1 hf
    · rw [if_neg c2]; exact pbody_g V F W P d w hT v0 v1 (by omega) f0 f1 p0 p1 h0 h1 hf
end Go.Proofs.YtaoaniigbooihaaGreatDoor

namespace Go.Proofs.YtaoaniigbooihaaGreatDoor
open Go Go.RowKit Go.Deep Go.Shelf

def SpcTold (V F W P d : Int) (w : World) (e : Ending) (w' : World) : Prop := e = .returned (.tuple #[.string (strOfNums (Po.spc V F W P d)), .bool (Po.spb F W P d), .int .i64 (Wh.chk F W P)]) ∧ Below w.heap.size w w'
def RenTold (V F W P d : Int) (w : World) (e : Ending) (w' : World) : Prop := e = .returned (.tuple #[.string (strOfNums (Po.ren V F W P d)), .int .i64 (Po.renE V F W P)]) ∧ Below w.heap.size w w'

theorem pad_small {F W P : Int} {z : Bool} {h b : List Int} (hl : h.length + b.length ≤ 16777216) : Wh.padE F W P h b = Wh.chk F W P ∧ Wh.pad F W P z h b = (if Wh.chk F W P = 0 then Wh.padT F W z h b else []) := by
  have e : Wh.padE F W P h b = Wh.chk F W P := by
    unfold Wh.padE
    by_cases c : Wh.chk F W P = 0
    · rw [if_pos c, if_neg (by omega), c]
    · rw [if_neg c]
  exact ⟨e, by rw [Wh.pad, e]⟩

set_option maxRecDepth 100000 in
set_option maxHeartbeats 4000000 in
theorem special_any (V F W P d : Int) (w : World) (v0 : 0 ≤ V) (v1 : V < 256) (h0 : 0 ≤ d) (h1 : d < 18446744073709551616) :
    Calls Tryz.prog 27 #[.agg #[.int .u8 V, .int .i64 F, .int .i64 W, .int .i64 P], .int .u64 d] w fun e w' => SpcTold V F W P d w e w' := by
  have B0 := hid (SB.new w V F W P)
  have SG := hid (fun wk => psign_any V F W P d wk h0 h1)
  have NM := hid (fun wk => pname_any V d wk v0 v1 h0 h1)
  have FN := hid (fun wk => pfin_any d wk h0 h1)
  have sb := Po.sx_by F (Po.ng d)
  have nb := Po.nm_by (Po.cap V) (Ie.cls d)
  have nl := Po.nm_len (Po.cap V) (Ie.cls d)
  have PA : Hid (∀ wk, Calls Tryz.prog 31 #[.agg #[.int .u8 V, .int .i64 F, .int .i64 W, .int .i64 P], .string (strOfNums (Po.sx F (Po.ng d))), .string (strOfNums (Po.nm (Po.cap V) (Ie.cls d))), .bool false] wk fun e w' => e = .returned (.tuple #[.string (strOfNums (if Wh.chk F W P = 0 then Wh.padT F W false (Po.sx F (Po.ng d)) (Po.nm (Po.cap V) (Ie.cls d)) else [])), .int .i64 (Wh.chk F W P)]) ∧ Below wk.heap.size wk w') := by
    intro wk
    refine (pad_any V F W P _ _ false wk sb.1 nb (by omega) (by omega)).mono ?_
    rintro e w' ⟨rfl, k⟩
    obtain ⟨e1, e2⟩ := pad_small (F := F) (W := W) (P := P) (z := false) (h := Po.sx F (Po.ng d)) (b := Po.nm (Po.cap V) (Ie.cls d)) (by omega)
    exact ⟨by rw [e1, e2], k⟩
  have G1 : Hid (∀ w' , Wh.chk F W P ≠ 0 → Below w.heap.size w w' → SpcTold V F W P d w (.returned (.tuple #[.string ⟨#[]⟩, .bool false, .int .i64 (Wh.chk F W P)])) w') := by
    intro w' h k
    refine ⟨?_, k⟩
    rw [Po.spc, if_neg (fun q => h q.1), Po.spb, decide_eq_false h]
    rfl
  have G2 : Hid (∀ w' , Wh.chk F W P = 0 → Ie.fnt d = true → Below w.heap.size w w' → SpcTold V F W P d w (.returned (.tuple #[.string ⟨#[]⟩, .bool false, .int .i64 0])) w') := by
    intro w' h f k
    refine ⟨?_, k⟩
    rw [Po.spc, if_neg (fun q => by rw [f] at q; exact Bool.false_ne_true q.2.symm), Po.spb, f, h]
    rfl
  have G3 : Hid (∀ w' , Wh.chk F W P = 0 → Ie.fnt d = false → Below w.heap.size w w' → SpcTold V F W P d w (.returned (.tuple #[.string (strOfNums (if Wh.chk F W P = 0 then Wh.padT F W false (Po.sx F (Po.ng d)) (Po.nm (Po.cap V) (Ie.cls d)) else [])), .bool true, .int .i64 0])) w') := by
    intro w' h f k
    refine ⟨?_, k⟩
    obtain ⟨⟨f0, f1⟩, -, -⟩ := Wh.chk_ok h
    rw [if_pos h, Po.spc, if_pos ⟨h, f⟩, Po.spb, f, h, Po.sx_is _ f0 f1]
    rfl
  generalize (if Wh.chk F W P = 0 then Wh.padT F W false (Po.sx F (Po.ng d)) (Po.nm (Po.cap V) (Ie.cls d)) else []) = T at *
  generalize Po.sx F (Po.ng d) = SX at *
  generalize Po.nm (Po.cap V) (Ie.cls d) = NX at *
  clear v0 v1 h0 h1 sb nb nl
  generalize Wh.chk F W P = E at *
  generalize Ie.fnt d = fd at *
  go_enter Tryz.func27, Tryz.ntmps27
  go_upto_region 1 with fail
  have T1 := hid B0.out.drew
  go_region_held3 (fun wx => wx.cell? ⟨w.heap.size, 0, none⟩ = some (.int .u8 V) ∧ wx.cell? ⟨w.heap.size, 1, none⟩ = some (.int .i64 F) ∧ wx.cell? ⟨w.heap.size, 2, none⟩ = some (.int .i64 W) ∧ wx.cell? ⟨w.heap.size, 3, none⟩ = some (.int .i64 P)) (first | (with_reducible exact T4.out.flat) | (with_reducible exact T3.out.flat) | (with_reducible exact T2.out.flat) | (with_reducible exact T1.out.flat)) (first
    | (go_at_call 32; with_reducible refine (SG.out _).mono ?_; rintro e wa ⟨rfl, hB⟩; have T2 := hid (T1.out.on hB); clear hB)
    | (go_at_call 46; with_reducible refine (NM.out _).mono ?_; rintro e wb ⟨rfl, hB⟩; have T3 := hid (T2.out.on hB); clear hB)
    | (go_at_call 31; with_reducible refine (PA.out _).mono ?_; rintro e wc ⟨rfl, hB⟩; have T4 := hid (T3.out.on hB); clear hB))
  by_cases hE : E = 0
  · subst hE
    cases fd with
    | true =>
      have R := hid (G2.out wc rfl rfl T4.out.bel)
      clear G1 G2 G3
      go_wp2_with (go_at_call 47; refine (FN.out _).mono ?_; rintro e w' ⟨rfl, hw⟩; rw [hw]; clear hw w')
      go_ret3
      exact R.out
    | false =>
      have R := hid (G3.out wc rfl rfl T4.out.bel)
      clear G1 G2 G3
      go_wp2_with (go_at_call 47; refine (FN.out _).mono ?_; rintro e w' ⟨rfl, hw⟩; rw [hw]; clear hw w')
      go_ret3
      exact R.out
  · have hne : (E == 0) = false := by simpa using hE
    have hne2 : (E != 0) = true := by simpa using hE
    have R := hid (G1.out wc hE T4.out.bel)
    clear G1 G2 G3 hE
    go_wp2_with fail
    go_ret3
    exact R.out

set_option maxRecDepth 100000 in
set_option maxHeartbeats 4000000 in
theorem render_any (V F W P d : Int) (w : World) (hT : Tab w) (v0 : 0 ≤ V) (v1 : V < 256) (h0 : 0 ≤ d) (h1 : d < 18446744073709551616) :
    Calls Tryz.prog 12 #[.agg #[.int .u8 V, .int .i64 F, .int .i64 W, .int .i64 P], .int .u64 d] w fun e w' => RenTold V F W P d w e w' := by
  have B0 := hid (SB.new w V F W P)
  have IX := hid (fun w => Any.strings_IndexByte idxLays ⟨#[101, 69, 102, 70, 103, 71]⟩ V w)
  have OK := ok_ix V v0 v1
  obtain ⟨ix, hix⟩ : ∃ ix, Lib.indexByte (⟨#[101, 69, 102, 70, 103, 71]⟩ : ByteArray).data.toList V.toNat.toUInt8 = ix := ⟨_, rfl⟩
  rw [hix] at IX OK
  clear hix
  by_cases hV : Po.okV V = true
  · rw [hV] at OK
    have ix0 : ¬ ix < 0 := by simpa using OK
    have hR : Po.renE V F W P = Wh.chk F W P := by rw [Po.renE, if_pos hV]
    have SP := hid (fun wk => special_any V F W P d wk v0 v1 h0 h1)
    by_cases hc : Wh.chk F W P = 0
    · obtain ⟨⟨f0, f1⟩, -, ⟨p0, p1⟩⟩ := Wh.chk_ok hc
      by_cases hf : Ie.fnt d = true
      · have sp1 : Po.spb F W P d = false := by rw [Po.spb, hf]; simp
        have SG : Hid (∀ wk, Calls Tryz.prog 32 #[.agg #[.int .u8 V, .int .i64 F, .int .i64 W, .int .i64 P], .int .u64 d] wk fun e w' => e = .returned (.string (strOfNums (Wh.sgn F (Po.ng d)))) ∧ Below wk.heap.size wk w') := by
          intro wk
          have q := psign_any V F W P d wk h0 h1
          rw [Po.sx_is _ f0 f1] at q
          exact q
        have TB : Hid (∀ wk, Below w.heap.size w wk → Tab wk) := fun wk k => hT.below k
        have BO := hid (fun wk (k : Tab wk) => pbody_any V F W P d wk k v0 v1 f0 f1 p0 p1 h0 h1 hf)
        obtain ⟨bb, bl⟩ := Po.bd_ok (V := V) (P := P) (d := d) (Wh.bit F 8) hf p0 p1
        have sl := Wh.sgn_len F (Po.ng d)
        have PA : Hid (∀ wk, Calls Tryz.prog 31 #[.agg #[.int .u8 V, .int .i64 F, .int .i64 W, .int .i64 P], .string (strOfNums (Wh.sgn F (Po.ng d))), .string (strOfNums (Po.bd V (Wh.bit F 8) P d)), .bool true] wk fun e w' => e = .returned (.tuple #[.string (strOfNums (Po.ren V F W P d)), .int .i64 0]) ∧ Below wk.heap.size wk w') := by
          intro wk
          refine (pad_any V F W P _ _ true wk (Wh.sgn_by _ _) bb (by omega) (by omega)).mono ?_
          rintro e w' ⟨rfl, k⟩
          obtain ⟨e1, e2⟩ := pad_small (F := F) (W := W) (P := P) (z := true) (h := Wh.sgn F (Po.ng d)) (b := Po.bd V (Wh.bit F 8) P d) (by omega)
          refine ⟨?_, k⟩
          rw [e1, e2, hc, if_pos rfl, Po.ren, hR, if_pos hc, if_pos hf]
        have G : Hid (∀ w', Below w.heap.size w w' → RenTold V F W P d w (.returned (.tuple #[.string (strOfNums (Po.ren V F W P d)), .int .i64 0])) w') := fun w' k => ⟨by rw [hR, hc], k⟩
        unfold SpcTold at SP
        rw [sp1, hc] at SP
        clear hT v0 v1 h0 h1 hV OK hR hc hf f0 f1 p0 p1 bb bl sl sp1
        generalize Po.spc V F W P d = SC at *
        generalize Po.ren V F W P d = RN at *
        generalize Po.bd V (Wh.bit F 8) P d = BD' at *
        generalize Wh.sgn F (Po.ng d) = SN at *
        go_enter Tryz.func12, Tryz.ntmps12
        go_wp2_with (go_at_call 30; refine (IX.out _).mono ?_; rintro e w2 ⟨rfl, rfl⟩)
        with_reducible refine (SP.out _).mono ?_
        rintro e w1 ⟨rfl, b1⟩
        have B1 := hid (B0.out.on b1)
        clear b1 B0 SP IX
        obtain ⟨c0, c1, c2, c3⟩ := B1.out.flat
        go_upto_region 6 with fail
        clear c0 c1 c2 c3
        have T1 := hid B1.out.drew
        go_region_held3 (fun wx => wx.cell? ⟨w.heap.size, 0, none⟩ = some (.int .u8 V) ∧ wx.cell? ⟨w.heap.size, 1, none⟩ = some (.int .i64 F) ∧ wx.cell? ⟨w.heap.size, 2, none⟩ = some (.int .i64 W) ∧ wx.cell? ⟨w.heap.size, 3, none⟩ = some (.int .i64 P)) (first | (with_reducible exact T4.out.flat) | (with_reducible exact T3.out.flat) | (with_reducible exact T2.out.flat) | (with_reducible exact T1.out.flat)) (first
          | (go_at_call 32; with_reducible refine (SG.out _).mono ?_; rintro e wa ⟨rfl, hB⟩; have T2 := hid (T1.out.on hB); have K2 := hid (TB.out _ T2.out.bel); clear hB)
          | (go_at_call 33; with_reducible refine (BO.out _ K2.out).mono ?_; rintro e wb ⟨rfl, hB⟩; have T3 := hid (T2.out.on hB); clear hB)
          | (go_at_call 31; with_reducible refine (PA.out _).mono ?_; rintro e wc ⟨rfl, hB⟩; have T4 := hid (T3.out.on hB); clear hB))
        go_wp2_with fail
        go_ret2
        exact G.out _ T4.out.bel
      · have hf' : Ie.fnt d = false := by simpa using hf
        have sp1 : Po.spb F W P d = true := by rw [Po.spb, hf', hc]; rfl
        have sp2 : Po.spc V F W P d = Po.ren V F W P d := by rw [Po.spc, if_pos ⟨hc, hf'⟩, Po.ren, hR, if_pos hc, if_neg hf]
        have G : Hid (∀ w', Below w.heap.size w w' → RenTold V F W P d w (.returned (.tuple #[.string (strOfNums (Po.ren V F W P d)), .int .i64 0])) w') := fun w' k => ⟨by rw [hR, hc], k⟩
        unfold SpcTold at SP
        rw [sp1, sp2, hc] at SP
        clear hT v0 v1 h0 h1 hV OK hR hc hf hf' f0 f1 p0 p1 sp1 sp2
        generalize Po.ren V F W P d = RN at *
        go_enter Tryz.func12, Tryz.ntmps12
        go_wp2_with (go_at_call 30; refine (IX.out _).mono ?_; rintro e w2 ⟨rfl, rfl⟩)
        with_reducible refine (SP.out _).mono ?_
        rintro e w1 ⟨rfl, b1⟩
        have R := hid (G.out _ (B0.out.on b1).bel)
        clear b1 B0 SP IX G
        go_wp2_with fail
        go_ret2
        exact R.out
    · have sp1 : Po.spb F W P d = false := by rw [Po.spb, decide_eq_false hc]; rfl
      have sp2 : Po.spc V F W P d = Po.ren V F W P d := by rw [Po.spc, if_neg (fun q => hc q.1), Po.ren, hR, if_neg hc]
      have G : Hid (∀ w', Below w.heap.size w w' → RenTold V F W P d w (.returned (.tuple #[.string (strOfNums (Po.ren V F W P d)), .int .i64 (Wh.chk F W P)])) w') := fun w' k => ⟨by rw [hR], k⟩
      unfold SpcTold at SP
      rw [sp1, sp2] at SP
      have hne : (Wh.chk F W P == 0) = false := by simpa using hc
      have hne2 : (Wh.chk F W P != 0) = true := by simpa using hc
      clear hT v0 v1 h0 h1 hV OK hR hc sp1 sp2
      generalize Po.ren V F W P d = RN at *
      generalize Wh.chk F W P = E at *
      go_enter Tryz.func12, Tryz.ntmps12
      go_wp2_with (go_at_call 30; refine (IX.out _).mono ?_; rintro e w2 ⟨rfl, rfl⟩)
      with_reducible refine (SP.out _).mono ?_
      rintro e w1 ⟨rfl, b1⟩
      have R := hid (G.out _ (B0.out.on b1).bel)
      clear b1 B0 SP IX G
      go_wp2_with fail
      go_ret2
      exact R.out
  · have hV' : Po.okV V = false := by simpa using hV
    rw [hV'] at OK
    have ix0 : ix < 0 := by simpa using OK
    have hR : Po.renE V F W P = 140 := by rw [Po.renE, if_neg hV]
    have G : Hid (∀ w', Below w.heap.size w w' → RenTold V F W P d w (.returned (.tuple #[.string ⟨#[]⟩, .int .i64 140])) w') := fun w' k => ⟨by rw [Po.ren, hR, if_neg (by decide)]; rfl, k⟩
    have R := hid (G.out _ B0.out.bel)
    clear hT v0 v1 h0 h1 hV hV' OK hR G
    go_enter Tryz.func12, Tryz.ntmps12
    go_wp2_with (go_at_call 30; refine (IX.out _).mono ?_; rintro e w2 ⟨rfl, rfl⟩)
    go_ret2
    exact R.out
end Go.Proofs.YtaoaniigbooihaaGreatDoor

namespace Go.Proofs.YtaoaniigbooihaaGreatDoor
open Go Go.RowKit Go.Deep Go.Shelf
namespace Fx
theorem c15 : X 4609434218613702656 = [49, 53] ∧ P 4609434218613702656 = -1 := by
  obtain ⟨s, D⟩ := dig_c (T := 3 * 5 ^ 1) (xs := [49, 53]) (fun d h => by simp at h; omega) (by decide) (by decide) (by decide) (by decide)
  have m : Ie.dm 4609434218613702656 = 6755399441055744 := by decide
  have e : Ie.de 4609434218613702656 = -52 := by decide
  refine X_of (by rw [m]; omega) ?_
  rw [m, e]
  exact ex_odd (t := 51) (q := 3) (n := 1) (by decide) (by omega) (by decide) (by omega) (by decide) D
theorem c15n : X 13832806255468478464 = [49, 53] ∧ P 13832806255468478464 = -1 := by
  have m : Ie.dm 13832806255468478464 = Ie.dm 4609434218613702656 := by decide
  have e : Ie.de 13832806255468478464 = Ie.de 4609434218613702656 := by decide
  unfold X P
  rw [m, e]
  exact c15
theorem pl15 : pA 4609434218613702656 2 = [49] ∧ pB 4609434218613702656 2 = [53, 48] := by
  have r : rf 4609434218613702656 2 0 = 0 := by decide
  have w : W 4609434218613702656 2 = [49, 53, 48] := by
    unfold W
    rw [c15.1, c15.2]
    decide
  refine ⟨?_, ?_⟩
  · rw [pA, if_pos r, show (2 : Int).toNat = 2 from rfl, w]
    decide
  · rw [pB, if_pos r, show (2 : Int).toNat = 2 from rfl, w]
    decide
theorem pl15n : pA 13832806255468478464 2 = [49] ∧ pB 13832806255468478464 2 = [53, 48] := by
  have r : rf 13832806255468478464 2 0 = 0 := by decide
  have w : W 13832806255468478464 2 = [49, 53, 48] := by
    unfold W
    rw [c15n.1, c15n.2]
    decide
  refine ⟨?_, ?_⟩
  · rw [pA, if_pos r, show (2 : Int).toNat = 2 from rfl, w]
    decide
  · rw [pB, if_pos r, show (2 : Int).toNat = 2 from rfl, w]
    decide
end Fx
namespace Po
theorem ren15n : ren 102 18 8 2 13832806255468478464 = [45, 48, 48, 48, 49, 46, 53, 48] ∧ renE 102 18 8 2 = 0 := by
  have r : renE 102 18 8 2 = 0 := by decide
  refine ⟨?_, r⟩
  rw [ren, if_pos r, if_pos (by decide), bd, if_pos (by decide), show pr 2 = 2 from rfl, bdF, Fx.pl15n.1, Fx.pl15n.2]
  decide
theorem ren15 : ren 102 18 8 2 4609434218613702656 = [43, 48, 48, 48, 49, 46, 53, 48] := by
  have r : renE 102 18 8 2 = 0 := by decide
  rw [ren, if_pos r, if_pos (by decide), bd, if_pos (by decide), show pr 2 = 2 from rfl, bdF, Fx.pl15.1, Fx.pl15.2]
  decide
theorem spcinf : spc 69 0 6 (-1) 18442240474082181120 = [32, 32, 45, 73, 78, 70] ∧ spb 0 6 (-1) 18442240474082181120 = true ∧ Wh.chk 0 6 (-1) = 0 := by
  refine ⟨?_, ?_, ?_⟩ <;> decide
end Po

set_option maxRecDepth 100000 in
set_option maxHeartbeats 2000000 in
theorem pawake_any (w : World) (hT : Tab w) : Calls Tryz.prog 9 #[] w fun e w' => e = .returned (.bool true) ∧ Below w.heap.size w w' := by
  have TB : Hid (∀ wk, Below w.heap.size w wk → Tab wk) := fun wk k => hT.below k
  have A1 : Hid (∀ wk, Tab wk → Calls Tryz.prog 12 #[.agg #[.int .u8 102, .int .i64 18, .int .i64 8, .int .i64 2], .int .u64 13832806255468478464] wk fun e w' => e = .returned (.tuple #[.string ⟨#[45, 48, 48, 48, 49, 46, 53, 48]⟩, .int .i64 0]) ∧ Below wk.heap.size wk w') := by
    intro wk k
    refine (render_any 102 18 8 2 13832806255468478464 wk k (by omega) (by omega) (by omega) (by omega)).mono ?_
    rintro e w' ⟨rfl, b⟩
    rw [Po.ren15n.1, Po.ren15n.2]
    exact ⟨rfl, b⟩
  have A2 : Hid (∀ wk, Tab wk → Calls Tryz.prog 12 #[.agg #[.int .u8 102, .int .i64 18, .int .i64 8, .int .i64 2], .int .u64 4609434218613702656] wk fun e w' => e = .returned (.tuple #[.string ⟨#[43, 48, 48, 48, 49, 46, 53, 48]⟩, .int .i64 0]) ∧ Below wk.heap.size wk w') := by
    intro wk k
    refine (render_any 102 18 8 2 4609434218613702656 wk k (by omega) (by omega) (by omega) (by omega)).mono ?_
    rintro e w' ⟨rfl, b⟩
    rw [Po.ren15, Po.ren15n.2]
    exact ⟨rfl, b⟩
  have A3 : Hid (∀ wk, Calls Tryz.prog 27 #[.agg #[.int .u8 69, .int .i64 0, .int .i64 6, .int .i64 (-1)], .int .u64 18442240474082181120] wk fun e w' => e = .returned (.tuple #[.string ⟨#[32, 32, 45, 73, 78, 70]⟩, .bool true, .int .i64 0]) ∧ Below wk.heap.size wk w') := by
    intro wk
    refine (special_any 69 0 6 (-1) 18442240474082181120 wk (by omega) (by omega) (by omega) (by omega)).mono ?_
    rintro e w' ⟨rfl, b⟩
    rw [Po.spcinf.1, Po.spcinf.2.1, Po.spcinf.2.2]
    exact ⟨rfl, b⟩
  have T0 := hid hT
  clear hT
  go_enter Tryz.func9, Tryz.ntmps9
  go_wp2_with fail
  with_reducible refine (A1.out _ T0.out).mono ?_
  rintro e w1 ⟨rfl, b1⟩
  have B1 := hid b1
  have T1 := hid (TB.out _ B1.out)
  clear b1
  go_wp2_with fail
  with_reducible refine (A2.out _ T1.out).mono ?_
  rintro e w2 ⟨rfl, b2⟩
  have B2 := hid (below_on B1.out b2)
  clear b2
  go_wp2_with fail
  with_reducible refine (A3.out _).mono ?_
  rintro e w3 ⟨rfl, b3⟩
  have B3 := hid (below_on B2.out b3)
  clear b3
  go_wp2_with fail
  go_ret
  exact ⟨rfl, B3.out⟩

set_option maxRecDepth 100000 in
theorem plfin_any (d : Int) (w : World) (h0 : 0 ≤ d) (_h1 : d < 18446744073709551616) :
    Calls Tryz.prog 14 #[.int .u64 d] w fun e w' => e = .returned (.bool (Ie.fnt d)) ∧ w' = w := by
  have E := hid (fnt_abs d)
  go_enter Tryz.func14, Tryz.ntmps14
  go_wp2_with fail
  go_ret
  exact ⟨fretB E.out, rfl⟩

set_option maxRecDepth 100000 in
set_option maxHeartbeats 2000000 in
theorem pwrong_any (V F W P : Int) (w : World) :
    Calls Tryz.prog 15 #[.agg #[.int .u8 V, .int .i64 F, .int .i64 W, .int .i64 P]] w fun e w' => e = .returned (.int .i64 (Po.renE V F W P)) ∧ Below w.heap.size w w' := by
  have B := hid (alloc_b w (.cells #[.int .u8 V, .int .i64 F, .int .i64 W, .int .i64 P] 25))
  have RE : Hid (Po.renE V F W P = if Po.okV V = true then Wh.chk F W P else 140) := rfl
  by_cases hV : V = 101 ∨ V = 69 ∨ V = 102 ∨ V = 70 ∨ V = 103 ∨ V = 71
  · have e0 : Po.renE V F W P = Wh.chk F W P := by rw [RE.out, if_pos (show Po.okV V = true from decide_eq_true hV)]
    rw [e0]
    clear e0 RE
    have key : ∃ E, Wh.chk F W P = E ∧ ((E = 1 ∧ F < 0) ∨ (E = 1 ∧ ¬ F < 0 ∧ 31 < F) ∨ (E = 1 ∧ ¬ F < 0 ∧ ¬ 31 < F ∧ W < 0) ∨ (E = 1 ∧ ¬ F < 0 ∧ ¬ 31 < F ∧ ¬ W < 0 ∧ P < -1) ∨ (E = 6 ∧ ¬ F < 0 ∧ ¬ 31 < F ∧ ¬ W < 0 ∧ ¬ P < -1 ∧ 4096 < W) ∨ (E = 6 ∧ ¬ F < 0 ∧ ¬ 31 < F ∧ ¬ W < 0 ∧ ¬ P < -1 ∧ ¬ 4096 < W ∧ 4096 < P) ∨ (E = 0 ∧ ¬ F < 0 ∧ ¬ 31 < F ∧ ¬ W < 0 ∧ ¬ P < -1 ∧ ¬ 4096 < W ∧ ¬ 4096 < P)) := by
      refine ⟨_, rfl, ?_⟩
      unfold Wh.chk
      split
      · omega
      · split <;> omega
    obtain ⟨E, hE, k⟩ := key
    rw [hE]
    clear hE
    rcases hV with rfl | rfl | rfl | rfl | rfl | rfl <;>
    rcases k with ⟨rfl, a1⟩ | ⟨rfl, a1, a2⟩ | ⟨rfl, a1, a2, a3⟩ | ⟨rfl, a1, a2, a3, a4⟩ | ⟨rfl, a1, a2, a3, a4, a5⟩ | ⟨rfl, a1, a2, a3, a4, a5, a6⟩ | ⟨rfl, a1, a2, a3, a4, a5, a6⟩ <;>
    (go_enter Tryz.func15, Tryz.ntmps15
     go_wp2_with fail
     go_ret
     exact ⟨rfl, B.out⟩)
  · have e0 : Po.renE V F W P = 140 := by rw [RE.out, if_neg (by simpa [Po.okV] using hV)]
    rw [e0]
    clear e0 RE
    have n1 : (V == 101) = false := by simp; omega
    have n2 : (V == 69) = false := by simp; omega
    have n3 : (V == 102) = false := by simp; omega
    have n4 : (V == 70) = false := by simp; omega
    have n5 : (V == 103) = false := by simp; omega
    have n6 : (V == 71) = false := by simp; omega
    clear hV
    go_enter Tryz.func15, Tryz.ntmps15
    go_wp2_with fail
    go_ret
    exact ⟨rfl, B.out⟩
end Go.Proofs.YtaoaniigbooihaaGreatDoor

namespace Go.Proofs.YtaoaniigbooihaaGreatDoor
open Go.RowKit Go.Deep

/-- s' is s without some zeros at its end, and ends with none. -/
def VTail (xs : List Int) (e : Ending) : Prop := ∃ s' k, e = .returned (.string s') ∧ Str s' (xs.take k) ∧ k ≤ xs.length ∧ (∀ i, k ≤ i → i < xs.length → xs.getD i 0 = 48) ∧ (0 < k → xs.getD (k - 1) 0 ≠ 48)

set_option maxRecDepth 100000 in
set_option maxHeartbeats 1000000 in
theorem vrtrim_any (s : ByteArray) (xs : List Int) (w : World) (hs : Str s xs) (hn1 : xs.length ≤ 562949953421312) :
    Calls Tryz.prog 97 #[.string s, .int .u8 48] w fun e w' => VTail xs e ∧ w' = w := by
  have HS := hid hs
  have HN := hid hn1
  clear hs hn1
  go_enter Tryz.func97, Tryz.ntmps97
  go_wp2_with fail
  go_loop [0] (fun c => ∃ s' m, c = .string s' ∧ Hid (Str s' (xs.take m) ∧ m ≤ xs.length ∧ s'.size = m ∧ (∀ i, m ≤ i → i < xs.length → xs.getD i 0 = 48))) (fun c => match c with | .string s' => s'.size | _ => 0)
  case atStart => exact ⟨s, xs.length, rfl, by rw [List.take_length]; exact HS.out, Nat.le_refl _, HS.out.size, fun i h1 h2 => by omega⟩
  case round =>
    obtain ⟨s', m, rfl, I⟩ := hrel
    have hsz : s'.size = m := I.out.2.2.1
    have hmb : (m : Int) ≤ 562949953421312 := by have := HN.out; have := I.out.2.1; omega
    by_cases h0 : m = 0
    · subst h0
      have F : Hid (VTail xs (.returned (.string s'))) := ⟨s', 0, rfl, I.out.1, Nat.zero_le _, I.out.2.2.2, fun h => by omega⟩
      clear I
      go_wp2_with fail
      go_ret
      exact ⟨F.out, rfl⟩
    · obtain ⟨u, hu⟩ : ∃ u, m = u + 1 := ⟨m - 1, by omega⟩
      have hmi : (0 : Int) < (m : Int) := by omega
      have hmu : (m : Int) - 1 = (u : Int) := by omega
      have hum : (u : Int) < (m : Int) := by omega
      obtain ⟨x, X⟩ : ∃ x, Hid (xs.getD u 0 = x) := ⟨_, rfl⟩
      have hx : ∀ h : u < s'.size, ((s'[u]'h).toNat : Int) = x := fun h => by
        rw [I.out.1.at u h, ← X.out]
        simp [List.getD, show u < m by omega]
      have HU := hid hu
      by_cases hd : x = 48
      · subst hd
        have F : Hid (Str (s'.extract 0 u) (xs.take u) ∧ u ≤ xs.length ∧ (s'.extract 0 u).size = u ∧ (∀ i, u ≤ i → i < xs.length → xs.getD i 0 = 48)) := by
          have e := I.out.1.extract 0 u
          rw [List.drop_zero, Nat.sub_zero, List.take_take, show min u m = u by omega] at e
          refine ⟨e, by have := I.out.2.1; omega, by rw [e.size]; have := I.out.2.1; simp; omega, fun i h1 h2 => ?_⟩
          by_cases c : i = u
          · subst c; exact X.out
          · exact I.out.2.2.2 i (by omega) h2
        have SZ : Hid ((s'.extract 0 u).size < s'.size) := by show _ < _; rw [F.out.2.2.1, hsz]; omega
        clear I hu h0
        go_wp2_with fail
        go_round
        case rel => exact ⟨_, _, rfl, F.out⟩
        case measure => exact SZ.out
      · have hd2 : (x == 48) = false := by rw [beq_eq_false_iff_ne]; exact hd
        have F : Hid (VTail xs (.returned (.string s'))) := ⟨s', m, rfl, I.out.1, I.out.2.1, I.out.2.2.2, fun _ => by rw [show m - 1 = u by omega, X.out]; exact hd⟩
        clear I hu h0
        go_wp2_with fail
        go_ret
        exact ⟨F.out, rfl⟩


set_option maxRecDepth 100000 in
theorem vrtrim0_any (s : ByteArray) (xs : List Int) (w : World) (hs : Str s xs) (hn1 : xs.length ≤ 562949953421312) :
    Calls Tryz.prog 63 #[.string s, .string ⟨#[48]⟩] w fun e w' => VTail xs e ∧ w' = w := by
  have T := hid (vrtrim_any s xs w hs hn1)
  by_cases h : xs = []
  · have F : Hid (VTail xs (.returned (.string s))) := ⟨s, 0, rfl, by rw [h] at hs ⊢; exact hs, Nat.zero_le _, fun i _ hi => by rw [h] at hi; simp at hi, fun hlt => by omega⟩
    have hs0 : s = ⟨#[]⟩ := hs.inj (by rw [h]; rfl)
    subst hs0
    clear hs hn1 h
    go_enter Tryz.func63, Tryz.ntmps63
    go_wp2_with fail
    go_ret
    exact ⟨F.out, rfl⟩
  · have e1 : s.toList ≠ [] := by
      intro c
      apply h
      rw [ByteArray.toList_eq] at c
      rw [← hs, c]
      rfl
    have e2 : (s.toList == []) = false := by rw [beq_eq_false_iff_ne]; exact e1
    have e3 : s.toList.isEmpty = false := by rw [List.isEmpty_eq_false_iff]; exact e1
    clear hs hn1 h
    go_enter Tryz.func63, Tryz.ntmps63
    go_wp2_with fail
    refine T.out.mono ?_
    rintro e w' ⟨h1, rfl⟩
    obtain ⟨s', j, rfl, h2⟩ := h1
    have F : Hid (VTail xs (.returned (.string s'))) := ⟨s', j, rfl, h2⟩
    clear h2 T
    go_wp2_with fail
    go_ret
    exact ⟨F.out, rfl⟩
end Go.Proofs.YtaoaniigbooihaaGreatDoor

namespace Go.Proofs.YtaoaniigbooihaaGreatDoor
open Go.RowKit Go.Deep Go.Shelf

def vcloneRen : Go.Shelf.Ren := ⟨fun _ => 127, fun t => if t = 37 then 47 else if t = 47 then 130 else if t = 5 then 5 else if t = 9 then 9 else if t = 3 then 3 else t, fun g => g⟩
theorem vcloneLays : LaysPu.n25 Tryz.prog vcloneRen where
  mixed := by kernel_rfl
  f25 := by kernel_rfl
  t0 := by kernel_rfl
  a0 := fun _ => by kernel_rfl
  z0 := fun _ => by kernel_rfl
  v0 := fun _ => by kernel_rfl
  i0 := by kernel_rfl
  t3 := by kernel_rfl
  a3 := fun _ => by kernel_rfl
  z3 := fun _ => by kernel_rfl
  v3 := fun _ => by kernel_rfl
  i3 := by kernel_rfl
  t4 := by kernel_rfl
  a4 := fun _ => by kernel_rfl
  z4 := fun _ => by kernel_rfl
  v4 := fun _ => by kernel_rfl
  i4 := by kernel_rfl
  t5 := by kernel_rfl
  a5 := fun _ => by kernel_rfl
  z5 := fun _ => by kernel_rfl
  v5 := fun _ => by kernel_rfl
  i5 := by kernel_rfl
  t9 := by kernel_rfl
  a9 := fun _ => by kernel_rfl
  z9 := fun _ => by kernel_rfl
  v9 := fun _ => by kernel_rfl
  i9 := by kernel_rfl
  t37 := by kernel_rfl
  a37 := fun _ => by kernel_rfl
  z37 := fun _ => by kernel_rfl
  v37 := fun _ => by kernel_rfl
  i37 := by kernel_rfl
  t47 := by kernel_rfl
  a47 := fun _ => by kernel_rfl
  z47 := fun _ => by kernel_rfl
  v47 := fun _ => by kernel_rfl
  i47 := by kernel_rfl

theorem vclone_any (s : ByteArray) (w : World) (hs : s.size ≤ 281474976710656) : Calls Tryz.prog 101 #[.string s] w fun e w' => e = .returned (.string s) ∧ Below w.heap.size w w' := by
  have C : Hid (Calls Tryz.prog 127 #[.string s] w fun e w' => e = .returned (.string s) ∧ Below w.heap.size w w') := AnyPu.stringslite_Clone vcloneLays s w (by omega)
  go_enter Tryz.func101, Tryz.ntmps101
  go_wp2_with fail
  refine C.out.mono ?_
  rintro e w1 ⟨rfl, d1⟩
  have D := hid d1
  clear d1
  go_wp2_with fail
  go_ret
  exact ⟨rfl, D.out⟩
end Go.Proofs.YtaoaniigbooihaaGreatDoor

namespace Go.Proofs.YtaoaniigbooihaaGreatDoor
open Go Go.RowKit Go.Deep

def decV (neg : Bool) (s : ByteArray) (e : Int) : Value := .agg #[.bool neg, .string s, .int .i64 e]
/-- A value is this Dec. -/
def DecIs (v : Value) (d : Sc.D) : Prop := ∃ s, v = decV d.neg s d.e ∧ Str s d.ds

/-- Three cells that may be written. -/
def Row3 (w : World) (b : Nat) (v0 v1 v2 : Value) : Prop := w.heap[b]? = some (.cells #[v0, v1, v2] 39 (0, 0))
theorem Row3.new (w : World) (v0 v1 v2 : Value) : Row3 (w.alloc (.cells #[v0, v1, v2] 39)) w.heap.size v0 v1 v2 := heap_alloc_new w _
theorem Row3.below {B : Nat} {w w' : World} {b : Nat} {v0 v1 v2 : Value} (h : Row3 w b v0 v1 v2) (hB : Below B w w') (hb : b < B) : Row3 w' b v0 v1 v2 := by
  rw [Row3, hB.block b hb]; exact h
theorem Row3.lt {w : World} {b : Nat} {v0 v1 v2 : Value} (h : Row3 w b v0 v1 v2) : b < w.heap.size := by
  rcases Nat.lt_or_ge b w.heap.size with hl | hl
  · exact hl
  · simp [Row3, Array.getElem?_eq_none hl] at h
theorem Row3.cells {w : World} {b : Nat} {v0 v1 v2 : Value} (h : Row3 w b v0 v1 v2) :
    (w.cell? ⟨b, 0, none⟩ = some v0 ∧ w.cell? ⟨b, 1, none⟩ = some v1 ∧ w.cell? ⟨b, 2, none⟩ = some v2) ∧
    (w.frozen? ⟨b, 0, none⟩ = false ∧ w.frozen? ⟨b, 1, none⟩ = false ∧ w.frozen? ⟨b, 2, none⟩ = false) := by
  simp only [Row3] at h
  refine ⟨⟨?_, ?_, ?_⟩, ⟨?_, ?_, ?_⟩⟩ <;> simp [World.cell?, World.frozen?, h]
theorem Row3.put {w : World} {b : Nat} {v0 v1 v2 : Value} (h : Row3 w b v0 v1 v2) (u0 u1 u2 : Value) :
    Row3 (((w.setCell ⟨b, 0, none⟩ u0).setCell ⟨b, 1, none⟩ u1).setCell ⟨b, 2, none⟩ u2) b u0 u1 u2 := by
  have h0 := set1 (o := 0) (v := u0) (c' := #[u0, v1, v2]) h (by simp [Array.setIfInBounds])
  have h1 := set1 (o := 1) (v := u1) (c' := #[u0, u1, v2]) h0 (by simp [Array.setIfInBounds])
  exact set1 (o := 2) (v := u2) (c' := #[u0, u1, u2]) h1 (by simp [Array.setIfInBounds])
theorem Row3.far {w : World} {b c o : Nat} {v v0 v1 v2 : Value} (h : Row3 w b v0 v1 v2) (hc : c ≠ b) : Row3 (w.setCell ⟨c, o, none⟩ v) b v0 v1 v2 := by
  simp only [Row3] at *
  simp only [World.setCell, Array.getElem?_modify]
  rw [if_neg hc]; exact h
theorem set3_below {B : Nat} {w w' : World} {b : Nat} {u0 u1 u2 : Value} (h : Below B w w') (hb : B ≤ b) : Below B w (((w'.setCell ⟨b, 0, none⟩ u0).setCell ⟨b, 1, none⟩ u1).setCell ⟨b, 2, none⟩ u2) :=
  ((h.setCell (p := ⟨b, 0, none⟩) hb u0).setCell (p := ⟨b, 1, none⟩) hb u1).setCell (p := ⟨b, 2, none⟩) hb u2

/-- Two boxes for Decs, new. -/
def Two3 (w w' : World) (v0 v1 v2 u0 u1 u2 : Value) : Prop := Below w.heap.size w w' ∧ Row3 w' w.heap.size v0 v1 v2 ∧ Row3 w' (w.heap.size + 1) u0 u1 u2
theorem Two3.new (w : World) (v0 v1 v2 u0 u1 u2 : Value) : Two3 w ((w.alloc (.cells #[v0, v1, v2] 39)).alloc (.cells #[u0, u1, u2] 39)) v0 v1 v2 u0 u1 u2 :=
  ⟨below_on (alloc_b _ _) (alloc_b _ _), heap_alloc2_old _ _ _, heap_alloc2_new _ _ _⟩
theorem Two3.on {w w' w'' : World} {v0 v1 v2 u0 u1 u2 : Value} (h : Two3 w w' v0 v1 v2 u0 u1 u2) (k : Below w'.heap.size w' w'') : Two3 w w'' v0 v1 v2 u0 u1 u2 :=
  ⟨below_on h.1 k, h.2.1.below k h.2.1.lt, h.2.2.below k h.2.2.lt⟩
theorem Two3.putB {w w' : World} {v0 v1 v2 u0 u1 u2 : Value} (h : Two3 w w' v0 v1 v2 u0 u1 u2) (x0 x1 x2 : Value) : Two3 w (((w'.setCell ⟨w.heap.size + 1, 0, none⟩ x0).setCell ⟨w.heap.size + 1, 1, none⟩ x1).setCell ⟨w.heap.size + 1, 2, none⟩ x2) v0 v1 v2 x0 x1 x2 :=
  ⟨set3_below h.1 (Nat.le_succ _), ((h.2.1.far (by omega)).far (by omega)).far (by omega), h.2.2.put _ _ _⟩
theorem Two3.putA {w w' : World} {v0 v1 v2 u0 u1 u2 : Value} (h : Two3 w w' v0 v1 v2 u0 u1 u2) (x0 x1 x2 : Value) : Two3 w (((w'.setCell ⟨w.heap.size, 0, none⟩ x0).setCell ⟨w.heap.size, 1, none⟩ x1).setCell ⟨w.heap.size, 2, none⟩ x2) x0 x1 x2 u0 u1 u2 :=
  ⟨set3_below h.1 (Nat.le_refl _), h.2.1.put _ _ _, ((h.2.2.far (by omega)).far (by omega)).far (by omega)⟩

theorem str_zero : Str ⟨#[48]⟩ [48] := rfl

theorem dec_ret {v : Value} {d : Sc.D} {w w' : World} (h : DecIs v d) (b : Below w.heap.size w w') : ∃ v', Ending.returned v = .returned v' ∧ DecIs v' d ∧ Below w.heap.size w w' := ⟨v, rfl, h, b⟩

set_option maxRecDepth 100000 in
set_option maxHeartbeats 1000000 in
theorem dtrim_any (neg : Bool) (s : ByteArray) (xs : List Int) (e : Int) (w : World) (hs : Str s xs) (hn : xs.length ≤ 281474976710656) (e0 : -4611686018427387904 ≤ e) (e1 : e ≤ 4611686018427387904) :
    Calls Tryz.prog 70 #[decV neg s e] w fun r w' => ∃ v, r = .returned v ∧ DecIs v (Sc.nrm neg xs e) ∧ Below w.heap.size w w' := by
  have L := hid (fun wx => strim_any s xs wx hs (by omega))
  have HN := hid hn
  clear hs hn
  unfold decV
  go_enter Tryz.func70, Tryz.ntmps70
  go_wp2_with fail
  refine (L.out _).mono ?_
  rintro r w1 ⟨⟨s1, j, rfl, ⟨b1, b2, b3⟩, b4⟩, rfl⟩
  by_cases h : j = xs.length
  · have hs1 : s1 = ⟨#[]⟩ := b1.inj (by rw [List.drop_of_length_le (by omega)]; rfl)
    have F : Hid (Sc.nrm neg xs e = ⟨neg, [48], 0⟩) := Sc.nrm_of_none (fun i hi => b3 i (by omega))
    subst hs1
    clear b1 b2 b3 b4
    go_wp2_with fail
    (try simp only [Exit.inBlock, Exit.then])
    refine bodyPost_ret (results_cell_row rfl _ _ (w.heap.size + 1) 39 _ (0, 0) _ rfl (Two3.new w _ _ _ _ _ _).2.2 Tryz.underlying39 rfl (by kernel_rfl)) rfl ?_
    exact dec_ret (by rw [F.out]; exact ⟨_, rfl, str_zero⟩) (Two3.new w _ _ _ _ _ _).1
  · have hlt : j < xs.length := by omega
    have hne := b4 hlt
    have R := hid (fun wx => vrtrim0_any s1 (xs.drop j) wx b1 (by have := HN.out; simp; omega))
    have hsz : s1.size = xs.length - j := by have := b1.size; simpa using this
    have q1 : s1.toList ≠ [] := by
      intro c
      have : s1.size = 0 := by
        rw [ByteArray.toList_eq] at c
        have := congrArg List.length c
        rw [Array.length_toList] at this
        exact this
      omega
    have q2 : (s1.toList == []) = false := by rw [beq_eq_false_iff_ne]; exact q1
    have q3 : s1.toList.isEmpty = false := by rw [List.isEmpty_eq_false_iff]; exact q1
    have N2 : Hid (∀ k, k ≤ (xs.drop j).length → (∀ i, k ≤ i → i < (xs.drop j).length → (xs.drop j).getD i 0 = 48) → (0 < k → (xs.drop j).getD (k - 1) 0 ≠ 48) → Sc.nrm neg xs e = ⟨neg, (xs.drop j).take k, e + (xs.drop j).length - k⟩ ∧ 0 < k) := fun k x1 x2 x3 => Sc.nrm_of_trims hlt b3 hne x1 x2 x3
    have HL : Hid ((xs.drop j).length = xs.length - j) := by show _ = _; simp
    obtain ⟨m, hm⟩ : ∃ m, xs.length - j = m := ⟨_, rfl⟩
    rw [hm] at hsz HL
    have hmb : (m : Int) ≤ 281474976710656 := by have := HN.out; omega
    clear b1 b2 b3 b4 hlt hne hm h
    go_wp2_with fail
    refine (R.out _).mono ?_
    rintro r w2 ⟨⟨s2, k, rfl, c1, c2, c3, c4⟩, rfl⟩
    have NN := hid (N2.out k c2 c3 c4)
    have hk2 : s2.size = k := by have := c1.size; rw [List.length_take] at this; omega
    have hkm : (k : Int) ≤ (m : Int) := by have := HL.out; omega
    have HC := hid c1
    clear c1 c2 c3 c4 R N2 L
    go_wp2_with fail
    (try simp only [Exit.inBlock, Exit.then])
    refine bodyPost_ret (results_cell_row rfl _ _ (w.heap.size + 1) 39 _ (0, 0) _ rfl (Two3.new w _ _ _ _ _ _).2.2 Tryz.underlying39 rfl (by kernel_rfl)) rfl ?_
    exact dec_ret (by rw [NN.out.1, HL.out]; exact ⟨_, rfl, HC.out⟩) (Two3.new w _ _ _ _ _ _).1
end Go.Proofs.YtaoaniigbooihaaGreatDoor

namespace Go.Proofs.YtaoaniigbooihaaGreatDoor
open Go Go.RowKit Go.Deep

theorem Two3.one {w w' : World} {v0 v1 v2 u0 u1 u2 : Value} (h : Two3 w w' v0 v1 v2 u0 u1 u2) (x : Value) : Two3 w (w'.setCell ⟨w.heap.size, 1, none⟩ x) v0 x v2 u0 u1 u2 :=
  ⟨h.1.setCell (p := ⟨w.heap.size, 1, none⟩) (Nat.le_refl _) x, set1 h.2.1 (by simp [Array.setIfInBounds]), h.2.2.far (by omega)⟩

set_option maxRecDepth 100000 in
theorem own_any (neg : Bool) (s : ByteArray) (e : Int) (w : World) (hs : s.size ≤ 281474976710656) :
    Calls Tryz.prog 69 #[decV neg s e] w fun r w' => r = .returned (decV neg s e) ∧ Below w.heap.size w w' := by
  have C := hid (fun wx => vclone_any s wx hs)
  have Z := hid (Two3.new w (.bool neg) (.string s) (.int .i64 e) (.bool false) (.string ⟨#[]⟩) (.int .i64 0))
  unfold decV
  clear hs
  go_enter Tryz.func69, Tryz.ntmps69
  go_wp2_with fail
  refine (C.out _).mono ?_
  rintro r w1 ⟨rfl, hB⟩
  have S := hid (Z.out.on hB)
  obtain ⟨⟨c0, c1, c2⟩, f0, f1, f2⟩ := S.out.2.1.cells
  obtain ⟨⟨d0, d1, d2⟩, g0, g1, g2⟩ := S.out.2.2.cells
  clear hB Z C
  go_wp2_with fail
  (try simp only [Exit.inBlock, Exit.then])
  refine bodyPost_ret (results_cell_row rfl _ _ (w.heap.size + 1) 39 _ (0, 0) _ rfl ((S.out.one _).putB _ _ _).2.2 Tryz.underlying39 rfl (by kernel_rfl)) rfl ?_
  exact ⟨rfl, ((S.out.one _).putB _ _ _).1⟩

theorem nrm_ds_len (neg : Bool) (ds : List Int) (e : Int) (h : ds.length ≤ 281474976710655) : (Sc.nrm neg ds e).ds.length ≤ 281474976710656 := by
  have := Sc.nrm_len neg ds e
  omega
end Go.Proofs.YtaoaniigbooihaaGreatDoor

namespace Go.Proofs.YtaoaniigbooihaaGreatDoor
open Go Go.RowKit Go.Deep

theorem vret_bool {a b : Bool} (h : a = b) : Ending.returned (.bool a) = .returned (.bool b) := by rw [h]

theorem digit_any (x : Int) (w : World) (h0 : 0 ≤ x) (h1 : x < 256) : Calls Tryz.prog 67 #[.int .u8 x] w fun e w' => e = .returned (.bool (Sc.dg x)) ∧ w' = w := by
  go_enter Tryz.func67, Tryz.ntmps67
  go_wp2
  all_goals (go_ret; refine ⟨vret_bool ?_, rfl⟩)
  all_goals (rw [Bool.eq_iff_iff]; simp [Sc.dg]; omega)

theorem Str.pk {s : ByteArray} {xs : List Int} (h : Str s xs) (t : Nat) : ∀ ht : t < s.size, ((s[t]'ht).toNat : Int) = Sc.pk xs t := fun ht => h.at t ht
end Go.Proofs.YtaoaniigbooihaaGreatDoor

namespace Go.Proofs.YtaoaniigbooihaaGreatDoor
open Go Go.RowKit Go.Deep


theorem blank_any (x : Int) (w : World) (h0 : 0 ≤ x) (h1 : x < 256) : Calls Tryz.prog 68 #[.int .u8 x] w fun e w' => e = .returned (.bool (Sc.bl x)) ∧ w' = w := by
  go_enter Tryz.func68, Tryz.ntmps68
  go_wp2
  all_goals (go_ret; refine ⟨vret_bool ?_, rfl⟩)
  all_goals (rw [Bool.eq_iff_iff]; simp [Sc.bl]; omega)





theorem peek_any (s : ByteArray) (xs : List Int) (k : Nat) (w : World) (hs : Str s xs) (hn : xs.length ≤ 562949953421312) : Calls Tryz.prog 65 #[.string s, .int .i64 k] w fun e w' => e = .returned (.int .u8 (Sc.pk xs k)) ∧ w' = w := by
  have hsz := hs.size
  have hx := hs.pk k
  have HS := hid hs
  have HN := hid hn
  clear hs hn
  by_cases h : k < xs.length
  · have h1 : (k : Int) < (xs.length : Int) := by omega
    go_enter Tryz.func65, Tryz.ntmps65
    go_wp2
    all_goals (go_ret; first | exact ⟨rfl, rfl⟩ | omega)
  · have h1 : ¬ (k : Int) < (xs.length : Int) := by omega
    have e : Sc.pk xs k = 0 := Sc.pk_ge (by omega)
    go_enter Tryz.func65, Tryz.ntmps65
    go_wp2
    all_goals (go_ret; first | exact ⟨rfl, rfl⟩ | exact ⟨by rw [e], rfl⟩ | omega)

theorem past_any (s : ByteArray) (xs : List Int) (k : Nat) (w : World) (hs : Str s xs) (hn : xs.length ≤ 562949953421312) (hk : k ≤ xs.length + 1) : Calls Tryz.prog 66 #[.string s, .int .i64 k] w fun e w' => e = .returned (.int .i64 ((k + Sc.sg xs k : Nat) : Int)) ∧ w' = w := by
  have P := hid (peek_any s xs k w hs hn)
  have b := hs.atb k
  have hx : Sc.pk xs k = xs.getD k 0 := rfl
  rw [← hx] at b
  have hk2 : (k : Int) ≤ 562949953421313 := by omega
  have S : Hid (∀ r : Int, (Sc.pk xs k = 43 ∨ Sc.pk xs k = 45 → r = (k : Int) + 1) → (¬ (Sc.pk xs k = 43 ∨ Sc.pk xs k = 45) → r = (k : Int)) → Ending.returned (.int .i64 r) = .returned (.int .i64 ((k + Sc.sg xs k : Nat) : Int))) := fun r h1 h2 => by
    unfold Sc.sg
    by_cases c : Sc.pk xs k = 43 ∨ Sc.pk xs k = 45
    · rw [if_pos c, h1 c]; rfl
    · rw [if_neg c, h2 c]; rfl
  clear hs hn hk hx
  generalize Sc.pk xs k = x at *
  have hc : x = 43 ∨ x = 45 ∨ ((x == 43) = false ∧ (x == 45) = false ∧ x ≠ 43 ∧ x ≠ 45) := by
    by_cases c1 : x = 43
    · exact .inl c1
    · by_cases c2 : x = 45
      · exact .inr (.inl c2)
      · exact .inr (.inr ⟨by rw [beq_eq_false_iff_ne]; exact c1, by rw [beq_eq_false_iff_ne]; exact c2, c1, c2⟩)
  rcases hc with rfl | rfl | ⟨c1, c2, c3, c4⟩
  all_goals go_enter Tryz.func66, Tryz.ntmps66
  all_goals (go_wp2_with fail; refine P.out.mono ?_; rintro e w1 ⟨rfl, rfl⟩; clear P; go_wp2_with fail; go_ret; refine ⟨?_, rfl⟩; refine S.out _ ?_ ?_)
  all_goals (intro hh; first | omega | (exfalso; revert hh; decide))

set_option maxRecDepth 100000 in
theorem blanks_any (s : ByteArray) (xs : List Int) (k : Nat) (w : World) (hs : Str s xs) (hn : xs.length ≤ 562949953421312) (hk : k ≤ xs.length) : Calls Tryz.prog 38 #[.string s, .int .i64 k] w fun e w' => e = .returned (.int .i64 ((k + Sc.run Sc.bl xs k : Nat) : Int)) ∧ w' = w := by
  have HS := hid hs
  have HN := hid hn
  have hsz := hs.size
  have HK := hid hk
  clear hs hn hk
  go_enter Tryz.func38, Tryz.ntmps38
  go_wp2_with fail
  go_loop [1] (fun c => ∃ j : Nat, c = .int .i64 j ∧ Hid (j ≤ xs.length ∧ k + Sc.run Sc.bl xs k = j + Sc.run Sc.bl xs j)) (fun c => match c with | .int _ j => xs.length - j.toNat | _ => 0)
  case atStart => exact ⟨k, rfl, HK.out, rfl⟩
  case round =>
    obtain ⟨j, rfl, I⟩ := hrel
    have hj : (j : Int) ≤ 562949953421312 := by have := I.out.1; have := HN.out; omega
    have hx := HS.out.pk j
    by_cases h : j < xs.length
    · have hji : (j : Int) < (xs.length : Int) := by omega
      have b : 0 ≤ Sc.pk xs j ∧ Sc.pk xs j < 256 := HS.out.atb j
      have B := hid (blank_any (Sc.pk xs j) w b.1 b.2)
      cases hb : Sc.bl (Sc.pk xs j) with
      | true =>
        have R := hid (Sc.run_succ Sc.bl0 hb)
        rw [hb] at B
        clear hb
        generalize Sc.pk xs j = x at *
        go_wp2_with fail
        refine B.out.mono ?_
        rintro e w1 ⟨rfl, rfl⟩
        go_wp2_with fail
        go_round
        case rel => exact ⟨j + 1, by go_num, by have := I.out.2; have := R.out; show _ ∧ _; omega⟩
        case measure => simp; omega
      | false =>
        have R := hid (Sc.run_zero Sc.bl0 hb)
        rw [hb] at B
        clear hb
        generalize Sc.pk xs j = x at *
        go_wp2_with fail
        refine B.out.mono ?_
        rintro e w1 ⟨rfl, rfl⟩
        go_wp2_with fail
        go_ret
        exact ⟨congrArg (fun z => Ending.returned (.int .i64 z)) (by have := I.out.2; have := R.out; omega), rfl⟩
    · have hji : ¬ (j : Int) < (xs.length : Int) := by omega
      have R : Hid (Sc.run Sc.bl xs j = 0) := Sc.run_zero Sc.bl0 (by rw [Sc.pk_ge (by omega)]; rfl)
      go_wp2_with fail
      go_ret
      exact ⟨congrArg (fun z => Ending.returned (.int .i64 z)) (by have := I.out.2; have := R.out; omega), rfl⟩
end Go.Proofs.YtaoaniigbooihaaGreatDoor
