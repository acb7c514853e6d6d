/-
  Texts put together: PoD, PoE, RnOneA, RnOB, VaD.
-/
import Derived.Test.YtigmhnlcmhpepaaGreatDoorPoC
import Derived.Test.YtigmhnlcmhpepaaGreatDoorWAZ
import Derived.Test.YtigmhnlcmhpepaaGreatDoorWAG
import Derived.Test.YtigmhnlcmhpepaaGreatDoorWAO
import Derived.Test.YtigmhnlcmhpepaaGreatDoorWAY
namespace Go.Proofs.YtigmhnlcmhpepaaGreatDoor
open Go Go.RowKit Go.Deep Go.Shelf

/-- A Spec's box and a number's behind it. -/
structure BD (w0 : World) (V F W P : Int) (x y z : List Int) (wk : World) : Prop where
  bel : Below w0.heap.size w0 wk
  spec : S4 wk w0.heap.size (.int .u8 V) (.int .i64 F) (.int .i64 W) (.int .i64 P)
  num : N3 wk (w0.heap.size + 1) (.string (strOfNums x)) (.string (strOfNums y)) (.string (strOfNums z))
theorem BD.new (w : World) (V F W P : Int) : BD w V F W P [] [] [] ((w.alloc (.cells #[.int .u8 V, .int .i64 F, .int .i64 W, .int .i64 P] 141)).alloc (.cells #[.string ⟨#[]⟩, .string ⟨#[]⟩, .string ⟨#[]⟩] 233)) :=
  ⟨below_on (alloc_b _ _) (alloc_b _ _), heap_alloc2_old _ _ _, heap_alloc2_new _ _ _⟩
theorem BD.on {w0 wk w' : World} {V F W P : Int} {x y z : List Int} (h : BD w0 V F W P x y z wk) (k : Below wk.heap.size wk w') : BD w0 V F W P x y z w' := ⟨below_on h.bel k, h.spec.below k, h.num.below k⟩
theorem BD.drew {w0 wk : World} {V F W P : Int} {x y z : List Int} (h : BD w0 V F W P x y z wk) : BD w0 V F W P x y z wk.drew := ⟨h.bel.drew, h.spec, h.num⟩
theorem BD.put {w0 wk : World} {V F W P : Int} {x y z : List Int} (h : BD w0 V F W P x y z wk) (x' y' z' : List Int) :
    BD w0 V F W P x' y' z' (((wk.setCell ⟨w0.heap.size + 1, 0, none⟩ (.string (strOfNums x'))).setCell ⟨w0.heap.size + 1, 1, none⟩ (.string (strOfNums y'))).setCell ⟨w0.heap.size + 1, 2, none⟩ (.string (strOfNums z'))) :=
  ⟨fset3_below h.bel (Nat.le_succ _), ((h.spec.far (by omega)).far (by omega)).far (by omega), h.num.put _ _ _⟩
theorem BD.put1 {w0 wk : World} {V F W P : Int} {x y z : List Int} (h : BD w0 V F W P x y z wk) (y' : List Int) :
    BD w0 V F W P x y' z (wk.setCell ⟨w0.heap.size + 1, 1, none⟩ (.string (strOfNums y'))) :=
  ⟨h.bel.setCell (p := ⟨w0.heap.size + 1, 1, none⟩) (Nat.le_succ _) _, h.spec.far (by omega), h.num.put1 _⟩
theorem BD.flat {w0 wk : World} {V F W P : Int} {x y z : List Int} (h : BD w0 V F W P x y z wk) :
    (wk.cell? ⟨w0.heap.size, 0, none⟩ = some (.int .u8 V) ∧ wk.cell? ⟨w0.heap.size, 1, none⟩ = some (.int .i64 F) ∧ wk.cell? ⟨w0.heap.size, 2, none⟩ = some (.int .i64 W) ∧ wk.cell? ⟨w0.heap.size, 3, none⟩ = some (.int .i64 P)) ∧
    (wk.cell? ⟨w0.heap.size + 1, 0, none⟩ = some (.string (strOfNums x)) ∧ wk.cell? ⟨w0.heap.size + 1, 1, none⟩ = some (.string (strOfNums y)) ∧ wk.cell? ⟨w0.heap.size + 1, 2, none⟩ = some (.string (strOfNums z))) := ⟨h.spec.cells.1, h.num.cells.1⟩
theorem BD.cells {w0 wk : World} {V F W P : Int} {x y z : List Int} (h : BD w0 V F W P x y z wk) :
    ((wk.cell? ⟨w0.heap.size, 0, none⟩ = some (.int .u8 V) ∧ wk.cell? ⟨w0.heap.size, 1, none⟩ = some (.int .i64 F) ∧ wk.cell? ⟨w0.heap.size, 2, none⟩ = some (.int .i64 W) ∧ wk.cell? ⟨w0.heap.size, 3, none⟩ = some (.int .i64 P))) ∧
    (wk.cell? ⟨w0.heap.size + 1, 0, none⟩ = some (.string (strOfNums x)) ∧ wk.cell? ⟨w0.heap.size + 1, 1, none⟩ = some (.string (strOfNums y)) ∧ wk.cell? ⟨w0.heap.size + 1, 2, none⟩ = some (.string (strOfNums z))) ∧
    (wk.frozen? ⟨w0.heap.size + 1, 0, none⟩ = false ∧ wk.frozen? ⟨w0.heap.size + 1, 1, none⟩ = false ∧ wk.frozen? ⟨w0.heap.size + 1, 2, none⟩ = false) := ⟨h.spec.cells.1, h.num.cells.1, h.num.cells.2⟩

/-- strings.TrimRight at one '0', as a list. -/
theorem ptrim_any (xs : List Int) (w : World) (hx : Wh.By xs) (hl : xs.length ≤ 100000) :
    Calls Tryz.prog 103 #[.string (strOfNums xs), .string ⟨#[48]⟩] w fun e w' => e = .returned (.string (strOfNums (Po.sp xs))) ∧ w' = w := by
  refine (frtrim0_any (strOfNums xs) xs w (Str.of_nums hx) (by omega)).mono ?_
  rintro e w' ⟨⟨s', k, rfl, h1, h2, h3, h4⟩, rfl⟩
  exact ⟨by rw [str_is h1, Po.sp_of h2 h3 h4], rfl⟩

set_option maxRecDepth 100000 in
set_option maxHeartbeats 4000000 in
theorem pbody_f (V F W P d : Int) (w : World) (hT : Tab w) (_v0 : 0 ≤ V) (_v1 : V < 256) (hV : V = 102 ∨ V = 70) (f0 : 0 ≤ F) (f1 : F ≤ 31) (p0 : -1 ≤ P) (p1 : P ≤ 4096) (h0 : 0 ≤ d) (h1 : d < 18446744073709551616) (hf : Ie.fnt d = true) :
    Calls Tryz.prog 121 #[.agg #[.int .u8 V, .int .i64 F, .int .i64 W, .int .i64 P], .int .u64 d] w fun e w' => e = .returned (.string (strOfNums (Po.bdF (Wh.bit F 8) d (Po.pr P)))) ∧ Below w.heap.size w w' := by
  obtain ⟨q0, q1⟩ := Po.pr_bd p0 p1
  have K := Po.plF hf q0 (by omega)
  have PA : Hid (∀ wk, Tab wk → Calls Tryz.prog 154 #[.int .u64 d, .int .i64 (Po.pr P)] wk fun e w' => e = .returned (NumV (Fx.pA d (Po.pr P)) (Fx.pB d (Po.pr P)) []) ∧ Below wk.heap.size wk w') := fun wk h => pplaced_any d (Po.pr P) wk h h0 h1
  have WR : Hid (∀ wk, Calls Tryz.prog 157 #[NumV (Fx.pA d (Po.pr P)) (Fx.pB d (Po.pr P)) [], .bool (Wh.bit F 8)] wk fun e w' => e = .returned (.string (strOfNums (Po.bdF (Wh.bit F 8) d (Po.pr P)))) ∧ Below wk.heap.size wk w') := fun wk => pwritten_any _ _ _ _ wk (Po.digs_by K.a) (Po.digs_by K.b) Wh.By.nil (by have := K.la; omega) (by have := K.lb; omega) (by simp)
  have B := hid (BD.new w V F W P)
  have TT := hid (hT.below (BD.new w V F W P).bel)
  have HS : Hid (∀ wk, Calls Tryz.prog 153 #[.agg #[.int .u8 V, .int .i64 F, .int .i64 W, .int .i64 P], .int .i64 8] wk fun e w' => e = .returned (.bool (Wh.bit F 8)) ∧ Below wk.heap.size wk w') := by
    intro wk
    have q := phas_any V F W P 8 wk
    rw [Po.hb_is f0 f1 (by omega)] at q
    exact q
  unfold NumV at PA WR
  have PR : Hid (Po.pr P = if P = -1 then 6 else P) := rfl
  clear hT h0 h1 hf K f0 f1
  generalize Po.bdF (Wh.bit F 8) d (Po.pr P) = R at *
  generalize Fx.pA d (Po.pr P) = x at *
  generalize Fx.pB d (Po.pr P) = y at *
  generalize Wh.bit F 8 = hh at *
  generalize Po.pr P = pp at *
  rcases hV with rfl | rfl
  · by_cases hP : P = -1
    · have e6 : pp = 6 := by rw [PR.out, if_pos hP]
      subst e6
      subst hP
      clear PR
      go_enter Tryz.func121, Tryz.ntmps121
      go_wp2_with fail
      with_reducible refine (PA.out _ TT.out).mono ?_
      rintro e w1 ⟨rfl, b1⟩
      have B1 := hid (B.out.on b1)
      have B2 := hid (B1.out.put x y [])
      obtain ⟨⟨s0, s1, s2, s3⟩, ⟨c0, c1, c2⟩, g0, g1, g2⟩ := B1.out.cells
      clear b1 B PA TT
      go_upto_region 15 with fail
      have T1 := hid B2.out.drew
      go_region_held3 (fun wx => (wx.cell? ⟨w.heap.size, 0, none⟩ = some (.int .u8 102) ∧ wx.cell? ⟨w.heap.size, 1, none⟩ = some (.int .i64 F) ∧ wx.cell? ⟨w.heap.size, 2, none⟩ = some (.int .i64 W) ∧ wx.cell? ⟨w.heap.size, 3, none⟩ = some (.int .i64 (-1))) ∧ (wx.cell? ⟨w.heap.size + 1, 0, none⟩ = some (.string (strOfNums x)) ∧ wx.cell? ⟨w.heap.size + 1, 1, none⟩ = some (.string (strOfNums y)) ∧ wx.cell? ⟨w.heap.size + 1, 2, none⟩ = some (.string (strOfNums [])))) (first | (with_reducible exact T3.out.flat) | (with_reducible exact T2.out.flat) | (with_reducible exact T1.out.flat)) (first
        | (go_at_call 153; with_reducible refine (HS.out _).mono ?_; rintro e wa ⟨rfl, hB⟩; have T2 := hid (T1.out.on hB); clear hB)
        | (go_at_call 157; with_reducible refine (WR.out _).mono ?_; rintro e wb ⟨rfl, hB⟩; have T3 := hid (T2.out.on hB); clear hB))
      go_wp2_with fail
      go_ret
      exact ⟨rfl, T3.out.bel⟩
    · have e6 : P = pp := by rw [PR.out, if_neg hP]
      have hne : (pp == -1) = false := by rw [← e6]; simpa using hP
      subst e6
      clear PR hP
      go_enter Tryz.func121, Tryz.ntmps121
      go_wp2_with fail
      with_reducible refine (PA.out _ TT.out).mono ?_
      rintro e w1 ⟨rfl, b1⟩
      have B1 := hid (B.out.on b1)
      have B2 := hid (B1.out.put x y [])
      obtain ⟨⟨s0, s1, s2, s3⟩, ⟨c0, c1, c2⟩, g0, g1, g2⟩ := B1.out.cells
      clear b1 B PA TT
      go_upto_region 15 with fail
      have T1 := hid B2.out.drew
      go_region_held3 (fun wx => (wx.cell? ⟨w.heap.size, 0, none⟩ = some (.int .u8 102) ∧ wx.cell? ⟨w.heap.size, 1, none⟩ = some (.int .i64 F) ∧ wx.cell? ⟨w.heap.size, 2, none⟩ = some (.int .i64 W) ∧ wx.cell? ⟨w.heap.size, 3, none⟩ = some (.int .i64 P)) ∧ (wx.cell? ⟨w.heap.size + 1, 0, none⟩ = some (.string (strOfNums x)) ∧ wx.cell? ⟨w.heap.size + 1, 1, none⟩ = some (.string (strOfNums y)) ∧ wx.cell? ⟨w.heap.size + 1, 2, none⟩ = some (.string (strOfNums [])))) (first | (with_reducible exact T3.out.flat) | (with_reducible exact T2.out.flat) | (with_reducible exact T1.out.flat)) (first
        | (go_at_call 153; with_reducible refine (HS.out _).mono ?_; rintro e wa ⟨rfl, hB⟩; have T2 := hid (T1.out.on hB); clear hB)
        | (go_at_call 157; with_reducible refine (WR.out _).mono ?_; rintro e wb ⟨rfl, hB⟩; have T3 := hid (T2.out.on hB); clear hB))
      go_wp2_with fail
      go_ret
      exact ⟨rfl, T3.out.bel⟩
  · by_cases hP : P = -1
    · have e6 : pp = 6 := by rw [PR.out, if_pos hP]
      subst e6
      subst hP
      clear PR
      go_enter Tryz.func121, Tryz.ntmps121
      go_wp2_with fail
      with_reducible refine (PA.out _ TT.out).mono ?_
      rintro e w1 ⟨rfl, b1⟩
      have B1 := hid (B.out.on b1)
      have B2 := hid (B1.out.put x y [])
      obtain ⟨⟨s0, s1, s2, s3⟩, ⟨c0, c1, c2⟩, g0, g1, g2⟩ := B1.out.cells
      clear b1 B PA TT
      go_upto_region 15 with fail
      have T1 := hid B2.out.drew
      go_region_held3 (fun wx => (wx.cell? ⟨w.heap.size, 0, none⟩ = some (.int .u8 70) ∧ wx.cell? ⟨w.heap.size, 1, none⟩ = some (.int .i64 F) ∧ wx.cell? ⟨w.heap.size, 2, none⟩ = some (.int .i64 W) ∧ wx.cell? ⟨w.heap.size, 3, none⟩ = some (.int .i64 (-1))) ∧ (wx.cell? ⟨w.heap.size + 1, 0, none⟩ = some (.string (strOfNums x)) ∧ wx.cell? ⟨w.heap.size + 1, 1, none⟩ = some (.string (strOfNums y)) ∧ wx.cell? ⟨w.heap.size + 1, 2, none⟩ = some (.string (strOfNums [])))) (first | (with_reducible exact T3.out.flat) | (with_reducible exact T2.out.flat) | (with_reducible exact T1.out.flat)) (first
        | (go_at_call 153; with_reducible refine (HS.out _).mono ?_; rintro e wa ⟨rfl, hB⟩; have T2 := hid (T1.out.on hB); clear hB)
        | (go_at_call 157; with_reducible refine (WR.out _).mono ?_; rintro e wb ⟨rfl, hB⟩; have T3 := hid (T2.out.on hB); clear hB))
      go_wp2_with fail
      go_ret
      exact ⟨rfl, T3.out.bel⟩
    · have e6 : P = pp := by rw [PR.out, if_neg hP]
      have hne : (pp == -1) = false := by rw [← e6]; simpa using hP
      subst e6
      clear PR hP
      go_enter Tryz.func121, Tryz.ntmps121
      go_wp2_with fail
      with_reducible refine (PA.out _ TT.out).mono ?_
      rintro e w1 ⟨rfl, b1⟩
      have B1 := hid (B.out.on b1)
      have B2 := hid (B1.out.put x y [])
      obtain ⟨⟨s0, s1, s2, s3⟩, ⟨c0, c1, c2⟩, g0, g1, g2⟩ := B1.out.cells
      clear b1 B PA TT
      go_upto_region 15 with fail
      have T1 := hid B2.out.drew
      go_region_held3 (fun wx => (wx.cell? ⟨w.heap.size, 0, none⟩ = some (.int .u8 70) ∧ wx.cell? ⟨w.heap.size, 1, none⟩ = some (.int .i64 F) ∧ wx.cell? ⟨w.heap.size, 2, none⟩ = some (.int .i64 W) ∧ wx.cell? ⟨w.heap.size, 3, none⟩ = some (.int .i64 P)) ∧ (wx.cell? ⟨w.heap.size + 1, 0, none⟩ = some (.string (strOfNums x)) ∧ wx.cell? ⟨w.heap.size + 1, 1, none⟩ = some (.string (strOfNums y)) ∧ wx.cell? ⟨w.heap.size + 1, 2, none⟩ = some (.string (strOfNums [])))) (first | (with_reducible exact T3.out.flat) | (with_reducible exact T2.out.flat) | (with_reducible exact T1.out.flat)) (first
        | (go_at_call 153; with_reducible refine (HS.out _).mono ?_; rintro e wa ⟨rfl, hB⟩; have T2 := hid (T1.out.on hB); clear hB)
        | (go_at_call 157; with_reducible refine (WR.out _).mono ?_; rintro e wb ⟨rfl, hB⟩; have T3 := hid (T2.out.on hB); clear hB))
      go_wp2_with fail
      go_ret
      exact ⟨rfl, T3.out.bel⟩
set_option maxRecDepth 100000 in
set_option maxHeartbeats 4000000 in
theorem pbody_e (V F W P d : Int) (w : World) (hT : Tab w) (v0 : 0 ≤ V) (v1 : V < 256) (hV : V = 101 ∨ V = 69) (f0 : 0 ≤ F) (f1 : F ≤ 31) (p0 : -1 ≤ P) (p1 : P ≤ 4096) (h0 : 0 ≤ d) (h1 : d < 18446744073709551616) (hf : Ie.fnt d = true) :
    Calls Tryz.prog 121 #[.agg #[.int .u8 V, .int .i64 F, .int .i64 W, .int .i64 P], .int .u64 d] w fun e w' => e = .returned (.string (strOfNums (Po.bdE V (Wh.bit F 8) d (Po.pr P)))) ∧ Below w.heap.size w w' := by
  obtain ⟨q0, q1⟩ := Po.pr_bd p0 p1
  have K := Po.fgF hf (n := Po.pr P + 1) (by omega) (by omega)
  have PA : Hid (∀ wk, Tab wk → Calls Tryz.prog 155 #[.int .u8 V, .int .u64 d, .int .i64 (Po.pr P)] wk fun e w' => e = .returned (NumV ((Fx.gS d (Po.pr P + 1)).take 1) ((Fx.gS d (Po.pr P + 1)).drop 1) (Po.ex V (Fx.gK d (Po.pr P + 1)))) ∧ Below wk.heap.size wk w') := fun wk h => ppowered_any V d (Po.pr P) wk h v0 v1 h0 h1 hf q0 (by omega)
  have WR : Hid (∀ wk, Calls Tryz.prog 157 #[NumV ((Fx.gS d (Po.pr P + 1)).take 1) ((Fx.gS d (Po.pr P + 1)).drop 1) (Po.ex V (Fx.gK d (Po.pr P + 1))), .bool (Wh.bit F 8)] wk fun e w' => e = .returned (.string (strOfNums (Po.bdE V (Wh.bit F 8) d (Po.pr P)))) ∧ Below wk.heap.size wk w') := fun wk => pwritten_any _ _ _ _ wk (Po.digs_by (Po.digs_take K.s _)) (Po.digs_by (Po.digs_drop K.s _)) (Po.ex_by _ _) (by rw [List.length_take]; omega) (by have := K.len; rw [List.length_drop]; omega) (by have := Po.ex_len (V := V) (k := Fx.gK d (Po.pr P + 1)) (by have := K.lo; omega) (by have := K.hi; omega); omega)
  have B := hid (BD.new w V F W P)
  have TT := hid (hT.below (BD.new w V F W P).bel)
  have HS : Hid (∀ wk, Calls Tryz.prog 153 #[.agg #[.int .u8 V, .int .i64 F, .int .i64 W, .int .i64 P], .int .i64 8] wk fun e w' => e = .returned (.bool (Wh.bit F 8)) ∧ Below wk.heap.size wk w') := by
    intro wk
    have q := phas_any V F W P 8 wk
    rw [Po.hb_is f0 f1 (by omega)] at q
    exact q
  unfold NumV at PA WR
  have PR : Hid (Po.pr P = if P = -1 then 6 else P) := rfl
  clear hT h0 h1 hf K f0 f1
  generalize Po.bdE V (Wh.bit F 8) d (Po.pr P) = R at *
  generalize (Fx.gS d (Po.pr P + 1)).take 1 = x at *
  generalize (Fx.gS d (Po.pr P + 1)).drop 1 = y at *
  generalize Po.ex V (Fx.gK d (Po.pr P + 1)) = z at *
  generalize Wh.bit F 8 = hh at *
  generalize Po.pr P = pp at *
  rcases hV with rfl | rfl
  · by_cases hP : P = -1
    · have e6 : pp = 6 := by rw [PR.out, if_pos hP]
      subst e6
      subst hP
      clear PR
      go_enter Tryz.func121, Tryz.ntmps121
      go_wp2_with fail
      with_reducible refine (PA.out _ TT.out).mono ?_
      rintro e w1 ⟨rfl, b1⟩
      have B1 := hid (B.out.on b1)
      have B2 := hid (B1.out.put x y z)
      obtain ⟨⟨s0, s1, s2, s3⟩, ⟨c0, c1, c2⟩, g0, g1, g2⟩ := B1.out.cells
      clear b1 B PA TT
      go_upto_region 15 with fail
      have T1 := hid B2.out.drew
      go_region_held3 (fun wx => (wx.cell? ⟨w.heap.size, 0, none⟩ = some (.int .u8 101) ∧ wx.cell? ⟨w.heap.size, 1, none⟩ = some (.int .i64 F) ∧ wx.cell? ⟨w.heap.size, 2, none⟩ = some (.int .i64 W) ∧ wx.cell? ⟨w.heap.size, 3, none⟩ = some (.int .i64 (-1))) ∧ (wx.cell? ⟨w.heap.size + 1, 0, none⟩ = some (.string (strOfNums x)) ∧ wx.cell? ⟨w.heap.size + 1, 1, none⟩ = some (.string (strOfNums y)) ∧ wx.cell? ⟨w.heap.size + 1, 2, none⟩ = some (.string (strOfNums z)))) (first | (with_reducible exact T3.out.flat) | (with_reducible exact T2.out.flat) | (with_reducible exact T1.out.flat)) (first
        | (go_at_call 153; with_reducible refine (HS.out _).mono ?_; rintro e wa ⟨rfl, hB⟩; have T2 := hid (T1.out.on hB); clear hB)
        | (go_at_call 157; with_reducible refine (WR.out _).mono ?_; rintro e wb ⟨rfl, hB⟩; have T3 := hid (T2.out.on hB); clear hB))
      go_wp2_with fail
      go_ret
      exact ⟨rfl, T3.out.bel⟩
    · have e6 : P = pp := by rw [PR.out, if_neg hP]
      have hne : (pp == -1) = false := by rw [← e6]; simpa using hP
      subst e6
      clear PR hP
      go_enter Tryz.func121, Tryz.ntmps121
      go_wp2_with fail
      with_reducible refine (PA.out _ TT.out).mono ?_
      rintro e w1 ⟨rfl, b1⟩
      have B1 := hid (B.out.on b1)
      have B2 := hid (B1.out.put x y z)
      obtain ⟨⟨s0, s1, s2, s3⟩, ⟨c0, c1, c2⟩, g0, g1, g2⟩ := B1.out.cells
      clear b1 B PA TT
      go_upto_region 15 with fail
      have T1 := hid B2.out.drew
      go_region_held3 (fun wx => (wx.cell? ⟨w.heap.size, 0, none⟩ = some (.int .u8 101) ∧ wx.cell? ⟨w.heap.size, 1, none⟩ = some (.int .i64 F) ∧ wx.cell? ⟨w.heap.size, 2, none⟩ = some (.int .i64 W) ∧ wx.cell? ⟨w.heap.size, 3, none⟩ = some (.int .i64 P)) ∧ (wx.cell? ⟨w.heap.size + 1, 0, none⟩ = some (.string (strOfNums x)) ∧ wx.cell? ⟨w.heap.size + 1, 1, none⟩ = some (.string (strOfNums y)) ∧ wx.cell? ⟨w.heap.size + 1, 2, none⟩ = some (.string (strOfNums z)))) (first | (with_reducible exact T3.out.flat) | (with_reducible exact T2.out.flat) | (with_reducible exact T1.out.flat)) (first
        | (go_at_call 153; with_reducible refine (HS.out _).mono ?_; rintro e wa ⟨rfl, hB⟩; have T2 := hid (T1.out.on hB); clear hB)
        | (go_at_call 157; with_reducible refine (WR.out _).mono ?_; rintro e wb ⟨rfl, hB⟩; have T3 := hid (T2.out.on hB); clear hB))
      go_wp2_with fail
      go_ret
      exact ⟨rfl, T3.out.bel⟩
  · by_cases hP : P = -1
    · have e6 : pp = 6 := by rw [PR.out, if_pos hP]
      subst e6
      subst hP
      clear PR
      go_enter Tryz.func121, Tryz.ntmps121
      go_wp2_with fail
      with_reducible refine (PA.out _ TT.out).mono ?_
      rintro e w1 ⟨rfl, b1⟩
      have B1 := hid (B.out.on b1)
      have B2 := hid (B1.out.put x y z)
      obtain ⟨⟨s0, s1, s2, s3⟩, ⟨c0, c1, c2⟩, g0, g1, g2⟩ := B1.out.cells
      clear b1 B PA TT
      go_upto_region 15 with fail
      have T1 := hid B2.out.drew
      go_region_held3 (fun wx => (wx.cell? ⟨w.heap.size, 0, none⟩ = some (.int .u8 69) ∧ wx.cell? ⟨w.heap.size, 1, none⟩ = some (.int .i64 F) ∧ wx.cell? ⟨w.heap.size, 2, none⟩ = some (.int .i64 W) ∧ wx.cell? ⟨w.heap.size, 3, none⟩ = some (.int .i64 (-1))) ∧ (wx.cell? ⟨w.heap.size + 1, 0, none⟩ = some (.string (strOfNums x)) ∧ wx.cell? ⟨w.heap.size + 1, 1, none⟩ = some (.string (strOfNums y)) ∧ wx.cell? ⟨w.heap.size + 1, 2, none⟩ = some (.string (strOfNums z)))) (first | (with_reducible exact T3.out.flat) | (with_reducible exact T2.out.flat) | (with_reducible exact T1.out.flat)) (first
        | (go_at_call 153; with_reducible refine (HS.out _).mono ?_; rintro e wa ⟨rfl, hB⟩; have T2 := hid (T1.out.on hB); clear hB)
        | (go_at_call 157; with_reducible refine (WR.out _).mono ?_; rintro e wb ⟨rfl, hB⟩; have T3 := hid (T2.out.on hB); clear hB))
      go_wp2_with fail
      go_ret
      exact ⟨rfl, T3.out.bel⟩
    · have e6 : P = pp := by rw [PR.out, if_neg hP]
      have hne : (pp == -1) = false := by rw [← e6]; simpa using hP
      subst e6
      clear PR hP
      go_enter Tryz.func121, Tryz.ntmps121
      go_wp2_with fail
      with_reducible refine (PA.out _ TT.out).mono ?_
      rintro e w1 ⟨rfl, b1⟩
      have B1 := hid (B.out.on b1)
      have B2 := hid (B1.out.put x y z)
      obtain ⟨⟨s0, s1, s2, s3⟩, ⟨c0, c1, c2⟩, g0, g1, g2⟩ := B1.out.cells
      clear b1 B PA TT
      go_upto_region 15 with fail
      have T1 := hid B2.out.drew
      go_region_held3 (fun wx => (wx.cell? ⟨w.heap.size, 0, none⟩ = some (.int .u8 69) ∧ wx.cell? ⟨w.heap.size, 1, none⟩ = some (.int .i64 F) ∧ wx.cell? ⟨w.heap.size, 2, none⟩ = some (.int .i64 W) ∧ wx.cell? ⟨w.heap.size, 3, none⟩ = some (.int .i64 P)) ∧ (wx.cell? ⟨w.heap.size + 1, 0, none⟩ = some (.string (strOfNums x)) ∧ wx.cell? ⟨w.heap.size + 1, 1, none⟩ = some (.string (strOfNums y)) ∧ wx.cell? ⟨w.heap.size + 1, 2, none⟩ = some (.string (strOfNums z)))) (first | (with_reducible exact T3.out.flat) | (with_reducible exact T2.out.flat) | (with_reducible exact T1.out.flat)) (first
        | (go_at_call 153; with_reducible refine (HS.out _).mono ?_; rintro e wa ⟨rfl, hB⟩; have T2 := hid (T1.out.on hB); clear hB)
        | (go_at_call 157; with_reducible refine (WR.out _).mono ?_; rintro e wb ⟨rfl, hB⟩; have T3 := hid (T2.out.on hB); clear hB))
      go_wp2_with fail
      go_ret
      exact ⟨rfl, T3.out.bel⟩
set_option maxRecDepth 100000 in
set_option maxHeartbeats 4000000 in
theorem pbody_g (V F W P d : Int) (w : World) (hT : Tab w) (v0 : 0 ≤ V) (v1 : V < 256) (hV : V ≠ 102 ∧ V ≠ 70 ∧ V ≠ 101 ∧ V ≠ 69) (f0 : 0 ≤ F) (f1 : F ≤ 31) (p0 : -1 ≤ P) (p1 : P ≤ 4096) (h0 : 0 ≤ d) (h1 : d < 18446744073709551616) (hf : Ie.fnt d = true) :
    Calls Tryz.prog 121 #[.agg #[.int .u8 V, .int .i64 F, .int .i64 W, .int .i64 P], .int .u64 d] w fun e w' => e = .returned (.string (strOfNums (Po.bdG V (Wh.bit F 8) d (max (Po.pr P) 1)))) ∧ Below w.heap.size w w' := by
  obtain ⟨q0, q1⟩ := Po.pr_bd p0 p1
  have key : ∃ x y z : List Int, Hid (∀ wk, Tab wk → Calls Tryz.prog 156 #[.int .u8 V, .int .u64 d, .int .i64 (max (Po.pr P) 1)] wk fun e w' => e = .returned (NumV x y z) ∧ Below wk.heap.size wk w') ∧
      Hid (∀ wk, Calls Tryz.prog 157 #[NumV x (Po.st (Wh.bit F 8) y) z, .bool (Wh.bit F 8)] wk fun e w' => e = .returned (.string (strOfNums (Po.bdG V (Wh.bit F 8) d (max (Po.pr P) 1)))) ∧ Below wk.heap.size wk w') ∧ Wh.By y ∧ y.length ≤ 10000 := by
    have K := Po.fgF hf (n := max (Po.pr P) 1) (by omega) (by omega)
    have GN : ∀ wk, Tab wk → _ := fun wk h => pgeneral_any V d (max (Po.pr P) 1) wk h v0 v1 h0 h1 hf (by omega) (by omega)
    by_cases g : -4 ≤ Fx.gK d (max (Po.pr P) 1) ∧ Fx.gK d (max (Po.pr P) 1) < max (Po.pr P) 1
    · have J := Po.plF hf (n := max (Po.pr P) 1 - 1 - Fx.gK d (max (Po.pr P) 1)) (by omega) (by omega)
      simp only [if_pos g] at GN
      refine ⟨_, _, _, GN, fun wk => ?_, Po.digs_by J.b, by have := J.lb; omega⟩
      have q := pwritten_any (Fx.pA d (max (Po.pr P) 1 - 1 - Fx.gK d (max (Po.pr P) 1))) (Po.st (Wh.bit F 8) (Fx.pB d (max (Po.pr P) 1 - 1 - Fx.gK d (max (Po.pr P) 1)))) [] (Wh.bit F 8) wk (Po.digs_by J.a) (Po.digs_by (Po.digs_st _ J.b)) Wh.By.nil (by have := J.la; omega) (by have := J.lb; have := Po.st_len (Wh.bit F 8) (Fx.pB d (max (Po.pr P) 1 - 1 - Fx.gK d (max (Po.pr P) 1))); omega) (by simp)
      unfold Po.bdG
      rw [if_pos g]
      exact q
    · simp only [if_neg g] at GN
      have ln := K.len
      refine ⟨_, _, _, GN, fun wk => ?_, Po.digs_by (Po.digs_drop K.s _), by rw [List.length_drop]; omega⟩
      have q := pwritten_any ((Fx.gS d (max (Po.pr P) 1)).take 1) (Po.st (Wh.bit F 8) ((Fx.gS d (max (Po.pr P) 1)).drop 1)) (Po.ex V (Fx.gK d (max (Po.pr P) 1))) (Wh.bit F 8) wk (Po.digs_by (Po.digs_take K.s _)) (Po.digs_by (Po.digs_st _ (Po.digs_drop K.s _))) (Po.ex_by _ _) (by rw [List.length_take]; omega) (by have := Po.st_len (Wh.bit F 8) ((Fx.gS d (max (Po.pr P) 1)).drop 1); rw [List.length_drop] at this; omega) (by have := Po.ex_len (V := V) (k := Fx.gK d (max (Po.pr P) 1)) (by have := K.lo; omega) (by have := K.hi; omega); omega)
      unfold Po.bdG
      rw [if_neg g]
      exact q
  obtain ⟨x, y, z, PA, WR, yb, yl⟩ := key
  have TR := hid (fun wk => ptrim_any y wk yb (by omega))
  have B := hid (BD.new w V F W P)
  have TT := hid (hT.below (BD.new w V F W P).bel)
  have HS : Hid (∀ wk, Calls Tryz.prog 153 #[.agg #[.int .u8 V, .int .i64 F, .int .i64 W, .int .i64 P], .int .i64 8] wk fun e w' => e = .returned (.bool (Wh.bit F 8)) ∧ Below wk.heap.size wk w') := by
    intro wk
    have q := phas_any V F W P 8 wk
    rw [Po.hb_is f0 f1 (by omega)] at q
    exact q
  unfold NumV at PA WR
  have PR : Hid (Po.pr P = if P = -1 then 6 else P) := rfl
  have n1 : (V == 102) = false := by simpa using hV.1
  have n2 : (V == 70) = false := by simpa using hV.2.1
  have n3 : (V == 101) = false := by simpa using hV.2.2.1
  have n4 : (V == 69) = false := by simpa using hV.2.2.2
  clear hT h0 h1 hf f0 f1 v0 v1 yb yl hV
  generalize Po.bdG V (Wh.bit F 8) d (max (Po.pr P) 1) = R at *
  have E1 : Hid (Wh.bit F 8 = true → Po.st (Wh.bit F 8) y = y) := fun h => by unfold Po.st; rw [if_pos h]
  have E2 : Hid (Wh.bit F 8 = false → Po.st (Wh.bit F 8) y = Po.sp y) := fun h => by unfold Po.st; rw [if_neg (by rw [h]; decide)]
  generalize Wh.bit F 8 = hh at *
  generalize Po.st hh y = ys at *
  generalize Po.sp y = y2 at *
  obtain ⟨mm, hmm⟩ : ∃ mm, max (Po.pr P) 1 = mm := ⟨_, rfl⟩
  rw [hmm] at PA
  cases hh with
  | true =>
    have e := E1.out rfl
    subst e
    clear E1 E2
    by_cases hP : P = -1
    · have e6 : mm = 6 := by rw [← hmm, PR.out, if_pos hP]; decide
      subst e6
      subst hP
      clear PR hmm
      have m61 : max (6 : Int) 1 = 6 := by decide
      go_enter Tryz.func121, Tryz.ntmps121
      go_wp2_with fail
      with_reducible refine (PA.out _ TT.out).mono ?_
      rintro e w1 ⟨rfl, b1⟩
      have B1 := hid (B.out.on b1)
      have B2 := hid (B1.out.put x ys z)
      obtain ⟨⟨s0, s1, s2, s3⟩, ⟨c0, c1, c2⟩, g0, g1, g2⟩ := B1.out.cells
      clear b1 B PA TT
      go_upto_region 7 with fail
      generalize ((w1.setCell ⟨w.heap.size + 1, 0, none⟩ (.string (strOfNums x))).setCell ⟨w.heap.size + 1, 1, none⟩ (.string (strOfNums ys))).setCell ⟨w.heap.size + 1, 2, none⟩ (.string (strOfNums z)) = w2 at *
      clear s0 s1 s2 s3 c0 c1 c2 g0 g1 g2 B1
      obtain ⟨⟨s0, s1, s2, s3⟩, ⟨c0, c1, c2⟩, g0, g1, g2⟩ := B2.out.cells
      go_wp2_with fail
      with_reducible refine (HS.out _).mono ?_
      rintro e w3 ⟨rfl, b3⟩
      have B3 := hid (B2.out.on b3)
      clear s0 s1 s2 s3 c0 c1 c2 g0 g1 g2 B2 b3
      obtain ⟨⟨s0, s1, s2, s3⟩, ⟨c0, c1, c2⟩, g0, g1, g2⟩ := B3.out.cells
      go_upto_region 15 with fail
      have T1 := hid B3.out.drew
      go_region_held3 (fun wx => (wx.cell? ⟨w.heap.size, 0, none⟩ = some (.int .u8 V) ∧ wx.cell? ⟨w.heap.size, 1, none⟩ = some (.int .i64 F) ∧ wx.cell? ⟨w.heap.size, 2, none⟩ = some (.int .i64 W) ∧ wx.cell? ⟨w.heap.size, 3, none⟩ = some (.int .i64 (-1))) ∧ (wx.cell? ⟨w.heap.size + 1, 0, none⟩ = some (.string (strOfNums x)) ∧ wx.cell? ⟨w.heap.size + 1, 1, none⟩ = some (.string (strOfNums ys)) ∧ wx.cell? ⟨w.heap.size + 1, 2, none⟩ = some (.string (strOfNums z)))) (first | (with_reducible exact T3.out.flat) | (with_reducible exact T2.out.flat) | (with_reducible exact T1.out.flat)) (first
        | (go_at_call 153; with_reducible refine (HS.out _).mono ?_; rintro e wa ⟨rfl, hB⟩; have T2 := hid (T1.out.on hB); clear hB)
        | (go_at_call 157; with_reducible refine (WR.out _).mono ?_; rintro e wb ⟨rfl, hB⟩; have T3 := hid (T2.out.on hB); clear hB))
      go_wp2_with fail
      go_ret
      exact ⟨rfl, T3.out.bel⟩
    · have e6 : max P 1 = mm := by rw [← hmm, PR.out, if_neg hP]
      have hne : (P == -1) = false := by simpa using hP
      clear PR hP hmm
      go_enter Tryz.func121, Tryz.ntmps121
      go_wp2_with fail
      with_reducible refine (PA.out _ TT.out).mono ?_
      rintro e w1 ⟨rfl, b1⟩
      have B1 := hid (B.out.on b1)
      have B2 := hid (B1.out.put x ys z)
      obtain ⟨⟨s0, s1, s2, s3⟩, ⟨c0, c1, c2⟩, g0, g1, g2⟩ := B1.out.cells
      clear b1 B PA TT
      go_upto_region 7 with fail
      generalize ((w1.setCell ⟨w.heap.size + 1, 0, none⟩ (.string (strOfNums x))).setCell ⟨w.heap.size + 1, 1, none⟩ (.string (strOfNums ys))).setCell ⟨w.heap.size + 1, 2, none⟩ (.string (strOfNums z)) = w2 at *
      clear s0 s1 s2 s3 c0 c1 c2 g0 g1 g2 B1
      obtain ⟨⟨s0, s1, s2, s3⟩, ⟨c0, c1, c2⟩, g0, g1, g2⟩ := B2.out.cells
      go_wp2_with fail
      with_reducible refine (HS.out _).mono ?_
      rintro e w3 ⟨rfl, b3⟩
      have B3 := hid (B2.out.on b3)
      clear s0 s1 s2 s3 c0 c1 c2 g0 g1 g2 B2 b3
      obtain ⟨⟨s0, s1, s2, s3⟩, ⟨c0, c1, c2⟩, g0, g1, g2⟩ := B3.out.cells
      go_upto_region 15 with fail
      have T1 := hid B3.out.drew
      go_region_held3 (fun wx => (wx.cell? ⟨w.heap.size, 0, none⟩ = some (.int .u8 V) ∧ wx.cell? ⟨w.heap.size, 1, none⟩ = some (.int .i64 F) ∧ wx.cell? ⟨w.heap.size, 2, none⟩ = some (.int .i64 W) ∧ wx.cell? ⟨w.heap.size, 3, none⟩ = some (.int .i64 P)) ∧ (wx.cell? ⟨w.heap.size + 1, 0, none⟩ = some (.string (strOfNums x)) ∧ wx.cell? ⟨w.heap.size + 1, 1, none⟩ = some (.string (strOfNums ys)) ∧ wx.cell? ⟨w.heap.size + 1, 2, none⟩ = some (.string (strOfNums z)))) (first | (with_reducible exact T3.out.flat) | (with_reducible exact T2.out.flat) | (with_reducible exact T1.out.flat)) (first
        | (go_at_call 153; with_reducible refine (HS.out _).mono ?_; rintro e wa ⟨rfl, hB⟩; have T2 := hid (T1.out.on hB); clear hB)
        | (go_at_call 157; with_reducible refine (WR.out _).mono ?_; rintro e wb ⟨rfl, hB⟩; have T3 := hid (T2.out.on hB); clear hB))
      go_wp2_with fail
      go_ret
      exact ⟨rfl, T3.out.bel⟩
  | false =>
    have e := E2.out rfl
    subst e
    clear E1 E2
    by_cases hP : P = -1
    · have e6 : mm = 6 := by rw [← hmm, PR.out, if_pos hP]; decide
      subst e6
      subst hP
      clear PR hmm
      have m61 : max (6 : Int) 1 = 6 := by decide
      go_enter Tryz.func121, Tryz.ntmps121
      go_wp2_with fail
      with_reducible refine (PA.out _ TT.out).mono ?_
      rintro e w1 ⟨rfl, b1⟩
      have B1 := hid (B.out.on b1)
      have B2 := hid (B1.out.put x y z)
      obtain ⟨⟨s0, s1, s2, s3⟩, ⟨c0, c1, c2⟩, g0, g1, g2⟩ := B1.out.cells
      clear b1 B PA TT
      go_upto_region 7 with fail
      generalize ((w1.setCell ⟨w.heap.size + 1, 0, none⟩ (.string (strOfNums x))).setCell ⟨w.heap.size + 1, 1, none⟩ (.string (strOfNums y))).setCell ⟨w.heap.size + 1, 2, none⟩ (.string (strOfNums z)) = w2 at *
      clear s0 s1 s2 s3 c0 c1 c2 g0 g1 g2 B1
      obtain ⟨⟨s0, s1, s2, s3⟩, ⟨c0, c1, c2⟩, g0, g1, g2⟩ := B2.out.cells
      go_wp2_with fail
      with_reducible refine (HS.out _).mono ?_
      rintro e w3 ⟨rfl, b3⟩
      have B3 := hid (B2.out.on b3)
      clear s0 s1 s2 s3 c0 c1 c2 g0 g1 g2 B2 b3
      obtain ⟨⟨s0, s1, s2, s3⟩, ⟨c0, c1, c2⟩, g0, g1, g2⟩ := B3.out.cells
      go_wp2_with fail
      with_reducible refine (TR.out _).mono ?_
      rintro e w4 ⟨rfl, hw4⟩
      rw [hw4]
      clear hw4 w4
      have B4 := hid (B3.out.put1 ys)
      go_upto_region 15 with fail
      have T1 := hid B4.out.drew
      go_region_held3 (fun wx => (wx.cell? ⟨w.heap.size, 0, none⟩ = some (.int .u8 V) ∧ wx.cell? ⟨w.heap.size, 1, none⟩ = some (.int .i64 F) ∧ wx.cell? ⟨w.heap.size, 2, none⟩ = some (.int .i64 W) ∧ wx.cell? ⟨w.heap.size, 3, none⟩ = some (.int .i64 (-1))) ∧ (wx.cell? ⟨w.heap.size + 1, 0, none⟩ = some (.string (strOfNums x)) ∧ wx.cell? ⟨w.heap.size + 1, 1, none⟩ = some (.string (strOfNums ys)) ∧ wx.cell? ⟨w.heap.size + 1, 2, none⟩ = some (.string (strOfNums z)))) (first | (with_reducible exact T3.out.flat) | (with_reducible exact T2.out.flat) | (with_reducible exact T1.out.flat)) (first
        | (go_at_call 153; with_reducible refine (HS.out _).mono ?_; rintro e wa ⟨rfl, hB⟩; have T2 := hid (T1.out.on hB); clear hB)
        | (go_at_call 157; with_reducible refine (WR.out _).mono ?_; rintro e wb ⟨rfl, hB⟩; have T3 := hid (T2.out.on hB); clear hB))
      go_wp2_with fail
      go_ret
      exact ⟨rfl, T3.out.bel⟩
    · have e6 : max P 1 = mm := by rw [← hmm, PR.out, if_neg hP]
      have hne : (P == -1) = false := by simpa using hP
      clear PR hP hmm
      go_enter Tryz.func121, Tryz.ntmps121
      go_wp2_with fail
      with_reducible refine (PA.out _ TT.out).mono ?_
      rintro e w1 ⟨rfl, b1⟩
      have B1 := hid (B.out.on b1)
      have B2 := hid (B1.out.put x y z)
      obtain ⟨⟨s0, s1, s2, s3⟩, ⟨c0, c1, c2⟩, g0, g1, g2⟩ := B1.out.cells
      clear b1 B PA TT
      go_upto_region 7 with fail
      generalize ((w1.setCell ⟨w.heap.size + 1, 0, none⟩ (.string (strOfNums x))).setCell ⟨w.heap.size + 1, 1, none⟩ (.string (strOfNums y))).setCell ⟨w.heap.size + 1, 2, none⟩ (.string (strOfNums z)) = w2 at *
      clear s0 s1 s2 s3 c0 c1 c2 g0 g1 g2 B1
      obtain ⟨⟨s0, s1, s2, s3⟩, ⟨c0, c1, c2⟩, g0, g1, g2⟩ := B2.out.cells
      go_wp2_with fail
      with_reducible refine (HS.out _).mono ?_
      rintro e w3 ⟨rfl, b3⟩
      have B3 := hid (B2.out.on b3)
      clear s0 s1 s2 s3 c0 c1 c2 g0 g1 g2 B2 b3
      obtain ⟨⟨s0, s1, s2, s3⟩, ⟨c0, c1, c2⟩, g0, g1, g2⟩ := B3.out.cells
      go_wp2_with fail
      with_reducible refine (TR.out _).mono ?_
      rintro e w4 ⟨rfl, hw4⟩
      rw [hw4]
      clear hw4 w4
      have B4 := hid (B3.out.put1 ys)
      go_upto_region 15 with fail
      have T1 := hid B4.out.drew
      go_region_held3 (fun wx => (wx.cell? ⟨w.heap.size, 0, none⟩ = some (.int .u8 V) ∧ wx.cell? ⟨w.heap.size, 1, none⟩ = some (.int .i64 F) ∧ wx.cell? ⟨w.heap.size, 2, none⟩ = some (.int .i64 W) ∧ wx.cell? ⟨w.heap.size, 3, none⟩ = some (.int .i64 P)) ∧ (wx.cell? ⟨w.heap.size + 1, 0, none⟩ = some (.string (strOfNums x)) ∧ wx.cell? ⟨w.heap.size + 1, 1, none⟩ = some (.string (strOfNums ys)) ∧ wx.cell? ⟨w.heap.size + 1, 2, none⟩ = some (.string (strOfNums z)))) (first | (with_reducible exact T3.out.flat) | (with_reducible exact T2.out.flat) | (with_reducible exact T1.out.flat)) (first
        | (go_at_call 153; with_reducible refine (HS.out _).mono ?_; rintro e wa ⟨rfl, hB⟩; have T2 := hid (T1.out.on hB); clear hB)
        | (go_at_call 157; with_reducible refine (WR.out _).mono ?_; rintro e wb ⟨rfl, hB⟩; have T3 := hid (T2.out.on hB); clear hB))
      go_wp2_with fail
      go_ret
      exact ⟨rfl, T3.out.bel⟩

theorem pbody_any (V F W P d : Int) (w : World) (hT : Tab w) (v0 : 0 ≤ V) (v1 : V < 256) (f0 : 0 ≤ F) (f1 : F ≤ 31) (p0 : -1 ≤ P) (p1 : P ≤ 4096) (h0 : 0 ≤ d) (h1 : d < 18446744073709551616) (hf : Ie.fnt d = true) :
    Calls Tryz.prog 121 #[.agg #[.int .u8 V, .int .i64 F, .int .i64 W, .int .i64 P], .int .u64 d] w fun e w' => e = .returned (.string (strOfNums (Po.bd V (Wh.bit F 8) P d))) ∧ Below w.heap.size w w' := by
  unfold Po.bd
  by_cases c1 : V = 102 ∨ V = 70
  · rw [if_pos c1]; exact pbody_f V F W P d w hT v0 v1 c1 f0 f1 p0 p1 h0 h1 hf
  · rw [if_neg c1]
    by_cases c2 : V = 101 ∨ V = 69
    · rw [if_pos c2]; exact pbody_e V F W P d w hT v0 v1 c2 f0 f1 p0 p1 h0 h1 hf
    · rw [if_neg c2]; exact pbody_g V F W P d w hT v0 v1 (by omega) f0 f1 p0 p1 h0 h1 hf
end Go.Proofs.YtigmhnlcmhpepaaGreatDoor

namespace Go.Proofs.YtigmhnlcmhpepaaGreatDoor
open Go Go.RowKit Go.Deep Go.Shelf

def SpcTold (V F W P d : Int) (w : World) (e : Ending) (w' : World) : Prop := e = .returned (.tuple #[.string (strOfNums (Po.spc V F W P d)), .bool (Po.spb F W P d), .int .i64 (Wh.chk F W P)]) ∧ Below w.heap.size w w'
def RenTold (V F W P d : Int) (w : World) (e : Ending) (w' : World) : Prop := e = .returned (.tuple #[.string (strOfNums (Po.ren V F W P d)), .int .i64 (Po.renE V F W P)]) ∧ Below w.heap.size w w'

theorem pad_small {F W P : Int} {z : Bool} {h b : List Int} (hl : h.length + b.length ≤ 16777216) : Wh.padE F W P h b = Wh.chk F W P ∧ Wh.pad F W P z h b = (if Wh.chk F W P = 0 then Wh.padT F W z h b else []) := by
  have e : Wh.padE F W P h b = Wh.chk F W P := by
    unfold Wh.padE
    by_cases c : Wh.chk F W P = 0
    · rw [if_pos c, if_neg (by omega), c]
    · rw [if_neg c]
  exact ⟨e, by rw [Wh.pad, e]⟩

set_option maxRecDepth 100000 in
set_option maxHeartbeats 4000000 in
theorem special_any (V F W P d : Int) (w : World) (v0 : 0 ≤ V) (v1 : V < 256) (h0 : 0 ≤ d) (h1 : d < 18446744073709551616) :
    Calls Tryz.prog 117 #[.agg #[.int .u8 V, .int .i64 F, .int .i64 W, .int .i64 P], .int .u64 d] w fun e w' => SpcTold V F W P d w e w' := by
  have B0 := hid (SB.new w V F W P)
  have SG := hid (fun wk => psign_any V F W P d wk h0 h1)
  have NM := hid (fun wk => pname_any V d wk v0 v1 h0 h1)
  have FN := hid (fun wk => pfin_any d wk h0 h1)
  have sb := Po.sx_by F (Po.ng d)
  have nb := Po.nm_by (Po.cap V) (Ie.cls d)
  have nl := Po.nm_len (Po.cap V) (Ie.cls d)
  have PA : Hid (∀ wk, Calls Tryz.prog 112 #[.agg #[.int .u8 V, .int .i64 F, .int .i64 W, .int .i64 P], .string (strOfNums (Po.sx F (Po.ng d))), .string (strOfNums (Po.nm (Po.cap V) (Ie.cls d))), .bool false] wk fun e w' => e = .returned (.tuple #[.string (strOfNums (if Wh.chk F W P = 0 then Wh.padT F W false (Po.sx F (Po.ng d)) (Po.nm (Po.cap V) (Ie.cls d)) else [])), .int .i64 (Wh.chk F W P)]) ∧ Below wk.heap.size wk w') := by
    intro wk
    refine (pad_any V F W P _ _ false wk sb.1 nb (by omega) (by omega)).mono ?_
    rintro e w' ⟨rfl, k⟩
    obtain ⟨e1, e2⟩ := pad_small (F := F) (W := W) (P := P) (z := false) (h := Po.sx F (Po.ng d)) (b := Po.nm (Po.cap V) (Ie.cls d)) (by omega)
    exact ⟨by rw [e1, e2], k⟩
  have G1 : Hid (∀ w' , Wh.chk F W P ≠ 0 → Below w.heap.size w w' → SpcTold V F W P d w (.returned (.tuple #[.string ⟨#[]⟩, .bool false, .int .i64 (Wh.chk F W P)])) w') := by
    intro w' h k
    refine ⟨?_, k⟩
    rw [Po.spc, if_neg (fun q => h q.1), Po.spb, decide_eq_false h]
    rfl
  have G2 : Hid (∀ w' , Wh.chk F W P = 0 → Ie.fnt d = true → Below w.heap.size w w' → SpcTold V F W P d w (.returned (.tuple #[.string ⟨#[]⟩, .bool false, .int .i64 0])) w') := by
    intro w' h f k
    refine ⟨?_, k⟩
    rw [Po.spc, if_neg (fun q => by rw [f] at q; exact Bool.false_ne_true q.2.symm), Po.spb, f, h]
    rfl
  have G3 : Hid (∀ w' , Wh.chk F W P = 0 → Ie.fnt d = false → Below w.heap.size w w' → SpcTold V F W P d w (.returned (.tuple #[.string (strOfNums (if Wh.chk F W P = 0 then Wh.padT F W false (Po.sx F (Po.ng d)) (Po.nm (Po.cap V) (Ie.cls d)) else [])), .bool true, .int .i64 0])) w') := by
    intro w' h f k
    refine ⟨?_, k⟩
    obtain ⟨⟨f0, f1⟩, -, -⟩ := Wh.chk_ok h
    rw [if_pos h, Po.spc, if_pos ⟨h, f⟩, Po.spb, f, h, Po.sx_is _ f0 f1]
    rfl
  generalize (if Wh.chk F W P = 0 then Wh.padT F W false (Po.sx F (Po.ng d)) (Po.nm (Po.cap V) (Ie.cls d)) else []) = T at *
  generalize Po.sx F (Po.ng d) = SX at *
  generalize Po.nm (Po.cap V) (Ie.cls d) = NX at *
  clear v0 v1 h0 h1 sb nb nl
  generalize Wh.chk F W P = E at *
  generalize Ie.fnt d = fd at *
  go_enter Tryz.func117, Tryz.ntmps117
  go_upto_region 1 with fail
  have T1 := hid B0.out.drew
  go_region_held3 (fun wx => wx.cell? ⟨w.heap.size, 0, none⟩ = some (.int .u8 V) ∧ wx.cell? ⟨w.heap.size, 1, none⟩ = some (.int .i64 F) ∧ wx.cell? ⟨w.heap.size, 2, none⟩ = some (.int .i64 W) ∧ wx.cell? ⟨w.heap.size, 3, none⟩ = some (.int .i64 P)) (first | (with_reducible exact T4.out.flat) | (with_reducible exact T3.out.flat) | (with_reducible exact T2.out.flat) | (with_reducible exact T1.out.flat)) (first
    | (go_at_call 120; with_reducible refine (SG.out _).mono ?_; rintro e wa ⟨rfl, hB⟩; have T2 := hid (T1.out.on hB); clear hB)
    | (go_at_call 146; with_reducible refine (NM.out _).mono ?_; rintro e wb ⟨rfl, hB⟩; have T3 := hid (T2.out.on hB); clear hB)
    | (go_at_call 112; with_reducible refine (PA.out _).mono ?_; rintro e wc ⟨rfl, hB⟩; have T4 := hid (T3.out.on hB); clear hB))
  by_cases hE : E = 0
  · subst hE
    cases fd with
    | true =>
      have R := hid (G2.out wc rfl rfl T4.out.bel)
      clear G1 G2 G3
      go_wp2_with (go_at_call 147; refine (FN.out _).mono ?_; rintro e w' ⟨rfl, hw⟩; rw [hw]; clear hw w')
      go_ret3
      exact R.out
    | false =>
      have R := hid (G3.out wc rfl rfl T4.out.bel)
      clear G1 G2 G3
      go_wp2_with (go_at_call 147; refine (FN.out _).mono ?_; rintro e w' ⟨rfl, hw⟩; rw [hw]; clear hw w')
      go_ret3
      exact R.out
  · have hne : (E == 0) = false := by simpa using hE
    have hne2 : (E != 0) = true := by simpa using hE
    have R := hid (G1.out wc hE T4.out.bel)
    clear G1 G2 G3 hE
    go_wp2_with fail
    go_ret3
    exact R.out

set_option maxRecDepth 100000 in
set_option maxHeartbeats 4000000 in
theorem render_any (V F W P d : Int) (w : World) (hT : Tab w) (v0 : 0 ≤ V) (v1 : V < 256) (h0 : 0 ≤ d) (h1 : d < 18446744073709551616) :
    Calls Tryz.prog 100 #[.agg #[.int .u8 V, .int .i64 F, .int .i64 W, .int .i64 P], .int .u64 d] w fun e w' => RenTold V F W P d w e w' := by
  have B0 := hid (SB.new w V F W P)
  have IX := hid (fun w => Any.strings_IndexByte idxLays ⟨#[101, 69, 102, 70, 103, 71]⟩ V w)
  have OK := ok_ix V v0 v1
  obtain ⟨ix, hix⟩ : ∃ ix, Lib.indexByte (⟨#[101, 69, 102, 70, 103, 71]⟩ : ByteArray).data.toList V.toNat.toUInt8 = ix := ⟨_, rfl⟩
  rw [hix] at IX OK
  clear hix
  by_cases hV : Po.okV V = true
  · rw [hV] at OK
    have ix0 : ¬ ix < 0 := by simpa using OK
    have hR : Po.renE V F W P = Wh.chk F W P := by rw [Po.renE, if_pos hV]
    have SP := hid (fun wk => special_any V F W P d wk v0 v1 h0 h1)
    by_cases hc : Wh.chk F W P = 0
    · obtain ⟨⟨f0, f1⟩, -, ⟨p0, p1⟩⟩ := Wh.chk_ok hc
      by_cases hf : Ie.fnt d = true
      · have sp1 : Po.spb F W P d = false := by rw [Po.spb, hf]; simp
        have SG : Hid (∀ wk, Calls Tryz.prog 120 #[.agg #[.int .u8 V, .int .i64 F, .int .i64 W, .int .i64 P], .int .u64 d] wk fun e w' => e = .returned (.string (strOfNums (Wh.sgn F (Po.ng d)))) ∧ Below wk.heap.size wk w') := by
          intro wk
          have q := psign_any V F W P d wk h0 h1
          rw [Po.sx_is _ f0 f1] at q
          exact q
        have TB : Hid (∀ wk, Below w.heap.size w wk → Tab wk) := fun wk k => hT.below k
        have BO := hid (fun wk (k : Tab wk) => pbody_any V F W P d wk k v0 v1 f0 f1 p0 p1 h0 h1 hf)
        obtain ⟨bb, bl⟩ := Po.bd_ok (V := V) (P := P) (d := d) (Wh.bit F 8) hf p0 p1
        have sl := Wh.sgn_len F (Po.ng d)
        have PA : Hid (∀ wk, Calls Tryz.prog 112 #[.agg #[.int .u8 V, .int .i64 F, .int .i64 W, .int .i64 P], .string (strOfNums (Wh.sgn F (Po.ng d))), .string (strOfNums (Po.bd V (Wh.bit F 8) P d)), .bool true] wk fun e w' => e = .returned (.tuple #[.string (strOfNums (Po.ren V F W P d)), .int .i64 0]) ∧ Below wk.heap.size wk w') := by
          intro wk
          refine (pad_any V F W P _ _ true wk (Wh.sgn_by _ _) bb (by omega) (by omega)).mono ?_
          rintro e w' ⟨rfl, k⟩
          obtain ⟨e1, e2⟩ := pad_small (F := F) (W := W) (P := P) (z := true) (h := Wh.sgn F (Po.ng d)) (b := Po.bd V (Wh.bit F 8) P d) (by omega)
          refine ⟨?_, k⟩
          rw [e1, e2, hc, if_pos rfl, Po.ren, hR, if_pos hc, if_pos hf]
        have G : Hid (∀ w', Below w.heap.size w w' → RenTold V F W P d w (.returned (.tuple #[.string (strOfNums (Po.ren V F W P d)), .int .i64 0])) w') := fun w' k => ⟨by rw [hR, hc], k⟩
        unfold SpcTold at SP
        rw [sp1, hc] at SP
        clear hT v0 v1 h0 h1 hV OK hR hc hf f0 f1 p0 p1 bb bl sl sp1
        generalize Po.spc V F W P d = SC at *
        generalize Po.ren V F W P d = RN at *
        generalize Po.bd V (Wh.bit F 8) P d = BD' at *
        generalize Wh.sgn F (Po.ng d) = SN at *
        go_enter Tryz.func100, Tryz.ntmps100
        go_wp2_with (go_at_call 91; refine (IX.out _).mono ?_; rintro e w2 ⟨rfl, rfl⟩)
        with_reducible refine (SP.out _).mono ?_
        rintro e w1 ⟨rfl, b1⟩
        have B1 := hid (B0.out.on b1)
        clear b1 B0 SP IX
        obtain ⟨c0, c1, c2, c3⟩ := B1.out.flat
        go_upto_region 6 with fail
        clear c0 c1 c2 c3
        have T1 := hid B1.out.drew
        go_region_held3 (fun wx => wx.cell? ⟨w.heap.size, 0, none⟩ = some (.int .u8 V) ∧ wx.cell? ⟨w.heap.size, 1, none⟩ = some (.int .i64 F) ∧ wx.cell? ⟨w.heap.size, 2, none⟩ = some (.int .i64 W) ∧ wx.cell? ⟨w.heap.size, 3, none⟩ = some (.int .i64 P)) (first | (with_reducible exact T4.out.flat) | (with_reducible exact T3.out.flat) | (with_reducible exact T2.out.flat) | (with_reducible exact T1.out.flat)) (first
          | (go_at_call 120; with_reducible refine (SG.out _).mono ?_; rintro e wa ⟨rfl, hB⟩; have T2 := hid (T1.out.on hB); have K2 := hid (TB.out _ T2.out.bel); clear hB)
          | (go_at_call 121; with_reducible refine (BO.out _ K2.out).mono ?_; rintro e wb ⟨rfl, hB⟩; have T3 := hid (T2.out.on hB); clear hB)
          | (go_at_call 112; with_reducible refine (PA.out _).mono ?_; rintro e wc ⟨rfl, hB⟩; have T4 := hid (T3.out.on hB); clear hB))
        go_wp2_with fail
        go_ret2
        exact G.out _ T4.out.bel
      · have hf' : Ie.fnt d = false := by simpa using hf
        have sp1 : Po.spb F W P d = true := by rw [Po.spb, hf', hc]; rfl
        have sp2 : Po.spc V F W P d = Po.ren V F W P d := by rw [Po.spc, if_pos ⟨hc, hf'⟩, Po.ren, hR, if_pos hc, if_neg hf]
        have G : Hid (∀ w', Below w.heap.size w w' → RenTold V F W P d w (.returned (.tuple #[.string (strOfNums (Po.ren V F W P d)), .int .i64 0])) w') := fun w' k => ⟨by rw [hR, hc], k⟩
        unfold SpcTold at SP
        rw [sp1, sp2, hc] at SP
        clear hT v0 v1 h0 h1 hV OK hR hc hf hf' f0 f1 p0 p1 sp1 sp2
        generalize Po.ren V F W P d = RN at *
        go_enter Tryz.func100, Tryz.ntmps100
        go_wp2_with (go_at_call 91; refine (IX.out _).mono ?_; rintro e w2 ⟨rfl, rfl⟩)
        with_reducible refine (SP.out _).mono ?_
        rintro e w1 ⟨rfl, b1⟩
        have R := hid (G.out _ (B0.out.on b1).bel)
        clear b1 B0 SP IX G
        go_wp2_with fail
        go_ret2
        exact R.out
    · have sp1 : Po.spb F W P d = false := by rw [Po.spb, decide_eq_false hc]; rfl
      have sp2 : Po.spc V F W P d = Po.ren V F W P d := by rw [Po.spc, if_neg (fun q => hc q.1), Po.ren, hR, if_neg hc]
      have G : Hid (∀ w', Below w.heap.size w w' → RenTold V F W P d w (.returned (.tuple #[.string (strOfNums (Po.ren V F W P d)), .int .i64 (Wh.chk F W P)])) w') := fun w' k => ⟨by rw [hR], k⟩
      unfold SpcTold at SP
      rw [sp1, sp2] at SP
      have hne : (Wh.chk F W P == 0) = false := by simpa using hc
      have hne2 : (Wh.chk F W P != 0) = true := by simpa using hc
      clear hT v0 v1 h0 h1 hV OK hR hc sp1 sp2
      generalize Po.ren V F W P d = RN at *
      generalize Wh.chk F W P = E at *
      go_enter Tryz.func100, Tryz.ntmps100
      go_wp2_with (go_at_call 91; refine (IX.out _).mono ?_; rintro e w2 ⟨rfl, rfl⟩)
      with_reducible refine (SP.out _).mono ?_
      rintro e w1 ⟨rfl, b1⟩
      have R := hid (G.out _ (B0.out.on b1).bel)
      clear b1 B0 SP IX G
      go_wp2_with fail
      go_ret2
      exact R.out
  · have hV' : Po.okV V = false := by simpa using hV
    rw [hV'] at OK
    have ix0 : ix < 0 := by simpa using OK
    have hR : Po.renE V F W P = 140 := by rw [Po.renE, if_neg hV]
    have G : Hid (∀ w', Below w.heap.size w w' → RenTold V F W P d w (.returned (.tuple #[.string ⟨#[]⟩, .int .i64 140])) w') := fun w' k => ⟨by rw [Po.ren, hR, if_neg (by decide)]; rfl, k⟩
    have R := hid (G.out _ B0.out.bel)
    clear hT v0 v1 h0 h1 hV hV' OK hR G
    go_enter Tryz.func100, Tryz.ntmps100
    go_wp2_with (go_at_call 91; refine (IX.out _).mono ?_; rintro e w2 ⟨rfl, rfl⟩)
    go_ret2
    exact R.out
end Go.Proofs.YtigmhnlcmhpepaaGreatDoor

namespace Go.Proofs.YtigmhnlcmhpepaaGreatDoor
open Go Go.RowKit Go.Deep Go.Shelf

set_option maxRecDepth 100000 in
theorem rcheck_any (V F W P : Int) (w : World) (v0 : 0 ≤ V) (v1 : V < 256) :
    Calls Tryz.prog 94 #[.agg #[.int .u8 V, .int .i64 F, .int .i64 W, .int .i64 P]] w fun e w' => e = .returned (.int .i64 (if Dr.idx Dr.verbs V < 0 then 140 else Wh.chk F W P)) ∧ Below w.heap.size w w' := by
  have B0 := hid (SB.new w V F W P)
  have IX := hid (fun wk => idx_any ⟨#[100, 105, 111, 117, 120, 88, 99, 115, 101, 69, 102, 70, 103, 71]⟩ Dr.verbs V wk rfl v0 v1)
  have PA : Hid (∀ wk, Calls Tryz.prog 112 #[.agg #[.int .u8 V, .int .i64 F, .int .i64 W, .int .i64 P], .string ⟨#[]⟩, .string ⟨#[]⟩, .bool false] wk fun e w' => ∃ t, e = .returned (.tuple #[.string t, .int .i64 (Wh.chk F W P)]) ∧ Below wk.heap.size wk w') := by
    intro wk
    refine (pad_any V F W P [] [] false wk Wh.By.nil Wh.By.nil (by simp) (by simp)).mono ?_
    rintro e w' ⟨rfl, k⟩
    rw [(pad_small (F := F) (W := W) (P := P) (z := false) (h := []) (b := []) (by simp)).1]
    exact ⟨_, rfl, k⟩
  generalize Dr.idx Dr.verbs V = ix at *
  generalize Wh.chk F W P = E at *
  clear v0 v1
  by_cases h : ix < 0
  · rw [if_pos h]
    have R := hid B0.out.bel
    clear PA B0
    go_enter Tryz.func94, Tryz.ntmps94
    go_wp2_with (go_at_call 91; refine (IX.out _).mono ?_; rintro e w2 ⟨rfl, rfl⟩)
    go_ret
    exact ⟨rfl, R.out⟩
  · rw [if_neg h]
    go_enter Tryz.func94, Tryz.ntmps94
    go_wp2_with (go_at_call 91; refine (IX.out _).mono ?_; rintro e w2 ⟨rfl, rfl⟩)
    with_reducible refine (PA.out _).mono ?_
    rintro e w1 ⟨t, rfl, b1⟩
    have R := hid (B0.out.on b1).bel
    clear PA IX B0 b1
    go_wp2_with fail
    go_ret
    exact ⟨rfl, R.out⟩

set_option maxRecDepth 100000 in
theorem takes_any (V : Int) (x : Bool) (n : Int) (s : ByteArray) (w : World) :
    Calls Tryz.prog 95 #[.int .u8 V, .agg #[.bool x, .int .u64 n, .string s]] w fun e w' => e = .returned (.bool (decide (V = 99) || (x == decide (V = 115)))) ∧ Below w.heap.size w w' := by
  have R := hid (alloc_b w (.cells #[.bool x, .int .u64 n, .string s] 146))
  by_cases h : V = 99
  · subst h
    go_enter Tryz.func95, Tryz.ntmps95
    go_wp2_with fail
    go_ret
    exact ⟨rfl, R.out⟩
  · have h1 : (V == 99) = false := by simpa using h
    rw [decide_eq_false h, Bool.false_or]
    by_cases k : V = 115
    · subst k
      cases x <;> (go_enter Tryz.func95, Tryz.ntmps95; go_wp2_with fail; go_ret; exact ⟨rfl, R.out⟩)
    · have h2 : (V == 115) = false := by simpa using k
      rw [decide_eq_false k]
      clear h k
      cases x <;> (go_enter Tryz.func95, Tryz.ntmps95; go_wp2_with fail; go_ret; exact ⟨rfl, R.out⟩)

end Go.Proofs.YtigmhnlcmhpepaaGreatDoor

namespace Go.Proofs.YtigmhnlcmhpepaaGreatDoor
open Go Go.RowKit Go.Deep Go.Shelf

/-- A Spec's box and an argument's behind it. -/
structure OB (w0 : World) (V F W P : Int) (x : Bool) (n : Int) (s : ByteArray) (wk : World) : Prop where
  bel : Below w0.heap.size w0 wk
  b1 : S4 wk w0.heap.size (.int .u8 V) (.int .i64 F) (.int .i64 W) (.int .i64 P)
  b2 : wk.heap[w0.heap.size + 1]? = some (.cells #[.bool x, .int .u64 n, .string s] 146 (0, 0))
theorem OB.new (w : World) (V F W P : Int) (x : Bool) (n : Int) (s : ByteArray) : OB w V F W P x n s ((w.alloc (.cells #[.int .u8 V, .int .i64 F, .int .i64 W, .int .i64 P] 141)).alloc (.cells #[.bool x, .int .u64 n, .string s] 146)) := by
  have B := SB.new w V F W P
  have A := alloc_b (w.alloc (.cells #[.int .u8 V, .int .i64 F, .int .i64 W, .int .i64 P] 141)) (.cells #[.bool x, .int .u64 n, .string s] 146)
  refine ⟨below_on B.bel A, B.box.below A, ?_⟩
  have := heap_alloc_new (w.alloc (.cells #[.int .u8 V, .int .i64 F, .int .i64 W, .int .i64 P] 141)) (.cells #[.bool x, .int .u64 n, .string s] 146)
  rwa [World.size_alloc] at this
theorem OB.on {w0 wk w' : World} {V F W P : Int} {x : Bool} {n : Int} {s : ByteArray} (h : OB w0 V F W P x n s wk) (k : Below wk.heap.size wk w') : OB w0 V F W P x n s w' := by
  have hl : w0.heap.size + 1 < wk.heap.size := by
    rcases Nat.lt_or_ge (w0.heap.size + 1) wk.heap.size with q | q
    · exact q
    · have := h.b2; rw [Array.getElem?_eq_none q] at this; cases this
  exact ⟨below_on h.bel k, h.b1.below k, by rw [k.block _ hl]; exact h.b2⟩
theorem OB.flat {w0 wk : World} {V F W P : Int} {x : Bool} {n : Int} {s : ByteArray} (h : OB w0 V F W P x n s wk) :
    (wk.cell? ⟨w0.heap.size, 0, none⟩ = some (.int .u8 V) ∧ wk.cell? ⟨w0.heap.size, 1, none⟩ = some (.int .i64 F) ∧ wk.cell? ⟨w0.heap.size, 2, none⟩ = some (.int .i64 W) ∧ wk.cell? ⟨w0.heap.size, 3, none⟩ = some (.int .i64 P)) ∧
    (wk.cell? ⟨w0.heap.size + 1, 0, none⟩ = some (.bool x) ∧ wk.cell? ⟨w0.heap.size + 1, 1, none⟩ = some (.int .u64 n) ∧ wk.cell? ⟨w0.heap.size + 1, 2, none⟩ = some (.string s)) := by
  refine ⟨h.b1.cells.1, ?_, ?_, ?_⟩ <;> rw [Lib.cell_of_heap h.b2] <;> rfl

end Go.Proofs.YtigmhnlcmhpepaaGreatDoor

namespace Go.Proofs.YtigmhnlcmhpepaaGreatDoor
open Go Go.RowKit Go.Deep Go.Shelf

theorem pvs_in {V : Int} (h : 0 ≤ Dr.idx Dr.pvs V) : V = 101 ∨ V = 69 ∨ V = 102 ∨ V = 70 ∨ V = 103 ∨ V = 71 := by
  rcases Dr.idx_cons h with q | q
  · exact .inl q
  · rcases Dr.idx_cons q with q | q
    · exact .inr (.inl q)
    · rcases Dr.idx_cons q with q | q
      · exact .inr (.inr (.inl q))
      · rcases Dr.idx_cons q with q | q
        · exact .inr (.inr (.inr (.inl q)))
        · rcases Dr.idx_cons q with q | q
          · exact .inr (.inr (.inr (.inr (.inl q))))
          · rcases Dr.idx_cons q with q | q
            · exact .inr (.inr (.inr (.inr (.inr q))))
            · simp [Dr.idx] at q

set_option maxRecDepth 100000 in
set_option maxHeartbeats 2000000 in
theorem vone_any (V F W P d : Int) (w : World) (hT : Tab w) (hv : 0 ≤ Dr.idx Dr.pvs V) (hc : Wh.chk F W P = 0) (h0 : 0 ≤ d) (h1 : d < 18446744073709551616) :
    Calls Tryz.prog 72 #[.agg #[.int .u8 V, .int .i64 F, .int .i64 W, .int .i64 P], .agg #[.bool false, .int .u64 d, .string ⟨#[]⟩]] w fun e w' => e = .returned (.tuple #[.string (strOfNums (Po.ren V F W P d)), .int .i64 0]) ∧ Below w.heap.size w w' := by
  have VC := pvs_in hv
  have vb : 0 ≤ V ∧ V < 256 := by rcases VC with z | z | z | z | z | z <;> omega
  have iv : ¬ Dr.idx Dr.verbs V < 0 := by rcases VC with rfl | rfl | rfl | rfl | rfl | rfl <;> decide
  have n9 : V ≠ 99 := by rcases VC with z | z | z | z | z | z <;> omega
  have n1 : V ≠ 115 := by rcases VC with z | z | z | z | z | z <;> omega
  have iw : Dr.idx [100, 105, 111, 117, 120, 88] V < 0 := by rcases VC with rfl | rfl | rfl | rfl | rfl | rfl <;> decide
  have okv : Po.okV V = true := decide_eq_true VC
  have CK : Hid (∀ wk, Calls Tryz.prog 94 #[.agg #[.int .u8 V, .int .i64 F, .int .i64 W, .int .i64 P]] wk fun e w' => e = .returned (.int .i64 0) ∧ Below wk.heap.size wk w') := fun wk => by
    have q := rcheck_any V F W P wk vb.1 vb.2
    rw [if_neg iv, hc] at q
    exact q
  have TK : Hid (∀ wk, Calls Tryz.prog 95 #[.int .u8 V, .agg #[.bool false, .int .u64 d, .string ⟨#[]⟩]] wk fun e w' => e = .returned (.bool true) ∧ Below wk.heap.size wk w') := fun wk => by
    have q := takes_any V false d ⟨#[]⟩ wk
    rw [decide_eq_false n9, decide_eq_false n1] at q
    exact q
  have IX := hid (fun wk => idx_any ⟨#[100, 105, 111, 117, 120, 88]⟩ [100, 105, 111, 117, 120, 88] V wk rfl vb.1 vb.2)
  have RE : Hid (∀ wk, Tab wk → Calls Tryz.prog 100 #[.agg #[.int .u8 V, .int .i64 F, .int .i64 W, .int .i64 P], .int .u64 d] wk fun e w' => e = .returned (.tuple #[.string (strOfNums (Po.ren V F W P d)), .int .i64 0]) ∧ Below wk.heap.size wk w') := fun wk h => by
    have q := render_any V F W P d wk h vb.1 vb.2 h0 h1
    have e : Po.renE V F W P = 0 := by rw [Po.renE, if_pos okv, hc]
    simp only [RenTold, e] at q
    exact q
  have B0 := hid (OB.new w V F W P false d ⟨#[]⟩)
  have HT := hid hT
  have e9 : (V == 99) = false := by simpa using n9
  have e1 : (V == 115) = false := by simpa using n1
  clear hv hc h0 h1 VC vb iv n9 n1 okv hT
  generalize Dr.idx [100, 105, 111, 117, 120, 88] V = ix at *
  generalize strOfNums (Po.ren V F W P d) = S at *
  go_enter Tryz.func72, Tryz.ntmps72
  go_upto_region 1 with fail
  generalize (w.alloc (.cells #[.int .u8 V, .int .i64 F, .int .i64 W, .int .i64 P] 141)).alloc (.cells #[.bool false, .int .u64 d, .string ⟨#[]⟩] 146) = wA at *
  obtain ⟨⟨c0, c1, c2, c3⟩, d0, d1, d2⟩ := B0.out.flat
  go_wp2_with fail
  with_reducible refine (CK.out _).mono ?_
  rintro e w1 ⟨rfl, b1⟩
  have B1 := hid (B0.out.on b1)
  clear b1 B0 CK c0 c1 c2 c3 d0 d1 d2
  obtain ⟨⟨c0, c1, c2, c3⟩, d0, d1, d2⟩ := B1.out.flat
  go_wp2_with fail
  with_reducible refine (TK.out _).mono ?_
  rintro e w2 ⟨rfl, b2⟩
  have B2 := hid (B1.out.on b2)
  clear b2 B1 TK c0 c1 c2 c3 d0 d1 d2
  obtain ⟨⟨c0, c1, c2, c3⟩, d0, d1, d2⟩ := B2.out.flat
  go_wp2_with (go_at_call 91; refine (IX.out _).mono ?_; rintro e w3 ⟨rfl, hw3⟩; rw [hw3]; clear hw3 w3)
  with_reducible refine (RE.out _ (HT.out.below B2.out.bel)).mono ?_
  rintro e w4 ⟨rfl, b4⟩
  have F := hid (B2.out.on b4).bel
  clear b4 B2 RE c0 c1 c2 c3 d0 d1 d2
  go_wp2_with fail
  go_ret2
  exact ⟨rfl, F.out⟩

namespace Va
/-- A number by the one directive of a format. -/
noncomputable def bod (d : Int) (xs : List Int) : List Int := Po.ren (Dr.sgP xs).v (Dr.sgP xs).fl (Dr.sgP xs).wd (sP (Dr.sgP xs) 0) d
/-- What written tells. -/
noncomputable def wrE (d : Int) (xs : List Int) : Int := if ok d = true then 0 else if Dr.sgO xs = true then (if 16777216 < (Dr.sgA xs).length + (bod d xs).length + (Dr.sgB xs).length then 3 else 0) else 170
noncomputable def wrT (d : Int) (xs : List Int) : List Int := if ok d = true then tx d else if wrE d xs = 0 then Dr.sgA xs ++ bod d xs ++ Dr.sgB xs else []
end Va

theorem vstr_app {s t : ByteArray} {xs ys : List Int} (h : Str s xs) (k : Str t ys) : Str (s ++ t) (xs ++ ys) := by
  unfold Str at *
  rw [ByteArray.data_append, Array.toList_append, List.map_append, h, k]

theorem sg_of {xs : List Int} (h : Dr.sgO xs = true) : Dr.wants (Dr.prs xs).1 = 1 ∧ 0 ≤ Dr.idx Dr.pvs (Dr.sgP xs).v := by
  have q := of_decide_eq_true h
  exact q.2
theorem sg_len {xs : List Int} : (Dr.sgA xs).length ≤ xs.length ∧ (Dr.sgB xs).length ≤ xs.length := by
  have e := Dr.pl_prs _ xs (Nat.le_refl _)
  by_cases h : Dr.sgO xs = true
  · obtain ⟨a, b, _⟩ := Dr.sg_yes h
    rw [a, b]
    refine ⟨Nat.le_trans Dr.pl_le e, Nat.le_trans ?_ e⟩
    have k : Dr.pl (Dr.prs xs).1 = Dr.pl ((Dr.prs xs).1.take (Dr.fd (Dr.prs xs).1 + 1)) ++ Dr.pl ((Dr.prs xs).1.drop (Dr.fd (Dr.prs xs).1 + 1)) := by rw [← Dr.pl_app, List.take_append_drop]
    rw [k, List.length_append]; omega
  · obtain ⟨a, b, _⟩ := Dr.sg_no (by simpa using h)
    rw [a, b]; simp
theorem sg_by {s : ByteArray} {xs : List Int} (hs : Str s xs) : (∀ x ∈ Dr.sgA xs, 0 ≤ x ∧ x < 256) ∧ (∀ x ∈ Dr.sgB xs, 0 ≤ x ∧ x < 256) := by
  have W := pcw_prs hs
  by_cases h : Dr.sgO xs = true
  · obtain ⟨a, b, _⟩ := Dr.sg_yes h
    rw [a, b]
    exact ⟨Dr.pl_mem (fun p hp => (W p (List.mem_of_mem_take hp)).1), Dr.pl_mem (fun p hp => (W p (List.mem_of_mem_drop hp)).1)⟩
  · obtain ⟨a, b, _⟩ := Dr.sg_no (by simpa using h)
    rw [a, b]
    exact ⟨fun x hx => by simp at hx, fun x hx => by simp at hx⟩

set_option maxRecDepth 100000 in
set_option maxHeartbeats 2000000 in
theorem vwritten_any (d : Int) (s : ByteArray) (xs : List Int) (w : World) (hT : Tab w) (ht : Tab10 w) (h0 : 0 ≤ d) (h1 : d < 18446744073709551616) (hs : Str s xs) (hl : xs.length ≤ 16777216) :
    Calls Tryz.prog 49 #[.int .u64 d, .string s] w fun e w' => e = .returned (.tuple #[.string (strOfNums (Va.wrT d xs)), .int .i64 (Va.wrE d xs)]) ∧ Below w.heap.size w w' := by
  have IN := hid (vinteger_any d w h0 h1 ht)
  have SG := hid (fun W => dsingle_any s xs W hs hl)
  by_cases hk : Va.ok d = true
  · have F : Hid (Ending.returned (.tuple #[.string (strOfNums (Va.tx d)), .int .i64 0]) = Ending.returned (.tuple #[.string (strOfNums (Va.wrT d xs)), .int .i64 (Va.wrE d xs)])) := by rw [Hid, Va.wrT, Va.wrE, if_pos hk, if_pos hk]
    rw [hk] at IN
    clear hk h0 h1 hT ht hs hl SG
    generalize strOfNums (Va.tx d) = S at *
    go_enter Tryz.func49, Tryz.ntmps49
    go_wp2_with fail
    refine IN.out.mono ?_
    rintro e w1 ⟨rfl, b1⟩
    have B := hid b1
    clear b1 IN
    go_wp2_with fail
    go_ret2
    exact ⟨F.out, B.out⟩
  have hf : Va.ok d = false := by simpa using hk
  rw [hf] at IN
  by_cases hO : Dr.sgO xs = true
  · obtain ⟨y1, y2⟩ := sg_of hO
    obtain ⟨z1, z2, z3, z4, z5⟩ := Dr.sg_one y1
    have sy := Dr.sg_yes hO
    have wb := Dr.num_bd z2.2.2.2.2.1 (by omega)
    have pb := Dr.num_bd z2.2.2.2.2.2 (by omega)
    have sv : Dr.sgS xs = #[.int .u8 (Dr.sgP xs).v, .int .i64 (Dr.sgP xs).fl, .int .i64 (Dr.sgP xs).wd, .int .i64 (sP (Dr.sgP xs) 0)] := by
      rw [sy.2.2, spv, if_pos z5]
      have e : sW (Dr.sgP xs) 0 = (Dr.sgP xs).wd := if_neg z3
      rw [e, if_neg (by omega), if_neg (by omega)]
    have ck : Wh.chk (Dr.sgP xs).fl (Dr.sgP xs).wd (sP (Dr.sgP xs) 0) = 0 := by
      have f0 := z2.2.2.1
      have f1 := z2.2.2.2.1
      have p1 : -1 ≤ sP (Dr.sgP xs) 0 ∧ sP (Dr.sgP xs) 0 ≤ 4096 := by
        unfold sP
        rw [if_neg z4]
        split <;> omega
      unfold Wh.chk
      rw [if_neg (by omega), if_neg (by omega)]
    have SG1 : Hid (∀ W, Calls Tryz.prog 71 #[.string s] W fun e w' => e = .returned (.tuple #[.string (strOfNums (Dr.sgA xs)), .agg #[.int .u8 (Dr.sgP xs).v, .int .i64 (Dr.sgP xs).fl, .int .i64 (Dr.sgP xs).wd, .int .i64 (sP (Dr.sgP xs) 0)], .string (strOfNums (Dr.sgB xs)), .bool true]) ∧ Below W.heap.size W w') := fun W => by
      have q := SG.out W
      simp only [SgTold, sv, hO] at q
      exact q
    have ON : Hid (∀ W, Below w.heap.size w W → Calls Tryz.prog 72 #[.agg #[.int .u8 (Dr.sgP xs).v, .int .i64 (Dr.sgP xs).fl, .int .i64 (Dr.sgP xs).wd, .int .i64 (sP (Dr.sgP xs) 0)], .agg #[.bool false, .int .u64 d, .string ⟨#[]⟩]] W fun e w' => e = .returned (.tuple #[.string (strOfNums (Va.bod d xs)), .int .i64 0]) ∧ Below W.heap.size W w') := fun W h => vone_any _ _ _ _ d W (hT.below h) y2 ck h0 h1
    have RL := Po.ren_len (V := (Dr.sgP xs).v) (F := (Dr.sgP xs).fl) (W := (Dr.sgP xs).wd) (P := sP (Dr.sgP xs) 0) (d := d)
    have bl : (Va.bod d xs).length ≤ 30000 := RL.1
    have SA := Str.of_nums (sg_by hs).1
    have SB := Str.of_nums (sg_by hs).2
    have SC : Str (strOfNums (Va.bod d xs)) (Va.bod d xs) := Str.of_nums RL.2
    have la := SA.size
    have lb := SB.size
    have lc := SC.size
    have ll := sg_len (xs := xs)
    have CAT := vstr_app (vstr_app SA SC) SB
    have AP : strOfNums (Dr.sgA xs) ++ strOfNums (Va.bod d xs) ++ strOfNums (Dr.sgB xs) = strOfNums (Dr.sgA xs ++ Va.bod d xs ++ Dr.sgB xs) := str_of CAT
    have C1 : ∀ wx, (Op.stringOp .add (strOfNums (Dr.sgA xs)) (strOfNums (Va.bod d xs))).run Tryz.prog wx = .ok (.string (strOfNums (Dr.sgA xs) ++ strOfNums (Va.bod d xs))) wx := fun wx => run_string_add_sum wx _ _ (by omega)
    have C2 : ∀ wx, (Op.stringOp .add (strOfNums (Dr.sgA xs) ++ strOfNums (Va.bod d xs)) (strOfNums (Dr.sgB xs))).run Tryz.prog wx = .ok (.string (strOfNums (Dr.sgA xs ++ Va.bod d xs ++ Dr.sgB xs))) wx := fun wx => by rw [← AP]; exact run_string_add_sum wx _ _ (by rw [(vstr_app SA SC).size, List.length_append]; omega)
    obtain ⟨la1, hla⟩ : ∃ n : Nat, (strOfNums (Dr.sgA xs)).size = n := ⟨_, rfl⟩
    obtain ⟨lb1, hlb⟩ : ∃ n : Nat, (strOfNums (Dr.sgB xs)).size = n := ⟨_, rfl⟩
    obtain ⟨lc1, hlc⟩ : ∃ n : Nat, (strOfNums (Va.bod d xs)).size = n := ⟨_, rfl⟩
    have KE : Hid (Va.wrE d xs = if 16777216 < la1 + lc1 + lb1 then 3 else 0) := by
      rw [Hid, Va.wrE, if_neg hk, if_pos hO, ← hla, ← hlb, ← hlc, la, lb, lc]
    have KT : Hid (Va.wrT d xs = if Va.wrE d xs = 0 then Dr.sgA xs ++ Va.bod d xs ++ Dr.sgB xs else []) := by rw [Hid, Va.wrT, if_neg hk]
    have ia : (la1 : Int) ≤ 16777216 := by omega
    have ib : (lb1 : Int) ≤ 16777216 := by omega
    have ic : (lc1 : Int) ≤ 30000 := by omega
    clear y1 y2 z1 z2 z3 z4 z5 sy wb pb sv ck RL bl la lb lc ll CAT AP SA SB SC SG hO hf hk h0 h1 hT ht hs hl
    generalize strOfNums (Va.tx d) = S0 at *
    generalize (Dr.sgP xs).v = V at *
    generalize (Dr.sgP xs).fl = F at *
    generalize (Dr.sgP xs).wd = Wd at *
    generalize sP (Dr.sgP xs) 0 = P at *
    go_enter Tryz.func49, Tryz.ntmps49
    go_wp2_with fail
    refine IN.out.mono ?_
    rintro e w1 ⟨rfl, b1⟩
    have B1 := hid b1
    clear b1 IN
    go_wp2_with fail
    refine (SG1.out _).mono ?_
    rintro e w2 ⟨rfl, b2⟩
    have aX := alloc_b w2 (.cells #[.int .u8 V, .int .i64 F, .int .i64 Wd, .int .i64 P] 141)
    have B2 := hid (below_on (below_on B1.out b2) aX)
    have X2 := hid (S4.new w2 (.int .u8 V) (.int .i64 F) (.int .i64 Wd) (.int .i64 P))
    clear b2 aX B1 SG1
    go_upto_region 7 with fail
    generalize w2.alloc (.cells #[.int .u8 V, .int .i64 F, .int .i64 Wd, .int .i64 P] 141) = w3 at *
    obtain ⟨⟨c0, c1, c2, c3⟩, -⟩ := X2.out.cells
    go_wp2_with fail
    refine (ON.out _ B2.out).mono ?_
    rintro e w4 ⟨rfl, b4⟩
    have B4 := hid (below_on B2.out b4)
    clear b4 B2 ON X2 c0 c1 c2 c3
    by_cases hlong : 16777216 < la1 + lc1 + lb1
    · have hli : (16777216 : Int) < (la1 : Int) + (lc1 : Int) + (lb1 : Int) := by omega
      have F : Hid (Ending.returned (.tuple #[.string ⟨#[]⟩, .int .i64 3]) = Ending.returned (.tuple #[.string (strOfNums (Va.wrT d xs)), .int .i64 (Va.wrE d xs)])) := by
        show _ = _
        rw [KT.out, KE.out, if_pos hlong]; rfl
      clear KT KE C1 C2 hlong
      go_wp2_with fail
      go_ret2
      exact ⟨F.out, B4.out⟩
    · have hli : ¬ (16777216 : Int) < (la1 : Int) + (lc1 : Int) + (lb1 : Int) := by omega
      have F : Hid (Ending.returned (.tuple #[.string (strOfNums (Dr.sgA xs ++ Va.bod d xs ++ Dr.sgB xs)), .int .i64 0]) = Ending.returned (.tuple #[.string (strOfNums (Va.wrT d xs)), .int .i64 (Va.wrE d xs)])) := by
        show _ = _
        rw [KT.out, KE.out, if_neg hlong]; rfl
      clear KT KE hlong
      generalize strOfNums (Dr.sgA xs ++ Va.bod d xs ++ Dr.sgB xs) = S4 at *
      generalize strOfNums (Dr.sgA xs) = S1 at *
      generalize strOfNums (Dr.sgB xs) = S2 at *
      generalize strOfNums (Va.bod d xs) = S3 at *
      go_wp2_with fail
      go_ret2
      exact ⟨F.out, B4.out⟩
  · have hof : Dr.sgO xs = false := by simpa using hO
    have F : Hid (Ending.returned (.tuple #[.string ⟨#[]⟩, .int .i64 170]) = Ending.returned (.tuple #[.string (strOfNums (Va.wrT d xs)), .int .i64 (Va.wrE d xs)])) := by
      show _ = _
      have e : Va.wrE d xs = 170 := by rw [Va.wrE, if_neg hk, if_neg hO]
      rw [Va.wrT, if_neg hk, e]; rfl
    have SG1 : Hid (∀ W, Calls Tryz.prog 71 #[.string s] W fun e w' => e = .returned (.tuple #[.string ⟨#[]⟩, .agg #[.int .u8 0, .int .i64 0, .int .i64 0, .int .i64 0], .string ⟨#[]⟩, .bool false]) ∧ Below W.heap.size W w') := fun W => by
      have q := SG.out W
      obtain ⟨n1, n2, n3⟩ := Dr.sg_no hof
      simp only [SgTold, n1, n2, n3, hof] at q
      exact q
    clear SG hO hof hf hk h0 h1 hT ht hs hl
    generalize strOfNums (Va.tx d) = S0 at *
    go_enter Tryz.func49, Tryz.ntmps49
    go_wp2_with fail
    refine IN.out.mono ?_
    rintro e w1 ⟨rfl, b1⟩
    have B1 := hid b1
    clear b1 IN
    go_wp2_with fail
    refine (SG1.out _).mono ?_
    rintro e w2 ⟨rfl, b2⟩
    have B2 := hid (below_on (below_on B1.out b2) (alloc_b w2 (.cells #[.int .u8 0, .int .i64 0, .int .i64 0, .int .i64 0] 141)))
    clear b2 B1 SG1
    go_wp2_with fail
    go_ret2
    exact ⟨F.out, B2.out⟩
end Go.Proofs.YtigmhnlcmhpepaaGreatDoor
