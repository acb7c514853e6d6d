/-
  Texts put together: YRef7, YRef8, NearEx, ChPr, ChCn, ChMem.
-/
import Derived.Test.YtdemopkdcnaibaaGreatDoorRH
import Derived.Test.YtdemopkdcnaibaaGreatDoorRE
import Derived.Test.YtdemopkdcnaibaaGreatDoorRD
import Derived.Test.YtdemopkdcnaibaaGreatDoorRG
import Derived.Test.YtdemopkdcnaibaaGreatDoorRC
import Derived.Test.YtdemopkdcnaibaaGreatDoorINum
import Derived.Test.YtdemopkdcnaibaaGreatDoorRF
import Derived.Laws.OwnMore
import Derived.OwnWalk
import Derived.Deep.LoopGhost
import Derived.Shelf.Vars
import Derived.Shelf.Pu.Clone
namespace Go.Proofs.YtdemopkdcnaibaaGreatDoor
open Go Go.RowKit Go.Deep

theorem Row4.far {w : World} {b t c o : Nat} {v v0 v1 v2 v3 : Value} (h : Row4 w b t v0 v1 v2 v3) (hc : c ≠ b) : Row4 (w.setCell ⟨c, o, none⟩ v) b t v0 v1 v2 v3 := by
  simp only [Row4] at *
  simp only [World.setCell, Array.getElem?_modify]
  rw [if_neg hc]; exact h

theorem set_arg {w : World} {b o : Nat} {v : Value} {p : Option Addr} {n c : Nat} {zs : List Int} (a : Arg w p n c zs) (hp : ∀ x, p = some x → x.block ≠ b) : Arg (w.setCell ⟨b, o, none⟩ v) p n c zs :=
  ⟨a.1, a.2.1, a.2.2.1, a.2.2.2.1.set hp, a.2.2.2.2⟩

/-- The two numbers, the room, and the number that is being made at g. -/
def S4 (w wx : World) (g : Nat) (x0 x1 x2 x3 y0 y1 y2 y3 o0 o1 o2 o3 : Value) : Prop := R3B w wx x0 x1 x2 x3 y0 y1 y2 y3 ∧ Row4 wx g 83 o0 o1 o2 o3 ∧ w.heap.size + 1 + 1 < g
theorem S4.new {w wx : World} {x0 x1 x2 x3 y0 y1 y2 y3 : Value} (h : R3B w wx x0 x1 x2 x3 y0 y1 y2 y3) (o0 o1 o2 o3 : Value) : S4 w (wx.alloc (.cells #[o0, o1, o2, o3] 83)) wx.heap.size x0 x1 x2 x3 y0 y1 y2 y3 o0 o1 o2 o3 := ⟨h.on (alloc_b _ _), Row4.new _ _ _ _ _ _, h.2.2.2.lt⟩
theorem S4.on {w wx wy : World} {g : Nat} {x0 x1 x2 x3 y0 y1 y2 y3 o0 o1 o2 o3 : Value} (h : S4 w wx g x0 x1 x2 x3 y0 y1 y2 y3 o0 o1 o2 o3) (k : Below wx.heap.size wx wy) : S4 w wy g x0 x1 x2 x3 y0 y1 y2 y3 o0 o1 o2 o3 := ⟨h.1.on k, h.2.1.below k h.2.1.lt, h.2.2⟩
theorem S4.lt {w wx : World} {g : Nat} {x0 x1 x2 x3 y0 y1 y2 y3 o0 o1 o2 o3 : Value} (h : S4 w wx g x0 x1 x2 x3 y0 y1 y2 y3 o0 o1 o2 o3) : g + 1 ≤ wx.heap.size := h.2.1.lt
theorem S4.far {w wx : World} {g o : Nat} {v : Value} {x0 x1 x2 x3 y0 y1 y2 y3 o0 o1 o2 o3 : Value} (h : S4 w wx g x0 x1 x2 x3 y0 y1 y2 y3 o0 o1 o2 o3) : R3B w (wx.setCell ⟨g, o, none⟩ v) x0 x1 x2 x3 y0 y1 y2 y3 := by
  have hg := h.2.2
  exact ⟨h.1.1.setCell (p := ⟨g, o, none⟩) (by simp only; omega) v, h.1.2.1.far (by omega), h.1.2.2.1.far (by omega), h.1.2.2.2.far (by omega)⟩
theorem S4.num {w wx : World} {g : Nat} {x0 x1 x2 x3 y0 y1 y2 y3 o0 o1 o2 o3 : Value} (h : S4 w wx g x0 x1 x2 x3 y0 y1 y2 y3 o0 o1 o2 o3) (v : Value) : S4 w (wx.setCell ⟨g, 1, none⟩ v) g x0 x1 x2 x3 y0 y1 y2 y3 o0 v o2 o3 := ⟨h.far, set1 h.2.1 (by simp [Array.setIfInBounds]), h.2.2⟩
theorem S4.sign {w wx : World} {g : Nat} {x0 x1 x2 x3 y0 y1 y2 y3 o0 o1 o2 o3 : Value} (h : S4 w wx g x0 x1 x2 x3 y0 y1 y2 y3 o0 o1 o2 o3) (v : Value) : S4 w (wx.setCell ⟨g, 0, none⟩ v) g x0 x1 x2 x3 y0 y1 y2 y3 v o1 o2 o3 := ⟨h.far, set1 h.2.1 (by simp [Array.setIfInBounds]), h.2.2⟩

theorem lift_lt {V : Int} {k : Nat} (h0 : 0 ≤ V) (h : V < 1298074214633706907132624082305024) (hk : k ≤ 4200) : 0 ≤ V * 2 ^ k ∧ V * 2 ^ k < 2 ^ 4310 := by
  refine ⟨Int.mul_nonneg h0 (Int.le_of_lt (Nm.two_pos k)), ?_⟩
  have h1 : V * 2 ^ k < 1298074214633706907132624082305024 * 2 ^ k := Int.mul_lt_mul_of_pos_right h (Nm.two_pos k)
  have h2 : (1298074214633706907132624082305024 : Int) * 2 ^ k = 2 ^ (110 + k) := by rw [Nm.two_add]; congr 1
  have h3 := Nm.two_mono (show 110 + k ≤ 4310 by omega)
  omega

theorem two_big {x : Int} (h : x < 2 ^ 4310 + 2 ^ 4310) : x < 2 ^ 4400 ∧ x < 2 ^ 5000 := by
  have e : (2 : Int) ^ 4311 = 2 * 2 ^ 4310 := Nm.two_succ 4310
  have h1 := Nm.two_mono (show 4311 ≤ 4400 by omega)
  have h2 := Nm.two_mono (show 4311 ≤ 5000 by omega)
  generalize (2 : Int) ^ 4310 = P at *
  generalize (2 : Int) ^ 4311 = Q at *
  generalize (2 : Int) ^ 4400 = R at *
  generalize (2 : Int) ^ 5000 = S at *
  omega

set_option maxRecDepth 100000 in
set_option maxHeartbeats 16000000 in
theorem ysum_some {B : Nat} {w : World} {vx vy : Value} {n1 n2 : Bool} {V1 V2 e1 e2 : Int} (hx : RN B w vx n1 V1 1 e1) (hy : RN B w vy n2 V2 1 e2) (hB0 : B ≤ w.heap.size) (a1 : V1 < 1298074214633706907132624082305024) (b1 : V2 < 1298074214633706907132624082305024) (f0 : -2200 ≤ e1) (f1 : e1 ≤ 2000) (f2 : -2200 ≤ e2) (f3 : e2 ≤ 2000) (hz : ¬ (V1 = 0 ∧ V2 = 0)) :
    Calls Tryz.prog 70 #[vx, vy] w fun r w' => SumTold5 B n1 V1 e1 n2 V2 e2 w r w' := by
  have HX := hid hx
  have HY := hid hy
  obtain ⟨p, n, c, q, m, d, zs, ys, rfl, h2, h3, h4, h5, h6, h7, h8, h9⟩ := hx
  obtain ⟨p', n', c', q', m', d', zs', ys', rfl, k2, k3, k4, _⟩ := hy
  have Z := hid (R3B.new w (.bool n1) (.slice p n c) (.slice q m d) (.int .i64 e1) (.bool n2) (.slice p' n' c') (.slice q' m' d') (.int .i64 e2))
  have NX := hid (fun wx (b : Below w.heap.size w wx) => ynone_any (HX.out.on b))
  have NY := hid (fun wx (b : Below w.heap.size w wx) => ynone_any (HY.out.on b))
  have Q5 := hid (And.intro h5 (And.intro h6 (And.intro h7 h9)))
  have v0 : 0 ≤ V1 := by rw [← h3]; exact (Nm.val_bd zs h2.2.2.2.2).1
  have w0 : 0 ≤ V2 := by rw [← k3]; exact (Nm.val_bd zs' k2.2.2.2.2).1
  obtain ⟨M, hM⟩ : ∃ M, min e1 e2 = M := ⟨_, rfl⟩
  obtain ⟨i1, hi1⟩ : ∃ k : Nat, (k : Int) = e1 - M := ⟨(e1 - M).toNat, by omega⟩
  obtain ⟨i2, hi2⟩ : ∃ k : Nat, (k : Int) = e2 - M := ⟨(e2 - M).toNat, by omega⟩
  obtain ⟨A, hA⟩ : ∃ A, V1 * 2 ^ i1 = A := ⟨_, rfl⟩
  obtain ⟨C, hC⟩ : ∃ C, V2 * 2 ^ i2 = C := ⟨_, rfl⟩
  have bA := lift_lt v0 a1 (show i1 ≤ 4200 by omega)
  have bC := lift_lt w0 b1 (show i2 ≤ 4200 by omega)
  rw [hA] at bA
  rw [hC] at bC
  have LX : Hid (∀ wx kk, kk = (i1 : Int) → Below w.heap.size w wx → Calls Tryz.prog 75 #[.slice p n c, .int .i64 kk] wx fun e w' => ∃ r os, e = .returned (.slice r (List.length os) (List.length os)) ∧ Ans wx.heap.size w' r os A ∧ Below wx.heap.size wx w') := fun wx kk hk b => by
    have h := lift_any p n c zs kk i1 wx (h2.below b (Nat.le_refl _)) (by omega) hk (by omega)
    rw [h3, hA] at h
    exact h
  have LY : Hid (∀ wx kk, kk = (i2 : Int) → Below w.heap.size w wx → Calls Tryz.prog 75 #[.slice p' n' c', .int .i64 kk] wx fun e w' => ∃ r os, e = .returned (.slice r (List.length os) (List.length os)) ∧ Ans wx.heap.size w' r os C ∧ Below wx.heap.size wx w') := fun wx kk hk b => by
    have h := lift_any p' n' c' zs' kk i2 wx (k2.below b (Nat.le_refl _)) (by omega) hk (by omega)
    rw [k3, hC] at h
    exact h
  have BD : Hid (A < 2 ^ 4400 ∧ C < 2 ^ 4400 ∧ A + C < 2 ^ 4400 ∧ A - C < 2 ^ 4400 ∧ C - A < 2 ^ 4400) := by
    have P := Nm.two_pos 4310
    refine ⟨(two_big ?_).1, (two_big ?_).1, (two_big ?_).1, (two_big ?_).1, (two_big ?_).1⟩ <;> (generalize (2 : Int) ^ 4310 = X at *; omega)
  have at_ : ∀ {neg : Bool} {V : Int}, Ie.sn neg V = Ie.sn n1 A + Ie.sn n2 C → (V = 0 → neg = (n1 && n2)) → 0 ≤ V → V < 2 ^ 4310 + 2 ^ 4310 → Ie.SumIs n1 V1 e1 n2 V2 e2 neg V M := fun h h0 v0 v1 => Ie.sum_at hM hi1 hi2 (by rw [hA, hC]; exact h) h0 v0 (two_big v1).2
  have SP : Hid ((n1 == n2) = true → Ie.SumIs n1 V1 e1 n2 V2 e2 n1 (A + C) M) := fun he => by
    obtain rfl : n1 = n2 := by simpa using he
    refine at_ ?_ (fun _ => by cases n1 <;> rfl) (by omega) (by generalize (2 : Int) ^ 4310 = X at *; omega)
    cases n1 <;> simp only [Ie.sn, Bool.false_eq_true, if_true, if_false] <;> omega
  have SG : Hid ((n1 == n2) = false → C < A → Ie.SumIs n1 V1 e1 n2 V2 e2 n1 (A - C) M) := fun he hl => by
    refine at_ ?_ (fun h => by omega) (by omega) (by generalize (2 : Int) ^ 4310 = X at *; omega)
    cases n1 <;> cases n2 <;> simp only [Ie.sn, Bool.false_eq_true, if_true, if_false] <;> first | (simp at he; done) | omega
  have SL : Hid ((n1 == n2) = false → A < C → Ie.SumIs n1 V1 e1 n2 V2 e2 n2 (C - A) M) := fun he hl => by
    refine at_ ?_ (fun h => by omega) (by omega) (by generalize (2 : Int) ^ 4310 = X at *; omega)
    cases n1 <;> cases n2 <;> simp only [Ie.sn, Bool.false_eq_true, if_true, if_false] <;> first | (simp at he; done) | omega
  have SE : Hid ((n1 == n2) = false → A = C → Ie.SumIs n1 V1 e1 n2 V2 e2 false 0 M) := fun he hl => by
    refine at_ ?_ (fun _ => by cases n1 <;> cases n2 <;> simp at he ⊢) (by omega) (by have := Nm.two_pos 4310; generalize (2 : Int) ^ 4310 = X at *; omega)
    cases n1 <;> cases n2 <;> simp only [Ie.sn, Bool.false_eq_true, if_true, if_false] <;> first | (simp at he; done) | omega
  have HB0 := hid hB0
  have D1 : V1 = 0 → decide (V2 = 0) = false := fun h => decide_eq_false fun k => hz ⟨h, k⟩
  clear h2 h3 h4 h5 h6 h7 h8 h9 k2 k3 k4 v0 w0 a1 b1 hA hC bA bC HX HY hB0 hz at_
  by_cases hz1 : V1 = 0
  · rw [decide_eq_true hz1] at NX
    rw [D1 hz1] at NY
    clear D1 hz1
    by_cases hle : e2 < e1
    · obtain rfl : M = e2 := by omega
      clear hM
      go_enter Tryz.func70, Tryz.ntmps70
      go_upto_region 1 with fail
      generalize (((w.alloc (.cells #[.bool n1, .slice p n c, .slice q m d, .int .i64 e1] 83)).alloc (.cells #[.bool n2, .slice p' n' c', .slice q' m' d', .int .i64 M] 83)).alloc (.cells #[.bool false, .slice none 0 0, .slice none 0 0, .int .i64 0] 83)) = wz at *
      have zb := Z.out.1
      obtain ⟨⟨c0, c1, c2, c3⟩, d0, d1, d2, d3⟩ := Z.out.flat
      go_wp2_with fail
      with_reducible refine (NX.out _ zb).mono ?_
      rintro r w1 ⟨rfl, hB1⟩
      have Z1 := hid (Z.out.on hB1)
      clear zb hB1 Z NX c0 c1 c2 c3 d0 d1 d2 d3
      have z1 := Z1.out.1
      obtain ⟨⟨c0, c1, c2, c3⟩, d0, d1, d2, d3⟩ := Z1.out.flat
      go_wp2_with fail
      with_reducible refine (NY.out _ z1).mono ?_
      rintro r w2 ⟨rfl, hB2⟩
      have Z2 := hid (Z1.out.on hB2)
      clear z1 hB2 Z1 NY c0 c1 c2 c3 d0 d1 d2 d3
      obtain ⟨⟨c0, c1, c2, c3⟩, d0, d1, d2, d3⟩ := Z2.out.flat
      have zb := Z2.out.1
      go_wp2_with fail
      with_reducible refine (LX.out _ _ (by omega) zb).mono ?_
      rintro r w3 ⟨r1, os1, rfl, A1, hB3⟩
      have Z3 := hid (Z2.out.on hB3)
      have z3 := Z3.out.1
      have AA := hid A1
      clear zb hB3 A1 Z2 LX c0 c1 c2 c3 d0 d1 d2 d3
      obtain ⟨⟨c0, c1, c2, c3⟩, d0, d1, d2, d3⟩ := Z3.out.flat
      go_wp2_with fail
      with_reducible refine (LY.out _ _ (by omega) z3).mono ?_
      rintro r w4 ⟨r2, os2, rfl, A2, hB4⟩
      have Z4 := hid (Z3.out.on hB4)
      have TX := hid ((AA.out.below hB4 (Nat.le_refl _)).tl (K := 4400) BD.out.1 (by omega))
      have TY := hid (A2.tl (K := 4400) BD.out.2.1 (by omega))
      have AX := hid ((AA.out.below hB4 (Nat.le_refl _)).arg (by have := TX.out.2.1; omega))
      have AY := hid (A2.arg (by have := TY.out.2.1; omega))
      have VX : Hid (Nm.val os1 = A) := AA.out.2.2.2.1
      have VY : Hid (Nm.val os2 = C) := A2.2.2.2.1
      clear z3 hB4 A2 Z3 LY AA c0 c1 c2 c3 d0 d1 d2 d3
      obtain ⟨⟨c0, c1, c2, c3⟩, d0, d1, d2, d3⟩ := Z4.out.flat
      go_upto_region 9 with fail
      have S5 := hid (S4.new Z4.out (.bool n1) (.slice none 0 0) (.slice q m d) (.int .i64 M))
      have B5 := hid (alloc_b w4 (.cells #[.bool n1, .slice none 0 0, .slice q m d, .int .i64 M] 83))
      generalize hW : w4.alloc (.cells #[.bool n1, .slice none 0 0, .slice q m d, .int .i64 M] 83) = w5 at *
      clear hW c0 c1 c2 c3 d0 d1 d2 d3 Z4
      have CM := hid (refCmp_any r1 r2 _ _ _ _ os1 os2 w5 (AX.out.below B5.out (Nat.le_refl _)) (AY.out.below B5.out (Nat.le_refl _)))
      rw [VX.out, VY.out] at CM
      obtain ⟨⟨c0, c1, c2, c3⟩, d0, d1, d2, d3⟩ := S5.out.1.flat
      obtain ⟨s, hs⟩ : ∃ s, cmpI A C = s := ⟨_, rfl⟩
      rw [hs] at CM
      have HSS := hid hs
      clear hs
      go_wp2_with fail
      with_reducible refine CM.out.mono ?_
      rintro r w6 ⟨rfl, hB6⟩
      have S6 := hid (S5.out.on hB6)
      have B6 := hid (bel B5.out hB6)
      clear hB6 S5 B5 CM c0 c1 c2 c3 d0 d1 d2 d3
      obtain ⟨⟨c0, c1, c2, c3⟩, d0, d1, d2, d3⟩ := S6.out.1.flat
      cases he : (n1 == n2) with
      | true =>
        have SI := hid (SP.out he)
        have PL := hid (plus_any r1 r2 _ _ _ _ os1 os2 w6 (AX.out.below B6.out (Nat.le_refl _)) (AY.out.below B6.out (Nat.le_refl _)) (by have := TX.out.1; omega) (by have := TY.out.1; omega))
        rw [VX.out, VY.out] at PL
        clear SP SG SL SE HSS AX AY VX VY TX TY
        go_wp2_with fail
        with_reducible refine PL.out.mono ?_
        rintro r w7 ⟨r7, os7, rfl, A7, hB7⟩
        clear PL
        have S7 := hid (S6.out.on hB7)
        have AR7 := hid (A7.arg (by have := (A7.tl (K := 4400) (BD.out.2.2.1) (by omega)).2.1; omega))
        have TS7 := hid (A7.tl (K := 4400) (BD.out.2.2.1) (by omega)).1
        have V7 := hid A7.2.2.2.1
        have L7 := hid (fun x hx => Nat.le_trans S6.out.lt (A7.2.2.2.2 x hx))
        clear A7 hB7 S6 c0 c1 c2 c3 d0 d1 d2 d3
        obtain ⟨⟨g0, g1, g2, g3⟩, k0, k1, k2, k3⟩ := S7.out.2.1.cells
        go_upto_region 18 with fail
        have S8 := hid (S7.out.num (.slice r7 (List.length os7) (List.length os7)))
        have AR8 := hid (set_arg (o := 1) (v := .slice r7 (List.length os7) (List.length os7)) AR7.out (fun x hx => Nat.ne_of_gt (L7.out x hx)))
        generalize hW : w7.setCell ⟨w4.heap.size, 1, none⟩ (.slice r7 (List.length os7) (List.length os7)) = w8 at *
        clear hW AR7 S7 g0 g1 g2 g3 k0 k1 k2 k3
        obtain ⟨⟨g0, g1, g2, g3⟩, -⟩ := S8.out.2.1.cells
        obtain ⟨⟨m0, m1, m2, m3⟩, o0, o1, o2, o3⟩ := S8.out.1.room
        go_wp2_with fail
        (try simp only [Exit.inBlock, Exit.then])
        refine bodyPost_ret (results_cell_row rfl _ _ (w.heap.size + 1 + 1) 83 _ (0, 0) _ rfl (S8.out.1.put _ _ _ _).1 Tryz.underlying83 rfl (by kernel_rfl)) rfl ?_
        exact ⟨_, n1, A + C, M, rfl, ⟨_, _, _, _, _, _, os7, ys, rfl, far_arg AR8.out (fun x hx => Nat.ne_of_gt (Nat.lt_trans S8.out.2.2 (L7.out x hx))), V7.out, TS7.out, Q5.out.1.below (S8.out.1.put _ _ _ _).2 (Nat.le_refl _), Q5.out.2.1, Q5.out.2.2.1, fun x hx => by have := L7.out x hx; have := S8.out.2.2; have := HB0.out; omega, Q5.out.2.2.2⟩, SI.out, (S8.out.1.put _ _ _ _).2⟩
      | false =>
        rcases Int.lt_trichotomy A C with hl | hl | hl
        · have SI := hid (SL.out he hl)
          have s1 : s = -1 := by rw [← HSS.out]; unfold cmpI; rw [if_pos hl]
          subst s1
          obtain ⟨⟨g0, g1, g2, g3⟩, k0, k1, k2, k3⟩ := S6.out.2.1.cells
          have LE : Hid (A ≤ C) := Int.le_of_lt hl
          clear SP SG SL SE HSS hl
          go_upto_region 11 with fail
          have SX := hid (S6.out.sign (.bool n2))
          have BX := hid (B6.out.setCell (p := ⟨w4.heap.size, 0, none⟩) (Nat.le_refl _) (.bool n2))
          generalize hW : w6.setCell ⟨w4.heap.size, 0, none⟩ (.bool n2) = w66 at *
          clear hW g0 g1 g2 g3 k0 k1 k2 k3 c0 c1 c2 c3 d0 d1 d2 d3 S6 B6
          have LS := hid (less_any r2 r1 _ _ _ _ os2 os1 w66 (AY.out.below BX.out (Nat.le_refl _)) (AX.out.below BX.out (Nat.le_refl _)) (by have := TY.out.1; omega) (by rw [VX.out, VY.out]; exact LE.out))
          rw [VX.out, VY.out] at LS
          clear AX AY VX VY TX TY LE
          obtain ⟨⟨c0, c1, c2, c3⟩, d0, d1, d2, d3⟩ := SX.out.1.flat
          go_wp2_with fail
          with_reducible refine LS.out.mono ?_
          rintro r w7 ⟨r7, os7, rfl, A7, hB7⟩
          clear LS
          have S7 := hid (SX.out.on hB7)
          have AR7 := hid (A7.arg (by have := (A7.tl (K := 4400) (BD.out.2.2.2.2) (by omega)).2.1; omega))
          have TS7 := hid (A7.tl (K := 4400) (BD.out.2.2.2.2) (by omega)).1
          have V7 := hid A7.2.2.2.1
          have L7 := hid (fun x hx => Nat.le_trans SX.out.lt (A7.2.2.2.2 x hx))
          clear A7 hB7 SX c0 c1 c2 c3 d0 d1 d2 d3
          obtain ⟨⟨g0, g1, g2, g3⟩, k0, k1, k2, k3⟩ := S7.out.2.1.cells
          go_upto_region 18 with fail
          have S8 := hid (S7.out.num (.slice r7 (List.length os7) (List.length os7)))
          have AR8 := hid (set_arg (o := 1) (v := .slice r7 (List.length os7) (List.length os7)) AR7.out (fun x hx => Nat.ne_of_gt (L7.out x hx)))
          generalize hW : w7.setCell ⟨w4.heap.size, 1, none⟩ (.slice r7 (List.length os7) (List.length os7)) = w8 at *
          clear hW AR7 S7 g0 g1 g2 g3 k0 k1 k2 k3
          obtain ⟨⟨g0, g1, g2, g3⟩, -⟩ := S8.out.2.1.cells
          obtain ⟨⟨m0, m1, m2, m3⟩, o0, o1, o2, o3⟩ := S8.out.1.room
          go_wp2_with fail
          (try simp only [Exit.inBlock, Exit.then])
          refine bodyPost_ret (results_cell_row rfl _ _ (w.heap.size + 1 + 1) 83 _ (0, 0) _ rfl (S8.out.1.put _ _ _ _).1 Tryz.underlying83 rfl (by kernel_rfl)) rfl ?_
          exact ⟨_, n2, C - A, M, rfl, ⟨_, _, _, _, _, _, os7, ys, rfl, far_arg AR8.out (fun x hx => Nat.ne_of_gt (Nat.lt_trans S8.out.2.2 (L7.out x hx))), V7.out, TS7.out, Q5.out.1.below (S8.out.1.put _ _ _ _).2 (Nat.le_refl _), Q5.out.2.1, Q5.out.2.2.1, fun x hx => by have := L7.out x hx; have := S8.out.2.2; have := HB0.out; omega, Q5.out.2.2.2⟩, SI.out, (S8.out.1.put _ _ _ _).2⟩
        · have SI := hid (SE.out he hl)
          have s1 : s = 0 := by rw [← HSS.out, hl]; unfold cmpI; rw [if_neg (by omega), if_pos rfl]
          subst s1
          obtain ⟨⟨g0, g1, g2, g3⟩, k0, k1, k2, k3⟩ := S6.out.2.1.cells
          clear SP SG SL SE HSS hl AX AY VX VY TX TY B6
          go_upto_region 18 with fail
          have S8 := hid (S6.out.sign (.bool false))
          generalize hW : w6.setCell ⟨w4.heap.size, 0, none⟩ (.bool false) = w8 at *
          clear hW g0 g1 g2 g3 k0 k1 k2 k3 c0 c1 c2 c3 d0 d1 d2 d3 S6
          obtain ⟨⟨g0, g1, g2, g3⟩, -⟩ := S8.out.2.1.cells
          obtain ⟨⟨m0, m1, m2, m3⟩, o0, o1, o2, o3⟩ := S8.out.1.room
          go_wp2_with fail
          (try simp only [Exit.inBlock, Exit.then])
          refine bodyPost_ret (results_cell_row rfl _ _ (w.heap.size + 1 + 1) 83 _ (0, 0) _ rfl (S8.out.1.put _ _ _ _).1 Tryz.underlying83 rfl (by kernel_rfl)) rfl ?_
          exact ⟨_, false, 0, M, rfl, ⟨_, _, _, _, _, _, [], ys, rfl, nil_arg _, rfl, by simp [Nm.tsize], Q5.out.1.below (S8.out.1.put _ _ _ _).2 (Nat.le_refl _), Q5.out.2.1, Q5.out.2.2.1, none_far B, Q5.out.2.2.2⟩, SI.out, (S8.out.1.put _ _ _ _).2⟩
        · have SI := hid (SG.out he hl)
          have s1 : s = 1 := by rw [← HSS.out]; unfold cmpI; rw [if_neg (by omega), if_neg (by omega)]
          subst s1
          have LS := hid (less_any r1 r2 _ _ _ _ os1 os2 w6 (AX.out.below B6.out (Nat.le_refl _)) (AY.out.below B6.out (Nat.le_refl _)) (by have := TX.out.1; omega) (by rw [VX.out, VY.out]; omega))
          rw [VX.out, VY.out] at LS
          clear SP SG SL SE HSS hl AX AY VX VY TX TY
          go_wp2_with fail
          with_reducible refine LS.out.mono ?_
          rintro r w7 ⟨r7, os7, rfl, A7, hB7⟩
          clear LS
          have S7 := hid (S6.out.on hB7)
          have AR7 := hid (A7.arg (by have := (A7.tl (K := 4400) (BD.out.2.2.2.1) (by omega)).2.1; omega))
          have TS7 := hid (A7.tl (K := 4400) (BD.out.2.2.2.1) (by omega)).1
          have V7 := hid A7.2.2.2.1
          have L7 := hid (fun x hx => Nat.le_trans S6.out.lt (A7.2.2.2.2 x hx))
          clear A7 hB7 S6 c0 c1 c2 c3 d0 d1 d2 d3
          obtain ⟨⟨g0, g1, g2, g3⟩, k0, k1, k2, k3⟩ := S7.out.2.1.cells
          go_upto_region 18 with fail
          have S8 := hid (S7.out.num (.slice r7 (List.length os7) (List.length os7)))
          have AR8 := hid (set_arg (o := 1) (v := .slice r7 (List.length os7) (List.length os7)) AR7.out (fun x hx => Nat.ne_of_gt (L7.out x hx)))
          generalize hW : w7.setCell ⟨w4.heap.size, 1, none⟩ (.slice r7 (List.length os7) (List.length os7)) = w8 at *
          clear hW AR7 S7 g0 g1 g2 g3 k0 k1 k2 k3
          obtain ⟨⟨g0, g1, g2, g3⟩, -⟩ := S8.out.2.1.cells
          obtain ⟨⟨m0, m1, m2, m3⟩, o0, o1, o2, o3⟩ := S8.out.1.room
          go_wp2_with fail
          (try simp only [Exit.inBlock, Exit.then])
          refine bodyPost_ret (results_cell_row rfl _ _ (w.heap.size + 1 + 1) 83 _ (0, 0) _ rfl (S8.out.1.put _ _ _ _).1 Tryz.underlying83 rfl (by kernel_rfl)) rfl ?_
          exact ⟨_, n1, A - C, M, rfl, ⟨_, _, _, _, _, _, os7, ys, rfl, far_arg AR8.out (fun x hx => Nat.ne_of_gt (Nat.lt_trans S8.out.2.2 (L7.out x hx))), V7.out, TS7.out, Q5.out.1.below (S8.out.1.put _ _ _ _).2 (Nat.le_refl _), Q5.out.2.1, Q5.out.2.2.1, fun x hx => by have := L7.out x hx; have := S8.out.2.2; have := HB0.out; omega, Q5.out.2.2.2⟩, SI.out, (S8.out.1.put _ _ _ _).2⟩
    · obtain rfl : M = e1 := by omega
      clear hM
      go_enter Tryz.func70, Tryz.ntmps70
      go_upto_region 1 with fail
      generalize (((w.alloc (.cells #[.bool n1, .slice p n c, .slice q m d, .int .i64 M] 83)).alloc (.cells #[.bool n2, .slice p' n' c', .slice q' m' d', .int .i64 e2] 83)).alloc (.cells #[.bool false, .slice none 0 0, .slice none 0 0, .int .i64 0] 83)) = wz at *
      have zb := Z.out.1
      obtain ⟨⟨c0, c1, c2, c3⟩, d0, d1, d2, d3⟩ := Z.out.flat
      go_wp2_with fail
      with_reducible refine (NX.out _ zb).mono ?_
      rintro r w1 ⟨rfl, hB1⟩
      have Z1 := hid (Z.out.on hB1)
      clear zb hB1 Z NX c0 c1 c2 c3 d0 d1 d2 d3
      have z1 := Z1.out.1
      obtain ⟨⟨c0, c1, c2, c3⟩, d0, d1, d2, d3⟩ := Z1.out.flat
      go_wp2_with fail
      with_reducible refine (NY.out _ z1).mono ?_
      rintro r w2 ⟨rfl, hB2⟩
      have Z2 := hid (Z1.out.on hB2)
      clear z1 hB2 Z1 NY c0 c1 c2 c3 d0 d1 d2 d3
      obtain ⟨⟨c0, c1, c2, c3⟩, d0, d1, d2, d3⟩ := Z2.out.flat
      have zb := Z2.out.1
      go_wp2_with fail
      with_reducible refine (LX.out _ _ (by omega) zb).mono ?_
      rintro r w3 ⟨r1, os1, rfl, A1, hB3⟩
      have Z3 := hid (Z2.out.on hB3)
      have z3 := Z3.out.1
      have AA := hid A1
      clear zb hB3 A1 Z2 LX c0 c1 c2 c3 d0 d1 d2 d3
      obtain ⟨⟨c0, c1, c2, c3⟩, d0, d1, d2, d3⟩ := Z3.out.flat
      go_wp2_with fail
      with_reducible refine (LY.out _ _ (by omega) z3).mono ?_
      rintro r w4 ⟨r2, os2, rfl, A2, hB4⟩
      have Z4 := hid (Z3.out.on hB4)
      have TX := hid ((AA.out.below hB4 (Nat.le_refl _)).tl (K := 4400) BD.out.1 (by omega))
      have TY := hid (A2.tl (K := 4400) BD.out.2.1 (by omega))
      have AX := hid ((AA.out.below hB4 (Nat.le_refl _)).arg (by have := TX.out.2.1; omega))
      have AY := hid (A2.arg (by have := TY.out.2.1; omega))
      have VX : Hid (Nm.val os1 = A) := AA.out.2.2.2.1
      have VY : Hid (Nm.val os2 = C) := A2.2.2.2.1
      clear z3 hB4 A2 Z3 LY AA c0 c1 c2 c3 d0 d1 d2 d3
      obtain ⟨⟨c0, c1, c2, c3⟩, d0, d1, d2, d3⟩ := Z4.out.flat
      go_upto_region 9 with fail
      have S5 := hid (S4.new Z4.out (.bool n1) (.slice none 0 0) (.slice q m d) (.int .i64 M))
      have B5 := hid (alloc_b w4 (.cells #[.bool n1, .slice none 0 0, .slice q m d, .int .i64 M] 83))
      generalize hW : w4.alloc (.cells #[.bool n1, .slice none 0 0, .slice q m d, .int .i64 M] 83) = w5 at *
      clear hW c0 c1 c2 c3 d0 d1 d2 d3 Z4
      have CM := hid (refCmp_any r1 r2 _ _ _ _ os1 os2 w5 (AX.out.below B5.out (Nat.le_refl _)) (AY.out.below B5.out (Nat.le_refl _)))
      rw [VX.out, VY.out] at CM
      obtain ⟨⟨c0, c1, c2, c3⟩, d0, d1, d2, d3⟩ := S5.out.1.flat
      obtain ⟨s, hs⟩ : ∃ s, cmpI A C = s := ⟨_, rfl⟩
      rw [hs] at CM
      have HSS := hid hs
      clear hs
      go_wp2_with fail
      with_reducible refine CM.out.mono ?_
      rintro r w6 ⟨rfl, hB6⟩
      have S6 := hid (S5.out.on hB6)
      have B6 := hid (bel B5.out hB6)
      clear hB6 S5 B5 CM c0 c1 c2 c3 d0 d1 d2 d3
      obtain ⟨⟨c0, c1, c2, c3⟩, d0, d1, d2, d3⟩ := S6.out.1.flat
      cases he : (n1 == n2) with
      | true =>
        have SI := hid (SP.out he)
        have PL := hid (plus_any r1 r2 _ _ _ _ os1 os2 w6 (AX.out.below B6.out (Nat.le_refl _)) (AY.out.below B6.out (Nat.le_refl _)) (by have := TX.out.1; omega) (by have := TY.out.1; omega))
        rw [VX.out, VY.out] at PL
        clear SP SG SL SE HSS AX AY VX VY TX TY
        go_wp2_with fail
        with_reducible refine PL.out.mono ?_
        rintro r w7 ⟨r7, os7, rfl, A7, hB7⟩
        clear PL
        have S7 := hid (S6.out.on hB7)
        have AR7 := hid (A7.arg (by have := (A7.tl (K := 4400) (BD.out.2.2.1) (by omega)).2.1; omega))
        have TS7 := hid (A7.tl (K := 4400) (BD.out.2.2.1) (by omega)).1
        have V7 := hid A7.2.2.2.1
        have L7 := hid (fun x hx => Nat.le_trans S6.out.lt (A7.2.2.2.2 x hx))
        clear A7 hB7 S6 c0 c1 c2 c3 d0 d1 d2 d3
        obtain ⟨⟨g0, g1, g2, g3⟩, k0, k1, k2, k3⟩ := S7.out.2.1.cells
        go_upto_region 18 with fail
        have S8 := hid (S7.out.num (.slice r7 (List.length os7) (List.length os7)))
        have AR8 := hid (set_arg (o := 1) (v := .slice r7 (List.length os7) (List.length os7)) AR7.out (fun x hx => Nat.ne_of_gt (L7.out x hx)))
        generalize hW : w7.setCell ⟨w4.heap.size, 1, none⟩ (.slice r7 (List.length os7) (List.length os7)) = w8 at *
        clear hW AR7 S7 g0 g1 g2 g3 k0 k1 k2 k3
        obtain ⟨⟨g0, g1, g2, g3⟩, -⟩ := S8.out.2.1.cells
        obtain ⟨⟨m0, m1, m2, m3⟩, o0, o1, o2, o3⟩ := S8.out.1.room
        go_wp2_with fail
        (try simp only [Exit.inBlock, Exit.then])
        refine bodyPost_ret (results_cell_row rfl _ _ (w.heap.size + 1 + 1) 83 _ (0, 0) _ rfl (S8.out.1.put _ _ _ _).1 Tryz.underlying83 rfl (by kernel_rfl)) rfl ?_
        exact ⟨_, n1, A + C, M, rfl, ⟨_, _, _, _, _, _, os7, ys, rfl, far_arg AR8.out (fun x hx => Nat.ne_of_gt (Nat.lt_trans S8.out.2.2 (L7.out x hx))), V7.out, TS7.out, Q5.out.1.below (S8.out.1.put _ _ _ _).2 (Nat.le_refl _), Q5.out.2.1, Q5.out.2.2.1, fun x hx => by have := L7.out x hx; have := S8.out.2.2; have := HB0.out; omega, Q5.out.2.2.2⟩, SI.out, (S8.out.1.put _ _ _ _).2⟩
      | false =>
        rcases Int.lt_trichotomy A C with hl | hl | hl
        · have SI := hid (SL.out he hl)
          have s1 : s = -1 := by rw [← HSS.out]; unfold cmpI; rw [if_pos hl]
          subst s1
          obtain ⟨⟨g0, g1, g2, g3⟩, k0, k1, k2, k3⟩ := S6.out.2.1.cells
          have LE : Hid (A ≤ C) := Int.le_of_lt hl
          clear SP SG SL SE HSS hl
          go_upto_region 11 with fail
          have SX := hid (S6.out.sign (.bool n2))
          have BX := hid (B6.out.setCell (p := ⟨w4.heap.size, 0, none⟩) (Nat.le_refl _) (.bool n2))
          generalize hW : w6.setCell ⟨w4.heap.size, 0, none⟩ (.bool n2) = w66 at *
          clear hW g0 g1 g2 g3 k0 k1 k2 k3 c0 c1 c2 c3 d0 d1 d2 d3 S6 B6
          have LS := hid (less_any r2 r1 _ _ _ _ os2 os1 w66 (AY.out.below BX.out (Nat.le_refl _)) (AX.out.below BX.out (Nat.le_refl _)) (by have := TY.out.1; omega) (by rw [VX.out, VY.out]; exact LE.out))
          rw [VX.out, VY.out] at LS
          clear AX AY VX VY TX TY LE
          obtain ⟨⟨c0, c1, c2, c3⟩, d0, d1, d2, d3⟩ := SX.out.1.flat
          go_wp2_with fail
          with_reducible refine LS.out.mono ?_
          rintro r w7 ⟨r7, os7, rfl, A7, hB7⟩
          clear LS
          have S7 := hid (SX.out.on hB7)
          have AR7 := hid (A7.arg (by have := (A7.tl (K := 4400) (BD.out.2.2.2.2) (by omega)).2.1; omega))
          have TS7 := hid (A7.tl (K := 4400) (BD.out.2.2.2.2) (by omega)).1
          have V7 := hid A7.2.2.2.1
          have L7 := hid (fun x hx => Nat.le_trans SX.out.lt (A7.2.2.2.2 x hx))
          clear A7 hB7 SX c0 c1 c2 c3 d0 d1 d2 d3
          obtain ⟨⟨g0, g1, g2, g3⟩, k0, k1, k2, k3⟩ := S7.out.2.1.cells
          go_upto_region 18 with fail
          have S8 := hid (S7.out.num (.slice r7 (List.length os7) (List.length os7)))
          have AR8 := hid (set_arg (o := 1) (v := .slice r7 (List.length os7) (List.length os7)) AR7.out (fun x hx => Nat.ne_of_gt (L7.out x hx)))
          generalize hW : w7.setCell ⟨w4.heap.size, 1, none⟩ (.slice r7 (List.length os7) (List.length os7)) = w8 at *
          clear hW AR7 S7 g0 g1 g2 g3 k0 k1 k2 k3
          obtain ⟨⟨g0, g1, g2, g3⟩, -⟩ := S8.out.2.1.cells
          obtain ⟨⟨m0, m1, m2, m3⟩, o0, o1, o2, o3⟩ := S8.out.1.room
          go_wp2_with fail
          (try simp only [Exit.inBlock, Exit.then])
          refine bodyPost_ret (results_cell_row rfl _ _ (w.heap.size + 1 + 1) 83 _ (0, 0) _ rfl (S8.out.1.put _ _ _ _).1 Tryz.underlying83 rfl (by kernel_rfl)) rfl ?_
          exact ⟨_, n2, C - A, M, rfl, ⟨_, _, _, _, _, _, os7, ys, rfl, far_arg AR8.out (fun x hx => Nat.ne_of_gt (Nat.lt_trans S8.out.2.2 (L7.out x hx))), V7.out, TS7.out, Q5.out.1.below (S8.out.1.put _ _ _ _).2 (Nat.le_refl _), Q5.out.2.1, Q5.out.2.2.1, fun x hx => by have := L7.out x hx; have := S8.out.2.2; have := HB0.out; omega, Q5.out.2.2.2⟩, SI.out, (S8.out.1.put _ _ _ _).2⟩
        · have SI := hid (SE.out he hl)
          have s1 : s = 0 := by rw [← HSS.out, hl]; unfold cmpI; rw [if_neg (by omega), if_pos rfl]
          subst s1
          obtain ⟨⟨g0, g1, g2, g3⟩, k0, k1, k2, k3⟩ := S6.out.2.1.cells
          clear SP SG SL SE HSS hl AX AY VX VY TX TY B6
          go_upto_region 18 with fail
          have S8 := hid (S6.out.sign (.bool false))
          generalize hW : w6.setCell ⟨w4.heap.size, 0, none⟩ (.bool false) = w8 at *
          clear hW g0 g1 g2 g3 k0 k1 k2 k3 c0 c1 c2 c3 d0 d1 d2 d3 S6
          obtain ⟨⟨g0, g1, g2, g3⟩, -⟩ := S8.out.2.1.cells
          obtain ⟨⟨m0, m1, m2, m3⟩, o0, o1, o2, o3⟩ := S8.out.1.room
          go_wp2_with fail
          (try simp only [Exit.inBlock, Exit.then])
          refine bodyPost_ret (results_cell_row rfl _ _ (w.heap.size + 1 + 1) 83 _ (0, 0) _ rfl (S8.out.1.put _ _ _ _).1 Tryz.underlying83 rfl (by kernel_rfl)) rfl ?_
          exact ⟨_, false, 0, M, rfl, ⟨_, _, _, _, _, _, [], ys, rfl, nil_arg _, rfl, by simp [Nm.tsize], Q5.out.1.below (S8.out.1.put _ _ _ _).2 (Nat.le_refl _), Q5.out.2.1, Q5.out.2.2.1, none_far B, Q5.out.2.2.2⟩, SI.out, (S8.out.1.put _ _ _ _).2⟩
        · have SI := hid (SG.out he hl)
          have s1 : s = 1 := by rw [← HSS.out]; unfold cmpI; rw [if_neg (by omega), if_neg (by omega)]
          subst s1
          have LS := hid (less_any r1 r2 _ _ _ _ os1 os2 w6 (AX.out.below B6.out (Nat.le_refl _)) (AY.out.below B6.out (Nat.le_refl _)) (by have := TX.out.1; omega) (by rw [VX.out, VY.out]; omega))
          rw [VX.out, VY.out] at LS
          clear SP SG SL SE HSS hl AX AY VX VY TX TY
          go_wp2_with fail
          with_reducible refine LS.out.mono ?_
          rintro r w7 ⟨r7, os7, rfl, A7, hB7⟩
          clear LS
          have S7 := hid (S6.out.on hB7)
          have AR7 := hid (A7.arg (by have := (A7.tl (K := 4400) (BD.out.2.2.2.1) (by omega)).2.1; omega))
          have TS7 := hid (A7.tl (K := 4400) (BD.out.2.2.2.1) (by omega)).1
          have V7 := hid A7.2.2.2.1
          have L7 := hid (fun x hx => Nat.le_trans S6.out.lt (A7.2.2.2.2 x hx))
          clear A7 hB7 S6 c0 c1 c2 c3 d0 d1 d2 d3
          obtain ⟨⟨g0, g1, g2, g3⟩, k0, k1, k2, k3⟩ := S7.out.2.1.cells
          go_upto_region 18 with fail
          have S8 := hid (S7.out.num (.slice r7 (List.length os7) (List.length os7)))
          have AR8 := hid (set_arg (o := 1) (v := .slice r7 (List.length os7) (List.length os7)) AR7.out (fun x hx => Nat.ne_of_gt (L7.out x hx)))
          generalize hW : w7.setCell ⟨w4.heap.size, 1, none⟩ (.slice r7 (List.length os7) (List.length os7)) = w8 at *
          clear hW AR7 S7 g0 g1 g2 g3 k0 k1 k2 k3
          obtain ⟨⟨g0, g1, g2, g3⟩, -⟩ := S8.out.2.1.cells
          obtain ⟨⟨m0, m1, m2, m3⟩, o0, o1, o2, o3⟩ := S8.out.1.room
          go_wp2_with fail
          (try simp only [Exit.inBlock, Exit.then])
          refine bodyPost_ret (results_cell_row rfl _ _ (w.heap.size + 1 + 1) 83 _ (0, 0) _ rfl (S8.out.1.put _ _ _ _).1 Tryz.underlying83 rfl (by kernel_rfl)) rfl ?_
          exact ⟨_, n1, A - C, M, rfl, ⟨_, _, _, _, _, _, os7, ys, rfl, far_arg AR8.out (fun x hx => Nat.ne_of_gt (Nat.lt_trans S8.out.2.2 (L7.out x hx))), V7.out, TS7.out, Q5.out.1.below (S8.out.1.put _ _ _ _).2 (Nat.le_refl _), Q5.out.2.1, Q5.out.2.2.1, fun x hx => by have := L7.out x hx; have := S8.out.2.2; have := HB0.out; omega, Q5.out.2.2.2⟩, SI.out, (S8.out.1.put _ _ _ _).2⟩
  · rw [decide_eq_false hz1] at NX
    clear D1 hz1 NY
    by_cases hle : e2 < e1
    · obtain rfl : M = e2 := by omega
      clear hM
      go_enter Tryz.func70, Tryz.ntmps70
      go_upto_region 1 with fail
      generalize (((w.alloc (.cells #[.bool n1, .slice p n c, .slice q m d, .int .i64 e1] 83)).alloc (.cells #[.bool n2, .slice p' n' c', .slice q' m' d', .int .i64 M] 83)).alloc (.cells #[.bool false, .slice none 0 0, .slice none 0 0, .int .i64 0] 83)) = wz at *
      have zb := Z.out.1
      obtain ⟨⟨c0, c1, c2, c3⟩, d0, d1, d2, d3⟩ := Z.out.flat
      go_wp2_with fail
      with_reducible refine (NX.out _ zb).mono ?_
      rintro r w1 ⟨rfl, hB1⟩
      have Z1 := hid (Z.out.on hB1)
      clear zb hB1 Z NX c0 c1 c2 c3 d0 d1 d2 d3
      have Z2 := hid Z1.out
      clear Z1
      obtain ⟨⟨c0, c1, c2, c3⟩, d0, d1, d2, d3⟩ := Z2.out.flat
      have zb := Z2.out.1
      go_wp2_with fail
      with_reducible refine (LX.out _ _ (by omega) zb).mono ?_
      rintro r w3 ⟨r1, os1, rfl, A1, hB3⟩
      have Z3 := hid (Z2.out.on hB3)
      have z3 := Z3.out.1
      have AA := hid A1
      clear zb hB3 A1 Z2 LX c0 c1 c2 c3 d0 d1 d2 d3
      obtain ⟨⟨c0, c1, c2, c3⟩, d0, d1, d2, d3⟩ := Z3.out.flat
      go_wp2_with fail
      with_reducible refine (LY.out _ _ (by omega) z3).mono ?_
      rintro r w4 ⟨r2, os2, rfl, A2, hB4⟩
      have Z4 := hid (Z3.out.on hB4)
      have TX := hid ((AA.out.below hB4 (Nat.le_refl _)).tl (K := 4400) BD.out.1 (by omega))
      have TY := hid (A2.tl (K := 4400) BD.out.2.1 (by omega))
      have AX := hid ((AA.out.below hB4 (Nat.le_refl _)).arg (by have := TX.out.2.1; omega))
      have AY := hid (A2.arg (by have := TY.out.2.1; omega))
      have VX : Hid (Nm.val os1 = A) := AA.out.2.2.2.1
      have VY : Hid (Nm.val os2 = C) := A2.2.2.2.1
      clear z3 hB4 A2 Z3 LY AA c0 c1 c2 c3 d0 d1 d2 d3
      obtain ⟨⟨c0, c1, c2, c3⟩, d0, d1, d2, d3⟩ := Z4.out.flat
      go_upto_region 9 with fail
      have S5 := hid (S4.new Z4.out (.bool n1) (.slice none 0 0) (.slice q m d) (.int .i64 M))
      have B5 := hid (alloc_b w4 (.cells #[.bool n1, .slice none 0 0, .slice q m d, .int .i64 M] 83))
      generalize hW : w4.alloc (.cells #[.bool n1, .slice none 0 0, .slice q m d, .int .i64 M] 83) = w5 at *
      clear hW c0 c1 c2 c3 d0 d1 d2 d3 Z4
      have CM := hid (refCmp_any r1 r2 _ _ _ _ os1 os2 w5 (AX.out.below B5.out (Nat.le_refl _)) (AY.out.below B5.out (Nat.le_refl _)))
      rw [VX.out, VY.out] at CM
      obtain ⟨⟨c0, c1, c2, c3⟩, d0, d1, d2, d3⟩ := S5.out.1.flat
      obtain ⟨s, hs⟩ : ∃ s, cmpI A C = s := ⟨_, rfl⟩
      rw [hs] at CM
      have HSS := hid hs
      clear hs
      go_wp2_with fail
      with_reducible refine CM.out.mono ?_
      rintro r w6 ⟨rfl, hB6⟩
      have S6 := hid (S5.out.on hB6)
      have B6 := hid (bel B5.out hB6)
      clear hB6 S5 B5 CM c0 c1 c2 c3 d0 d1 d2 d3
      obtain ⟨⟨c0, c1, c2, c3⟩, d0, d1, d2, d3⟩ := S6.out.1.flat
      cases he : (n1 == n2) with
      | true =>
        have SI := hid (SP.out he)
        have PL := hid (plus_any r1 r2 _ _ _ _ os1 os2 w6 (AX.out.below B6.out (Nat.le_refl _)) (AY.out.below B6.out (Nat.le_refl _)) (by have := TX.out.1; omega) (by have := TY.out.1; omega))
        rw [VX.out, VY.out] at PL
        clear SP SG SL SE HSS AX AY VX VY TX TY
        go_wp2_with fail
        with_reducible refine PL.out.mono ?_
        rintro r w7 ⟨r7, os7, rfl, A7, hB7⟩
        clear PL
        have S7 := hid (S6.out.on hB7)
        have AR7 := hid (A7.arg (by have := (A7.tl (K := 4400) (BD.out.2.2.1) (by omega)).2.1; omega))
        have TS7 := hid (A7.tl (K := 4400) (BD.out.2.2.1) (by omega)).1
        have V7 := hid A7.2.2.2.1
        have L7 := hid (fun x hx => Nat.le_trans S6.out.lt (A7.2.2.2.2 x hx))
        clear A7 hB7 S6 c0 c1 c2 c3 d0 d1 d2 d3
        obtain ⟨⟨g0, g1, g2, g3⟩, k0, k1, k2, k3⟩ := S7.out.2.1.cells
        go_upto_region 18 with fail
        have S8 := hid (S7.out.num (.slice r7 (List.length os7) (List.length os7)))
        have AR8 := hid (set_arg (o := 1) (v := .slice r7 (List.length os7) (List.length os7)) AR7.out (fun x hx => Nat.ne_of_gt (L7.out x hx)))
        generalize hW : w7.setCell ⟨w4.heap.size, 1, none⟩ (.slice r7 (List.length os7) (List.length os7)) = w8 at *
        clear hW AR7 S7 g0 g1 g2 g3 k0 k1 k2 k3
        obtain ⟨⟨g0, g1, g2, g3⟩, -⟩ := S8.out.2.1.cells
        obtain ⟨⟨m0, m1, m2, m3⟩, o0, o1, o2, o3⟩ := S8.out.1.room
        go_wp2_with fail
        (try simp only [Exit.inBlock, Exit.then])
        refine bodyPost_ret (results_cell_row rfl _ _ (w.heap.size + 1 + 1) 83 _ (0, 0) _ rfl (S8.out.1.put _ _ _ _).1 Tryz.underlying83 rfl (by kernel_rfl)) rfl ?_
        exact ⟨_, n1, A + C, M, rfl, ⟨_, _, _, _, _, _, os7, ys, rfl, far_arg AR8.out (fun x hx => Nat.ne_of_gt (Nat.lt_trans S8.out.2.2 (L7.out x hx))), V7.out, TS7.out, Q5.out.1.below (S8.out.1.put _ _ _ _).2 (Nat.le_refl _), Q5.out.2.1, Q5.out.2.2.1, fun x hx => by have := L7.out x hx; have := S8.out.2.2; have := HB0.out; omega, Q5.out.2.2.2⟩, SI.out, (S8.out.1.put _ _ _ _).2⟩
      | false =>
        rcases Int.lt_trichotomy A C with hl | hl | hl
        · have SI := hid (SL.out he hl)
          have s1 : s = -1 := by rw [← HSS.out]; unfold cmpI; rw [if_pos hl]
          subst s1
          obtain ⟨⟨g0, g1, g2, g3⟩, k0, k1, k2, k3⟩ := S6.out.2.1.cells
          have LE : Hid (A ≤ C) := Int.le_of_lt hl
          clear SP SG SL SE HSS hl
          go_upto_region 11 with fail
          have SX := hid (S6.out.sign (.bool n2))
          have BX := hid (B6.out.setCell (p := ⟨w4.heap.size, 0, none⟩) (Nat.le_refl _) (.bool n2))
          generalize hW : w6.setCell ⟨w4.heap.size, 0, none⟩ (.bool n2) = w66 at *
          clear hW g0 g1 g2 g3 k0 k1 k2 k3 c0 c1 c2 c3 d0 d1 d2 d3 S6 B6
          have LS := hid (less_any r2 r1 _ _ _ _ os2 os1 w66 (AY.out.below BX.out (Nat.le_refl _)) (AX.out.below BX.out (Nat.le_refl _)) (by have := TY.out.1; omega) (by rw [VX.out, VY.out]; exact LE.out))
          rw [VX.out, VY.out] at LS
          clear AX AY VX VY TX TY LE
          obtain ⟨⟨c0, c1, c2, c3⟩, d0, d1, d2, d3⟩ := SX.out.1.flat
          go_wp2_with fail
          with_reducible refine LS.out.mono ?_
          rintro r w7 ⟨r7, os7, rfl, A7, hB7⟩
          clear LS
          have S7 := hid (SX.out.on hB7)
          have AR7 := hid (A7.arg (by have := (A7.tl (K := 4400) (BD.out.2.2.2.2) (by omega)).2.1; omega))
          have TS7 := hid (A7.tl (K := 4400) (BD.out.2.2.2.2) (by omega)).1
          have V7 := hid A7.2.2.2.1
          have L7 := hid (fun x hx => Nat.le_trans SX.out.lt (A7.2.2.2.2 x hx))
          clear A7 hB7 SX c0 c1 c2 c3 d0 d1 d2 d3
          obtain ⟨⟨g0, g1, g2, g3⟩, k0, k1, k2, k3⟩ := S7.out.2.1.cells
          go_upto_region 18 with fail
          have S8 := hid (S7.out.num (.slice r7 (List.length os7) (List.length os7)))
          have AR8 := hid (set_arg (o := 1) (v := .slice r7 (List.length os7) (List.length os7)) AR7.out (fun x hx => Nat.ne_of_gt (L7.out x hx)))
          generalize hW : w7.setCell ⟨w4.heap.size, 1, none⟩ (.slice r7 (List.length os7) (List.length os7)) = w8 at *
          clear hW AR7 S7 g0 g1 g2 g3 k0 k1 k2 k3
          obtain ⟨⟨g0, g1, g2, g3⟩, -⟩ := S8.out.2.1.cells
          obtain ⟨⟨m0, m1, m2, m3⟩, o0, o1, o2, o3⟩ := S8.out.1.room
          go_wp2_with fail
          (try simp only [Exit.inBlock, Exit.then])
          refine bodyPost_ret (results_cell_row rfl _ _ (w.heap.size + 1 + 1) 83 _ (0, 0) _ rfl (S8.out.1.put _ _ _ _).1 Tryz.underlying83 rfl (by kernel_rfl)) rfl ?_
          exact ⟨_, n2, C - A, M, rfl, ⟨_, _, _, _, _, _, os7, ys, rfl, far_arg AR8.out (fun x hx => Nat.ne_of_gt (Nat.lt_trans S8.out.2.2 (L7.out x hx))), V7.out, TS7.out, Q5.out.1.below (S8.out.1.put _ _ _ _).2 (Nat.le_refl _), Q5.out.2.1, Q5.out.2.2.1, fun x hx => by have := L7.out x hx; have := S8.out.2.2; have := HB0.out; omega, Q5.out.2.2.2⟩, SI.out, (S8.out.1.put _ _ _ _).2⟩
        · have SI := hid (SE.out he hl)
          have s1 : s = 0 := by rw [← HSS.out, hl]; unfold cmpI; rw [if_neg (by omega), if_pos rfl]
          subst s1
          obtain ⟨⟨g0, g1, g2, g3⟩, k0, k1, k2, k3⟩ := S6.out.2.1.cells
          clear SP SG SL SE HSS hl AX AY VX VY TX TY B6
          go_upto_region 18 with fail
          have S8 := hid (S6.out.sign (.bool false))
          generalize hW : w6.setCell ⟨w4.heap.size, 0, none⟩ (.bool false) = w8 at *
          clear hW g0 g1 g2 g3 k0 k1 k2 k3 c0 c1 c2 c3 d0 d1 d2 d3 S6
          obtain ⟨⟨g0, g1, g2, g3⟩, -⟩ := S8.out.2.1.cells
          obtain ⟨⟨m0, m1, m2, m3⟩, o0, o1, o2, o3⟩ := S8.out.1.room
          go_wp2_with fail
          (try simp only [Exit.inBlock, Exit.then])
          refine bodyPost_ret (results_cell_row rfl _ _ (w.heap.size + 1 + 1) 83 _ (0, 0) _ rfl (S8.out.1.put _ _ _ _).1 Tryz.underlying83 rfl (by kernel_rfl)) rfl ?_
          exact ⟨_, false, 0, M, rfl, ⟨_, _, _, _, _, _, [], ys, rfl, nil_arg _, rfl, by simp [Nm.tsize], Q5.out.1.below (S8.out.1.put _ _ _ _).2 (Nat.le_refl _), Q5.out.2.1, Q5.out.2.2.1, none_far B, Q5.out.2.2.2⟩, SI.out, (S8.out.1.put _ _ _ _).2⟩
        · have SI := hid (SG.out he hl)
          have s1 : s = 1 := by rw [← HSS.out]; unfold cmpI; rw [if_neg (by omega), if_neg (by omega)]
          subst s1
          have LS := hid (less_any r1 r2 _ _ _ _ os1 os2 w6 (AX.out.below B6.out (Nat.le_refl _)) (AY.out.below B6.out (Nat.le_refl _)) (by have := TX.out.1; omega) (by rw [VX.out, VY.out]; omega))
          rw [VX.out, VY.out] at LS
          clear SP SG SL SE HSS hl AX AY VX VY TX TY
          go_wp2_with fail
          with_reducible refine LS.out.mono ?_
          rintro r w7 ⟨r7, os7, rfl, A7, hB7⟩
          clear LS
          have S7 := hid (S6.out.on hB7)
          have AR7 := hid (A7.arg (by have := (A7.tl (K := 4400) (BD.out.2.2.2.1) (by omega)).2.1; omega))
          have TS7 := hid (A7.tl (K := 4400) (BD.out.2.2.2.1) (by omega)).1
          have V7 := hid A7.2.2.2.1
          have L7 := hid (fun x hx => Nat.le_trans S6.out.lt (A7.2.2.2.2 x hx))
          clear A7 hB7 S6 c0 c1 c2 c3 d0 d1 d2 d3
          obtain ⟨⟨g0, g1, g2, g3⟩, k0, k1, k2, k3⟩ := S7.out.2.1.cells
          go_upto_region 18 with fail
          have S8 := hid (S7.out.num (.slice r7 (List.length os7) (List.length os7)))
          have AR8 := hid (set_arg (o := 1) (v := .slice r7 (List.length os7) (List.length os7)) AR7.out (fun x hx => Nat.ne_of_gt (L7.out x hx)))
          generalize hW : w7.setCell ⟨w4.heap.size, 1, none⟩ (.slice r7 (List.length os7) (List.length os7)) = w8 at *
          clear hW AR7 S7 g0 g1 g2 g3 k0 k1 k2 k3
          obtain ⟨⟨g0, g1, g2, g3⟩, -⟩ := S8.out.2.1.cells
          obtain ⟨⟨m0, m1, m2, m3⟩, o0, o1, o2, o3⟩ := S8.out.1.room
          go_wp2_with fail
          (try simp only [Exit.inBlock, Exit.then])
          refine bodyPost_ret (results_cell_row rfl _ _ (w.heap.size + 1 + 1) 83 _ (0, 0) _ rfl (S8.out.1.put _ _ _ _).1 Tryz.underlying83 rfl (by kernel_rfl)) rfl ?_
          exact ⟨_, n1, A - C, M, rfl, ⟨_, _, _, _, _, _, os7, ys, rfl, far_arg AR8.out (fun x hx => Nat.ne_of_gt (Nat.lt_trans S8.out.2.2 (L7.out x hx))), V7.out, TS7.out, Q5.out.1.below (S8.out.1.put _ _ _ _).2 (Nat.le_refl _), Q5.out.2.1, Q5.out.2.2.1, fun x hx => by have := L7.out x hx; have := S8.out.2.2; have := HB0.out; omega, Q5.out.2.2.2⟩, SI.out, (S8.out.1.put _ _ _ _).2⟩
    · obtain rfl : M = e1 := by omega
      clear hM
      go_enter Tryz.func70, Tryz.ntmps70
      go_upto_region 1 with fail
      generalize (((w.alloc (.cells #[.bool n1, .slice p n c, .slice q m d, .int .i64 M] 83)).alloc (.cells #[.bool n2, .slice p' n' c', .slice q' m' d', .int .i64 e2] 83)).alloc (.cells #[.bool false, .slice none 0 0, .slice none 0 0, .int .i64 0] 83)) = wz at *
      have zb := Z.out.1
      obtain ⟨⟨c0, c1, c2, c3⟩, d0, d1, d2, d3⟩ := Z.out.flat
      go_wp2_with fail
      with_reducible refine (NX.out _ zb).mono ?_
      rintro r w1 ⟨rfl, hB1⟩
      have Z1 := hid (Z.out.on hB1)
      clear zb hB1 Z NX c0 c1 c2 c3 d0 d1 d2 d3
      have Z2 := hid Z1.out
      clear Z1
      obtain ⟨⟨c0, c1, c2, c3⟩, d0, d1, d2, d3⟩ := Z2.out.flat
      have zb := Z2.out.1
      go_wp2_with fail
      with_reducible refine (LX.out _ _ (by omega) zb).mono ?_
      rintro r w3 ⟨r1, os1, rfl, A1, hB3⟩
      have Z3 := hid (Z2.out.on hB3)
      have z3 := Z3.out.1
      have AA := hid A1
      clear zb hB3 A1 Z2 LX c0 c1 c2 c3 d0 d1 d2 d3
      obtain ⟨⟨c0, c1, c2, c3⟩, d0, d1, d2, d3⟩ := Z3.out.flat
      go_wp2_with fail
      with_reducible refine (LY.out _ _ (by omega) z3).mono ?_
      rintro r w4 ⟨r2, os2, rfl, A2, hB4⟩
      have Z4 := hid (Z3.out.on hB4)
      have TX := hid ((AA.out.below hB4 (Nat.le_refl _)).tl (K := 4400) BD.out.1 (by omega))
      have TY := hid (A2.tl (K := 4400) BD.out.2.1 (by omega))
      have AX := hid ((AA.out.below hB4 (Nat.le_refl _)).arg (by have := TX.out.2.1; omega))
      have AY := hid (A2.arg (by have := TY.out.2.1; omega))
      have VX : Hid (Nm.val os1 = A) := AA.out.2.2.2.1
      have VY : Hid (Nm.val os2 = C) := A2.2.2.2.1
      clear z3 hB4 A2 Z3 LY AA c0 c1 c2 c3 d0 d1 d2 d3
      obtain ⟨⟨c0, c1, c2, c3⟩, d0, d1, d2, d3⟩ := Z4.out.flat
      go_upto_region 9 with fail
      have S5 := hid (S4.new Z4.out (.bool n1) (.slice none 0 0) (.slice q m d) (.int .i64 M))
      have B5 := hid (alloc_b w4 (.cells #[.bool n1, .slice none 0 0, .slice q m d, .int .i64 M] 83))
      generalize hW : w4.alloc (.cells #[.bool n1, .slice none 0 0, .slice q m d, .int .i64 M] 83) = w5 at *
      clear hW c0 c1 c2 c3 d0 d1 d2 d3 Z4
      have CM := hid (refCmp_any r1 r2 _ _ _ _ os1 os2 w5 (AX.out.below B5.out (Nat.le_refl _)) (AY.out.below B5.out (Nat.le_refl _)))
      rw [VX.out, VY.out] at CM
      obtain ⟨⟨c0, c1, c2, c3⟩, d0, d1, d2, d3⟩ := S5.out.1.flat
      obtain ⟨s, hs⟩ : ∃ s, cmpI A C = s := ⟨_, rfl⟩
      rw [hs] at CM
      have HSS := hid hs
      clear hs
      go_wp2_with fail
      with_reducible refine CM.out.mono ?_
      rintro r w6 ⟨rfl, hB6⟩
      have S6 := hid (S5.out.on hB6)
      have B6 := hid (bel B5.out hB6)
      clear hB6 S5 B5 CM c0 c1 c2 c3 d0 d1 d2 d3
      obtain ⟨⟨c0, c1, c2, c3⟩, d0, d1, d2, d3⟩ := S6.out.1.flat
      cases he : (n1 == n2) with
      | true =>
        have SI := hid (SP.out he)
        have PL := hid (plus_any r1 r2 _ _ _ _ os1 os2 w6 (AX.out.below B6.out (Nat.le_refl _)) (AY.out.below B6.out (Nat.le_refl _)) (by have := TX.out.1; omega) (by have := TY.out.1; omega))
        rw [VX.out, VY.out] at PL
        clear SP SG SL SE HSS AX AY VX VY TX TY
        go_wp2_with fail
        with_reducible refine PL.out.mono ?_
        rintro r w7 ⟨r7, os7, rfl, A7, hB7⟩
        clear PL
        have S7 := hid (S6.out.on hB7)
        have AR7 := hid (A7.arg (by have := (A7.tl (K := 4400) (BD.out.2.2.1) (by omega)).2.1; omega))
        have TS7 := hid (A7.tl (K := 4400) (BD.out.2.2.1) (by omega)).1
        have V7 := hid A7.2.2.2.1
        have L7 := hid (fun x hx => Nat.le_trans S6.out.lt (A7.2.2.2.2 x hx))
        clear A7 hB7 S6 c0 c1 c2 c3 d0 d1 d2 d3
        obtain ⟨⟨g0, g1, g2, g3⟩, k0, k1, k2, k3⟩ := S7.out.2.1.cells
        go_upto_region 18 with fail
        have S8 := hid (S7.out.num (.slice r7 (List.length os7) (List.length os7)))
        have AR8 := hid (set_arg (o := 1) (v := .slice r7 (List.length os7) (List.length os7)) AR7.out (fun x hx => Nat.ne_of_gt (L7.out x hx)))
        generalize hW : w7.setCell ⟨w4.heap.size, 1, none⟩ (.slice r7 (List.length os7) (List.length os7)) = w8 at *
        clear hW AR7 S7 g0 g1 g2 g3 k0 k1 k2 k3
        obtain ⟨⟨g0, g1, g2, g3⟩, -⟩ := S8.out.2.1.cells
        obtain ⟨⟨m0, m1, m2, m3⟩, o0, o1, o2, o3⟩ := S8.out.1.room
        go_wp2_with fail
        (try simp only [Exit.inBlock, Exit.then])
        refine bodyPost_ret (results_cell_row rfl _ _ (w.heap.size + 1 + 1) 83 _ (0, 0) _ rfl (S8.out.1.put _ _ _ _).1 Tryz.underlying83 rfl (by kernel_rfl)) rfl ?_
        exact ⟨_, n1, A + C, M, rfl, ⟨_, _, _, _, _, _, os7, ys, rfl, far_arg AR8.out (fun x hx => Nat.ne_of_gt (Nat.lt_trans S8.out.2.2 (L7.out x hx))), V7.out, TS7.out, Q5.out.1.below (S8.out.1.put _ _ _ _).2 (Nat.le_refl _), Q5.out.2.1, Q5.out.2.2.1, fun x hx => by have := L7.out x hx; have := S8.out.2.2; have := HB0.out; omega, Q5.out.2.2.2⟩, SI.out, (S8.out.1.put _ _ _ _).2⟩
      | false =>
        rcases Int.lt_trichotomy A C with hl | hl | hl
        · have SI := hid (SL.out he hl)
          have s1 : s = -1 := by rw [← HSS.out]; unfold cmpI; rw [if_pos hl]
          subst s1
          obtain ⟨⟨g0, g1, g2, g3⟩, k0, k1, k2, k3⟩ := S6.out.2.1.cells
          have LE : Hid (A ≤ C) := Int.le_of_lt hl
          clear SP SG SL SE HSS hl
          go_upto_region 11 with fail
          have SX := hid (S6.out.sign (.bool n2))
          have BX := hid (B6.out.setCell (p := ⟨w4.heap.size, 0, none⟩) (Nat.le_refl _) (.bool n2))
          generalize hW : w6.setCell ⟨w4.heap.size, 0, none⟩ (.bool n2) = w66 at *
          clear hW g0 g1 g2 g3 k0 k1 k2 k3 c0 c1 c2 c3 d0 d1 d2 d3 S6 B6
          have LS := hid (less_any r2 r1 _ _ _ _ os2 os1 w66 (AY.out.below BX.out (Nat.le_refl _)) (AX.out.below BX.out (Nat.le_refl _)) (by have := TY.out.1; omega) (by rw [VX.out, VY.out]; exact LE.out))
          rw [VX.out, VY.out] at LS
          clear AX AY VX VY TX TY LE
          obtain ⟨⟨c0, c1, c2, c3⟩, d0, d1, d2, d3⟩ := SX.out.1.flat
          go_wp2_with fail
          with_reducible refine LS.out.mono ?_
          rintro r w7 ⟨r7, os7, rfl, A7, hB7⟩
          clear LS
          have S7 := hid (SX.out.on hB7)
          have AR7 := hid (A7.arg (by have := (A7.tl (K := 4400) (BD.out.2.2.2.2) (by omega)).2.1; omega))
          have TS7 := hid (A7.tl (K := 4400) (BD.out.2.2.2.2) (by omega)).1
          have V7 := hid A7.2.2.2.1
          have L7 := hid (fun x hx => Nat.le_trans SX.out.lt (A7.2.2.2.2 x hx))
          clear A7 hB7 SX c0 c1 c2 c3 d0 d1 d2 d3
          obtain ⟨⟨g0, g1, g2, g3⟩, k0, k1, k2, k3⟩ := S7.out.2.1.cells
          go_upto_region 18 with fail
          have S8 := hid (S7.out.num (.slice r7 (List.length os7) (List.length os7)))
          have AR8 := hid (set_arg (o := 1) (v := .slice r7 (List.length os7) (List.length os7)) AR7.out (fun x hx => Nat.ne_of_gt (L7.out x hx)))
          generalize hW : w7.setCell ⟨w4.heap.size, 1, none⟩ (.slice r7 (List.length os7) (List.length os7)) = w8 at *
          clear hW AR7 S7 g0 g1 g2 g3 k0 k1 k2 k3
          obtain ⟨⟨g0, g1, g2, g3⟩, -⟩ := S8.out.2.1.cells
          obtain ⟨⟨m0, m1, m2, m3⟩, o0, o1, o2, o3⟩ := S8.out.1.room
          go_wp2_with fail
          (try simp only [Exit.inBlock, Exit.then])
          refine bodyPost_ret (results_cell_row rfl _ _ (w.heap.size + 1 + 1) 83 _ (0, 0) _ rfl (S8.out.1.put _ _ _ _).1 Tryz.underlying83 rfl (by kernel_rfl)) rfl ?_
          exact ⟨_, n2, C - A, M, rfl, ⟨_, _, _, _, _, _, os7, ys, rfl, far_arg AR8.out (fun x hx => Nat.ne_of_gt (Nat.lt_trans S8.out.2.2 (L7.out x hx))), V7.out, TS7.out, Q5.out.1.below (S8.out.1.put _ _ _ _).2 (Nat.le_refl _), Q5.out.2.1, Q5.out.2.2.1, fun x hx => by have := L7.out x hx; have := S8.out.2.2; have := HB0.out; omega, Q5.out.2.2.2⟩, SI.out, (S8.out.1.put _ _ _ _).2⟩
        · have SI := hid (SE.out he hl)
          have s1 : s = 0 := by rw [← HSS.out, hl]; unfold cmpI; rw [if_neg (by omega), if_pos rfl]
          subst s1
          obtain ⟨⟨g0, g1, g2, g3⟩, k0, k1, k2, k3⟩ := S6.out.2.1.cells
          clear SP SG SL SE HSS hl AX AY VX VY TX TY B6
          go_upto_region 18 with fail
          have S8 := hid (S6.out.sign (.bool false))
          generalize hW : w6.setCell ⟨w4.heap.size, 0, none⟩ (.bool false) = w8 at *
          clear hW g0 g1 g2 g3 k0 k1 k2 k3 c0 c1 c2 c3 d0 d1 d2 d3 S6
          obtain ⟨⟨g0, g1, g2, g3⟩, -⟩ := S8.out.2.1.cells
          obtain ⟨⟨m0, m1, m2, m3⟩, o0, o1, o2, o3⟩ := S8.out.1.room
          go_wp2_with fail
          (try simp only [Exit.inBlock, Exit.then])
          refine bodyPost_ret (results_cell_row rfl _ _ (w.heap.size + 1 + 1) 83 _ (0, 0) _ rfl (S8.out.1.put _ _ _ _).1 Tryz.underlying83 rfl (by kernel_rfl)) rfl ?_
          exact ⟨_, false, 0, M, rfl, ⟨_, _, _, _, _, _, [], ys, rfl, nil_arg _, rfl, by simp [Nm.tsize], Q5.out.1.below (S8.out.1.put _ _ _ _).2 (Nat.le_refl _), Q5.out.2.1, Q5.out.2.2.1, none_far B, Q5.out.2.2.2⟩, SI.out, (S8.out.1.put _ _ _ _).2⟩
        · have SI := hid (SG.out he hl)
          have s1 : s = 1 := by rw [← HSS.out]; unfold cmpI; rw [if_neg (by omega), if_neg (by omega)]
          subst s1
          have LS := hid (less_any r1 r2 _ _ _ _ os1 os2 w6 (AX.out.below B6.out (Nat.le_refl _)) (AY.out.below B6.out (Nat.le_refl _)) (by have := TX.out.1; omega) (by rw [VX.out, VY.out]; omega))
          rw [VX.out, VY.out] at LS
          clear SP SG SL SE HSS hl AX AY VX VY TX TY
          go_wp2_with fail
          with_reducible refine LS.out.mono ?_
          rintro r w7 ⟨r7, os7, rfl, A7, hB7⟩
          clear LS
          have S7 := hid (S6.out.on hB7)
          have AR7 := hid (A7.arg (by have := (A7.tl (K := 4400) (BD.out.2.2.2.1) (by omega)).2.1; omega))
          have TS7 := hid (A7.tl (K := 4400) (BD.out.2.2.2.1) (by omega)).1
          have V7 := hid A7.2.2.2.1
          have L7 := hid (fun x hx => Nat.le_trans S6.out.lt (A7.2.2.2.2 x hx))
          clear A7 hB7 S6 c0 c1 c2 c3 d0 d1 d2 d3
          obtain ⟨⟨g0, g1, g2, g3⟩, k0, k1, k2, k3⟩ := S7.out.2.1.cells
          go_upto_region 18 with fail
          have S8 := hid (S7.out.num (.slice r7 (List.length os7) (List.length os7)))
          have AR8 := hid (set_arg (o := 1) (v := .slice r7 (List.length os7) (List.length os7)) AR7.out (fun x hx => Nat.ne_of_gt (L7.out x hx)))
          generalize hW : w7.setCell ⟨w4.heap.size, 1, none⟩ (.slice r7 (List.length os7) (List.length os7)) = w8 at *
          clear hW AR7 S7 g0 g1 g2 g3 k0 k1 k2 k3
          obtain ⟨⟨g0, g1, g2, g3⟩, -⟩ := S8.out.2.1.cells
          obtain ⟨⟨m0, m1, m2, m3⟩, o0, o1, o2, o3⟩ := S8.out.1.room
          go_wp2_with fail
          (try simp only [Exit.inBlock, Exit.then])
          refine bodyPost_ret (results_cell_row rfl _ _ (w.heap.size + 1 + 1) 83 _ (0, 0) _ rfl (S8.out.1.put _ _ _ _).1 Tryz.underlying83 rfl (by kernel_rfl)) rfl ?_
          exact ⟨_, n1, A - C, M, rfl, ⟨_, _, _, _, _, _, os7, ys, rfl, far_arg AR8.out (fun x hx => Nat.ne_of_gt (Nat.lt_trans S8.out.2.2 (L7.out x hx))), V7.out, TS7.out, Q5.out.1.below (S8.out.1.put _ _ _ _).2 (Nat.le_refl _), Q5.out.2.1, Q5.out.2.2.1, fun x hx => by have := L7.out x hx; have := S8.out.2.2; have := HB0.out; omega, Q5.out.2.2.2⟩, SI.out, (S8.out.1.put _ _ _ _).2⟩

theorem ysum_any {B : Nat} {w : World} {vx vy : Value} {n1 n2 : Bool} {V1 V2 e1 e2 : Int} (hx : RN B w vx n1 V1 1 e1) (hy : RN B w vy n2 V2 1 e2) (hB0 : B ≤ w.heap.size) (a1 : V1 < 1298074214633706907132624082305024) (b1 : V2 < 1298074214633706907132624082305024) (f0 : -2200 ≤ e1) (f1 : e1 ≤ 2000) (f2 : -2200 ≤ e2) (f3 : e2 ≤ 2000) :
    Calls Tryz.prog 70 #[vx, vy] w fun r w' => SumTold5 B n1 V1 e1 n2 V2 e2 w r w' := by
  by_cases hz : V1 = 0 ∧ V2 = 0
  · obtain ⟨rfl, rfl⟩ := hz
    exact ysum_none hx hy
  · exact ysum_some hx hy hB0 a1 b1 f0 f1 f2 f3 hz
end Go.Proofs.YtdemopkdcnaibaaGreatDoor

namespace Go.Proofs.YtdemopkdcnaibaaGreatDoor
open Go Go.RowKit Go.Deep

namespace Ie
theorem inf_same {a b : Int} (a0 : 0 ≤ a) (a1 : a < 18446744073709551616) (b0 : 0 ≤ b) (b1 : b < 18446744073709551616) (ha : isi a = true) (hb : isi b = true) : ngd a = ngd b ↔ a = b := by
  have ha1 : a % 9223372036854775808 = 9218868437227405312 := of_decide_eq_true ha
  have hb1 : b % 9223372036854775808 = 9218868437227405312 := of_decide_eq_true hb
  simp only [ngd, decide_eq_decide]
  constructor
  · intro h
    by_cases c : 9223372036854775808 ≤ a
    · have := h.1 c; omega
    · have : ¬ 9223372036854775808 ≤ b := fun d => c (h.2 d)
      omega
  · rintro rfl; exact Iff.rfl
end Ie

def AddTold5 (a b : Int) (w : World) (r : Ending) (w' : World) : Prop := ∃ x, r = .returned (.int .u64 x) ∧ Ie.AddR a b x ∧ Below w.heap.size w w'

set_option maxRecDepth 100000 in
set_option maxHeartbeats 4000000 in
theorem yadd_any (a b : Int) (w : World) (a0 : 0 ≤ a) (a1 : a < 18446744073709551616) (b0 : 0 ≤ b) (b1 : b < 18446744073709551616) :
    Calls Tryz.prog 68 #[.int .u64 a, .int .u64 b] w fun e w' => AddTold5 a b w e w' := by
  have GA := hid (fun wx => yngd_any a wx)
  have GB := hid (fun wx => yngd_any b wx)
  have AN := hid (fun wx => yanynan_any a b wx a0 a1 b0 b1)
  have IA := hid (fun wx => yinf_any a wx a0 a1)
  have IB := hid (fun wx => yinf_any b wx b0 b1)
  have FF : Hid (∀ x w', Ie.AddR a b x → Below w.heap.size w w' → AddTold5 a b w (.returned (.int .u64 x)) w') := fun x w' h k => ⟨x, rfl, h, k⟩
  have BR := hid (Below.refl w.heap.size w)
  have SM := hid (Ie.inf_same a0 a1 b0 b1)
  have RA : Hid (Ie.isn a = false → Ie.isi a = false → Ie.isn b = false → Ie.isi b = false → (∀ wx, Calls Tryz.prog 72 #[.int .u64 a] wx (fun r w' => NumTold5 (Ie.ngd a) (Ie.dm a) 1 (Ie.de a) wx r w')) ∧ (∀ wx, Calls Tryz.prog 72 #[.int .u64 b] wx (fun r w' => NumTold5 (Ie.ngd b) (Ie.dm b) 1 (Ie.de b) wx r w')) ∧ Ie.fin a ∧ Ie.fin b ∧ (Ie.dm a < 1298074214633706907132624082305024 ∧ Ie.dm b < 1298074214633706907132624082305024) ∧ (-2200 ≤ Ie.de a ∧ Ie.de a ≤ 2000) ∧ -2200 ≤ Ie.de b ∧ Ie.de b ≤ 2000) := fun h1 h2 h3 h4 => by
    have fa := Ie.fin_of h1 h2
    have fb := Ie.fin_of h3 h4
    obtain ⟨⟨da0, da1⟩, ⟨ea0, ea1⟩, _, _⟩ := Ie.dec_f a fa
    obtain ⟨⟨db0, db1⟩, ⟨eb0, eb1⟩, _, _⟩ := Ie.dec_f b fb
    exact ⟨fun wx => yof2 a _ _ _ wx a0 a1 rfl rfl rfl da0 da1, fun wx => yof2 b _ _ _ wx b0 b1 rfl rfl rfl db0 db1, fa, fb, ⟨by omega, by omega⟩, ⟨by omega, by omega⟩, by omega, by omega⟩
  have UN : Hid (∀ r, Ie.AddR a b r = (if Ie.isn a = true ∨ Ie.isn b = true then r = 9221120237041090560 else if Ie.isi a = true ∧ Ie.isi b = true ∧ a ≠ b then r = 9221120237041090560 else if Ie.isi a = true then r = a else if Ie.isi b = true then r = b else Ie.RS (Ie.uv a + Ie.uv b) 1 (Ie.ngd a && Ie.ngd b) r)) := fun r => rfl
  clear a0 a1 b0 b1
  by_cases hn : (Ie.isn a || Ie.isn b) = true
  · have hn2 : Ie.isn a = true ∨ Ie.isn b = true := by simpa using hn
    rw [hn] at AN
    have F := hid (FF.out 9221120237041090560 w (by rw [UN.out]; simp [hn2]) BR.out)
    clear FF UN RA BR SM
    go_enter Tryz.func68, Tryz.ntmps68
    go_wp2_with (first | (go_at_call 66; first | (with_reducible refine (GA.out _).mono ?_; rintro e w' ⟨rfl, rfl⟩) | (with_reducible refine (GB.out _).mono ?_; rintro e w' ⟨rfl, rfl⟩)) | (go_at_call 62; first | (with_reducible refine (AN.out _).mono ?_; rintro e w' ⟨rfl, rfl⟩)) | (go_at_call 64; first | (with_reducible refine (IA.out _).mono ?_; rintro e w' ⟨rfl, rfl⟩) | (with_reducible refine (IB.out _).mono ?_; rintro e w' ⟨rfl, rfl⟩)))
    go_ret
    exact F.out
  have h1 : Ie.isn a = false := by cases c : Ie.isn a; rfl; simp [c] at hn
  have h2 : Ie.isn b = false := by cases c : Ie.isn b; rfl; simp [c] at hn
  rw [h1, h2] at AN
  clear hn
  cases h3 : Ie.isi a
  · rw [h3] at IA
    cases h4 : Ie.isi b
    · rw [h4] at IB
      obtain ⟨OA, OB, fa, fb, ⟨ma, mb⟩, ⟨ea0, ea1⟩, eb0, eb1⟩ := RA.out h1 h3 h2 h4
      have HA := hid OA
      have HB := hid OB
      have KK : Hid (∀ neg V m x w', Ie.SumIs (Ie.ngd a) (Ie.dm a) (Ie.de a) (Ie.ngd b) (Ie.dm b) (Ie.de b) neg V m → Ie.Rnd V 1 m false x → Below w.heap.size w w' → AddTold5 a b w (.returned (.int .u64 (Ie.sg neg x))) w') := fun neg V m x w' hS hR k => FF.out _ w' (by rw [UN.out]; simp only [h1, h2, h3, h4, Bool.false_eq_true, or_self, false_and, if_false]; exact Ie.yadd_rs fa fb hS hR) k
      clear OA OB fa fb FF UN RA BR SM
      go_enter Tryz.func68, Tryz.ntmps68
      go_wp2_with (first | (go_at_call 66; first | (with_reducible refine (GA.out _).mono ?_; rintro e w' ⟨rfl, rfl⟩) | (with_reducible refine (GB.out _).mono ?_; rintro e w' ⟨rfl, rfl⟩)) | (go_at_call 62; first | (with_reducible refine (AN.out _).mono ?_; rintro e w' ⟨rfl, rfl⟩)) | (go_at_call 64; first | (with_reducible refine (IA.out _).mono ?_; rintro e w' ⟨rfl, rfl⟩) | (with_reducible refine (IB.out _).mono ?_; rintro e w' ⟨rfl, rfl⟩)))
      with_reducible refine (HA.out _).mono ?_
      rintro r w1 ⟨v1, rfl, N1, hB1⟩
      go_wp2_with fail
      with_reducible refine (HB.out _).mono ?_
      rintro r w2 ⟨v2, rfl, N2, hB2⟩
      have PR := hid (ysum_any (N1.on hB2) (N2.lower hB1.size) (Nat.le_trans hB1.size hB2.size) ma mb ea0 ea1 eb0 eb1)
      have B2 := hid (bel hB1 hB2)
      clear N1 N2 hB1 hB2 HA HB
      go_wp2_with fail
      with_reducible refine PR.out.mono ?_
      rintro r w3 ⟨v3, neg, V, m, rfl, N3, hS, hB3⟩
      have YR := hid (yrounded_any N3 (by omega))
      have B3 := hid (bel B2.out hB3)
      have HS := hid hS
      clear N3 hB3 PR B2 hS
      go_wp2_with fail
      with_reducible refine YR.out.mono ?_
      rintro r w4 ⟨x, rfl, R, hB4⟩
      have F := hid (KK.out neg V m x w4 HS.out R (bel B3.out hB4))
      clear R hB4 YR KK B3 HS
      go_wp2_with fail
      go_ret
      exact F.out
    · rw [h4] at IB
      have F := hid (FF.out b w (by rw [UN.out]; simp [h1, h2, h3, h4]) BR.out)
      clear FF UN RA BR SM
      go_enter Tryz.func68, Tryz.ntmps68
      go_wp2_with (first | (go_at_call 66; first | (with_reducible refine (GA.out _).mono ?_; rintro e w' ⟨rfl, rfl⟩) | (with_reducible refine (GB.out _).mono ?_; rintro e w' ⟨rfl, rfl⟩)) | (go_at_call 62; first | (with_reducible refine (AN.out _).mono ?_; rintro e w' ⟨rfl, rfl⟩)) | (go_at_call 64; first | (with_reducible refine (IA.out _).mono ?_; rintro e w' ⟨rfl, rfl⟩) | (with_reducible refine (IB.out _).mono ?_; rintro e w' ⟨rfl, rfl⟩)))
      go_ret
      exact F.out
  · rw [h3] at IA
    cases h4 : Ie.isi b
    · rw [h4] at IB
      have F := hid (FF.out a w (by rw [UN.out]; simp [h1, h2, h3, h4]) BR.out)
      clear FF UN RA BR SM
      go_enter Tryz.func68, Tryz.ntmps68
      go_wp2_with (first | (go_at_call 66; first | (with_reducible refine (GA.out _).mono ?_; rintro e w' ⟨rfl, rfl⟩) | (with_reducible refine (GB.out _).mono ?_; rintro e w' ⟨rfl, rfl⟩)) | (go_at_call 62; first | (with_reducible refine (AN.out _).mono ?_; rintro e w' ⟨rfl, rfl⟩)) | (go_at_call 64; first | (with_reducible refine (IA.out _).mono ?_; rintro e w' ⟨rfl, rfl⟩) | (with_reducible refine (IB.out _).mono ?_; rintro e w' ⟨rfl, rfl⟩)))
      go_ret
      exact F.out
    · rw [h4] at IB
      by_cases hs : a = b
      · have F := hid (FF.out a w (by rw [UN.out, if_neg (by simp [h1, h2]), if_neg (fun c => c.2.2 hs), if_pos h3]) BR.out)
        have hg : (Ie.ngd a == Ie.ngd b) = true := by rw [beq_iff_eq]; exact (SM.out h3 h4).2 hs
        have HS := hid hs
        clear FF UN RA BR SM hs
        obtain ⟨ga, hga⟩ : ∃ g, Ie.ngd a = g := ⟨_, rfl⟩
        obtain ⟨gb, hgb⟩ : ∃ g, Ie.ngd b = g := ⟨_, rfl⟩
        rw [hga] at GA
        rw [hgb] at GB
        rw [hga, hgb] at hg
        clear hga hgb
        go_enter Tryz.func68, Tryz.ntmps68
        go_wp2_with (first | (go_at_call 66; first | (with_reducible refine (GA.out _).mono ?_; rintro e w' ⟨rfl, rfl⟩) | (with_reducible refine (GB.out _).mono ?_; rintro e w' ⟨rfl, rfl⟩)) | (go_at_call 62; first | (with_reducible refine (AN.out _).mono ?_; rintro e w' ⟨rfl, rfl⟩)) | (go_at_call 64; first | (with_reducible refine (IA.out _).mono ?_; rintro e w' ⟨rfl, rfl⟩) | (with_reducible refine (IB.out _).mono ?_; rintro e w' ⟨rfl, rfl⟩)))
        go_ret
        exact F.out
      · have F := hid (FF.out 9221120237041090560 w (by rw [UN.out]; simp [h1, h2, h3, h4, hs]) BR.out)
        have hg : (Ie.ngd a == Ie.ngd b) = false := by rw [beq_eq_false_iff_ne]; exact fun c => hs ((SM.out h3 h4).1 c)
        clear FF UN RA BR SM hs
        obtain ⟨ga, hga⟩ : ∃ g, Ie.ngd a = g := ⟨_, rfl⟩
        obtain ⟨gb, hgb⟩ : ∃ g, Ie.ngd b = g := ⟨_, rfl⟩
        rw [hga] at GA
        rw [hgb] at GB
        rw [hga, hgb] at hg
        clear hga hgb
        go_enter Tryz.func68, Tryz.ntmps68
        go_wp2_with (first | (go_at_call 66; first | (with_reducible refine (GA.out _).mono ?_; rintro e w' ⟨rfl, rfl⟩) | (with_reducible refine (GB.out _).mono ?_; rintro e w' ⟨rfl, rfl⟩)) | (go_at_call 62; first | (with_reducible refine (AN.out _).mono ?_; rintro e w' ⟨rfl, rfl⟩)) | (go_at_call 64; first | (with_reducible refine (IA.out _).mono ?_; rintro e w' ⟨rfl, rfl⟩) | (with_reducible refine (IB.out _).mono ?_; rintro e w' ⟨rfl, rfl⟩)))
        go_ret
        exact F.out

set_option maxRecDepth 100000 in
theorem ysub_any (a b : Int) (w : World) (a0 : 0 ≤ a) (a1 : a < 18446744073709551616) (b0 : 0 ≤ b) (b1 : b < 18446744073709551616) :
    Calls Tryz.prog 179 #[.int .u64 a, .int .u64 b] w fun e w' => AddTold5 a (Ie.ng b) w e w' := by
  have nb : 0 ≤ Ie.ng b ∧ Ie.ng b < 18446744073709551616 := by unfold Ie.ng; split <;> omega
  have NG := hid (yneg_any b w b0 b1)
  have AD := hid (yadd_any a (Ie.ng b) w a0 a1 nb.1 nb.2)
  clear a0 a1 b0 b1 nb
  go_enter Tryz.func179, Tryz.ntmps179
  go_wp2_with fail
  with_reducible refine NG.out.mono ?_
  rintro e w' ⟨rfl, rfl⟩
  go_wp2_with fail
  with_reducible refine AD.out.mono ?_
  rintro e w1 ⟨x, rfl, hx, hB⟩
  have F : Hid (AddTold5 a (Ie.ng b) w' (.returned (.int .u64 x)) w1) := ⟨x, rfl, hx, hB⟩
  clear hx hB AD NG
  go_wp2_with fail
  go_ret
  exact F.out
end Go.Proofs.YtdemopkdcnaibaaGreatDoor

namespace Go.Proofs.YtdemopkdcnaibaaGreatDoor

/-- There is always a nearest double. -/
theorem near_ex (P Q : Int) : ∃ x, Ie.Near P Q false x := by
  have step : ∀ k : Nat, (∃ x, Ie.Near P Q false x) ∨ ((k : Int) ≤ 9218868437227405312 → 0 < (k : Int) → Ie.md (k - 1) * Q < P ∨ (Ie.md (k - 1) * Q = P ∧ (k : Int) % 2 = 0)) := by
    intro k
    induction k with
    | zero => exact .inr (fun _ h => absurd h (by simp))
    | succ k ih =>
      rcases ih with ih | ih
      · exact .inl ih
      · rcases (show (k : Int) < 9218868437227405312 ∨ 9218868437227405312 ≤ (k : Int) by omega) with hk | hk
        · by_cases hu : P < Ie.md k * Q ∨ (P = Ie.md k * Q ∧ (k : Int) % 2 = 0)
          · left
            refine ⟨k, ⟨by omega, by omega⟩, fun h => ?_, fun _ => ?_⟩
            · rcases ih (by omega) h with g | ⟨g, g'⟩
              · exact .inl g
              · exact .inr ⟨g, .inl g'⟩
            · rcases hu with g | ⟨g, g'⟩
              · exact .inl g
              · exact .inr ⟨g, g', rfl⟩
          · right
            intro _ _
            rw [show ((k + 1 : Nat) : Int) - 1 = k by omega]
            rcases Int.lt_trichotomy (Ie.md k * Q) P with g | g | g
            · exact .inl g
            · refine .inr ⟨g, ?_⟩
              have : ¬ (k : Int) % 2 = 0 := fun c => hu (.inr ⟨g.symm, c⟩)
              omega
            · exact absurd (.inl g) hu
        · right
          intro h; omega
  rcases step 9218868437227405312 with h | h
  · exact h
  · refine ⟨9218868437227405312, ⟨by decide, by decide⟩, fun _ => ?_, fun h => absurd h (by decide)⟩
    rcases h (by decide) (by decide) with g | ⟨g, g'⟩
    · exact .inl g
    · exact .inr ⟨g, .inl g'⟩

end Go.Proofs.YtdemopkdcnaibaaGreatDoor

namespace Go.Proofs.YtdemopkdcnaibaaGreatDoor
open Go Go.RowKit Go.Deep

namespace Ie
theorem wis_ex (d : Int) (up : Bool) (h0 : 0 ≤ d) (h1 : d < 18446744073709551616) : ∃ r, WIs d up r := by
  by_cases hn : isn d = true
  · refine ⟨9221120237041090560, fun _ => rfl, fun k => ?_, fun k => ?_⟩
    · simp only [isn, isi, decide_eq_true_iff] at hn k; omega
    · simp only [isn, fin, decide_eq_true_iff] at hn k; omega
  · by_cases hi : isi d = true
    · exact ⟨d, wis_stay up h0 h1 (.inl hi)⟩
    · have hf : fin d := by
        simp only [isn, isi, decide_eq_true_iff] at hn hi
        rw [fin]; omega
      cases hg : intg d with
      | true => exact ⟨d, wis_stay up h0 h1 (.inr ⟨hf, hg⟩)⟩
      | false =>
        have b := un_half hf hg
        have c := wup_bd up b.1 b.2
        obtain ⟨y, y0, y1, y2⟩ := un_rep 1074 _ c.1 c.2 (by omega)
        refine ⟨sg (ngd d) y, fun k => absurd k hn, fun k => absurd k hi, fun _ => ⟨y, rfl, y0, y1, fun k => ?_, fun _ => y2⟩⟩
        rw [hg] at k; cases k
theorem wis_bd {d r : Int} {up : Bool} (h0 : 0 ≤ d) (h1 : d < 18446744073709551616) (h : WIs d up r) : 0 ≤ r ∧ r < 18446744073709551616 := by
  by_cases hn : isn d = true
  · rw [h.1 hn]; omega
  · by_cases hi : isi d = true
    · rw [h.2.1 hi]; omega
    · have hf : fin d := by
        simp only [isn, isi, decide_eq_true_iff] at hn hi
        rw [fin]; omega
      obtain ⟨y, rfl, y0, y1, _⟩ := h.2.2 hf
      rw [sg]; split <;> omega
theorem adr_bd {a b r : Int} (a0 : 0 ≤ a ∧ a < 18446744073709551616) (b0 : 0 ≤ b ∧ b < 18446744073709551616) (h : AddR a b r) : 0 ≤ r ∧ r < 18446744073709551616 := by
  unfold AddR at h
  split at h
  · omega
  split at h
  · omega
  split at h
  · omega
  split at h
  · omega
  obtain ⟨neg, V, x, rfl, _, _, hN, _⟩ := h
  have := hN.1.1
  have := hN.1.2
  simp only [sb]; split <;> omega
theorem rs_ex20 (S Q : Int) (z : Bool) : ∃ r, RS S Q z r := by
  rcases Int.lt_trichotomy S 0 with h | h | h
  · obtain ⟨x, hx⟩ := near_ex (2 * -S) Q
    exact ⟨_, true, -S, x, rfl, by simp [sn], by omega, hx, fun c => by omega⟩
  · obtain ⟨x, hx⟩ := near_ex (2 * 0) Q
    exact ⟨_, z, 0, x, rfl, by rw [sn_zero]; exact h, by omega, hx, fun _ => rfl⟩
  · obtain ⟨x, hx⟩ := near_ex (2 * S) Q
    exact ⟨_, false, S, x, rfl, by simp [sn], by omega, hx, fun c => by omega⟩
theorem adr_ex (a b : Int) : ∃ r, AddR a b r := by
  unfold AddR
  split
  · exact ⟨_, rfl⟩
  split
  · exact ⟨_, rfl⟩
  split
  · exact ⟨_, rfl⟩
  split
  · exact ⟨_, rfl⟩
  exact rs_ex20 _ _ _
theorem adr_nan {a b r : Int} (h : AddR a b r) (k : isn a = true) : isn r = true := by
  unfold AddR at h
  rw [if_pos (.inl k)] at h
  rw [h]; decide
end Ie

namespace Ch
/-- What the reference answers. -/
def rsb (s : ByteArray) (x r : Int) : ByteArray := if Ie.isn r = true then ⟨#[]⟩ else ct s (max 1 (Ie.wh20 x)) (min (Ie.wh20 r) ((s.size : Int) + 1))
theorem rsb_pcs {s : ByteArray} {x r : Int} (hs : (s.size : Int) + 1 ≤ 1099511627776) (h : Ie.isn x = true → Ie.isn r = true) : pcs s x r = rsb s x r := by
  rw [pcs, rsb]
  by_cases k : Ie.isn r = true
  · rw [if_pos (.inr k), if_pos k]
  · rw [if_neg (fun z => z.elim (fun z => k (h z)) k), if_neg k, Ie.pls_wh (by omega) hs, Ie.pls_wh (by omega) hs, ct_same (by omega)]
/-- .. of From. -/
def rfr (s : ByteArray) (x : Int) : ByteArray := if Ie.isn x = true then ⟨#[]⟩ else ct s (max 1 (Ie.wh20 x)) ((s.size : Int) + 1)
theorem rfr_pcs {s : ByteArray} {x : Int} (hs : (s.size : Int) + 1 ≤ 1099511627776) : pcs s x 9218868437227405312 = rfr s x := by
  rw [pcs, rfr, pls_inf (by omega) (by omega)]
  by_cases k : Ie.isn x = true
  · rw [if_pos (.inl k), if_pos k]
  · rw [if_neg (fun z => z.elim k (by decide)), if_neg k, Ie.pls_wh (by omega) hs, ct, ct]
    by_cases h : max 1 (Ie.wh20 x) < (s.size : Int) + 1
    · rw [if_pos h, if_pos (by omega), show max 1 (min ((s.size : Int) + 1) (Ie.wh20 x)) = max 1 (Ie.wh20 x) by omega]
    · rw [if_neg h, if_neg (by omega)]
end Ch

set_option maxRecDepth 100000 in
set_option maxHeartbeats 2000000 in
theorem rwhole20_any (d : Int) (w : World) (d0 : 0 ≤ d) (d1 : d < 18446744073709551616) (ok : Ie.okd d = true) :
    Calls Tryz.prog 88 #[.int .u64 d] w fun e w' => e = .returned (.int .i64 (Ie.wh20 d)) ∧ Below w.heap.size w w' := by
  obtain ⟨k, hk⟩ : ∃ k : Int, k = 1099511627776 := ⟨_, rfl⟩
  obtain ⟨X, hX⟩ := Ie.wd_ex (k := k) (by omega) (by omega)
  have x0 := hX.1
  have x1 := hX.2.1
  have F1 : Hid (∀ wx, Calls Tryz.prog 38 #[.int .i64 1099511627776] wx fun e w' => e = .returned (.int .u64 X) ∧ Below wx.heap.size wx w') := fun wx => by
    refine (zfromI_nn 1099511627776 wx (by omega) (by omega)).mono ?_
    rintro e w' ⟨x, rfl, h, b⟩
    rw [← hk] at h
    exact ⟨by rw [(Ie.wd_rnd (by omega) (by omega) h).one hX], b⟩
  have F2 : Hid (∀ wx, Calls Tryz.prog 38 #[.int .i64 (-1099511627776)] wx fun e w' => e = .returned (.int .u64 (X + 9223372036854775808)) ∧ Below wx.heap.size wx w') := fun wx => by
    refine (zfromI_ng (-1099511627776) wx (by omega) (by omega)).mono ?_
    rintro e w' ⟨x, rfl, h, b⟩
    rw [show -(-1099511627776 : Int) = k by omega] at h
    exact ⟨by rw [(Ie.wd_rnd (by omega) (by omega) h).one hX], b⟩
  have C1 := hid (fun wx => zcompare_any d X wx d0 d1 x0 (by omega))
  have C2 := hid (fun wx => zcompare_any d (X + 9223372036854775808) wx d0 d1 (by omega) (by omega))
  have K1 := (Ie.cmv_wd hX (by omega) d0 d1 ok).2
  have K2 := Ie.cmv_ng hX (by omega) d0 d1 ok
  have W0 := Ie.whp_nn d
  by_cases a : Ie.ngd d = false ∧ k * 2 ^ 1074 < Ie.un (Ie.ab d)
  · have c := K1.2 a
    have E : Hid (Ie.wh20 d = 1099511627776) := by
      have := Ie.wh_far hk a.2
      rw [Hid, Ie.wh20, a.1, if_neg (by decide)]; omega
    generalize Ie.cmv d X = c1 at *
    clear K1 K2 a hX ok F2 C2 W0 hk
    go_enter Tryz.func88, Tryz.ntmps88
    go_wp2_with fail
    refine (F1.out _).mono ?_
    rintro e w1 ⟨rfl, hB⟩
    have HB := hid hB
    clear hB F1
    go_wp2_with fail
    refine (C1.out _).mono ?_
    rintro e w2 ⟨rfl, hw⟩
    rw [hw]
    clear hw C1
    go_wp2_with fail
    go_ret
    exact ⟨by rw [E.out]; rfl, HB.out⟩
  · have c : ¬ 0 < Ie.cmv d X := fun h => a (K1.1 h)
    by_cases b : Ie.ngd d = true ∧ k * 2 ^ 1074 < Ie.un (Ie.ab d)
    · have cc := K2.2 b
      have E : Hid (Ie.wh20 d = -1099511627776) := by
        have := Ie.wh_far hk b.2
        rw [Hid, Ie.wh20, b.1, if_pos rfl]; omega
      generalize Ie.cmv d X = c1 at *
      generalize Ie.cmv d (X + 9223372036854775808) = c2 at *
      clear K1 K2 a b hX ok W0 hk
      go_enter Tryz.func88, Tryz.ntmps88
      go_wp2_with fail
      refine (F1.out _).mono ?_
      rintro e w1 ⟨rfl, hB⟩
      have HB := hid hB
      clear hB F1
      go_wp2_with fail
      refine (C1.out _).mono ?_
      rintro e w2 ⟨rfl, hw⟩
      rw [hw]
      clear hw C1
      go_wp2_with fail
      refine (F2.out _).mono ?_
      rintro e w2 ⟨rfl, hB⟩
      have HC := hid (below_on HB.out hB)
      clear hB F2 HB
      go_wp2_with fail
      refine (C2.out _).mono ?_
      rintro e w3 ⟨rfl, hw⟩
      rw [hw]
      clear hw C2
      go_wp2_with fail
      go_ret
      exact ⟨by rw [E.out]; rfl, HC.out⟩
    · have cc : ¬ Ie.cmv d (X + 9223372036854775808) < 0 := fun h => b (K2.1 h)
      have le : Ie.un (Ie.ab d) ≤ k * 2 ^ 1074 := by
        rcases Int.lt_or_le (k * 2 ^ 1074) (Ie.un (Ie.ab d)) with g | g
        · exfalso
          cases hn : Ie.ngd d
          · exact a ⟨hn, g⟩
          · exact b ⟨hn, g⟩
        · exact g
      have W1 := Ie.wh_near hk le
      have fd := Ie.fin_le hX le
      have TI : Hid (∀ wx, Calls Tryz.prog 40 #[.int .u64 d] wx fun e w' => ∃ f, e = .returned (.tuple #[.int .i64 (Ie.wh20 d), .int .i64 f]) ∧ Below wx.heap.size wx w') := fun wx => by
        refine (ztoInt_fin d wx d0 d1 fd (Ie.ngd d) rfl (Ie.whp (Ie.ab d)) rfl W0 (Ie.pw4096 (by omega))).mono ?_
        rintro e w' ⟨j, f, rfl, h, hB⟩
        rcases h with ⟨_, hj, _⟩ | ⟨h, _, _⟩
        · refine ⟨f, ?_, hB⟩
          have : j = Ie.wh20 d := by
            rw [hj, Ie.wh20]
            split <;> omega
          rw [this]
        · exfalso
          revert h
          split <;> omega
      generalize Ie.cmv d X = c1 at *
      generalize Ie.cmv d (X + 9223372036854775808) = c2 at *
      generalize Ie.wh20 d = V at *
      clear K1 K2 a b hX ok W0 hk le W1 fd
      go_enter Tryz.func88, Tryz.ntmps88
      go_wp2_with fail
      refine (F1.out _).mono ?_
      rintro e w1 ⟨rfl, hB⟩
      have HB := hid hB
      clear hB F1
      go_wp2_with fail
      refine (C1.out _).mono ?_
      rintro e w2 ⟨rfl, hw⟩
      rw [hw]
      clear hw C1
      go_wp2_with fail
      refine (F2.out _).mono ?_
      rintro e w2 ⟨rfl, hB⟩
      have HC := hid (below_on HB.out hB)
      clear hB F2 HB
      go_wp2_with fail
      refine (C2.out _).mono ?_
      rintro e w3 ⟨rfl, hw⟩
      rw [hw]
      clear hw C2
      go_wp2_with fail
      refine (TI.out _).mono ?_
      rintro e w3 ⟨f, rfl, hB⟩
      have HD := hid (below_on HC.out hB)
      clear hB TI HC
      go_wp2_with fail
      go_ret
      exact ⟨rfl, HD.out⟩

set_option maxRecDepth 100000 in
set_option maxHeartbeats 2000000 in
theorem rbetween_any (s : ByteArray) (lo hi : Int) (w : World) (hs : s.size ≤ 281474976710656) (l0 : -281474976710660 ≤ lo) (l1 : lo ≤ 281474976710660) (h0 : -281474976710660 ≤ hi) (h1 : hi ≤ 281474976710660) :
    Calls Tryz.prog 87 #[.string s, .int .i64 lo, .int .i64 hi] w fun e w' => e = .returned (.string (Ch.ct s (max 1 lo) (min hi ((s.size : Int) + 1)))) ∧ Below w.heap.size w w' := by
  have hsi : (s.size : Int) ≤ 281474976710656 := by omega
  obtain ⟨a, ha⟩ : ∃ a : Nat, (a : Int) + 1 = max 1 lo := ⟨(max 1 lo - 1).toNat, by omega⟩
  by_cases c : max 1 lo < min hi ((s.size : Int) + 1)
  · obtain ⟨b, hb⟩ : ∃ b : Nat, (b : Int) + 1 = min hi ((s.size : Int) + 1) := ⟨(min hi ((s.size : Int) + 1) - 1).toNat, by omega⟩
    have E : Hid (Ch.ct s (max 1 lo) (min hi ((s.size : Int) + 1)) = s.extract a b) := by
      rw [Hid, Ch.ct, if_pos c, ← ha, ← hb, show ((a : Int) + 1).toNat - 1 = a by omega, show ((b : Int) + 1).toNat - 1 = b by omega]
    have ab : (a : Int) < (b : Int) := by omega
    have bs : (b : Int) ≤ (s.size : Int) := by omega
    have bs2 : b ≤ s.size := by omega
    have wl : 1 ≤ lo → IntKind.i64.wrap (lo - 1) = (a : Int) := fun h => by rw [IntKind.wrap_i64]; omega
    have wh : hi ≤ (s.size : Int) + 1 → IntKind.i64.wrap (hi - 1) = (b : Int) := fun h => by rw [IntKind.wrap_i64]; omega
    have A0 : lo < 1 → a = 0 := fun h => by omega
    have B0 : (s.size : Int) + 1 < hi → b = s.size := fun h => by omega
    have CC : Hid (lo < hi ∨ lo < 1) := by rw [Hid]; omega
    have C2 : Hid ((1 : Int) < hi) := by rw [Hid]; omega
    have C3 : Hid (lo < (s.size : Int) + 1) := by rw [Hid]; omega
    have C4 : Hid ((1 : Int) < (s.size : Int) + 1) := by rw [Hid]; omega
    clear ha hb c
    by_cases e1 : lo < 1 <;> by_cases e2 : (s.size : Int) + 1 < hi
    · have a0 := A0 e1
      have b0 := B0 e2
      subst a0 b0
      have c4 := C4.out
      clear wl wh A0 B0
      go_enter Tryz.func87, Tryz.ntmps87
      go_wp2_with fail
      go_ret
      exact ⟨by rw [E.out, ByteArray.extract_zero_size]; rfl, Below.refl _ _⟩
    · have a0 := A0 e1
      have w2 := wh (by omega)
      subst a0
      have c2 := C2.out
      clear wl wh A0 B0
      go_enter Tryz.func87, Tryz.ntmps87
      go_wp2_with fail
      go_ret
      exact ⟨by rw [E.out]; rfl, Below.refl _ _⟩
    · have b0 := B0 e2
      have w1 := wl (by omega)
      subst b0
      have c3 := C3.out
      clear wl wh A0 B0
      go_enter Tryz.func87, Tryz.ntmps87
      go_wp2_with fail
      go_ret
      exact ⟨by rw [E.out]; rfl, Below.refl _ _⟩
    · have w1 := wl (by omega)
      have w2 := wh (by omega)
      have c1 : lo < hi := by have := CC.out; omega
      clear wl wh A0 B0
      go_enter Tryz.func87, Tryz.ntmps87
      go_wp2_with fail
      go_ret
      exact ⟨by rw [E.out]; rfl, Below.refl _ _⟩
  · have E : Hid (Ch.ct s (max 1 lo) (min hi ((s.size : Int) + 1)) = ⟨#[]⟩) := by rw [Hid, Ch.ct, if_neg c]
    have HC := hid c
    clear c ha
    by_cases e1 : lo < 1 <;> by_cases e2 : (s.size : Int) + 1 < hi
    · have c : ¬ (1 : Int) < (s.size : Int) + 1 := by have := HC.out; omega
      go_enter Tryz.func87, Tryz.ntmps87
      go_wp2_with fail
      go_ret
      exact ⟨by rw [E.out]; rfl, Below.refl _ _⟩
    · have c : ¬ (1 : Int) < hi := by have := HC.out; omega
      go_enter Tryz.func87, Tryz.ntmps87
      go_wp2_with fail
      go_ret
      exact ⟨by rw [E.out]; rfl, Below.refl _ _⟩
    · have c : ¬ lo < (s.size : Int) + 1 := by have := HC.out; omega
      go_enter Tryz.func87, Tryz.ntmps87
      go_wp2_with fail
      go_ret
      exact ⟨by rw [E.out]; rfl, Below.refl _ _⟩
    · have c : ¬ lo < hi := by have := HC.out; omega
      go_enter Tryz.func87, Tryz.ntmps87
      go_wp2_with fail
      go_ret
      exact ⟨by rw [E.out]; rfl, Below.refl _ _⟩
theorem wh20_bd (d : Int) : -281474976710660 ≤ Ie.wh20 d ∧ Ie.wh20 d ≤ 281474976710660 := by
  have := Ie.whp_nn d
  rw [Ie.wh20]; split <;> omega

set_option maxRecDepth 100000 in
set_option maxHeartbeats 2000000 in
theorem rfrom20_any (s : ByteArray) (m x : Int) (w : World) (m0 : 0 ≤ m) (m1 : m < 18446744073709551616) (hx : Ie.WIs m (Ie.nrup (Ie.un (Ie.ab m))) x) (x0 : 0 ≤ x) (x1 : x < 18446744073709551616) (hs : s.size ≤ 281474976710656) :
    Calls Tryz.prog 22 #[.string s, .int .u64 m] w fun e w' => e = .returned (.string (Ch.rfr s x)) ∧ Below w.heap.size w w' := by
  have hsi : (s.size : Int) ≤ 281474976710656 := by omega
  have NX : Hid (Calls Tryz.prog 86 #[.int .u64 m] w fun e w' => e = .returned (.int .u64 x) ∧ Below w.heap.size w w') := by
    refine (uNear_any m w m0 m1).mono ?_
    rintro e w' ⟨r, rfl, h, hB⟩
    exact ⟨by rw [h.one hx], hB⟩
  have NA := hid (fun wx => ynan_any x wx x0 x1)
  have WH := hid (fun wx (k : Ie.okd x = true) => rwhole20_any x wx x0 x1 k)
  have BT := hid (fun wx => rbetween_any s (Ie.wh20 x) ((s.size : Int) + 1) wx hs (wh20_bd x).1 (wh20_bd x).2 (by omega) (by omega))
  rw [Int.min_self] at BT
  have RD : Hid (Ch.rfr s x = if Ie.isn x = true then ⟨#[]⟩ else Ch.ct s (max 1 (Ie.wh20 x)) ((s.size : Int) + 1)) := rfl
  have OK := hid (fun h : Ie.isn x = false => Ch.ok_of h)
  generalize Ie.isn x = nx at *
  generalize Ie.wh20 x = V at *
  generalize Ch.rfr s x = R at *
  clear hx
  cases nx with
  | true =>
    go_enter Tryz.func22, Tryz.ntmps22
    go_wp2_with fail
    refine NX.out.mono ?_
    rintro e w1 ⟨rfl, hB⟩
    have HB := hid hB
    clear hB NX
    go_wp2_with fail
    refine (NA.out _).mono ?_
    rintro e w2 ⟨rfl, hw⟩
    rw [hw]
    clear hw NA
    go_wp2_with fail
    go_ret
    exact ⟨by rw [RD.out]; rfl, HB.out⟩
  | false =>
    have WH := hid (fun wx => WH.out wx (OK.out rfl))
    go_enter Tryz.func22, Tryz.ntmps22
    go_wp2_with fail
    refine NX.out.mono ?_
    rintro e w1 ⟨rfl, hB⟩
    have HB := hid hB
    clear hB NX
    go_wp2_with fail
    refine (NA.out _).mono ?_
    rintro e w2 ⟨rfl, hw⟩
    rw [hw]
    clear hw NA
    go_wp2_with fail
    refine (WH.out _).mono ?_
    rintro e w2 ⟨rfl, hB⟩
    have HC := hid (below_on HB.out hB)
    clear hB WH HB
    go_wp2_with fail
    refine (BT.out _).mono ?_
    rintro e w3 ⟨rfl, hB⟩
    have HD := hid (below_on HC.out hB)
    clear hB BT HC
    go_wp2_with fail
    go_ret
    exact ⟨by rw [RD.out]; rfl, HD.out⟩

set_option maxRecDepth 100000 in
set_option maxHeartbeats 2000000 in
theorem rsubstr20_any (s : ByteArray) (m x n y r : Int) (w : World) (m0 : 0 ≤ m) (m1 : m < 18446744073709551616) (hx : Ie.WIs m (Ie.nrup (Ie.un (Ie.ab m))) x) (x0 : 0 ≤ x) (x1 : x < 18446744073709551616)
    (n0 : 0 ≤ n) (n1 : n < 18446744073709551616) (hy : Ie.WIs n (Ie.nrup (Ie.un (Ie.ab n))) y) (y0 : 0 ≤ y) (y1 : y < 18446744073709551616) (hr : Ie.AddR x y r) (r0 : 0 ≤ r) (r1 : r < 18446744073709551616) (hs : s.size ≤ 281474976710656) :
    Calls Tryz.prog 21 #[.string s, .int .u64 m, .int .u64 n] w fun e w' => e = .returned (.string (Ch.rsb s x r)) ∧ Below w.heap.size w w' := by
  have NX : Hid (Calls Tryz.prog 86 #[.int .u64 m] w fun e w' => e = .returned (.int .u64 x) ∧ Below w.heap.size w w') := by
    refine (uNear_any m w m0 m1).mono ?_
    rintro e w' ⟨r, rfl, h, hB⟩
    exact ⟨by rw [h.one hx], hB⟩
  have NY : Hid (∀ wx, Calls Tryz.prog 86 #[.int .u64 n] wx fun e w' => e = .returned (.int .u64 y) ∧ Below wx.heap.size wx w') := fun wx => by
    refine (uNear_any n wx n0 n1).mono ?_
    rintro e w' ⟨r, rfl, h, hB⟩
    exact ⟨by rw [h.one hy], hB⟩
  have AD : Hid (∀ wx, Calls Tryz.prog 68 #[.int .u64 x, .int .u64 y] wx fun e w' => e = .returned (.int .u64 r) ∧ Below wx.heap.size wx w') := fun wx => by
    refine (yadd_any x y wx x0 x1 y0 y1).mono ?_
    rintro e w' ⟨q, rfl, h, hB⟩
    exact ⟨by rw [h.one hr], hB⟩
  have NA := hid (fun wx => ynan_any r wx r0 r1)
  have NT : Ie.isn r = false → Ie.isn x = false := fun h => by
    cases e : Ie.isn x
    · rfl
    · rw [Ie.adr_nan hr e] at h; cases h
  have WX := hid (fun wx (k : Ie.okd x = true) => rwhole20_any x wx x0 x1 k)
  have WR := hid (fun wx (k : Ie.okd r = true) => rwhole20_any r wx r0 r1 k)
  have BT := hid (fun wx => rbetween_any s (Ie.wh20 x) (Ie.wh20 r) wx hs (wh20_bd x).1 (wh20_bd x).2 (wh20_bd r).1 (wh20_bd r).2)
  have RD : Hid (Ch.rsb s x r = if Ie.isn r = true then ⟨#[]⟩ else Ch.ct s (max 1 (Ie.wh20 x)) (min (Ie.wh20 r) ((s.size : Int) + 1))) := rfl
  have OK := hid (fun h : Ie.isn r = false => And.intro (Ch.ok_of (NT h)) (Ch.ok_of h))
  clear NT
  generalize Ie.isn r = nr at *
  generalize Ie.wh20 x = V at *
  generalize Ie.wh20 r = U at *
  generalize Ch.rsb s x r = R at *
  clear hx hy hr
  cases nr with
  | true =>
    go_enter Tryz.func21, Tryz.ntmps21
    go_wp2_with fail
    refine NX.out.mono ?_
    rintro e w1 ⟨rfl, hB⟩
    have HB := hid hB
    clear hB NX
    go_wp2_with fail
    refine (NY.out _).mono ?_
    rintro e w2 ⟨rfl, hB⟩
    have HC := hid (below_on HB.out hB)
    clear hB NY HB
    go_wp2_with fail
    refine (AD.out _).mono ?_
    rintro e w3 ⟨rfl, hB⟩
    have HD := hid (below_on HC.out hB)
    clear hB AD HC
    go_wp2_with fail
    refine (NA.out _).mono ?_
    rintro e w4 ⟨rfl, hw⟩
    rw [hw]
    clear hw NA
    go_wp2_with fail
    go_ret
    exact ⟨by rw [RD.out]; rfl, HD.out⟩
  | false =>
    have WX := hid (fun wx => WX.out wx (OK.out rfl).1)
    have WR := hid (fun wx => WR.out wx (OK.out rfl).2)
    go_enter Tryz.func21, Tryz.ntmps21
    go_wp2_with fail
    refine NX.out.mono ?_
    rintro e w1 ⟨rfl, hB⟩
    have HB := hid hB
    clear hB NX
    go_wp2_with fail
    refine (NY.out _).mono ?_
    rintro e w2 ⟨rfl, hB⟩
    have HC := hid (below_on HB.out hB)
    clear hB NY HB
    go_wp2_with fail
    refine (AD.out _).mono ?_
    rintro e w3 ⟨rfl, hB⟩
    have HD := hid (below_on HC.out hB)
    clear hB AD HC
    go_wp2_with fail
    refine (NA.out _).mono ?_
    rintro e w4 ⟨rfl, hw⟩
    rw [hw]
    clear hw NA
    go_wp2_with fail
    refine (WX.out _).mono ?_
    rintro e w4 ⟨rfl, hB⟩
    have HE := hid (below_on HD.out hB)
    clear hB WX HD
    go_wp2_with fail
    refine (WR.out _).mono ?_
    rintro e w5 ⟨rfl, hB⟩
    have HF := hid (below_on HE.out hB)
    clear hB WR HE
    go_wp2_with fail
    refine (BT.out _).mono ?_
    rintro e w6 ⟨rfl, hB⟩
    have HG := hid (below_on HF.out hB)
    clear hB BT HF
    go_wp2_with fail
    go_ret
    exact ⟨by rw [RD.out]; rfl, HG.out⟩
end Go.Proofs.YtdemopkdcnaibaaGreatDoor

namespace Go.Proofs.YtdemopkdcnaibaaGreatDoor
open Go

namespace Ie
theorem iw_ex {m : Int} (h0 : -9007199254740992 ≤ m) (h1 : m ≤ 9007199254740992) : ∃ D, Iw m D := by
  rcases (show 0 ≤ m ∨ m < 0 by omega) with h | h
  · obtain ⟨X, hX⟩ := wd_ex h h1
    exact ⟨X, .inl ⟨h, hX⟩⟩
  · obtain ⟨X, hX⟩ := wd_ex (k := -m) (by omega) (by omega)
    exact ⟨_, .inr ⟨h, X, rfl, hX⟩⟩
theorem Iw.one {m D E : Int} (h : Iw m D) (k : Iw m E) : D = E := by
  rcases h with ⟨h0, h⟩ | ⟨h0, X, rfl, h⟩
  · rcases k with ⟨_, k⟩ | ⟨k0, _⟩
    · exact h.one k
    · omega
  · rcases k with ⟨k0, _⟩ | ⟨_, Y, rfl, k⟩
    · omega
    · rw [h.one k]
theorem iw_3 : Iw 3 4613937818241073152 := .inl ⟨by omega, by decide, by decide, by
  rw [un_3, show 1074 = 51 + 1023 by rfl, Nm.two_add, show (6755399441055744 : Int) = 3 * 2 ^ 51 by decide, Int.mul_assoc]⟩
theorem Iw.wis {m D : Int} (h : Iw m D) (up : Bool) : WIs D up D := by
  obtain ⟨a, b, c, _⟩ := h.parts
  exact wis_stay up a b (.inr ⟨c, h.intg⟩)
theorem wis_inf (up : Bool) : WIs 9218868437227405312 up 9218868437227405312 := wis_stay up (by decide) (by decide) (.inl (by decide))
theorem wis_ninf (up : Bool) : WIs 18442240474082181120 up 18442240474082181120 := wis_stay up (by decide) (by decide) (.inl (by decide))
theorem wis_nan (up : Bool) : WIs 9221120237041090560 up 9221120237041090560 :=
  ⟨fun _ => rfl, fun k => absurd k (by decide), fun k => absurd k (by rw [fin]; decide)⟩
theorem Iw.add_inf {m D : Int} (h : Iw m D) : AddR D 9218868437227405312 9218868437227405312 := by
  obtain ⟨a, b⟩ := h.kinds
  unfold AddR
  rw [if_neg (by rw [a]; decide), if_neg (by rw [b]; simp), if_neg (by rw [b]; simp), if_pos (by decide)]
theorem add_nan_r (D : Int) : AddR D 9221120237041090560 9221120237041090560 := by
  unfold AddR
  rw [if_pos (.inr (by decide))]
theorem add_nan_l (D : Int) : AddR 9221120237041090560 D 9221120237041090560 := by
  unfold AddR
  rw [if_pos (.inl (by decide))]
theorem pls_iw {m D L : Int} (h : Iw m D) (L1 : 1 ≤ L) : pls D L = max 1 (min L m) := by rw [pls, h.flr]; omega
end Ie

namespace Ch
theorem pcs_two {s : ByteArray} {m k D G : Int} (h : Ie.Iw m D) (g : Ie.Iw k G) : pcs s D G = ct s (max 1 m) (min k ((s.size : Int) + 1)) := by
  rw [pcs, if_neg (by rw [h.kinds.1, g.kinds.1]; simp), Ie.pls_iw h (by omega), Ie.pls_iw g (by omega), ct_same (by omega)]
theorem ct_le {s : ByteArray} {a L : Int} (L1 : 1 ≤ L) : ct s (max 1 (min L a)) L = ct s (max 1 a) L := by
  rw [ct, ct]
  by_cases h : max 1 a < L
  · rw [if_pos h, if_pos (by omega), show max 1 (min L a) = max 1 a by omega]
  · rw [if_neg h, if_neg (by omega)]
theorem pcs_rest {s : ByteArray} {m D : Int} (h : Ie.Iw m D) (hs : (s.size : Int) + 1 ≤ 9007199254740992) : pcs s D 9218868437227405312 = ct s (max 1 m) ((s.size : Int) + 1) := by
  rw [pcs, if_neg (by rw [h.kinds.1]; decide), Ie.pls_iw h (by omega), pls_inf (by omega) hs, ct_le (by omega)]
theorem pcs_nan_r {s : ByteArray} (D : Int) : pcs s D 9221120237041090560 = ⟨#[]⟩ := by rw [pcs, if_pos (.inr (by decide))]
theorem pcs_nan_l {s : ByteArray} (D : Int) : pcs s 9221120237041090560 D = ⟨#[]⟩ := by rw [pcs, if_pos (.inl (by decide))]
theorem pcs_inf {s : ByteArray} (hs : (s.size : Int) + 1 ≤ 9007199254740992) : pcs s 9218868437227405312 9218868437227405312 = ⟨#[]⟩ := by
  rw [pcs, if_neg (by decide), pls_inf (by omega) hs, ct, if_neg (by omega)]
theorem size0 {s : ByteArray} (h : s.size = 0) : s = ⟨#[]⟩ := by
  obtain ⟨a⟩ := s
  have : a.size = 0 := h
  rw [Array.eq_empty_of_size_eq_zero this]
theorem pcs_ninf {s : ByteArray} (hs : (s.size : Int) + 1 ≤ 9007199254740992) : pcs s 18442240474082181120 9218868437227405312 = s := by
  rw [pcs, if_neg (by decide), pls_inf (by omega) hs, Ie.pls_low (by omega) (.inl (by decide)), ct]
  by_cases h : (1 : Int) < (s.size : Int) + 1
  · rw [if_pos h, show ((s.size : Int) + 1).toNat - 1 = s.size by omega]
    exact ByteArray.extract_zero_size
  · rw [if_neg h]
    exact (size0 (by omega)).symm
theorem ext_app (s : ByteArray) {i j k : Nat} (h : i ≤ j) (h2 : j ≤ k) : s.extract i j ++ s.extract j k = s.extract i k := by
  rw [tx_ext, tx_ext, tx_ext]
  have e : ∀ a b : L8, tx a ++ tx b = tx (a ++ b) := fun a b => by
    apply ByteArray.ext
    simp [tx]
  rw [e]
  congr 1
  obtain ⟨c, rfl⟩ : ∃ c, j = i + c := ⟨j - i, by omega⟩
  obtain ⟨d, rfl⟩ : ∃ d, k = i + c + d := ⟨k - (i + c), by omega⟩
  rw [Nat.add_sub_cancel_left, Nat.add_sub_cancel_left, show i + c + d - i = c + d by omega, ← List.drop_drop, List.take_add]
theorem ct_app {s : ByteArray} {m n L : Int} (hL : L = (s.size : Int) + 1) (n0 : 0 ≤ n) : ct s (max 1 m) (min (m + n) L) ++ ct s (max 1 (m + n)) L = ct s (max 1 m) L := by
  have em : (⟨#[]⟩ : ByteArray) = ByteArray.empty := rfl
  rw [ct, ct, ct, em]
  by_cases h : max 1 m < min (m + n) L
  · rw [if_pos h, if_pos (show max 1 m < L by omega), show max 1 (m + n) = m + n by omega]
    by_cases k : m + n < L
    · rw [if_pos k, show min (m + n) L = m + n by omega]
      exact ext_app s (by omega) (by omega)
    · rw [if_neg k, show min (m + n) L = L by omega, ByteArray.append_empty]
  · rw [if_neg h, ByteArray.empty_append]
    by_cases k : max 1 m < L
    · rw [if_pos k, show max 1 (m + n) = max 1 m by omega, if_pos k]
    · rw [if_neg k, if_neg (by omega)]
end Ch
end Go.Proofs.YtdemopkdcnaibaaGreatDoor

namespace Go.Proofs.YtdemopkdcnaibaaGreatDoor
open Go Go.RowKit Go.Deep Go.Shelf


/-- Texts that can be read. -/
def TR (w : World) (a : Option Addr) (xs : List ByteArray) : Prop := xs = [] ∨ ∃ b off, a = some ⟨b, off, none⟩ ∧ ∀ i x, xs[i]? = some x → w.cell? ⟨b, off + i, none⟩ = some (.string x)
theorem TR.nil (w : World) (a : Option Addr) : TR w a [] := .inl rfl
theorem TR.below {w w' : World} {a : Option Addr} {xs : List ByteArray} {B : Nat} (h : TR w a xs) (hB : Below B w w') (hb : w.heap.size ≤ B) : TR w' a xs := by
  rcases h with rfl | ⟨b, off, rfl, h⟩
  · exact .inl rfl
  · refine .inr ⟨b, off, rfl, fun i x hi => ?_⟩
    have c := h i x hi
    rw [hB.cell (Nat.lt_of_lt_of_le (cell_lt c) hb)]
    exact c
theorem TR.at {w : World} {a : Option Addr} {xs : List ByteArray} (h : TR w a xs) (i : Nat) (hi : i < xs.length) : ∃ b off, a = some ⟨b, off, none⟩ ∧ w.cell? ⟨b, off + i, none⟩ = some (.string (xs.getD i ByteArray.empty)) := by
  rcases h with rfl | ⟨b, off, rfl, h⟩
  · cases hi
  · exact ⟨b, off, rfl, h i _ (by simp [List.getD, List.getElem?_eq_getElem hi])⟩
theorem TR.addr {w : World} {b off : Nat} {xs : List ByteArray} (h : TR w (some ⟨b, off, none⟩) xs) (i : Nat) (hi : i < xs.length) : w.cell? ⟨b, off + i, none⟩ = some (.string (xs.getD i ByteArray.empty)) := by
  obtain ⟨b', off', e, c⟩ := h.at i hi
  cases e
  exact c
theorem TR.drop {w : World} {b off : Nat} {xs : List ByteArray} (h : TR w (some ⟨b, off, none⟩) xs) (k : Nat) : TR w (some ⟨b, off + k, none⟩) (xs.drop k) := by
  rcases h with rfl | ⟨b', off', e, h⟩
  · exact .inl (by simp)
  · cases e
    refine .inr ⟨b, off + k, rfl, fun i x hi => ?_⟩
    rw [List.getElem?_drop] at hi
    rw [Nat.add_assoc]
    exact h _ _ hi
theorem TR.take {w : World} {a : Option Addr} {xs : List ByteArray} (h : TR w a xs) (k : Nat) : TR w a (xs.take k) := by
  rcases h with rfl | ⟨b, off, rfl, h⟩
  · exact .inl (by simp)
  · refine .inr ⟨b, off, rfl, fun i x hi => h i x ?_⟩
    rw [List.getElem?_take] at hi
    by_cases c : i < k
    · rw [if_pos c] at hi; exact hi
    · rw [if_neg c] at hi; cases hi

/-- Texts in a block of our own from base on. -/
def TO (base : Nat) (w : World) (mv : Value) (xs : List ByteArray) : Prop := w.ownsRow base 9 1 mv xs.length (xs.map Value.string)
theorem TO.below {base : Nat} {w w' : World} {mv : Value} {xs : List ByteArray} (h : TO base w mv xs) (hb : Below w.heap.size w w') : TO base w' mv xs :=
  World.ownsRow.kept (row := none) h ⟨hb.os, hb.tape, hb.output, hb.size, fun j hj _ => hb.block j hj⟩ (by cases h : Value.ownBlock mv <;> simp)
theorem TO.mono {base base' : Nat} {w : World} {mv : Value} {xs : List ByteArray} (h : TO base w mv xs) (hb : base' ≤ base) : TO base' w mv xs := by
  refine ⟨h.1, ?_⟩
  rcases h.2 with hn | ⟨g, cap, cur, rfl, hbg, rest⟩
  · exact .inl hn
  · exact .inr ⟨g, cap, cur, rfl, Nat.le_trans hb hbg, rest⟩
theorem TO.nil (base : Nat) (w : World) : TO base w (.slice none 0 0) [] := World.ownsRow_nil _ _ _ _
theorem TO.read {base : Nat} {w : World} {mv : Value} {xs : List ByteArray} (h : TO base w mv xs) : ∃ a cap, mv = .slice a xs.length cap ∧ xs.length ≤ cap ∧ TR w a xs := by
  rcases h.2 with ⟨rfl, h0⟩ | ⟨g, cap, cur, rfl, hb, hg, hl, hm, hs, ht⟩
  · exact ⟨none, 0, by rw [h0], by omega, .inl (List.eq_nil_of_length_eq_zero h0)⟩
  · refine ⟨_, cap, rfl, hl, .inr ⟨g, 0, rfl, fun i x hi => ?_⟩⟩
    have := World.ownsRow.cells h (g := g) rfl i (.string x) (by rw [List.getElem?_map, hi]; rfl)
    rw [Go.WideShapes.add_plain] at this
    exact this
theorem info_str : (Tryz.prog.info? 9).map (fun i => (i.zero, i.size, i.bytes)) = some (some (.string ByteArray.empty), 1, 16) := by kernel_rfl

theorem TO.push {base : Nat} {w : World} {mv : Value} {xs : List ByteArray} (ho : TO base w mv xs) (x : ByteArray) (hn : xs.length < 8796093022000) (hb : base ≤ w.heap.size) :
    ∃ mv' w', (Builtin.append_ #[50, 50] 50 #[mv, .slice (some ⟨w.heap.size, 0, none⟩) 1 1]).run Tryz.prog (w.alloc (.cells #[.string x] 9)) = .ok mv' w' ∧ TO base w' mv' (xs ++ [x]) ∧ w.heap.size ≤ w'.heap.size ∧
      Below base w w' ∧ (∀ j, j < w.heap.size → some j ≠ mv.ownBlock → w'.heap[j]? = w.heap[j]?) := by
  obtain ⟨i, hi, hz⟩ := Option.map_eq_some_iff.1 info_str
  simp only [Prod.mk.injEq] at hz
  obtain ⟨z1, z2, z3⟩ := hz
  have bm : Below w.heap.size w (w.alloc (.cells #[.string x] 9)) := (Below.refl _ _).alloc (Nat.le_refl _) _
  have hs : (w.alloc (.cells #[.string x] 9)).heap.size = w.heap.size + 1 := World.size_alloc _ _
  have ho' := World.ownsRow.alloc ho (.cells #[.string x] 9)
  have hcell : (w.alloc (.cells #[.string x] 9)).cell? ⟨w.heap.size, 0, none⟩ = some (.string x) := by
    have : (w.alloc (.cells #[.string x] 9)).heap[w.heap.size]? = some (.cells #[.string x] 9 (0, 0)) := heap_alloc_new w _
    rw [cell_of_row _ _ _ _ _ _ this]
    rfl
  obtain ⟨v', w', hr, h1, h2, _⟩ := run_append_own (P := Tryz.prog) (w.alloc (.cells #[.string x] 9)) base 50 50 9 i (.string ByteArray.empty) 1 16 Tryz.underlying50 hi z1 z2 z3 rfl (by omega) mv xs.length (xs.map Value.string) ho'
    ⟨w.heap.size, 0, none⟩ 1 1 [.string x] rfl (fun j u hu => by
      cases j with
      | zero =>
        simp at hu
        subst hu
        rw [Go.WideShapes.add_plain]
        exact hcell
      | succ j => simp at hu) (fun u hu => by simp at hu; subst hu; rfl) (by simp only [maxLen]; omega) (by omega) (by rw [hs]; omega)
  refine ⟨v', w', hr, by simpa [TO] using h1, by have := h2.size; omega, ?_, fun j hj hne => ?_⟩
  · have hb2 : Below base (w.alloc (.cells #[.string x] 9)) w' := by
      refine ⟨h2.os, h2.tape, h2.output, h2.size, fun j hj => h2.block j (by rw [hs]; omega) ?_⟩
      intro hk
      have := (ho'.lt j hk.symm).1
      omega
    exact (bm.mono hb).trans hb2
  · rw [h2.block j (by rw [hs]; omega) hne]
    exact bm.block j hj

theorem wpList_append_c {ty : TypeId} {ops : Array Oper} {rest : List Oper} {o : Oper} {a : Act} {Q : Exit → Act → World → Prop} (hgd : o.guard = none) (s x : Operand)
    (ho : o.op = .call { callee := .builtin .append, args := #[s, x], argTypes := #[ty, ty] }) {v y v' : Value} {w w' : World} (hr : (Builtin.append_ #[ty, ty] o.type #[v, y]).run Tryz.prog w = .ok v' w') (hs : a.eval s = v) (hx : a.eval x = y)
    (h : wpList Tryz.prog ops Q rest (a.put o.dst v') w') : wpList Tryz.prog ops Q (o :: rest) a w := by
  refine wpList_plain hgd fun K hK => ?_
  unfold Oper.wp execOp
  simp only [ho, resolve, invoke, builtin, Sem.run_bind, Sem.run_pure, Result.andThen_ok, List.map_toArray, List.map_cons, List.map_nil, hs, hx, hr]
  exact hK _ _ h

end Go.Proofs.YtdemopkdcnaibaaGreatDoor
