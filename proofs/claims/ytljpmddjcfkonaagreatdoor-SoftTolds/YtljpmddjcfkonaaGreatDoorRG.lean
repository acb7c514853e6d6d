/-
  Texts put together: YRef7, YTiny, YTold.
-/
import Derived.Test.YtljpmddjcfkonaaGreatDoorRF
import Derived.Test.YtljpmddjcfkonaaGreatDoorRA
import Derived.Test.YtljpmddjcfkonaaGreatDoorRE
import Derived.Deep.RegionHeld3
namespace Go.Proofs.YtljpmddjcfkonaaGreatDoor
open Go Go.RowKit Go.Deep

theorem Row4.far {w : World} {b t c o : Nat} {v v0 v1 v2 v3 : Value} (h : Row4 w b t v0 v1 v2 v3) (hc : c ≠ b) : Row4 (w.setCell ⟨c, o, none⟩ v) b t v0 v1 v2 v3 := by
  simp only [Row4] at *
  simp only [World.setCell, Array.getElem?_modify]
  rw [if_neg hc]; exact h

theorem set_arg {w : World} {b o : Nat} {v : Value} {p : Option Addr} {n c : Nat} {zs : List Int} (a : Arg w p n c zs) (hp : ∀ x, p = some x → x.block ≠ b) : Arg (w.setCell ⟨b, o, none⟩ v) p n c zs :=
  ⟨a.1, a.2.1, a.2.2.1, a.2.2.2.1.set hp, a.2.2.2.2⟩

/-- The two numbers, the room, and the number that is being made at g. -/
def S4 (w wx : World) (g : Nat) (x0 x1 x2 x3 y0 y1 y2 y3 o0 o1 o2 o3 : Value) : Prop := R3B w wx x0 x1 x2 x3 y0 y1 y2 y3 ∧ Row4 wx g 41 o0 o1 o2 o3 ∧ w.heap.size + 1 + 1 < g
theorem S4.new {w wx : World} {x0 x1 x2 x3 y0 y1 y2 y3 : Value} (h : R3B w wx x0 x1 x2 x3 y0 y1 y2 y3) (o0 o1 o2 o3 : Value) : S4 w (wx.alloc (.cells #[o0, o1, o2, o3] 41)) wx.heap.size x0 x1 x2 x3 y0 y1 y2 y3 o0 o1 o2 o3 := ⟨h.on (alloc_b _ _), Row4.new _ _ _ _ _ _, h.2.2.2.lt⟩
theorem S4.on {w wx wy : World} {g : Nat} {x0 x1 x2 x3 y0 y1 y2 y3 o0 o1 o2 o3 : Value} (h : S4 w wx g x0 x1 x2 x3 y0 y1 y2 y3 o0 o1 o2 o3) (k : Below wx.heap.size wx wy) : S4 w wy g x0 x1 x2 x3 y0 y1 y2 y3 o0 o1 o2 o3 := ⟨h.1.on k, h.2.1.below k h.2.1.lt, h.2.2⟩
theorem S4.lt {w wx : World} {g : Nat} {x0 x1 x2 x3 y0 y1 y2 y3 o0 o1 o2 o3 : Value} (h : S4 w wx g x0 x1 x2 x3 y0 y1 y2 y3 o0 o1 o2 o3) : g + 1 ≤ wx.heap.size := h.2.1.lt
theorem S4.far {w wx : World} {g o : Nat} {v : Value} {x0 x1 x2 x3 y0 y1 y2 y3 o0 o1 o2 o3 : Value} (h : S4 w wx g x0 x1 x2 x3 y0 y1 y2 y3 o0 o1 o2 o3) : R3B w (wx.setCell ⟨g, o, none⟩ v) x0 x1 x2 x3 y0 y1 y2 y3 := by
  have hg := h.2.2
  exact ⟨h.1.1.setCell (p := ⟨g, o, none⟩) (by simp only; omega) v, h.1.2.1.far (by omega), h.1.2.2.1.far (by omega), h.1.2.2.2.far (by omega)⟩
theorem S4.num {w wx : World} {g : Nat} {x0 x1 x2 x3 y0 y1 y2 y3 o0 o1 o2 o3 : Value} (h : S4 w wx g x0 x1 x2 x3 y0 y1 y2 y3 o0 o1 o2 o3) (v : Value) : S4 w (wx.setCell ⟨g, 1, none⟩ v) g x0 x1 x2 x3 y0 y1 y2 y3 o0 v o2 o3 := ⟨h.far, set1 h.2.1 (by simp [Array.setIfInBounds]), h.2.2⟩
theorem S4.sign {w wx : World} {g : Nat} {x0 x1 x2 x3 y0 y1 y2 y3 o0 o1 o2 o3 : Value} (h : S4 w wx g x0 x1 x2 x3 y0 y1 y2 y3 o0 o1 o2 o3) (v : Value) : S4 w (wx.setCell ⟨g, 0, none⟩ v) g x0 x1 x2 x3 y0 y1 y2 y3 v o1 o2 o3 := ⟨h.far, set1 h.2.1 (by simp [Array.setIfInBounds]), h.2.2⟩

theorem lift_lt {V : Int} {k : Nat} (h0 : 0 ≤ V) (h : V < 1298074214633706907132624082305024) (hk : k ≤ 4200) : 0 ≤ V * 2 ^ k ∧ V * 2 ^ k < 2 ^ 4310 := by
  refine ⟨Int.mul_nonneg h0 (Int.le_of_lt (Nm.two_pos k)), ?_⟩
  have h1 : V * 2 ^ k < 1298074214633706907132624082305024 * 2 ^ k := Int.mul_lt_mul_of_pos_right h (Nm.two_pos k)
  have h2 : (1298074214633706907132624082305024 : Int) * 2 ^ k = 2 ^ (110 + k) := by rw [Nm.two_add]; congr 1
  have h3 := Nm.two_mono (show 110 + k ≤ 4310 by omega)
  omega

theorem two_big {x : Int} (h : x < 2 ^ 4310 + 2 ^ 4310) : x < 2 ^ 4400 ∧ x < 2 ^ 5000 := by
  have e : (2 : Int) ^ 4311 = 2 * 2 ^ 4310 := Nm.two_succ 4310
  have h1 := Nm.two_mono (show 4311 ≤ 4400 by omega)
  have h2 := Nm.two_mono (show 4311 ≤ 5000 by omega)
  generalize (2 : Int) ^ 4310 = P at *
  generalize (2 : Int) ^ 4311 = Q at *
  generalize (2 : Int) ^ 4400 = R at *
  generalize (2 : Int) ^ 5000 = S at *
  omega

set_option maxRecDepth 100000 in
set_option maxHeartbeats 16000000 in
theorem ysum_some {B : Nat} {w : World} {vx vy : Value} {n1 n2 : Bool} {V1 V2 e1 e2 : Int} (hx : RN B w vx n1 V1 1 e1) (hy : RN B w vy n2 V2 1 e2) (hB0 : B ≤ w.heap.size) (a1 : V1 < 1298074214633706907132624082305024) (b1 : V2 < 1298074214633706907132624082305024) (f0 : -2200 ≤ e1) (f1 : e1 ≤ 2000) (f2 : -2200 ≤ e2) (f3 : e2 ≤ 2000) (hz : ¬ (V1 = 0 ∧ V2 = 0)) :
    Calls Tryz.prog 20 #[vx, vy] w fun r w' => SumTold5 B n1 V1 e1 n2 V2 e2 w r w' := by
  have HX := hid hx
  have HY := hid hy
  obtain ⟨p, n, c, q, m, d, zs, ys, rfl, h2, h3, h4, h5, h6, h7, h8, h9⟩ := hx
  obtain ⟨p', n', c', q', m', d', zs', ys', rfl, k2, k3, k4, _⟩ := hy
  have Z := hid (R3B.new w (.bool n1) (.slice p n c) (.slice q m d) (.int .i64 e1) (.bool n2) (.slice p' n' c') (.slice q' m' d') (.int .i64 e2))
  have NX := hid (fun wx (b : Below w.heap.size w wx) => ynone_any (HX.out.on b))
  have NY := hid (fun wx (b : Below w.heap.size w wx) => ynone_any (HY.out.on b))
  have Q5 := hid (And.intro h5 (And.intro h6 (And.intro h7 h9)))
  have v0 : 0 ≤ V1 := by rw [← h3]; exact (Nm.val_bd zs h2.2.2.2.2).1
  have w0 : 0 ≤ V2 := by rw [← k3]; exact (Nm.val_bd zs' k2.2.2.2.2).1
  obtain ⟨M, hM⟩ : ∃ M, min e1 e2 = M := ⟨_, rfl⟩
  obtain ⟨i1, hi1⟩ : ∃ k : Nat, (k : Int) = e1 - M := ⟨(e1 - M).toNat, by omega⟩
  obtain ⟨i2, hi2⟩ : ∃ k : Nat, (k : Int) = e2 - M := ⟨(e2 - M).toNat, by omega⟩
  obtain ⟨A, hA⟩ : ∃ A, V1 * 2 ^ i1 = A := ⟨_, rfl⟩
  obtain ⟨C, hC⟩ : ∃ C, V2 * 2 ^ i2 = C := ⟨_, rfl⟩
  have bA := lift_lt v0 a1 (show i1 ≤ 4200 by omega)
  have bC := lift_lt w0 b1 (show i2 ≤ 4200 by omega)
  rw [hA] at bA
  rw [hC] at bC
  have LX : Hid (∀ wx kk, kk = (i1 : Int) → Below w.heap.size w wx → Calls Tryz.prog 25 #[.slice p n c, .int .i64 kk] wx fun e w' => ∃ r os, e = .returned (.slice r (List.length os) (List.length os)) ∧ Ans wx.heap.size w' r os A ∧ Below wx.heap.size wx w') := fun wx kk hk b => by
    have h := lift_any p n c zs kk i1 wx (h2.below b (Nat.le_refl _)) (by omega) hk (by omega)
    rw [h3, hA] at h
    exact h
  have LY : Hid (∀ wx kk, kk = (i2 : Int) → Below w.heap.size w wx → Calls Tryz.prog 25 #[.slice p' n' c', .int .i64 kk] wx fun e w' => ∃ r os, e = .returned (.slice r (List.length os) (List.length os)) ∧ Ans wx.heap.size w' r os C ∧ Below wx.heap.size wx w') := fun wx kk hk b => by
    have h := lift_any p' n' c' zs' kk i2 wx (k2.below b (Nat.le_refl _)) (by omega) hk (by omega)
    rw [k3, hC] at h
    exact h
  have BD : Hid (A < 2 ^ 4400 ∧ C < 2 ^ 4400 ∧ A + C < 2 ^ 4400 ∧ A - C < 2 ^ 4400 ∧ C - A < 2 ^ 4400) := by
    have P := Nm.two_pos 4310
    refine ⟨(two_big ?_).1, (two_big ?_).1, (two_big ?_).1, (two_big ?_).1, (two_big ?_).1⟩ <;> (generalize (2 : Int) ^ 4310 = X at *; omega)
  have at_ : ∀ {neg : Bool} {V : Int}, Ie.sn neg V = Ie.sn n1 A + Ie.sn n2 C → (V = 0 → neg = (n1 && n2)) → 0 ≤ V → V < 2 ^ 4310 + 2 ^ 4310 → Ie.SumIs n1 V1 e1 n2 V2 e2 neg V M := fun h h0 v0 v1 => Ie.sum_at hM hi1 hi2 (by rw [hA, hC]; exact h) h0 v0 (two_big v1).2
  have SP : Hid ((n1 == n2) = true → Ie.SumIs n1 V1 e1 n2 V2 e2 n1 (A + C) M) := fun he => by
    obtain rfl : n1 = n2 := by simpa using he
    refine at_ ?_ (fun _ => by cases n1 <;> rfl) (by omega) (by generalize (2 : Int) ^ 4310 = X at *; omega)
    cases n1 <;> simp only [Ie.sn, Bool.false_eq_true, if_true, if_false] <;> omega
  have SG : Hid ((n1 == n2) = false → C < A → Ie.SumIs n1 V1 e1 n2 V2 e2 n1 (A - C) M) := fun he hl => by
    refine at_ ?_ (fun h => by omega) (by omega) (by generalize (2 : Int) ^ 4310 = X at *; omega)
    cases n1 <;> cases n2 <;> simp only [Ie.sn, Bool.false_eq_true, if_true, if_false] <;> first | (simp at he; done) | omega
  have SL : Hid ((n1 == n2) = false → A < C → Ie.SumIs n1 V1 e1 n2 V2 e2 n2 (C - A) M) := fun he hl => by
    refine at_ ?_ (fun h => by omega) (by omega) (by generalize (2 : Int) ^ 4310 = X at *; omega)
    cases n1 <;> cases n2 <;> simp only [Ie.sn, Bool.false_eq_true, if_true, if_false] <;> first | (simp at he; done) | omega
  have SE : Hid ((n1 == n2) = false → A = C → Ie.SumIs n1 V1 e1 n2 V2 e2 false 0 M) := fun he hl => by
    refine at_ ?_ (fun _ => by cases n1 <;> cases n2 <;> simp at he ⊢) (by omega) (by have := Nm.two_pos 4310; generalize (2 : Int) ^ 4310 = X at *; omega)
    cases n1 <;> cases n2 <;> simp only [Ie.sn, Bool.false_eq_true, if_true, if_false] <;> first | (simp at he; done) | omega
  have HB0 := hid hB0
  have D1 : V1 = 0 → decide (V2 = 0) = false := fun h => decide_eq_false fun k => hz ⟨h, k⟩
  clear h2 h3 h4 h5 h6 h7 h8 h9 k2 k3 k4 v0 w0 a1 b1 hA hC bA bC HX HY hB0 hz at_
  by_cases hz1 : V1 = 0
  · rw [decide_eq_true hz1] at NX
    rw [D1 hz1] at NY
    clear D1 hz1
    by_cases hle : e2 < e1
    · obtain rfl : M = e2 := by omega
      clear hM
      go_enter Tryz.func20, Tryz.ntmps20
      go_upto_region 1 with fail
      generalize (((w.alloc (.cells #[.bool n1, .slice p n c, .slice q m d, .int .i64 e1] 41)).alloc (.cells #[.bool n2, .slice p' n' c', .slice q' m' d', .int .i64 M] 41)).alloc (.cells #[.bool false, .slice none 0 0, .slice none 0 0, .int .i64 0] 41)) = wz at *
      have zb := Z.out.1
      obtain ⟨⟨c0, c1, c2, c3⟩, d0, d1, d2, d3⟩ := Z.out.flat
      go_wp2_with fail
      with_reducible refine (NX.out _ zb).mono ?_
      rintro r w1 ⟨rfl, hB1⟩
      have Z1 := hid (Z.out.on hB1)
      clear zb hB1 Z NX c0 c1 c2 c3 d0 d1 d2 d3
      have z1 := Z1.out.1
      obtain ⟨⟨c0, c1, c2, c3⟩, d0, d1, d2, d3⟩ := Z1.out.flat
      go_wp2_with fail
      with_reducible refine (NY.out _ z1).mono ?_
      rintro r w2 ⟨rfl, hB2⟩
      have Z2 := hid (Z1.out.on hB2)
      clear z1 hB2 Z1 NY c0 c1 c2 c3 d0 d1 d2 d3
      obtain ⟨⟨c0, c1, c2, c3⟩, d0, d1, d2, d3⟩ := Z2.out.flat
      have zb := Z2.out.1
      go_wp2_with fail
      with_reducible refine (LX.out _ _ (by omega) zb).mono ?_
      rintro r w3 ⟨r1, os1, rfl, A1, hB3⟩
      have Z3 := hid (Z2.out.on hB3)
      have z3 := Z3.out.1
      have AA := hid A1
      clear zb hB3 A1 Z2 LX c0 c1 c2 c3 d0 d1 d2 d3
      obtain ⟨⟨c0, c1, c2, c3⟩, d0, d1, d2, d3⟩ := Z3.out.flat
      go_wp2_with fail
      with_reducible refine (LY.out _ _ (by omega) z3).mono ?_
      rintro r w4 ⟨r2, os2, rfl, A2, hB4⟩
      have Z4 := hid (Z3.out.on hB4)
      have TX := hid ((AA.out.below hB4 (Nat.le_refl _)).tl (K := 4400) BD.out.1 (by omega))
      have TY := hid (A2.tl (K := 4400) BD.out.2.1 (by omega))
      have AX := hid ((AA.out.below hB4 (Nat.le_refl _)).arg (by have := TX.out.2.1; omega))
      have AY := hid (A2.arg (by have := TY.out.2.1; omega))
      have VX : Hid (Nm.val os1 = A) := AA.out.2.2.2.1
      have VY : Hid (Nm.val os2 = C) := A2.2.2.2.1
      clear z3 hB4 A2 Z3 LY AA c0 c1 c2 c3 d0 d1 d2 d3
      obtain ⟨⟨c0, c1, c2, c3⟩, d0, d1, d2, d3⟩ := Z4.out.flat
      go_upto_region 9 with fail
      have S5 := hid (S4.new Z4.out (.bool n1) (.slice none 0 0) (.slice q m d) (.int .i64 M))
      have B5 := hid (alloc_b w4 (.cells #[.bool n1, .slice none 0 0, .slice q m d, .int .i64 M] 41))
      generalize hW : w4.alloc (.cells #[.bool n1, .slice none 0 0, .slice q m d, .int .i64 M] 41) = w5 at *
      clear hW c0 c1 c2 c3 d0 d1 d2 d3 Z4
      have CM := hid (refCmp_any r1 r2 _ _ _ _ os1 os2 w5 (AX.out.below B5.out (Nat.le_refl _)) (AY.out.below B5.out (Nat.le_refl _)))
      rw [VX.out, VY.out] at CM
      obtain ⟨⟨c0, c1, c2, c3⟩, d0, d1, d2, d3⟩ := S5.out.1.flat
      obtain ⟨s, hs⟩ : ∃ s, cmpI A C = s := ⟨_, rfl⟩
      rw [hs] at CM
      have HSS := hid hs
      clear hs
      go_wp2_with fail
      with_reducible refine CM.out.mono ?_
      rintro r w6 ⟨rfl, hB6⟩
      have S6 := hid (S5.out.on hB6)
      have B6 := hid (bel B5.out hB6)
      clear hB6 S5 B5 CM c0 c1 c2 c3 d0 d1 d2 d3
      obtain ⟨⟨c0, c1, c2, c3⟩, d0, d1, d2, d3⟩ := S6.out.1.flat
      cases he : (n1 == n2) with
      | true =>
        have SI := hid (SP.out he)
        have PL := hid (plus_any r1 r2 _ _ _ _ os1 os2 w6 (AX.out.below B6.out (Nat.le_refl _)) (AY.out.below B6.out (Nat.le_refl _)) (by have := TX.out.1; omega) (by have := TY.out.1; omega))
        rw [VX.out, VY.out] at PL
        clear SP SG SL SE HSS AX AY VX VY TX TY
        go_wp2_with fail
        with_reducible refine PL.out.mono ?_
        rintro r w7 ⟨r7, os7, rfl, A7, hB7⟩
        clear PL
        have S7 := hid (S6.out.on hB7)
        have AR7 := hid (A7.arg (by have := (A7.tl (K := 4400) (BD.out.2.2.1) (by omega)).2.1; omega))
        have TS7 := hid (A7.tl (K := 4400) (BD.out.2.2.1) (by omega)).1
        have V7 := hid A7.2.2.2.1
        have L7 := hid (fun x hx => Nat.le_trans S6.out.lt (A7.2.2.2.2 x hx))
        clear A7 hB7 S6 c0 c1 c2 c3 d0 d1 d2 d3
        obtain ⟨⟨g0, g1, g2, g3⟩, k0, k1, k2, k3⟩ := S7.out.2.1.cells
        go_upto_region 18 with fail
        have S8 := hid (S7.out.num (.slice r7 (List.length os7) (List.length os7)))
        have AR8 := hid (set_arg (o := 1) (v := .slice r7 (List.length os7) (List.length os7)) AR7.out (fun x hx => Nat.ne_of_gt (L7.out x hx)))
        generalize hW : w7.setCell ⟨w4.heap.size, 1, none⟩ (.slice r7 (List.length os7) (List.length os7)) = w8 at *
        clear hW AR7 S7 g0 g1 g2 g3 k0 k1 k2 k3
        obtain ⟨⟨g0, g1, g2, g3⟩, -⟩ := S8.out.2.1.cells
        obtain ⟨⟨m0, m1, m2, m3⟩, o0, o1, o2, o3⟩ := S8.out.1.room
        go_wp2_with fail
        (try simp only [Exit.inBlock, Exit.then])
        refine bodyPost_ret (results_cell_row rfl _ _ (w.heap.size + 1 + 1) 41 _ (0, 0) _ rfl (S8.out.1.put _ _ _ _).1 Tryz.underlying41 rfl (by kernel_rfl)) rfl ?_
        exact ⟨_, n1, A + C, M, rfl, ⟨_, _, _, _, _, _, os7, ys, rfl, far_arg AR8.out (fun x hx => Nat.ne_of_gt (Nat.lt_trans S8.out.2.2 (L7.out x hx))), V7.out, TS7.out, Q5.out.1.below (S8.out.1.put _ _ _ _).2 (Nat.le_refl _), Q5.out.2.1, Q5.out.2.2.1, fun x hx => by have := L7.out x hx; have := S8.out.2.2; have := HB0.out; omega, Q5.out.2.2.2⟩, SI.out, (S8.out.1.put _ _ _ _).2⟩
      | false =>
        rcases Int.lt_trichotomy A C with hl | hl | hl
        · have SI := hid (SL.out he hl)
          have s1 : s = -1 := by rw [← HSS.out]; unfold cmpI; rw [if_pos hl]
          subst s1
          obtain ⟨⟨g0, g1, g2, g3⟩, k0, k1, k2, k3⟩ := S6.out.2.1.cells
          have LE : Hid (A ≤ C) := Int.le_of_lt hl
          clear SP SG SL SE HSS hl
          go_upto_region 11 with fail
          have SX := hid (S6.out.sign (.bool n2))
          have BX := hid (B6.out.setCell (p := ⟨w4.heap.size, 0, none⟩) (Nat.le_refl _) (.bool n2))
          generalize hW : w6.setCell ⟨w4.heap.size, 0, none⟩ (.bool n2) = w66 at *
          clear hW g0 g1 g2 g3 k0 k1 k2 k3 c0 c1 c2 c3 d0 d1 d2 d3 S6 B6
          have LS := hid (less_any r2 r1 _ _ _ _ os2 os1 w66 (AY.out.below BX.out (Nat.le_refl _)) (AX.out.below BX.out (Nat.le_refl _)) (by have := TY.out.1; omega) (by rw [VX.out, VY.out]; exact LE.out))
          rw [VX.out, VY.out] at LS
          clear AX AY VX VY TX TY LE
          obtain ⟨⟨c0, c1, c2, c3⟩, d0, d1, d2, d3⟩ := SX.out.1.flat
          go_wp2_with fail
          with_reducible refine LS.out.mono ?_
          rintro r w7 ⟨r7, os7, rfl, A7, hB7⟩
          clear LS
          have S7 := hid (SX.out.on hB7)
          have AR7 := hid (A7.arg (by have := (A7.tl (K := 4400) (BD.out.2.2.2.2) (by omega)).2.1; omega))
          have TS7 := hid (A7.tl (K := 4400) (BD.out.2.2.2.2) (by omega)).1
          have V7 := hid A7.2.2.2.1
          have L7 := hid (fun x hx => Nat.le_trans SX.out.lt (A7.2.2.2.2 x hx))
          clear A7 hB7 SX c0 c1 c2 c3 d0 d1 d2 d3
          obtain ⟨⟨g0, g1, g2, g3⟩, k0, k1, k2, k3⟩ := S7.out.2.1.cells
          go_upto_region 18 with fail
          have S8 := hid (S7.out.num (.slice r7 (List.length os7) (List.length os7)))
          have AR8 := hid (set_arg (o := 1) (v := .slice r7 (List.length os7) (List.length os7)) AR7.out (fun x hx => Nat.ne_of_gt (L7.out x hx)))
          generalize hW : w7.setCell ⟨w4.heap.size, 1, none⟩ (.slice r7 (List.length os7) (List.length os7)) = w8 at *
          clear hW AR7 S7 g0 g1 g2 g3 k0 k1 k2 k3
          obtain ⟨⟨g0, g1, g2, g3⟩, -⟩ := S8.out.2.1.cells
          obtain ⟨⟨m0, m1, m2, m3⟩, o0, o1, o2, o3⟩ := S8.out.1.room
          go_wp2_with fail
          (try simp only [Exit.inBlock, Exit.then])
          refine bodyPost_ret (results_cell_row rfl _ _ (w.heap.size + 1 + 1) 41 _ (0, 0) _ rfl (S8.out.1.put _ _ _ _).1 Tryz.underlying41 rfl (by kernel_rfl)) rfl ?_
          exact ⟨_, n2, C - A, M, rfl, ⟨_, _, _, _, _, _, os7, ys, rfl, far_arg AR8.out (fun x hx => Nat.ne_of_gt (Nat.lt_trans S8.out.2.2 (L7.out x hx))), V7.out, TS7.out, Q5.out.1.below (S8.out.1.put _ _ _ _).2 (Nat.le_refl _), Q5.out.2.1, Q5.out.2.2.1, fun x hx => by have := L7.out x hx; have := S8.out.2.2; have := HB0.out; omega, Q5.out.2.2.2⟩, SI.out, (S8.out.1.put _ _ _ _).2⟩
        · have SI := hid (SE.out he hl)
          have s1 : s = 0 := by rw [← HSS.out, hl]; unfold cmpI; rw [if_neg (by omega), if_pos rfl]
          subst s1
          obtain ⟨⟨g0, g1, g2, g3⟩, k0, k1, k2, k3⟩ := S6.out.2.1.cells
          clear SP SG SL SE HSS hl AX AY VX VY TX TY B6
          go_upto_region 18 with fail
          have S8 := hid (S6.out.sign (.bool false))
          generalize hW : w6.setCell ⟨w4.heap.size, 0, none⟩ (.bool false) = w8 at *
          clear hW g0 g1 g2 g3 k0 k1 k2 k3 c0 c1 c2 c3 d0 d1 d2 d3 S6
          obtain ⟨⟨g0, g1, g2, g3⟩, -⟩ := S8.out.2.1.cells
          obtain ⟨⟨m0, m1, m2, m3⟩, o0, o1, o2, o3⟩ := S8.out.1.room
          go_wp2_with fail
          (try simp only [Exit.inBlock, Exit.then])
          refine bodyPost_ret (results_cell_row rfl _ _ (w.heap.size + 1 + 1) 41 _ (0, 0) _ rfl (S8.out.1.put _ _ _ _).1 Tryz.underlying41 rfl (by kernel_rfl)) rfl ?_
          exact ⟨_, false, 0, M, rfl, ⟨_, _, _, _, _, _, [], ys, rfl, nil_arg _, rfl, by simp [Nm.tsize], Q5.out.1.below (S8.out.1.put _ _ _ _).2 (Nat.le_refl _), Q5.out.2.1, Q5.out.2.2.1, none_far B, Q5.out.2.2.2⟩, SI.out, (S8.out.1.put _ _ _ _).2⟩
        · have SI := hid (SG.out he hl)
          have s1 : s = 1 := by rw [← HSS.out]; unfold cmpI; rw [if_neg (by omega), if_neg (by omega)]
          subst s1
          have LS := hid (less_any r1 r2 _ _ _ _ os1 os2 w6 (AX.out.below B6.out (Nat.le_refl _)) (AY.out.below B6.out (Nat.le_refl _)) (by have := TX.out.1; omega) (by rw [VX.out, VY.out]; omega))
          rw [VX.out, VY.out] at LS
          clear SP SG SL SE HSS hl AX AY VX VY TX TY
          go_wp2_with fail
          with_reducible refine LS.out.mono ?_
          rintro r w7 ⟨r7, os7, rfl, A7, hB7⟩
          clear LS
          have S7 := hid (S6.out.on hB7)
          have AR7 := hid (A7.arg (by have := (A7.tl (K := 4400) (BD.out.2.2.2.1) (by omega)).2.1; omega))
          have TS7 := hid (A7.tl (K := 4400) (BD.out.2.2.2.1) (by omega)).1
          have V7 := hid A7.2.2.2.1
          have L7 := hid (fun x hx => Nat.le_trans S6.out.lt (A7.2.2.2.2 x hx))
          clear A7 hB7 S6 c0 c1 c2 c3 d0 d1 d2 d3
          obtain ⟨⟨g0, g1, g2, g3⟩, k0, k1, k2, k3⟩ := S7.out.2.1.cells
          go_upto_region 18 with fail
          have S8 := hid (S7.out.num (.slice r7 (List.length os7) (List.length os7)))
          have AR8 := hid (set_arg (o := 1) (v := .slice r7 (List.length os7) (List.length os7)) AR7.out (fun x hx => Nat.ne_of_gt (L7.out x hx)))
          generalize hW : w7.setCell ⟨w4.heap.size, 1, none⟩ (.slice r7 (List.length os7) (List.length os7)) = w8 at *
          clear hW AR7 S7 g0 g1 g2 g3 k0 k1 k2 k3
          obtain ⟨⟨g0, g1, g2, g3⟩, -⟩ := S8.out.2.1.cells
          obtain ⟨⟨m0, m1, m2, m3⟩, o0, o1, o2, o3⟩ := S8.out.1.room
          go_wp2_with fail
          (try simp only [Exit.inBlock, Exit.then])
          refine bodyPost_ret (results_cell_row rfl _ _ (w.heap.size + 1 + 1) 41 _ (0, 0) _ rfl (S8.out.1.put _ _ _ _).1 Tryz.underlying41 rfl (by kernel_rfl)) rfl ?_
          exact ⟨_, n1, A - C, M, rfl, ⟨_, _, _, _, _, _, os7, ys, rfl, far_arg AR8.out (fun x hx => Nat.ne_of_gt (Nat.lt_trans S8.out.2.2 (L7.out x hx))), V7.out, TS7.out, Q5.out.1.below (S8.out.1.put _ _ _ _).2 (Nat.le_refl _), Q5.out.2.1, Q5.out.2.2.1, fun x hx => by have := L7.out x hx; have := S8.out.2.2; have := HB0.out; omega, Q5.out.2.2.2⟩, SI.out, (S8.out.1.put _ _ _ _).2⟩
    · obtain rfl : M = e1 := by omega
      clear hM
      go_enter Tryz.func20, Tryz.ntmps20
      go_upto_region 1 with fail
      generalize (((w.alloc (.cells #[.bool n1, .slice p n c, .slice q m d, .int .i64 M] 41)).alloc (.cells #[.bool n2, .slice p' n' c', .slice q' m' d', .int .i64 e2] 41)).alloc (.cells #[.bool false, .slice none 0 0, .slice none 0 0, .int .i64 0] 41)) = wz at *
      have zb := Z.out.1
      obtain ⟨⟨c0, c1, c2, c3⟩, d0, d1, d2, d3⟩ := Z.out.flat
      go_wp2_with fail
      with_reducible refine (NX.out _ zb).mono ?_
      rintro r w1 ⟨rfl, hB1⟩
      have Z1 := hid (Z.out.on hB1)
      clear zb hB1 Z NX c0 c1 c2 c3 d0 d1 d2 d3
      have z1 := Z1.out.1
      obtain ⟨⟨c0, c1, c2, c3⟩, d0, d1, d2, d3⟩ := Z1.out.flat
      go_wp2_with fail
      with_reducible refine (NY.out _ z1).mono ?_
      rintro r w2 ⟨rfl, hB2⟩
      have Z2 := hid (Z1.out.on hB2)
      clear z1 hB2 Z1 NY c0 c1 c2 c3 d0 d1 d2 d3
      obtain ⟨⟨c0, c1, c2, c3⟩, d0, d1, d2, d3⟩ := Z2.out.flat
      have zb := Z2.out.1
      go_wp2_with fail
      with_reducible refine (LX.out _ _ (by omega) zb).mono ?_
      rintro r w3 ⟨r1, os1, rfl, A1, hB3⟩
      have Z3 := hid (Z2.out.on hB3)
      have z3 := Z3.out.1
      have AA := hid A1
      clear zb hB3 A1 Z2 LX c0 c1 c2 c3 d0 d1 d2 d3
      obtain ⟨⟨c0, c1, c2, c3⟩, d0, d1, d2, d3⟩ := Z3.out.flat
      go_wp2_with fail
      with_reducible refine (LY.out _ _ (by omega) z3).mono ?_
      rintro r w4 ⟨r2, os2, rfl, A2, hB4⟩
      have Z4 := hid (Z3.out.on hB4)
      have TX := hid ((AA.out.below hB4 (Nat.le_refl _)).tl (K := 4400) BD.out.1 (by omega))
      have TY := hid (A2.tl (K := 4400) BD.out.2.1 (by omega))
      have AX := hid ((AA.out.below hB4 (Nat.le_refl _)).arg (by have := TX.out.2.1; omega))
      have AY := hid (A2.arg (by have := TY.out.2.1; omega))
      have VX : Hid (Nm.val os1 = A) := AA.out.2.2.2.1
      have VY : Hid (Nm.val os2 = C) := A2.2.2.2.1
      clear z3 hB4 A2 Z3 LY AA c0 c1 c2 c3 d0 d1 d2 d3
      obtain ⟨⟨c0, c1, c2, c3⟩, d0, d1, d2, d3⟩ := Z4.out.flat
      go_upto_region 9 with fail
      have S5 := hid (S4.new Z4.out (.bool n1) (.slice none 0 0) (.slice q m d) (.int .i64 M))
      have B5 := hid (alloc_b w4 (.cells #[.bool n1, .slice none 0 0, .slice q m d, .int .i64 M] 41))
      generalize hW : w4.alloc (.cells #[.bool n1, .slice none 0 0, .slice q m d, .int .i64 M] 41) = w5 at *
      clear hW c0 c1 c2 c3 d0 d1 d2 d3 Z4
      have CM := hid (refCmp_any r1 r2 _ _ _ _ os1 os2 w5 (AX.out.below B5.out (Nat.le_refl _)) (AY.out.below B5.out (Nat.le_refl _)))
      rw [VX.out, VY.out] at CM
      obtain ⟨⟨c0, c1, c2, c3⟩, d0, d1, d2, d3⟩ := S5.out.1.flat
      obtain ⟨s, hs⟩ : ∃ s, cmpI A C = s := ⟨_, rfl⟩
      rw [hs] at CM
      have HSS := hid hs
      clear hs
      go_wp2_with fail
      with_reducible refine CM.out.mono ?_
      rintro r w6 ⟨rfl, hB6⟩
      have S6 := hid (S5.out.on hB6)
      have B6 := hid (bel B5.out hB6)
      clear hB6 S5 B5 CM c0 c1 c2 c3 d0 d1 d2 d3
      obtain ⟨⟨c0, c1, c2, c3⟩, d0, d1, d2, d3⟩ := S6.out.1.flat
      cases he : (n1 == n2) with
      | true =>
        have SI := hid (SP.out he)
        have PL := hid (plus_any r1 r2 _ _ _ _ os1 os2 w6 (AX.out.below B6.out (Nat.le_refl _)) (AY.out.below B6.out (Nat.le_refl _)) (by have := TX.out.1; omega) (by have := TY.out.1; omega))
        rw [VX.out, VY.out] at PL
        clear SP SG SL SE HSS AX AY VX VY TX TY
        go_wp2_with fail
        with_reducible refine PL.out.mono ?_
        rintro r w7 ⟨r7, os7, rfl, A7, hB7⟩
        clear PL
        have S7 := hid (S6.out.on hB7)
        have AR7 := hid (A7.arg (by have := (A7.tl (K := 4400) (BD.out.2.2.1) (by omega)).2.1; omega))
        have TS7 := hid (A7.tl (K := 4400) (BD.out.2.2.1) (by omega)).1
        have V7 := hid A7.2.2.2.1
        have L7 := hid (fun x hx => Nat.le_trans S6.out.lt (A7.2.2.2.2 x hx))
        clear A7 hB7 S6 c0 c1 c2 c3 d0 d1 d2 d3
        obtain ⟨⟨g0, g1, g2, g3⟩, k0, k1, k2, k3⟩ := S7.out.2.1.cells
        go_upto_region 18 with fail
        have S8 := hid (S7.out.num (.slice r7 (List.length os7) (List.length os7)))
        have AR8 := hid (set_arg (o := 1) (v := .slice r7 (List.length os7) (List.length os7)) AR7.out (fun x hx => Nat.ne_of_gt (L7.out x hx)))
        generalize hW : w7.setCell ⟨w4.heap.size, 1, none⟩ (.slice r7 (List.length os7) (List.length os7)) = w8 at *
        clear hW AR7 S7 g0 g1 g2 g3 k0 k1 k2 k3
        obtain ⟨⟨g0, g1, g2, g3⟩, -⟩ := S8.out.2.1.cells
        obtain ⟨⟨m0, m1, m2, m3⟩, o0, o1, o2, o3⟩ := S8.out.1.room
        go_wp2_with fail
        (try simp only [Exit.inBlock, Exit.then])
        refine bodyPost_ret (results_cell_row rfl _ _ (w.heap.size + 1 + 1) 41 _ (0, 0) _ rfl (S8.out.1.put _ _ _ _).1 Tryz.underlying41 rfl (by kernel_rfl)) rfl ?_
        exact ⟨_, n1, A + C, M, rfl, ⟨_, _, _, _, _, _, os7, ys, rfl, far_arg AR8.out (fun x hx => Nat.ne_of_gt (Nat.lt_trans S8.out.2.2 (L7.out x hx))), V7.out, TS7.out, Q5.out.1.below (S8.out.1.put _ _ _ _).2 (Nat.le_refl _), Q5.out.2.1, Q5.out.2.2.1, fun x hx => by have := L7.out x hx; have := S8.out.2.2; have := HB0.out; omega, Q5.out.2.2.2⟩, SI.out, (S8.out.1.put _ _ _ _).2⟩
      | false =>
        rcases Int.lt_trichotomy A C with hl | hl | hl
        · have SI := hid (SL.out he hl)
          have s1 : s = -1 := by rw [← HSS.out]; unfold cmpI; rw [if_pos hl]
          subst s1
          obtain ⟨⟨g0, g1, g2, g3⟩, k0, k1, k2, k3⟩ := S6.out.2.1.cells
          have LE : Hid (A ≤ C) := Int.le_of_lt hl
          clear SP SG SL SE HSS hl
          go_upto_region 11 with fail
          have SX := hid (S6.out.sign (.bool n2))
          have BX := hid (B6.out.setCell (p := ⟨w4.heap.size, 0, none⟩) (Nat.le_refl _) (.bool n2))
          generalize hW : w6.setCell ⟨w4.heap.size, 0, none⟩ (.bool n2) = w66 at *
          clear hW g0 g1 g2 g3 k0 k1 k2 k3 c0 c1 c2 c3 d0 d1 d2 d3 S6 B6
          have LS := hid (less_any r2 r1 _ _ _ _ os2 os1 w66 (AY.out.below BX.out (Nat.le_refl _)) (AX.out.below BX.out (Nat.le_refl _)) (by have := TY.out.1; omega) (by rw [VX.out, VY.out]; exact LE.out))
          rw [VX.out, VY.out] at LS
          clear AX AY VX VY TX TY LE
          obtain ⟨⟨c0, c1, c2, c3⟩, d0, d1, d2, d3⟩ := SX.out.1.flat
          go_wp2_with fail
          with_reducible refine LS.out.mono ?_
          rintro r w7 ⟨r7, os7, rfl, A7, hB7⟩
          clear LS
          have S7 := hid (SX.out.on hB7)
          have AR7 := hid (A7.arg (by have := (A7.tl (K := 4400) (BD.out.2.2.2.2) (by omega)).2.1; omega))
          have TS7 := hid (A7.tl (K := 4400) (BD.out.2.2.2.2) (by omega)).1
          have V7 := hid A7.2.2.2.1
          have L7 := hid (fun x hx => Nat.le_trans SX.out.lt (A7.2.2.2.2 x hx))
          clear A7 hB7 SX c0 c1 c2 c3 d0 d1 d2 d3
          obtain ⟨⟨g0, g1, g2, g3⟩, k0, k1, k2, k3⟩ := S7.out.2.1.cells
          go_upto_region 18 with fail
          have S8 := hid (S7.out.num (.slice r7 (List.length os7) (List.length os7)))
          have AR8 := hid (set_arg (o := 1) (v := .slice r7 (List.length os7) (List.length os7)) AR7.out (fun x hx => Nat.ne_of_gt (L7.out x hx)))
          generalize hW : w7.setCell ⟨w4.heap.size, 1, none⟩ (.slice r7 (List.length os7) (List.length os7)) = w8 at *
          clear hW AR7 S7 g0 g1 g2 g3 k0 k1 k2 k3
          obtain ⟨⟨g0, g1, g2, g3⟩, -⟩ := S8.out.2.1.cells
          obtain ⟨⟨m0, m1, m2, m3⟩, o0, o1, o2, o3⟩ := S8.out.1.room
          go_wp2_with fail
          (try simp only [Exit.inBlock, Exit.then])
          refine bodyPost_ret (results_cell_row rfl _ _ (w.heap.size + 1 + 1) 41 _ (0, 0) _ rfl (S8.out.1.put _ _ _ _).1 Tryz.underlying41 rfl (by kernel_rfl)) rfl ?_
          exact ⟨_, n2, C - A, M, rfl, ⟨_, _, _, _, _, _, os7, ys, rfl, far_arg AR8.out (fun x hx => Nat.ne_of_gt (Nat.lt_trans S8.out.2.2 (L7.out x hx))), V7.out, TS7.out, Q5.out.1.below (S8.out.1.put _ _ _ _).2 (Nat.le_refl _), Q5.out.2.1, Q5.out.2.2.1, fun x hx => by have := L7.out x hx; have := S8.out.2.2; have := HB0.out; omega, Q5.out.2.2.2⟩, SI.out, (S8.out.1.put _ _ _ _).2⟩
        · have SI := hid (SE.out he hl)
          have s1 : s = 0 := by rw [← HSS.out, hl]; unfold cmpI; rw [if_neg (by omega), if_pos rfl]
          subst s1
          obtain ⟨⟨g0, g1, g2, g3⟩, k0, k1, k2, k3⟩ := S6.out.2.1.cells
          clear SP SG SL SE HSS hl AX AY VX VY TX TY B6
          go_upto_region 18 with fail
          have S8 := hid (S6.out.sign (.bool false))
          generalize hW : w6.setCell ⟨w4.heap.size, 0, none⟩ (.bool false) = w8 at *
          clear hW g0 g1 g2 g3 k0 k1 k2 k3 c0 c1 c2 c3 d0 d1 d2 d3 S6
          obtain ⟨⟨g0, g1, g2, g3⟩, -⟩ := S8.out.2.1.cells
          obtain ⟨⟨m0, m1, m2, m3⟩, o0, o1, o2, o3⟩ := S8.out.1.room
          go_wp2_with fail
          (try simp only [Exit.inBlock, Exit.then])
          refine bodyPost_ret (results_cell_row rfl _ _ (w.heap.size + 1 + 1) 41 _ (0, 0) _ rfl (S8.out.1.put _ _ _ _).1 Tryz.underlying41 rfl (by kernel_rfl)) rfl ?_
          exact ⟨_, false, 0, M, rfl, ⟨_, _, _, _, _, _, [], ys, rfl, nil_arg _, rfl, by simp [Nm.tsize], Q5.out.1.below (S8.out.1.put _ _ _ _).2 (Nat.le_refl _), Q5.out.2.1, Q5.out.2.2.1, none_far B, Q5.out.2.2.2⟩, SI.out, (S8.out.1.put _ _ _ _).2⟩
        · have SI := hid (SG.out he hl)
          have s1 : s = 1 := by rw [← HSS.out]; unfold cmpI; rw [if_neg (by omega), if_neg (by omega)]
          subst s1
          have LS := hid (less_any r1 r2 _ _ _ _ os1 os2 w6 (AX.out.below B6.out (Nat.le_refl _)) (AY.out.below B6.out (Nat.le_refl _)) (by have := TX.out.1; omega) (by rw [VX.out, VY.out]; omega))
          rw [VX.out, VY.out] at LS
          clear SP SG SL SE HSS hl AX AY VX VY TX TY
          go_wp2_with fail
          with_reducible refine LS.out.mono ?_
          rintro r w7 ⟨r7, os7, rfl, A7, hB7⟩
          clear LS
          have S7 := hid (S6.out.on hB7)
          have AR7 := hid (A7.arg (by have := (A7.tl (K := 4400) (BD.out.2.2.2.1) (by omega)).2.1; omega))
          have TS7 := hid (A7.tl (K := 4400) (BD.out.2.2.2.1) (by omega)).1
          have V7 := hid A7.2.2.2.1
          have L7 := hid (fun x hx => Nat.le_trans S6.out.lt (A7.2.2.2.2 x hx))
          clear A7 hB7 S6 c0 c1 c2 c3 d0 d1 d2 d3
          obtain ⟨⟨g0, g1, g2, g3⟩, k0, k1, k2, k3⟩ := S7.out.2.1.cells
          go_upto_region 18 with fail
          have S8 := hid (S7.out.num (.slice r7 (List.length os7) (List.length os7)))
          have AR8 := hid (set_arg (o := 1) (v := .slice r7 (List.length os7) (List.length os7)) AR7.out (fun x hx => Nat.ne_of_gt (L7.out x hx)))
          generalize hW : w7.setCell ⟨w4.heap.size, 1, none⟩ (.slice r7 (List.length os7) (List.length os7)) = w8 at *
          clear hW AR7 S7 g0 g1 g2 g3 k0 k1 k2 k3
          obtain ⟨⟨g0, g1, g2, g3⟩, -⟩ := S8.out.2.1.cells
          obtain ⟨⟨m0, m1, m2, m3⟩, o0, o1, o2, o3⟩ := S8.out.1.room
          go_wp2_with fail
          (try simp only [Exit.inBlock, Exit.then])
          refine bodyPost_ret (results_cell_row rfl _ _ (w.heap.size + 1 + 1) 41 _ (0, 0) _ rfl (S8.out.1.put _ _ _ _).1 Tryz.underlying41 rfl (by kernel_rfl)) rfl ?_
          exact ⟨_, n1, A - C, M, rfl, ⟨_, _, _, _, _, _, os7, ys, rfl, far_arg AR8.out (fun x hx => Nat.ne_of_gt (Nat.lt_trans S8.out.2.2 (L7.out x hx))), V7.out, TS7.out, Q5.out.1.below (S8.out.1.put _ _ _ _).2 (Nat.le_refl _), Q5.out.2.1, Q5.out.2.2.1, fun x hx => by have := L7.out x hx; have := S8.out.2.2; have := HB0.out; omega, Q5.out.2.2.2⟩, SI.out, (S8.out.1.put _ _ _ _).2⟩
  · rw [decide_eq_false hz1] at NX
    clear D1 hz1 NY
    by_cases hle : e2 < e1
    · obtain rfl : M = e2 := by omega
      clear hM
      go_enter Tryz.func20, Tryz.ntmps20
      go_upto_region 1 with fail
      generalize (((w.alloc (.cells #[.bool n1, .slice p n c, .slice q m d, .int .i64 e1] 41)).alloc (.cells #[.bool n2, .slice p' n' c', .slice q' m' d', .int .i64 M] 41)).alloc (.cells #[.bool false, .slice none 0 0, .slice none 0 0, .int .i64 0] 41)) = wz at *
      have zb := Z.out.1
      obtain ⟨⟨c0, c1, c2, c3⟩, d0, d1, d2, d3⟩ := Z.out.flat
      go_wp2_with fail
      with_reducible refine (NX.out _ zb).mono ?_
      rintro r w1 ⟨rfl, hB1⟩
      have Z1 := hid (Z.out.on hB1)
      clear zb hB1 Z NX c0 c1 c2 c3 d0 d1 d2 d3
      have Z2 := hid Z1.out
      clear Z1
      obtain ⟨⟨c0, c1, c2, c3⟩, d0, d1, d2, d3⟩ := Z2.out.flat
      have zb := Z2.out.1
      go_wp2_with fail
      with_reducible refine (LX.out _ _ (by omega) zb).mono ?_
      rintro r w3 ⟨r1, os1, rfl, A1, hB3⟩
      have Z3 := hid (Z2.out.on hB3)
      have z3 := Z3.out.1
      have AA := hid A1
      clear zb hB3 A1 Z2 LX c0 c1 c2 c3 d0 d1 d2 d3
      obtain ⟨⟨c0, c1, c2, c3⟩, d0, d1, d2, d3⟩ := Z3.out.flat
      go_wp2_with fail
      with_reducible refine (LY.out _ _ (by omega) z3).mono ?_
      rintro r w4 ⟨r2, os2, rfl, A2, hB4⟩
      have Z4 := hid (Z3.out.on hB4)
      have TX := hid ((AA.out.below hB4 (Nat.le_refl _)).tl (K := 4400) BD.out.1 (by omega))
      have TY := hid (A2.tl (K := 4400) BD.out.2.1 (by omega))
      have AX := hid ((AA.out.below hB4 (Nat.le_refl _)).arg (by have := TX.out.2.1; omega))
      have AY := hid (A2.arg (by have := TY.out.2.1; omega))
      have VX : Hid (Nm.val os1 = A) := AA.out.2.2.2.1
      have VY : Hid (Nm.val os2 = C) := A2.2.2.2.1
      clear z3 hB4 A2 Z3 LY AA c0 c1 c2 c3 d0 d1 d2 d3
      obtain ⟨⟨c0, c1, c2, c3⟩, d0, d1, d2, d3⟩ := Z4.out.flat
      go_upto_region 9 with fail
      have S5 := hid (S4.new Z4.out (.bool n1) (.slice none 0 0) (.slice q m d) (.int .i64 M))
      have B5 := hid (alloc_b w4 (.cells #[.bool n1, .slice none 0 0, .slice q m d, .int .i64 M] 41))
      generalize hW : w4.alloc (.cells #[.bool n1, .slice none 0 0, .slice q m d, .int .i64 M] 41) = w5 at *
      clear hW c0 c1 c2 c3 d0 d1 d2 d3 Z4
      have CM := hid (refCmp_any r1 r2 _ _ _ _ os1 os2 w5 (AX.out.below B5.out (Nat.le_refl _)) (AY.out.below B5.out (Nat.le_refl _)))
      rw [VX.out, VY.out] at CM
      obtain ⟨⟨c0, c1, c2, c3⟩, d0, d1, d2, d3⟩ := S5.out.1.flat
      obtain ⟨s, hs⟩ : ∃ s, cmpI A C = s := ⟨_, rfl⟩
      rw [hs] at CM
      have HSS := hid hs
      clear hs
      go_wp2_with fail
      with_reducible refine CM.out.mono ?_
      rintro r w6 ⟨rfl, hB6⟩
      have S6 := hid (S5.out.on hB6)
      have B6 := hid (bel B5.out hB6)
      clear hB6 S5 B5 CM c0 c1 c2 c3 d0 d1 d2 d3
      obtain ⟨⟨c0, c1, c2, c3⟩, d0, d1, d2, d3⟩ := S6.out.1.flat
      cases he : (n1 == n2) with
      | true =>
        have SI := hid (SP.out he)
        have PL := hid (plus_any r1 r2 _ _ _ _ os1 os2 w6 (AX.out.below B6.out (Nat.le_refl _)) (AY.out.below B6.out (Nat.le_refl _)) (by have := TX.out.1; omega) (by have := TY.out.1; omega))
        rw [VX.out, VY.out] at PL
        clear SP SG SL SE HSS AX AY VX VY TX TY
        go_wp2_with fail
        with_reducible refine PL.out.mono ?_
        rintro r w7 ⟨r7, os7, rfl, A7, hB7⟩
        clear PL
        have S7 := hid (S6.out.on hB7)
        have AR7 := hid (A7.arg (by have := (A7.tl (K := 4400) (BD.out.2.2.1) (by omega)).2.1; omega))
        have TS7 := hid (A7.tl (K := 4400) (BD.out.2.2.1) (by omega)).1
        have V7 := hid A7.2.2.2.1
        have L7 := hid (fun x hx => Nat.le_trans S6.out.lt (A7.2.2.2.2 x hx))
        clear A7 hB7 S6 c0 c1 c2 c3 d0 d1 d2 d3
        obtain ⟨⟨g0, g1, g2, g3⟩, k0, k1, k2, k3⟩ := S7.out.2.1.cells
        go_upto_region 18 with fail
        have S8 := hid (S7.out.num (.slice r7 (List.length os7) (List.length os7)))
        have AR8 := hid (set_arg (o := 1) (v := .slice r7 (List.length os7) (List.length os7)) AR7.out (fun x hx => Nat.ne_of_gt (L7.out x hx)))
        generalize hW : w7.setCell ⟨w4.heap.size, 1, none⟩ (.slice r7 (List.length os7) (List.length os7)) = w8 at *
        clear hW AR7 S7 g0 g1 g2 g3 k0 k1 k2 k3
        obtain ⟨⟨g0, g1, g2, g3⟩, -⟩ := S8.out.2.1.cells
        obtain ⟨⟨m0, m1, m2, m3⟩, o0, o1, o2, o3⟩ := S8.out.1.room
        go_wp2_with fail
        (try simp only [Exit.inBlock, Exit.then])
        refine bodyPost_ret (results_cell_row rfl _ _ (w.heap.size + 1 + 1) 41 _ (0, 0) _ rfl (S8.out.1.put _ _ _ _).1 Tryz.underlying41 rfl (by kernel_rfl)) rfl ?_
        exact ⟨_, n1, A + C, M, rfl, ⟨_, _, _, _, _, _, os7, ys, rfl, far_arg AR8.out (fun x hx => Nat.ne_of_gt (Nat.lt_trans S8.out.2.2 (L7.out x hx))), V7.out, TS7.out, Q5.out.1.below (S8.out.1.put _ _ _ _).2 (Nat.le_refl _), Q5.out.2.1, Q5.out.2.2.1, fun x hx => by have := L7.out x hx; have := S8.out.2.2; have := HB0.out; omega, Q5.out.2.2.2⟩, SI.out, (S8.out.1.put _ _ _ _).2⟩
      | false =>
        rcases Int.lt_trichotomy A C with hl | hl | hl
        · have SI := hid (SL.out he hl)
          have s1 : s = -1 := by rw [← HSS.out]; unfold cmpI; rw [if_pos hl]
          subst s1
          obtain ⟨⟨g0, g1, g2, g3⟩, k0, k1, k2, k3⟩ := S6.out.2.1.cells
          have LE : Hid (A ≤ C) := Int.le_of_lt hl
          clear SP SG SL SE HSS hl
          go_upto_region 11 with fail
          have SX := hid (S6.out.sign (.bool n2))
          have BX := hid (B6.out.setCell (p := ⟨w4.heap.size, 0, none⟩) (Nat.le_refl _) (.bool n2))
          generalize hW : w6.setCell ⟨w4.heap.size, 0, none⟩ (.bool n2) = w66 at *
          clear hW g0 g1 g2 g3 k0 k1 k2 k3 c0 c1 c2 c3 d0 d1 d2 d3 S6 B6
          have LS := hid (less_any r2 r1 _ _ _ _ os2 os1 w66 (AY.out.below BX.out (Nat.le_refl _)) (AX.out.below BX.out (Nat.le_refl _)) (by have := TY.out.1; omega) (by rw [VX.out, VY.out]; exact LE.out))
          rw [VX.out, VY.out] at LS
          clear AX AY VX VY TX TY LE
          obtain ⟨⟨c0, c1, c2, c3⟩, d0, d1, d2, d3⟩ := SX.out.1.flat
          go_wp2_with fail
          with_reducible refine LS.out.mono ?_
          rintro r w7 ⟨r7, os7, rfl, A7, hB7⟩
          clear LS
          have S7 := hid (SX.out.on hB7)
          have AR7 := hid (A7.arg (by have := (A7.tl (K := 4400) (BD.out.2.2.2.2) (by omega)).2.1; omega))
          have TS7 := hid (A7.tl (K := 4400) (BD.out.2.2.2.2) (by omega)).1
          have V7 := hid A7.2.2.2.1
          have L7 := hid (fun x hx => Nat.le_trans SX.out.lt (A7.2.2.2.2 x hx))
          clear A7 hB7 SX c0 c1 c2 c3 d0 d1 d2 d3
          obtain ⟨⟨g0, g1, g2, g3⟩, k0, k1, k2, k3⟩ := S7.out.2.1.cells
          go_upto_region 18 with fail
          have S8 := hid (S7.out.num (.slice r7 (List.length os7) (List.length os7)))
          have AR8 := hid (set_arg (o := 1) (v := .slice r7 (List.length os7) (List.length os7)) AR7.out (fun x hx => Nat.ne_of_gt (L7.out x hx)))
          generalize hW : w7.setCell ⟨w4.heap.size, 1, none⟩ (.slice r7 (List.length os7) (List.length os7)) = w8 at *
          clear hW AR7 S7 g0 g1 g2 g3 k0 k1 k2 k3
          obtain ⟨⟨g0, g1, g2, g3⟩, -⟩ := S8.out.2.1.cells
          obtain ⟨⟨m0, m1, m2, m3⟩, o0, o1, o2, o3⟩ := S8.out.1.room
          go_wp2_with fail
          (try simp only [Exit.inBlock, Exit.then])
          refine bodyPost_ret (results_cell_row rfl _ _ (w.heap.size + 1 + 1) 41 _ (0, 0) _ rfl (S8.out.1.put _ _ _ _).1 Tryz.underlying41 rfl (by kernel_rfl)) rfl ?_
          exact ⟨_, n2, C - A, M, rfl, ⟨_, _, _, _, _, _, os7, ys, rfl, far_arg AR8.out (fun x hx => Nat.ne_of_gt (Nat.lt_trans S8.out.2.2 (L7.out x hx))), V7.out, TS7.out, Q5.out.1.below (S8.out.1.put _ _ _ _).2 (Nat.le_refl _), Q5.out.2.1, Q5.out.2.2.1, fun x hx => by have := L7.out x hx; have := S8.out.2.2; have := HB0.out; omega, Q5.out.2.2.2⟩, SI.out, (S8.out.1.put _ _ _ _).2⟩
        · have SI := hid (SE.out he hl)
          have s1 : s = 0 := by rw [← HSS.out, hl]; unfold cmpI; rw [if_neg (by omega), if_pos rfl]
          subst s1
          obtain ⟨⟨g0, g1, g2, g3⟩, k0, k1, k2, k3⟩ := S6.out.2.1.cells
          clear SP SG SL SE HSS hl AX AY VX VY TX TY B6
          go_upto_region 18 with fail
          have S8 := hid (S6.out.sign (.bool false))
          generalize hW : w6.setCell ⟨w4.heap.size, 0, none⟩ (.bool false) = w8 at *
          clear hW g0 g1 g2 g3 k0 k1 k2 k3 c0 c1 c2 c3 d0 d1 d2 d3 S6
          obtain ⟨⟨g0, g1, g2, g3⟩, -⟩ := S8.out.2.1.cells
          obtain ⟨⟨m0, m1, m2, m3⟩, o0, o1, o2, o3⟩ := S8.out.1.room
          go_wp2_with fail
          (try simp only [Exit.inBlock, Exit.then])
          refine bodyPost_ret (results_cell_row rfl _ _ (w.heap.size + 1 + 1) 41 _ (0, 0) _ rfl (S8.out.1.put _ _ _ _).1 Tryz.underlying41 rfl (by kernel_rfl)) rfl ?_
          exact ⟨_, false, 0, M, rfl, ⟨_, _, _, _, _, _, [], ys, rfl, nil_arg _, rfl, by simp [Nm.tsize], Q5.out.1.below (S8.out.1.put _ _ _ _).2 (Nat.le_refl _), Q5.out.2.1, Q5.out.2.2.1, none_far B, Q5.out.2.2.2⟩, SI.out, (S8.out.1.put _ _ _ _).2⟩
        · have SI := hid (SG.out he hl)
          have s1 : s = 1 := by rw [← HSS.out]; unfold cmpI; rw [if_neg (by omega), if_neg (by omega)]
          subst s1
          have LS := hid (less_any r1 r2 _ _ _ _ os1 os2 w6 (AX.out.below B6.out (Nat.le_refl _)) (AY.out.below B6.out (Nat.le_refl _)) (by have := TX.out.1; omega) (by rw [VX.out, VY.out]; omega))
          rw [VX.out, VY.out] at LS
          clear SP SG SL SE HSS hl AX AY VX VY TX TY
          go_wp2_with fail
          with_reducible refine LS.out.mono ?_
          rintro r w7 ⟨r7, os7, rfl, A7, hB7⟩
          clear LS
          have S7 := hid (S6.out.on hB7)
          have AR7 := hid (A7.arg (by have := (A7.tl (K := 4400) (BD.out.2.2.2.1) (by omega)).2.1; omega))
          have TS7 := hid (A7.tl (K := 4400) (BD.out.2.2.2.1) (by omega)).1
          have V7 := hid A7.2.2.2.1
          have L7 := hid (fun x hx => Nat.le_trans S6.out.lt (A7.2.2.2.2 x hx))
          clear A7 hB7 S6 c0 c1 c2 c3 d0 d1 d2 d3
          obtain ⟨⟨g0, g1, g2, g3⟩, k0, k1, k2, k3⟩ := S7.out.2.1.cells
          go_upto_region 18 with fail
          have S8 := hid (S7.out.num (.slice r7 (List.length os7) (List.length os7)))
          have AR8 := hid (set_arg (o := 1) (v := .slice r7 (List.length os7) (List.length os7)) AR7.out (fun x hx => Nat.ne_of_gt (L7.out x hx)))
          generalize hW : w7.setCell ⟨w4.heap.size, 1, none⟩ (.slice r7 (List.length os7) (List.length os7)) = w8 at *
          clear hW AR7 S7 g0 g1 g2 g3 k0 k1 k2 k3
          obtain ⟨⟨g0, g1, g2, g3⟩, -⟩ := S8.out.2.1.cells
          obtain ⟨⟨m0, m1, m2, m3⟩, o0, o1, o2, o3⟩ := S8.out.1.room
          go_wp2_with fail
          (try simp only [Exit.inBlock, Exit.then])
          refine bodyPost_ret (results_cell_row rfl _ _ (w.heap.size + 1 + 1) 41 _ (0, 0) _ rfl (S8.out.1.put _ _ _ _).1 Tryz.underlying41 rfl (by kernel_rfl)) rfl ?_
          exact ⟨_, n1, A - C, M, rfl, ⟨_, _, _, _, _, _, os7, ys, rfl, far_arg AR8.out (fun x hx => Nat.ne_of_gt (Nat.lt_trans S8.out.2.2 (L7.out x hx))), V7.out, TS7.out, Q5.out.1.below (S8.out.1.put _ _ _ _).2 (Nat.le_refl _), Q5.out.2.1, Q5.out.2.2.1, fun x hx => by have := L7.out x hx; have := S8.out.2.2; have := HB0.out; omega, Q5.out.2.2.2⟩, SI.out, (S8.out.1.put _ _ _ _).2⟩
    · obtain rfl : M = e1 := by omega
      clear hM
      go_enter Tryz.func20, Tryz.ntmps20
      go_upto_region 1 with fail
      generalize (((w.alloc (.cells #[.bool n1, .slice p n c, .slice q m d, .int .i64 M] 41)).alloc (.cells #[.bool n2, .slice p' n' c', .slice q' m' d', .int .i64 e2] 41)).alloc (.cells #[.bool false, .slice none 0 0, .slice none 0 0, .int .i64 0] 41)) = wz at *
      have zb := Z.out.1
      obtain ⟨⟨c0, c1, c2, c3⟩, d0, d1, d2, d3⟩ := Z.out.flat
      go_wp2_with fail
      with_reducible refine (NX.out _ zb).mono ?_
      rintro r w1 ⟨rfl, hB1⟩
      have Z1 := hid (Z.out.on hB1)
      clear zb hB1 Z NX c0 c1 c2 c3 d0 d1 d2 d3
      have Z2 := hid Z1.out
      clear Z1
      obtain ⟨⟨c0, c1, c2, c3⟩, d0, d1, d2, d3⟩ := Z2.out.flat
      have zb := Z2.out.1
      go_wp2_with fail
      with_reducible refine (LX.out _ _ (by omega) zb).mono ?_
      rintro r w3 ⟨r1, os1, rfl, A1, hB3⟩
      have Z3 := hid (Z2.out.on hB3)
      have z3 := Z3.out.1
      have AA := hid A1
      clear zb hB3 A1 Z2 LX c0 c1 c2 c3 d0 d1 d2 d3
      obtain ⟨⟨c0, c1, c2, c3⟩, d0, d1, d2, d3⟩ := Z3.out.flat
      go_wp2_with fail
      with_reducible refine (LY.out _ _ (by omega) z3).mono ?_
      rintro r w4 ⟨r2, os2, rfl, A2, hB4⟩
      have Z4 := hid (Z3.out.on hB4)
      have TX := hid ((AA.out.below hB4 (Nat.le_refl _)).tl (K := 4400) BD.out.1 (by omega))
      have TY := hid (A2.tl (K := 4400) BD.out.2.1 (by omega))
      have AX := hid ((AA.out.below hB4 (Nat.le_refl _)).arg (by have := TX.out.2.1; omega))
      have AY := hid (A2.arg (by have := TY.out.2.1; omega))
      have VX : Hid (Nm.val os1 = A) := AA.out.2.2.2.1
      have VY : Hid (Nm.val os2 = C) := A2.2.2.2.1
      clear z3 hB4 A2 Z3 LY AA c0 c1 c2 c3 d0 d1 d2 d3
      obtain ⟨⟨c0, c1, c2, c3⟩, d0, d1, d2, d3⟩ := Z4.out.flat
      go_upto_region 9 with fail
      have S5 := hid (S4.new Z4.out (.bool n1) (.slice none 0 0) (.slice q m d) (.int .i64 M))
      have B5 := hid (alloc_b w4 (.cells #[.bool n1, .slice none 0 0, .slice q m d, .int .i64 M] 41))
      generalize hW : w4.alloc (.cells #[.bool n1, .slice none 0 0, .slice q m d, .int .i64 M] 41) = w5 at *
      clear hW c0 c1 c2 c3 d0 d1 d2 d3 Z4
      have CM := hid (refCmp_any r1 r2 _ _ _ _ os1 os2 w5 (AX.out.below B5.out (Nat.le_refl _)) (AY.out.below B5.out (Nat.le_refl _)))
      rw [VX.out, VY.out] at CM
      obtain ⟨⟨c0, c1, c2, c3⟩, d0, d1, d2, d3⟩ := S5.out.1.flat
      obtain ⟨s, hs⟩ : ∃ s, cmpI A C = s := ⟨_, rfl⟩
      rw [hs] at CM
      have HSS := hid hs
      clear hs
      go_wp2_with fail
      with_reducible refine CM.out.mono ?_
      rintro r w6 ⟨rfl, hB6⟩
      have S6 := hid (S5.out.on hB6)
      have B6 := hid (bel B5.out hB6)
      clear hB6 S5 B5 CM c0 c1 c2 c3 d0 d1 d2 d3
      obtain ⟨⟨c0, c1, c2, c3⟩, d0, d1, d2, d3⟩ := S6.out.1.flat
      cases he : (n1 == n2) with
      | true =>
        have SI := hid (SP.out he)
        have PL := hid (plus_any r1 r2 _ _ _ _ os1 os2 w6 (AX.out.below B6.out (Nat.le_refl _)) (AY.out.below B6.out (Nat.le_refl _)) (by have := TX.out.1; omega) (by have := TY.out.1; omega))
        rw [VX.out, VY.out] at PL
        clear SP SG SL SE HSS AX AY VX VY TX TY
        go_wp2_with fail
        with_reducible refine PL.out.mono ?_
        rintro r w7 ⟨r7, os7, rfl, A7, hB7⟩
        clear PL
        have S7 := hid (S6.out.on hB7)
        have AR7 := hid (A7.arg (by have := (A7.tl (K := 4400) (BD.out.2.2.1) (by omega)).2.1; omega))
        have TS7 := hid (A7.tl (K := 4400) (BD.out.2.2.1) (by omega)).1
        have V7 := hid A7.2.2.2.1
        have L7 := hid (fun x hx => Nat.le_trans S6.out.lt (A7.2.2.2.2 x hx))
        clear A7 hB7 S6 c0 c1 c2 c3 d0 d1 d2 d3
        obtain ⟨⟨g0, g1, g2, g3⟩, k0, k1, k2, k3⟩ := S7.out.2.1.cells
        go_upto_region 18 with fail
        have S8 := hid (S7.out.num (.slice r7 (List.length os7) (List.length os7)))
        have AR8 := hid (set_arg (o := 1) (v := .slice r7 (List.length os7) (List.length os7)) AR7.out (fun x hx => Nat.ne_of_gt (L7.out x hx)))
        generalize hW : w7.setCell ⟨w4.heap.size, 1, none⟩ (.slice r7 (List.length os7) (List.length os7)) = w8 at *
        clear hW AR7 S7 g0 g1 g2 g3 k0 k1 k2 k3
        obtain ⟨⟨g0, g1, g2, g3⟩, -⟩ := S8.out.2.1.cells
        obtain ⟨⟨m0, m1, m2, m3⟩, o0, o1, o2, o3⟩ := S8.out.1.room
        go_wp2_with fail
        (try simp only [Exit.inBlock, Exit.then])
        refine bodyPost_ret (results_cell_row rfl _ _ (w.heap.size + 1 + 1) 41 _ (0, 0) _ rfl (S8.out.1.put _ _ _ _).1 Tryz.underlying41 rfl (by kernel_rfl)) rfl ?_
        exact ⟨_, n1, A + C, M, rfl, ⟨_, _, _, _, _, _, os7, ys, rfl, far_arg AR8.out (fun x hx => Nat.ne_of_gt (Nat.lt_trans S8.out.2.2 (L7.out x hx))), V7.out, TS7.out, Q5.out.1.below (S8.out.1.put _ _ _ _).2 (Nat.le_refl _), Q5.out.2.1, Q5.out.2.2.1, fun x hx => by have := L7.out x hx; have := S8.out.2.2; have := HB0.out; omega, Q5.out.2.2.2⟩, SI.out, (S8.out.1.put _ _ _ _).2⟩
      | false =>
        rcases Int.lt_trichotomy A C with hl | hl | hl
        · have SI := hid (SL.out he hl)
          have s1 : s = -1 := by rw [← HSS.out]; unfold cmpI; rw [if_pos hl]
          subst s1
          obtain ⟨⟨g0, g1, g2, g3⟩, k0, k1, k2, k3⟩ := S6.out.2.1.cells
          have LE : Hid (A ≤ C) := Int.le_of_lt hl
          clear SP SG SL SE HSS hl
          go_upto_region 11 with fail
          have SX := hid (S6.out.sign (.bool n2))
          have BX := hid (B6.out.setCell (p := ⟨w4.heap.size, 0, none⟩) (Nat.le_refl _) (.bool n2))
          generalize hW : w6.setCell ⟨w4.heap.size, 0, none⟩ (.bool n2) = w66 at *
          clear hW g0 g1 g2 g3 k0 k1 k2 k3 c0 c1 c2 c3 d0 d1 d2 d3 S6 B6
          have LS := hid (less_any r2 r1 _ _ _ _ os2 os1 w66 (AY.out.below BX.out (Nat.le_refl _)) (AX.out.below BX.out (Nat.le_refl _)) (by have := TY.out.1; omega) (by rw [VX.out, VY.out]; exact LE.out))
          rw [VX.out, VY.out] at LS
          clear AX AY VX VY TX TY LE
          obtain ⟨⟨c0, c1, c2, c3⟩, d0, d1, d2, d3⟩ := SX.out.1.flat
          go_wp2_with fail
          with_reducible refine LS.out.mono ?_
          rintro r w7 ⟨r7, os7, rfl, A7, hB7⟩
          clear LS
          have S7 := hid (SX.out.on hB7)
          have AR7 := hid (A7.arg (by have := (A7.tl (K := 4400) (BD.out.2.2.2.2) (by omega)).2.1; omega))
          have TS7 := hid (A7.tl (K := 4400) (BD.out.2.2.2.2) (by omega)).1
          have V7 := hid A7.2.2.2.1
          have L7 := hid (fun x hx => Nat.le_trans SX.out.lt (A7.2.2.2.2 x hx))
          clear A7 hB7 SX c0 c1 c2 c3 d0 d1 d2 d3
          obtain ⟨⟨g0, g1, g2, g3⟩, k0, k1, k2, k3⟩ := S7.out.2.1.cells
          go_upto_region 18 with fail
          have S8 := hid (S7.out.num (.slice r7 (List.length os7) (List.length os7)))
          have AR8 := hid (set_arg (o := 1) (v := .slice r7 (List.length os7) (List.length os7)) AR7.out (fun x hx => Nat.ne_of_gt (L7.out x hx)))
          generalize hW : w7.setCell ⟨w4.heap.size, 1, none⟩ (.slice r7 (List.length os7) (List.length os7)) = w8 at *
          clear hW AR7 S7 g0 g1 g2 g3 k0 k1 k2 k3
          obtain ⟨⟨g0, g1, g2, g3⟩, -⟩ := S8.out.2.1.cells
          obtain ⟨⟨m0, m1, m2, m3⟩, o0, o1, o2, o3⟩ := S8.out.1.room
          go_wp2_with fail
          (try simp only [Exit.inBlock, Exit.then])
          refine bodyPost_ret (results_cell_row rfl _ _ (w.heap.size + 1 + 1) 41 _ (0, 0) _ rfl (S8.out.1.put _ _ _ _).1 Tryz.underlying41 rfl (by kernel_rfl)) rfl ?_
          exact ⟨_, n2, C - A, M, rfl, ⟨_, _, _, _, _, _, os7, ys, rfl, far_arg AR8.out (fun x hx => Nat.ne_of_gt (Nat.lt_trans S8.out.2.2 (L7.out x hx))), V7.out, TS7.out, Q5.out.1.below (S8.out.1.put _ _ _ _).2 (Nat.le_refl _), Q5.out.2.1, Q5.out.2.2.1, fun x hx => by have := L7.out x hx; have := S8.out.2.2; have := HB0.out; omega, Q5.out.2.2.2⟩, SI.out, (S8.out.1.put _ _ _ _).2⟩
        · have SI := hid (SE.out he hl)
          have s1 : s = 0 := by rw [← HSS.out, hl]; unfold cmpI; rw [if_neg (by omega), if_pos rfl]
          subst s1
          obtain ⟨⟨g0, g1, g2, g3⟩, k0, k1, k2, k3⟩ := S6.out.2.1.cells
          clear SP SG SL SE HSS hl AX AY VX VY TX TY B6
          go_upto_region 18 with fail
          have S8 := hid (S6.out.sign (.bool false))
          generalize hW : w6.setCell ⟨w4.heap.size, 0, none⟩ (.bool false) = w8 at *
          clear hW g0 g1 g2 g3 k0 k1 k2 k3 c0 c1 c2 c3 d0 d1 d2 d3 S6
          obtain ⟨⟨g0, g1, g2, g3⟩, -⟩ := S8.out.2.1.cells
          obtain ⟨⟨m0, m1, m2, m3⟩, o0, o1, o2, o3⟩ := S8.out.1.room
          go_wp2_with fail
          (try simp only [Exit.inBlock, Exit.then])
          refine bodyPost_ret (results_cell_row rfl _ _ (w.heap.size + 1 + 1) 41 _ (0, 0) _ rfl (S8.out.1.put _ _ _ _).1 Tryz.underlying41 rfl (by kernel_rfl)) rfl ?_
          exact ⟨_, false, 0, M, rfl, ⟨_, _, _, _, _, _, [], ys, rfl, nil_arg _, rfl, by simp [Nm.tsize], Q5.out.1.below (S8.out.1.put _ _ _ _).2 (Nat.le_refl _), Q5.out.2.1, Q5.out.2.2.1, none_far B, Q5.out.2.2.2⟩, SI.out, (S8.out.1.put _ _ _ _).2⟩
        · have SI := hid (SG.out he hl)
          have s1 : s = 1 := by rw [← HSS.out]; unfold cmpI; rw [if_neg (by omega), if_neg (by omega)]
          subst s1
          have LS := hid (less_any r1 r2 _ _ _ _ os1 os2 w6 (AX.out.below B6.out (Nat.le_refl _)) (AY.out.below B6.out (Nat.le_refl _)) (by have := TX.out.1; omega) (by rw [VX.out, VY.out]; omega))
          rw [VX.out, VY.out] at LS
          clear SP SG SL SE HSS hl AX AY VX VY TX TY
          go_wp2_with fail
          with_reducible refine LS.out.mono ?_
          rintro r w7 ⟨r7, os7, rfl, A7, hB7⟩
          clear LS
          have S7 := hid (S6.out.on hB7)
          have AR7 := hid (A7.arg (by have := (A7.tl (K := 4400) (BD.out.2.2.2.1) (by omega)).2.1; omega))
          have TS7 := hid (A7.tl (K := 4400) (BD.out.2.2.2.1) (by omega)).1
          have V7 := hid A7.2.2.2.1
          have L7 := hid (fun x hx => Nat.le_trans S6.out.lt (A7.2.2.2.2 x hx))
          clear A7 hB7 S6 c0 c1 c2 c3 d0 d1 d2 d3
          obtain ⟨⟨g0, g1, g2, g3⟩, k0, k1, k2, k3⟩ := S7.out.2.1.cells
          go_upto_region 18 with fail
          have S8 := hid (S7.out.num (.slice r7 (List.length os7) (List.length os7)))
          have AR8 := hid (set_arg (o := 1) (v := .slice r7 (List.length os7) (List.length os7)) AR7.out (fun x hx => Nat.ne_of_gt (L7.out x hx)))
          generalize hW : w7.setCell ⟨w4.heap.size, 1, none⟩ (.slice r7 (List.length os7) (List.length os7)) = w8 at *
          clear hW AR7 S7 g0 g1 g2 g3 k0 k1 k2 k3
          obtain ⟨⟨g0, g1, g2, g3⟩, -⟩ := S8.out.2.1.cells
          obtain ⟨⟨m0, m1, m2, m3⟩, o0, o1, o2, o3⟩ := S8.out.1.room
          go_wp2_with fail
          (try simp only [Exit.inBlock, Exit.then])
          refine bodyPost_ret (results_cell_row rfl _ _ (w.heap.size + 1 + 1) 41 _ (0, 0) _ rfl (S8.out.1.put _ _ _ _).1 Tryz.underlying41 rfl (by kernel_rfl)) rfl ?_
          exact ⟨_, n1, A - C, M, rfl, ⟨_, _, _, _, _, _, os7, ys, rfl, far_arg AR8.out (fun x hx => Nat.ne_of_gt (Nat.lt_trans S8.out.2.2 (L7.out x hx))), V7.out, TS7.out, Q5.out.1.below (S8.out.1.put _ _ _ _).2 (Nat.le_refl _), Q5.out.2.1, Q5.out.2.2.1, fun x hx => by have := L7.out x hx; have := S8.out.2.2; have := HB0.out; omega, Q5.out.2.2.2⟩, SI.out, (S8.out.1.put _ _ _ _).2⟩

theorem ysum_any {B : Nat} {w : World} {vx vy : Value} {n1 n2 : Bool} {V1 V2 e1 e2 : Int} (hx : RN B w vx n1 V1 1 e1) (hy : RN B w vy n2 V2 1 e2) (hB0 : B ≤ w.heap.size) (a1 : V1 < 1298074214633706907132624082305024) (b1 : V2 < 1298074214633706907132624082305024) (f0 : -2200 ≤ e1) (f1 : e1 ≤ 2000) (f2 : -2200 ≤ e2) (f3 : e2 ≤ 2000) :
    Calls Tryz.prog 20 #[vx, vy] w fun r w' => SumTold5 B n1 V1 e1 n2 V2 e2 w r w' := by
  by_cases hz : V1 = 0 ∧ V2 = 0
  · obtain ⟨rfl, rfl⟩ := hz
    exact ysum_none hx hy
  · exact ysum_some hx hy hB0 a1 b1 f0 f1 f2 f3 hz
end Go.Proofs.YtljpmddjcfkonaaGreatDoor

namespace Go.Proofs.YtljpmddjcfkonaaGreatDoor
open Go Go.RowKit Go.Deep

theorem RT.drew {w wx : World} {v0 v1 v2 v3 : Value} (h : RT w wx v0 v1 v2 v3) : RT w wx.drew v0 v1 v2 v3 := ⟨⟨h.1.1, h.1.2, h.1.3, h.1.4, h.1.5⟩, h.2⟩
theorem RT.four {w wx : World} {v0 v1 v2 v3 : Value} (h : RT w wx v0 v1 v2 v3) : wx.cell? ⟨w.heap.size, 0, none⟩ = some v0 ∧ wx.cell? ⟨w.heap.size, 1, none⟩ = some v1 ∧ wx.cell? ⟨w.heap.size, 2, none⟩ = some v2 ∧ wx.cell? ⟨w.heap.size, 3, none⟩ = some v3 := h.2.cells.1

theorem cmp_lt0 (A D : Int) : decide (cmpI A D < 0) = decide (A < D) := by
  rcases Int.lt_trichotomy A D with h | h | h
  · rw [show cmpI A D = -1 by unfold cmpI; rw [if_pos h], decide_eq_true h]; rfl
  · rw [show cmpI A D = 0 by unfold cmpI; rw [if_neg (by omega), if_pos h], decide_eq_false (by omega : ¬A < D)]; rfl
  · rw [show cmpI A D = 1 by unfold cmpI; rw [if_neg (by omega), if_neg (by omega)], decide_eq_false (by omega : ¬A < D)]; rfl
theorem cmp_eq0 (A D : Int) : (cmpI A D == 0) = decide (A = D) := by
  rcases Int.lt_trichotomy A D with h | h | h
  · rw [show cmpI A D = -1 by unfold cmpI; rw [if_pos h], decide_eq_false (by omega : ¬A = D)]; rfl
  · rw [show cmpI A D = 0 by unfold cmpI; rw [if_neg (by omega), if_pos h], decide_eq_true h]; rfl
  · rw [show cmpI A D = 1 by unfold cmpI; rw [if_neg (by omega), if_neg (by omega)], decide_eq_false (by omega : ¬A = D)]; rfl

/-- A Lift of a readable list. -/
theorem lift_of {w : World} {p : Option Addr} {n c : Nat} {zs : List Int} {V A : Int} {i : Nat} (h2 : Arg w p n c zs) (h3 : Nm.val zs = V) (h4 : Nm.tsize zs ≤ 4096) (hi : i ≤ 10000) (hA : V * 2 ^ i = A) :
    ∀ wx kk, kk = (i : Int) → Below w.heap.size w wx → Calls Tryz.prog 25 #[.slice p n c, .int .i64 kk] wx fun e w' => ∃ r os, e = .returned (.slice r (List.length os) (List.length os)) ∧ Ans wx.heap.size w' r os A ∧ Below wx.heap.size wx w' := fun wx kk hk b => by
  have h := lift_any p n c zs kk i wx (h2.below b (Nat.le_refl _)) (by omega) hk (by omega)
  rw [h3, hA] at h
  exact h

set_option maxRecDepth 100000 in
set_option maxHeartbeats 4000000 in
theorem ytiny_any {B : Nat} {w : World} {v : Value} {neg : Bool} {V D e : Int} (h : RN B w v neg V D e) (v1 : V < 2 ^ 4400) (d1 : D < 2 ^ 4400) (e0 : -4000 ≤ e) (e1 : e ≤ 4000) (i j : Nat) (hi : (i : Int) - j = e + 1022) (hij : i = 0 ∨ j = 0) :
    Calls Tryz.prog 83 #[v] w fun r w' => r = .returned (.bool (!decide (V = 0) && decide (V * 2 ^ i < D * 2 ^ j))) ∧ Below w.heap.size w w' := by
  have NX := hid (fun wx (b : Below w.heap.size w wx) => ynone_any (h.on b))
  obtain ⟨p, n, c, q, m, d, zs, ys, rfl, h2, h3, h4, h5, h6, h7, h8, h9⟩ := h
  have Z := hid (RT.new w (.bool neg) (.slice p n c) (.slice q m d) (.int .i64 e))
  have v0 : 0 ≤ V := by rw [← h3]; exact (Nm.val_bd zs h2.2.2.2.2).1
  have w0 : 0 ≤ D := by rw [← h6]; exact (Nm.val_bd ys h5.2.2.2.2).1
  by_cases hv : V = 0
  · rw [decide_eq_true hv] at NX ⊢
    clear h2 h3 h4 h5 h6 h7 h8 h9 v0 w0 v1 d1 hi hij hv
    go_enter Tryz.func83, Tryz.ntmps83
    go_upto_region 1 with fail
    generalize (w.alloc (.cells #[.bool neg, .slice p n c, .slice q m d, .int .i64 e] 41)) = wz at *
    have zb := Z.out.1
    obtain ⟨c0, c1, c2, c3⟩ := Z.out.four
    go_wp2_with fail
    with_reducible refine (NX.out _ zb).mono ?_
    rintro r w1 ⟨rfl, hB1⟩
    have B1 := hid (bel zb hB1)
    clear zb hB1 Z NX c0 c1 c2 c3
    go_wp2_with fail
    go_ret
    exact ⟨rfl, B1.out⟩
  · rw [decide_eq_false hv] at NX ⊢
    rcases (show (j = 0 ∧ 0 ≤ e + 1022) ∨ (i = 0 ∧ e + 1022 < 0) by omega) with ⟨rfl, hk⟩ | ⟨rfl, hk⟩
    · obtain ⟨A, hA⟩ : ∃ A, V * 2 ^ i = A := ⟨_, rfl⟩
      have bA : A < 2 ^ 10000 := by
        rw [← hA]
        have t1 := Nm.two_mono (show 4400 + i ≤ 10000 by omega)
        have t2 : V * 2 ^ i ≤ 2 ^ 4400 * 2 ^ i := Int.mul_le_mul_of_nonneg_right (Int.le_of_lt v1) (Int.le_of_lt (Nm.two_pos i))
        rw [← Int.pow_add] at t2
        have t3 : V * 2 ^ i < 2 ^ 4400 * 2 ^ i := Int.mul_lt_mul_of_pos_right v1 (Nm.two_pos i)
        rw [← Int.pow_add] at t3
        generalize (2 : Int) ^ (4400 + i) = X at *
        generalize (2 : Int) ^ 10000 = Y at *
        omega
      have LF := hid (lift_of h2 h3 h4 (show i ≤ 10000 by omega) hA)
      have CM : Hid (∀ (wx w2 : World) r os, Below w.heap.size w wx → Ans wx.heap.size w2 r os A → Below wx.heap.size wx w2 → Calls Tryz.prog 42 #[.slice r (List.length os) (List.length os), .slice q m d] w2 fun e w' => e = .returned (.int .i64 (cmpI A D)) ∧ Below w2.heap.size w2 w') := fun wx w2 r os b a b2 => by
        have h := refCmp_any r q _ _ m d os ys w2 (a.arg (by have := (a.tl bA (by omega)).2.1; omega)) (h5.below (bel b b2) (Nat.le_refl _))
        rw [a.2.2.2.1, h6] at h
        exact h
      obtain ⟨s, hs⟩ : ∃ s, cmpI A D = s := ⟨_, rfl⟩
      have F : Hid (decide (s < 0) = (!false && decide (A < D * 2 ^ 0))) := by
        rw [Hid, ← hs, Int.pow_zero, Int.mul_one, cmp_lt0]; rfl
      rw [hs] at CM
      have HK : Hid (e + 1022 = (i : Int)) := by rw [Hid]; omega
      have WK : IntKind.i64.wrap (e + 1022) = e + 1022 := by rw [IntKind.wrap_i64]; omega
      clear h2 h3 h4 h5 h6 h7 h8 h9 v0 w0 v1 d1 hi hij hv bA hs
      rw [hA]
      clear hA
      go_enter Tryz.func83, Tryz.ntmps83
      go_upto_region 1 with fail
      generalize (w.alloc (.cells #[.bool neg, .slice p n c, .slice q m d, .int .i64 e] 41)) = wz at *
      have zb := Z.out.1
      obtain ⟨c0, c1, c2, c3⟩ := Z.out.four
      go_wp2_with fail
      with_reducible refine (NX.out _ zb).mono ?_
      rintro r w1 ⟨rfl, hB1⟩
      have Z1 := hid (Z.out.on hB1)
      clear zb hB1 Z NX c0 c1 c2 c3
      obtain ⟨c0, c1, c2, c3⟩ := Z1.out.four
      go_upto_region 5 with fail
      clear c0 c1 c2 c3
      have ZD := hid Z1.out.drew
      have zb := ZD.out.1
      go_region_held3 (fun wx => wx.cell? ⟨w.heap.size, 0, none⟩ = some (.bool neg) ∧ wx.cell? ⟨w.heap.size, 1, none⟩ = some (.slice p n c) ∧ wx.cell? ⟨w.heap.size, 2, none⟩ = some (.slice q m d) ∧ wx.cell? ⟨w.heap.size, 3, none⟩ = some (.int .i64 e)) (first | (with_reducible exact T2.out.four) | (with_reducible exact T1.out.four) | (with_reducible exact ZD.out.four)) (first
        | (go_at_call 25; with_reducible refine (LF.out _ _ HK.out zb).mono ?_; rintro r w2 ⟨pr, os, rfl, A2, hB2⟩; have T1 := hid (ZD.out.on hB2); have CA := hid (CM.out _ _ _ _ zb A2 hB2); clear A2 hB2)
        | (go_at_call 42; with_reducible refine CA.out.mono ?_; rintro r w3 ⟨rfl, hB3⟩; have T2 := hid (T1.out.on hB3); clear hB3))
      all_goals go_wp2_with fail
      all_goals go_ret
      all_goals exact ⟨yret_b F.out, T2.out.1⟩
    · obtain ⟨A, hA⟩ : ∃ A, D * 2 ^ j = A := ⟨_, rfl⟩
      have bA : A < 2 ^ 10000 := by
        rw [← hA]
        have t1 := Nm.two_mono (show 4400 + j ≤ 10000 by omega)
        have t3 : D * 2 ^ j < 2 ^ 4400 * 2 ^ j := Int.mul_lt_mul_of_pos_right d1 (Nm.two_pos j)
        rw [← Int.pow_add] at t3
        generalize (2 : Int) ^ (4400 + j) = X at *
        generalize (2 : Int) ^ 10000 = Y at *
        omega
      have LF := hid (lift_of h5 h6 h7 (show j ≤ 10000 by omega) hA)
      have CM : Hid (∀ (wx w2 : World) r os, Below w.heap.size w wx → Ans wx.heap.size w2 r os A → Below wx.heap.size wx w2 → Calls Tryz.prog 42 #[.slice p n c, .slice r (List.length os) (List.length os)] w2 fun e w' => e = .returned (.int .i64 (cmpI V A)) ∧ Below w2.heap.size w2 w') := fun wx w2 r os b a b2 => by
        have h := refCmp_any p r n c _ _ zs os w2 (h2.below (bel b b2) (Nat.le_refl _)) (a.arg (by have := (a.tl bA (by omega)).2.1; omega))
        rw [a.2.2.2.1, h3] at h
        exact h
      obtain ⟨s, hs⟩ : ∃ s, cmpI V A = s := ⟨_, rfl⟩
      have F : Hid (decide (s < 0) = (!false && decide (V * 2 ^ 0 < A))) := by
        rw [Hid, ← hs, Int.pow_zero, Int.mul_one, cmp_lt0]; rfl
      rw [hs] at CM
      have HK : Hid (-(e + 1022) = (j : Int)) := by rw [Hid]; omega
      have WK : IntKind.i64.wrap (e + 1022) = e + 1022 := by rw [IntKind.wrap_i64]; omega
      have WN : IntKind.i64.wrap (-(e + 1022)) = -(e + 1022) := by rw [IntKind.wrap_i64]; omega
      have hk2 : ¬(0 ≤ e + 1022) := by omega
      clear h2 h3 h4 h5 h6 h7 h8 h9 v0 w0 v1 d1 hi hij hv bA hs
      rw [hA]
      clear hA
      go_enter Tryz.func83, Tryz.ntmps83
      go_upto_region 1 with fail
      generalize (w.alloc (.cells #[.bool neg, .slice p n c, .slice q m d, .int .i64 e] 41)) = wz at *
      have zb := Z.out.1
      obtain ⟨c0, c1, c2, c3⟩ := Z.out.four
      go_wp2_with fail
      with_reducible refine (NX.out _ zb).mono ?_
      rintro r w1 ⟨rfl, hB1⟩
      have Z1 := hid (Z.out.on hB1)
      clear zb hB1 Z NX c0 c1 c2 c3
      obtain ⟨c0, c1, c2, c3⟩ := Z1.out.four
      go_upto_region 6 with fail
      clear c0 c1 c2 c3
      have ZD := hid Z1.out.drew
      have zb := ZD.out.1
      go_region_held3 (fun wx => wx.cell? ⟨w.heap.size, 0, none⟩ = some (.bool neg) ∧ wx.cell? ⟨w.heap.size, 1, none⟩ = some (.slice p n c) ∧ wx.cell? ⟨w.heap.size, 2, none⟩ = some (.slice q m d) ∧ wx.cell? ⟨w.heap.size, 3, none⟩ = some (.int .i64 e)) (first | (with_reducible exact T2.out.four) | (with_reducible exact T1.out.four) | (with_reducible exact ZD.out.four)) (first
        | (go_at_call 25; with_reducible refine (LF.out _ _ HK.out zb).mono ?_; rintro r w2 ⟨pr, os, rfl, A2, hB2⟩; have T1 := hid (ZD.out.on hB2); have CA := hid (CM.out _ _ _ _ zb A2 hB2); clear A2 hB2)
        | (go_at_call 42; with_reducible refine CA.out.mono ?_; rintro r w3 ⟨rfl, hB3⟩; have T2 := hid (T1.out.on hB3); clear hB3))
      all_goals go_wp2_with fail
      all_goals go_ret
      all_goals exact ⟨yret_b F.out, T2.out.1⟩
end Go.Proofs.YtljpmddjcfkonaaGreatDoor

namespace Go.Proofs.YtljpmddjcfkonaaGreatDoor
open Go Go.RowKit Go.Deep

set_option maxRecDepth 100000 in
set_option maxHeartbeats 16000000 in
theorem ytold1 (a b c d G : Int) {na nb nd fa fb : Bool} (w : World) (ANS : ∀ wx, Calls Tryz.prog 59 #[.int .i64 1, .int .u64 a, .int .u64 b, .int .u64 c] wx fun r w' => r = .returned (.int .u64 d) ∧ Below wx.heap.size wx w') (NA : ∀ wx, Calls Tryz.prog 13 #[.int .u64 a] wx fun r w' => r = .returned (.bool na) ∧ w' = wx) (NB : ∀ wx, Calls Tryz.prog 13 #[.int .u64 b] wx fun r w' => r = .returned (.bool nb) ∧ w' = wx) (ND : ∀ wx, Calls Tryz.prog 13 #[.int .u64 d] wx fun r w' => r = .returned (.bool nd) ∧ w' = wx) (FA : ∀ wx, Calls Tryz.prog 60 #[.int .u64 a] wx fun r w' => r = .returned (.bool fa) ∧ w' = wx) (FB : ∀ wx, Calls Tryz.prog 60 #[.int .u64 b] wx fun r w' => r = .returned (.bool fb) ∧ w' = wx) (FLG : na = false → fa = true → nb = false → fb = true → nd = false → ∀ wx, Calls Tryz.prog 61 #[.int .i64 1, .int .u64 a, .int .u64 b, .int .u64 c, .int .u64 d] wx fun r w' => r = .returned (.int .i64 G) ∧ Below wx.heap.size wx w') :
    Calls Tryz.prog 27 #[.int .i64 1, .int .u64 a, .int .u64 b, .int .u64 c] w fun r w' => r = .returned (.tuple #[.int .u64 d, .int .i64 (Ie.FRx (na || nb) nd false (fa && fb) G), .int .i64 0]) ∧ Below w.heap.size w w' := by
  replace ANS := hid ANS
  replace NA := hid NA
  replace NB := hid NB
  replace ND := hid ND
  replace FA := hid FA
  replace FB := hid FB
  replace FLG := hid FLG
  obtain ⟨F, hF⟩ : ∃ F, Ie.FRx (na || nb) nd false (fa && fb) G = F := ⟨_, rfl⟩
  rw [hF]
  have HF := hid hF
  clear hF
  go_enter Tryz.func27, Tryz.ntmps27
  go_wp2_with fail
  with_reducible refine (ANS.out _).mono ?_
  rintro r w1 ⟨rfl, hB1⟩
  have O2 := hid (show Own (w1.alloc (.cells #[.int .u64 a] 23)) w1.heap.size [a] from Own.alloc w1 [a])
  have B2 := hid (bel hB1 (alloc_b w1 (.cells #[.int .u64 a] 23)))
  have L2 := hid hB1.size
  clear hB1 ANS
  go_upto_region 5 with fail
  generalize (w1.alloc (.cells #[.int .u64 a] 23)) = w2 at *
  generalize w1.heap.size = g at *
  obtain ⟨g3, k3, w3, ap3, hk3, o3, d3⟩ := app64 g 1 1 [a] b w2 rfl (by decide) (by decide) O2.out
  obtain ⟨e3, l3⟩ := d3 w.heap.size L2.out B2.out.size
  have AP3 := hid ap3
  have B3 := hid (B2.out.trans e3)
  have O3 := hid o3
  have L3 := hid l3
  clear ap3 o3 d3 e3 l3 O2 B2 L2
  have BB := hid B3.out
  have c0 := O3.out.cell 0 (by simp)
  have c1 := O3.out.cell 1 (by simp)
  simp at c0 c1
  clear O3 B3 L3
  go_wp2_with (at_builtin; refine wpList_append_row rfl _ _ rfl AP3.out (by rfl) (by rfl) ?_; clear AP3)
  refine wp_loop_rounds 3 ?_
  rw [rounds_succ]
  go_wp2_with fail
  with_reducible refine (NA.out _).mono ?_
  rintro r w0 ⟨rfl, ew⟩
  rw [ew]
  clear ew w0
  cases na with
  | true =>
    obtain rfl : (0 : Int) = F := HF.out
    go_wp2_with fail
    go_ret3
    exact ⟨rfl, BB.out⟩
  | false =>
    go_wp2_with fail
    with_reducible refine (FA.out _).mono ?_
    rintro r w0 ⟨rfl, ew⟩
    rw [ew]
    clear ew w0
    cases fa with
    | false =>
      go_wp2_with fail
      rw [rounds_succ]
      go_wp2_with fail
      with_reducible refine (NB.out _).mono ?_
      rintro r w0 ⟨rfl, ew⟩
      rw [ew]
      clear ew w0
      cases nb with
      | true =>
        obtain rfl : (0 : Int) = F := HF.out
        go_wp2_with fail
        go_ret3
        exact ⟨rfl, BB.out⟩
      | false =>
        go_wp2_with fail
        rw [rounds_succ]
        go_wp2_with fail
        with_reducible refine (ND.out _).mono ?_
        rintro r w0 ⟨rfl, ew⟩
        rw [ew]
        clear ew w0
        cases nd with
        | true =>
          obtain rfl : (1 : Int) = F := HF.out
          go_wp2_with fail
          go_ret3
          exact ⟨rfl, BB.out⟩
        | false =>
          obtain rfl : (0 : Int) = F := HF.out
          go_wp2_with fail
          go_ret3
          exact ⟨rfl, BB.out⟩
    | true =>
      go_wp2_with fail
      rw [rounds_succ]
      go_wp2_with fail
      with_reducible refine (NB.out _).mono ?_
      rintro r w0 ⟨rfl, ew⟩
      rw [ew]
      clear ew w0
      cases nb with
      | true =>
        obtain rfl : (0 : Int) = F := HF.out
        go_wp2_with fail
        go_ret3
        exact ⟨rfl, BB.out⟩
      | false =>
        go_wp2_with fail
        with_reducible refine (FB.out _).mono ?_
        rintro r w0 ⟨rfl, ew⟩
        rw [ew]
        clear ew w0
        cases fb with
        | false =>
          go_wp2_with fail
          rw [rounds_succ]
          go_wp2_with fail
          with_reducible refine (ND.out _).mono ?_
          rintro r w0 ⟨rfl, ew⟩
          rw [ew]
          clear ew w0
          cases nd with
          | true =>
            obtain rfl : (1 : Int) = F := HF.out
            go_wp2_with fail
            go_ret3
            exact ⟨rfl, BB.out⟩
          | false =>
            obtain rfl : (0 : Int) = F := HF.out
            go_wp2_with fail
            go_ret3
            exact ⟨rfl, BB.out⟩
        | true =>
          go_wp2_with fail
          rw [rounds_succ]
          go_wp2_with fail
          with_reducible refine (ND.out _).mono ?_
          rintro r w0 ⟨rfl, ew⟩
          rw [ew]
          clear ew w0
          cases nd with
          | true =>
            obtain rfl : (1 : Int) = F := HF.out
            go_wp2_with fail
            go_ret3
            exact ⟨rfl, BB.out⟩
          | false =>
            have FG := hid (FLG.out (by trivial) (by trivial) (by trivial) (by trivial) (by trivial))
            obtain rfl : G = F := HF.out
            go_wp2_with fail
            with_reducible refine (FG.out _).mono ?_
            rintro r w9 ⟨rfl, hB9⟩
            have B9 := hid (bel BB.out hB9)
            clear hB9 FG FLG
            go_wp2_with fail
            go_ret3
            exact ⟨rfl, B9.out⟩

set_option maxRecDepth 100000 in
set_option maxHeartbeats 16000000 in
theorem ytold2 (a b c d G : Int) {na nb nd fa fb : Bool} (w : World) (ANS : ∀ wx, Calls Tryz.prog 59 #[.int .i64 2, .int .u64 a, .int .u64 b, .int .u64 c] wx fun r w' => r = .returned (.int .u64 d) ∧ Below wx.heap.size wx w') (NA : ∀ wx, Calls Tryz.prog 13 #[.int .u64 a] wx fun r w' => r = .returned (.bool na) ∧ w' = wx) (NB : ∀ wx, Calls Tryz.prog 13 #[.int .u64 b] wx fun r w' => r = .returned (.bool nb) ∧ w' = wx) (ND : ∀ wx, Calls Tryz.prog 13 #[.int .u64 d] wx fun r w' => r = .returned (.bool nd) ∧ w' = wx) (FA : ∀ wx, Calls Tryz.prog 60 #[.int .u64 a] wx fun r w' => r = .returned (.bool fa) ∧ w' = wx) (FB : ∀ wx, Calls Tryz.prog 60 #[.int .u64 b] wx fun r w' => r = .returned (.bool fb) ∧ w' = wx) (FLG : na = false → fa = true → nb = false → fb = true → nd = false → ∀ wx, Calls Tryz.prog 61 #[.int .i64 2, .int .u64 a, .int .u64 b, .int .u64 c, .int .u64 d] wx fun r w' => r = .returned (.int .i64 G) ∧ Below wx.heap.size wx w') :
    Calls Tryz.prog 27 #[.int .i64 2, .int .u64 a, .int .u64 b, .int .u64 c] w fun r w' => r = .returned (.tuple #[.int .u64 d, .int .i64 (Ie.FRx (na || nb) nd false (fa && fb) G), .int .i64 0]) ∧ Below w.heap.size w w' := by
  replace ANS := hid ANS
  replace NA := hid NA
  replace NB := hid NB
  replace ND := hid ND
  replace FA := hid FA
  replace FB := hid FB
  replace FLG := hid FLG
  obtain ⟨F, hF⟩ : ∃ F, Ie.FRx (na || nb) nd false (fa && fb) G = F := ⟨_, rfl⟩
  rw [hF]
  have HF := hid hF
  clear hF
  go_enter Tryz.func27, Tryz.ntmps27
  go_wp2_with fail
  with_reducible refine (ANS.out _).mono ?_
  rintro r w1 ⟨rfl, hB1⟩
  have O2 := hid (show Own (w1.alloc (.cells #[.int .u64 a] 23)) w1.heap.size [a] from Own.alloc w1 [a])
  have B2 := hid (bel hB1 (alloc_b w1 (.cells #[.int .u64 a] 23)))
  have L2 := hid hB1.size
  clear hB1 ANS
  go_upto_region 5 with fail
  generalize (w1.alloc (.cells #[.int .u64 a] 23)) = w2 at *
  generalize w1.heap.size = g at *
  obtain ⟨g3, k3, w3, ap3, hk3, o3, d3⟩ := app64 g 1 1 [a] b w2 rfl (by decide) (by decide) O2.out
  obtain ⟨e3, l3⟩ := d3 w.heap.size L2.out B2.out.size
  have AP3 := hid ap3
  have B3 := hid (B2.out.trans e3)
  have O3 := hid o3
  have L3 := hid l3
  clear ap3 o3 d3 e3 l3 O2 B2 L2
  have BB := hid B3.out
  have c0 := O3.out.cell 0 (by simp)
  have c1 := O3.out.cell 1 (by simp)
  simp at c0 c1
  clear O3 B3 L3
  go_wp2_with (at_builtin; refine wpList_append_row rfl _ _ rfl AP3.out (by rfl) (by rfl) ?_; clear AP3)
  refine wp_loop_rounds 3 ?_
  rw [rounds_succ]
  go_wp2_with fail
  with_reducible refine (NA.out _).mono ?_
  rintro r w0 ⟨rfl, ew⟩
  rw [ew]
  clear ew w0
  cases na with
  | true =>
    obtain rfl : (0 : Int) = F := HF.out
    go_wp2_with fail
    go_ret3
    exact ⟨rfl, BB.out⟩
  | false =>
    go_wp2_with fail
    with_reducible refine (FA.out _).mono ?_
    rintro r w0 ⟨rfl, ew⟩
    rw [ew]
    clear ew w0
    cases fa with
    | false =>
      go_wp2_with fail
      rw [rounds_succ]
      go_wp2_with fail
      with_reducible refine (NB.out _).mono ?_
      rintro r w0 ⟨rfl, ew⟩
      rw [ew]
      clear ew w0
      cases nb with
      | true =>
        obtain rfl : (0 : Int) = F := HF.out
        go_wp2_with fail
        go_ret3
        exact ⟨rfl, BB.out⟩
      | false =>
        go_wp2_with fail
        rw [rounds_succ]
        go_wp2_with fail
        with_reducible refine (ND.out _).mono ?_
        rintro r w0 ⟨rfl, ew⟩
        rw [ew]
        clear ew w0
        cases nd with
        | true =>
          obtain rfl : (1 : Int) = F := HF.out
          go_wp2_with fail
          go_ret3
          exact ⟨rfl, BB.out⟩
        | false =>
          obtain rfl : (0 : Int) = F := HF.out
          go_wp2_with fail
          go_ret3
          exact ⟨rfl, BB.out⟩
    | true =>
      go_wp2_with fail
      rw [rounds_succ]
      go_wp2_with fail
      with_reducible refine (NB.out _).mono ?_
      rintro r w0 ⟨rfl, ew⟩
      rw [ew]
      clear ew w0
      cases nb with
      | true =>
        obtain rfl : (0 : Int) = F := HF.out
        go_wp2_with fail
        go_ret3
        exact ⟨rfl, BB.out⟩
      | false =>
        go_wp2_with fail
        with_reducible refine (FB.out _).mono ?_
        rintro r w0 ⟨rfl, ew⟩
        rw [ew]
        clear ew w0
        cases fb with
        | false =>
          go_wp2_with fail
          rw [rounds_succ]
          go_wp2_with fail
          with_reducible refine (ND.out _).mono ?_
          rintro r w0 ⟨rfl, ew⟩
          rw [ew]
          clear ew w0
          cases nd with
          | true =>
            obtain rfl : (1 : Int) = F := HF.out
            go_wp2_with fail
            go_ret3
            exact ⟨rfl, BB.out⟩
          | false =>
            obtain rfl : (0 : Int) = F := HF.out
            go_wp2_with fail
            go_ret3
            exact ⟨rfl, BB.out⟩
        | true =>
          go_wp2_with fail
          rw [rounds_succ]
          go_wp2_with fail
          with_reducible refine (ND.out _).mono ?_
          rintro r w0 ⟨rfl, ew⟩
          rw [ew]
          clear ew w0
          cases nd with
          | true =>
            obtain rfl : (1 : Int) = F := HF.out
            go_wp2_with fail
            go_ret3
            exact ⟨rfl, BB.out⟩
          | false =>
            have FG := hid (FLG.out (by trivial) (by trivial) (by trivial) (by trivial) (by trivial))
            obtain rfl : G = F := HF.out
            go_wp2_with fail
            with_reducible refine (FG.out _).mono ?_
            rintro r w9 ⟨rfl, hB9⟩
            have B9 := hid (bel BB.out hB9)
            clear hB9 FG FLG
            go_wp2_with fail
            go_ret3
            exact ⟨rfl, B9.out⟩

set_option maxRecDepth 100000 in
set_option maxHeartbeats 16000000 in
theorem ytold3 (a b c d G : Int) {na nb nd fa fb : Bool} (w : World) (ANS : ∀ wx, Calls Tryz.prog 59 #[.int .i64 3, .int .u64 a, .int .u64 b, .int .u64 c] wx fun r w' => r = .returned (.int .u64 d) ∧ Below wx.heap.size wx w') (NA : ∀ wx, Calls Tryz.prog 13 #[.int .u64 a] wx fun r w' => r = .returned (.bool na) ∧ w' = wx) (NB : ∀ wx, Calls Tryz.prog 13 #[.int .u64 b] wx fun r w' => r = .returned (.bool nb) ∧ w' = wx) (ND : ∀ wx, Calls Tryz.prog 13 #[.int .u64 d] wx fun r w' => r = .returned (.bool nd) ∧ w' = wx) (FA : ∀ wx, Calls Tryz.prog 60 #[.int .u64 a] wx fun r w' => r = .returned (.bool fa) ∧ w' = wx) (FB : ∀ wx, Calls Tryz.prog 60 #[.int .u64 b] wx fun r w' => r = .returned (.bool fb) ∧ w' = wx) (FLG : na = false → fa = true → nb = false → fb = true → nd = false → ∀ wx, Calls Tryz.prog 61 #[.int .i64 3, .int .u64 a, .int .u64 b, .int .u64 c, .int .u64 d] wx fun r w' => r = .returned (.int .i64 G) ∧ Below wx.heap.size wx w') :
    Calls Tryz.prog 27 #[.int .i64 3, .int .u64 a, .int .u64 b, .int .u64 c] w fun r w' => r = .returned (.tuple #[.int .u64 d, .int .i64 (Ie.FRx (na || nb) nd false (fa && fb) G), .int .i64 0]) ∧ Below w.heap.size w w' := by
  replace ANS := hid ANS
  replace NA := hid NA
  replace NB := hid NB
  replace ND := hid ND
  replace FA := hid FA
  replace FB := hid FB
  replace FLG := hid FLG
  obtain ⟨F, hF⟩ : ∃ F, Ie.FRx (na || nb) nd false (fa && fb) G = F := ⟨_, rfl⟩
  rw [hF]
  have HF := hid hF
  clear hF
  go_enter Tryz.func27, Tryz.ntmps27
  go_wp2_with fail
  with_reducible refine (ANS.out _).mono ?_
  rintro r w1 ⟨rfl, hB1⟩
  have O2 := hid (show Own (w1.alloc (.cells #[.int .u64 a] 23)) w1.heap.size [a] from Own.alloc w1 [a])
  have B2 := hid (bel hB1 (alloc_b w1 (.cells #[.int .u64 a] 23)))
  have L2 := hid hB1.size
  clear hB1 ANS
  go_upto_region 5 with fail
  generalize (w1.alloc (.cells #[.int .u64 a] 23)) = w2 at *
  generalize w1.heap.size = g at *
  obtain ⟨g3, k3, w3, ap3, hk3, o3, d3⟩ := app64 g 1 1 [a] b w2 rfl (by decide) (by decide) O2.out
  obtain ⟨e3, l3⟩ := d3 w.heap.size L2.out B2.out.size
  have AP3 := hid ap3
  have B3 := hid (B2.out.trans e3)
  have O3 := hid o3
  have L3 := hid l3
  clear ap3 o3 d3 e3 l3 O2 B2 L2
  have BB := hid B3.out
  have c0 := O3.out.cell 0 (by simp)
  have c1 := O3.out.cell 1 (by simp)
  simp at c0 c1
  clear O3 B3 L3
  go_wp2_with (at_builtin; refine wpList_append_row rfl _ _ rfl AP3.out (by rfl) (by rfl) ?_; clear AP3)
  refine wp_loop_rounds 3 ?_
  rw [rounds_succ]
  go_wp2_with fail
  with_reducible refine (NA.out _).mono ?_
  rintro r w0 ⟨rfl, ew⟩
  rw [ew]
  clear ew w0
  cases na with
  | true =>
    obtain rfl : (0 : Int) = F := HF.out
    go_wp2_with fail
    go_ret3
    exact ⟨rfl, BB.out⟩
  | false =>
    go_wp2_with fail
    with_reducible refine (FA.out _).mono ?_
    rintro r w0 ⟨rfl, ew⟩
    rw [ew]
    clear ew w0
    cases fa with
    | false =>
      go_wp2_with fail
      rw [rounds_succ]
      go_wp2_with fail
      with_reducible refine (NB.out _).mono ?_
      rintro r w0 ⟨rfl, ew⟩
      rw [ew]
      clear ew w0
      cases nb with
      | true =>
        obtain rfl : (0 : Int) = F := HF.out
        go_wp2_with fail
        go_ret3
        exact ⟨rfl, BB.out⟩
      | false =>
        go_wp2_with fail
        rw [rounds_succ]
        go_wp2_with fail
        with_reducible refine (ND.out _).mono ?_
        rintro r w0 ⟨rfl, ew⟩
        rw [ew]
        clear ew w0
        cases nd with
        | true =>
          obtain rfl : (1 : Int) = F := HF.out
          go_wp2_with fail
          go_ret3
          exact ⟨rfl, BB.out⟩
        | false =>
          obtain rfl : (0 : Int) = F := HF.out
          go_wp2_with fail
          go_ret3
          exact ⟨rfl, BB.out⟩
    | true =>
      go_wp2_with fail
      rw [rounds_succ]
      go_wp2_with fail
      with_reducible refine (NB.out _).mono ?_
      rintro r w0 ⟨rfl, ew⟩
      rw [ew]
      clear ew w0
      cases nb with
      | true =>
        obtain rfl : (0 : Int) = F := HF.out
        go_wp2_with fail
        go_ret3
        exact ⟨rfl, BB.out⟩
      | false =>
        go_wp2_with fail
        with_reducible refine (FB.out _).mono ?_
        rintro r w0 ⟨rfl, ew⟩
        rw [ew]
        clear ew w0
        cases fb with
        | false =>
          go_wp2_with fail
          rw [rounds_succ]
          go_wp2_with fail
          with_reducible refine (ND.out _).mono ?_
          rintro r w0 ⟨rfl, ew⟩
          rw [ew]
          clear ew w0
          cases nd with
          | true =>
            obtain rfl : (1 : Int) = F := HF.out
            go_wp2_with fail
            go_ret3
            exact ⟨rfl, BB.out⟩
          | false =>
            obtain rfl : (0 : Int) = F := HF.out
            go_wp2_with fail
            go_ret3
            exact ⟨rfl, BB.out⟩
        | true =>
          go_wp2_with fail
          rw [rounds_succ]
          go_wp2_with fail
          with_reducible refine (ND.out _).mono ?_
          rintro r w0 ⟨rfl, ew⟩
          rw [ew]
          clear ew w0
          cases nd with
          | true =>
            obtain rfl : (1 : Int) = F := HF.out
            go_wp2_with fail
            go_ret3
            exact ⟨rfl, BB.out⟩
          | false =>
            have FG := hid (FLG.out (by trivial) (by trivial) (by trivial) (by trivial) (by trivial))
            obtain rfl : G = F := HF.out
            go_wp2_with fail
            with_reducible refine (FG.out _).mono ?_
            rintro r w9 ⟨rfl, hB9⟩
            have B9 := hid (bel BB.out hB9)
            clear hB9 FG FLG
            go_wp2_with fail
            go_ret3
            exact ⟨rfl, B9.out⟩

set_option maxRecDepth 100000 in
set_option maxHeartbeats 16000000 in
theorem ytold4 (a b c d G : Int) {na nb nd fa fb zb : Bool} (w : World) (ANS : ∀ wx, Calls Tryz.prog 59 #[.int .i64 4, .int .u64 a, .int .u64 b, .int .u64 c] wx fun r w' => r = .returned (.int .u64 d) ∧ Below wx.heap.size wx w') (NA : ∀ wx, Calls Tryz.prog 13 #[.int .u64 a] wx fun r w' => r = .returned (.bool na) ∧ w' = wx) (NB : ∀ wx, Calls Tryz.prog 13 #[.int .u64 b] wx fun r w' => r = .returned (.bool nb) ∧ w' = wx) (ND : ∀ wx, Calls Tryz.prog 13 #[.int .u64 d] wx fun r w' => r = .returned (.bool nd) ∧ w' = wx) (FA : ∀ wx, Calls Tryz.prog 60 #[.int .u64 a] wx fun r w' => r = .returned (.bool fa) ∧ w' = wx) (FB : ∀ wx, Calls Tryz.prog 60 #[.int .u64 b] wx fun r w' => r = .returned (.bool fb) ∧ w' = wx) (ZB : ∀ wx, Calls Tryz.prog 23 #[.int .u64 b] wx fun r w' => r = .returned (.bool zb) ∧ w' = wx) (FLG : na = false → fa = true → nb = false → fb = true → nd = false → zb = false → ∀ wx, Calls Tryz.prog 61 #[.int .i64 4, .int .u64 a, .int .u64 b, .int .u64 c, .int .u64 d] wx fun r w' => r = .returned (.int .i64 G) ∧ Below wx.heap.size wx w') :
    Calls Tryz.prog 27 #[.int .i64 4, .int .u64 a, .int .u64 b, .int .u64 c] w fun r w' => r = .returned (.tuple #[.int .u64 d, .int .i64 (Ie.FRx (na || nb) nd (zb && (fa && fb)) (fa && fb) G), .int .i64 0]) ∧ Below w.heap.size w w' := by
  replace ANS := hid ANS
  replace NA := hid NA
  replace NB := hid NB
  replace ND := hid ND
  replace FA := hid FA
  replace FB := hid FB
  replace ZB := hid ZB
  replace FLG := hid FLG
  obtain ⟨F, hF⟩ : ∃ F, Ie.FRx (na || nb) nd (zb && (fa && fb)) (fa && fb) G = F := ⟨_, rfl⟩
  rw [hF]
  have HF := hid hF
  clear hF
  go_enter Tryz.func27, Tryz.ntmps27
  go_wp2_with fail
  with_reducible refine (ANS.out _).mono ?_
  rintro r w1 ⟨rfl, hB1⟩
  have O2 := hid (show Own (w1.alloc (.cells #[.int .u64 a] 23)) w1.heap.size [a] from Own.alloc w1 [a])
  have B2 := hid (bel hB1 (alloc_b w1 (.cells #[.int .u64 a] 23)))
  have L2 := hid hB1.size
  clear hB1 ANS
  go_upto_region 5 with fail
  generalize (w1.alloc (.cells #[.int .u64 a] 23)) = w2 at *
  generalize w1.heap.size = g at *
  obtain ⟨g3, k3, w3, ap3, hk3, o3, d3⟩ := app64 g 1 1 [a] b w2 rfl (by decide) (by decide) O2.out
  obtain ⟨e3, l3⟩ := d3 w.heap.size L2.out B2.out.size
  have AP3 := hid ap3
  have B3 := hid (B2.out.trans e3)
  have O3 := hid o3
  have L3 := hid l3
  clear ap3 o3 d3 e3 l3 O2 B2 L2
  have BB := hid B3.out
  have c0 := O3.out.cell 0 (by simp)
  have c1 := O3.out.cell 1 (by simp)
  simp at c0 c1
  clear O3 B3 L3
  go_wp2_with (at_builtin; refine wpList_append_row rfl _ _ rfl AP3.out (by rfl) (by rfl) ?_; clear AP3)
  refine wp_loop_rounds 3 ?_
  rw [rounds_succ]
  go_wp2_with fail
  with_reducible refine (NA.out _).mono ?_
  rintro r w0 ⟨rfl, ew⟩
  rw [ew]
  clear ew w0
  cases na with
  | true =>
    obtain rfl : (0 : Int) = F := HF.out
    go_wp2_with fail
    go_ret3
    exact ⟨rfl, BB.out⟩
  | false =>
    go_wp2_with fail
    with_reducible refine (FA.out _).mono ?_
    rintro r w0 ⟨rfl, ew⟩
    rw [ew]
    clear ew w0
    cases fa with
    | false =>
      go_wp2_with fail
      rw [rounds_succ]
      go_wp2_with fail
      with_reducible refine (NB.out _).mono ?_
      rintro r w0 ⟨rfl, ew⟩
      rw [ew]
      clear ew w0
      cases nb with
      | true =>
        obtain rfl : (0 : Int) = F := HF.out
        go_wp2_with fail
        go_ret3
        exact ⟨rfl, BB.out⟩
      | false =>
        go_wp2_with fail
        rw [rounds_succ]
        go_wp2_with fail
        with_reducible refine (ND.out _).mono ?_
        rintro r w0 ⟨rfl, ew⟩
        rw [ew]
        clear ew w0
        cases nd with
        | true =>
          obtain rfl : (1 : Int) = F := HF.out
          go_wp2_with fail
          go_ret3
          exact ⟨rfl, BB.out⟩
        | false =>
          go_wp2_with fail
          with_reducible refine (ZB.out _).mono ?_
          rintro r w0 ⟨rfl, ew⟩
          rw [ew]
          clear ew w0
          cases zb with
          | true =>
            obtain rfl : (0 : Int) = F := HF.out
            go_wp2_with fail
            go_ret3
            exact ⟨rfl, BB.out⟩
          | false =>
            obtain rfl : (0 : Int) = F := HF.out
            go_wp2_with fail
            go_ret3
            exact ⟨rfl, BB.out⟩
    | true =>
      go_wp2_with fail
      rw [rounds_succ]
      go_wp2_with fail
      with_reducible refine (NB.out _).mono ?_
      rintro r w0 ⟨rfl, ew⟩
      rw [ew]
      clear ew w0
      cases nb with
      | true =>
        obtain rfl : (0 : Int) = F := HF.out
        go_wp2_with fail
        go_ret3
        exact ⟨rfl, BB.out⟩
      | false =>
        go_wp2_with fail
        with_reducible refine (FB.out _).mono ?_
        rintro r w0 ⟨rfl, ew⟩
        rw [ew]
        clear ew w0
        cases fb with
        | false =>
          go_wp2_with fail
          rw [rounds_succ]
          go_wp2_with fail
          with_reducible refine (ND.out _).mono ?_
          rintro r w0 ⟨rfl, ew⟩
          rw [ew]
          clear ew w0
          cases nd with
          | true =>
            obtain rfl : (1 : Int) = F := HF.out
            go_wp2_with fail
            go_ret3
            exact ⟨rfl, BB.out⟩
          | false =>
            go_wp2_with fail
            with_reducible refine (ZB.out _).mono ?_
            rintro r w0 ⟨rfl, ew⟩
            rw [ew]
            clear ew w0
            cases zb with
            | true =>
              obtain rfl : (0 : Int) = F := HF.out
              go_wp2_with fail
              go_ret3
              exact ⟨rfl, BB.out⟩
            | false =>
              obtain rfl : (0 : Int) = F := HF.out
              go_wp2_with fail
              go_ret3
              exact ⟨rfl, BB.out⟩
        | true =>
          go_wp2_with fail
          rw [rounds_succ]
          go_wp2_with fail
          with_reducible refine (ND.out _).mono ?_
          rintro r w0 ⟨rfl, ew⟩
          rw [ew]
          clear ew w0
          cases nd with
          | true =>
            obtain rfl : (1 : Int) = F := HF.out
            go_wp2_with fail
            go_ret3
            exact ⟨rfl, BB.out⟩
          | false =>
            go_wp2_with fail
            with_reducible refine (ZB.out _).mono ?_
            rintro r w0 ⟨rfl, ew⟩
            rw [ew]
            clear ew w0
            cases zb with
            | true =>
              obtain rfl : (2 : Int) = F := HF.out
              go_wp2_with fail
              go_ret3
              exact ⟨rfl, BB.out⟩
            | false =>
              have FG := hid (FLG.out (by trivial) (by trivial) (by trivial) (by trivial) (by trivial) (by trivial))
              obtain rfl : G = F := HF.out
              go_wp2_with fail
              with_reducible refine (FG.out _).mono ?_
              rintro r w9 ⟨rfl, hB9⟩
              have B9 := hid (bel BB.out hB9)
              clear hB9 FG FLG
              go_wp2_with fail
              go_ret3
              exact ⟨rfl, B9.out⟩

set_option maxRecDepth 100000 in
set_option maxHeartbeats 16000000 in
theorem ytold5 (a b c d G : Int) {na nd fa : Bool} (w : World) (ANS : ∀ wx, Calls Tryz.prog 59 #[.int .i64 5, .int .u64 a, .int .u64 b, .int .u64 c] wx fun r w' => r = .returned (.int .u64 d) ∧ Below wx.heap.size wx w') (NA : ∀ wx, Calls Tryz.prog 13 #[.int .u64 a] wx fun r w' => r = .returned (.bool na) ∧ w' = wx) (ND : ∀ wx, Calls Tryz.prog 13 #[.int .u64 d] wx fun r w' => r = .returned (.bool nd) ∧ w' = wx) (FA : ∀ wx, Calls Tryz.prog 60 #[.int .u64 a] wx fun r w' => r = .returned (.bool fa) ∧ w' = wx) (FLG : na = false → fa = true → nd = false → ∀ wx, Calls Tryz.prog 61 #[.int .i64 5, .int .u64 a, .int .u64 b, .int .u64 c, .int .u64 d] wx fun r w' => r = .returned (.int .i64 G) ∧ Below wx.heap.size wx w') :
    Calls Tryz.prog 27 #[.int .i64 5, .int .u64 a, .int .u64 b, .int .u64 c] w fun r w' => r = .returned (.tuple #[.int .u64 d, .int .i64 (Ie.FRx (na) nd false (fa) G), .int .i64 0]) ∧ Below w.heap.size w w' := by
  replace ANS := hid ANS
  replace NA := hid NA
  replace ND := hid ND
  replace FA := hid FA
  replace FLG := hid FLG
  obtain ⟨F, hF⟩ : ∃ F, Ie.FRx (na) nd false (fa) G = F := ⟨_, rfl⟩
  rw [hF]
  have HF := hid hF
  clear hF
  go_enter Tryz.func27, Tryz.ntmps27
  go_wp2_with fail
  with_reducible refine (ANS.out _).mono ?_
  rintro r w1 ⟨rfl, hB1⟩
  have O2 := hid (show Own (w1.alloc (.cells #[.int .u64 a] 23)) w1.heap.size [a] from Own.alloc w1 [a])
  have B2 := hid (bel hB1 (alloc_b w1 (.cells #[.int .u64 a] 23)))
  have L2 := hid hB1.size
  clear hB1 ANS
  go_upto_region 5 with fail
  generalize (w1.alloc (.cells #[.int .u64 a] 23)) = w2 at *
  generalize w1.heap.size = g at *
  have c0 := O2.out.cell 0 (by simp)
  have BB := hid B2.out
  clear O2 B2 L2
  simp only [List.getD_cons_zero] at c0
  go_wp2_with fail
  refine wp_loop_rounds 2 ?_
  rw [rounds_succ]
  go_wp2_with fail
  with_reducible refine (NA.out _).mono ?_
  rintro r w0 ⟨rfl, ew⟩
  rw [ew]
  clear ew w0
  cases na with
  | true =>
    obtain rfl : (0 : Int) = F := HF.out
    go_wp2_with fail
    go_ret3
    exact ⟨rfl, BB.out⟩
  | false =>
    go_wp2_with fail
    with_reducible refine (FA.out _).mono ?_
    rintro r w0 ⟨rfl, ew⟩
    rw [ew]
    clear ew w0
    cases fa with
    | false =>
      go_wp2_with fail
      rw [rounds_succ]
      go_wp2_with fail
      with_reducible refine (ND.out _).mono ?_
      rintro r w0 ⟨rfl, ew⟩
      rw [ew]
      clear ew w0
      cases nd with
      | true =>
        obtain rfl : (1 : Int) = F := HF.out
        go_wp2_with fail
        go_ret3
        exact ⟨rfl, BB.out⟩
      | false =>
        obtain rfl : (0 : Int) = F := HF.out
        go_wp2_with fail
        go_ret3
        exact ⟨rfl, BB.out⟩
    | true =>
      go_wp2_with fail
      rw [rounds_succ]
      go_wp2_with fail
      with_reducible refine (ND.out _).mono ?_
      rintro r w0 ⟨rfl, ew⟩
      rw [ew]
      clear ew w0
      cases nd with
      | true =>
        obtain rfl : (1 : Int) = F := HF.out
        go_wp2_with fail
        go_ret3
        exact ⟨rfl, BB.out⟩
      | false =>
        have FG := hid (FLG.out (by trivial) (by trivial) (by trivial))
        obtain rfl : G = F := HF.out
        go_wp2_with fail
        with_reducible refine (FG.out _).mono ?_
        rintro r w9 ⟨rfl, hB9⟩
        have B9 := hid (bel BB.out hB9)
        clear hB9 FG FLG
        go_wp2_with fail
        go_ret3
        exact ⟨rfl, B9.out⟩

set_option maxRecDepth 100000 in
set_option maxHeartbeats 16000000 in
theorem ytold6 (a b c d G : Int) {na nb nc nd fa fb fc : Bool} (w : World) (ANS : ∀ wx, Calls Tryz.prog 59 #[.int .i64 6, .int .u64 a, .int .u64 b, .int .u64 c] wx fun r w' => r = .returned (.int .u64 d) ∧ Below wx.heap.size wx w') (NA : ∀ wx, Calls Tryz.prog 13 #[.int .u64 a] wx fun r w' => r = .returned (.bool na) ∧ w' = wx) (NB : ∀ wx, Calls Tryz.prog 13 #[.int .u64 b] wx fun r w' => r = .returned (.bool nb) ∧ w' = wx) (NC : ∀ wx, Calls Tryz.prog 13 #[.int .u64 c] wx fun r w' => r = .returned (.bool nc) ∧ w' = wx) (ND : ∀ wx, Calls Tryz.prog 13 #[.int .u64 d] wx fun r w' => r = .returned (.bool nd) ∧ w' = wx) (FA : ∀ wx, Calls Tryz.prog 60 #[.int .u64 a] wx fun r w' => r = .returned (.bool fa) ∧ w' = wx) (FB : ∀ wx, Calls Tryz.prog 60 #[.int .u64 b] wx fun r w' => r = .returned (.bool fb) ∧ w' = wx) (FC : ∀ wx, Calls Tryz.prog 60 #[.int .u64 c] wx fun r w' => r = .returned (.bool fc) ∧ w' = wx) (FLG : na = false → fa = true → nb = false → fb = true → nc = false → fc = true → nd = false → ∀ wx, Calls Tryz.prog 61 #[.int .i64 6, .int .u64 a, .int .u64 b, .int .u64 c, .int .u64 d] wx fun r w' => r = .returned (.int .i64 G) ∧ Below wx.heap.size wx w') :
    Calls Tryz.prog 27 #[.int .i64 6, .int .u64 a, .int .u64 b, .int .u64 c] w fun r w' => r = .returned (.tuple #[.int .u64 d, .int .i64 (Ie.FRx (na || nb || nc) nd false (fa && fb && fc) G), .int .i64 0]) ∧ Below w.heap.size w w' := by
  replace ANS := hid ANS
  replace NA := hid NA
  replace NB := hid NB
  replace NC := hid NC
  replace ND := hid ND
  replace FA := hid FA
  replace FB := hid FB
  replace FC := hid FC
  replace FLG := hid FLG
  obtain ⟨F, hF⟩ : ∃ F, Ie.FRx (na || nb || nc) nd false (fa && fb && fc) G = F := ⟨_, rfl⟩
  rw [hF]
  have HF := hid hF
  clear hF
  go_enter Tryz.func27, Tryz.ntmps27
  go_wp2_with fail
  with_reducible refine (ANS.out _).mono ?_
  rintro r w1 ⟨rfl, hB1⟩
  have O2 := hid (show Own (w1.alloc (.cells #[.int .u64 a] 23)) w1.heap.size [a] from Own.alloc w1 [a])
  have B2 := hid (bel hB1 (alloc_b w1 (.cells #[.int .u64 a] 23)))
  have L2 := hid hB1.size
  clear hB1 ANS
  go_upto_region 5 with fail
  generalize (w1.alloc (.cells #[.int .u64 a] 23)) = w2 at *
  generalize w1.heap.size = g at *
  obtain ⟨g3, k3, w3, ap3, hk3, o3, d3⟩ := app64 g 1 1 [a] b w2 rfl (by decide) (by decide) O2.out
  obtain ⟨e3, l3⟩ := d3 w.heap.size L2.out B2.out.size
  have AP3 := hid ap3
  have B3 := hid (B2.out.trans e3)
  have O3 := hid o3
  have L3 := hid l3
  clear ap3 o3 d3 e3 l3 O2 B2 L2
  obtain ⟨g4, k4, w4, ap4, hk4, o4, d4⟩ := app64 g3 2 k3 [a, b] c w3 rfl hk3 (by decide) O3.out
  obtain ⟨e4, l4⟩ := d4 w.heap.size L3.out B3.out.size
  have AP4 := hid ap4
  have BB := hid (B3.out.trans e4)
  have c0 := o4.cell 0 (by simp)
  have c1 := o4.cell 1 (by simp)
  have c2 := o4.cell 2 (by simp)
  simp at c0 c1 c2
  clear ap4 o4 d4 e4 l4 O3 B3 L3
  go_wp2_with (first | (at_builtin; refine wpList_append_row rfl _ _ rfl AP3.out (by rfl) (by rfl) ?_; clear AP3) | (at_builtin; refine wpList_append_row rfl _ _ rfl AP4.out (by rfl) (by rfl) ?_; clear AP4))
  refine wp_loop_rounds 4 ?_
  rw [rounds_succ]
  go_wp2_with fail
  with_reducible refine (NA.out _).mono ?_
  rintro r w0 ⟨rfl, ew⟩
  rw [ew]
  clear ew w0
  cases na with
  | true =>
    obtain rfl : (0 : Int) = F := HF.out
    go_wp2_with fail
    go_ret3
    exact ⟨rfl, BB.out⟩
  | false =>
    go_wp2_with fail
    with_reducible refine (FA.out _).mono ?_
    rintro r w0 ⟨rfl, ew⟩
    rw [ew]
    clear ew w0
    cases fa with
    | false =>
      go_wp2_with fail
      rw [rounds_succ]
      go_wp2_with fail
      with_reducible refine (NB.out _).mono ?_
      rintro r w0 ⟨rfl, ew⟩
      rw [ew]
      clear ew w0
      cases nb with
      | true =>
        obtain rfl : (0 : Int) = F := HF.out
        go_wp2_with fail
        go_ret3
        exact ⟨rfl, BB.out⟩
      | false =>
        go_wp2_with fail
        rw [rounds_succ]
        go_wp2_with fail
        with_reducible refine (NC.out _).mono ?_
        rintro r w0 ⟨rfl, ew⟩
        rw [ew]
        clear ew w0
        cases nc with
        | true =>
          obtain rfl : (0 : Int) = F := HF.out
          go_wp2_with fail
          go_ret3
          exact ⟨rfl, BB.out⟩
        | false =>
          go_wp2_with fail
          rw [rounds_succ]
          go_wp2_with fail
          with_reducible refine (ND.out _).mono ?_
          rintro r w0 ⟨rfl, ew⟩
          rw [ew]
          clear ew w0
          cases nd with
          | true =>
            obtain rfl : (1 : Int) = F := HF.out
            go_wp2_with fail
            go_ret3
            exact ⟨rfl, BB.out⟩
          | false =>
            obtain rfl : (0 : Int) = F := HF.out
            go_wp2_with fail
            go_ret3
            exact ⟨rfl, BB.out⟩
    | true =>
      go_wp2_with fail
      rw [rounds_succ]
      go_wp2_with fail
      with_reducible refine (NB.out _).mono ?_
      rintro r w0 ⟨rfl, ew⟩
      rw [ew]
      clear ew w0
      cases nb with
      | true =>
        obtain rfl : (0 : Int) = F := HF.out
        go_wp2_with fail
        go_ret3
        exact ⟨rfl, BB.out⟩
      | false =>
        go_wp2_with fail
        with_reducible refine (FB.out _).mono ?_
        rintro r w0 ⟨rfl, ew⟩
        rw [ew]
        clear ew w0
        cases fb with
        | false =>
          go_wp2_with fail
          rw [rounds_succ]
          go_wp2_with fail
          with_reducible refine (NC.out _).mono ?_
          rintro r w0 ⟨rfl, ew⟩
          rw [ew]
          clear ew w0
          cases nc with
          | true =>
            obtain rfl : (0 : Int) = F := HF.out
            go_wp2_with fail
            go_ret3
            exact ⟨rfl, BB.out⟩
          | false =>
            go_wp2_with fail
            rw [rounds_succ]
            go_wp2_with fail
            with_reducible refine (ND.out _).mono ?_
            rintro r w0 ⟨rfl, ew⟩
            rw [ew]
            clear ew w0
            cases nd with
            | true =>
              obtain rfl : (1 : Int) = F := HF.out
              go_wp2_with fail
              go_ret3
              exact ⟨rfl, BB.out⟩
            | false =>
              obtain rfl : (0 : Int) = F := HF.out
              go_wp2_with fail
              go_ret3
              exact ⟨rfl, BB.out⟩
        | true =>
          go_wp2_with fail
          rw [rounds_succ]
          go_wp2_with fail
          with_reducible refine (NC.out _).mono ?_
          rintro r w0 ⟨rfl, ew⟩
          rw [ew]
          clear ew w0
          cases nc with
          | true =>
            obtain rfl : (0 : Int) = F := HF.out
            go_wp2_with fail
            go_ret3
            exact ⟨rfl, BB.out⟩
          | false =>
            go_wp2_with fail
            with_reducible refine (FC.out _).mono ?_
            rintro r w0 ⟨rfl, ew⟩
            rw [ew]
            clear ew w0
            cases fc with
            | false =>
              go_wp2_with fail
              rw [rounds_succ]
              go_wp2_with fail
              with_reducible refine (ND.out _).mono ?_
              rintro r w0 ⟨rfl, ew⟩
              rw [ew]
              clear ew w0
              cases nd with
              | true =>
                obtain rfl : (1 : Int) = F := HF.out
                go_wp2_with fail
                go_ret3
                exact ⟨rfl, BB.out⟩
              | false =>
                obtain rfl : (0 : Int) = F := HF.out
                go_wp2_with fail
                go_ret3
                exact ⟨rfl, BB.out⟩
            | true =>
              go_wp2_with fail
              rw [rounds_succ]
              go_wp2_with fail
              with_reducible refine (ND.out _).mono ?_
              rintro r w0 ⟨rfl, ew⟩
              rw [ew]
              clear ew w0
              cases nd with
              | true =>
                obtain rfl : (1 : Int) = F := HF.out
                go_wp2_with fail
                go_ret3
                exact ⟨rfl, BB.out⟩
              | false =>
                have FG := hid (FLG.out (by trivial) (by trivial) (by trivial) (by trivial) (by trivial) (by trivial) (by trivial))
                obtain rfl : G = F := HF.out
                go_wp2_with fail
                with_reducible refine (FG.out _).mono ?_
                rintro r w9 ⟨rfl, hB9⟩
                have B9 := hid (bel BB.out hB9)
                clear hB9 FG FLG
                go_wp2_with fail
                go_ret3
                exact ⟨rfl, B9.out⟩

end Go.Proofs.YtljpmddjcfkonaaGreatDoor
