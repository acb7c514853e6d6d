/-
  Texts put together: YRef7.
-/
import Derived.Test.YtnldfeojookaeaaDoorRG
import Derived.Test.YtnldfeojookaeaaDoorRB
import Derived.Test.YtnldfeojookaeaaDoorRC
namespace Go.Proofs.YtnldfeojookaeaaDoor
open Go Go.RowKit Go.Deep

theorem Row4.far {w : World} {b t c o : Nat} {v v0 v1 v2 v3 : Value} (h : Row4 w b t v0 v1 v2 v3) (hc : c ≠ b) : Row4 (w.setCell ⟨c, o, none⟩ v) b t v0 v1 v2 v3 := by
  simp only [Row4] at *
  simp only [World.setCell, Array.getElem?_modify]
  rw [if_neg hc]; exact h

theorem set_arg {w : World} {b o : Nat} {v : Value} {p : Option Addr} {n c : Nat} {zs : List Int} (a : Arg w p n c zs) (hp : ∀ x, p = some x → x.block ≠ b) : Arg (w.setCell ⟨b, o, none⟩ v) p n c zs :=
  ⟨a.1, a.2.1, a.2.2.1, a.2.2.2.1.set hp, a.2.2.2.2⟩

/-- The two numbers, the room, and the number that is being made at g. -/
def S4 (w wx : World) (g : Nat) (x0 x1 x2 x3 y0 y1 y2 y3 o0 o1 o2 o3 : Value) : Prop := R3B w wx x0 x1 x2 x3 y0 y1 y2 y3 ∧ Row4 wx g 35 o0 o1 o2 o3 ∧ w.heap.size + 1 + 1 < g
theorem S4.new {w wx : World} {x0 x1 x2 x3 y0 y1 y2 y3 : Value} (h : R3B w wx x0 x1 x2 x3 y0 y1 y2 y3) (o0 o1 o2 o3 : Value) : S4 w (wx.alloc (.cells #[o0, o1, o2, o3] 35)) wx.heap.size x0 x1 x2 x3 y0 y1 y2 y3 o0 o1 o2 o3 := ⟨h.on (alloc_b _ _), Row4.new _ _ _ _ _ _, h.2.2.2.lt⟩
theorem S4.on {w wx wy : World} {g : Nat} {x0 x1 x2 x3 y0 y1 y2 y3 o0 o1 o2 o3 : Value} (h : S4 w wx g x0 x1 x2 x3 y0 y1 y2 y3 o0 o1 o2 o3) (k : Below wx.heap.size wx wy) : S4 w wy g x0 x1 x2 x3 y0 y1 y2 y3 o0 o1 o2 o3 := ⟨h.1.on k, h.2.1.below k h.2.1.lt, h.2.2⟩
theorem S4.lt {w wx : World} {g : Nat} {x0 x1 x2 x3 y0 y1 y2 y3 o0 o1 o2 o3 : Value} (h : S4 w wx g x0 x1 x2 x3 y0 y1 y2 y3 o0 o1 o2 o3) : g + 1 ≤ wx.heap.size := h.2.1.lt
theorem S4.far {w wx : World} {g o : Nat} {v : Value} {x0 x1 x2 x3 y0 y1 y2 y3 o0 o1 o2 o3 : Value} (h : S4 w wx g x0 x1 x2 x3 y0 y1 y2 y3 o0 o1 o2 o3) : R3B w (wx.setCell ⟨g, o, none⟩ v) x0 x1 x2 x3 y0 y1 y2 y3 := by
  have hg := h.2.2
  exact ⟨h.1.1.setCell (p := ⟨g, o, none⟩) (by simp only; omega) v, h.1.2.1.far (by omega), h.1.2.2.1.far (by omega), h.1.2.2.2.far (by omega)⟩
theorem S4.num {w wx : World} {g : Nat} {x0 x1 x2 x3 y0 y1 y2 y3 o0 o1 o2 o3 : Value} (h : S4 w wx g x0 x1 x2 x3 y0 y1 y2 y3 o0 o1 o2 o3) (v : Value) : S4 w (wx.setCell ⟨g, 1, none⟩ v) g x0 x1 x2 x3 y0 y1 y2 y3 o0 v o2 o3 := ⟨h.far, set1 h.2.1 (by simp [Array.setIfInBounds]), h.2.2⟩
theorem S4.sign {w wx : World} {g : Nat} {x0 x1 x2 x3 y0 y1 y2 y3 o0 o1 o2 o3 : Value} (h : S4 w wx g x0 x1 x2 x3 y0 y1 y2 y3 o0 o1 o2 o3) (v : Value) : S4 w (wx.setCell ⟨g, 0, none⟩ v) g x0 x1 x2 x3 y0 y1 y2 y3 v o1 o2 o3 := ⟨h.far, set1 h.2.1 (by simp [Array.setIfInBounds]), h.2.2⟩

theorem lift_lt {V : Int} {k : Nat} (h0 : 0 ≤ V) (h : V < 9007199254740992) (hk : k ≤ 2200) : 0 ≤ V * 2 ^ k ∧ V * 2 ^ k < 2 ^ 2253 := by
  refine ⟨Int.mul_nonneg h0 (Int.le_of_lt (Nm.two_pos k)), ?_⟩
  have h1 : V * 2 ^ k < 9007199254740992 * 2 ^ k := Int.mul_lt_mul_of_pos_right h (Nm.two_pos k)
  have h2 : (9007199254740992 : Int) * 2 ^ k = 2 ^ (53 + k) := by rw [Nm.two_add]; congr 1
  have h3 := Nm.two_mono (show 53 + k ≤ 2253 by omega)
  omega

theorem two_big {x : Int} (h : x < 2 ^ 2253 + 2 ^ 2253) : x < 2 ^ 2300 ∧ x < 2 ^ 5000 := by
  have e : (2 : Int) ^ 2254 = 2 * 2 ^ 2253 := Nm.two_succ 2253
  have h1 := Nm.two_mono (show 2254 ≤ 2300 by omega)
  have h2 := Nm.two_mono (show 2254 ≤ 5000 by omega)
  generalize (2 : Int) ^ 2253 = P at *
  generalize (2 : Int) ^ 2254 = Q at *
  generalize (2 : Int) ^ 2300 = R at *
  generalize (2 : Int) ^ 5000 = S at *
  omega

set_option maxRecDepth 100000 in
set_option maxHeartbeats 16000000 in
theorem ysum_some {B : Nat} {w : World} {vx vy : Value} {n1 n2 : Bool} {V1 V2 e1 e2 : Int} (hx : RN B w vx n1 V1 1 e1) (hy : RN B w vy n2 V2 1 e2) (hB0 : B ≤ w.heap.size) (a1 : V1 < 9007199254740992) (b1 : V2 < 9007199254740992) (f0 : -1100 ≤ e1) (f1 : e1 ≤ 1000) (f2 : -1100 ≤ e2) (f3 : e2 ≤ 1000) (hz : ¬ (V1 = 0 ∧ V2 = 0)) :
    Calls Tryd.prog 20 #[vx, vy] w fun r w' => SumTold5 B n1 V1 e1 n2 V2 e2 w r w' := by
  have HX := hid hx
  have HY := hid hy
  obtain ⟨p, n, c, q, m, d, zs, ys, rfl, h2, h3, h4, h5, h6, h7, h8, h9⟩ := hx
  obtain ⟨p', n', c', q', m', d', zs', ys', rfl, k2, k3, k4, _⟩ := hy
  have Z := hid (R3B.new w (.bool n1) (.slice p n c) (.slice q m d) (.int .i64 e1) (.bool n2) (.slice p' n' c') (.slice q' m' d') (.int .i64 e2))
  have NX := hid (fun wx (b : Below w.heap.size w wx) => ynone_any (HX.out.on b))
  have NY := hid (fun wx (b : Below w.heap.size w wx) => ynone_any (HY.out.on b))
  have Q5 := hid (And.intro h5 (And.intro h6 (And.intro h7 h9)))
  have v0 : 0 ≤ V1 := by rw [← h3]; exact (Nm.val_bd zs h2.2.2.2.2).1
  have w0 : 0 ≤ V2 := by rw [← k3]; exact (Nm.val_bd zs' k2.2.2.2.2).1
  obtain ⟨M, hM⟩ : ∃ M, min e1 e2 = M := ⟨_, rfl⟩
  obtain ⟨i1, hi1⟩ : ∃ k : Nat, (k : Int) = e1 - M := ⟨(e1 - M).toNat, by omega⟩
  obtain ⟨i2, hi2⟩ : ∃ k : Nat, (k : Int) = e2 - M := ⟨(e2 - M).toNat, by omega⟩
  obtain ⟨A, hA⟩ : ∃ A, V1 * 2 ^ i1 = A := ⟨_, rfl⟩
  obtain ⟨C, hC⟩ : ∃ C, V2 * 2 ^ i2 = C := ⟨_, rfl⟩
  have bA := lift_lt v0 a1 (show i1 ≤ 2200 by omega)
  have bC := lift_lt w0 b1 (show i2 ≤ 2200 by omega)
  rw [hA] at bA
  rw [hC] at bC
  have LX : Hid (∀ wx kk, kk = (i1 : Int) → Below w.heap.size w wx → Calls Tryd.prog 41 #[.slice p n c, .int .i64 kk] wx fun e w' => ∃ r os, e = .returned (.slice r (List.length os) (List.length os)) ∧ Ans wx.heap.size w' r os A ∧ Below wx.heap.size wx w') := fun wx kk hk b => by
    have h := lift_any p n c zs kk i1 wx (h2.below b (Nat.le_refl _)) (by omega) hk (by omega)
    rw [h3, hA] at h
    exact h
  have LY : Hid (∀ wx kk, kk = (i2 : Int) → Below w.heap.size w wx → Calls Tryd.prog 41 #[.slice p' n' c', .int .i64 kk] wx fun e w' => ∃ r os, e = .returned (.slice r (List.length os) (List.length os)) ∧ Ans wx.heap.size w' r os C ∧ Below wx.heap.size wx w') := fun wx kk hk b => by
    have h := lift_any p' n' c' zs' kk i2 wx (k2.below b (Nat.le_refl _)) (by omega) hk (by omega)
    rw [k3, hC] at h
    exact h
  have BD : Hid (A < 2 ^ 2300 ∧ C < 2 ^ 2300 ∧ A + C < 2 ^ 2300 ∧ A - C < 2 ^ 2300 ∧ C - A < 2 ^ 2300) := by
    have P := Nm.two_pos 2253
    refine ⟨(two_big ?_).1, (two_big ?_).1, (two_big ?_).1, (two_big ?_).1, (two_big ?_).1⟩ <;> (generalize (2 : Int) ^ 2253 = X at *; omega)
  have at_ : ∀ {neg : Bool} {V : Int}, Ie.sn neg V = Ie.sn n1 A + Ie.sn n2 C → (V = 0 → neg = (n1 && n2)) → 0 ≤ V → V < 2 ^ 2253 + 2 ^ 2253 → Ie.SumIs n1 V1 e1 n2 V2 e2 neg V M := fun h h0 v0 v1 => Ie.sum_at hM hi1 hi2 (by rw [hA, hC]; exact h) h0 v0 (two_big v1).2
  have SP : Hid ((n1 == n2) = true → Ie.SumIs n1 V1 e1 n2 V2 e2 n1 (A + C) M) := fun he => by
    obtain rfl : n1 = n2 := by simpa using he
    refine at_ ?_ (fun _ => by cases n1 <;> rfl) (by omega) (by generalize (2 : Int) ^ 2253 = X at *; omega)
    cases n1 <;> simp only [Ie.sn, Bool.false_eq_true, if_true, if_false] <;> omega
  have SG : Hid ((n1 == n2) = false → C < A → Ie.SumIs n1 V1 e1 n2 V2 e2 n1 (A - C) M) := fun he hl => by
    refine at_ ?_ (fun h => by omega) (by omega) (by generalize (2 : Int) ^ 2253 = X at *; omega)
    cases n1 <;> cases n2 <;> simp only [Ie.sn, Bool.false_eq_true, if_true, if_false] <;> first | (simp at he; done) | omega
  have SL : Hid ((n1 == n2) = false → A < C → Ie.SumIs n1 V1 e1 n2 V2 e2 n2 (C - A) M) := fun he hl => by
    refine at_ ?_ (fun h => by omega) (by omega) (by generalize (2 : Int) ^ 2253 = X at *; omega)
    cases n1 <;> cases n2 <;> simp only [Ie.sn, Bool.false_eq_true, if_true, if_false] <;> first | (simp at he; done) | omega
  have SE : Hid ((n1 == n2) = false → A = C → Ie.SumIs n1 V1 e1 n2 V2 e2 false 0 M) := fun he hl => by
    refine at_ ?_ (fun _ => by cases n1 <;> cases n2 <;> simp at he ⊢) (by omega) (by have := Nm.two_pos 2253; generalize (2 : Int) ^ 2253 = X at *; omega)
    cases n1 <;> cases n2 <;> simp only [Ie.sn, Bool.false_eq_true, if_true, if_false] <;> first | (simp at he; done) | omega
  have HB0 := hid hB0
  have D1 : V1 = 0 → decide (V2 = 0) = false := fun h => decide_eq_false fun k => hz ⟨h, k⟩
  clear h2 h3 h4 h5 h6 h7 h8 h9 k2 k3 k4 v0 w0 a1 b1 hA hC bA bC HX HY hB0 hz at_
  by_cases hz1 : V1 = 0
  · rw [decide_eq_true hz1] at NX
    rw [D1 hz1] at NY
    clear D1 hz1
    by_cases hle : e2 < e1
    · obtain rfl : M = e2 := by omega
      clear hM
      go_enter Tryd.func20, Tryd.ntmps20
      go_upto_region 1 with fail
      generalize (((w.alloc (.cells #[.bool n1, .slice p n c, .slice q m d, .int .i64 e1] 35)).alloc (.cells #[.bool n2, .slice p' n' c', .slice q' m' d', .int .i64 M] 35)).alloc (.cells #[.bool false, .slice none 0 0, .slice none 0 0, .int .i64 0] 35)) = wz at *
      have zb := Z.out.1
      obtain ⟨⟨c0, c1, c2, c3⟩, d0, d1, d2, d3⟩ := Z.out.flat
      go_wp2_with fail
      with_reducible refine (NX.out _ zb).mono ?_
      rintro r w1 ⟨rfl, hB1⟩
      have Z1 := hid (Z.out.on hB1)
      clear zb hB1 Z NX c0 c1 c2 c3 d0 d1 d2 d3
      have z1 := Z1.out.1
      obtain ⟨⟨c0, c1, c2, c3⟩, d0, d1, d2, d3⟩ := Z1.out.flat
      go_wp2_with fail
      with_reducible refine (NY.out _ z1).mono ?_
      rintro r w2 ⟨rfl, hB2⟩
      have Z2 := hid (Z1.out.on hB2)
      clear z1 hB2 Z1 NY c0 c1 c2 c3 d0 d1 d2 d3
      obtain ⟨⟨c0, c1, c2, c3⟩, d0, d1, d2, d3⟩ := Z2.out.flat
      have zb := Z2.out.1
      go_wp2_with fail
      with_reducible refine (LX.out _ _ (by omega) zb).mono ?_
      rintro r w3 ⟨r1, os1, rfl, A1, hB3⟩
      have Z3 := hid (Z2.out.on hB3)
      have z3 := Z3.out.1
      have AA := hid A1
      clear zb hB3 A1 Z2 LX c0 c1 c2 c3 d0 d1 d2 d3
      obtain ⟨⟨c0, c1, c2, c3⟩, d0, d1, d2, d3⟩ := Z3.out.flat
      go_wp2_with fail
      with_reducible refine (LY.out _ _ (by omega) z3).mono ?_
      rintro r w4 ⟨r2, os2, rfl, A2, hB4⟩
      have Z4 := hid (Z3.out.on hB4)
      have TX := hid ((AA.out.below hB4 (Nat.le_refl _)).tl (K := 2300) BD.out.1 (by omega))
      have TY := hid (A2.tl (K := 2300) BD.out.2.1 (by omega))
      have AX := hid ((AA.out.below hB4 (Nat.le_refl _)).arg (by have := TX.out.2.1; omega))
      have AY := hid (A2.arg (by have := TY.out.2.1; omega))
      have VX : Hid (Nm.val os1 = A) := AA.out.2.2.2.1
      have VY : Hid (Nm.val os2 = C) := A2.2.2.2.1
      clear z3 hB4 A2 Z3 LY AA c0 c1 c2 c3 d0 d1 d2 d3
      obtain ⟨⟨c0, c1, c2, c3⟩, d0, d1, d2, d3⟩ := Z4.out.flat
      go_upto_region 9 with fail
      have S5 := hid (S4.new Z4.out (.bool n1) (.slice none 0 0) (.slice q m d) (.int .i64 M))
      have B5 := hid (alloc_b w4 (.cells #[.bool n1, .slice none 0 0, .slice q m d, .int .i64 M] 35))
      generalize hW : w4.alloc (.cells #[.bool n1, .slice none 0 0, .slice q m d, .int .i64 M] 35) = w5 at *
      clear hW c0 c1 c2 c3 d0 d1 d2 d3 Z4
      have CM := hid (refCmp_any r1 r2 _ _ _ _ os1 os2 w5 (AX.out.below B5.out (Nat.le_refl _)) (AY.out.below B5.out (Nat.le_refl _)))
      rw [VX.out, VY.out] at CM
      obtain ⟨⟨c0, c1, c2, c3⟩, d0, d1, d2, d3⟩ := S5.out.1.flat
      obtain ⟨s, hs⟩ : ∃ s, cmpI A C = s := ⟨_, rfl⟩
      rw [hs] at CM
      have HSS := hid hs
      clear hs
      go_wp2_with fail
      with_reducible refine CM.out.mono ?_
      rintro r w6 ⟨rfl, hB6⟩
      have S6 := hid (S5.out.on hB6)
      have B6 := hid (bel B5.out hB6)
      clear hB6 S5 B5 CM c0 c1 c2 c3 d0 d1 d2 d3
      obtain ⟨⟨c0, c1, c2, c3⟩, d0, d1, d2, d3⟩ := S6.out.1.flat
      cases he : (n1 == n2) with
      | true =>
        have SI := hid (SP.out he)
        have PL := hid (plus_any r1 r2 _ _ _ _ os1 os2 w6 (AX.out.below B6.out (Nat.le_refl _)) (AY.out.below B6.out (Nat.le_refl _)) (by have := TX.out.1; omega) (by have := TY.out.1; omega))
        rw [VX.out, VY.out] at PL
        clear SP SG SL SE HSS AX AY VX VY TX TY
        go_wp2_with fail
        with_reducible refine PL.out.mono ?_
        rintro r w7 ⟨r7, os7, rfl, A7, hB7⟩
        clear PL
        have S7 := hid (S6.out.on hB7)
        have AR7 := hid (A7.arg (by have := (A7.tl (K := 2300) (BD.out.2.2.1) (by omega)).2.1; omega))
        have TS7 := hid (A7.tl (K := 2300) (BD.out.2.2.1) (by omega)).1
        have V7 := hid A7.2.2.2.1
        have L7 := hid (fun x hx => Nat.le_trans S6.out.lt (A7.2.2.2.2 x hx))
        clear A7 hB7 S6 c0 c1 c2 c3 d0 d1 d2 d3
        obtain ⟨⟨g0, g1, g2, g3⟩, k0, k1, k2, k3⟩ := S7.out.2.1.cells
        go_upto_region 18 with fail
        have S8 := hid (S7.out.num (.slice r7 (List.length os7) (List.length os7)))
        have AR8 := hid (set_arg (o := 1) (v := .slice r7 (List.length os7) (List.length os7)) AR7.out (fun x hx => Nat.ne_of_gt (L7.out x hx)))
        generalize hW : w7.setCell ⟨w4.heap.size, 1, none⟩ (.slice r7 (List.length os7) (List.length os7)) = w8 at *
        clear hW AR7 S7 g0 g1 g2 g3 k0 k1 k2 k3
        obtain ⟨⟨g0, g1, g2, g3⟩, -⟩ := S8.out.2.1.cells
        obtain ⟨⟨m0, m1, m2, m3⟩, o0, o1, o2, o3⟩ := S8.out.1.room
        go_wp2_with fail
        (try simp only [Exit.inBlock, Exit.then])
        refine bodyPost_ret (results_cell_row rfl _ _ (w.heap.size + 1 + 1) 35 _ (0, 0) _ rfl (S8.out.1.put _ _ _ _).1 Tryd.underlying35 rfl (by kernel_rfl)) rfl ?_
        exact ⟨_, n1, A + C, M, rfl, ⟨_, _, _, _, _, _, os7, ys, rfl, far_arg AR8.out (fun x hx => Nat.ne_of_gt (Nat.lt_trans S8.out.2.2 (L7.out x hx))), V7.out, TS7.out, Q5.out.1.below (S8.out.1.put _ _ _ _).2 (Nat.le_refl _), Q5.out.2.1, Q5.out.2.2.1, fun x hx => by have := L7.out x hx; have := S8.out.2.2; have := HB0.out; omega, Q5.out.2.2.2⟩, SI.out, (S8.out.1.put _ _ _ _).2⟩
      | false =>
        rcases Int.lt_trichotomy A C with hl | hl | hl
        · have SI := hid (SL.out he hl)
          have s1 : s = -1 := by rw [← HSS.out]; unfold cmpI; rw [if_pos hl]
          subst s1
          obtain ⟨⟨g0, g1, g2, g3⟩, k0, k1, k2, k3⟩ := S6.out.2.1.cells
          have LE : Hid (A ≤ C) := Int.le_of_lt hl
          clear SP SG SL SE HSS hl
          go_upto_region 11 with fail
          have SX := hid (S6.out.sign (.bool n2))
          have BX := hid (B6.out.setCell (p := ⟨w4.heap.size, 0, none⟩) (Nat.le_refl _) (.bool n2))
          generalize hW : w6.setCell ⟨w4.heap.size, 0, none⟩ (.bool n2) = w66 at *
          clear hW g0 g1 g2 g3 k0 k1 k2 k3 c0 c1 c2 c3 d0 d1 d2 d3 S6 B6
          have LS := hid (less_any r2 r1 _ _ _ _ os2 os1 w66 (AY.out.below BX.out (Nat.le_refl _)) (AX.out.below BX.out (Nat.le_refl _)) (by have := TY.out.1; omega) (by rw [VX.out, VY.out]; exact LE.out))
          rw [VX.out, VY.out] at LS
          clear AX AY VX VY TX TY LE
          obtain ⟨⟨c0, c1, c2, c3⟩, d0, d1, d2, d3⟩ := SX.out.1.flat
          go_wp2_with fail
          with_reducible refine LS.out.mono ?_
          rintro r w7 ⟨r7, os7, rfl, A7, hB7⟩
          clear LS
          have S7 := hid (SX.out.on hB7)
          have AR7 := hid (A7.arg (by have := (A7.tl (K := 2300) (BD.out.2.2.2.2) (by omega)).2.1; omega))
          have TS7 := hid (A7.tl (K := 2300) (BD.out.2.2.2.2) (by omega)).1
          have V7 := hid A7.2.2.2.1
          have L7 := hid (fun x hx => Nat.le_trans SX.out.lt (A7.2.2.2.2 x hx))
          clear A7 hB7 SX c0 c1 c2 c3 d0 d1 d2 d3
          obtain ⟨⟨g0, g1, g2, g3⟩, k0, k1, k2, k3⟩ := S7.out.2.1.cells
          go_upto_region 18 with fail
          have S8 := hid (S7.out.num (.slice r7 (List.length os7) (List.length os7)))
          have AR8 := hid (set_arg (o := 1) (v := .slice r7 (List.length os7) (List.length os7)) AR7.out (fun x hx => Nat.ne_of_gt (L7.out x hx)))
          generalize hW : w7.setCell ⟨w4.heap.size, 1, none⟩ (.slice r7 (List.length os7) (List.length os7)) = w8 at *
          clear hW AR7 S7 g0 g1 g2 g3 k0 k1 k2 k3
          obtain ⟨⟨g0, g1, g2, g3⟩, -⟩ := S8.out.2.1.cells
          obtain ⟨⟨m0, m1, m2, m3⟩, o0, o1, o2, o3⟩ := S8.out.1.room
          go_wp2_with fail
          (try simp only [Exit.inBlock, Exit.then])
          refine bodyPost_ret (results_cell_row rfl _ _ (w.heap.size + 1 + 1) 35 _ (0, 0) _ rfl (S8.out.1.put _ _ _ _).1 Tryd.underlying35 rfl (by kernel_rfl)) rfl ?_
          exact ⟨_, n2, C - A, M, rfl, ⟨_, _, _, _, _, _, os7, ys, rfl, far_arg AR8.out (fun x hx => Nat.ne_of_gt (Nat.lt_trans S8.out.2.2 (L7.out x hx))), V7.out, TS7.out, Q5.out.1.below (S8.out.1.put _ _ _ _).2 (Nat.le_refl _), Q5.out.2.1, Q5.out.2.2.1, fun x hx => by have := L7.out x hx; have := S8.out.2.2; have := HB0.out; omega, Q5.out.2.2.2⟩, SI.out, (S8.out.1.put _ _ _ _).2⟩
        · have SI := hid (SE.out he hl)
          have s1 : s = 0 := by rw [← HSS.out, hl]; unfold cmpI; rw [if_neg (by omega), if_pos rfl]
          subst s1
          obtain ⟨⟨g0, g1, g2, g3⟩, k0, k1, k2, k3⟩ := S6.out.2.1.cells
          clear SP SG SL SE HSS hl AX AY VX VY TX TY B6
          go_upto_region 18 with fail
          have S8 := hid (S6.out.sign (.bool false))
          generalize hW : w6.setCell ⟨w4.heap.size, 0, none⟩ (.bool false) = w8 at *
          clear hW g0 g1 g2 g3 k0 k1 k2 k3 c0 c1 c2 c3 d0 d1 d2 d3 S6
          obtain ⟨⟨g0, g1, g2, g3⟩, -⟩ := S8.out.2.1.cells
          obtain ⟨⟨m0, m1, m2, m3⟩, o0, o1, o2, o3⟩ := S8.out.1.room
          go_wp2_with fail
          (try simp only [Exit.inBlock, Exit.then])
          refine bodyPost_ret (results_cell_row rfl _ _ (w.heap.size + 1 + 1) 35 _ (0, 0) _ rfl (S8.out.1.put _ _ _ _).1 Tryd.underlying35 rfl (by kernel_rfl)) rfl ?_
          exact ⟨_, false, 0, M, rfl, ⟨_, _, _, _, _, _, [], ys, rfl, nil_arg _, rfl, by simp [Nm.tsize], Q5.out.1.below (S8.out.1.put _ _ _ _).2 (Nat.le_refl _), Q5.out.2.1, Q5.out.2.2.1, none_far B, Q5.out.2.2.2⟩, SI.out, (S8.out.1.put _ _ _ _).2⟩
        · have SI := hid (SG.out he hl)
          have s1 : s = 1 := by rw [← HSS.out]; unfold cmpI; rw [if_neg (by omega), if_neg (by omega)]
          subst s1
          have LS := hid (less_any r1 r2 _ _ _ _ os1 os2 w6 (AX.out.below B6.out (Nat.le_refl _)) (AY.out.below B6.out (Nat.le_refl _)) (by have := TX.out.1; omega) (by rw [VX.out, VY.out]; omega))
          rw [VX.out, VY.out] at LS
          clear SP SG SL SE HSS hl AX AY VX VY TX TY
          go_wp2_with fail
          with_reducible refine LS.out.mono ?_
          rintro r w7 ⟨r7, os7, rfl, A7, hB7⟩
          clear LS
          have S7 := hid (S6.out.on hB7)
          have AR7 := hid (A7.arg (by have := (A7.tl (K := 2300) (BD.out.2.2.2.1) (by omega)).2.1; omega))
          have TS7 := hid (A7.tl (K := 2300) (BD.out.2.2.2.1) (by omega)).1
          have V7 := hid A7.2.2.2.1
          have L7 := hid (fun x hx => Nat.le_trans S6.out.lt (A7.2.2.2.2 x hx))
          clear A7 hB7 S6 c0 c1 c2 c3 d0 d1 d2 d3
          obtain ⟨⟨g0, g1, g2, g3⟩, k0, k1, k2, k3⟩ := S7.out.2.1.cells
          go_upto_region 18 with fail
          have S8 := hid (S7.out.num (.slice r7 (List.length os7) (List.length os7)))
          have AR8 := hid (set_arg (o := 1) (v := .slice r7 (List.length os7) (List.length os7)) AR7.out (fun x hx => Nat.ne_of_gt (L7.out x hx)))
          generalize hW : w7.setCell ⟨w4.heap.size, 1, none⟩ (.slice r7 (List.length os7) (List.length os7)) = w8 at *
          clear hW AR7 S7 g0 g1 g2 g3 k0 k1 k2 k3
          obtain ⟨⟨g0, g1, g2, g3⟩, -⟩ := S8.out.2.1.cells
          obtain ⟨⟨m0, m1, m2, m3⟩, o0, o1, o2, o3⟩ := S8.out.1.room
          go_wp2_with fail
          (try simp only [Exit.inBlock, Exit.then])
          refine bodyPost_ret (results_cell_row rfl _ _ (w.heap.size + 1 + 1) 35 _ (0, 0) _ rfl (S8.out.1.put _ _ _ _).1 Tryd.underlying35 rfl (by kernel_rfl)) rfl ?_
          exact ⟨_, n1, A - C, M, rfl, ⟨_, _, _, _, _, _, os7, ys, rfl, far_arg AR8.out (fun x hx => Nat.ne_of_gt (Nat.lt_trans S8.out.2.2 (L7.out x hx))), V7.out, TS7.out, Q5.out.1.below (S8.out.1.put _ _ _ _).2 (Nat.le_refl _), Q5.out.2.1, Q5.out.2.2.1, fun x hx => by have := L7.out x hx; have := S8.out.2.2; have := HB0.out; omega, Q5.out.2.2.2⟩, SI.out, (S8.out.1.put _ _ _ _).2⟩
    · obtain rfl : M = e1 := by omega
      clear hM
      go_enter Tryd.func20, Tryd.ntmps20
      go_upto_region 1 with fail
      generalize (((w.alloc (.cells #[.bool n1, .slice p n c, .slice q m d, .int .i64 M] 35)).alloc (.cells #[.bool n2, .slice p' n' c', .slice q' m' d', .int .i64 e2] 35)).alloc (.cells #[.bool false, .slice none 0 0, .slice none 0 0, .int .i64 0] 35)) = wz at *
      have zb := Z.out.1
      obtain ⟨⟨c0, c1, c2, c3⟩, d0, d1, d2, d3⟩ := Z.out.flat
      go_wp2_with fail
      with_reducible refine (NX.out _ zb).mono ?_
      rintro r w1 ⟨rfl, hB1⟩
      have Z1 := hid (Z.out.on hB1)
      clear zb hB1 Z NX c0 c1 c2 c3 d0 d1 d2 d3
      have z1 := Z1.out.1
      obtain ⟨⟨c0, c1, c2, c3⟩, d0, d1, d2, d3⟩ := Z1.out.flat
      go_wp2_with fail
      with_reducible refine (NY.out _ z1).mono ?_
      rintro r w2 ⟨rfl, hB2⟩
      have Z2 := hid (Z1.out.on hB2)
      clear z1 hB2 Z1 NY c0 c1 c2 c3 d0 d1 d2 d3
      obtain ⟨⟨c0, c1, c2, c3⟩, d0, d1, d2, d3⟩ := Z2.out.flat
      have zb := Z2.out.1
      go_wp2_with fail
      with_reducible refine (LX.out _ _ (by omega) zb).mono ?_
      rintro r w3 ⟨r1, os1, rfl, A1, hB3⟩
      have Z3 := hid (Z2.out.on hB3)
      have z3 := Z3.out.1
      have AA := hid A1
      clear zb hB3 A1 Z2 LX c0 c1 c2 c3 d0 d1 d2 d3
      obtain ⟨⟨c0, c1, c2, c3⟩, d0, d1, d2, d3⟩ := Z3.out.flat
      go_wp2_with fail
      with_reducible refine (LY.out _ _ (by omega) z3).mono ?_
      rintro r w4 ⟨r2, os2, rfl, A2, hB4⟩
      have Z4 := hid (Z3.out.on hB4)
      have TX := hid ((AA.out.below hB4 (Nat.le_refl _)).tl (K := 2300) BD.out.1 (by omega))
      have TY := hid (A2.tl (K := 2300) BD.out.2.1 (by omega))
      have AX := hid ((AA.out.below hB4 (Nat.le_refl _)).arg (by have := TX.out.2.1; omega))
      have AY := hid (A2.arg (by have := TY.out.2.1; omega))
      have VX : Hid (Nm.val os1 = A) := AA.out.2.2.2.1
      have VY : Hid (Nm.val os2 = C) := A2.2.2.2.1
      clear z3 hB4 A2 Z3 LY AA c0 c1 c2 c3 d0 d1 d2 d3
      obtain ⟨⟨c0, c1, c2, c3⟩, d0, d1, d2, d3⟩ := Z4.out.flat
      go_upto_region 9 with fail
      have S5 := hid (S4.new Z4.out (.bool n1) (.slice none 0 0) (.slice q m d) (.int .i64 M))
      have B5 := hid (alloc_b w4 (.cells #[.bool n1, .slice none 0 0, .slice q m d, .int .i64 M] 35))
      generalize hW : w4.alloc (.cells #[.bool n1, .slice none 0 0, .slice q m d, .int .i64 M] 35) = w5 at *
      clear hW c0 c1 c2 c3 d0 d1 d2 d3 Z4
      have CM := hid (refCmp_any r1 r2 _ _ _ _ os1 os2 w5 (AX.out.below B5.out (Nat.le_refl _)) (AY.out.below B5.out (Nat.le_refl _)))
      rw [VX.out, VY.out] at CM
      obtain ⟨⟨c0, c1, c2, c3⟩, d0, d1, d2, d3⟩ := S5.out.1.flat
      obtain ⟨s, hs⟩ : ∃ s, cmpI A C = s := ⟨_, rfl⟩
      rw [hs] at CM
      have HSS := hid hs
      clear hs
      go_wp2_with fail
      with_reducible refine CM.out.mono ?_
      rintro r w6 ⟨rfl, hB6⟩
      have S6 := hid (S5.out.on hB6)
      have B6 := hid (bel B5.out hB6)
      clear hB6 S5 B5 CM c0 c1 c2 c3 d0 d1 d2 d3
      obtain ⟨⟨c0, c1, c2, c3⟩, d0, d1, d2, d3⟩ := S6.out.1.flat
      cases he : (n1 == n2) with
      | true =>
        have SI := hid (SP.out he)
        have PL := hid (plus_any r1 r2 _ _ _ _ os1 os2 w6 (AX.out.below B6.out (Nat.le_refl _)) (AY.out.below B6.out (Nat.le_refl _)) (by have := TX.out.1; omega) (by have := TY.out.1; omega))
        rw [VX.out, VY.out] at PL
        clear SP SG SL SE HSS AX AY VX VY TX TY
        go_wp2_with fail
        with_reducible refine PL.out.mono ?_
        rintro r w7 ⟨r7, os7, rfl, A7, hB7⟩
        clear PL
        have S7 := hid (S6.out.on hB7)
        have AR7 := hid (A7.arg (by have := (A7.tl (K := 2300) (BD.out.2.2.1) (by omega)).2.1; omega))
        have TS7 := hid (A7.tl (K := 2300) (BD.out.2.2.1) (by omega)).1
        have V7 := hid A7.2.2.2.1
        have L7 := hid (fun x hx => Nat.le_trans S6.out.lt (A7.2.2.2.2 x hx))
        clear A7 hB7 S6 c0 c1 c2 c3 d0 d1 d2 d3
        obtain ⟨⟨g0, g1, g2, g3⟩, k0, k1, k2, k3⟩ := S7.out.2.1.cells
        go_upto_region 18 with fail
        have S8 := hid (S7.out.num (.slice r7 (List.length os7) (List.length os7)))
        have AR8 := hid (set_arg (o := 1) (v := .slice r7 (List.length os7) (List.length os7)) AR7.out (fun x hx => Nat.ne_of_gt (L7.out x hx)))
        generalize hW : w7.setCell ⟨w4.heap.size, 1, none⟩ (.slice r7 (List.length os7) (List.length os7)) = w8 at *
        clear hW AR7 S7 g0 g1 g2 g3 k0 k1 k2 k3
        obtain ⟨⟨g0, g1, g2, g3⟩, -⟩ := S8.out.2.1.cells
        obtain ⟨⟨m0, m1, m2, m3⟩, o0, o1, o2, o3⟩ := S8.out.1.room
        go_wp2_with fail
        (try simp only [Exit.inBlock, Exit.then])
        refine bodyPost_ret (results_cell_row rfl _ _ (w.heap.size + 1 + 1) 35 _ (0, 0) _ rfl (S8.out.1.put _ _ _ _).1 Tryd.underlying35 rfl (by kernel_rfl)) rfl ?_
        exact ⟨_, n1, A + C, M, rfl, ⟨_, _, _, _, _, _, os7, ys, rfl, far_arg AR8.out (fun x hx => Nat.ne_of_gt (Nat.lt_trans S8.out.2.2 (L7.out x hx))), V7.out, TS7.out, Q5.out.1.below (S8.out.1.put _ _ _ _).2 (Nat.le_refl _), Q5.out.2.1, Q5.out.2.2.1, fun x hx => by have := L7.out x hx; have := S8.out.2.2; have := HB0.out; omega, Q5.out.2.2.2⟩, SI.out, (S8.out.1.put _ _ _ _).2⟩
      | false =>
        rcases Int.lt_trichotomy A C with hl | hl | hl
        · have SI := hid (SL.out he hl)
          have s1 : s = -1 := by rw [← HSS.out]; unfold cmpI; rw [if_pos hl]
          subst s1
          obtain ⟨⟨g0, g1, g2, g3⟩, k0, k1, k2, k3⟩ := S6.out.2.1.cells
          have LE : Hid (A ≤ C) := Int.le_of_lt hl
          clear SP SG SL SE HSS hl
          go_upto_region 11 with fail
          have SX := hid (S6.out.sign (.bool n2))
          have BX := hid (B6.out.setCell (p := ⟨w4.heap.size, 0, none⟩) (Nat.le_refl _) (.bool n2))
          generalize hW : w6.setCell ⟨w4.heap.size, 0, none⟩ (.bool n2) = w66 at *
          clear hW g0 g1 g2 g3 k0 k1 k2 k3 c0 c1 c2 c3 d0 d1 d2 d3 S6 B6
          have LS := hid (less_any r2 r1 _ _ _ _ os2 os1 w66 (AY.out.below BX.out (Nat.le_refl _)) (AX.out.below BX.out (Nat.le_refl _)) (by have := TY.out.1; omega) (by rw [VX.out, VY.out]; exact LE.out))
          rw [VX.out, VY.out] at LS
          clear AX AY VX VY TX TY LE
          obtain ⟨⟨c0, c1, c2, c3⟩, d0, d1, d2, d3⟩ := SX.out.1.flat
          go_wp2_with fail
          with_reducible refine LS.out.mono ?_
          rintro r w7 ⟨r7, os7, rfl, A7, hB7⟩
          clear LS
          have S7 := hid (SX.out.on hB7)
          have AR7 := hid (A7.arg (by have := (A7.tl (K := 2300) (BD.out.2.2.2.2) (by omega)).2.1; omega))
          have TS7 := hid (A7.tl (K := 2300) (BD.out.2.2.2.2) (by omega)).1
          have V7 := hid A7.2.2.2.1
          have L7 := hid (fun x hx => Nat.le_trans SX.out.lt (A7.2.2.2.2 x hx))
          clear A7 hB7 SX c0 c1 c2 c3 d0 d1 d2 d3
          obtain ⟨⟨g0, g1, g2, g3⟩, k0, k1, k2, k3⟩ := S7.out.2.1.cells
          go_upto_region 18 with fail
          have S8 := hid (S7.out.num (.slice r7 (List.length os7) (List.length os7)))
          have AR8 := hid (set_arg (o := 1) (v := .slice r7 (List.length os7) (List.length os7)) AR7.out (fun x hx => Nat.ne_of_gt (L7.out x hx)))
          generalize hW : w7.setCell ⟨w4.heap.size, 1, none⟩ (.slice r7 (List.length os7) (List.length os7)) = w8 at *
          clear hW AR7 S7 g0 g1 g2 g3 k0 k1 k2 k3
          obtain ⟨⟨g0, g1, g2, g3⟩, -⟩ := S8.out.2.1.cells
          obtain ⟨⟨m0, m1, m2, m3⟩, o0, o1, o2, o3⟩ := S8.out.1.room
          go_wp2_with fail
          (try simp only [Exit.inBlock, Exit.then])
          refine bodyPost_ret (results_cell_row rfl _ _ (w.heap.size + 1 + 1) 35 _ (0, 0) _ rfl (S8.out.1.put _ _ _ _).1 Tryd.underlying35 rfl (by kernel_rfl)) rfl ?_
          exact ⟨_, n2, C - A, M, rfl, ⟨_, _, _, _, _, _, os7, ys, rfl, far_arg AR8.out (fun x hx => Nat.ne_of_gt (Nat.lt_trans S8.out.2.2 (L7.out x hx))), V7.out, TS7.out, Q5.out.1.below (S8.out.1.put _ _ _ _).2 (Nat.le_refl _), Q5.out.2.1, Q5.out.2.2.1, fun x hx => by have := L7.out x hx; have := S8.out.2.2; have := HB0.out; omega, Q5.out.2.2.2⟩, SI.out, (S8.out.1.put _ _ _ _).2⟩
        · have SI := hid (SE.out he hl)
          have s1 : s = 0 := by rw [← HSS.out, hl]; unfold cmpI; rw [if_neg (by omega), if_pos rfl]
          subst s1
          obtain ⟨⟨g0, g1, g2, g3⟩, k0, k1, k2, k3⟩ := S6.out.2.1.cells
          clear SP SG SL SE HSS hl AX AY VX VY TX TY B6
          go_upto_region 18 with fail
          have S8 := hid (S6.out.sign (.bool false))
          generalize hW : w6.setCell ⟨w4.heap.size, 0, none⟩ (.bool false) = w8 at *
          clear hW g0 g1 g2 g3 k0 k1 k2 k3 c0 c1 c2 c3 d0 d1 d2 d3 S6
          obtain ⟨⟨g0, g1, g2, g3⟩, -⟩ := S8.out.2.1.cells
          obtain ⟨⟨m0, m1, m2, m3⟩, o0, o1, o2, o3⟩ := S8.out.1.room
          go_wp2_with fail
          (try simp only [Exit.inBlock, Exit.then])
          refine bodyPost_ret (results_cell_row rfl _ _ (w.heap.size + 1 + 1) 35 _ (0, 0) _ rfl (S8.out.1.put _ _ _ _).1 Tryd.underlying35 rfl (by kernel_rfl)) rfl ?_
          exact ⟨_, false, 0, M, rfl, ⟨_, _, _, _, _, _, [], ys, rfl, nil_arg _, rfl, by simp [Nm.tsize], Q5.out.1.below (S8.out.1.put _ _ _ _).2 (Nat.le_refl _), Q5.out.2.1, Q5.out.2.2.1, none_far B, Q5.out.2.2.2⟩, SI.out, (S8.out.1.put _ _ _ _).2⟩
        · have SI := hid (SG.out he hl)
          have s1 : s = 1 := by rw [← HSS.out]; unfold cmpI; rw [if_neg (by omega), if_neg (by omega)]
          subst s1
          have LS := hid (less_any r1 r2 _ _ _ _ os1 os2 w6 (AX.out.below B6.out (Nat.le_refl _)) (AY.out.below B6.out (Nat.le_refl _)) (by have := TX.out.1; omega) (by rw [VX.out, VY.out]; omega))
          rw [VX.out, VY.out] at LS
          clear SP SG SL SE HSS hl AX AY VX VY TX TY
          go_wp2_with fail
          with_reducible refine LS.out.mono ?_
          rintro r w7 ⟨r7, os7, rfl, A7, hB7⟩
          clear LS
          have S7 := hid (S6.out.on hB7)
          have AR7 := hid (A7.arg (by have := (A7.tl (K := 2300) (BD.out.2.2.2.1) (by omega)).2.1; omega))
          have TS7 := hid (A7.tl (K := 2300) (BD.out.2.2.2.1) (by omega)).1
          have V7 := hid A7.2.2.2.1
          have L7 := hid (fun x hx => Nat.le_trans S6.out.lt (A7.2.2.2.2 x hx))
          clear A7 hB7 S6 c0 c1 c2 c3 d0 d1 d2 d3
          obtain ⟨⟨g0, g1, g2, g3⟩, k0, k1, k2, k3⟩ := S7.out.2.1.cells
          go_upto_region 18 with fail
          have S8 := hid (S7.out.num (.slice r7 (List.length os7) (List.length os7)))
          have AR8 := hid (set_arg (o := 1) (v := .slice r7 (List.length os7) (List.length os7)) AR7.out (fun x hx => Nat.ne_of_gt (L7.out x hx)))
          generalize hW : w7.setCell ⟨w4.heap.size, 1, none⟩ (.slice r7 (List.length os7) (List.length os7)) = w8 at *
          clear hW AR7 S7 g0 g1 g2 g3 k0 k1 k2 k3
          obtain ⟨⟨g0, g1, g2, g3⟩, -⟩ := S8.out.2.1.cells
          obtain ⟨⟨m0, m1, m2, m3⟩, o0, o1, o2, o3⟩ := S8.out.1.room
          go_wp2_with fail
          (try simp only [Exit.inBlock, Exit.then])
          refine bodyPost_ret (results_cell_row rfl _ _ (w.heap.size + 1 + 1) 35 _ (0, 0) _ rfl (S8.out.1.put _ _ _ _).1 Tryd.underlying35 rfl (by kernel_rfl)) rfl ?_
          exact ⟨_, n1, A - C, M, rfl, ⟨_, _, _, _, _, _, os7, ys, rfl, far_arg AR8.out (fun x hx => Nat.ne_of_gt (Nat.lt_trans S8.out.2.2 (L7.out x hx))), V7.out, TS7.out, Q5.out.1.below (S8.out.1.put _ _ _ _).2 (Nat.le_refl _), Q5.out.2.1, Q5.out.2.2.1, fun x hx => by have := L7.out x hx; have := S8.out.2.2; have := HB0.out; omega, Q5.out.2.2.2⟩, SI.out, (S8.out.1.put _ _ _ _).2⟩
  · rw [decide_eq_false hz1] at NX
    clear D1 hz1 NY
    by_cases hle : e2 < e1
    · obtain rfl : M = e2 := by omega
      clear hM
      go_enter Tryd.func20, Tryd.ntmps20
      go_upto_region 1 with fail
      generalize (((w.alloc (.cells #[.bool n1, .slice p n c, .slice q m d, .int .i64 e1] 35)).alloc (.cells #[.bool n2, .slice p' n' c', .slice q' m' d', .int .i64 M] 35)).alloc (.cells #[.bool false, .slice none 0 0, .slice none 0 0, .int .i64 0] 35)) = wz at *
      have zb := Z.out.1
      obtain ⟨⟨c0, c1, c2, c3⟩, d0, d1, d2, d3⟩ := Z.out.flat
      go_wp2_with fail
      with_reducible refine (NX.out _ zb).mono ?_
      rintro r w1 ⟨rfl, hB1⟩
      have Z1 := hid (Z.out.on hB1)
      clear zb hB1 Z NX c0 c1 c2 c3 d0 d1 d2 d3
      have Z2 := hid Z1.out
      clear Z1
      obtain ⟨⟨c0, c1, c2, c3⟩, d0, d1, d2, d3⟩ := Z2.out.flat
      have zb := Z2.out.1
      go_wp2_with fail
      with_reducible refine (LX.out _ _ (by omega) zb).mono ?_
      rintro r w3 ⟨r1, os1, rfl, A1, hB3⟩
      have Z3 := hid (Z2.out.on hB3)
      have z3 := Z3.out.1
      have AA := hid A1
      clear zb hB3 A1 Z2 LX c0 c1 c2 c3 d0 d1 d2 d3
      obtain ⟨⟨c0, c1, c2, c3⟩, d0, d1, d2, d3⟩ := Z3.out.flat
      go_wp2_with fail
      with_reducible refine (LY.out _ _ (by omega) z3).mono ?_
      rintro r w4 ⟨r2, os2, rfl, A2, hB4⟩
      have Z4 := hid (Z3.out.on hB4)
      have TX := hid ((AA.out.below hB4 (Nat.le_refl _)).tl (K := 2300) BD.out.1 (by omega))
      have TY := hid (A2.tl (K := 2300) BD.out.2.1 (by omega))
      have AX := hid ((AA.out.below hB4 (Nat.le_refl _)).arg (by have := TX.out.2.1; omega))
      have AY := hid (A2.arg (by have := TY.out.2.1; omega))
      have VX : Hid (Nm.val os1 = A) := AA.out.2.2.2.1
      have VY : Hid (Nm.val os2 = C) := A2.2.2.2.1
      clear z3 hB4 A2 Z3 LY AA c0 c1 c2 c3 d0 d1 d2 d3
      obtain ⟨⟨c0, c1, c2, c3⟩, d0, d1, d2, d3⟩ := Z4.out.flat
      go_upto_region 9 with fail
      have S5 := hid (S4.new Z4.out (.bool n1) (.slice none 0 0) (.slice q m d) (.int .i64 M))
      have B5 := hid (alloc_b w4 (.cells #[.bool n1, .slice none 0 0, .slice q m d, .int .i64 M] 35))
      generalize hW : w4.alloc (.cells #[.bool n1, .slice none 0 0, .slice q m d, .int .i64 M] 35) = w5 at *
      clear hW c0 c1 c2 c3 d0 d1 d2 d3 Z4
      have CM := hid (refCmp_any r1 r2 _ _ _ _ os1 os2 w5 (AX.out.below B5.out (Nat.le_refl _)) (AY.out.below B5.out (Nat.le_refl _)))
      rw [VX.out, VY.out] at CM
      obtain ⟨⟨c0, c1, c2, c3⟩, d0, d1, d2, d3⟩ := S5.out.1.flat
      obtain ⟨s, hs⟩ : ∃ s, cmpI A C = s := ⟨_, rfl⟩
      rw [hs] at CM
      have HSS := hid hs
      clear hs
      go_wp2_with fail
      with_reducible refine CM.out.mono ?_
      rintro r w6 ⟨rfl, hB6⟩
      have S6 := hid (S5.out.on hB6)
      have B6 := hid (bel B5.out hB6)
      clear hB6 S5 B5 CM c0 c1 c2 c3 d0 d1 d2 d3
      obtain ⟨⟨c0, c1, c2, c3⟩, d0, d1, d2, d3⟩ := S6.out.1.flat
      cases he : (n1 == n2) with
      | true =>
        have SI := hid (SP.out he)
        have PL := hid (plus_any r1 r2 _ _ _ _ os1 os2 w6 (AX.out.below B6.out (Nat.le_refl _)) (AY.out.below B6.out (Nat.le_refl _)) (by have := TX.out.1; omega) (by have := TY.out.1; omega))
        rw [VX.out, VY.out] at PL
        clear SP SG SL SE HSS AX AY VX VY TX TY
        go_wp2_with fail
        with_reducible refine PL.out.mono ?_
        rintro r w7 ⟨r7, os7, rfl, A7, hB7⟩
        clear PL
        have S7 := hid (S6.out.on hB7)
        have AR7 := hid (A7.arg (by have := (A7.tl (K := 2300) (BD.out.2.2.1) (by omega)).2.1; omega))
        have TS7 := hid (A7.tl (K := 2300) (BD.out.2.2.1) (by omega)).1
        have V7 := hid A7.2.2.2.1
        have L7 := hid (fun x hx => Nat.le_trans S6.out.lt (A7.2.2.2.2 x hx))
        clear A7 hB7 S6 c0 c1 c2 c3 d0 d1 d2 d3
        obtain ⟨⟨g0, g1, g2, g3⟩, k0, k1, k2, k3⟩ := S7.out.2.1.cells
        go_upto_region 18 with fail
        have S8 := hid (S7.out.num (.slice r7 (List.length os7) (List.length os7)))
        have AR8 := hid (set_arg (o := 1) (v := .slice r7 (List.length os7) (List.length os7)) AR7.out (fun x hx => Nat.ne_of_gt (L7.out x hx)))
        generalize hW : w7.setCell ⟨w4.heap.size, 1, none⟩ (.slice r7 (List.length os7) (List.length os7)) = w8 at *
        clear hW AR7 S7 g0 g1 g2 g3 k0 k1 k2 k3
        obtain ⟨⟨g0, g1, g2, g3⟩, -⟩ := S8.out.2.1.cells
        obtain ⟨⟨m0, m1, m2, m3⟩, o0, o1, o2, o3⟩ := S8.out.1.room
        go_wp2_with fail
        (try simp only [Exit.inBlock, Exit.then])
        refine bodyPost_ret (results_cell_row rfl _ _ (w.heap.size + 1 + 1) 35 _ (0, 0) _ rfl (S8.out.1.put _ _ _ _).1 Tryd.underlying35 rfl (by kernel_rfl)) rfl ?_
        exact ⟨_, n1, A + C, M, rfl, ⟨_, _, _, _, _, _, os7, ys, rfl, far_arg AR8.out (fun x hx => Nat.ne_of_gt (Nat.lt_trans S8.out.2.2 (L7.out x hx))), V7.out, TS7.out, Q5.out.1.below (S8.out.1.put _ _ _ _).2 (Nat.le_refl _), Q5.out.2.1, Q5.out.2.2.1, fun x hx => by have := L7.out x hx; have := S8.out.2.2; have := HB0.out; omega, Q5.out.2.2.2⟩, SI.out, (S8.out.1.put _ _ _ _).2⟩
      | false =>
        rcases Int.lt_trichotomy A C with hl | hl | hl
        · have SI := hid (SL.out he hl)
          have s1 : s = -1 := by rw [← HSS.out]; unfold cmpI; rw [if_pos hl]
          subst s1
          obtain ⟨⟨g0, g1, g2, g3⟩, k0, k1, k2, k3⟩ := S6.out.2.1.cells
          have LE : Hid (A ≤ C) := Int.le_of_lt hl
          clear SP SG SL SE HSS hl
          go_upto_region 11 with fail
          have SX := hid (S6.out.sign (.bool n2))
          have BX := hid (B6.out.setCell (p := ⟨w4.heap.size, 0, none⟩) (Nat.le_refl _) (.bool n2))
          generalize hW : w6.setCell ⟨w4.heap.size, 0, none⟩ (.bool n2) = w66 at *
          clear hW g0 g1 g2 g3 k0 k1 k2 k3 c0 c1 c2 c3 d0 d1 d2 d3 S6 B6
          have LS := hid (less_any r2 r1 _ _ _ _ os2 os1 w66 (AY.out.below BX.out (Nat.le_refl _)) (AX.out.below BX.out (Nat.le_refl _)) (by have := TY.out.1; omega) (by rw [VX.out, VY.out]; exact LE.out))
          rw [VX.out, VY.out] at LS
          clear AX AY VX VY TX TY LE
          obtain ⟨⟨c0, c1, c2, c3⟩, d0, d1, d2, d3⟩ := SX.out.1.flat
          go_wp2_with fail
          with_reducible refine LS.out.mono ?_
          rintro r w7 ⟨r7, os7, rfl, A7, hB7⟩
          clear LS
          have S7 := hid (SX.out.on hB7)
          have AR7 := hid (A7.arg (by have := (A7.tl (K := 2300) (BD.out.2.2.2.2) (by omega)).2.1; omega))
          have TS7 := hid (A7.tl (K := 2300) (BD.out.2.2.2.2) (by omega)).1
          have V7 := hid A7.2.2.2.1
          have L7 := hid (fun x hx => Nat.le_trans SX.out.lt (A7.2.2.2.2 x hx))
          clear A7 hB7 SX c0 c1 c2 c3 d0 d1 d2 d3
          obtain ⟨⟨g0, g1, g2, g3⟩, k0, k1, k2, k3⟩ := S7.out.2.1.cells
          go_upto_region 18 with fail
          have S8 := hid (S7.out.num (.slice r7 (List.length os7) (List.length os7)))
          have AR8 := hid (set_arg (o := 1) (v := .slice r7 (List.length os7) (List.length os7)) AR7.out (fun x hx => Nat.ne_of_gt (L7.out x hx)))
          generalize hW : w7.setCell ⟨w4.heap.size, 1, none⟩ (.slice r7 (List.length os7) (List.length os7)) = w8 at *
          clear hW AR7 S7 g0 g1 g2 g3 k0 k1 k2 k3
          obtain ⟨⟨g0, g1, g2, g3⟩, -⟩ := S8.out.2.1.cells
          obtain ⟨⟨m0, m1, m2, m3⟩, o0, o1, o2, o3⟩ := S8.out.1.room
          go_wp2_with fail
          (try simp only [Exit.inBlock, Exit.then])
          refine bodyPost_ret (results_cell_row rfl _ _ (w.heap.size + 1 + 1) 35 _ (0, 0) _ rfl (S8.out.1.put _ _ _ _).1 Tryd.underlying35 rfl (by kernel_rfl)) rfl ?_
          exact ⟨_, n2, C - A, M, rfl, ⟨_, _, _, _, _, _, os7, ys, rfl, far_arg AR8.out (fun x hx => Nat.ne_of_gt (Nat.lt_trans S8.out.2.2 (L7.out x hx))), V7.out, TS7.out, Q5.out.1.below (S8.out.1.put _ _ _ _).2 (Nat.le_refl _), Q5.out.2.1, Q5.out.2.2.1, fun x hx => by have := L7.out x hx; have := S8.out.2.2; have := HB0.out; omega, Q5.out.2.2.2⟩, SI.out, (S8.out.1.put _ _ _ _).2⟩
        · have SI := hid (SE.out he hl)
          have s1 : s = 0 := by rw [← HSS.out, hl]; unfold cmpI; rw [if_neg (by omega), if_pos rfl]
          subst s1
          obtain ⟨⟨g0, g1, g2, g3⟩, k0, k1, k2, k3⟩ := S6.out.2.1.cells
          clear SP SG SL SE HSS hl AX AY VX VY TX TY B6
          go_upto_region 18 with fail
          have S8 := hid (S6.out.sign (.bool false))
          generalize hW : w6.setCell ⟨w4.heap.size, 0, none⟩ (.bool false) = w8 at *
          clear hW g0 g1 g2 g3 k0 k1 k2 k3 c0 c1 c2 c3 d0 d1 d2 d3 S6
          obtain ⟨⟨g0, g1, g2, g3⟩, -⟩ := S8.out.2.1.cells
          obtain ⟨⟨m0, m1, m2, m3⟩, o0, o1, o2, o3⟩ := S8.out.1.room
          go_wp2_with fail
          (try simp only [Exit.inBlock, Exit.then])
          refine bodyPost_ret (results_cell_row rfl _ _ (w.heap.size + 1 + 1) 35 _ (0, 0) _ rfl (S8.out.1.put _ _ _ _).1 Tryd.underlying35 rfl (by kernel_rfl)) rfl ?_
          exact ⟨_, false, 0, M, rfl, ⟨_, _, _, _, _, _, [], ys, rfl, nil_arg _, rfl, by simp [Nm.tsize], Q5.out.1.below (S8.out.1.put _ _ _ _).2 (Nat.le_refl _), Q5.out.2.1, Q5.out.2.2.1, none_far B, Q5.out.2.2.2⟩, SI.out, (S8.out.1.put _ _ _ _).2⟩
        · have SI := hid (SG.out he hl)
          have s1 : s = 1 := by rw [← HSS.out]; unfold cmpI; rw [if_neg (by omega), if_neg (by omega)]
          subst s1
          have LS := hid (less_any r1 r2 _ _ _ _ os1 os2 w6 (AX.out.below B6.out (Nat.le_refl _)) (AY.out.below B6.out (Nat.le_refl _)) (by have := TX.out.1; omega) (by rw [VX.out, VY.out]; omega))
          rw [VX.out, VY.out] at LS
          clear SP SG SL SE HSS hl AX AY VX VY TX TY
          go_wp2_with fail
          with_reducible refine LS.out.mono ?_
          rintro r w7 ⟨r7, os7, rfl, A7, hB7⟩
          clear LS
          have S7 := hid (S6.out.on hB7)
          have AR7 := hid (A7.arg (by have := (A7.tl (K := 2300) (BD.out.2.2.2.1) (by omega)).2.1; omega))
          have TS7 := hid (A7.tl (K := 2300) (BD.out.2.2.2.1) (by omega)).1
          have V7 := hid A7.2.2.2.1
          have L7 := hid (fun x hx => Nat.le_trans S6.out.lt (A7.2.2.2.2 x hx))
          clear A7 hB7 S6 c0 c1 c2 c3 d0 d1 d2 d3
          obtain ⟨⟨g0, g1, g2, g3⟩, k0, k1, k2, k3⟩ := S7.out.2.1.cells
          go_upto_region 18 with fail
          have S8 := hid (S7.out.num (.slice r7 (List.length os7) (List.length os7)))
          have AR8 := hid (set_arg (o := 1) (v := .slice r7 (List.length os7) (List.length os7)) AR7.out (fun x hx => Nat.ne_of_gt (L7.out x hx)))
          generalize hW : w7.setCell ⟨w4.heap.size, 1, none⟩ (.slice r7 (List.length os7) (List.length os7)) = w8 at *
          clear hW AR7 S7 g0 g1 g2 g3 k0 k1 k2 k3
          obtain ⟨⟨g0, g1, g2, g3⟩, -⟩ := S8.out.2.1.cells
          obtain ⟨⟨m0, m1, m2, m3⟩, o0, o1, o2, o3⟩ := S8.out.1.room
          go_wp2_with fail
          (try simp only [Exit.inBlock, Exit.then])
          refine bodyPost_ret (results_cell_row rfl _ _ (w.heap.size + 1 + 1) 35 _ (0, 0) _ rfl (S8.out.1.put _ _ _ _).1 Tryd.underlying35 rfl (by kernel_rfl)) rfl ?_
          exact ⟨_, n1, A - C, M, rfl, ⟨_, _, _, _, _, _, os7, ys, rfl, far_arg AR8.out (fun x hx => Nat.ne_of_gt (Nat.lt_trans S8.out.2.2 (L7.out x hx))), V7.out, TS7.out, Q5.out.1.below (S8.out.1.put _ _ _ _).2 (Nat.le_refl _), Q5.out.2.1, Q5.out.2.2.1, fun x hx => by have := L7.out x hx; have := S8.out.2.2; have := HB0.out; omega, Q5.out.2.2.2⟩, SI.out, (S8.out.1.put _ _ _ _).2⟩
    · obtain rfl : M = e1 := by omega
      clear hM
      go_enter Tryd.func20, Tryd.ntmps20
      go_upto_region 1 with fail
      generalize (((w.alloc (.cells #[.bool n1, .slice p n c, .slice q m d, .int .i64 M] 35)).alloc (.cells #[.bool n2, .slice p' n' c', .slice q' m' d', .int .i64 e2] 35)).alloc (.cells #[.bool false, .slice none 0 0, .slice none 0 0, .int .i64 0] 35)) = wz at *
      have zb := Z.out.1
      obtain ⟨⟨c0, c1, c2, c3⟩, d0, d1, d2, d3⟩ := Z.out.flat
      go_wp2_with fail
      with_reducible refine (NX.out _ zb).mono ?_
      rintro r w1 ⟨rfl, hB1⟩
      have Z1 := hid (Z.out.on hB1)
      clear zb hB1 Z NX c0 c1 c2 c3 d0 d1 d2 d3
      have Z2 := hid Z1.out
      clear Z1
      obtain ⟨⟨c0, c1, c2, c3⟩, d0, d1, d2, d3⟩ := Z2.out.flat
      have zb := Z2.out.1
      go_wp2_with fail
      with_reducible refine (LX.out _ _ (by omega) zb).mono ?_
      rintro r w3 ⟨r1, os1, rfl, A1, hB3⟩
      have Z3 := hid (Z2.out.on hB3)
      have z3 := Z3.out.1
      have AA := hid A1
      clear zb hB3 A1 Z2 LX c0 c1 c2 c3 d0 d1 d2 d3
      obtain ⟨⟨c0, c1, c2, c3⟩, d0, d1, d2, d3⟩ := Z3.out.flat
      go_wp2_with fail
      with_reducible refine (LY.out _ _ (by omega) z3).mono ?_
      rintro r w4 ⟨r2, os2, rfl, A2, hB4⟩
      have Z4 := hid (Z3.out.on hB4)
      have TX := hid ((AA.out.below hB4 (Nat.le_refl _)).tl (K := 2300) BD.out.1 (by omega))
      have TY := hid (A2.tl (K := 2300) BD.out.2.1 (by omega))
      have AX := hid ((AA.out.below hB4 (Nat.le_refl _)).arg (by have := TX.out.2.1; omega))
      have AY := hid (A2.arg (by have := TY.out.2.1; omega))
      have VX : Hid (Nm.val os1 = A) := AA.out.2.2.2.1
      have VY : Hid (Nm.val os2 = C) := A2.2.2.2.1
      clear z3 hB4 A2 Z3 LY AA c0 c1 c2 c3 d0 d1 d2 d3
      obtain ⟨⟨c0, c1, c2, c3⟩, d0, d1, d2, d3⟩ := Z4.out.flat
      go_upto_region 9 with fail
      have S5 := hid (S4.new Z4.out (.bool n1) (.slice none 0 0) (.slice q m d) (.int .i64 M))
      have B5 := hid (alloc_b w4 (.cells #[.bool n1, .slice none 0 0, .slice q m d, .int .i64 M] 35))
      generalize hW : w4.alloc (.cells #[.bool n1, .slice none 0 0, .slice q m d, .int .i64 M] 35) = w5 at *
      clear hW c0 c1 c2 c3 d0 d1 d2 d3 Z4
      have CM := hid (refCmp_any r1 r2 _ _ _ _ os1 os2 w5 (AX.out.below B5.out (Nat.le_refl _)) (AY.out.below B5.out (Nat.le_refl _)))
      rw [VX.out, VY.out] at CM
      obtain ⟨⟨c0, c1, c2, c3⟩, d0, d1, d2, d3⟩ := S5.out.1.flat
      obtain ⟨s, hs⟩ : ∃ s, cmpI A C = s := ⟨_, rfl⟩
      rw [hs] at CM
      have HSS := hid hs
      clear hs
      go_wp2_with fail
      with_reducible refine CM.out.mono ?_
      rintro r w6 ⟨rfl, hB6⟩
      have S6 := hid (S5.out.on hB6)
      have B6 := hid (bel B5.out hB6)
      clear hB6 S5 B5 CM c0 c1 c2 c3 d0 d1 d2 d3
      obtain ⟨⟨c0, c1, c2, c3⟩, d0, d1, d2, d3⟩ := S6.out.1.flat
      cases he : (n1 == n2) with
      | true =>
        have SI := hid (SP.out he)
        have PL := hid (plus_any r1 r2 _ _ _ _ os1 os2 w6 (AX.out.below B6.out (Nat.le_refl _)) (AY.out.below B6.out (Nat.le_refl _)) (by have := TX.out.1; omega) (by have := TY.out.1; omega))
        rw [VX.out, VY.out] at PL
        clear SP SG SL SE HSS AX AY VX VY TX TY
        go_wp2_with fail
        with_reducible refine PL.out.mono ?_
        rintro r w7 ⟨r7, os7, rfl, A7, hB7⟩
        clear PL
        have S7 := hid (S6.out.on hB7)
        have AR7 := hid (A7.arg (by have := (A7.tl (K := 2300) (BD.out.2.2.1) (by omega)).2.1; omega))
        have TS7 := hid (A7.tl (K := 2300) (BD.out.2.2.1) (by omega)).1
        have V7 := hid A7.2.2.2.1
        have L7 := hid (fun x hx => Nat.le_trans S6.out.lt (A7.2.2.2.2 x hx))
        clear A7 hB7 S6 c0 c1 c2 c3 d0 d1 d2 d3
        obtain ⟨⟨g0, g1, g2, g3⟩, k0, k1, k2, k3⟩ := S7.out.2.1.cells
        go_upto_region 18 with fail
        have S8 := hid (S7.out.num (.slice r7 (List.length os7) (List.length os7)))
        have AR8 := hid (set_arg (o := 1) (v := .slice r7 (List.length os7) (List.length os7)) AR7.out (fun x hx => Nat.ne_of_gt (L7.out x hx)))
        generalize hW : w7.setCell ⟨w4.heap.size, 1, none⟩ (.slice r7 (List.length os7) (List.length os7)) = w8 at *
        clear hW AR7 S7 g0 g1 g2 g3 k0 k1 k2 k3
        obtain ⟨⟨g0, g1, g2, g3⟩, -⟩ := S8.out.2.1.cells
        obtain ⟨⟨m0, m1, m2, m3⟩, o0, o1, o2, o3⟩ := S8.out.1.room
        go_wp2_with fail
        (try simp only [Exit.inBlock, Exit.then])
        refine bodyPost_ret (results_cell_row rfl _ _ (w.heap.size + 1 + 1) 35 _ (0, 0) _ rfl (S8.out.1.put _ _ _ _).1 Tryd.underlying35 rfl (by kernel_rfl)) rfl ?_
        exact ⟨_, n1, A + C, M, rfl, ⟨_, _, _, _, _, _, os7, ys, rfl, far_arg AR8.out (fun x hx => Nat.ne_of_gt (Nat.lt_trans S8.out.2.2 (L7.out x hx))), V7.out, TS7.out, Q5.out.1.below (S8.out.1.put _ _ _ _).2 (Nat.le_refl _), Q5.out.2.1, Q5.out.2.2.1, fun x hx => by have := L7.out x hx; have := S8.out.2.2; have := HB0.out; omega, Q5.out.2.2.2⟩, SI.out, (S8.out.1.put _ _ _ _).2⟩
      | false =>
        rcases Int.lt_trichotomy A C with hl | hl | hl
        · have SI := hid (SL.out he hl)
          have s1 : s = -1 := by rw [← HSS.out]; unfold cmpI; rw [if_pos hl]
          subst s1
          obtain ⟨⟨g0, g1, g2, g3⟩, k0, k1, k2, k3⟩ := S6.out.2.1.cells
          have LE : Hid (A ≤ C) := Int.le_of_lt hl
          clear SP SG SL SE HSS hl
          go_upto_region 11 with fail
          have SX := hid (S6.out.sign (.bool n2))
          have BX := hid (B6.out.setCell (p := ⟨w4.heap.size, 0, none⟩) (Nat.le_refl _) (.bool n2))
          generalize hW : w6.setCell ⟨w4.heap.size, 0, none⟩ (.bool n2) = w66 at *
          clear hW g0 g1 g2 g3 k0 k1 k2 k3 c0 c1 c2 c3 d0 d1 d2 d3 S6 B6
          have LS := hid (less_any r2 r1 _ _ _ _ os2 os1 w66 (AY.out.below BX.out (Nat.le_refl _)) (AX.out.below BX.out (Nat.le_refl _)) (by have := TY.out.1; omega) (by rw [VX.out, VY.out]; exact LE.out))
          rw [VX.out, VY.out] at LS
          clear AX AY VX VY TX TY LE
          obtain ⟨⟨c0, c1, c2, c3⟩, d0, d1, d2, d3⟩ := SX.out.1.flat
          go_wp2_with fail
          with_reducible refine LS.out.mono ?_
          rintro r w7 ⟨r7, os7, rfl, A7, hB7⟩
          clear LS
          have S7 := hid (SX.out.on hB7)
          have AR7 := hid (A7.arg (by have := (A7.tl (K := 2300) (BD.out.2.2.2.2) (by omega)).2.1; omega))
          have TS7 := hid (A7.tl (K := 2300) (BD.out.2.2.2.2) (by omega)).1
          have V7 := hid A7.2.2.2.1
          have L7 := hid (fun x hx => Nat.le_trans SX.out.lt (A7.2.2.2.2 x hx))
          clear A7 hB7 SX c0 c1 c2 c3 d0 d1 d2 d3
          obtain ⟨⟨g0, g1, g2, g3⟩, k0, k1, k2, k3⟩ := S7.out.2.1.cells
          go_upto_region 18 with fail
          have S8 := hid (S7.out.num (.slice r7 (List.length os7) (List.length os7)))
          have AR8 := hid (set_arg (o := 1) (v := .slice r7 (List.length os7) (List.length os7)) AR7.out (fun x hx => Nat.ne_of_gt (L7.out x hx)))
          generalize hW : w7.setCell ⟨w4.heap.size, 1, none⟩ (.slice r7 (List.length os7) (List.length os7)) = w8 at *
          clear hW AR7 S7 g0 g1 g2 g3 k0 k1 k2 k3
          obtain ⟨⟨g0, g1, g2, g3⟩, -⟩ := S8.out.2.1.cells
          obtain ⟨⟨m0, m1, m2, m3⟩, o0, o1, o2, o3⟩ := S8.out.1.room
          go_wp2_with fail
          (try simp only [Exit.inBlock, Exit.then])
          refine bodyPost_ret (results_cell_row rfl _ _ (w.heap.size + 1 + 1) 35 _ (0, 0) _ rfl (S8.out.1.put _ _ _ _).1 Tryd.underlying35 rfl (by kernel_rfl)) rfl ?_
          exact ⟨_, n2, C - A, M, rfl, ⟨_, _, _, _, _, _, os7, ys, rfl, far_arg AR8.out (fun x hx => Nat.ne_of_gt (Nat.lt_trans S8.out.2.2 (L7.out x hx))), V7.out, TS7.out, Q5.out.1.below (S8.out.1.put _ _ _ _).2 (Nat.le_refl _), Q5.out.2.1, Q5.out.2.2.1, fun x hx => by have := L7.out x hx; have := S8.out.2.2; have := HB0.out; omega, Q5.out.2.2.2⟩, SI.out, (S8.out.1.put _ _ _ _).2⟩
        · have SI := hid (SE.out he hl)
          have s1 : s = 0 := by rw [← HSS.out, hl]; unfold cmpI; rw [if_neg (by omega), if_pos rfl]
          subst s1
          obtain ⟨⟨g0, g1, g2, g3⟩, k0, k1, k2, k3⟩ := S6.out.2.1.cells
          clear SP SG SL SE HSS hl AX AY VX VY TX TY B6
          go_upto_region 18 with fail
          have S8 := hid (S6.out.sign (.bool false))
          generalize hW : w6.setCell ⟨w4.heap.size, 0, none⟩ (.bool false) = w8 at *
          clear hW g0 g1 g2 g3 k0 k1 k2 k3 c0 c1 c2 c3 d0 d1 d2 d3 S6
          obtain ⟨⟨g0, g1, g2, g3⟩, -⟩ := S8.out.2.1.cells
          obtain ⟨⟨m0, m1, m2, m3⟩, o0, o1, o2, o3⟩ := S8.out.1.room
          go_wp2_with fail
          (try simp only [Exit.inBlock, Exit.then])
          refine bodyPost_ret (results_cell_row rfl _ _ (w.heap.size + 1 + 1) 35 _ (0, 0) _ rfl (S8.out.1.put _ _ _ _).1 Tryd.underlying35 rfl (by kernel_rfl)) rfl ?_
          exact ⟨_, false, 0, M, rfl, ⟨_, _, _, _, _, _, [], ys, rfl, nil_arg _, rfl, by simp [Nm.tsize], Q5.out.1.below (S8.out.1.put _ _ _ _).2 (Nat.le_refl _), Q5.out.2.1, Q5.out.2.2.1, none_far B, Q5.out.2.2.2⟩, SI.out, (S8.out.1.put _ _ _ _).2⟩
        · have SI := hid (SG.out he hl)
          have s1 : s = 1 := by rw [← HSS.out]; unfold cmpI; rw [if_neg (by omega), if_neg (by omega)]
          subst s1
          have LS := hid (less_any r1 r2 _ _ _ _ os1 os2 w6 (AX.out.below B6.out (Nat.le_refl _)) (AY.out.below B6.out (Nat.le_refl _)) (by have := TX.out.1; omega) (by rw [VX.out, VY.out]; omega))
          rw [VX.out, VY.out] at LS
          clear SP SG SL SE HSS hl AX AY VX VY TX TY
          go_wp2_with fail
          with_reducible refine LS.out.mono ?_
          rintro r w7 ⟨r7, os7, rfl, A7, hB7⟩
          clear LS
          have S7 := hid (S6.out.on hB7)
          have AR7 := hid (A7.arg (by have := (A7.tl (K := 2300) (BD.out.2.2.2.1) (by omega)).2.1; omega))
          have TS7 := hid (A7.tl (K := 2300) (BD.out.2.2.2.1) (by omega)).1
          have V7 := hid A7.2.2.2.1
          have L7 := hid (fun x hx => Nat.le_trans S6.out.lt (A7.2.2.2.2 x hx))
          clear A7 hB7 S6 c0 c1 c2 c3 d0 d1 d2 d3
          obtain ⟨⟨g0, g1, g2, g3⟩, k0, k1, k2, k3⟩ := S7.out.2.1.cells
          go_upto_region 18 with fail
          have S8 := hid (S7.out.num (.slice r7 (List.length os7) (List.length os7)))
          have AR8 := hid (set_arg (o := 1) (v := .slice r7 (List.length os7) (List.length os7)) AR7.out (fun x hx => Nat.ne_of_gt (L7.out x hx)))
          generalize hW : w7.setCell ⟨w4.heap.size, 1, none⟩ (.slice r7 (List.length os7) (List.length os7)) = w8 at *
          clear hW AR7 S7 g0 g1 g2 g3 k0 k1 k2 k3
          obtain ⟨⟨g0, g1, g2, g3⟩, -⟩ := S8.out.2.1.cells
          obtain ⟨⟨m0, m1, m2, m3⟩, o0, o1, o2, o3⟩ := S8.out.1.room
          go_wp2_with fail
          (try simp only [Exit.inBlock, Exit.then])
          refine bodyPost_ret (results_cell_row rfl _ _ (w.heap.size + 1 + 1) 35 _ (0, 0) _ rfl (S8.out.1.put _ _ _ _).1 Tryd.underlying35 rfl (by kernel_rfl)) rfl ?_
          exact ⟨_, n1, A - C, M, rfl, ⟨_, _, _, _, _, _, os7, ys, rfl, far_arg AR8.out (fun x hx => Nat.ne_of_gt (Nat.lt_trans S8.out.2.2 (L7.out x hx))), V7.out, TS7.out, Q5.out.1.below (S8.out.1.put _ _ _ _).2 (Nat.le_refl _), Q5.out.2.1, Q5.out.2.2.1, fun x hx => by have := L7.out x hx; have := S8.out.2.2; have := HB0.out; omega, Q5.out.2.2.2⟩, SI.out, (S8.out.1.put _ _ _ _).2⟩

theorem ysum_any {B : Nat} {w : World} {vx vy : Value} {n1 n2 : Bool} {V1 V2 e1 e2 : Int} (hx : RN B w vx n1 V1 1 e1) (hy : RN B w vy n2 V2 1 e2) (hB0 : B ≤ w.heap.size) (a1 : V1 < 9007199254740992) (b1 : V2 < 9007199254740992) (f0 : -1100 ≤ e1) (f1 : e1 ≤ 1000) (f2 : -1100 ≤ e2) (f3 : e2 ≤ 1000) :
    Calls Tryd.prog 20 #[vx, vy] w fun r w' => SumTold5 B n1 V1 e1 n2 V2 e2 w r w' := by
  by_cases hz : V1 = 0 ∧ V2 = 0
  · obtain ⟨rfl, rfl⟩ := hz
    exact ysum_none hx hy
  · exact ysum_some hx hy hB0 a1 b1 f0 f1 f2 f3 hz
end Go.Proofs.YtnldfeojookaeaaDoor
