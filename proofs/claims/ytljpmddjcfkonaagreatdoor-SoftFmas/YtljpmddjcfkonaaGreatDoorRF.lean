/-
  Texts put together: YRef7, YRef8, NearEx, YEx, Walk2, Walk3.
-/
import Derived.Test.YtljpmddjcfkonaaGreatDoorRE
import Derived.Test.YtljpmddjcfkonaaGreatDoorRA
import Derived.Test.YtljpmddjcfkonaaGreatDoorRB
import Derived.Test.YtljpmddjcfkonaaGreatDoorINum
import Derived.Test.YtljpmddjcfkonaaGreatDoorWalk2a
namespace Go.Proofs.YtljpmddjcfkonaaGreatDoor
open Go Go.RowKit Go.Deep

theorem Row4.far {w : World} {b t c o : Nat} {v v0 v1 v2 v3 : Value} (h : Row4 w b t v0 v1 v2 v3) (hc : c ≠ b) : Row4 (w.setCell ⟨c, o, none⟩ v) b t v0 v1 v2 v3 := by
  simp only [Row4] at *
  simp only [World.setCell, Array.getElem?_modify]
  rw [if_neg hc]; exact h

theorem set_arg {w : World} {b o : Nat} {v : Value} {p : Option Addr} {n c : Nat} {zs : List Int} (a : Arg w p n c zs) (hp : ∀ x, p = some x → x.block ≠ b) : Arg (w.setCell ⟨b, o, none⟩ v) p n c zs :=
  ⟨a.1, a.2.1, a.2.2.1, a.2.2.2.1.set hp, a.2.2.2.2⟩

/-- The two numbers, the room, and the number that is being made at g. -/
def S4 (w wx : World) (g : Nat) (x0 x1 x2 x3 y0 y1 y2 y3 o0 o1 o2 o3 : Value) : Prop := R3B w wx x0 x1 x2 x3 y0 y1 y2 y3 ∧ Row4 wx g 41 o0 o1 o2 o3 ∧ w.heap.size + 1 + 1 < g
theorem S4.new {w wx : World} {x0 x1 x2 x3 y0 y1 y2 y3 : Value} (h : R3B w wx x0 x1 x2 x3 y0 y1 y2 y3) (o0 o1 o2 o3 : Value) : S4 w (wx.alloc (.cells #[o0, o1, o2, o3] 41)) wx.heap.size x0 x1 x2 x3 y0 y1 y2 y3 o0 o1 o2 o3 := ⟨h.on (alloc_b _ _), Row4.new _ _ _ _ _ _, h.2.2.2.lt⟩
theorem S4.on {w wx wy : World} {g : Nat} {x0 x1 x2 x3 y0 y1 y2 y3 o0 o1 o2 o3 : Value} (h : S4 w wx g x0 x1 x2 x3 y0 y1 y2 y3 o0 o1 o2 o3) (k : Below wx.heap.size wx wy) : S4 w wy g x0 x1 x2 x3 y0 y1 y2 y3 o0 o1 o2 o3 := ⟨h.1.on k, h.2.1.below k h.2.1.lt, h.2.2⟩
theorem S4.lt {w wx : World} {g : Nat} {x0 x1 x2 x3 y0 y1 y2 y3 o0 o1 o2 o3 : Value} (h : S4 w wx g x0 x1 x2 x3 y0 y1 y2 y3 o0 o1 o2 o3) : g + 1 ≤ wx.heap.size := h.2.1.lt
theorem S4.far {w wx : World} {g o : Nat} {v : Value} {x0 x1 x2 x3 y0 y1 y2 y3 o0 o1 o2 o3 : Value} (h : S4 w wx g x0 x1 x2 x3 y0 y1 y2 y3 o0 o1 o2 o3) : R3B w (wx.setCell ⟨g, o, none⟩ v) x0 x1 x2 x3 y0 y1 y2 y3 := by
  have hg := h.2.2
  exact ⟨h.1.1.setCell (p := ⟨g, o, none⟩) (by simp only; omega) v, h.1.2.1.far (by omega), h.1.2.2.1.far (by omega), h.1.2.2.2.far (by omega)⟩
theorem S4.num {w wx : World} {g : Nat} {x0 x1 x2 x3 y0 y1 y2 y3 o0 o1 o2 o3 : Value} (h : S4 w wx g x0 x1 x2 x3 y0 y1 y2 y3 o0 o1 o2 o3) (v : Value) : S4 w (wx.setCell ⟨g, 1, none⟩ v) g x0 x1 x2 x3 y0 y1 y2 y3 o0 v o2 o3 := ⟨h.far, set1 h.2.1 (by simp [Array.setIfInBounds]), h.2.2⟩
theorem S4.sign {w wx : World} {g : Nat} {x0 x1 x2 x3 y0 y1 y2 y3 o0 o1 o2 o3 : Value} (h : S4 w wx g x0 x1 x2 x3 y0 y1 y2 y3 o0 o1 o2 o3) (v : Value) : S4 w (wx.setCell ⟨g, 0, none⟩ v) g x0 x1 x2 x3 y0 y1 y2 y3 v o1 o2 o3 := ⟨h.far, set1 h.2.1 (by simp [Array.setIfInBounds]), h.2.2⟩

theorem lift_lt {V : Int} {k : Nat} (h0 : 0 ≤ V) (h : V < 1298074214633706907132624082305024) (hk : k ≤ 4200) : 0 ≤ V * 2 ^ k ∧ V * 2 ^ k < 2 ^ 4310 := by
  refine ⟨Int.mul_nonneg h0 (Int.le_of_lt (Nm.two_pos k)), ?_⟩
  have h1 : V * 2 ^ k < 1298074214633706907132624082305024 * 2 ^ k := Int.mul_lt_mul_of_pos_right h (Nm.two_pos k)
  have h2 : (1298074214633706907132624082305024 : Int) * 2 ^ k = 2 ^ (110 + k) := by rw [Nm.two_add]; congr 1
  have h3 := Nm.two_mono (show 110 + k ≤ 4310 by omega)
  omega

theorem two_big {x : Int} (h : x < 2 ^ 4310 + 2 ^ 4310) : x < 2 ^ 4400 ∧ x < 2 ^ 5000 := by
  have e : (2 : Int) ^ 4311 = 2 * 2 ^ 4310 := Nm.two_succ 4310
  have h1 := Nm.two_mono (show 4311 ≤ 4400 by omega)
  have h2 := Nm.two_mono (show 4311 ≤ 5000 by omega)
  generalize (2 : Int) ^ 4310 = P at *
  generalize (2 : Int) ^ 4311 = Q at *
  generalize (2 : Int) ^ 4400 = R at *
  generalize (2 : Int) ^ 5000 = S at *
  omega

set_option maxRecDepth 100000 in
set_option maxHeartbeats 16000000 in
theorem ysum_some {B : Nat} {w : World} {vx vy : Value} {n1 n2 : Bool} {V1 V2 e1 e2 : Int} (hx : RN B w vx n1 V1 1 e1) (hy : RN B w vy n2 V2 1 e2) (hB0 : B ≤ w.heap.size) (a1 : V1 < 1298074214633706907132624082305024) (b1 : V2 < 1298074214633706907132624082305024) (f0 : -2200 ≤ e1) (f1 : e1 ≤ 2000) (f2 : -2200 ≤ e2) (f3 : e2 ≤ 2000) (hz : ¬ (V1 = 0 ∧ V2 = 0)) :
    Calls Tryz.prog 20 #[vx, vy] w fun r w' => SumTold5 B n1 V1 e1 n2 V2 e2 w r w' := by
  have HX := hid hx
  have HY := hid hy
  obtain ⟨p, n, c, q, m, d, zs, ys, rfl, h2, h3, h4, h5, h6, h7, h8, h9⟩ := hx
  obtain ⟨p', n', c', q', m', d', zs', ys', rfl, k2, k3, k4, _⟩ := hy
  have Z := hid (R3B.new w (.bool n1) (.slice p n c) (.slice q m d) (.int .i64 e1) (.bool n2) (.slice p' n' c') (.slice q' m' d') (.int .i64 e2))
  have NX := hid (fun wx (b : Below w.heap.size w wx) => ynone_any (HX.out.on b))
  have NY := hid (fun wx (b : Below w.heap.size w wx) => ynone_any (HY.out.on b))
  have Q5 := hid (And.intro h5 (And.intro h6 (And.intro h7 h9)))
  have v0 : 0 ≤ V1 := by rw [← h3]; exact (Nm.val_bd zs h2.2.2.2.2).1
  have w0 : 0 ≤ V2 := by rw [← k3]; exact (Nm.val_bd zs' k2.2.2.2.2).1
  obtain ⟨M, hM⟩ : ∃ M, min e1 e2 = M := ⟨_, rfl⟩
  obtain ⟨i1, hi1⟩ : ∃ k : Nat, (k : Int) = e1 - M := ⟨(e1 - M).toNat, by omega⟩
  obtain ⟨i2, hi2⟩ : ∃ k : Nat, (k : Int) = e2 - M := ⟨(e2 - M).toNat, by omega⟩
  obtain ⟨A, hA⟩ : ∃ A, V1 * 2 ^ i1 = A := ⟨_, rfl⟩
  obtain ⟨C, hC⟩ : ∃ C, V2 * 2 ^ i2 = C := ⟨_, rfl⟩
  have bA := lift_lt v0 a1 (show i1 ≤ 4200 by omega)
  have bC := lift_lt w0 b1 (show i2 ≤ 4200 by omega)
  rw [hA] at bA
  rw [hC] at bC
  have LX : Hid (∀ wx kk, kk = (i1 : Int) → Below w.heap.size w wx → Calls Tryz.prog 25 #[.slice p n c, .int .i64 kk] wx fun e w' => ∃ r os, e = .returned (.slice r (List.length os) (List.length os)) ∧ Ans wx.heap.size w' r os A ∧ Below wx.heap.size wx w') := fun wx kk hk b => by
    have h := lift_any p n c zs kk i1 wx (h2.below b (Nat.le_refl _)) (by omega) hk (by omega)
    rw [h3, hA] at h
    exact h
  have LY : Hid (∀ wx kk, kk = (i2 : Int) → Below w.heap.size w wx → Calls Tryz.prog 25 #[.slice p' n' c', .int .i64 kk] wx fun e w' => ∃ r os, e = .returned (.slice r (List.length os) (List.length os)) ∧ Ans wx.heap.size w' r os C ∧ Below wx.heap.size wx w') := fun wx kk hk b => by
    have h := lift_any p' n' c' zs' kk i2 wx (k2.below b (Nat.le_refl _)) (by omega) hk (by omega)
    rw [k3, hC] at h
    exact h
  have BD : Hid (A < 2 ^ 4400 ∧ C < 2 ^ 4400 ∧ A + C < 2 ^ 4400 ∧ A - C < 2 ^ 4400 ∧ C - A < 2 ^ 4400) := by
    have P := Nm.two_pos 4310
    refine ⟨(two_big ?_).1, (two_big ?_).1, (two_big ?_).1, (two_big ?_).1, (two_big ?_).1⟩ <;> (generalize (2 : Int) ^ 4310 = X at *; omega)
  have at_ : ∀ {neg : Bool} {V : Int}, Ie.sn neg V = Ie.sn n1 A + Ie.sn n2 C → (V = 0 → neg = (n1 && n2)) → 0 ≤ V → V < 2 ^ 4310 + 2 ^ 4310 → Ie.SumIs n1 V1 e1 n2 V2 e2 neg V M := fun h h0 v0 v1 => Ie.sum_at hM hi1 hi2 (by rw [hA, hC]; exact h) h0 v0 (two_big v1).2
  have SP : Hid ((n1 == n2) = true → Ie.SumIs n1 V1 e1 n2 V2 e2 n1 (A + C) M) := fun he => by
    obtain rfl : n1 = n2 := by simpa using he
    refine at_ ?_ (fun _ => by cases n1 <;> rfl) (by omega) (by generalize (2 : Int) ^ 4310 = X at *; omega)
    cases n1 <;> simp only [Ie.sn, Bool.false_eq_true, if_true, if_false] <;> omega
  have SG : Hid ((n1 == n2) = false → C < A → Ie.SumIs n1 V1 e1 n2 V2 e2 n1 (A - C) M) := fun he hl => by
    refine at_ ?_ (fun h => by omega) (by omega) (by generalize (2 : Int) ^ 4310 = X at *; omega)
    cases n1 <;> cases n2 <;> simp only [Ie.sn, Bool.false_eq_true, if_true, if_false] <;> first | (simp at he; done) | omega
  have SL : Hid ((n1 == n2) = false → A < C → Ie.SumIs n1 V1 e1 n2 V2 e2 n2 (C - A) M) := fun he hl => by
    refine at_ ?_ (fun h => by omega) (by omega) (by generalize (2 : Int) ^ 4310 = X at *; omega)
    cases n1 <;> cases n2 <;> simp only [Ie.sn, Bool.false_eq_true, if_true, if_false] <;> first | (simp at he; done) | omega
  have SE : Hid ((n1 == n2) = false → A = C → Ie.SumIs n1 V1 e1 n2 V2 e2 false 0 M) := fun he hl => by
    refine at_ ?_ (fun _ => by cases n1 <;> cases n2 <;> simp at he ⊢) (by omega) (by have := Nm.two_pos 4310; generalize (2 : Int) ^ 4310 = X at *; omega)
    cases n1 <;> cases n2 <;> simp only [Ie.sn, Bool.false_eq_true, if_true, if_false] <;> first | (simp at he; done) | omega
  have HB0 := hid hB0
  have D1 : V1 = 0 → decide (V2 = 0) = false := fun h => decide_eq_false fun k => hz ⟨h, k⟩
  clear h2 h3 h4 h5 h6 h7 h8 h9 k2 k3 k4 v0 w0 a1 b1 hA hC bA bC HX HY hB0 hz at_
  by_cases hz1 : V1 = 0
  · rw [decide_eq_true hz1] at NX
    rw [D1 hz1] at NY
    clear D1 hz1
    by_cases hle : e2 < e1
    · obtain rfl : M = e2 := by omega
      clear hM
      go_enter Tryz.func20, Tryz.ntmps20
      go_upto_region 1 with fail
      generalize (((w.alloc (.cells #[.bool n1, .slice p n c, .slice q m d, .int .i64 e1] 41)).alloc (.cells #[.bool n2, .slice p' n' c', .slice q' m' d', .int .i64 M] 41)).alloc (.cells #[.bool false, .slice none 0 0, .slice none 0 0, .int .i64 0] 41)) = wz at *
      have zb := Z.out.1
      obtain ⟨⟨c0, c1, c2, c3⟩, d0, d1, d2, d3⟩ := Z.out.flat
      go_wp2_with fail
      with_reducible refine (NX.out _ zb).mono ?_
      rintro r w1 ⟨rfl, hB1⟩
      have Z1 := hid (Z.out.on hB1)
      clear zb hB1 Z NX c0 c1 c2 c3 d0 d1 d2 d3
      have z1 := Z1.out.1
      obtain ⟨⟨c0, c1, c2, c3⟩, d0, d1, d2, d3⟩ := Z1.out.flat
      go_wp2_with fail
      with_reducible refine (NY.out _ z1).mono ?_
      rintro r w2 ⟨rfl, hB2⟩
      have Z2 := hid (Z1.out.on hB2)
      clear z1 hB2 Z1 NY c0 c1 c2 c3 d0 d1 d2 d3
      obtain ⟨⟨c0, c1, c2, c3⟩, d0, d1, d2, d3⟩ := Z2.out.flat
      have zb := Z2.out.1
      go_wp2_with fail
      with_reducible refine (LX.out _ _ (by omega) zb).mono ?_
      rintro r w3 ⟨r1, os1, rfl, A1, hB3⟩
      have Z3 := hid (Z2.out.on hB3)
      have z3 := Z3.out.1
      have AA := hid A1
      clear zb hB3 A1 Z2 LX c0 c1 c2 c3 d0 d1 d2 d3
      obtain ⟨⟨c0, c1, c2, c3⟩, d0, d1, d2, d3⟩ := Z3.out.flat
      go_wp2_with fail
      with_reducible refine (LY.out _ _ (by omega) z3).mono ?_
      rintro r w4 ⟨r2, os2, rfl, A2, hB4⟩
      have Z4 := hid (Z3.out.on hB4)
      have TX := hid ((AA.out.below hB4 (Nat.le_refl _)).tl (K := 4400) BD.out.1 (by omega))
      have TY := hid (A2.tl (K := 4400) BD.out.2.1 (by omega))
      have AX := hid ((AA.out.below hB4 (Nat.le_refl _)).arg (by have := TX.out.2.1; omega))
      have AY := hid (A2.arg (by have := TY.out.2.1; omega))
      have VX : Hid (Nm.val os1 = A) := AA.out.2.2.2.1
      have VY : Hid (Nm.val os2 = C) := A2.2.2.2.1
      clear z3 hB4 A2 Z3 LY AA c0 c1 c2 c3 d0 d1 d2 d3
      obtain ⟨⟨c0, c1, c2, c3⟩, d0, d1, d2, d3⟩ := Z4.out.flat
      go_upto_region 9 with fail
      have S5 := hid (S4.new Z4.out (.bool n1) (.slice none 0 0) (.slice q m d) (.int .i64 M))
      have B5 := hid (alloc_b w4 (.cells #[.bool n1, .slice none 0 0, .slice q m d, .int .i64 M] 41))
      generalize hW : w4.alloc (.cells #[.bool n1, .slice none 0 0, .slice q m d, .int .i64 M] 41) = w5 at *
      clear hW c0 c1 c2 c3 d0 d1 d2 d3 Z4
      have CM := hid (refCmp_any r1 r2 _ _ _ _ os1 os2 w5 (AX.out.below B5.out (Nat.le_refl _)) (AY.out.below B5.out (Nat.le_refl _)))
      rw [VX.out, VY.out] at CM
      obtain ⟨⟨c0, c1, c2, c3⟩, d0, d1, d2, d3⟩ := S5.out.1.flat
      obtain ⟨s, hs⟩ : ∃ s, cmpI A C = s := ⟨_, rfl⟩
      rw [hs] at CM
      have HSS := hid hs
      clear hs
      go_wp2_with fail
      with_reducible refine CM.out.mono ?_
      rintro r w6 ⟨rfl, hB6⟩
      have S6 := hid (S5.out.on hB6)
      have B6 := hid (bel B5.out hB6)
      clear hB6 S5 B5 CM c0 c1 c2 c3 d0 d1 d2 d3
      obtain ⟨⟨c0, c1, c2, c3⟩, d0, d1, d2, d3⟩ := S6.out.1.flat
      cases he : (n1 == n2) with
      | true =>
        have SI := hid (SP.out he)
        have PL := hid (plus_any r1 r2 _ _ _ _ os1 os2 w6 (AX.out.below B6.out (Nat.le_refl _)) (AY.out.below B6.out (Nat.le_refl _)) (by have := TX.out.1; omega) (by have := TY.out.1; omega))
        rw [VX.out, VY.out] at PL
        clear SP SG SL SE HSS AX AY VX VY TX TY
        go_wp2_with fail
        with_reducible refine PL.out.mono ?_
        rintro r w7 ⟨r7, os7, rfl, A7, hB7⟩
        clear PL
        have S7 := hid (S6.out.on hB7)
        have AR7 := hid (A7.arg (by have := (A7.tl (K := 4400) (BD.out.2.2.1) (by omega)).2.1; omega))
        have TS7 := hid (A7.tl (K := 4400) (BD.out.2.2.1) (by omega)).1
        have V7 := hid A7.2.2.2.1
        have L7 := hid (fun x hx => Nat.le_trans S6.out.lt (A7.2.2.2.2 x hx))
        clear A7 hB7 S6 c0 c1 c2 c3 d0 d1 d2 d3
        obtain ⟨⟨g0, g1, g2, g3⟩, k0, k1, k2, k3⟩ := S7.out.2.1.cells
        go_upto_region 18 with fail
        have S8 := hid (S7.out.num (.slice r7 (List.length os7) (List.length os7)))
        have AR8 := hid (set_arg (o := 1) (v := .slice r7 (List.length os7) (List.length os7)) AR7.out (fun x hx => Nat.ne_of_gt (L7.out x hx)))
        generalize hW : w7.setCell ⟨w4.heap.size, 1, none⟩ (.slice r7 (List.length os7) (List.length os7)) = w8 at *
        clear hW AR7 S7 g0 g1 g2 g3 k0 k1 k2 k3
        obtain ⟨⟨g0, g1, g2, g3⟩, -⟩ := S8.out.2.1.cells
        obtain ⟨⟨m0, m1, m2, m3⟩, o0, o1, o2, o3⟩ := S8.out.1.room
        go_wp2_with fail
        (try simp only [Exit.inBlock, Exit.then])
        refine bodyPost_ret (results_cell_row rfl _ _ (w.heap.size + 1 + 1) 41 _ (0, 0) _ rfl (S8.out.1.put _ _ _ _).1 Tryz.underlying41 rfl (by kernel_rfl)) rfl ?_
        exact ⟨_, n1, A + C, M, rfl, ⟨_, _, _, _, _, _, os7, ys, rfl, far_arg AR8.out (fun x hx => Nat.ne_of_gt (Nat.lt_trans S8.out.2.2 (L7.out x hx))), V7.out, TS7.out, Q5.out.1.below (S8.out.1.put _ _ _ _).2 (Nat.le_refl _), Q5.out.2.1, Q5.out.2.2.1, fun x hx => by have := L7.out x hx; have := S8.out.2.2; have := HB0.out; omega, Q5.out.2.2.2⟩, SI.out, (S8.out.1.put _ _ _ _).2⟩
      | false =>
        rcases Int.lt_trichotomy A C with hl | hl | hl
        · have SI := hid (SL.out he hl)
          have s1 : s = -1 := by rw [← HSS.out]; unfold cmpI; rw [if_pos hl]
          subst s1
          obtain ⟨⟨g0, g1, g2, g3⟩, k0, k1, k2, k3⟩ := S6.out.2.1.cells
          have LE : Hid (A ≤ C) := Int.le_of_lt hl
          clear SP SG SL SE HSS hl
          go_upto_region 11 with fail
          have SX := hid (S6.out.sign (.bool n2))
          have BX := hid (B6.out.setCell (p := ⟨w4.heap.size, 0, none⟩) (Nat.le_refl _) (.bool n2))
          generalize hW : w6.setCell ⟨w4.heap.size, 0, none⟩ (.bool n2) = w66 at *
          clear hW g0 g1 g2 g3 k0 k1 k2 k3 c0 c1 c2 c3 d0 d1 d2 d3 S6 B6
          have LS := hid (less_any r2 r1 _ _ _ _ os2 os1 w66 (AY.out.below BX.out (Nat.le_refl _)) (AX.out.below BX.out (Nat.le_refl _)) (by have := TY.out.1; omega) (by rw [VX.out, VY.out]; exact LE.out))
          rw [VX.out, VY.out] at LS
          clear AX AY VX VY TX TY LE
          obtain ⟨⟨c0, c1, c2, c3⟩, d0, d1, d2, d3⟩ := SX.out.1.flat
          go_wp2_with fail
          with_reducible refine LS.out.mono ?_
          rintro r w7 ⟨r7, os7, rfl, A7, hB7⟩
          clear LS
          have S7 := hid (SX.out.on hB7)
          have AR7 := hid (A7.arg (by have := (A7.tl (K := 4400) (BD.out.2.2.2.2) (by omega)).2.1; omega))
          have TS7 := hid (A7.tl (K := 4400) (BD.out.2.2.2.2) (by omega)).1
          have V7 := hid A7.2.2.2.1
          have L7 := hid (fun x hx => Nat.le_trans SX.out.lt (A7.2.2.2.2 x hx))
          clear A7 hB7 SX c0 c1 c2 c3 d0 d1 d2 d3
          obtain ⟨⟨g0, g1, g2, g3⟩, k0, k1, k2, k3⟩ := S7.out.2.1.cells
          go_upto_region 18 with fail
          have S8 := hid (S7.out.num (.slice r7 (List.length os7) (List.length os7)))
          have AR8 := hid (set_arg (o := 1) (v := .slice r7 (List.length os7) (List.length os7)) AR7.out (fun x hx => Nat.ne_of_gt (L7.out x hx)))
          generalize hW : w7.setCell ⟨w4.heap.size, 1, none⟩ (.slice r7 (List.length os7) (List.length os7)) = w8 at *
          clear hW AR7 S7 g0 g1 g2 g3 k0 k1 k2 k3
          obtain ⟨⟨g0, g1, g2, g3⟩, -⟩ := S8.out.2.1.cells
          obtain ⟨⟨m0, m1, m2, m3⟩, o0, o1, o2, o3⟩ := S8.out.1.room
          go_wp2_with fail
          (try simp only [Exit.inBlock, Exit.then])
          refine bodyPost_ret (results_cell_row rfl _ _ (w.heap.size + 1 + 1) 41 _ (0, 0) _ rfl (S8.out.1.put _ _ _ _).1 Tryz.underlying41 rfl (by kernel_rfl)) rfl ?_
          exact ⟨_, n2, C - A, M, rfl, ⟨_, _, _, _, _, _, os7, ys, rfl, far_arg AR8.out (fun x hx => Nat.ne_of_gt (Nat.lt_trans S8.out.2.2 (L7.out x hx))), V7.out, TS7.out, Q5.out.1.below (S8.out.1.put _ _ _ _).2 (Nat.le_refl _), Q5.out.2.1, Q5.out.2.2.1, fun x hx => by have := L7.out x hx; have := S8.out.2.2; have := HB0.out; omega, Q5.out.2.2.2⟩, SI.out, (S8.out.1.put _ _ _ _).2⟩
        · have SI := hid (SE.out he hl)
          have s1 : s = 0 := by rw [← HSS.out, hl]; unfold cmpI; rw [if_neg (by omega), if_pos rfl]
          subst s1
          obtain ⟨⟨g0, g1, g2, g3⟩, k0, k1, k2, k3⟩ := S6.out.2.1.cells
          clear SP SG SL SE HSS hl AX AY VX VY TX TY B6
          go_upto_region 18 with fail
          have S8 := hid (S6.out.sign (.bool false))
          generalize hW : w6.setCell ⟨w4.heap.size, 0, none⟩ (.bool false) = w8 at *
          clear hW g0 g1 g2 g3 k0 k1 k2 k3 c0 c1 c2 c3 d0 d1 d2 d3 S6
          obtain ⟨⟨g0, g1, g2, g3⟩, -⟩ := S8.out.2.1.cells
          obtain ⟨⟨m0, m1, m2, m3⟩, o0, o1, o2, o3⟩ := S8.out.1.room
          go_wp2_with fail
          (try simp only [Exit.inBlock, Exit.then])
          refine bodyPost_ret (results_cell_row rfl _ _ (w.heap.size + 1 + 1) 41 _ (0, 0) _ rfl (S8.out.1.put _ _ _ _).1 Tryz.underlying41 rfl (by kernel_rfl)) rfl ?_
          exact ⟨_, false, 0, M, rfl, ⟨_, _, _, _, _, _, [], ys, rfl, nil_arg _, rfl, by simp [Nm.tsize], Q5.out.1.below (S8.out.1.put _ _ _ _).2 (Nat.le_refl _), Q5.out.2.1, Q5.out.2.2.1, none_far B, Q5.out.2.2.2⟩, SI.out, (S8.out.1.put _ _ _ _).2⟩
        · have SI := hid (SG.out he hl)
          have s1 : s = 1 := by rw [← HSS.out]; unfold cmpI; rw [if_neg (by omega), if_neg (by omega)]
          subst s1
          have LS := hid (less_any r1 r2 _ _ _ _ os1 os2 w6 (AX.out.below B6.out (Nat.le_refl _)) (AY.out.below B6.out (Nat.le_refl _)) (by have := TX.out.1; omega) (by rw [VX.out, VY.out]; omega))
          rw [VX.out, VY.out] at LS
          clear SP SG SL SE HSS hl AX AY VX VY TX TY
          go_wp2_with fail
          with_reducible refine LS.out.mono ?_
          rintro r w7 ⟨r7, os7, rfl, A7, hB7⟩
          clear LS
          have S7 := hid (S6.out.on hB7)
          have AR7 := hid (A7.arg (by have := (A7.tl (K := 4400) (BD.out.2.2.2.1) (by omega)).2.1; omega))
          have TS7 := hid (A7.tl (K := 4400) (BD.out.2.2.2.1) (by omega)).1
          have V7 := hid A7.2.2.2.1
          have L7 := hid (fun x hx => Nat.le_trans S6.out.lt (A7.2.2.2.2 x hx))
          clear A7 hB7 S6 c0 c1 c2 c3 d0 d1 d2 d3
          obtain ⟨⟨g0, g1, g2, g3⟩, k0, k1, k2, k3⟩ := S7.out.2.1.cells
          go_upto_region 18 with fail
          have S8 := hid (S7.out.num (.slice r7 (List.length os7) (List.length os7)))
          have AR8 := hid (set_arg (o := 1) (v := .slice r7 (List.length os7) (List.length os7)) AR7.out (fun x hx => Nat.ne_of_gt (L7.out x hx)))
          generalize hW : w7.setCell ⟨w4.heap.size, 1, none⟩ (.slice r7 (List.length os7) (List.length os7)) = w8 at *
          clear hW AR7 S7 g0 g1 g2 g3 k0 k1 k2 k3
          obtain ⟨⟨g0, g1, g2, g3⟩, -⟩ := S8.out.2.1.cells
          obtain ⟨⟨m0, m1, m2, m3⟩, o0, o1, o2, o3⟩ := S8.out.1.room
          go_wp2_with fail
          (try simp only [Exit.inBlock, Exit.then])
          refine bodyPost_ret (results_cell_row rfl _ _ (w.heap.size + 1 + 1) 41 _ (0, 0) _ rfl (S8.out.1.put _ _ _ _).1 Tryz.underlying41 rfl (by kernel_rfl)) rfl ?_
          exact ⟨_, n1, A - C, M, rfl, ⟨_, _, _, _, _, _, os7, ys, rfl, far_arg AR8.out (fun x hx => Nat.ne_of_gt (Nat.lt_trans S8.out.2.2 (L7.out x hx))), V7.out, TS7.out, Q5.out.1.below (S8.out.1.put _ _ _ _).2 (Nat.le_refl _), Q5.out.2.1, Q5.out.2.2.1, fun x hx => by have := L7.out x hx; have := S8.out.2.2; have := HB0.out; omega, Q5.out.2.2.2⟩, SI.out, (S8.out.1.put _ _ _ _).2⟩
    · obtain rfl : M = e1 := by omega
      clear hM
      go_enter Tryz.func20, Tryz.ntmps20
      go_upto_region 1 with fail
      generalize (((w.alloc (.cells #[.bool n1, .slice p n c, .slice q m d, .int .i64 M] 41)).alloc (.cells #[.bool n2, .slice p' n' c', .slice q' m' d', .int .i64 e2] 41)).alloc (.cells #[.bool false, .slice none 0 0, .slice none 0 0, .int .i64 0] 41)) = wz at *
      have zb := Z.out.1
      obtain ⟨⟨c0, c1, c2, c3⟩, d0, d1, d2, d3⟩ := Z.out.flat
      go_wp2_with fail
      with_reducible refine (NX.out _ zb).mono ?_
      rintro r w1 ⟨rfl, hB1⟩
      have Z1 := hid (Z.out.on hB1)
      clear zb hB1 Z NX c0 c1 c2 c3 d0 d1 d2 d3
      have z1 := Z1.out.1
      obtain ⟨⟨c0, c1, c2, c3⟩, d0, d1, d2, d3⟩ := Z1.out.flat
      go_wp2_with fail
      with_reducible refine (NY.out _ z1).mono ?_
      rintro r w2 ⟨rfl, hB2⟩
      have Z2 := hid (Z1.out.on hB2)
      clear z1 hB2 Z1 NY c0 c1 c2 c3 d0 d1 d2 d3
      obtain ⟨⟨c0, c1, c2, c3⟩, d0, d1, d2, d3⟩ := Z2.out.flat
      have zb := Z2.out.1
      go_wp2_with fail
      with_reducible refine (LX.out _ _ (by omega) zb).mono ?_
      rintro r w3 ⟨r1, os1, rfl, A1, hB3⟩
      have Z3 := hid (Z2.out.on hB3)
      have z3 := Z3.out.1
      have AA := hid A1
      clear zb hB3 A1 Z2 LX c0 c1 c2 c3 d0 d1 d2 d3
      obtain ⟨⟨c0, c1, c2, c3⟩, d0, d1, d2, d3⟩ := Z3.out.flat
      go_wp2_with fail
      with_reducible refine (LY.out _ _ (by omega) z3).mono ?_
      rintro r w4 ⟨r2, os2, rfl, A2, hB4⟩
      have Z4 := hid (Z3.out.on hB4)
      have TX := hid ((AA.out.below hB4 (Nat.le_refl _)).tl (K := 4400) BD.out.1 (by omega))
      have TY := hid (A2.tl (K := 4400) BD.out.2.1 (by omega))
      have AX := hid ((AA.out.below hB4 (Nat.le_refl _)).arg (by have := TX.out.2.1; omega))
      have AY := hid (A2.arg (by have := TY.out.2.1; omega))
      have VX : Hid (Nm.val os1 = A) := AA.out.2.2.2.1
      have VY : Hid (Nm.val os2 = C) := A2.2.2.2.1
      clear z3 hB4 A2 Z3 LY AA c0 c1 c2 c3 d0 d1 d2 d3
      obtain ⟨⟨c0, c1, c2, c3⟩, d0, d1, d2, d3⟩ := Z4.out.flat
      go_upto_region 9 with fail
      have S5 := hid (S4.new Z4.out (.bool n1) (.slice none 0 0) (.slice q m d) (.int .i64 M))
      have B5 := hid (alloc_b w4 (.cells #[.bool n1, .slice none 0 0, .slice q m d, .int .i64 M] 41))
      generalize hW : w4.alloc (.cells #[.bool n1, .slice none 0 0, .slice q m d, .int .i64 M] 41) = w5 at *
      clear hW c0 c1 c2 c3 d0 d1 d2 d3 Z4
      have CM := hid (refCmp_any r1 r2 _ _ _ _ os1 os2 w5 (AX.out.below B5.out (Nat.le_refl _)) (AY.out.below B5.out (Nat.le_refl _)))
      rw [VX.out, VY.out] at CM
      obtain ⟨⟨c0, c1, c2, c3⟩, d0, d1, d2, d3⟩ := S5.out.1.flat
      obtain ⟨s, hs⟩ : ∃ s, cmpI A C = s := ⟨_, rfl⟩
      rw [hs] at CM
      have HSS := hid hs
      clear hs
      go_wp2_with fail
      with_reducible refine CM.out.mono ?_
      rintro r w6 ⟨rfl, hB6⟩
      have S6 := hid (S5.out.on hB6)
      have B6 := hid (bel B5.out hB6)
      clear hB6 S5 B5 CM c0 c1 c2 c3 d0 d1 d2 d3
      obtain ⟨⟨c0, c1, c2, c3⟩, d0, d1, d2, d3⟩ := S6.out.1.flat
      cases he : (n1 == n2) with
      | true =>
        have SI := hid (SP.out he)
        have PL := hid (plus_any r1 r2 _ _ _ _ os1 os2 w6 (AX.out.below B6.out (Nat.le_refl _)) (AY.out.below B6.out (Nat.le_refl _)) (by have := TX.out.1; omega) (by have := TY.out.1; omega))
        rw [VX.out, VY.out] at PL
        clear SP SG SL SE HSS AX AY VX VY TX TY
        go_wp2_with fail
        with_reducible refine PL.out.mono ?_
        rintro r w7 ⟨r7, os7, rfl, A7, hB7⟩
        clear PL
        have S7 := hid (S6.out.on hB7)
        have AR7 := hid (A7.arg (by have := (A7.tl (K := 4400) (BD.out.2.2.1) (by omega)).2.1; omega))
        have TS7 := hid (A7.tl (K := 4400) (BD.out.2.2.1) (by omega)).1
        have V7 := hid A7.2.2.2.1
        have L7 := hid (fun x hx => Nat.le_trans S6.out.lt (A7.2.2.2.2 x hx))
        clear A7 hB7 S6 c0 c1 c2 c3 d0 d1 d2 d3
        obtain ⟨⟨g0, g1, g2, g3⟩, k0, k1, k2, k3⟩ := S7.out.2.1.cells
        go_upto_region 18 with fail
        have S8 := hid (S7.out.num (.slice r7 (List.length os7) (List.length os7)))
        have AR8 := hid (set_arg (o := 1) (v := .slice r7 (List.length os7) (List.length os7)) AR7.out (fun x hx => Nat.ne_of_gt (L7.out x hx)))
        generalize hW : w7.setCell ⟨w4.heap.size, 1, none⟩ (.slice r7 (List.length os7) (List.length os7)) = w8 at *
        clear hW AR7 S7 g0 g1 g2 g3 k0 k1 k2 k3
        obtain ⟨⟨g0, g1, g2, g3⟩, -⟩ := S8.out.2.1.cells
        obtain ⟨⟨m0, m1, m2, m3⟩, o0, o1, o2, o3⟩ := S8.out.1.room
        go_wp2_with fail
        (try simp only [Exit.inBlock, Exit.then])
        refine bodyPost_ret (results_cell_row rfl _ _ (w.heap.size + 1 + 1) 41 _ (0, 0) _ rfl (S8.out.1.put _ _ _ _).1 Tryz.underlying41 rfl (by kernel_rfl)) rfl ?_
        exact ⟨_, n1, A + C, M, rfl, ⟨_, _, _, _, _, _, os7, ys, rfl, far_arg AR8.out (fun x hx => Nat.ne_of_gt (Nat.lt_trans S8.out.2.2 (L7.out x hx))), V7.out, TS7.out, Q5.out.1.below (S8.out.1.put _ _ _ _).2 (Nat.le_refl _), Q5.out.2.1, Q5.out.2.2.1, fun x hx => by have := L7.out x hx; have := S8.out.2.2; have := HB0.out; omega, Q5.out.2.2.2⟩, SI.out, (S8.out.1.put _ _ _ _).2⟩
      | false =>
        rcases Int.lt_trichotomy A C with hl | hl | hl
        · have SI := hid (SL.out he hl)
          have s1 : s = -1 := by rw [← HSS.out]; unfold cmpI; rw [if_pos hl]
          subst s1
          obtain ⟨⟨g0, g1, g2, g3⟩, k0, k1, k2, k3⟩ := S6.out.2.1.cells
          have LE : Hid (A ≤ C) := Int.le_of_lt hl
          clear SP SG SL SE HSS hl
          go_upto_region 11 with fail
          have SX := hid (S6.out.sign (.bool n2))
          have BX := hid (B6.out.setCell (p := ⟨w4.heap.size, 0, none⟩) (Nat.le_refl _) (.bool n2))
          generalize hW : w6.setCell ⟨w4.heap.size, 0, none⟩ (.bool n2) = w66 at *
          clear hW g0 g1 g2 g3 k0 k1 k2 k3 c0 c1 c2 c3 d0 d1 d2 d3 S6 B6
          have LS := hid (less_any r2 r1 _ _ _ _ os2 os1 w66 (AY.out.below BX.out (Nat.le_refl _)) (AX.out.below BX.out (Nat.le_refl _)) (by have := TY.out.1; omega) (by rw [VX.out, VY.out]; exact LE.out))
          rw [VX.out, VY.out] at LS
          clear AX AY VX VY TX TY LE
          obtain ⟨⟨c0, c1, c2, c3⟩, d0, d1, d2, d3⟩ := SX.out.1.flat
          go_wp2_with fail
          with_reducible refine LS.out.mono ?_
          rintro r w7 ⟨r7, os7, rfl, A7, hB7⟩
          clear LS
          have S7 := hid (SX.out.on hB7)
          have AR7 := hid (A7.arg (by have := (A7.tl (K := 4400) (BD.out.2.2.2.2) (by omega)).2.1; omega))
          have TS7 := hid (A7.tl (K := 4400) (BD.out.2.2.2.2) (by omega)).1
          have V7 := hid A7.2.2.2.1
          have L7 := hid (fun x hx => Nat.le_trans SX.out.lt (A7.2.2.2.2 x hx))
          clear A7 hB7 SX c0 c1 c2 c3 d0 d1 d2 d3
          obtain ⟨⟨g0, g1, g2, g3⟩, k0, k1, k2, k3⟩ := S7.out.2.1.cells
          go_upto_region 18 with fail
          have S8 := hid (S7.out.num (.slice r7 (List.length os7) (List.length os7)))
          have AR8 := hid (set_arg (o := 1) (v := .slice r7 (List.length os7) (List.length os7)) AR7.out (fun x hx => Nat.ne_of_gt (L7.out x hx)))
          generalize hW : w7.setCell ⟨w4.heap.size, 1, none⟩ (.slice r7 (List.length os7) (List.length os7)) = w8 at *
          clear hW AR7 S7 g0 g1 g2 g3 k0 k1 k2 k3
          obtain ⟨⟨g0, g1, g2, g3⟩, -⟩ := S8.out.2.1.cells
          obtain ⟨⟨m0, m1, m2, m3⟩, o0, o1, o2, o3⟩ := S8.out.1.room
          go_wp2_with fail
          (try simp only [Exit.inBlock, Exit.then])
          refine bodyPost_ret (results_cell_row rfl _ _ (w.heap.size + 1 + 1) 41 _ (0, 0) _ rfl (S8.out.1.put _ _ _ _).1 Tryz.underlying41 rfl (by kernel_rfl)) rfl ?_
          exact ⟨_, n2, C - A, M, rfl, ⟨_, _, _, _, _, _, os7, ys, rfl, far_arg AR8.out (fun x hx => Nat.ne_of_gt (Nat.lt_trans S8.out.2.2 (L7.out x hx))), V7.out, TS7.out, Q5.out.1.below (S8.out.1.put _ _ _ _).2 (Nat.le_refl _), Q5.out.2.1, Q5.out.2.2.1, fun x hx => by have := L7.out x hx; have := S8.out.2.2; have := HB0.out; omega, Q5.out.2.2.2⟩, SI.out, (S8.out.1.put _ _ _ _).2⟩
        · have SI := hid (SE.out he hl)
          have s1 : s = 0 := by rw [← HSS.out, hl]; unfold cmpI; rw [if_neg (by omega), if_pos rfl]
          subst s1
          obtain ⟨⟨g0, g1, g2, g3⟩, k0, k1, k2, k3⟩ := S6.out.2.1.cells
          clear SP SG SL SE HSS hl AX AY VX VY TX TY B6
          go_upto_region 18 with fail
          have S8 := hid (S6.out.sign (.bool false))
          generalize hW : w6.setCell ⟨w4.heap.size, 0, none⟩ (.bool false) = w8 at *
          clear hW g0 g1 g2 g3 k0 k1 k2 k3 c0 c1 c2 c3 d0 d1 d2 d3 S6
          obtain ⟨⟨g0, g1, g2, g3⟩, -⟩ := S8.out.2.1.cells
          obtain ⟨⟨m0, m1, m2, m3⟩, o0, o1, o2, o3⟩ := S8.out.1.room
          go_wp2_with fail
          (try simp only [Exit.inBlock, Exit.then])
          refine bodyPost_ret (results_cell_row rfl _ _ (w.heap.size + 1 + 1) 41 _ (0, 0) _ rfl (S8.out.1.put _ _ _ _).1 Tryz.underlying41 rfl (by kernel_rfl)) rfl ?_
          exact ⟨_, false, 0, M, rfl, ⟨_, _, _, _, _, _, [], ys, rfl, nil_arg _, rfl, by simp [Nm.tsize], Q5.out.1.below (S8.out.1.put _ _ _ _).2 (Nat.le_refl _), Q5.out.2.1, Q5.out.2.2.1, none_far B, Q5.out.2.2.2⟩, SI.out, (S8.out.1.put _ _ _ _).2⟩
        · have SI := hid (SG.out he hl)
          have s1 : s = 1 := by rw [← HSS.out]; unfold cmpI; rw [if_neg (by omega), if_neg (by omega)]
          subst s1
          have LS := hid (less_any r1 r2 _ _ _ _ os1 os2 w6 (AX.out.below B6.out (Nat.le_refl _)) (AY.out.below B6.out (Nat.le_refl _)) (by have := TX.out.1; omega) (by rw [VX.out, VY.out]; omega))
          rw [VX.out, VY.out] at LS
          clear SP SG SL SE HSS hl AX AY VX VY TX TY
          go_wp2_with fail
          with_reducible refine LS.out.mono ?_
          rintro r w7 ⟨r7, os7, rfl, A7, hB7⟩
          clear LS
          have S7 := hid (S6.out.on hB7)
          have AR7 := hid (A7.arg (by have := (A7.tl (K := 4400) (BD.out.2.2.2.1) (by omega)).2.1; omega))
          have TS7 := hid (A7.tl (K := 4400) (BD.out.2.2.2.1) (by omega)).1
          have V7 := hid A7.2.2.2.1
          have L7 := hid (fun x hx => Nat.le_trans S6.out.lt (A7.2.2.2.2 x hx))
          clear A7 hB7 S6 c0 c1 c2 c3 d0 d1 d2 d3
          obtain ⟨⟨g0, g1, g2, g3⟩, k0, k1, k2, k3⟩ := S7.out.2.1.cells
          go_upto_region 18 with fail
          have S8 := hid (S7.out.num (.slice r7 (List.length os7) (List.length os7)))
          have AR8 := hid (set_arg (o := 1) (v := .slice r7 (List.length os7) (List.length os7)) AR7.out (fun x hx => Nat.ne_of_gt (L7.out x hx)))
          generalize hW : w7.setCell ⟨w4.heap.size, 1, none⟩ (.slice r7 (List.length os7) (List.length os7)) = w8 at *
          clear hW AR7 S7 g0 g1 g2 g3 k0 k1 k2 k3
          obtain ⟨⟨g0, g1, g2, g3⟩, -⟩ := S8.out.2.1.cells
          obtain ⟨⟨m0, m1, m2, m3⟩, o0, o1, o2, o3⟩ := S8.out.1.room
          go_wp2_with fail
          (try simp only [Exit.inBlock, Exit.then])
          refine bodyPost_ret (results_cell_row rfl _ _ (w.heap.size + 1 + 1) 41 _ (0, 0) _ rfl (S8.out.1.put _ _ _ _).1 Tryz.underlying41 rfl (by kernel_rfl)) rfl ?_
          exact ⟨_, n1, A - C, M, rfl, ⟨_, _, _, _, _, _, os7, ys, rfl, far_arg AR8.out (fun x hx => Nat.ne_of_gt (Nat.lt_trans S8.out.2.2 (L7.out x hx))), V7.out, TS7.out, Q5.out.1.below (S8.out.1.put _ _ _ _).2 (Nat.le_refl _), Q5.out.2.1, Q5.out.2.2.1, fun x hx => by have := L7.out x hx; have := S8.out.2.2; have := HB0.out; omega, Q5.out.2.2.2⟩, SI.out, (S8.out.1.put _ _ _ _).2⟩
  · rw [decide_eq_false hz1] at NX
    clear D1 hz1 NY
    by_cases hle : e2 < e1
    · obtain rfl : M = e2 := by omega
      clear hM
      go_enter Tryz.func20, Tryz.ntmps20
      go_upto_region 1 with fail
      generalize (((w.alloc (.cells #[.bool n1, .slice p n c, .slice q m d, .int .i64 e1] 41)).alloc (.cells #[.bool n2, .slice p' n' c', .slice q' m' d', .int .i64 M] 41)).alloc (.cells #[.bool false, .slice none 0 0, .slice none 0 0, .int .i64 0] 41)) = wz at *
      have zb := Z.out.1
      obtain ⟨⟨c0, c1, c2, c3⟩, d0, d1, d2, d3⟩ := Z.out.flat
      go_wp2_with fail
      with_reducible refine (NX.out _ zb).mono ?_
      rintro r w1 ⟨rfl, hB1⟩
      have Z1 := hid (Z.out.on hB1)
      clear zb hB1 Z NX c0 c1 c2 c3 d0 d1 d2 d3
      have Z2 := hid Z1.out
      clear Z1
      obtain ⟨⟨c0, c1, c2, c3⟩, d0, d1, d2, d3⟩ := Z2.out.flat
      have zb := Z2.out.1
      go_wp2_with fail
      with_reducible refine (LX.out _ _ (by omega) zb).mono ?_
      rintro r w3 ⟨r1, os1, rfl, A1, hB3⟩
      have Z3 := hid (Z2.out.on hB3)
      have z3 := Z3.out.1
      have AA := hid A1
      clear zb hB3 A1 Z2 LX c0 c1 c2 c3 d0 d1 d2 d3
      obtain ⟨⟨c0, c1, c2, c3⟩, d0, d1, d2, d3⟩ := Z3.out.flat
      go_wp2_with fail
      with_reducible refine (LY.out _ _ (by omega) z3).mono ?_
      rintro r w4 ⟨r2, os2, rfl, A2, hB4⟩
      have Z4 := hid (Z3.out.on hB4)
      have TX := hid ((AA.out.below hB4 (Nat.le_refl _)).tl (K := 4400) BD.out.1 (by omega))
      have TY := hid (A2.tl (K := 4400) BD.out.2.1 (by omega))
      have AX := hid ((AA.out.below hB4 (Nat.le_refl _)).arg (by have := TX.out.2.1; omega))
      have AY := hid (A2.arg (by have := TY.out.2.1; omega))
      have VX : Hid (Nm.val os1 = A) := AA.out.2.2.2.1
      have VY : Hid (Nm.val os2 = C) := A2.2.2.2.1
      clear z3 hB4 A2 Z3 LY AA c0 c1 c2 c3 d0 d1 d2 d3
      obtain ⟨⟨c0, c1, c2, c3⟩, d0, d1, d2, d3⟩ := Z4.out.flat
      go_upto_region 9 with fail
      have S5 := hid (S4.new Z4.out (.bool n1) (.slice none 0 0) (.slice q m d) (.int .i64 M))
      have B5 := hid (alloc_b w4 (.cells #[.bool n1, .slice none 0 0, .slice q m d, .int .i64 M] 41))
      generalize hW : w4.alloc (.cells #[.bool n1, .slice none 0 0, .slice q m d, .int .i64 M] 41) = w5 at *
      clear hW c0 c1 c2 c3 d0 d1 d2 d3 Z4
      have CM := hid (refCmp_any r1 r2 _ _ _ _ os1 os2 w5 (AX.out.below B5.out (Nat.le_refl _)) (AY.out.below B5.out (Nat.le_refl _)))
      rw [VX.out, VY.out] at CM
      obtain ⟨⟨c0, c1, c2, c3⟩, d0, d1, d2, d3⟩ := S5.out.1.flat
      obtain ⟨s, hs⟩ : ∃ s, cmpI A C = s := ⟨_, rfl⟩
      rw [hs] at CM
      have HSS := hid hs
      clear hs
      go_wp2_with fail
      with_reducible refine CM.out.mono ?_
      rintro r w6 ⟨rfl, hB6⟩
      have S6 := hid (S5.out.on hB6)
      have B6 := hid (bel B5.out hB6)
      clear hB6 S5 B5 CM c0 c1 c2 c3 d0 d1 d2 d3
      obtain ⟨⟨c0, c1, c2, c3⟩, d0, d1, d2, d3⟩ := S6.out.1.flat
      cases he : (n1 == n2) with
      | true =>
        have SI := hid (SP.out he)
        have PL := hid (plus_any r1 r2 _ _ _ _ os1 os2 w6 (AX.out.below B6.out (Nat.le_refl _)) (AY.out.below B6.out (Nat.le_refl _)) (by have := TX.out.1; omega) (by have := TY.out.1; omega))
        rw [VX.out, VY.out] at PL
        clear SP SG SL SE HSS AX AY VX VY TX TY
        go_wp2_with fail
        with_reducible refine PL.out.mono ?_
        rintro r w7 ⟨r7, os7, rfl, A7, hB7⟩
        clear PL
        have S7 := hid (S6.out.on hB7)
        have AR7 := hid (A7.arg (by have := (A7.tl (K := 4400) (BD.out.2.2.1) (by omega)).2.1; omega))
        have TS7 := hid (A7.tl (K := 4400) (BD.out.2.2.1) (by omega)).1
        have V7 := hid A7.2.2.2.1
        have L7 := hid (fun x hx => Nat.le_trans S6.out.lt (A7.2.2.2.2 x hx))
        clear A7 hB7 S6 c0 c1 c2 c3 d0 d1 d2 d3
        obtain ⟨⟨g0, g1, g2, g3⟩, k0, k1, k2, k3⟩ := S7.out.2.1.cells
        go_upto_region 18 with fail
        have S8 := hid (S7.out.num (.slice r7 (List.length os7) (List.length os7)))
        have AR8 := hid (set_arg (o := 1) (v := .slice r7 (List.length os7) (List.length os7)) AR7.out (fun x hx => Nat.ne_of_gt (L7.out x hx)))
        generalize hW : w7.setCell ⟨w4.heap.size, 1, none⟩ (.slice r7 (List.length os7) (List.length os7)) = w8 at *
        clear hW AR7 S7 g0 g1 g2 g3 k0 k1 k2 k3
        obtain ⟨⟨g0, g1, g2, g3⟩, -⟩ := S8.out.2.1.cells
        obtain ⟨⟨m0, m1, m2, m3⟩, o0, o1, o2, o3⟩ := S8.out.1.room
        go_wp2_with fail
        (try simp only [Exit.inBlock, Exit.then])
        refine bodyPost_ret (results_cell_row rfl _ _ (w.heap.size + 1 + 1) 41 _ (0, 0) _ rfl (S8.out.1.put _ _ _ _).1 Tryz.underlying41 rfl (by kernel_rfl)) rfl ?_
        exact ⟨_, n1, A + C, M, rfl, ⟨_, _, _, _, _, _, os7, ys, rfl, far_arg AR8.out (fun x hx => Nat.ne_of_gt (Nat.lt_trans S8.out.2.2 (L7.out x hx))), V7.out, TS7.out, Q5.out.1.below (S8.out.1.put _ _ _ _).2 (Nat.le_refl _), Q5.out.2.1, Q5.out.2.2.1, fun x hx => by have := L7.out x hx; have := S8.out.2.2; have := HB0.out; omega, Q5.out.2.2.2⟩, SI.out, (S8.out.1.put _ _ _ _).2⟩
      | false =>
        rcases Int.lt_trichotomy A C with hl | hl | hl
        · have SI := hid (SL.out he hl)
          have s1 : s = -1 := by rw [← HSS.out]; unfold cmpI; rw [if_pos hl]
          subst s1
          obtain ⟨⟨g0, g1, g2, g3⟩, k0, k1, k2, k3⟩ := S6.out.2.1.cells
          have LE : Hid (A ≤ C) := Int.le_of_lt hl
          clear SP SG SL SE HSS hl
          go_upto_region 11 with fail
          have SX := hid (S6.out.sign (.bool n2))
          have BX := hid (B6.out.setCell (p := ⟨w4.heap.size, 0, none⟩) (Nat.le_refl _) (.bool n2))
          generalize hW : w6.setCell ⟨w4.heap.size, 0, none⟩ (.bool n2) = w66 at *
          clear hW g0 g1 g2 g3 k0 k1 k2 k3 c0 c1 c2 c3 d0 d1 d2 d3 S6 B6
          have LS := hid (less_any r2 r1 _ _ _ _ os2 os1 w66 (AY.out.below BX.out (Nat.le_refl _)) (AX.out.below BX.out (Nat.le_refl _)) (by have := TY.out.1; omega) (by rw [VX.out, VY.out]; exact LE.out))
          rw [VX.out, VY.out] at LS
          clear AX AY VX VY TX TY LE
          obtain ⟨⟨c0, c1, c2, c3⟩, d0, d1, d2, d3⟩ := SX.out.1.flat
          go_wp2_with fail
          with_reducible refine LS.out.mono ?_
          rintro r w7 ⟨r7, os7, rfl, A7, hB7⟩
          clear LS
          have S7 := hid (SX.out.on hB7)
          have AR7 := hid (A7.arg (by have := (A7.tl (K := 4400) (BD.out.2.2.2.2) (by omega)).2.1; omega))
          have TS7 := hid (A7.tl (K := 4400) (BD.out.2.2.2.2) (by omega)).1
          have V7 := hid A7.2.2.2.1
          have L7 := hid (fun x hx => Nat.le_trans SX.out.lt (A7.2.2.2.2 x hx))
          clear A7 hB7 SX c0 c1 c2 c3 d0 d1 d2 d3
          obtain ⟨⟨g0, g1, g2, g3⟩, k0, k1, k2, k3⟩ := S7.out.2.1.cells
          go_upto_region 18 with fail
          have S8 := hid (S7.out.num (.slice r7 (List.length os7) (List.length os7)))
          have AR8 := hid (set_arg (o := 1) (v := .slice r7 (List.length os7) (List.length os7)) AR7.out (fun x hx => Nat.ne_of_gt (L7.out x hx)))
          generalize hW : w7.setCell ⟨w4.heap.size, 1, none⟩ (.slice r7 (List.length os7) (List.length os7)) = w8 at *
          clear hW AR7 S7 g0 g1 g2 g3 k0 k1 k2 k3
          obtain ⟨⟨g0, g1, g2, g3⟩, -⟩ := S8.out.2.1.cells
          obtain ⟨⟨m0, m1, m2, m3⟩, o0, o1, o2, o3⟩ := S8.out.1.room
          go_wp2_with fail
          (try simp only [Exit.inBlock, Exit.then])
          refine bodyPost_ret (results_cell_row rfl _ _ (w.heap.size + 1 + 1) 41 _ (0, 0) _ rfl (S8.out.1.put _ _ _ _).1 Tryz.underlying41 rfl (by kernel_rfl)) rfl ?_
          exact ⟨_, n2, C - A, M, rfl, ⟨_, _, _, _, _, _, os7, ys, rfl, far_arg AR8.out (fun x hx => Nat.ne_of_gt (Nat.lt_trans S8.out.2.2 (L7.out x hx))), V7.out, TS7.out, Q5.out.1.below (S8.out.1.put _ _ _ _).2 (Nat.le_refl _), Q5.out.2.1, Q5.out.2.2.1, fun x hx => by have := L7.out x hx; have := S8.out.2.2; have := HB0.out; omega, Q5.out.2.2.2⟩, SI.out, (S8.out.1.put _ _ _ _).2⟩
        · have SI := hid (SE.out he hl)
          have s1 : s = 0 := by rw [← HSS.out, hl]; unfold cmpI; rw [if_neg (by omega), if_pos rfl]
          subst s1
          obtain ⟨⟨g0, g1, g2, g3⟩, k0, k1, k2, k3⟩ := S6.out.2.1.cells
          clear SP SG SL SE HSS hl AX AY VX VY TX TY B6
          go_upto_region 18 with fail
          have S8 := hid (S6.out.sign (.bool false))
          generalize hW : w6.setCell ⟨w4.heap.size, 0, none⟩ (.bool false) = w8 at *
          clear hW g0 g1 g2 g3 k0 k1 k2 k3 c0 c1 c2 c3 d0 d1 d2 d3 S6
          obtain ⟨⟨g0, g1, g2, g3⟩, -⟩ := S8.out.2.1.cells
          obtain ⟨⟨m0, m1, m2, m3⟩, o0, o1, o2, o3⟩ := S8.out.1.room
          go_wp2_with fail
          (try simp only [Exit.inBlock, Exit.then])
          refine bodyPost_ret (results_cell_row rfl _ _ (w.heap.size + 1 + 1) 41 _ (0, 0) _ rfl (S8.out.1.put _ _ _ _).1 Tryz.underlying41 rfl (by kernel_rfl)) rfl ?_
          exact ⟨_, false, 0, M, rfl, ⟨_, _, _, _, _, _, [], ys, rfl, nil_arg _, rfl, by simp [Nm.tsize], Q5.out.1.below (S8.out.1.put _ _ _ _).2 (Nat.le_refl _), Q5.out.2.1, Q5.out.2.2.1, none_far B, Q5.out.2.2.2⟩, SI.out, (S8.out.1.put _ _ _ _).2⟩
        · have SI := hid (SG.out he hl)
          have s1 : s = 1 := by rw [← HSS.out]; unfold cmpI; rw [if_neg (by omega), if_neg (by omega)]
          subst s1
          have LS := hid (less_any r1 r2 _ _ _ _ os1 os2 w6 (AX.out.below B6.out (Nat.le_refl _)) (AY.out.below B6.out (Nat.le_refl _)) (by have := TX.out.1; omega) (by rw [VX.out, VY.out]; omega))
          rw [VX.out, VY.out] at LS
          clear SP SG SL SE HSS hl AX AY VX VY TX TY
          go_wp2_with fail
          with_reducible refine LS.out.mono ?_
          rintro r w7 ⟨r7, os7, rfl, A7, hB7⟩
          clear LS
          have S7 := hid (S6.out.on hB7)
          have AR7 := hid (A7.arg (by have := (A7.tl (K := 4400) (BD.out.2.2.2.1) (by omega)).2.1; omega))
          have TS7 := hid (A7.tl (K := 4400) (BD.out.2.2.2.1) (by omega)).1
          have V7 := hid A7.2.2.2.1
          have L7 := hid (fun x hx => Nat.le_trans S6.out.lt (A7.2.2.2.2 x hx))
          clear A7 hB7 S6 c0 c1 c2 c3 d0 d1 d2 d3
          obtain ⟨⟨g0, g1, g2, g3⟩, k0, k1, k2, k3⟩ := S7.out.2.1.cells
          go_upto_region 18 with fail
          have S8 := hid (S7.out.num (.slice r7 (List.length os7) (List.length os7)))
          have AR8 := hid (set_arg (o := 1) (v := .slice r7 (List.length os7) (List.length os7)) AR7.out (fun x hx => Nat.ne_of_gt (L7.out x hx)))
          generalize hW : w7.setCell ⟨w4.heap.size, 1, none⟩ (.slice r7 (List.length os7) (List.length os7)) = w8 at *
          clear hW AR7 S7 g0 g1 g2 g3 k0 k1 k2 k3
          obtain ⟨⟨g0, g1, g2, g3⟩, -⟩ := S8.out.2.1.cells
          obtain ⟨⟨m0, m1, m2, m3⟩, o0, o1, o2, o3⟩ := S8.out.1.room
          go_wp2_with fail
          (try simp only [Exit.inBlock, Exit.then])
          refine bodyPost_ret (results_cell_row rfl _ _ (w.heap.size + 1 + 1) 41 _ (0, 0) _ rfl (S8.out.1.put _ _ _ _).1 Tryz.underlying41 rfl (by kernel_rfl)) rfl ?_
          exact ⟨_, n1, A - C, M, rfl, ⟨_, _, _, _, _, _, os7, ys, rfl, far_arg AR8.out (fun x hx => Nat.ne_of_gt (Nat.lt_trans S8.out.2.2 (L7.out x hx))), V7.out, TS7.out, Q5.out.1.below (S8.out.1.put _ _ _ _).2 (Nat.le_refl _), Q5.out.2.1, Q5.out.2.2.1, fun x hx => by have := L7.out x hx; have := S8.out.2.2; have := HB0.out; omega, Q5.out.2.2.2⟩, SI.out, (S8.out.1.put _ _ _ _).2⟩
    · obtain rfl : M = e1 := by omega
      clear hM
      go_enter Tryz.func20, Tryz.ntmps20
      go_upto_region 1 with fail
      generalize (((w.alloc (.cells #[.bool n1, .slice p n c, .slice q m d, .int .i64 M] 41)).alloc (.cells #[.bool n2, .slice p' n' c', .slice q' m' d', .int .i64 e2] 41)).alloc (.cells #[.bool false, .slice none 0 0, .slice none 0 0, .int .i64 0] 41)) = wz at *
      have zb := Z.out.1
      obtain ⟨⟨c0, c1, c2, c3⟩, d0, d1, d2, d3⟩ := Z.out.flat
      go_wp2_with fail
      with_reducible refine (NX.out _ zb).mono ?_
      rintro r w1 ⟨rfl, hB1⟩
      have Z1 := hid (Z.out.on hB1)
      clear zb hB1 Z NX c0 c1 c2 c3 d0 d1 d2 d3
      have Z2 := hid Z1.out
      clear Z1
      obtain ⟨⟨c0, c1, c2, c3⟩, d0, d1, d2, d3⟩ := Z2.out.flat
      have zb := Z2.out.1
      go_wp2_with fail
      with_reducible refine (LX.out _ _ (by omega) zb).mono ?_
      rintro r w3 ⟨r1, os1, rfl, A1, hB3⟩
      have Z3 := hid (Z2.out.on hB3)
      have z3 := Z3.out.1
      have AA := hid A1
      clear zb hB3 A1 Z2 LX c0 c1 c2 c3 d0 d1 d2 d3
      obtain ⟨⟨c0, c1, c2, c3⟩, d0, d1, d2, d3⟩ := Z3.out.flat
      go_wp2_with fail
      with_reducible refine (LY.out _ _ (by omega) z3).mono ?_
      rintro r w4 ⟨r2, os2, rfl, A2, hB4⟩
      have Z4 := hid (Z3.out.on hB4)
      have TX := hid ((AA.out.below hB4 (Nat.le_refl _)).tl (K := 4400) BD.out.1 (by omega))
      have TY := hid (A2.tl (K := 4400) BD.out.2.1 (by omega))
      have AX := hid ((AA.out.below hB4 (Nat.le_refl _)).arg (by have := TX.out.2.1; omega))
      have AY := hid (A2.arg (by have := TY.out.2.1; omega))
      have VX : Hid (Nm.val os1 = A) := AA.out.2.2.2.1
      have VY : Hid (Nm.val os2 = C) := A2.2.2.2.1
      clear z3 hB4 A2 Z3 LY AA c0 c1 c2 c3 d0 d1 d2 d3
      obtain ⟨⟨c0, c1, c2, c3⟩, d0, d1, d2, d3⟩ := Z4.out.flat
      go_upto_region 9 with fail
      have S5 := hid (S4.new Z4.out (.bool n1) (.slice none 0 0) (.slice q m d) (.int .i64 M))
      have B5 := hid (alloc_b w4 (.cells #[.bool n1, .slice none 0 0, .slice q m d, .int .i64 M] 41))
      generalize hW : w4.alloc (.cells #[.bool n1, .slice none 0 0, .slice q m d, .int .i64 M] 41) = w5 at *
      clear hW c0 c1 c2 c3 d0 d1 d2 d3 Z4
      have CM := hid (refCmp_any r1 r2 _ _ _ _ os1 os2 w5 (AX.out.below B5.out (Nat.le_refl _)) (AY.out.below B5.out (Nat.le_refl _)))
      rw [VX.out, VY.out] at CM
      obtain ⟨⟨c0, c1, c2, c3⟩, d0, d1, d2, d3⟩ := S5.out.1.flat
      obtain ⟨s, hs⟩ : ∃ s, cmpI A C = s := ⟨_, rfl⟩
      rw [hs] at CM
      have HSS := hid hs
      clear hs
      go_wp2_with fail
      with_reducible refine CM.out.mono ?_
      rintro r w6 ⟨rfl, hB6⟩
      have S6 := hid (S5.out.on hB6)
      have B6 := hid (bel B5.out hB6)
      clear hB6 S5 B5 CM c0 c1 c2 c3 d0 d1 d2 d3
      obtain ⟨⟨c0, c1, c2, c3⟩, d0, d1, d2, d3⟩ := S6.out.1.flat
      cases he : (n1 == n2) with
      | true =>
        have SI := hid (SP.out he)
        have PL := hid (plus_any r1 r2 _ _ _ _ os1 os2 w6 (AX.out.below B6.out (Nat.le_refl _)) (AY.out.below B6.out (Nat.le_refl _)) (by have := TX.out.1; omega) (by have := TY.out.1; omega))
        rw [VX.out, VY.out] at PL
        clear SP SG SL SE HSS AX AY VX VY TX TY
        go_wp2_with fail
        with_reducible refine PL.out.mono ?_
        rintro r w7 ⟨r7, os7, rfl, A7, hB7⟩
        clear PL
        have S7 := hid (S6.out.on hB7)
        have AR7 := hid (A7.arg (by have := (A7.tl (K := 4400) (BD.out.2.2.1) (by omega)).2.1; omega))
        have TS7 := hid (A7.tl (K := 4400) (BD.out.2.2.1) (by omega)).1
        have V7 := hid A7.2.2.2.1
        have L7 := hid (fun x hx => Nat.le_trans S6.out.lt (A7.2.2.2.2 x hx))
        clear A7 hB7 S6 c0 c1 c2 c3 d0 d1 d2 d3
        obtain ⟨⟨g0, g1, g2, g3⟩, k0, k1, k2, k3⟩ := S7.out.2.1.cells
        go_upto_region 18 with fail
        have S8 := hid (S7.out.num (.slice r7 (List.length os7) (List.length os7)))
        have AR8 := hid (set_arg (o := 1) (v := .slice r7 (List.length os7) (List.length os7)) AR7.out (fun x hx => Nat.ne_of_gt (L7.out x hx)))
        generalize hW : w7.setCell ⟨w4.heap.size, 1, none⟩ (.slice r7 (List.length os7) (List.length os7)) = w8 at *
        clear hW AR7 S7 g0 g1 g2 g3 k0 k1 k2 k3
        obtain ⟨⟨g0, g1, g2, g3⟩, -⟩ := S8.out.2.1.cells
        obtain ⟨⟨m0, m1, m2, m3⟩, o0, o1, o2, o3⟩ := S8.out.1.room
        go_wp2_with fail
        (try simp only [Exit.inBlock, Exit.then])
        refine bodyPost_ret (results_cell_row rfl _ _ (w.heap.size + 1 + 1) 41 _ (0, 0) _ rfl (S8.out.1.put _ _ _ _).1 Tryz.underlying41 rfl (by kernel_rfl)) rfl ?_
        exact ⟨_, n1, A + C, M, rfl, ⟨_, _, _, _, _, _, os7, ys, rfl, far_arg AR8.out (fun x hx => Nat.ne_of_gt (Nat.lt_trans S8.out.2.2 (L7.out x hx))), V7.out, TS7.out, Q5.out.1.below (S8.out.1.put _ _ _ _).2 (Nat.le_refl _), Q5.out.2.1, Q5.out.2.2.1, fun x hx => by have := L7.out x hx; have := S8.out.2.2; have := HB0.out; omega, Q5.out.2.2.2⟩, SI.out, (S8.out.1.put _ _ _ _).2⟩
      | false =>
        rcases Int.lt_trichotomy A C with hl | hl | hl
        · have SI := hid (SL.out he hl)
          have s1 : s = -1 := by rw [← HSS.out]; unfold cmpI; rw [if_pos hl]
          subst s1
          obtain ⟨⟨g0, g1, g2, g3⟩, k0, k1, k2, k3⟩ := S6.out.2.1.cells
          have LE : Hid (A ≤ C) := Int.le_of_lt hl
          clear SP SG SL SE HSS hl
          go_upto_region 11 with fail
          have SX := hid (S6.out.sign (.bool n2))
          have BX := hid (B6.out.setCell (p := ⟨w4.heap.size, 0, none⟩) (Nat.le_refl _) (.bool n2))
          generalize hW : w6.setCell ⟨w4.heap.size, 0, none⟩ (.bool n2) = w66 at *
          clear hW g0 g1 g2 g3 k0 k1 k2 k3 c0 c1 c2 c3 d0 d1 d2 d3 S6 B6
          have LS := hid (less_any r2 r1 _ _ _ _ os2 os1 w66 (AY.out.below BX.out (Nat.le_refl _)) (AX.out.below BX.out (Nat.le_refl _)) (by have := TY.out.1; omega) (by rw [VX.out, VY.out]; exact LE.out))
          rw [VX.out, VY.out] at LS
          clear AX AY VX VY TX TY LE
          obtain ⟨⟨c0, c1, c2, c3⟩, d0, d1, d2, d3⟩ := SX.out.1.flat
          go_wp2_with fail
          with_reducible refine LS.out.mono ?_
          rintro r w7 ⟨r7, os7, rfl, A7, hB7⟩
          clear LS
          have S7 := hid (SX.out.on hB7)
          have AR7 := hid (A7.arg (by have := (A7.tl (K := 4400) (BD.out.2.2.2.2) (by omega)).2.1; omega))
          have TS7 := hid (A7.tl (K := 4400) (BD.out.2.2.2.2) (by omega)).1
          have V7 := hid A7.2.2.2.1
          have L7 := hid (fun x hx => Nat.le_trans SX.out.lt (A7.2.2.2.2 x hx))
          clear A7 hB7 SX c0 c1 c2 c3 d0 d1 d2 d3
          obtain ⟨⟨g0, g1, g2, g3⟩, k0, k1, k2, k3⟩ := S7.out.2.1.cells
          go_upto_region 18 with fail
          have S8 := hid (S7.out.num (.slice r7 (List.length os7) (List.length os7)))
          have AR8 := hid (set_arg (o := 1) (v := .slice r7 (List.length os7) (List.length os7)) AR7.out (fun x hx => Nat.ne_of_gt (L7.out x hx)))
          generalize hW : w7.setCell ⟨w4.heap.size, 1, none⟩ (.slice r7 (List.length os7) (List.length os7)) = w8 at *
          clear hW AR7 S7 g0 g1 g2 g3 k0 k1 k2 k3
          obtain ⟨⟨g0, g1, g2, g3⟩, -⟩ := S8.out.2.1.cells
          obtain ⟨⟨m0, m1, m2, m3⟩, o0, o1, o2, o3⟩ := S8.out.1.room
          go_wp2_with fail
          (try simp only [Exit.inBlock, Exit.then])
          refine bodyPost_ret (results_cell_row rfl _ _ (w.heap.size + 1 + 1) 41 _ (0, 0) _ rfl (S8.out.1.put _ _ _ _).1 Tryz.underlying41 rfl (by kernel_rfl)) rfl ?_
          exact ⟨_, n2, C - A, M, rfl, ⟨_, _, _, _, _, _, os7, ys, rfl, far_arg AR8.out (fun x hx => Nat.ne_of_gt (Nat.lt_trans S8.out.2.2 (L7.out x hx))), V7.out, TS7.out, Q5.out.1.below (S8.out.1.put _ _ _ _).2 (Nat.le_refl _), Q5.out.2.1, Q5.out.2.2.1, fun x hx => by have := L7.out x hx; have := S8.out.2.2; have := HB0.out; omega, Q5.out.2.2.2⟩, SI.out, (S8.out.1.put _ _ _ _).2⟩
        · have SI := hid (SE.out he hl)
          have s1 : s = 0 := by rw [← HSS.out, hl]; unfold cmpI; rw [if_neg (by omega), if_pos rfl]
          subst s1
          obtain ⟨⟨g0, g1, g2, g3⟩, k0, k1, k2, k3⟩ := S6.out.2.1.cells
          clear SP SG SL SE HSS hl AX AY VX VY TX TY B6
          go_upto_region 18 with fail
          have S8 := hid (S6.out.sign (.bool false))
          generalize hW : w6.setCell ⟨w4.heap.size, 0, none⟩ (.bool false) = w8 at *
          clear hW g0 g1 g2 g3 k0 k1 k2 k3 c0 c1 c2 c3 d0 d1 d2 d3 S6
          obtain ⟨⟨g0, g1, g2, g3⟩, -⟩ := S8.out.2.1.cells
          obtain ⟨⟨m0, m1, m2, m3⟩, o0, o1, o2, o3⟩ := S8.out.1.room
          go_wp2_with fail
          (try simp only [Exit.inBlock, Exit.then])
          refine bodyPost_ret (results_cell_row rfl _ _ (w.heap.size + 1 + 1) 41 _ (0, 0) _ rfl (S8.out.1.put _ _ _ _).1 Tryz.underlying41 rfl (by kernel_rfl)) rfl ?_
          exact ⟨_, false, 0, M, rfl, ⟨_, _, _, _, _, _, [], ys, rfl, nil_arg _, rfl, by simp [Nm.tsize], Q5.out.1.below (S8.out.1.put _ _ _ _).2 (Nat.le_refl _), Q5.out.2.1, Q5.out.2.2.1, none_far B, Q5.out.2.2.2⟩, SI.out, (S8.out.1.put _ _ _ _).2⟩
        · have SI := hid (SG.out he hl)
          have s1 : s = 1 := by rw [← HSS.out]; unfold cmpI; rw [if_neg (by omega), if_neg (by omega)]
          subst s1
          have LS := hid (less_any r1 r2 _ _ _ _ os1 os2 w6 (AX.out.below B6.out (Nat.le_refl _)) (AY.out.below B6.out (Nat.le_refl _)) (by have := TX.out.1; omega) (by rw [VX.out, VY.out]; omega))
          rw [VX.out, VY.out] at LS
          clear SP SG SL SE HSS hl AX AY VX VY TX TY
          go_wp2_with fail
          with_reducible refine LS.out.mono ?_
          rintro r w7 ⟨r7, os7, rfl, A7, hB7⟩
          clear LS
          have S7 := hid (S6.out.on hB7)
          have AR7 := hid (A7.arg (by have := (A7.tl (K := 4400) (BD.out.2.2.2.1) (by omega)).2.1; omega))
          have TS7 := hid (A7.tl (K := 4400) (BD.out.2.2.2.1) (by omega)).1
          have V7 := hid A7.2.2.2.1
          have L7 := hid (fun x hx => Nat.le_trans S6.out.lt (A7.2.2.2.2 x hx))
          clear A7 hB7 S6 c0 c1 c2 c3 d0 d1 d2 d3
          obtain ⟨⟨g0, g1, g2, g3⟩, k0, k1, k2, k3⟩ := S7.out.2.1.cells
          go_upto_region 18 with fail
          have S8 := hid (S7.out.num (.slice r7 (List.length os7) (List.length os7)))
          have AR8 := hid (set_arg (o := 1) (v := .slice r7 (List.length os7) (List.length os7)) AR7.out (fun x hx => Nat.ne_of_gt (L7.out x hx)))
          generalize hW : w7.setCell ⟨w4.heap.size, 1, none⟩ (.slice r7 (List.length os7) (List.length os7)) = w8 at *
          clear hW AR7 S7 g0 g1 g2 g3 k0 k1 k2 k3
          obtain ⟨⟨g0, g1, g2, g3⟩, -⟩ := S8.out.2.1.cells
          obtain ⟨⟨m0, m1, m2, m3⟩, o0, o1, o2, o3⟩ := S8.out.1.room
          go_wp2_with fail
          (try simp only [Exit.inBlock, Exit.then])
          refine bodyPost_ret (results_cell_row rfl _ _ (w.heap.size + 1 + 1) 41 _ (0, 0) _ rfl (S8.out.1.put _ _ _ _).1 Tryz.underlying41 rfl (by kernel_rfl)) rfl ?_
          exact ⟨_, n1, A - C, M, rfl, ⟨_, _, _, _, _, _, os7, ys, rfl, far_arg AR8.out (fun x hx => Nat.ne_of_gt (Nat.lt_trans S8.out.2.2 (L7.out x hx))), V7.out, TS7.out, Q5.out.1.below (S8.out.1.put _ _ _ _).2 (Nat.le_refl _), Q5.out.2.1, Q5.out.2.2.1, fun x hx => by have := L7.out x hx; have := S8.out.2.2; have := HB0.out; omega, Q5.out.2.2.2⟩, SI.out, (S8.out.1.put _ _ _ _).2⟩

theorem ysum_any {B : Nat} {w : World} {vx vy : Value} {n1 n2 : Bool} {V1 V2 e1 e2 : Int} (hx : RN B w vx n1 V1 1 e1) (hy : RN B w vy n2 V2 1 e2) (hB0 : B ≤ w.heap.size) (a1 : V1 < 1298074214633706907132624082305024) (b1 : V2 < 1298074214633706907132624082305024) (f0 : -2200 ≤ e1) (f1 : e1 ≤ 2000) (f2 : -2200 ≤ e2) (f3 : e2 ≤ 2000) :
    Calls Tryz.prog 20 #[vx, vy] w fun r w' => SumTold5 B n1 V1 e1 n2 V2 e2 w r w' := by
  by_cases hz : V1 = 0 ∧ V2 = 0
  · obtain ⟨rfl, rfl⟩ := hz
    exact ysum_none hx hy
  · exact ysum_some hx hy hB0 a1 b1 f0 f1 f2 f3 hz
end Go.Proofs.YtljpmddjcfkonaaGreatDoor

namespace Go.Proofs.YtljpmddjcfkonaaGreatDoor
open Go Go.RowKit Go.Deep

namespace Ie
/-- What a sum answers, whoever makes it: one double. -/
def AddR (a b r : Int) : Prop :=
  if isn a = true ∨ isn b = true then r = 9221120237041090560
  else if isi a = true ∧ isi b = true ∧ a ≠ b then r = 9221120237041090560
  else if isi a = true then r = a
  else if isi b = true then r = b
  else RS (uv a + uv b) 1 (ngd a && ngd b) r

theorem yadd_rs {a b : Int} {neg : Bool} {V m x : Int} (fa : fin a) (fb : fin b) (hS : SumIs (ngd a) (dm a) (de a) (ngd b) (dm b) (de b) neg V m) (hR : Rnd V 1 m false x) : RS (uv a + uv b) 1 (ngd a && ngd b) (sg neg x) := by
  obtain ⟨_, ⟨ea0, ea1⟩, ga, _⟩ := dec_f a fa
  obtain ⟨_, ⟨eb0, eb1⟩, gb, _⟩ := dec_f b fb
  obtain ⟨c, hc, key, h0⟩ := hS.at 1074 (by omega) (by omega) ga gb
  exact rs_of hR hS.2.2.1.1 c 0 (by omega) key.symm rfl h0

theorem AddIs.r {a b r f : Int} (h : AddIs a b r f) : AddR a b r := by
  have h0 := h
  unfold AddR
  unfold AddIs at h
  split
  · rename_i g; rw [if_pos g] at h; exact h.1
  rename_i g1; rw [if_neg g1] at h
  split
  · rename_i g; rw [if_pos g] at h; exact h.1
  rename_i g2; rw [if_neg g2] at h
  split
  · rename_i g; rw [if_pos g] at h; exact h.1
  rename_i g3; rw [if_neg g3] at h
  split
  · rename_i g; rw [if_pos g] at h; exact h.1
  rename_i g4
  have fa : fin a := fin_of (by cases c : isn a; rfl; exact absurd (.inl c) g1) (by cases c : isi a; rfl; exact absurd c g3)
  have fb : fin b := fin_of (by cases c : isn b; rfl; exact absurd (.inr c) g1) (by cases c : isi b; rfl; exact absurd c g4)
  exact h0.rs fa fb

theorem AddR.one {a b r r' : Int} (h : AddR a b r) (k : AddR a b r') : r = r' := by
  unfold AddR at h k
  split at h
  · rename_i g; rw [if_pos g] at k; rw [h, k]
  rename_i g1; rw [if_neg g1] at k
  split at h
  · rename_i g; rw [if_pos g] at k; rw [h, k]
  rename_i g2; rw [if_neg g2] at k
  split at h
  · rename_i g; rw [if_pos g] at k; rw [h, k]
  rename_i g3; rw [if_neg g3] at k
  split at h
  · rename_i g; rw [if_pos g] at k; rw [h, k]
  rename_i g4; rw [if_neg g4] at k
  exact h.one (by omega) (by omega) k rfl

theorem inf_same {a b : Int} (a0 : 0 ≤ a) (a1 : a < 18446744073709551616) (b0 : 0 ≤ b) (b1 : b < 18446744073709551616) (ha : isi a = true) (hb : isi b = true) : ngd a = ngd b ↔ a = b := by
  have ha1 : a % 9223372036854775808 = 9218868437227405312 := of_decide_eq_true ha
  have hb1 : b % 9223372036854775808 = 9218868437227405312 := of_decide_eq_true hb
  simp only [ngd, decide_eq_decide]
  constructor
  · intro h
    by_cases c : 9223372036854775808 ≤ a
    · have := h.1 c; omega
    · have : ¬ 9223372036854775808 ≤ b := fun d => c (h.2 d)
      omega
  · rintro rfl; exact Iff.rfl
end Ie

def AddTold5 (a b : Int) (w : World) (r : Ending) (w' : World) : Prop := ∃ x, r = .returned (.int .u64 x) ∧ Ie.AddR a b x ∧ Below w.heap.size w w'

set_option maxRecDepth 100000 in
set_option maxHeartbeats 4000000 in
theorem yadd_any (a b : Int) (w : World) (a0 : 0 ≤ a) (a1 : a < 18446744073709551616) (b0 : 0 ≤ b) (b1 : b < 18446744073709551616) :
    Calls Tryz.prog 18 #[.int .u64 a, .int .u64 b] w fun e w' => AddTold5 a b w e w' := by
  have GA := hid (fun wx => yngd_any a wx)
  have GB := hid (fun wx => yngd_any b wx)
  have AN := hid (fun wx => yanynan_any a b wx a0 a1 b0 b1)
  have IA := hid (fun wx => yinf_any a wx a0 a1)
  have IB := hid (fun wx => yinf_any b wx b0 b1)
  have FF : Hid (∀ x w', Ie.AddR a b x → Below w.heap.size w w' → AddTold5 a b w (.returned (.int .u64 x)) w') := fun x w' h k => ⟨x, rfl, h, k⟩
  have BR := hid (Below.refl w.heap.size w)
  have SM := hid (Ie.inf_same a0 a1 b0 b1)
  have RA : Hid (Ie.isn a = false → Ie.isi a = false → Ie.isn b = false → Ie.isi b = false → (∀ wx, Calls Tryz.prog 22 #[.int .u64 a] wx (fun r w' => NumTold5 (Ie.ngd a) (Ie.dm a) 1 (Ie.de a) wx r w')) ∧ (∀ wx, Calls Tryz.prog 22 #[.int .u64 b] wx (fun r w' => NumTold5 (Ie.ngd b) (Ie.dm b) 1 (Ie.de b) wx r w')) ∧ Ie.fin a ∧ Ie.fin b ∧ (Ie.dm a < 1298074214633706907132624082305024 ∧ Ie.dm b < 1298074214633706907132624082305024) ∧ (-2200 ≤ Ie.de a ∧ Ie.de a ≤ 2000) ∧ -2200 ≤ Ie.de b ∧ Ie.de b ≤ 2000) := fun h1 h2 h3 h4 => by
    have fa := Ie.fin_of h1 h2
    have fb := Ie.fin_of h3 h4
    obtain ⟨⟨da0, da1⟩, ⟨ea0, ea1⟩, _, _⟩ := Ie.dec_f a fa
    obtain ⟨⟨db0, db1⟩, ⟨eb0, eb1⟩, _, _⟩ := Ie.dec_f b fb
    exact ⟨fun wx => yof2 a _ _ _ wx a0 a1 rfl rfl rfl da0 da1, fun wx => yof2 b _ _ _ wx b0 b1 rfl rfl rfl db0 db1, fa, fb, ⟨by omega, by omega⟩, ⟨by omega, by omega⟩, by omega, by omega⟩
  have UN : Hid (∀ r, Ie.AddR a b r = (if Ie.isn a = true ∨ Ie.isn b = true then r = 9221120237041090560 else if Ie.isi a = true ∧ Ie.isi b = true ∧ a ≠ b then r = 9221120237041090560 else if Ie.isi a = true then r = a else if Ie.isi b = true then r = b else Ie.RS (Ie.uv a + Ie.uv b) 1 (Ie.ngd a && Ie.ngd b) r)) := fun r => rfl
  clear a0 a1 b0 b1
  by_cases hn : (Ie.isn a || Ie.isn b) = true
  · have hn2 : Ie.isn a = true ∨ Ie.isn b = true := by simpa using hn
    rw [hn] at AN
    have F := hid (FF.out 9221120237041090560 w (by rw [UN.out]; simp [hn2]) BR.out)
    clear FF UN RA BR SM
    go_enter Tryz.func18, Tryz.ntmps18
    go_wp2_with (first | (go_at_call 16; first | (with_reducible refine (GA.out _).mono ?_; rintro e w' ⟨rfl, rfl⟩) | (with_reducible refine (GB.out _).mono ?_; rintro e w' ⟨rfl, rfl⟩)) | (go_at_call 12; first | (with_reducible refine (AN.out _).mono ?_; rintro e w' ⟨rfl, rfl⟩)) | (go_at_call 14; first | (with_reducible refine (IA.out _).mono ?_; rintro e w' ⟨rfl, rfl⟩) | (with_reducible refine (IB.out _).mono ?_; rintro e w' ⟨rfl, rfl⟩)))
    go_ret
    exact F.out
  have h1 : Ie.isn a = false := by cases c : Ie.isn a; rfl; simp [c] at hn
  have h2 : Ie.isn b = false := by cases c : Ie.isn b; rfl; simp [c] at hn
  rw [h1, h2] at AN
  clear hn
  cases h3 : Ie.isi a
  · rw [h3] at IA
    cases h4 : Ie.isi b
    · rw [h4] at IB
      obtain ⟨OA, OB, fa, fb, ⟨ma, mb⟩, ⟨ea0, ea1⟩, eb0, eb1⟩ := RA.out h1 h3 h2 h4
      have HA := hid OA
      have HB := hid OB
      have KK : Hid (∀ neg V m x w', Ie.SumIs (Ie.ngd a) (Ie.dm a) (Ie.de a) (Ie.ngd b) (Ie.dm b) (Ie.de b) neg V m → Ie.Rnd V 1 m false x → Below w.heap.size w w' → AddTold5 a b w (.returned (.int .u64 (Ie.sg neg x))) w') := fun neg V m x w' hS hR k => FF.out _ w' (by rw [UN.out]; simp only [h1, h2, h3, h4, Bool.false_eq_true, or_self, false_and, if_false]; exact Ie.yadd_rs fa fb hS hR) k
      clear OA OB fa fb FF UN RA BR SM
      go_enter Tryz.func18, Tryz.ntmps18
      go_wp2_with (first | (go_at_call 16; first | (with_reducible refine (GA.out _).mono ?_; rintro e w' ⟨rfl, rfl⟩) | (with_reducible refine (GB.out _).mono ?_; rintro e w' ⟨rfl, rfl⟩)) | (go_at_call 12; first | (with_reducible refine (AN.out _).mono ?_; rintro e w' ⟨rfl, rfl⟩)) | (go_at_call 14; first | (with_reducible refine (IA.out _).mono ?_; rintro e w' ⟨rfl, rfl⟩) | (with_reducible refine (IB.out _).mono ?_; rintro e w' ⟨rfl, rfl⟩)))
      with_reducible refine (HA.out _).mono ?_
      rintro r w1 ⟨v1, rfl, N1, hB1⟩
      go_wp2_with fail
      with_reducible refine (HB.out _).mono ?_
      rintro r w2 ⟨v2, rfl, N2, hB2⟩
      have PR := hid (ysum_any (N1.on hB2) (N2.lower hB1.size) (Nat.le_trans hB1.size hB2.size) ma mb ea0 ea1 eb0 eb1)
      have B2 := hid (bel hB1 hB2)
      clear N1 N2 hB1 hB2 HA HB
      go_wp2_with fail
      with_reducible refine PR.out.mono ?_
      rintro r w3 ⟨v3, neg, V, m, rfl, N3, hS, hB3⟩
      have YR := hid (yrounded_any N3 (by omega))
      have B3 := hid (bel B2.out hB3)
      have HS := hid hS
      clear N3 hB3 PR B2 hS
      go_wp2_with fail
      with_reducible refine YR.out.mono ?_
      rintro r w4 ⟨x, rfl, R, hB4⟩
      have F := hid (KK.out neg V m x w4 HS.out R (bel B3.out hB4))
      clear R hB4 YR KK B3 HS
      go_wp2_with fail
      go_ret
      exact F.out
    · rw [h4] at IB
      have F := hid (FF.out b w (by rw [UN.out]; simp [h1, h2, h3, h4]) BR.out)
      clear FF UN RA BR SM
      go_enter Tryz.func18, Tryz.ntmps18
      go_wp2_with (first | (go_at_call 16; first | (with_reducible refine (GA.out _).mono ?_; rintro e w' ⟨rfl, rfl⟩) | (with_reducible refine (GB.out _).mono ?_; rintro e w' ⟨rfl, rfl⟩)) | (go_at_call 12; first | (with_reducible refine (AN.out _).mono ?_; rintro e w' ⟨rfl, rfl⟩)) | (go_at_call 14; first | (with_reducible refine (IA.out _).mono ?_; rintro e w' ⟨rfl, rfl⟩) | (with_reducible refine (IB.out _).mono ?_; rintro e w' ⟨rfl, rfl⟩)))
      go_ret
      exact F.out
  · rw [h3] at IA
    cases h4 : Ie.isi b
    · rw [h4] at IB
      have F := hid (FF.out a w (by rw [UN.out]; simp [h1, h2, h3, h4]) BR.out)
      clear FF UN RA BR SM
      go_enter Tryz.func18, Tryz.ntmps18
      go_wp2_with (first | (go_at_call 16; first | (with_reducible refine (GA.out _).mono ?_; rintro e w' ⟨rfl, rfl⟩) | (with_reducible refine (GB.out _).mono ?_; rintro e w' ⟨rfl, rfl⟩)) | (go_at_call 12; first | (with_reducible refine (AN.out _).mono ?_; rintro e w' ⟨rfl, rfl⟩)) | (go_at_call 14; first | (with_reducible refine (IA.out _).mono ?_; rintro e w' ⟨rfl, rfl⟩) | (with_reducible refine (IB.out _).mono ?_; rintro e w' ⟨rfl, rfl⟩)))
      go_ret
      exact F.out
    · rw [h4] at IB
      by_cases hs : a = b
      · have F := hid (FF.out a w (by rw [UN.out, if_neg (by simp [h1, h2]), if_neg (fun c => c.2.2 hs), if_pos h3]) BR.out)
        have hg : (Ie.ngd a == Ie.ngd b) = true := by rw [beq_iff_eq]; exact (SM.out h3 h4).2 hs
        have HS := hid hs
        clear FF UN RA BR SM hs
        obtain ⟨ga, hga⟩ : ∃ g, Ie.ngd a = g := ⟨_, rfl⟩
        obtain ⟨gb, hgb⟩ : ∃ g, Ie.ngd b = g := ⟨_, rfl⟩
        rw [hga] at GA
        rw [hgb] at GB
        rw [hga, hgb] at hg
        clear hga hgb
        go_enter Tryz.func18, Tryz.ntmps18
        go_wp2_with (first | (go_at_call 16; first | (with_reducible refine (GA.out _).mono ?_; rintro e w' ⟨rfl, rfl⟩) | (with_reducible refine (GB.out _).mono ?_; rintro e w' ⟨rfl, rfl⟩)) | (go_at_call 12; first | (with_reducible refine (AN.out _).mono ?_; rintro e w' ⟨rfl, rfl⟩)) | (go_at_call 14; first | (with_reducible refine (IA.out _).mono ?_; rintro e w' ⟨rfl, rfl⟩) | (with_reducible refine (IB.out _).mono ?_; rintro e w' ⟨rfl, rfl⟩)))
        go_ret
        exact F.out
      · have F := hid (FF.out 9221120237041090560 w (by rw [UN.out]; simp [h1, h2, h3, h4, hs]) BR.out)
        have hg : (Ie.ngd a == Ie.ngd b) = false := by rw [beq_eq_false_iff_ne]; exact fun c => hs ((SM.out h3 h4).1 c)
        clear FF UN RA BR SM hs
        obtain ⟨ga, hga⟩ : ∃ g, Ie.ngd a = g := ⟨_, rfl⟩
        obtain ⟨gb, hgb⟩ : ∃ g, Ie.ngd b = g := ⟨_, rfl⟩
        rw [hga] at GA
        rw [hgb] at GB
        rw [hga, hgb] at hg
        clear hga hgb
        go_enter Tryz.func18, Tryz.ntmps18
        go_wp2_with (first | (go_at_call 16; first | (with_reducible refine (GA.out _).mono ?_; rintro e w' ⟨rfl, rfl⟩) | (with_reducible refine (GB.out _).mono ?_; rintro e w' ⟨rfl, rfl⟩)) | (go_at_call 12; first | (with_reducible refine (AN.out _).mono ?_; rintro e w' ⟨rfl, rfl⟩)) | (go_at_call 14; first | (with_reducible refine (IA.out _).mono ?_; rintro e w' ⟨rfl, rfl⟩) | (with_reducible refine (IB.out _).mono ?_; rintro e w' ⟨rfl, rfl⟩)))
        go_ret
        exact F.out

set_option maxRecDepth 100000 in
theorem ysub_any (a b : Int) (w : World) (a0 : 0 ≤ a) (a1 : a < 18446744073709551616) (b0 : 0 ≤ b) (b1 : b < 18446744073709551616) :
    Calls Tryz.prog 79 #[.int .u64 a, .int .u64 b] w fun e w' => AddTold5 a (Ie.ng b) w e w' := by
  have nb : 0 ≤ Ie.ng b ∧ Ie.ng b < 18446744073709551616 := by unfold Ie.ng; split <;> omega
  have NG := hid (yneg_any b w b0 b1)
  have AD := hid (yadd_any a (Ie.ng b) w a0 a1 nb.1 nb.2)
  clear a0 a1 b0 b1 nb
  go_enter Tryz.func79, Tryz.ntmps79
  go_wp2_with fail
  with_reducible refine NG.out.mono ?_
  rintro e w' ⟨rfl, rfl⟩
  go_wp2_with fail
  with_reducible refine AD.out.mono ?_
  rintro e w1 ⟨x, rfl, hx, hB⟩
  have F : Hid (AddTold5 a (Ie.ng b) w' (.returned (.int .u64 x)) w1) := ⟨x, rfl, hx, hB⟩
  clear hx hB AD NG
  go_wp2_with fail
  go_ret
  exact F.out
end Go.Proofs.YtljpmddjcfkonaaGreatDoor

namespace Go.Proofs.YtljpmddjcfkonaaGreatDoor

/-- There is always a nearest double. -/
theorem near_ex (P Q : Int) : ∃ x, Ie.Near P Q false x := by
  have step : ∀ k : Nat, (∃ x, Ie.Near P Q false x) ∨ ((k : Int) ≤ 9218868437227405312 → 0 < (k : Int) → Ie.md (k - 1) * Q < P ∨ (Ie.md (k - 1) * Q = P ∧ (k : Int) % 2 = 0)) := by
    intro k
    induction k with
    | zero => exact .inr (fun _ h => absurd h (by simp))
    | succ k ih =>
      rcases ih with ih | ih
      · exact .inl ih
      · rcases (show (k : Int) < 9218868437227405312 ∨ 9218868437227405312 ≤ (k : Int) by omega) with hk | hk
        · by_cases hu : P < Ie.md k * Q ∨ (P = Ie.md k * Q ∧ (k : Int) % 2 = 0)
          · left
            refine ⟨k, ⟨by omega, by omega⟩, fun h => ?_, fun _ => ?_⟩
            · rcases ih (by omega) h with g | ⟨g, g'⟩
              · exact .inl g
              · exact .inr ⟨g, .inl g'⟩
            · rcases hu with g | ⟨g, g'⟩
              · exact .inl g
              · exact .inr ⟨g, g', rfl⟩
          · right
            intro _ _
            rw [show ((k + 1 : Nat) : Int) - 1 = k by omega]
            rcases Int.lt_trichotomy (Ie.md k * Q) P with g | g | g
            · exact .inl g
            · refine .inr ⟨g, ?_⟩
              have : ¬ (k : Int) % 2 = 0 := fun c => hu (.inr ⟨g.symm, c⟩)
              omega
            · exact absurd (.inl g) hu
        · right
          intro h; omega
  rcases step 9218868437227405312 with h | h
  · exact h
  · refine ⟨9218868437227405312, ⟨by decide, by decide⟩, fun _ => ?_, fun h => absurd h (by decide)⟩
    rcases h (by decide) (by decide) with g | ⟨g, g'⟩
    · exact .inl g
    · exact .inr ⟨g, .inl g'⟩

end Go.Proofs.YtljpmddjcfkonaaGreatDoor

namespace Go.Proofs.YtljpmddjcfkonaaGreatDoor
namespace Ie

theorem rs_ex (S Q : Int) (z : Bool) : ∃ r, RS S Q z r := by
  rcases Int.lt_trichotomy S 0 with h | h | h
  · obtain ⟨x, hx⟩ := near_ex (2 * -S) Q
    exact ⟨_, true, -S, x, rfl, by simp [sn], by omega, hx, fun c => by omega⟩
  · obtain ⟨x, hx⟩ := near_ex (2 * 0) Q
    exact ⟨_, z, 0, x, rfl, by rw [sn_zero]; exact h, by omega, hx, fun _ => rfl⟩
  · obtain ⟨x, hx⟩ := near_ex (2 * S) Q
    exact ⟨_, false, S, x, rfl, by simp [sn], by omega, hx, fun c => by omega⟩

theorem addR_ex (a b : Int) : ∃ r, AddR a b r := by
  unfold AddR
  split
  · exact ⟨_, rfl⟩
  split
  · exact ⟨_, rfl⟩
  split
  · exact ⟨_, rfl⟩
  split
  · exact ⟨_, rfl⟩
  exact rs_ex _ _ _
theorem mulR_ex (a b : Int) : ∃ r, MulR a b r := by
  unfold MulR
  split
  · exact ⟨_, rfl⟩
  split
  · exact ⟨_, rfl⟩
  split
  · exact ⟨_, rfl⟩
  exact rs_ex _ _ _
theorem divR_ex (a b : Int) : ∃ r, DivR a b r := by
  unfold DivR
  split
  · exact ⟨_, rfl⟩
  split
  · exact ⟨_, rfl⟩
  split
  · exact ⟨_, rfl⟩
  split
  · exact ⟨_, rfl⟩
  split
  · exact ⟨_, rfl⟩
  exact rs_ex _ _ _
end Ie
end Go.Proofs.YtljpmddjcfkonaaGreatDoor

namespace Go.Proofs.YtljpmddjcfkonaaGreatDoor
open Go.RowKit Go.Deep

set_option maxHeartbeats 1000000 in
theorem addTo_any (g k : Nat) (zs : List Int) (q : Option Addr) (m cap : Nat) (ys : List Int) (w : World) (hk : zs.length = k) (hkm : k ≤ 35184372088832) (ho : Own w g zs) (hl : Nm.Limbs zs)
    (hm : ys.length = m) (hmk : m ≤ k) (hy : Lies w q ys) (hly : Nm.Limbs ys) (hq : 0 < ys.length → ∀ a, q = some a → a.block < g) (hT : Nm.val zs + Nm.val ys < Nm.pw k) :
    Calls Tryz.prog 98 #[.slice (some ⟨g, 0, none⟩) k k, .slice q m cap] w fun e w' => e = .returned (.tuple #[]) ∧ Wrote g k (Nm.val zs + Nm.val ys) w w' := by
  rcases hy with rfl | ⟨b, off, rfl, hcell⟩
  · have hm0 : m = 0 := by simpa using hm.symm
    subst hm0
    have E : Wrote g k (Nm.val zs + Nm.val []) w w := ⟨zs, ho, hk, hl, by simp [Nm.val], Below.refl _ _, rfl⟩
    clear ho hl hT hq hm hk
    go_enter Tryz.func98, Tryz.ntmps98
    go_wp2
    refine wp_loop_rounds 1 ?_
    rw [rounds_succ]
    go_wp2
    refine wp_loop_rounds 1 ?_
    rw [rounds_succ]
    go_wp2
    go_end0
    exact ⟨rfl, E⟩
  · have hbg : 0 < ys.length → b < g := fun h => hq h _ rfl
    have I0 : AddInv g k w (Nm.val zs + Nm.val (ys.take 0)) 0 0 zs w := ⟨ho, hk, hl, by simp [Nm.val], Below.refl _ _, rfl⟩
    have HC : Hid (∀ i, i < ys.length → w.cell? ⟨b, off + i, none⟩ = some (.int .u64 (ys.getD i 0))) := hcell
    have HM : Hid (ys.length = m) := hm
    have HT : Hid (Nm.val zs + Nm.val ys < Nm.pw k) := hT
    have HY : Hid (Nm.Limbs ys) := hly
    clear hcell hm hT hly hq ho hk hl
    go_enter Tryz.func98, Tryz.ntmps98
    go_wp2
    go_loopw [4, 10] (fun c i wr => ∃ (j : Nat) (cc : Int) (os : List Int), j ≤ m ∧ i = .int .i64 j ∧ c = .int .u64 cc ∧ 0 ≤ cc ∧ cc ≤ 1 ∧ AddInv g k w (Nm.val zs + Nm.val (ys.take j)) j cc os wr) (fun _ i _ => m - (intOf i).toNat)
    case atStart => exact ⟨0, 0, zs, Nat.zero_le _, rfl, rfl, by omega, by omega, I0⟩
    case round =>
      obtain ⟨j, cc, os, hj, rfl, rfl, hc0, hc1, I⟩ := hrel
      by_cases hlt : j < m
      · obtain ⟨x, hx, X⟩ : ∃ x, wr.cell? ⟨b, off + j, none⟩ = some (.int .u64 x) ∧ Hid (x = ys.getD j 0) :=
          ⟨_, (I.2.2.2.2.1.cell (p := ⟨b, off + j, none⟩) (hbg (by have := HM.out; omega))).trans (HC.out j (by have := HM.out; omega)), rfl⟩
        obtain ⟨y, hyc, Y⟩ : ∃ y, wr.cell? ⟨g, j, none⟩ = some (.int .u64 y) ∧ Hid (y = os.getD j 0) := ⟨_, I.1.cell j (by have := I.2.1; omega), rfl⟩
        have hfr := I.1.free j
        have hx0 : 0 ≤ x := by have := HY.out.at j; have := X.out; omega
        have hy0 : 0 ≤ y := by have := I.2.2.1.at j; have := Y.out; omega
        obtain ⟨s, S⟩ : ∃ s, Hid (s = (y + x + cc) % 18446744073709551616) := ⟨_, rfl⟩
        obtain ⟨c', C⟩ : ∃ c', Hid (c' = (y + x + cc) / 18446744073709551616) := ⟨_, rfl⟩
        have hc0' : 0 ≤ c' := by have := C.out; omega
        have hc1' : c' ≤ 1 := by have := C.out; have := I.2.2.1.at j; have := Y.out; have := HY.out.at j; have := X.out; omega
        have hjk : (j : Int) < (k : Int) := by omega
        go_wp2_with (simp only [add64' y x cc s c' hy0 hx0 hc0 hc1 S.out C.out])
        go_roundw
        case rel =>
          have hst := I.step (by omega) (x := x) (s := s) (c' := c') (by rw [← Y.out]; exact S.out) (by rw [← Y.out]; exact C.out)
          refine ⟨j + 1, c', os.set j s, by omega, by go_num, rfl, hc0', hc1', ?_⟩
          rw [Nm.val_take_succ ys j (by have := HM.out; omega), ← X.out]
          rw [← Int.add_assoc]
          exact hst
        case measure => simp [intOf]; omega
      · have hjm : j = m := by omega
        subst hjm
        have hT : Nm.val zs + Nm.val (ys.take j) = Nm.val zs + Nm.val ys := by rw [List.take_of_length_le (by have := HM.out; omega)]
        rw [hT] at I
        clear hT
        go_wp2
        go_loopw [4, 7] (fun c i wr => ∃ (t : Nat) (cc : Int) (os : List Int), t ≤ k ∧ i = .int .i64 t ∧ c = .int .u64 cc ∧ 0 ≤ cc ∧ cc ≤ 1 ∧ AddInv g k w (Nm.val zs + Nm.val ys) t cc os wr) (fun _ i _ => k - (intOf i).toNat)
        case atStart => exact ⟨j, cc, os, hmk, rfl, rfl, hc0, hc1, I⟩
        case round =>
          clear I hc0 hc1
          obtain ⟨t, cc, os, ht, rfl, rfl, hc0, hc1, I⟩ := hrel
          by_cases hz : cc = 0
          · subst hz
            have E : Wrote g k (Nm.val zs + Nm.val ys) w wr :=
              ⟨os, I.1, I.2.1, I.2.2.1, by have := I.2.2.2.1; omega, I.2.2.2.2.1, I.2.2.2.2.2⟩
            clear I
            go_wp2
            go_end0
            exact ⟨rfl, E⟩
          · have htk := I.end HT.out (by omega)
            have htk' : (t : Int) < (k : Int) := by omega
            obtain ⟨y, hyc, Y⟩ : ∃ y, wr.cell? ⟨g, t, none⟩ = some (.int .u64 y) ∧ Hid (y = os.getD t 0) := ⟨_, I.1.cell t (by have := I.2.1; omega), rfl⟩
            have hfr := I.1.free t
            have hy0 : 0 ≤ y := by have := I.2.2.1.at t; have := Y.out; omega
            obtain ⟨s, S⟩ : ∃ s, Hid (s = (y + 0 + cc) % 18446744073709551616) := ⟨_, rfl⟩
            obtain ⟨c', C⟩ : ∃ c', Hid (c' = (y + 0 + cc) / 18446744073709551616) := ⟨_, rfl⟩
            have hc0' : 0 ≤ c' := by have := C.out; omega
            have hc1' : c' ≤ 1 := by have := C.out; have := I.2.2.1.at t; have := Y.out; omega
            go_wp2_with (simp only [add64' y 0 cc s c' hy0 (Int.le_refl 0) hc0 hc1 S.out C.out])
            go_roundw
            case rel =>
              have hst := I.step (by omega) (x := 0) (s := s) (c' := c') (by rw [← Y.out]; exact S.out) (by rw [← Y.out]; exact C.out)
              rw [Int.mul_zero, Int.add_zero] at hst
              exact ⟨t + 1, c', os.set t s, by omega, by go_num, rfl, hc0', hc1', hst⟩
            case measure => simp [intOf]; omega
end Go.Proofs.YtljpmddjcfkonaaGreatDoor

namespace Go.Proofs.YtljpmddjcfkonaaGreatDoor
open Go.RowKit Go.Deep

/-- Room for a sum: one limb more than the longer of both. -/
theorem sum_room {zs ys : List Int} (hz : Nm.Limbs zs) (hy : Nm.Limbs ys) (h : Nm.tsize ys ≤ Nm.tsize zs) : Nm.val (Nm.trim zs ++ List.replicate 1 0) + Nm.val (Nm.trim ys) < Nm.pw (Nm.tsize zs + 1) ∧ Nm.val (Nm.trim zs ++ List.replicate 1 0) + Nm.val (Nm.trim ys) = Nm.val zs + Nm.val ys := by
  have h1 := Nm.val_lt_tsize hz
  have h2 := Nm.val_lt_tsize hy
  have h3 := Nm.pw_mono h
  have h4 := Nm.pw_pos (Nm.tsize zs)
  rw [Nm.val_append, Nm.val_replicate, Int.mul_zero, Int.add_zero, Nm.val_trim, Nm.val_trim, Nm.pw_succ]
  exact ⟨by omega, rfl⟩

set_option maxHeartbeats 1000000 in
theorem add_ok (p q : Option Addr) (n cap m cap' : Nat) (zs ys : List Int) (w : World) (ha : Arg w p n cap zs) (hb : Arg w q m cap' ys) (hs : Nm.val zs + Nm.val ys < Nm.pw 4096) :
    Calls Tryz.prog 69 #[.slice p n cap, .slice q m cap'] w fun e w' => ∃ r os, e = .returned (.tuple #[.slice r (List.length os) (List.length os), .int .i64 0]) ∧ Ans w.heap.size w' r os (Nm.val zs + Nm.val ys) ∧ Below w.heap.size w w' := by
  have z0 := (Nm.val_bd zs ha.2.2.2.2).1
  have y0 := (Nm.val_bd ys hb.2.2.2.2).1
  have tz := ha.small (by omega)
  have ty := hb.small (by omega)
  obtain ⟨a1, a2, a3, a4, a5⟩ := ha
  obtain ⟨b1, b2, b3, b4, b5⟩ := hb
  have HS : Hid (Nm.val zs + Nm.val ys < Nm.pw 4096) := hs
  clear hs z0 y0
  by_cases hlt : Nm.tsize zs < Nm.tsize ys
  · have hlt' : (Nm.tsize zs : Int) < (Nm.tsize ys : Int) := by omega
    have R := hid (sum_room b5 a5 (by omega))
    go_enter Tryz.func69, Tryz.ntmps69
    go_wp2_with fail
    refine (pair_ok p q n cap m cap' zs ys _ a1 a2 (by omega) a4 tz b1 b2 (by omega) b4 ty).mono ?_
    rintro e w' ⟨rfl, rfl⟩
    go_wp2_with fail
    refine (widened_any q (Nm.tsize ys) (Nm.tsize ys) 1 1 (Nm.trim ys) _ rfl (Nm.trim_length ys) (by omega) (b4.take _)).mono ?_
    rintro e w1 ⟨rfl, ho, hb1, hz1⟩
    have HO := hid ho
    have HB := hid hb1
    have HZ := hid hz1
    clear ho hb1 hz1
    go_wp2_with fail
    refine (addTo_any w'.heap.size (Nm.tsize ys + 1) (Nm.trim ys ++ List.replicate 1 0) p (Nm.tsize zs) (Nm.tsize zs) (Nm.trim zs) _ (by simp [Nm.trim_length]) (by omega) HO.out ((b5.take _).append (Nm.Limbs.replicate _)) (Nm.trim_length zs) (by omega) ((a4.take _).below HB.out (Nat.le_refl _)) (a5.take _) (fun h0 => (a4.take _).lt h0) R.out.1).mono ?_
    rintro e w2 ⟨rfl, hw⟩
    obtain ⟨os, o1, o2, o3, o4, o5, o6⟩ := hw
    have HO := hid o1
    have O4 := hid o4
    have HB2 := hid o5
    clear o1 o4 o5 o6
    go_wp2_with fail
    refine (limited_own w'.heap.size (Nm.tsize ys + 1) os _ o2 (by omega) HO.out o3 w'.heap.size (Nat.le_refl _) (by rw [O4.out, R.out.2, Int.add_comm]; exact HS.out)).mono ?_
    rintro e w3 ⟨r, xs, rfl, hans, rfl⟩
    rw [O4.out, R.out.2, Int.add_comm] at hans
    have HA := hid hans
    clear hans
    go_wp2_with fail
    go_ret2
    exact ⟨r, xs, rfl, HA.out, HB.out.trans HB2.out⟩
  · have hlt' : (Nm.tsize ys : Int) ≤ (Nm.tsize zs : Int) := by omega
    have R := hid (sum_room a5 b5 (by omega))
    go_enter Tryz.func69, Tryz.ntmps69
    go_wp2_with fail
    refine (pair_ok p q n cap m cap' zs ys _ a1 a2 (by omega) a4 tz b1 b2 (by omega) b4 ty).mono ?_
    rintro e w' ⟨rfl, rfl⟩
    go_wp2_with fail
    refine (widened_any p (Nm.tsize zs) (Nm.tsize zs) 1 1 (Nm.trim zs) _ rfl (Nm.trim_length zs) (by omega) (a4.take _)).mono ?_
    rintro e w1 ⟨rfl, ho, hb1, hz1⟩
    have HO := hid ho
    have HB := hid hb1
    have HZ := hid hz1
    clear ho hb1 hz1
    go_wp2_with fail
    refine (addTo_any w'.heap.size (Nm.tsize zs + 1) (Nm.trim zs ++ List.replicate 1 0) q (Nm.tsize ys) (Nm.tsize ys) (Nm.trim ys) _ (by simp [Nm.trim_length]) (by omega) HO.out ((a5.take _).append (Nm.Limbs.replicate _)) (Nm.trim_length ys) (by omega) ((b4.take _).below HB.out (Nat.le_refl _)) (b5.take _) (fun h0 => (b4.take _).lt h0) R.out.1).mono ?_
    rintro e w2 ⟨rfl, hw⟩
    obtain ⟨os, o1, o2, o3, o4, o5, o6⟩ := hw
    have HO := hid o1
    have O4 := hid o4
    have HB2 := hid o5
    clear o1 o4 o5 o6
    go_wp2_with fail
    refine (limited_own w'.heap.size (Nm.tsize zs + 1) os _ o2 (by omega) HO.out o3 w'.heap.size (Nat.le_refl _) (by rw [O4.out, R.out.2]; exact HS.out)).mono ?_
    rintro e w3 ⟨r, xs, rfl, hans, rfl⟩
    rw [O4.out, R.out.2] at hans
    have HA := hid hans
    clear hans
    go_wp2_with fail
    go_ret2
    exact ⟨r, xs, rfl, HA.out, HB.out.trans HB2.out⟩
end Go.Proofs.YtljpmddjcfkonaaGreatDoor
