/-
  abacuslaw26: CodeRuns (mkcdv.py).
-/
import Derived.Test.YtnobafmleellhaaDoorCdX
namespace Go.Proofs.YtnobafmleellhaaDoor
open Go Go.RowKit Go.Deep Go.Shelf

set_option maxRecDepth 100000 in
set_option maxHeartbeats 8000000 in
theorem runs_law (l : List Cd.In) (nums : List Int) (strs : List ByteArray) (ways : List Bool) (p q r pw : Option Addr) (cap c2 c3 c4 : Nat) (w : World) (hT : Tab10 w) (hL : Cd.LI w p l) (hW : Cd.WB w pw ways) (hn : l.length ≤ 9223372036854775807) (hN : nums.length ≤ 9223372036854775807) (hS : strs.length ≤ 9223372036854775807) (hV : ways.length ≤ 9223372036854775807) :
    Calls Tryd.prog 6 #[.agg #[.slice p l.length cap, .slice q nums.length c2, .slice r strs.length c3], .slice pw ways.length c4] w fun e w' => e = .returned (.bool true) ∧ Below w.heap.size w w' := by
  have B1 := hid (alloc_b w (.cells #[.slice p l.length cap, .slice q nums.length c2, .slice r strs.length c3] 31))
  have X1 := hid (Bx.new w 31 #[.slice p l.length cap, .slice q nums.length c2, .slice r strs.length c3])
  have AW : Hid (∀ W, Below w.heap.size w W → _) := fun W hW => caw_any W (ctab10_below hT hW)
  have CH : Hid (∀ W, Below w.heap.size w W → _) := fun W hW => cchk_any l p q r cap nums.length c2 strs.length c3 W (hL.on hW) hn (by omega) (by omega)
  have GD : Hid ((Cd.chk l nums.length strs.length).2.2 = 0 → _) := fun h => Cd.gd_of h
  have CE : (Cd.chk l nums.length strs.length).2.2 = 0 ∨ (Cd.chk l nums.length strs.length).2.2 = 260 := by
    rcases Cd.chk_err l nums.length strs.length with h | h
    · exact .inl h.1
    · exact .inr h
  have L0 := hid hL
  have V0 := hid hW
  have GX : Hid (∀ i, i < l.length → ∃ x, l[i]? = some x) := fun i hi => ⟨_, List.getElem?_eq_getElem hi⟩
  have VX : Hid (∀ i, i < ways.length → ∃ x, ways[i]? = some x) := fun i hi => ⟨_, List.getElem?_eq_getElem hi⟩
  have hNi : (nums.length : Int) ≤ 9223372036854775807 := by omega
  have hSi : (strs.length : Int) ≤ 9223372036854775807 := by omega
  have hVi : (ways.length : Int) ≤ 9223372036854775807 := by omega
  generalize (Cd.hts l nums.length strs.length).1 = hs at *
  generalize Cd.chk l nums.length strs.length = C at *
  obtain ⟨C1, C2, C3⟩ := C
  clear hL hW hT hn hN hS hV
  generalize hNl : nums.length = N at *
  generalize hSl : strs.length = S at *
  generalize hVl : ways.length = V at *
  generalize hnl : l.length = n at *
  clear hNl hSl
  go_enter Tryd.func6, Tryd.ntmps6
  go_upto_region 1 with fail
  generalize w.alloc (.cells #[.slice p n cap, .slice q N c2, .slice r S c3] 31) = w1 at *
  go_upto_region 3 with (go_at_call 9; with_reducible refine (AW.out _ B1.out).mono ?_; rintro e w2 ⟨rfl, hB⟩; have B2 := hid (below_on B1.out hB); have X2 := hid (X1.out.on hB); obtain ⟨k0, k1, k2⟩ := bx3 X2.out; clear hB AW B1 X1)
  go_upto_region 4 with (go_at_call 17; with_reducible refine (CH.out _ B2.out).mono ?_; rintro e w3 ⟨rfl, hB⟩; have B3 := hid (below_on B2.out hB); have X3 := hid (X2.out.on hB); clear k0 k1 k2; obtain ⟨k0, k1, k2⟩ := bx3 X3.out; clear hB CH B2 X2)
  rcases CE with h3 | h3
  · have h3' : C3 = 0 := h3
    subst h3'
    have G0 := GD.out h3
    have G := hid G0
    have ni : (n : Int) ≤ 131072 := by have := G0.small; omega
    have f0 := G0.first
    have S0 : Hid (0 ≤ hs.getD 0 0 ∧ Below w.heap.size w w3 ∧ Bx w3 w.heap.size 31 #[.slice p n cap, .slice q N c2, .slice r S c3]) := ⟨by omega, B3.out, X3.out⟩
    clear GD G0 h3
    go_wp2_with fail
    clear k0 k1 k2 B3 X3
    go_loopg [9, 10, 11, 12] n (fun m av hv cv sv wr => ∃ a c s : Nat, a + m = n ∧ av = .int .i64 (a : Int) ∧ hv = .int .i64 (hs.getD a 0) ∧ cv = .int .i64 (c : Int) ∧ sv = .int .i64 (s : Int) ∧ c ≤ a ∧ s ≤ a ∧ Hid (0 ≤ hs.getD a 0 ∧ Below w.heap.size w wr ∧ Bx wr w.heap.size 31 #[.slice p n cap, .slice q N c2, .slice r S c3]))
    case atStart => exact ⟨0, 0, 0, by omega, rfl, by rw [f0], rfl, rfl, Nat.le_refl _, Nat.le_refl _, S0⟩
    case round =>
      obtain ⟨a, c, s, ha, rfl, rfl, rfl, rfl, ca, sa, J⟩ := hrel
      clear S0 f0
      by_cases al : a < n
      · have ali : (a : Int) < (n : Int) := by omega
        have sni : ¬ (n : Int) ≤ (s : Int) := by omega
        have ani : ¬ (a : Int) < 0 := by omega
        have cni : (c : Int) ≤ 131072 := by omega
        have sni2 : (s : Int) ≤ 131072 := by omega
        obtain ⟨x, hx⟩ := GX.out a al
        obtain ⟨b, off, rfl, c0, c1, c2'⟩ := L0.out.below J.out.2.1 (Nat.le_refl _) a x hx
        have h0 := J.out.1
        obtain ⟨ro, tkh, st1, st2, st3, st4⟩ := G.out.step a x hx h0
        have hm := G.out.top a h0
        obtain ⟨t0, t1, p0, p1⟩ := Cd.tk_rng ro
        obtain ⟨kw1, kw2, kf⟩ := Cd.ok_ft ro
        have EF := hid (fun W => cEffect_any x W)
        rw [Cd.ef_yes ro] at EF
        have JU := hid (fun W => cjmp_any x.w W)
        have A1 := hid (alloc_b wr (.cells #[.int .i64 x.w, .int .i64 x.a, .int .i64 x.b] 26))
        have Y1 := hid (Bx.new wr 26 #[.int .i64 x.w, .int .i64 x.a, .int .i64 x.b])
        have X1 := hid (J.out.2.2.on A1.out)
        have B1 := hid (below_on J.out.2.1 A1.out)
        obtain ⟨k0, k1, k2⟩ := bx3 J.out.2.2
        have hle := G.out.le a
        have PA : Hid ((Cd.rx x).a = 1 ∨ (Cd.rx x).a = 2 → 0 ≤ x.a) := fun e => by
          have f := kf
          unfold Cd.ft at f
          rw [if_neg (by omega), Bool.and_eq_true] at f
          exact (Cd.hd_rng f.1).1
        have NR : Hid (x.w ≠ 27 → hs.getD (a + 1) 0 = hs.getD a 0 - Cd.tk x + Cd.pt x ∧ hs.getD a 0 - Cd.tk x + Cd.pt x ≤ C1) := fun e => by
          have e1 := st1 e
          have e2 := G.out.top (a + 1) (by omega)
          exact ⟨e1, by omega⟩
        have FR : Hid ((Cd.rx x).a = 3 → ∃ A : Nat, x.a = (A : Int) ∧ a < A ∧ A ≤ n ∧ hs.getD A 0 = hs.getD a 0 - Cd.tk x + Cd.pt x ∧ hs.getD a 0 - Cd.tk x + Cd.pt x ≤ C1) := fun e => by
          obtain ⟨e0, e1, e3⟩ := st2 e
          have e2 := G.out.top x.a.toNat (by omega)
          refine ⟨x.a.toNat, by omega, by omega, by omega, e3, by omega⟩
        have W1 := hid (Cd.w1 (x := x))
        have W2 := hid (Cd.w2 (x := x))
        have W27 := hid (Cd.w27 (x := x))
        have W28 := hid (Cd.w28 (x := x))
        have W29 := hid (Cd.w29 (x := x))
        have S3 := hid st3
        have S4 := hid st4
        clear st1 st2 st3 st4 kf hx ro hm G J GX
        generalize (Cd.rx x).a = ra at *
        generalize Cd.tk x = t at *
        generalize Cd.pt x = pp at *
        obtain ⟨xw, xa, xb⟩ := x
        simp only at *
        obtain ⟨h, hh⟩ : ∃ h, hs.getD a 0 = h := ⟨_, rfl⟩
        rw [hh] at h0 hle NR FR tkh
        rw [hh]
        clear hh
        have tg : t ≤ h := tkh
        have hcs : xw = 1 ∨ xw = 2 ∨ xw = 27 ∨ (xw = 28 ∨ xw = 29) ∨ (xw ≠ 1 ∧ xw ≠ 2 ∧ xw ≠ 27 ∧ xw ≠ 28 ∧ xw ≠ 29) := by omega
        rcases hcs with hw | hw | hw | hw | hw
        · have a1 := S3.out (W1.out hw)
          have a0 := PA.out (.inl (W1.out hw))
          obtain ⟨vn, vm⟩ := NR.out (by omega)
          have vh : h + (pp - t) ≤ C1 := by omega
          have q1 : (xw == 1) = true := by rw [hw]; rfl
          have qd1 : decide (xw = 1) = true := decide_eq_true hw
          have q2 : (xw == 2) = false := beq_false_of_ne (by omega)
          have qd2 : decide (xw = 2) = false := decide_eq_false (by omega)
          rw [decide_eq_false (show ¬ (xw = 27 ∨ xw = 28 ∨ xw = 29) by omega), decide_eq_true (show xw ≠ 27 by omega)] at JU
          clear W1 W2 W27 W28 W29 S3 S4 PA NR FR hw
          go_wp2_with (first
            | (go_at_call 19; with_reducible refine (EF.out _).mono ?_; rintro e w4 ⟨rfl, hB⟩; have B4 := hid (below_on B1.out hB); have X4 := hid (X1.out.on hB); have Y4 := hid (Y1.out.on hB); clear k0 k1 k2; obtain ⟨k0, k1, k2⟩ := bx3 X4.out; obtain ⟨y0, y1, y2⟩ := bx3 Y4.out; clear hB EF)
            | (go_at_call 20; with_reducible refine (JU.out _).mono ?_; rintro e w5 ⟨rfl, rfl⟩))
          go_roundg (n - (a + 1))
          case measure => omega
          case rel => exact ⟨a + 1, c, s + 1, by omega, by go_num, by rw [vn]; congr 1; omega, rfl, by go_num, by omega, by omega, ⟨by rw [vn]; omega, B4.out, X4.out⟩⟩
        · have a1 := S4.out (W2.out hw)
          have a0 := PA.out (.inr (W2.out hw))
          obtain ⟨vn, vm⟩ := NR.out (by omega)
          have vh : h + (pp - t) ≤ C1 := by omega
          have q1 : (xw == 1) = false := beq_false_of_ne (by omega)
          have qd1 : decide (xw = 1) = false := decide_eq_false (by omega)
          have q2 : (xw == 2) = true := by rw [hw]; rfl
          have qd2 : decide (xw = 2) = true := decide_eq_true hw
          rw [decide_eq_false (show ¬ (xw = 27 ∨ xw = 28 ∨ xw = 29) by omega), decide_eq_true (show xw ≠ 27 by omega)] at JU
          clear W1 W2 W27 W28 W29 S3 S4 PA NR FR hw
          go_wp2_with (first
            | (go_at_call 19; with_reducible refine (EF.out _).mono ?_; rintro e w4 ⟨rfl, hB⟩; have B4 := hid (below_on B1.out hB); have X4 := hid (X1.out.on hB); have Y4 := hid (Y1.out.on hB); clear k0 k1 k2; obtain ⟨k0, k1, k2⟩ := bx3 X4.out; obtain ⟨y0, y1, y2⟩ := bx3 Y4.out; clear hB EF)
            | (go_at_call 20; with_reducible refine (JU.out _).mono ?_; rintro e w5 ⟨rfl, rfl⟩))
          go_roundg (n - (a + 1))
          case measure => omega
          case rel => exact ⟨a + 1, c, s + 1, by omega, by go_num, by rw [vn]; congr 1; omega, rfl, by go_num, by omega, by omega, ⟨by rw [vn]; omega, B4.out, X4.out⟩⟩
        · obtain ⟨A, rfl, A1, A2, vn, vm⟩ := FR.out (W27.out hw)
          have vh : h + (pp - t) ≤ C1 := by omega
          have q1 : (xw == 1) = false := beq_false_of_ne (by omega)
          have qd1 : decide (xw = 1) = false := decide_eq_false (by omega)
          have q2 : (xw == 2) = false := beq_false_of_ne (by omega)
          have qd2 : decide (xw = 2) = false := decide_eq_false (by omega)
          rw [decide_eq_true (show xw = 27 ∨ xw = 28 ∨ xw = 29 by omega), decide_eq_false (show ¬ xw ≠ 27 by omega)] at JU
          clear W1 W2 W27 W28 W29 S3 S4 PA NR FR hw
          go_wp2_with (first
            | (go_at_call 19; with_reducible refine (EF.out _).mono ?_; rintro e w4 ⟨rfl, hB⟩; have B4 := hid (below_on B1.out hB); have X4 := hid (X1.out.on hB); have Y4 := hid (Y1.out.on hB); clear k0 k1 k2; obtain ⟨k0, k1, k2⟩ := bx3 X4.out; obtain ⟨y0, y1, y2⟩ := bx3 Y4.out; clear hB EF)
            | (go_at_call 20; with_reducible refine (JU.out _).mono ?_; rintro e w5 ⟨rfl, rfl⟩))
          go_roundg (n - A)
          case measure => omega
          case rel => exact ⟨A, c, s + 1, by omega, rfl, by rw [vn]; congr 1; omega, rfl, by go_num, by omega, by omega, ⟨by rw [vn]; omega, B4.out, X4.out⟩⟩
        · obtain ⟨A, rfl, A1, A2, vf, vm⟩ := FR.out (by rcases hw with e | e; exact W28.out e; exact W29.out e)
          have vn := (NR.out (by omega)).1
          have vh : h + (pp - t) ≤ C1 := by omega
          have q1 : (xw == 1) = false := beq_false_of_ne (by omega)
          have qd1 : decide (xw = 1) = false := decide_eq_false (by omega)
          have q2 : (xw == 2) = false := beq_false_of_ne (by omega)
          have qd2 : decide (xw = 2) = false := decide_eq_false (by omega)
          rw [decide_eq_true (show xw = 27 ∨ xw = 28 ∨ xw = 29 by omega), decide_eq_true (show xw ≠ 27 by omega)] at JU
          clear W1 W2 W27 W28 W29 S3 S4 PA NR FR hw
          by_cases cv : c < V
          · have cvi : (c : Int) < (V : Int) := by omega
            obtain ⟨bl, hbl⟩ := VX.out c cv
            have VC : Hid (∀ W, Below w.heap.size w W → ∃ b off, pw = some ⟨b, off, none⟩ ∧ W.cell? ⟨b, off + c, none⟩ = some (.bool bl)) := fun W hW => V0.out.below hW (Nat.le_refl _) c bl hbl
            clear hbl VX V0 cv
            obtain ⟨b9, o9, e9, -⟩ := VC.out _ B1.out
            subst e9
            have VC2 : Hid (∀ W, Below w.heap.size w W → W.cell? ⟨b9, o9 + c, none⟩ = some (.bool bl)) := fun W hW => by
              obtain ⟨b', o', e, h⟩ := VC.out W hW
              cases e
              exact h
            clear VC
            cases bl with
            | true =>
              have vn := vf
              go_wp2_with (first
                | (go_at_call 19; with_reducible refine (EF.out _).mono ?_; rintro e w4 ⟨rfl, hB⟩; have B4 := hid (below_on B1.out hB); have X4 := hid (X1.out.on hB); have Y4 := hid (Y1.out.on hB); clear k0 k1 k2; obtain ⟨k0, k1, k2⟩ := bx3 X4.out; obtain ⟨y0, y1, y2⟩ := bx3 Y4.out; have cc := VC2.out _ B4.out; clear hB EF)
                | (go_at_call 20; with_reducible refine (JU.out _).mono ?_; rintro e w5 ⟨rfl, rfl⟩))
              go_roundg (n - (A))
              case measure => omega
              case rel => exact ⟨A, c + 1, s + 1, by omega, rfl, by rw [vn]; congr 1; omega, by go_num, by go_num, by omega, by omega, ⟨by rw [vn]; omega, B4.out, X4.out⟩⟩
            | false =>
              go_wp2_with (first
                | (go_at_call 19; with_reducible refine (EF.out _).mono ?_; rintro e w4 ⟨rfl, hB⟩; have B4 := hid (below_on B1.out hB); have X4 := hid (X1.out.on hB); have Y4 := hid (Y1.out.on hB); clear k0 k1 k2; obtain ⟨k0, k1, k2⟩ := bx3 X4.out; obtain ⟨y0, y1, y2⟩ := bx3 Y4.out; have cc := VC2.out _ B4.out; clear hB EF)
                | (go_at_call 20; with_reducible refine (JU.out _).mono ?_; rintro e w5 ⟨rfl, rfl⟩))
              go_roundg (n - (a + 1))
              case measure => omega
              case rel => exact ⟨a + 1, c + 1, s + 1, by omega, by go_num, by rw [vn]; congr 1; omega, by go_num, by go_num, by omega, by omega, ⟨by rw [vn]; omega, B4.out, X4.out⟩⟩
          · have cvi : ¬ (c : Int) < (V : Int) := by omega
            go_wp2_with (first
              | (go_at_call 19; with_reducible refine (EF.out _).mono ?_; rintro e w4 ⟨rfl, hB⟩; have B4 := hid (below_on B1.out hB); have X4 := hid (X1.out.on hB); have Y4 := hid (Y1.out.on hB); clear k0 k1 k2; obtain ⟨k0, k1, k2⟩ := bx3 X4.out; obtain ⟨y0, y1, y2⟩ := bx3 Y4.out; clear hB EF)
              | (go_at_call 20; with_reducible refine (JU.out _).mono ?_; rintro e w5 ⟨rfl, rfl⟩))
            go_roundg (n - (a + 1))
            case measure => omega
            case rel => exact ⟨a + 1, c + 1, s + 1, by omega, by go_num, by rw [vn]; congr 1; omega, by go_num, by go_num, by omega, by omega, ⟨by rw [vn]; omega, B4.out, X4.out⟩⟩
        · obtain ⟨n1, n2, n27, n28, n29⟩ := hw
          obtain ⟨vn, vm⟩ := NR.out (by omega)
          have vh : h + (pp - t) ≤ C1 := by omega
          have q1 : (xw == 1) = false := beq_false_of_ne (by omega)
          have qd1 : decide (xw = 1) = false := decide_eq_false (by omega)
          have q2 : (xw == 2) = false := beq_false_of_ne (by omega)
          have qd2 : decide (xw = 2) = false := decide_eq_false (by omega)
          rw [decide_eq_false (show ¬ (xw = 27 ∨ xw = 28 ∨ xw = 29) by omega), decide_eq_true (show xw ≠ 27 by omega)] at JU
          clear W1 W2 W27 W28 W29 S3 S4 PA NR FR n1 n2 n27 n28 n29
          go_wp2_with (first
            | (go_at_call 19; with_reducible refine (EF.out _).mono ?_; rintro e w4 ⟨rfl, hB⟩; have B4 := hid (below_on B1.out hB); have X4 := hid (X1.out.on hB); have Y4 := hid (Y1.out.on hB); clear k0 k1 k2; obtain ⟨k0, k1, k2⟩ := bx3 X4.out; obtain ⟨y0, y1, y2⟩ := bx3 Y4.out; clear hB EF)
            | (go_at_call 20; with_reducible refine (JU.out _).mono ?_; rintro e w5 ⟨rfl, rfl⟩))
          go_roundg (n - (a + 1))
          case measure => omega
          case rel => exact ⟨a + 1, c, s + 1, by omega, by go_num, by rw [vn]; congr 1; omega, rfl, by go_num, by omega, by omega, ⟨by rw [vn]; omega, B4.out, X4.out⟩⟩
      · have ali : ¬ (a : Int) < (n : Int) := by omega
        obtain rfl : a = n := by omega
        have la := G.out.last
        rw [hnl] at la
        rw [la]
        have F := hid J.out.2.1
        clear J G GX VX L0 V0 la
        go_wp2_with fail
        go_ret
        exact ⟨rfl, F.out⟩
  · have h3' : C3 = 260 := h3
    subst h3'
    clear GD GX VX L0 V0 h3
    go_wp2_with fail
    go_ret
    exact ⟨rfl, B3.out⟩
end Go.Proofs.YtnobafmleellhaaDoor
