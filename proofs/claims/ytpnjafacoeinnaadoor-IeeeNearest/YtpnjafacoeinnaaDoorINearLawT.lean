import Derived.Test.YtpnjafacoeinnaaDoorINearLaw0
namespace Go.Proofs.YtpnjafacoeinnaaDoor
open Go Go.RowKit Go.Deep

set_option maxRecDepth 100000 in
set_option maxHeartbeats 8000000 in
theorem nearLaw_in_t (pN pM pD : Option Addr) (nN cN nM cM nD cD : Nat) (zN zD : List Int) (e by' : Int) (w : World) (hN : Arg w pN nN cN zN) (hD : Arg w pD nD cD zD) (hT : Tab w) (gN : nN ≤ 60) (gD : nD ≤ 60) (g3 : e ≤ 9000) (g4 : -9000 ≤ e) (hd : Nm.val zD ≠ 0) :
    Calls Tryd.prog 6 #[.agg (tieCells true pN pM pD nN cN nM cM nD cD e by')] w fun r w' => r = .returned (.bool true) ∧ Below w.heap.size w w'  := by
  have AW := tie_awake true pN pM pD nN cN nM cM nD cD e by' w hT
  obtain ⟨V, hV⟩ : ∃ V, Nm.val zN = V := ⟨_, rfl⟩
  obtain ⟨D, hDe⟩ : ∃ D, Nm.val zD = D := ⟨_, rfl⟩
  have d0 : 0 < D := by have := (Nm.val_bd zD hD.2.2.2.2).1; rw [hDe] at this hd; omega
  have tN := hN.tl
  have tD := hD.tl
  obtain ⟨L, hL, bL, -, -⟩ := blen_is zD hD.2.2.2.2
  rw [hDe] at bL
  have l0 : ((L : Int) == 0) = false := by rw [beq_eq_false_iff_ne]; have := (bL.2.2 d0).1; omega
  have BL := hid (fun (wx : World) (hx : Below w.heap.size w wx) => bitLen_n L pD nD cD zD wx (hD.below hx (Nat.le_refl _)) hL)
  have RR := hid (fun (wx : World) (hx : Below w.heap.size w wx) => roundRatio_any true pN pD nN cN nD cD zN zD wx (hN.below hx (Nat.le_refl _)) (hD.below hx (Nat.le_refl _)) (hT.below hx) (by omega) (by omega) V D e hV hDe d0)
  have HE := hid (fun (wx : World) (hx : Below w.heap.size w wx) (m k : Int) (m0 : 0 ≤ m) (m1 : m < 18446744073709551616) (k0 : -2000 ≤ k) (k1 : k ≤ 2000) (s t : Nat) (hst : (s : Int) - t = k - e) (h0 : s = 0 ∨ t = 0) => held_any m k e pN pD nN cN nD cD zN zD wx (hN.below hx (Nat.le_refl _)) (hD.below hx (Nat.le_refl _)) gN gD m0 m1 k0 k1 g4 g3 V D hV hDe s t hst h0)
  have l1 : ¬ (60 : Int) < (nN : Int) := by omega
  have l2 : ¬ (60 : Int) < (nD : Int) := by omega
  have l3 : ¬ 9000 < e := by omega
  have l4 : ¬ e < -9000 := by omega
  clear hT hN hD hV hDe tN tD hL bL gN gD hd
  go_enter Tryd.func6, Tryd.ntmps6
  simp only [tieCells]
  go_wp2_with fail
  refine (AW.out _ rfl).mono ?_
  rintro e' w1 ⟨rfl, hB, hsz, c0, c1, -, c3, c4, -⟩
  have HB := hid hB
  have HZ := hid hsz
  clear hB hsz AW
  go_wp2_with fail
  refine (BL.out _ HB.out).mono ?_
  rintro e' w2 ⟨rfl, rfl⟩
  go_wp2_with fail
  refine (RR.out _ HB.out).mono ?_
  rintro e' w3 ⟨x, rfl, R, hB3⟩
  have bd := R.bd
  obtain ⟨x0, x1⟩ := bd
  generalize hyy : Ie.sg true x = y
  have HB3 := hid (HB.out.trans (hB3.mono HB.out.size))
  have HR := hid R
  clear R hB3 c0 c1 c3 c4 RR BL
  have y0 : x + 9223372036854775808 = y := hyy
  subst y0
  clear hyy
  have s2 : (x + 9223372036854775808) % 9223372036854775808 = x := by omega
  rcases (show x = 9218868437227405312 ∨ x < 9218868437227405312 by omega) with hx | hx
  · subst hx
    obtain ⟨s, t, hst, h0⟩ := split_nat (970 - e)
    have C := cmpI_comm_lo (HR.out.lo (by omega) (M := 18014398509481983) (E := 2045) (s := s) (t := t) Ie.md_last (by omega))
    have H1 := hid (HE.out w3 HB3.out 18014398509481983 970 (by omega) (by omega) (by omega) (by omega) s t hst h0)
    obtain ⟨c, hc⟩ : ∃ c, cmpI (D * 18014398509481983 * 2 ^ s) (V * 2 ^ t) = c := ⟨_, rfl⟩
    rw [hc] at C H1
    have hc0 : c ≤ 0 := by omega
    clear hst h0 C hc HE
    go_wp2_with fail
    refine H1.out.mono ?_
    rintro e' w4 ⟨rfl, hB4⟩
    have HB4 := hid (HB3.out.trans (hB4.mono HB3.out.size))
    clear hB4
    go_wp2_with fail
    go_ret
    exact ⟨by simp <;> omega, HB4.out⟩
  have hx' : (x == 9218868437227405312) = false := by rw [beq_eq_false_iff_ne]; omega
  have DC := hid (decode_any x w3 x0 (by omega))
  rcases (show x = 0 ∨ 0 < x by omega) with hz | hz
  · subst hz
    obtain ⟨s, t, hst, h0⟩ := split_nat (-1075 - e)
    have C := cmpI_comm_hi (HR.out.hi (by omega) (M := 1) (E := 0) (s := s) (t := t) (by rw [Ie.md_zero]; rfl) (by omega))
    have H1 := hid (fun (wx : World) (hw : Below w.heap.size w wx) => HE.out wx hw 1 (-1075) (by omega) (by omega) (by omega) (by omega) s t hst h0)
    obtain ⟨c, hc⟩ : ∃ c, cmpI (D * 1 * 2 ^ s) (V * 2 ^ t) = c := ⟨_, rfl⟩
    rw [hc] at C H1
    have C2 : c = 1 ∨ c = 0 := by omega
    clear hst h0 C hc HE
    rcases C2 with rfl | rfl
    · go_wp2_with fail
      refine DC.out.mono ?_
      rintro e' w4 ⟨rfl, hB4⟩
      simp only [partsOf, Ie.dec_zero.1, Ie.dec_zero.2]
      have HB4 := hid (HB3.out.trans (hB4.mono HB3.out.size))
      clear hB4
      go_wp2_with fail
      refine (H1.out _ (Below.alloc HB4.out HB4.out.size _)).mono ?_
      rintro e' w5 ⟨rfl, hB5⟩
      have HB5 := hid ((Below.alloc HB4.out HB4.out.size _).trans (hB5.mono (Below.alloc HB4.out HB4.out.size _).size))
      clear hB5
      go_wp2_with fail
      go_ret
      exact ⟨rfl, HB5.out⟩
    · go_wp2_with fail
      refine DC.out.mono ?_
      rintro e' w4 ⟨rfl, hB4⟩
      simp only [partsOf, Ie.dec_zero.1, Ie.dec_zero.2]
      have HB4 := hid (HB3.out.trans (hB4.mono HB3.out.size))
      clear hB4
      go_wp2_with fail
      refine (H1.out _ (Below.alloc HB4.out HB4.out.size _)).mono ?_
      rintro e' w5 ⟨rfl, hB5⟩
      have HB5 := hid ((Below.alloc HB4.out HB4.out.size _).trans (hB5.mono (Below.alloc HB4.out HB4.out.size _).size))
      clear hB5
      go_wp2_with fail
      go_ret
      exact ⟨rfl, HB5.out⟩
  have hz' : (x == 0) = false := by rw [beq_eq_false_iff_ne]; omega
  obtain ⟨q1, q2⟩ := Ie.dec_fin x hz hx
  obtain ⟨mb0, mb1⟩ := Ie.man_nn x x0
  have eb : (Ie.ex x : Int) ≤ 2045 := by simp only [Ie.ex]; omega
  obtain ⟨s, t, hst, h0⟩ := split_nat ((Ie.ex x : Int) - 1075 - e)
  have C := cmpI_comm_hi (HR.out.hi hx (M := 2 * Ie.man x + 1) (E := Ie.ex x) (s := s) (t := t) rfl (by omega))
  have H1 := hid (fun (wx : World) (hw : Below w.heap.size w wx) (m k : Int) (hm : m = 2 * Ie.man x + 1) (hk : k = (Ie.ex x : Int) - 1075) => HE.out wx hw m k (by omega) (by omega) (by omega) (by omega) s t (by omega) h0)
  obtain ⟨c, hc⟩ : ∃ c, c = cmpI (D * (2 * Ie.man x + 1) * 2 ^ s) (V * 2 ^ t) := ⟨_, rfl⟩
  have H1' : Hid (∀ (wx : World) (hw : Below w.heap.size w wx) (m k : Int), m = 2 * Ie.man x + 1 → k = (Ie.ex x : Int) - 1075 → Calls Tryd.prog 22 #[.int .u64 m, .int .i64 k, .slice pN nN cN, .slice pD nD cD, .int .i64 e] wx fun r w' => r = .returned (.tuple #[.int .i64 c, .bool true]) ∧ Below wx.heap.size wx w') := by
    intro wx hw m k hm hk
    have := H1.out wx hw m k hm hk
    rw [hm, ← hc] at this
    rw [hm]
    exact this
  rw [← hc] at C
  clear H1 hst h0 hc
  -- below
  obtain ⟨M2, E2, hM2, hb2, hlo⟩ : ∃ (M2 : Int) (E2 : Nat), Ie.md (x - 1) = M2 * 2 ^ E2 ∧ (0 ≤ M2 ∧ M2 < 18446744073709551616 ∧ E2 ≤ 2045) ∧ ((¬ (Ie.man x = 4503599627370496 ∧ 0 < Ie.ex x) ∧ M2 = 2 * Ie.man x - 1 ∧ E2 = Ie.ex x) ∨ ((Ie.man x = 4503599627370496 ∧ 0 < Ie.ex x) ∧ M2 = 18014398509481983 ∧ (E2 : Int) = (Ie.ex x : Int) - 1)) := by
    by_cases hp : Ie.man x = 4503599627370496 ∧ 0 < Ie.ex x
    · exact ⟨_, _, Ie.md_pred' x hz hp, by omega, .inr ⟨hp, rfl, by omega⟩⟩
    · have mp : 1 ≤ Ie.man x := by simp only [Ie.man]; split <;> omega
      exact ⟨_, _, Ie.md_pred x hz hp, by omega, .inl ⟨hp, rfl, rfl⟩⟩
  obtain ⟨s', t', hst', h0'⟩ := split_nat ((E2 : Int) - 1075 - e)
  have C' := cmpI_comm_lo (HR.out.lo hz (M := M2) (E := E2) (s := s') (t := t') hM2 (by omega))
  obtain ⟨d, hd⟩ : ∃ d, d = cmpI (D * M2 * 2 ^ s') (V * 2 ^ t') := ⟨_, rfl⟩
  have H2' : Hid (∀ (wx : World) (hw : Below w.heap.size w wx) (m k : Int), m = M2 → k = (E2 : Int) - 1075 → Calls Tryd.prog 22 #[.int .u64 m, .int .i64 k, .slice pN nN cN, .slice pD nD cD, .int .i64 e] wx fun r w' => r = .returned (.tuple #[.int .i64 d, .bool true]) ∧ Below wx.heap.size wx w') := by
    intro wx hw m k hm hk
    have := HE.out wx hw m k (by omega) (by omega) (by omega) (by omega) s' t' (by omega) h0'
    rw [hm, ← hd] at this
    rw [hm]
    exact this
  rw [← hd] at C'
  clear HE hst' h0' hd hM2
  obtain ⟨m, hm⟩ : ∃ m, Ie.man x = m := ⟨_, rfl⟩
  obtain ⟨E, hE⟩ : ∃ E, Ie.ex x = E := ⟨_, rfl⟩
  rw [q1, q2] at DC
  rw [hm] at mb0 mb1 DC H1' hlo
  rw [hE] at eb DC H1' hlo
  clear q1 q2 hm hE HR
  generalize hev : x % 2 = ev at C C' ⊢
  obtain ⟨b0, b1, b2⟩ := hb2
  rcases hlo with ⟨np, k1, k2⟩ | ⟨⟨p1, p2⟩, k1, k2⟩
  · have nq : ((m == 4503599627370496) = false) ∨ (m = 4503599627370496 ∧ ¬ -1074 < (E : Int) - 1074) := by
      rcases (show m = 4503599627370496 ∨ m ≠ 4503599627370496 by omega) with h | h
      · exact .inr ⟨h, by omega⟩
      · exact .inl (by rw [beq_eq_false_iff_ne]; exact h)
    have mp : 1 ≤ m := by omega
    clear np
    rcases nq with nq | ⟨rfl, nq⟩ <;> rcases C with rfl | ⟨rfl, rfl⟩ <;> rcases C' with rfl | ⟨rfl, hv⟩
    · go_wp2_with fail
      refine DC.out.mono ?_
      rintro e' w4 ⟨rfl, hB4⟩
      simp only [partsOf]
      have HB4 := hid (HB3.out.trans (hB4.mono HB3.out.size))
      clear hB4
      go_wp2_with fail
      refine (H1'.out _ (Below.alloc HB4.out HB4.out.size _) _ _ (by omega) (by omega)).mono ?_
      rintro e' w5 ⟨rfl, hB5⟩
      have cA : w5.cell? ⟨w4.heap.size, 2, none⟩ = some (.int .u64 m) := by rw [hB5.cell (p := ⟨w4.heap.size, 2, none⟩) (by simp)]; simp only [World.cell?, heap_alloc_new]; rfl
      have cB : w5.cell? ⟨w4.heap.size, 3, none⟩ = some (.int .i64 ((E : Int) - 1074)) := by rw [hB5.cell (p := ⟨w4.heap.size, 3, none⟩) (by simp)]; simp only [World.cell?, heap_alloc_new]; rfl
      have HB5 := hid ((Below.alloc HB4.out HB4.out.size _).trans (hB5.mono (Below.alloc HB4.out HB4.out.size _).size))
      clear hB5
      go_wp2_with fail
      refine (H2'.out _ HB5.out _ _ (by omega) (by omega)).mono ?_
      rintro e' w6 ⟨rfl, hB6⟩
      have HB6 := hid (HB5.out.trans (hB6.mono HB5.out.size))
      clear hB6
      go_wp2_with fail
      go_ret
      exact ⟨by simp, HB6.out⟩
    · subst hv
      go_wp2_with fail
      refine DC.out.mono ?_
      rintro e' w4 ⟨rfl, hB4⟩
      simp only [partsOf]
      have HB4 := hid (HB3.out.trans (hB4.mono HB3.out.size))
      clear hB4
      go_wp2_with fail
      refine (H1'.out _ (Below.alloc HB4.out HB4.out.size _) _ _ (by omega) (by omega)).mono ?_
      rintro e' w5 ⟨rfl, hB5⟩
      have cA : w5.cell? ⟨w4.heap.size, 2, none⟩ = some (.int .u64 m) := by rw [hB5.cell (p := ⟨w4.heap.size, 2, none⟩) (by simp)]; simp only [World.cell?, heap_alloc_new]; rfl
      have cB : w5.cell? ⟨w4.heap.size, 3, none⟩ = some (.int .i64 ((E : Int) - 1074)) := by rw [hB5.cell (p := ⟨w4.heap.size, 3, none⟩) (by simp)]; simp only [World.cell?, heap_alloc_new]; rfl
      have HB5 := hid ((Below.alloc HB4.out HB4.out.size _).trans (hB5.mono (Below.alloc HB4.out HB4.out.size _).size))
      clear hB5
      go_wp2_with fail
      refine (H2'.out _ HB5.out _ _ (by omega) (by omega)).mono ?_
      rintro e' w6 ⟨rfl, hB6⟩
      have HB6 := hid (HB5.out.trans (hB6.mono HB5.out.size))
      clear hB6
      go_wp2_with fail
      go_ret
      exact ⟨by simp, HB6.out⟩
    · go_wp2_with fail
      refine DC.out.mono ?_
      rintro e' w4 ⟨rfl, hB4⟩
      simp only [partsOf]
      have HB4 := hid (HB3.out.trans (hB4.mono HB3.out.size))
      clear hB4
      go_wp2_with fail
      refine (H1'.out _ (Below.alloc HB4.out HB4.out.size _) _ _ (by omega) (by omega)).mono ?_
      rintro e' w5 ⟨rfl, hB5⟩
      have cA : w5.cell? ⟨w4.heap.size, 2, none⟩ = some (.int .u64 m) := by rw [hB5.cell (p := ⟨w4.heap.size, 2, none⟩) (by simp)]; simp only [World.cell?, heap_alloc_new]; rfl
      have cB : w5.cell? ⟨w4.heap.size, 3, none⟩ = some (.int .i64 ((E : Int) - 1074)) := by rw [hB5.cell (p := ⟨w4.heap.size, 3, none⟩) (by simp)]; simp only [World.cell?, heap_alloc_new]; rfl
      have HB5 := hid ((Below.alloc HB4.out HB4.out.size _).trans (hB5.mono (Below.alloc HB4.out HB4.out.size _).size))
      clear hB5
      go_wp2_with fail
      refine (H2'.out _ HB5.out _ _ (by omega) (by omega)).mono ?_
      rintro e' w6 ⟨rfl, hB6⟩
      have HB6 := hid (HB5.out.trans (hB6.mono HB5.out.size))
      clear hB6
      go_wp2_with fail
      go_ret
      exact ⟨by simp, HB6.out⟩
    · clear hv
      go_wp2_with fail
      refine DC.out.mono ?_
      rintro e' w4 ⟨rfl, hB4⟩
      simp only [partsOf]
      have HB4 := hid (HB3.out.trans (hB4.mono HB3.out.size))
      clear hB4
      go_wp2_with fail
      refine (H1'.out _ (Below.alloc HB4.out HB4.out.size _) _ _ (by omega) (by omega)).mono ?_
      rintro e' w5 ⟨rfl, hB5⟩
      have cA : w5.cell? ⟨w4.heap.size, 2, none⟩ = some (.int .u64 m) := by rw [hB5.cell (p := ⟨w4.heap.size, 2, none⟩) (by simp)]; simp only [World.cell?, heap_alloc_new]; rfl
      have cB : w5.cell? ⟨w4.heap.size, 3, none⟩ = some (.int .i64 ((E : Int) - 1074)) := by rw [hB5.cell (p := ⟨w4.heap.size, 3, none⟩) (by simp)]; simp only [World.cell?, heap_alloc_new]; rfl
      have HB5 := hid ((Below.alloc HB4.out HB4.out.size _).trans (hB5.mono (Below.alloc HB4.out HB4.out.size _).size))
      clear hB5
      go_wp2_with fail
      refine (H2'.out _ HB5.out _ _ (by omega) (by omega)).mono ?_
      rintro e' w6 ⟨rfl, hB6⟩
      have HB6 := hid (HB5.out.trans (hB6.mono HB5.out.size))
      clear hB6
      go_wp2_with fail
      go_ret
      exact ⟨by simp, HB6.out⟩
    · go_wp2_with fail
      refine DC.out.mono ?_
      rintro e' w4 ⟨rfl, hB4⟩
      simp only [partsOf]
      have HB4 := hid (HB3.out.trans (hB4.mono HB3.out.size))
      clear hB4
      go_wp2_with fail
      refine (H1'.out _ (Below.alloc HB4.out HB4.out.size _) _ _ (by omega) (by omega)).mono ?_
      rintro e' w5 ⟨rfl, hB5⟩
      have cA : w5.cell? ⟨w4.heap.size, 2, none⟩ = some (.int .u64 4503599627370496) := by rw [hB5.cell (p := ⟨w4.heap.size, 2, none⟩) (by simp)]; simp only [World.cell?, heap_alloc_new]; rfl
      have cB : w5.cell? ⟨w4.heap.size, 3, none⟩ = some (.int .i64 ((E : Int) - 1074)) := by rw [hB5.cell (p := ⟨w4.heap.size, 3, none⟩) (by simp)]; simp only [World.cell?, heap_alloc_new]; rfl
      have HB5 := hid ((Below.alloc HB4.out HB4.out.size _).trans (hB5.mono (Below.alloc HB4.out HB4.out.size _).size))
      clear hB5
      go_wp2_with fail
      refine (H2'.out _ HB5.out _ _ (by omega) (by omega)).mono ?_
      rintro e' w6 ⟨rfl, hB6⟩
      have HB6 := hid (HB5.out.trans (hB6.mono HB5.out.size))
      clear hB6
      go_wp2_with fail
      go_ret
      exact ⟨by simp, HB6.out⟩
    · subst hv
      go_wp2_with fail
      refine DC.out.mono ?_
      rintro e' w4 ⟨rfl, hB4⟩
      simp only [partsOf]
      have HB4 := hid (HB3.out.trans (hB4.mono HB3.out.size))
      clear hB4
      go_wp2_with fail
      refine (H1'.out _ (Below.alloc HB4.out HB4.out.size _) _ _ (by omega) (by omega)).mono ?_
      rintro e' w5 ⟨rfl, hB5⟩
      have cA : w5.cell? ⟨w4.heap.size, 2, none⟩ = some (.int .u64 4503599627370496) := by rw [hB5.cell (p := ⟨w4.heap.size, 2, none⟩) (by simp)]; simp only [World.cell?, heap_alloc_new]; rfl
      have cB : w5.cell? ⟨w4.heap.size, 3, none⟩ = some (.int .i64 ((E : Int) - 1074)) := by rw [hB5.cell (p := ⟨w4.heap.size, 3, none⟩) (by simp)]; simp only [World.cell?, heap_alloc_new]; rfl
      have HB5 := hid ((Below.alloc HB4.out HB4.out.size _).trans (hB5.mono (Below.alloc HB4.out HB4.out.size _).size))
      clear hB5
      go_wp2_with fail
      refine (H2'.out _ HB5.out _ _ (by omega) (by omega)).mono ?_
      rintro e' w6 ⟨rfl, hB6⟩
      have HB6 := hid (HB5.out.trans (hB6.mono HB5.out.size))
      clear hB6
      go_wp2_with fail
      go_ret
      exact ⟨by simp, HB6.out⟩
    · go_wp2_with fail
      refine DC.out.mono ?_
      rintro e' w4 ⟨rfl, hB4⟩
      simp only [partsOf]
      have HB4 := hid (HB3.out.trans (hB4.mono HB3.out.size))
      clear hB4
      go_wp2_with fail
      refine (H1'.out _ (Below.alloc HB4.out HB4.out.size _) _ _ (by omega) (by omega)).mono ?_
      rintro e' w5 ⟨rfl, hB5⟩
      have cA : w5.cell? ⟨w4.heap.size, 2, none⟩ = some (.int .u64 4503599627370496) := by rw [hB5.cell (p := ⟨w4.heap.size, 2, none⟩) (by simp)]; simp only [World.cell?, heap_alloc_new]; rfl
      have cB : w5.cell? ⟨w4.heap.size, 3, none⟩ = some (.int .i64 ((E : Int) - 1074)) := by rw [hB5.cell (p := ⟨w4.heap.size, 3, none⟩) (by simp)]; simp only [World.cell?, heap_alloc_new]; rfl
      have HB5 := hid ((Below.alloc HB4.out HB4.out.size _).trans (hB5.mono (Below.alloc HB4.out HB4.out.size _).size))
      clear hB5
      go_wp2_with fail
      refine (H2'.out _ HB5.out _ _ (by omega) (by omega)).mono ?_
      rintro e' w6 ⟨rfl, hB6⟩
      have HB6 := hid (HB5.out.trans (hB6.mono HB5.out.size))
      clear hB6
      go_wp2_with fail
      go_ret
      exact ⟨by simp, HB6.out⟩
    · clear hv
      go_wp2_with fail
      refine DC.out.mono ?_
      rintro e' w4 ⟨rfl, hB4⟩
      simp only [partsOf]
      have HB4 := hid (HB3.out.trans (hB4.mono HB3.out.size))
      clear hB4
      go_wp2_with fail
      refine (H1'.out _ (Below.alloc HB4.out HB4.out.size _) _ _ (by omega) (by omega)).mono ?_
      rintro e' w5 ⟨rfl, hB5⟩
      have cA : w5.cell? ⟨w4.heap.size, 2, none⟩ = some (.int .u64 4503599627370496) := by rw [hB5.cell (p := ⟨w4.heap.size, 2, none⟩) (by simp)]; simp only [World.cell?, heap_alloc_new]; rfl
      have cB : w5.cell? ⟨w4.heap.size, 3, none⟩ = some (.int .i64 ((E : Int) - 1074)) := by rw [hB5.cell (p := ⟨w4.heap.size, 3, none⟩) (by simp)]; simp only [World.cell?, heap_alloc_new]; rfl
      have HB5 := hid ((Below.alloc HB4.out HB4.out.size _).trans (hB5.mono (Below.alloc HB4.out HB4.out.size _).size))
      clear hB5
      go_wp2_with fail
      refine (H2'.out _ HB5.out _ _ (by omega) (by omega)).mono ?_
      rintro e' w6 ⟨rfl, hB6⟩
      have HB6 := hid (HB5.out.trans (hB6.mono HB5.out.size))
      clear hB6
      go_wp2_with fail
      go_ret
      exact ⟨by simp, HB6.out⟩
  · subst p1
    have p3 : -1074 < (E : Int) - 1074 := by omega
    clear p2
    rcases C with rfl | ⟨rfl, rfl⟩ <;> rcases C' with rfl | ⟨rfl, hv⟩
    · go_wp2_with fail
      refine DC.out.mono ?_
      rintro e' w4 ⟨rfl, hB4⟩
      simp only [partsOf]
      have HB4 := hid (HB3.out.trans (hB4.mono HB3.out.size))
      clear hB4
      go_wp2_with fail
      refine (H1'.out _ (Below.alloc HB4.out HB4.out.size _) _ _ (by omega) (by omega)).mono ?_
      rintro e' w5 ⟨rfl, hB5⟩
      have cA : w5.cell? ⟨w4.heap.size, 2, none⟩ = some (.int .u64 4503599627370496) := by rw [hB5.cell (p := ⟨w4.heap.size, 2, none⟩) (by simp)]; simp only [World.cell?, heap_alloc_new]; rfl
      have cB : w5.cell? ⟨w4.heap.size, 3, none⟩ = some (.int .i64 ((E : Int) - 1074)) := by rw [hB5.cell (p := ⟨w4.heap.size, 3, none⟩) (by simp)]; simp only [World.cell?, heap_alloc_new]; rfl
      have HB5 := hid ((Below.alloc HB4.out HB4.out.size _).trans (hB5.mono (Below.alloc HB4.out HB4.out.size _).size))
      clear hB5
      go_wp2_with fail
      refine (H2'.out _ HB5.out _ _ (by omega) (by omega)).mono ?_
      rintro e' w6 ⟨rfl, hB6⟩
      have HB6 := hid (HB5.out.trans (hB6.mono HB5.out.size))
      clear hB6
      go_wp2_with fail
      go_ret
      exact ⟨by simp, HB6.out⟩
    · subst hv
      go_wp2_with fail
      refine DC.out.mono ?_
      rintro e' w4 ⟨rfl, hB4⟩
      simp only [partsOf]
      have HB4 := hid (HB3.out.trans (hB4.mono HB3.out.size))
      clear hB4
      go_wp2_with fail
      refine (H1'.out _ (Below.alloc HB4.out HB4.out.size _) _ _ (by omega) (by omega)).mono ?_
      rintro e' w5 ⟨rfl, hB5⟩
      have cA : w5.cell? ⟨w4.heap.size, 2, none⟩ = some (.int .u64 4503599627370496) := by rw [hB5.cell (p := ⟨w4.heap.size, 2, none⟩) (by simp)]; simp only [World.cell?, heap_alloc_new]; rfl
      have cB : w5.cell? ⟨w4.heap.size, 3, none⟩ = some (.int .i64 ((E : Int) - 1074)) := by rw [hB5.cell (p := ⟨w4.heap.size, 3, none⟩) (by simp)]; simp only [World.cell?, heap_alloc_new]; rfl
      have HB5 := hid ((Below.alloc HB4.out HB4.out.size _).trans (hB5.mono (Below.alloc HB4.out HB4.out.size _).size))
      clear hB5
      go_wp2_with fail
      refine (H2'.out _ HB5.out _ _ (by omega) (by omega)).mono ?_
      rintro e' w6 ⟨rfl, hB6⟩
      have HB6 := hid (HB5.out.trans (hB6.mono HB5.out.size))
      clear hB6
      go_wp2_with fail
      go_ret
      exact ⟨by simp, HB6.out⟩
    · go_wp2_with fail
      refine DC.out.mono ?_
      rintro e' w4 ⟨rfl, hB4⟩
      simp only [partsOf]
      have HB4 := hid (HB3.out.trans (hB4.mono HB3.out.size))
      clear hB4
      go_wp2_with fail
      refine (H1'.out _ (Below.alloc HB4.out HB4.out.size _) _ _ (by omega) (by omega)).mono ?_
      rintro e' w5 ⟨rfl, hB5⟩
      have cA : w5.cell? ⟨w4.heap.size, 2, none⟩ = some (.int .u64 4503599627370496) := by rw [hB5.cell (p := ⟨w4.heap.size, 2, none⟩) (by simp)]; simp only [World.cell?, heap_alloc_new]; rfl
      have cB : w5.cell? ⟨w4.heap.size, 3, none⟩ = some (.int .i64 ((E : Int) - 1074)) := by rw [hB5.cell (p := ⟨w4.heap.size, 3, none⟩) (by simp)]; simp only [World.cell?, heap_alloc_new]; rfl
      have HB5 := hid ((Below.alloc HB4.out HB4.out.size _).trans (hB5.mono (Below.alloc HB4.out HB4.out.size _).size))
      clear hB5
      go_wp2_with fail
      refine (H2'.out _ HB5.out _ _ (by omega) (by omega)).mono ?_
      rintro e' w6 ⟨rfl, hB6⟩
      have HB6 := hid (HB5.out.trans (hB6.mono HB5.out.size))
      clear hB6
      go_wp2_with fail
      go_ret
      exact ⟨by simp, HB6.out⟩
    · clear hv
      go_wp2_with fail
      refine DC.out.mono ?_
      rintro e' w4 ⟨rfl, hB4⟩
      simp only [partsOf]
      have HB4 := hid (HB3.out.trans (hB4.mono HB3.out.size))
      clear hB4
      go_wp2_with fail
      refine (H1'.out _ (Below.alloc HB4.out HB4.out.size _) _ _ (by omega) (by omega)).mono ?_
      rintro e' w5 ⟨rfl, hB5⟩
      have cA : w5.cell? ⟨w4.heap.size, 2, none⟩ = some (.int .u64 4503599627370496) := by rw [hB5.cell (p := ⟨w4.heap.size, 2, none⟩) (by simp)]; simp only [World.cell?, heap_alloc_new]; rfl
      have cB : w5.cell? ⟨w4.heap.size, 3, none⟩ = some (.int .i64 ((E : Int) - 1074)) := by rw [hB5.cell (p := ⟨w4.heap.size, 3, none⟩) (by simp)]; simp only [World.cell?, heap_alloc_new]; rfl
      have HB5 := hid ((Below.alloc HB4.out HB4.out.size _).trans (hB5.mono (Below.alloc HB4.out HB4.out.size _).size))
      clear hB5
      go_wp2_with fail
      refine (H2'.out _ HB5.out _ _ (by omega) (by omega)).mono ?_
      rintro e' w6 ⟨rfl, hB6⟩
      have HB6 := hid (HB5.out.trans (hB6.mono HB5.out.size))
      clear hB6
      go_wp2_with fail
      go_ret
      exact ⟨by simp, HB6.out⟩
end Go.Proofs.YtpnjafacoeinnaaDoor
