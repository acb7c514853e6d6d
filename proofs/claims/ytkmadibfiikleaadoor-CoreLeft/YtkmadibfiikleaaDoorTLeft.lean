/-
  CoreLeft.
-/
import Derived.Test.YtkmadibfiikleaaDoorXA
import Derived.Test.YtkmadibfiikleaaDoorIO
namespace Go.Proofs.YtkmadibfiikleaaDoor
open Go.RowKit Go.Deep

theorem larg2 (w : World) (a b : Int) (a0 : 0 ≤ a) (a1 : a < 18446744073709551616) (b0 : 0 ≤ b) (b1 : b < 18446744073709551616) :
    Arg (w.alloc (.cells #[.int .u64 a, .int .u64 b] 22)) (some ⟨w.heap.size, 0, none⟩) 2 2 [a, b] ∧ Below w.heap.size w (w.alloc (.cells #[.int .u64 a, .int .u64 b] 22)) :=
  ⟨⟨rfl, Nat.le_refl _, by decide, (Own.alloc w [a, b]).lies, Nm.Limbs.mk a0 a1 (Nm.Limbs.mk b0 b1 Nm.Limbs.nil)⟩, (Below.refl _ _).alloc (Nat.le_refl _) _⟩

set_option maxRecDepth 100000 in
set_option maxHeartbeats 4000000 in
theorem left_law (a b : Int) (w : World) (a0 : 0 ≤ a) (a1 : a < 18446744073709551616) (b0 : 0 ≤ b) (b1 : b < 18446744073709551616) (hT : Tab w) :
    Calls Tryd.prog 4 #[.int .u64 a, .int .u64 b] w fun e w' => e = .returned (.bool true) ∧ Below w.heap.size w w' := by
  have TT := hid (fun (wx : World) (h : Below w.heap.size w wx) => hT.below h)
  have TR : Hid (∀ wx w' : World, Below w.heap.size w wx → Below wx.heap.size wx w' → Below w.heap.size w w') := fun wx w' x y => x.trans (y.mono x.size)
  have F0 := hid (fmod_any 4619567317775286272 4613937818241073152 w hT (by decide) (by decide) (by decide) (by decide))
  have FA := hid (fun (wx : World) (h : Below w.heap.size w wx) => fmod_any a b wx (TT.out wx h) a0 a1 b0 b1)
  have CA := hid (fun (wx : World) => class_any a wx a0 a1)
  have CB := hid (fun (wx : World) => class_any b wx b0 b1)
  have na := Ie.cls_cases a
  have nb := Ie.cls_cases b
  obtain ⟨ca, hca⟩ : ∃ c, Ie.cls a = c := ⟨_, rfl⟩
  obtain ⟨cb, hcb⟩ : ∃ c, Ie.cls b = c := ⟨_, rfl⟩
  rw [hca] at CA na
  rw [hcb] at CB nb
  have HCA := hid hca
  have HCB := hid hcb
  have i3 : Hid (∀ d, Ie.isi d = true ↔ Ie.cls d = 3) := fun d => by rw [← Ie.isi_cls, beq_iff_eq]
  have i4 : Hid (∀ d, Ie.isn d = true ↔ Ie.cls d = 4) := fun d => by rw [← Ie.isn_cls, beq_iff_eq]
  have i0 : Hid (∀ d, Ie.isz d = true ↔ Ie.cls d = 0) := fun d => by rw [← Ie.isz_cls, beq_iff_eq]
  clear hT hca hcb
  by_cases h1 : ca < 3 ∧ cb = 3
  · obtain ⟨g1, rfl⟩ := h1
    have LE : Hid (∀ r, Ie.LeftIs a b false r → r = a) := fun r h => h.2.1 (Ga.fin_cls (by rw [HCA.out]; omega) (by rw [HCA.out]; omega)) ((i3.out b).2 HCB.out)
    clear na nb
    go_enter Tryd.func4, Tryd.ntmps4
    go_wp2_with fail
    refine F0.out.mono ?_
    rintro e w1 ⟨r1, rfl, k1, hB⟩
    have er := Ga.fmod73 k1
    subst er
    have B1 := hid hB
    have F1 := hid (FA.out w1 hB)
    clear hB k1 F0
    go_wp2_with fail
    refine F1.out.mono ?_
    rintro e w2 ⟨r, rfl, k2, hB⟩
    have B2 := hid (TR.out _ _ B1.out hB)
    have K2 := hid k2
    clear hB k2 F1 B1
    have er := LE.out r K2.out
    subst er
    go_wp2_with fail
    refine (CA.out _).mono ?_
    rintro e wz ⟨rfl, hz⟩
    replace hz := hz.symm
    subst hz
    go_wp2_with fail
    refine (CB.out _).mono ?_
    rintro e wz ⟨rfl, hz⟩
    replace hz := hz.symm
    subst hz
    go_wp2_with fail
    go_ret
    exact ⟨rfl, B2.out⟩
  · by_cases h2 : 3 ≤ ca
    · have LE : Hid (∀ r, Ie.LeftIs a b false r → r = 9221120237041090560) := fun r h => h.1 (by rw [i3.out, i4.out, HCA.out]; omega)
      have g1 : ¬ ca < 3 := by omega
      clear na nb h1
      go_enter Tryd.func4, Tryd.ntmps4
      go_wp2_with fail
      refine F0.out.mono ?_
      rintro e w1 ⟨r1, rfl, k1, hB⟩
      have er := Ga.fmod73 k1
      subst er
      have B1 := hid hB
      have F1 := hid (FA.out w1 hB)
      clear hB k1 F0
      go_wp2_with fail
      refine F1.out.mono ?_
      rintro e w2 ⟨r, rfl, k2, hB⟩
      have B2 := hid (TR.out _ _ B1.out hB)
      have K2 := hid k2
      clear hB k2 F1 B1
      have er := LE.out r K2.out
      subst er
      go_wp2_with fail
      refine (CA.out _).mono ?_
      rintro e wz ⟨rfl, hz⟩
      replace hz := hz.symm
      subst hz
      go_wp2_with fail
      refine (CA.out _).mono ?_
      rintro e wz ⟨rfl, hz⟩
      replace hz := hz.symm
      subst hz
      go_wp2_with fail
      go_ret
      exact ⟨rfl, B2.out⟩
    · have g1 : ca < 3 := by omega
      have g2 : (cb == 3) = false := beq_eq_false_iff_ne.2 (fun q => h1 ⟨g1, q⟩)
      have g3 : ¬ 3 ≤ ca := h2
      by_cases h3 : cb = 4
      · have LE : Hid (∀ r, Ie.LeftIs a b false r → r = 9221120237041090560) := fun r h => h.1 (.inr (.inl ((i4.out b).2 (by rw [HCB.out]; exact h3))))
        subst h3
        clear na nb h1 h2
        go_enter Tryd.func4, Tryd.ntmps4
        go_wp2_with fail
        refine F0.out.mono ?_
        rintro e w1 ⟨r1, rfl, k1, hB⟩
        have er := Ga.fmod73 k1
        subst er
        have B1 := hid hB
        have F1 := hid (FA.out w1 hB)
        clear hB k1 F0
        go_wp2_with fail
        refine F1.out.mono ?_
        rintro e w2 ⟨r, rfl, k2, hB⟩
        have B2 := hid (TR.out _ _ B1.out hB)
        have K2 := hid k2
        clear hB k2 F1 B1
        have er := LE.out r K2.out
        subst er
        go_wp2_with fail
        refine (CA.out _).mono ?_
        rintro e wz ⟨rfl, hz⟩
        replace hz := hz.symm
        subst hz
        go_wp2_with fail
        refine (CB.out _).mono ?_
        rintro e wz ⟨rfl, hz⟩
        replace hz := hz.symm
        subst hz
        go_wp2_with fail
        refine (CA.out _).mono ?_
        rintro e wz ⟨rfl, hz⟩
        replace hz := hz.symm
        subst hz
        go_wp2_with fail
        refine (CB.out _).mono ?_
        rintro e wz ⟨rfl, hz⟩
        replace hz := hz.symm
        subst hz
        go_wp2_with fail
        go_ret
        exact ⟨rfl, B2.out⟩
      · have c3 : cb ≠ 3 := fun q => h1 ⟨g1, q⟩
        have g4 : ¬ 3 ≤ cb := by omega
        by_cases h5 : cb = 0
        · have LE : Hid (∀ r, Ie.LeftIs a b false r → r = 9221120237041090560) := fun r h => h.1 (.inr (.inr (.inr ((i0.out b).2 (by rw [HCB.out]; exact h5)))))
          subst h5
          clear na nb h1 h2 c3 h3
          go_enter Tryd.func4, Tryd.ntmps4
          go_wp2_with fail
          refine F0.out.mono ?_
          rintro e w1 ⟨r1, rfl, k1, hB⟩
          have er := Ga.fmod73 k1
          subst er
          have B1 := hid hB
          have F1 := hid (FA.out w1 hB)
          clear hB k1 F0
          go_wp2_with fail
          refine F1.out.mono ?_
          rintro e w2 ⟨r, rfl, k2, hB⟩
          have B2 := hid (TR.out _ _ B1.out hB)
          have K2 := hid k2
          clear hB k2 F1 B1
          have er := LE.out r K2.out
          subst er
          go_wp2_with fail
          refine (CA.out _).mono ?_
          rintro e wz ⟨rfl, hz⟩
          replace hz := hz.symm
          subst hz
          go_wp2_with fail
          refine (CB.out _).mono ?_
          rintro e wz ⟨rfl, hz⟩
          replace hz := hz.symm
          subst hz
          go_wp2_with fail
          refine (CA.out _).mono ?_
          rintro e wz ⟨rfl, hz⟩
          replace hz := hz.symm
          subst hz
          go_wp2_with fail
          refine (CB.out _).mono ?_
          rintro e wz ⟨rfl, hz⟩
          replace hz := hz.symm
          subst hz
          go_wp2_with fail
          refine (CB.out _).mono ?_
          rintro e wz ⟨rfl, hz⟩
          replace hz := hz.symm
          subst hz
          go_wp2_with fail
          go_ret
          exact ⟨rfl, B2.out⟩
        · have g5 : (cb == 0) = false := beq_eq_false_iff_ne.2 h5
          have fa : Ie.fin a := Ga.fin_cls (by rw [HCA.out]; omega) (by rw [HCA.out]; omega)
          have fb : Ie.fin b := Ga.fin_cls (by rw [HCB.out]; omega) (by rw [HCB.out]; omega)
          have zb : Ie.ab b ≠ 0 := fun q => h5 (by rw [← HCB.out]; exact (i0.out b).1 (by rw [Ie.isz, decide_eq_true q]))
          have bb0 := (Ie.ab_bd b).1
          have bB : 0 < Ie.un (Ie.ab b) := Ie.un_pos (by omega)
          have RM := hid (fun (wx : World) (h : Below w.heap.size w wx) => remainder_any a b wx (TT.out wx h) a0 a1 b0 b1)
          have AB : Hid (∀ wx : World, Calls Tryd.prog 13 #[.int .u64 b] wx fun e w' => e = .returned (.int .u64 (Ie.ab b)) ∧ w' = wx) := fun wx => abs_any b wx b0 b1
          obtain ⟨bb, hbb⟩ : ∃ x, Ie.ab b = x := ⟨_, rfl⟩
          have fb' : bb < 9218868437227405312 := by rw [← hbb]; exact fb
          rw [hbb] at AB bb0 bB
          have bbp : 0 < bb := by rw [hbb] at zb; omega
          have FA' := hid fa
          have FB' := hid fb
          have ZB' := hid zb
          have HBB := hid hbb
          clear na nb h1 h2 c3 h3 fa fb zb h5 hbb bb0
          go_enter Tryd.func4, Tryd.ntmps4
          go_wp2_with fail
          refine F0.out.mono ?_
          rintro e w1 ⟨r1, rfl, k1, hB⟩
          have er := Ga.fmod73 k1
          subst er
          have B1 := hid hB
          have F1 := hid (FA.out w1 hB)
          clear hB k1 F0
          go_wp2_with fail
          refine F1.out.mono ?_
          rintro e w2 ⟨r, rfl, k2, hB⟩
          have B2 := hid (TR.out _ _ B1.out hB)
          have K2 := hid k2
          clear hB k2 F1 B1
          obtain ⟨y, hr, y0, y1, uy⟩ := Ga.left_got FA'.out FB'.out ZB'.out K2.out
          rw [Bool.bne_false] at hr
          obtain ⟨s1, s2, s3, s4, s5⟩ := Ga.sg_parts (neg := Ie.ngd a) y0 y1
          rw [← hr] at s1 s2 s3 s4 s5
          have lt : y < bb := by
            have l1 := Int.emod_lt_of_pos (Ie.un (Ie.ab a)) bB
            rw [HBB.out, Ie.lft, if_neg (by decide)] at uy
            rcases (show y < bb ∨ bb ≤ y by omega) with q | q
            · exact q
            · have := Ie.un_le (by omega) q
              omega
          have AR : Hid (∀ wx : World, Calls Tryd.prog 13 #[.int .u64 r] wx fun e w' => e = .returned (.int .u64 y) ∧ w' = wx) := fun wx => by
            have := abs_any r wx s3.1 s3.2
            rwa [s1] at this
          have C1 : Hid (∀ wx : World, Calls Tryd.prog 12 #[.int .u64 y, .int .u64 bb] wx fun e w' => e = .returned (.tuple #[.int .i64 (-1), .bool true]) ∧ w' = wx) := fun wx => by
            have := compare_any y bb wx (by omega) (by omega) (by omega) (by omega)
            rwa [Ga.cmv_pos (by omega) (by omega) (by omega) (by omega), if_pos lt, Ga.okd_fin (by omega) (by omega), Ga.okd_fin (by omega) (by omega), Bool.and_self] at this
          have aq : a / 9223372036854775808 = r / 9223372036854775808 := by
            rw [s2, Ie.ngd]
            by_cases q : 9223372036854775808 ≤ a
            · rw [decide_eq_true q, if_pos rfl]; omega
            · rw [decide_eq_false q, if_neg (by decide)]; omega
          obtain ⟨t, ht⟩ : ∃ t, r / 9223372036854775808 = t := ⟨_, rfl⟩
          rw [ht] at aq
          have RM2 := hid (RM.out w2 B2.out)
          have UR := hid s4
          have FR := hid s5
          have UY := hid uy
          obtain ⟨r0, r1'⟩ := s3
          clear s1 s2 s4 s5 uy lt hr K2 RM
          go_wp2_with fail
          refine (CA.out _).mono ?_
          rintro e wz ⟨rfl, hz⟩
          replace hz := hz.symm
          subst hz
          go_wp2_with fail
          refine (CB.out _).mono ?_
          rintro e wz ⟨rfl, hz⟩
          replace hz := hz.symm
          subst hz
          go_wp2_with fail
          refine (CA.out _).mono ?_
          rintro e wz ⟨rfl, hz⟩
          replace hz := hz.symm
          subst hz
          go_wp2_with fail
          refine (CB.out _).mono ?_
          rintro e wz ⟨rfl, hz⟩
          replace hz := hz.symm
          subst hz
          go_wp2_with fail
          refine (CB.out _).mono ?_
          rintro e wz ⟨rfl, hz⟩
          replace hz := hz.symm
          subst hz
          go_wp2_with fail
          refine (AR.out _).mono ?_
          rintro e wz ⟨rfl, hz⟩
          replace hz := hz.symm
          subst hz
          go_wp2_with fail
          refine (AB.out _).mono ?_
          rintro e wz ⟨rfl, hz⟩
          replace hz := hz.symm
          subst hz
          go_wp2_with fail
          refine (C1.out _).mono ?_
          rintro e wz ⟨rfl, hz⟩
          replace hz := hz.symm
          subst hz
          go_wp2_with fail
          refine RM2.out.mono ?_
          rintro e w3 ⟨near, rfl, k3, hB⟩
          have B3 := hid (TR.out _ _ B2.out hB)
          obtain ⟨up, hup⟩ : ∃ u, Ie.rup (Ie.un (Ie.ab a)) (Ie.un (Ie.ab b)) = u := ⟨_, rfl⟩
          rw [hup] at k3
          obtain ⟨y2, hn, z0, z1, uz⟩ := Ga.left_got FA'.out FB'.out ZB'.out k3
          obtain ⟨n1, n2, n3, n4, n5⟩ := Ga.sg_parts (neg := (Ie.ngd a != up)) z0 z1
          rw [← hn] at n1 n2 n3 n4 n5
          have half := Ga.rup_half (A := Ie.un (Ie.ab a)) (B := Ie.un (Ie.ab b)) (by rw [HBB.out]; exact bB)
          rw [hup, ← uz, HBB.out] at half
          have AN : Hid (∀ wx : World, Calls Tryd.prog 13 #[.int .u64 near] wx fun e w' => e = .returned (.int .u64 y2) ∧ w' = wx) := fun wx => by
            have := abs_any near wx n3.1 n3.2
            rwa [n1] at this
          have AD := hid (softAdd_any y2 y2 w3 z0 (by omega) z0 (by omega) (TT.out _ B3.out))
          have TW : Hid (∀ s f, Ie.AddIs y2 y2 s f → 0 ≤ s ∧ s ≤ bb) := fun s f h => Ga.twice_le z0 z1 (by omega) fb' half.1 h
          have AW : Hid (∀ d, (Ga.none.dots ([r, near].zip [4607182418800017408, 13830554455654793216])).Is 1 d → (0 ≤ d ∧ d < 18446744073709551616) ∧ (Ie.ab d = 0 ∨ Ie.ab d = bb)) := fun d h => by
            have e1 : Ie.uv near = Ie.sn (Ie.ngd a != up) (if up = true then Ie.un bb - Ie.un (Ie.ab a) % Ie.un bb else Ie.un (Ie.ab a) % Ie.un bb) := by
              rw [n4, uz, HBB.out, Ie.lft]
            have e2 : Ie.uv r = Ie.sn (Ie.ngd a) (Ie.un (Ie.ab a) % Ie.un bb) := by
              rw [UR.out, UY.out, HBB.out, Ie.lft, if_neg (by decide)]
            exact Ga.away_is FR.out n5 bb bbp fb' rfl e2 e1 h
          obtain ⟨m0, m1⟩ := n3
          clear hB k3 hn n1 n2 n4 n5 uz half hup RM2 AR C1 B2 UR UY FR
          go_wp2_with fail
          refine (AN.out _).mono ?_
          rintro e wz ⟨rfl, hz⟩
          replace hz := hz.symm
          subst hz
          go_wp2_with fail
          refine (AN.out _).mono ?_
          rintro e wz ⟨rfl, hz⟩
          replace hz := hz.symm
          subst hz
          go_wp2_with fail
          refine AD.out.mono ?_
          rintro e w4 ⟨s, f4, rfl, k4, hB⟩
          have B4 := hid (TR.out _ _ B3.out hB)
          obtain ⟨q0, q1⟩ := TW.out s f4 k4
          obtain ⟨cv, hcv, cv0⟩ : ∃ cv, Ie.cmv s bb = cv ∧ ¬ 0 < cv := ⟨_, rfl, by rw [Ga.cmv_pos (by omega) (by omega) (by omega) (by omega)]; split <;> (try split) <;> omega⟩
          have C2 : Hid (∀ wx : World, Calls Tryd.prog 12 #[.int .u64 s, .int .u64 bb] wx fun e w' => e = .returned (.tuple #[.int .i64 cv, .bool true]) ∧ w' = wx) := fun wx => by
            have := compare_any s bb wx (by omega) (by omega) (by omega) (by omega)
            rwa [hcv, Ga.okd_fin (by omega) (by omega), Ga.okd_fin (by omega) (by omega), Bool.and_self] at this
          have NO : Hid (∀ wx : World, Calls Tryd.prog 16 #[.int .u64 4607182418800017408] wx fun e w' => e = .returned (.int .u64 13830554455654793216) ∧ w' = wx) := fun wx => neg_any 4607182418800017408 wx (by decide) (by decide)
          obtain ⟨x1', y1'⟩ := larg2 w4 r near r0 r1' m0 m1
          obtain ⟨x2', y2'⟩ := larg2 (w4.alloc (.cells #[.int .u64 r, .int .u64 near] 22)) 4607182418800017408 13830554455654793216 (by decide) (by decide) (by decide) (by decide)
          have s8 : (w4.alloc (.cells #[.int .u64 r, .int .u64 near] 22)).heap.size = w4.heap.size + 1 := by simp
          have b9 := TR.out _ _ (TR.out _ _ B4.out y1') y2'
          have D9 := dot_any _ _ 2 2 2 [r, near] [4607182418800017408, 13830554455654793216] _ (x1'.below y2' (Nat.le_refl _)) x2' (TT.out _ b9)
          rw [s8] at D9
          have D9 := hid D9
          have B9 := hid b9
          clear hB k4 hcv x1' y1' x2' y2' b9 s8 AD TW AN B3 B4
          go_wp2_with fail
          refine (AB.out _).mono ?_
          rintro e wz ⟨rfl, hz⟩
          replace hz := hz.symm
          subst hz
          go_wp2_with fail
          refine (C2.out _).mono ?_
          rintro e wz ⟨rfl, hz⟩
          replace hz := hz.symm
          subst hz
          go_wp2_with fail
          refine (NO.out _).mono ?_
          rintro e wz ⟨rfl, hz⟩
          replace hz := hz.symm
          subst hz
          go_wp2_with fail
          refine D9.out.mono ?_
          rintro e w9 ⟨d, rfl, E9, hB⟩
          obtain ⟨⟨d0, d1⟩, hd⟩ := AW.out d E9.out
          have B10 := hid (TR.out _ _ B9.out hB)
          have CD := hid (fun (wx : World) => class_any d wx d0 d1)
          have AD := hid (fun (wx : World) => abs_any d wx d0 d1)
          rcases hd with hd | hd
          · rw [(i0.out d).1 (by rw [Ie.isz, decide_eq_true hd])] at CD
            clear hB E9 D9 B9 AW AD hd
            go_wp2_with fail
            refine (CD.out _).mono ?_
            rintro e wz ⟨rfl, hz⟩
            replace hz := hz.symm
            subst hz
            go_wp2_with fail
            go_ret
            exact ⟨rfl, B10.out⟩
          · have dn : (Ie.cls d == 0) = false := beq_eq_false_iff_ne.2 (fun q => by
              have := (i0.out d).2 q
              rw [Ie.isz, decide_eq_true_iff, hd] at this
              omega)
            obtain ⟨cd, hcd⟩ : ∃ c, Ie.cls d = c := ⟨_, rfl⟩
            rw [hcd] at CD dn
            rw [show d % 9223372036854775808 = bb from hd] at AD
            clear hB E9 D9 B9 AW hd hcd
            go_wp2_with fail
            refine (CD.out _).mono ?_
            rintro e wz ⟨rfl, hz⟩
            replace hz := hz.symm
            subst hz
            go_wp2_with fail
            refine (AD.out _).mono ?_
            rintro e wz ⟨rfl, hz⟩
            replace hz := hz.symm
            subst hz
            go_wp2_with fail
            refine (AB.out _).mono ?_
            rintro e wz ⟨rfl, hz⟩
            replace hz := hz.symm
            subst hz
            go_wp2_with fail
            go_ret
            exact ⟨rfl, B10.out⟩
end Go.Proofs.YtkmadibfiikleaaDoor
