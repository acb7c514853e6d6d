/-
  Texts put together: FCuts, FTab.
-/
import Derived.Test.YtbdbpjghmejfjaaGreatDoorRI
import Derived.Test.YtbdbpjghmejfjaaGreatDoorRJ
import Derived.Test.YtbdbpjghmejfjaaGreatDoorRH
import Derived.Deep.RegionHeld3
import Derived.Test.YtbdbpjghmejfjaaGreatDoorRF
import Derived.Lib.LaidTab
namespace Go.Proofs.YtbdbpjghmejfjaaGreatDoor
open Go Go.RowKit Go.Deep

set_option maxRecDepth 100000 in
set_option maxHeartbeats 8000000 in
theorem cuts_law (d n : Int) (w : World) (hT : Tab w) (h0 : 0 ≤ d) (h1 : d < 18446744073709551616) (n0 : -9223372036854775808 ≤ n) (n1 : n ≤ 9223372036854775807) :
    Calls Tryz.prog 6 #[.int .u64 d, .int .i64 n] w fun e w' => e = .returned (.bool true) ∧ Below w.heap.size w w' := by
  have PF : Hid (Calls Tryz.prog 19 #[.int .u64 4652002910794678272, .int .i64 3] w fun e w' => e = .returned (.tuple #[.string ⟨#[49, 48, 48]⟩, .int .i64 3, .int .i64 0]) ∧ Below w.heap.size w w') := by
    refine (figures_any 4652002910794678272 3 w hT (by omega) (by omega)).mono ?_
    rintro e w' ⟨s, rfl, hs, hB⟩
    obtain ⟨r, a, b⟩ := Fx.fg9995
    rw [a] at hs
    have e1 : s = ⟨#[49, 48, 48]⟩ := hs.inj rfl
    rw [r, b, e1]
    exact ⟨rfl, hB⟩
  have PA : Hid (∀ wx : World, Below w.heap.size w wx → Calls Tryz.prog 21 #[.int .u64 4652002910794678272] wx fun e w' => e = .returned (.tuple #[.agg #[.bool false, .string ⟨#[57, 57, 57, 53]⟩, .int .i64 (-1)], .int .i64 0]) ∧ Below wx.heap.size wx w') := by
    intro wx hB
    refine (fall_any 4652002910794678272 wx (hT.below hB) (by omega) (by omega)).mono ?_
    rintro e w' ⟨s, rfl, hs, hB⟩
    obtain ⟨a, b, c, g⟩ := Fx.al9995
    rw [b] at hs
    have e1 : s = ⟨#[57, 57, 57, 53]⟩ := hs.inj rfl
    rw [a, c, g, e1]
    exact ⟨rfl, hB⟩
  have FI := hid (fun wx : World => lfinite_any d wx h0 h1)
  have HBA : Hid (∀ wx : World, Below wx.heap.size wx (wx.alloc (.cells #[.bool false, .string ⟨#[57, 57, 57, 53]⟩, .int .i64 (-1)] 48))) := fun wx => alloc_b wx _
  by_cases hf : Ie.fnt d = true
  · have AN := Ib.sign_andNot d h0 h1
    obtain ⟨a, ha⟩ : ∃ a, d % 9223372036854775808 = a := ⟨_, rfl⟩
    rw [ha] at AN
    by_cases hz : a = 0
    · subst hz
      rw [hf] at FI
      clear hT h0 h1 hf ha
      go_enter Tryz.func6, Tryz.ntmps6
      go_wp2_with fail
      refine PF.out.mono ?_
      rintro e w1 ⟨rfl, B1⟩
      have HB1 := hid B1
      have PA1 := hid (PA.out w1 B1)
      clear B1 PF PA
      go_wp2_with fail
      refine PA1.out.mono ?_
      rintro e w2 ⟨rfl, B2⟩
      have hb := HB1.out.trans (B2.mono HB1.out.size)
      go_upto_region 3 with fail
      have HZ := hid (FR3.new w2 (.bool false) (.string ⟨#[57, 57, 57, 53]⟩) (.int .i64 (-1)))
      have HGE := hid hb.size
      have HB2 := hid (hb.trans ((HBA.out w2).mono hb.size))
      clear B2 HB1 PA1 HBA hb
      generalize w2.alloc (.cells #[.bool false, .string ⟨#[57, 57, 57, 53]⟩, .int .i64 (-1)] 48) = wA at *
      generalize w2.heap.size = b at *
      obtain ⟨⟨c0, c1, c2⟩, q0, q1, q2⟩ := HZ.out.cells
      go_wp2_with fail
      refine (FI.out _).mono ?_
      rintro e wz ⟨rfl, hz⟩
      replace hz := hz.symm
      subst hz
      clear FI
      go_wp2_with fail
      go_ret
      exact ⟨rfl, HB2.out⟩
    · have hz' : (a == 0) = false := by rw [beq_eq_false_iff_ne]; exact hz
      rcases (show n < 1 ∨ (1 ≤ n ∧ 4200 < n) ∨ (1 ≤ n ∧ n ≤ 4200) by omega) with hn | ⟨hn, hn2⟩ | ⟨hn, hn2⟩
      · rw [hf] at FI
        clear hT h0 h1 hf ha
        go_enter Tryz.func6, Tryz.ntmps6
        go_wp2_with fail
        refine PF.out.mono ?_
        rintro e w1 ⟨rfl, B1⟩
        have HB1 := hid B1
        have PA1 := hid (PA.out w1 B1)
        clear B1 PF PA
        go_wp2_with fail
        refine PA1.out.mono ?_
        rintro e w2 ⟨rfl, B2⟩
        have hb := HB1.out.trans (B2.mono HB1.out.size)
        go_upto_region 3 with fail
        have HZ := hid (FR3.new w2 (.bool false) (.string ⟨#[57, 57, 57, 53]⟩) (.int .i64 (-1)))
        have HGE := hid hb.size
        have HB2 := hid (hb.trans ((HBA.out w2).mono hb.size))
        clear B2 HB1 PA1 HBA hb
        generalize w2.alloc (.cells #[.bool false, .string ⟨#[57, 57, 57, 53]⟩, .int .i64 (-1)] 48) = wA at *
        generalize w2.heap.size = b at *
        obtain ⟨⟨c0, c1, c2⟩, q0, q1, q2⟩ := HZ.out.cells
        go_wp2_with fail
        refine (FI.out _).mono ?_
        rintro e wz ⟨rfl, hz⟩
        replace hz := hz.symm
        subst hz
        clear FI
        go_wp2_with fail
        go_ret
        exact ⟨rfl, HB2.out⟩
      · rw [hf] at FI
        clear hT h0 h1 hf ha
        go_enter Tryz.func6, Tryz.ntmps6
        go_wp2_with fail
        refine PF.out.mono ?_
        rintro e w1 ⟨rfl, B1⟩
        have HB1 := hid B1
        have PA1 := hid (PA.out w1 B1)
        clear B1 PF PA
        go_wp2_with fail
        refine PA1.out.mono ?_
        rintro e w2 ⟨rfl, B2⟩
        have hb := HB1.out.trans (B2.mono HB1.out.size)
        go_upto_region 3 with fail
        have HZ := hid (FR3.new w2 (.bool false) (.string ⟨#[57, 57, 57, 53]⟩) (.int .i64 (-1)))
        have HGE := hid hb.size
        have HB2 := hid (hb.trans ((HBA.out w2).mono hb.size))
        clear B2 HB1 PA1 HBA hb
        generalize w2.alloc (.cells #[.bool false, .string ⟨#[57, 57, 57, 53]⟩, .int .i64 (-1)] 48) = wA at *
        generalize w2.heap.size = b at *
        obtain ⟨⟨c0, c1, c2⟩, q0, q1, q2⟩ := HZ.out.cells
        go_wp2_with fail
        refine (FI.out _).mono ?_
        rintro e wz ⟨rfl, hz⟩
        replace hz := hz.symm
        subst hz
        clear FI
        go_wp2_with fail
        go_ret
        exact ⟨rfl, HB2.out⟩
      · obtain ⟨k, rfl⟩ := Int.eq_ofNat_of_zero_le (show 0 ≤ n by omega)
        have hk : k ≤ 4200 := by omega
        have hk1 : 1 ≤ k := by omega
        obtain ⟨r1, r2, r3, r4, r5⟩ := Fx.X_room hf
        obtain ⟨xdg, xne⟩ := Fx.X_digs hf
        have PL2 : Hid (∀ wx : World, Below w.heap.size w wx → Calls Tryz.prog 21 #[.int .u64 d] wx fun e w' => ∃ s, e = .returned (.tuple #[.agg #[.bool (decide (9223372036854775808 ≤ d)), .string s, .int .i64 (Fx.P d)], .int .i64 0]) ∧ Str s (Fx.X d) ∧ Below wx.heap.size wx w') := by
          intro wx hB
          refine (fall_any d wx (hT.below hB) h0 h1).mono ?_
          rintro e w' ⟨s, rfl, hs, hB⟩
          rw [Fx.aS, if_pos hf] at hs
          rw [Fx.aN, Fx.aE, Fx.aR, if_pos hf, if_pos hf, hf, Bool.true_and]
          exact ⟨s, rfl, hs, hB⟩
        obtain ⟨f1, f2, f3, f4⟩ := Fx.fig_cut hf hk1 hk
        have FG : Hid (∀ wx : World, Below w.heap.size w wx → Calls Tryz.prog 19 #[.int .u64 d, .int .i64 (k : Int)] wx fun e w' => ∃ s, e = .returned (.tuple #[.string s, .int .i64 (Fx.gK d k), .int .i64 0]) ∧ Str s ((Fx.kp (Fx.X d) k).take k) ∧ Below wx.heap.size wx w') := by
          intro wx hB
          refine (figures_any d k wx (hT.below hB) h0 h1).mono ?_
          rintro e w' ⟨s, rfl, hs, hB⟩
          rw [f1] at hs
          exact ⟨s, by rw [Fx.rf_zero.2 ⟨hf, by omega, by omega⟩], hs, hB⟩
        obtain ⟨g1, g2, -, -, -, g6, -⟩ := Fx.pA_facts hf hk
        have PP : Hid (∀ wx : World, Below w.heap.size w wx → Calls Tryz.prog 9 #[.int .u64 d, .int .i64 (k : Int)] wx fun e w' => ∃ s t, e = .returned (.tuple #[.string s, .string t, .int .i64 0]) ∧ Str (s ++ t) (Fx.W d k) ∧ t.size = k ∧ (s.size : Int) ≤ 6000 ∧ Below wx.heap.size wx w') := by
          intro wx hB
          refine (places_any d k wx (hT.below hB) h0 h1).mono ?_
          rintro e w' ⟨s, t, rfl, hs, ht, hB⟩
          refine ⟨s, t, by rw [Fx.rf_zero.2 ⟨hf, by omega, by omega⟩], ?_, by rw [ht.size, g2], by rw [hs.size]; omega, hB⟩
          rw [← g1]
          exact hs.app ht
        have RW : Hid (∀ (wx : World) (s : ByteArray) (j : Nat), Str s (Fx.X d ++ List.replicate k 48) → j ≤ (Fx.X d).length + k → Calls Tryz.prog 22 #[.string s, .int .i64 (j : Int)] wx fun e w' => ∃ s', e = .returned (.string s') ∧ Str s' (Fx.kp (Fx.X d) j) ∧ Below wx.heap.size wx w') := by
          intro wx s j hs hj
          have := lrounded_any s _ j wx hs (Fx.digs_z xdg k) (by simp; omega) (by simp; omega)
          rw [Fx.rd_z xdg hj] at this
          exact this
        have ZR := hid (fun wx : World => lzeros_any k wx (by omega))
        obtain ⟨c, hc⟩ : ∃ c, (Fx.X d).length + Fx.P d + (k : Int) = c := ⟨_, rfl⟩
        have WW : Hid (∀ z, z = k + 1 - (Fx.kp (Fx.X d) c).length → Fx.W d k = List.replicate z 48 ++ Fx.kp (Fx.X d) c) := by
          intro z hz
          unfold Fx.W
          rw [hc, hz]
        have VB : (Fx.kp (Fx.X d) c).length ≤ 6000 := by
          have := Fx.kp_len_le (xs := Fx.X d) (c := c) (m := 5999) (by omega) (by omega)
          omega
        have KN : Hid (c < 0 → Str ⟨#[]⟩ (Fx.kp (Fx.X d) c)) := fun h => by rw [Fx.kp_neg h]; rfl
        have KF : Hid (∀ (j : Nat) (s t : ByteArray), c = ((Fx.X d).length + k + j : Nat) → Str s (Fx.X d ++ List.replicate k 48) → Str t (List.replicate j 48) → Str (s ++ t) (Fx.kp (Fx.X d) c)) := by
          intro j s t hj hs ht
          have h := hs.app ht
          rw [List.append_assoc, List.replicate_append_replicate] at h
          rw [hj, Fx.kp_full (by omega), show (Fx.X d).length + k + j - (Fx.X d).length = k + j by omega]
          exact h
        obtain ⟨L, hL⟩ : ∃ L, (Fx.X d).length = L := ⟨_, rfl⟩
        have SX : Hid (∀ s : ByteArray, Str s (Fx.X d) → s.size = L ∧ (s.toList == []) = false ∧ s.toList.isEmpty = false) := fun s hs => ⟨by rw [hs.size, hL], (hs.ne' xne).1, (hs.ne' xne).2⟩
        have SR : Hid (∀ s : ByteArray, Str s (Fx.X d ++ List.replicate k 48) → s.size = L + k) := fun s hs => by rw [hs.size, List.length_append, List.length_replicate, hL]
        rw [hL] at r1 r2 r4 r5 f2 hc RW KF
        rw [hf] at FI
        obtain ⟨v, hv⟩ : ∃ v, (Fx.kp (Fx.X d) (k : Int)).length = v := ⟨_, rfl⟩
        have SV : Hid (∀ s : ByteArray, Str s (Fx.kp (Fx.X d) (k : Int)) → s.size = v) := fun s hs => by rw [hs.size, hv]
        obtain ⟨v2, hv2⟩ : ∃ v2, (Fx.kp (Fx.X d) c).length = v2 := ⟨_, rfl⟩
        have SV2 : Hid (∀ s : ByteArray, Str s (Fx.kp (Fx.X d) c) → s.size = v2) := fun s hs => by rw [hs.size, hv2]
        rw [hv] at f2 f3 f4
        have VL : Hid ((Fx.kp (Fx.X d) c).length = v2) := hv2
        rw [hv2] at VB
        have CUT : Hid (∀ s t : ByteArray, Str s ((Fx.kp (Fx.X d) (k : Int)).take k) → Str t (Fx.kp (Fx.X d) (k : Int)) → (s.toList == (t.extract 0 k).toList) = true) := by
          intro s t hs ht
          have e := ht.extract 0 k
          rw [List.drop_zero, Nat.sub_zero] at e
          rw [hs.eq e]
          exact decide_eq_true rfl
        obtain ⟨y, hy⟩ : ∃ y, Fx.gK d k = y := ⟨_, rfl⟩
        rw [hy] at FG f2
        have p0 : -1074 ≤ Fx.P d := r3
        have p1 : Fx.P d ≤ 308 := by omega
        have RWK : Hid (∀ (wx : World) (s : ByteArray), Str s (Fx.X d ++ List.replicate k 48) → Calls Tryz.prog 22 #[.string s, .int .i64 (k : Int)] wx fun e w' => ∃ s', e = .returned (.string s') ∧ Str s' (Fx.kp (Fx.X d) (k : Int)) ∧ Below wx.heap.size wx w') := fun wx s hs => RW.out wx s k hs (by omega)
        have RWC : Hid (∀ (wx : World) (s : ByteArray) (j : Nat), Str s (Fx.X d ++ List.replicate k 48) → c = (j : Int) → j ≤ L + k → Calls Tryz.prog 22 #[.string s, .int .i64 (j : Int)] wx fun e w' => ∃ s', e = .returned (.string s') ∧ Str s' (Fx.kp (Fx.X d) c) ∧ Below wx.heap.size wx w') := fun wx s j hs hj hj2 => by rw [hj]; exact RW.out wx s j hs hj2
        clear hT h0 hf ha f1 g1 g2 g6 hL hv hv2 hy r3 RW xdg xne hz
        have APP : Hid (∀ s t : ByteArray, Str s (Fx.X d) → Str t (List.replicate k 48) → Str (s ++ t) (Fx.X d ++ List.replicate k 48)) := fun s t hs ht => hs.app ht
        generalize Fx.P d = P at *
        generalize Fx.W d k = WD at *
        generalize Fx.kp (Fx.X d) c = V2 at *
        generalize Fx.kp (Fx.X d) (k : Int) = V1 at *
        generalize Fx.X d ++ List.replicate k 48 = XZ at *
        generalize Fx.X d = X at *
        obtain ⟨tp, htp⟩ : ∃ tp, (L : Int) - 1 + P = tp := ⟨_, rfl⟩
        have ty : tp + (v : Int) - (k : Int) = y := by omega
        have tc : tp + 1 + (k : Int) = c := by omega
        have lb : (L : Int) ≤ 1383 := by omega
        have l1 : (1 : Int) ≤ (L : Int) := by omega
        have vb : (v : Int) ≤ 4201 := by omega
        have vk : (k : Int) ≤ (v : Int) := by omega
        have v2b : (v2 : Int) ≤ 6000 := by omega
        clear f2
        generalize hsn : decide (9223372036854775808 ≤ d) = sn at *
        clear hsn
        go_enter Tryz.func6, Tryz.ntmps6
        go_wp2_with fail
        refine PF.out.mono ?_
        rintro e w1 ⟨rfl, B1⟩
        have HB1 := hid B1
        have PA1 := hid (PA.out w1 B1)
        clear B1 PF PA
        go_wp2_with fail
        refine PA1.out.mono ?_
        rintro e w2 ⟨rfl, B2⟩
        have hb := HB1.out.trans (B2.mono HB1.out.size)
        go_upto_region 3 with fail
        have HZ := hid (FR3.new w2 (.bool false) (.string ⟨#[57, 57, 57, 53]⟩) (.int .i64 (-1)))
        have HGE := hid hb.size
        have HB2 := hid (hb.trans ((HBA.out w2).mono hb.size))
        clear B2 HB1 PA1 HBA hb
        generalize w2.alloc (.cells #[.bool false, .string ⟨#[57, 57, 57, 53]⟩, .int .i64 (-1)] 48) = wA at *
        generalize w2.heap.size = b at *
        obtain ⟨⟨c0, c1, c2⟩, q0, q1, q2⟩ := HZ.out.cells
        go_wp2_with fail
        refine (FI.out _).mono ?_
        rintro e wz ⟨rfl, hz⟩
        replace hz := hz.symm
        subst hz
        clear FI
        go_wp2_with fail
        refine (PL2.out _ HB2.out).mono ?_
        rintro e w3 ⟨s, rfl, hs, B3⟩
        have HS := hid hs
        obtain ⟨s1, s2, s3⟩ := SX.out s hs
        have HB3 := hid (HB2.out.trans (B3.mono HB2.out.size))
        have HZ3 := hid (HZ.out.below B3 HZ.out.lt)
        have ZP := hid (HZ3.out.put (.bool sn) (.string s) (.int .i64 P))
        have BP := hid (fset3_below (u0 := .bool sn) (u1 := .string s) (u2 := .int .i64 P) HB3.out HGE.out)
        clear c0 c1 c2 q0 q1 q2 B3 PL2 HB2 HZ HB3 HGE SX hs
        obtain ⟨⟨c0, c1, c2⟩, q0, q1, q2⟩ := HZ3.out.cells
        clear HZ3
        go_upto_region 8 with fail
        clear c0 c1 c2 q0 q1 q2
        generalize ((w3.setCell ⟨b, 0, none⟩ (.bool sn)).setCell ⟨b, 1, none⟩ (.string s)).setCell ⟨b, 2, none⟩ (.int .i64 P) = w4 at *
        obtain ⟨SS, KS, CS, BS, MS⟩ := state (fun w' => w'.cell? ⟨b, 1, none⟩ = some (.string s) ∧ w'.cell? ⟨b, 2, none⟩ = some (.int .i64 P)) w ((Stays.cell _ _).and (Stays.cell _ _))
        have S4 := hid (MS.out _ ⟨ZP.out.cells.1.2.1, ZP.out.cells.1.2.2⟩ BP.out)
        clear MS BP ZP
        obtain ⟨c1, c2⟩ := CS.out _ S4.out
        go_upto_region 10 with fail
        have S1 := hid (KS.out _ _ S4.out (drew_nil _))
        have hLk : ¬ 9223372036854775807 < L + k := by omega
        have hLk2 : L + k ≤ 9223372036854775807 := by omega
        go_region_held3 (fun w' => w'.cell? ⟨b, 1, none⟩ = some (.string s) ∧ w'.cell? ⟨b, 2, none⟩ = some (.int .i64 P)) (first | (with_reducible exact CS.out _ S5.out) | (with_reducible exact CS.out _ S1.out)) (first
          | (go_at_call 20; refine (ZR.out _).mono ?_; rintro e w5 ⟨t, rfl, ht, hB⟩; have S5 := hid (KS.out _ _ S1.out hB); have HT5 := hid ht; have tz : t.size = k := ht.size.trans List.length_replicate; clear hB ht))
        clear hLk hLk2
        all_goals
          have HR := hid (APP.out s t HS.out HT5.out)
          have rsz := SR.out _ HR.out
          clear APP SR S1 S4 c1 c2 ZR HS HT5
          generalize s ++ t = row at *
          obtain ⟨c1, c2⟩ := CS.out _ S5.out
          have R5 := hid (RWK.out w5 row HR.out)
          clear RWK
          go_wp2_with fail
          refine R5.out.mono ?_
          rintro e w6 ⟨wt, rfl, hwt, B6⟩
          have S6 := hid (KS.out _ _ S5.out B6)
          have wsz := SV.out wt hwt
          have HW := hid hwt
          clear hwt B6 S5 R5 SV c1 c2
          go_wp2_with fail
          refine (FG.out _ (BS.out _ S6.out)).mono ?_
          rintro e w7 ⟨fs, rfl, hfs, B7⟩
          have S7 := hid (KS.out _ _ S6.out B7)
          have EC := CUT.out fs wt hfs HW.out
          have EN : (fs.toList != (wt.extract 0 k).toList) = false := by simp [bne, EC]
          clear hfs B7 S6 CUT FG HW
          go_wp2_with fail
          refine (PP.out _ (BS.out _ S7.out)).mono ?_
          rintro e w8 ⟨s6, t6, rfl, h6, t6z, s6z, B8⟩
          have S8 := hid (KS.out _ _ S7.out B8)
          have HP6 := hid h6
          clear h6 B8 S7 PP EC EN
          rcases (show c < 0 ∨ (0 ≤ c ∧ c ≤ (L : Int) + k) ∨ (0 ≤ c ∧ (L : Int) + k < c) by omega) with hc0 | ⟨hc0, hc1⟩ | ⟨hc0, hc1⟩
          · have HW2 := hid (KN.out hc0)
            have z2 := SV2.out _ HW2.out
            have v20 : v2 = 0 := by rw [← z2]; rfl
            clear z2
            have S9 := S8
            clear S8 KN KF RWC SV2
            obtain ⟨z, hz⟩ : ∃ z : Nat, (k : Int) + 1 = (z : Int) := ⟨k + 1, by omega⟩
            have Z6 := hid (fun wx : World => lzeros_any z wx (by omega))
            have WE1 : Hid (∀ t : ByteArray, Str t (List.replicate z 48) → ((s6 ++ t6).toList == (t ++ (⟨#[]⟩ : ByteArray)).toList) = true ∧ (t.size : Int) ≤ 10000) := by
              intro t ht
              refine ⟨?_, by rw [ht.size, List.length_replicate]; omega⟩
              have h : Str (t ++ (⟨#[]⟩ : ByteArray)) (List.replicate z 48 ++ V2) := ht.app HW2.out
              rw [HP6.out.eq h]
              exact decide_eq_true (WW.out z (by have := VL.out; omega))
            clear v20 v2b VB VL
            go_wp2_with fail
            refine (Z6.out _).mono ?_
            rintro e w10 ⟨t, rfl, ht, B10⟩
            obtain ⟨EQ, tz⟩ := WE1.out t ht
            have S10 := hid (KS.out _ _ S9.out B10)
            clear B10 ht WE1 Z6
            go_wp2_with fail
            go_ret
            exact ⟨rfl, BS.out _ S10.out⟩
          · obtain ⟨j, hj⟩ := Int.eq_ofNat_of_zero_le hc0
            have R8 := hid (RWC.out w8 row j HR.out hj (by omega))
            have hjl : (j : Int) ≤ ((L + k : Nat) : Int) := by omega
            have hj0 : (0 : Int) ≤ (j : Int) := by omega
            clear KN KF RWC
            subst hj
            go_wp2_with fail
            refine R8.out.mono ?_
            rintro e w9 ⟨wt2, rfl, hw2, B9⟩
            have S9 := hid (KS.out _ _ S8.out B9)
            have z2 := SV2.out wt2 hw2
            have HW2 := hid hw2
            clear hw2 B9 S8 R8 SV2
            by_cases hv : v2 ≤ k
            · obtain ⟨z, hz⟩ : ∃ z : Nat, (k : Int) + 1 - (v2 : Int) = (z : Int) := ⟨k + 1 - v2, by omega⟩
              have Z6 := hid (fun wx : World => lzeros_any z wx (by omega))
              have hvi : (v2 : Int) ≤ (k : Int) := by omega
              have WE1 : Hid (∀ t : ByteArray, Str t (List.replicate z 48) → ((s6 ++ t6).toList == (t ++ wt2).toList) = true ∧ (t.size : Int) ≤ 10000) := by
                intro t ht
                refine ⟨?_, by rw [ht.size, List.length_replicate]; omega⟩
                have h : Str (t ++ wt2) (List.replicate z 48 ++ V2) := ht.app HW2.out
                rw [HP6.out.eq h]
                exact decide_eq_true (WW.out z (by have := VL.out; omega))
              go_wp2_with fail
              refine (Z6.out _).mono ?_
              rintro e w10 ⟨t, rfl, ht, B10⟩
              obtain ⟨EQ, tz⟩ := WE1.out t ht
              have S10 := hid (KS.out _ _ S9.out B10)
              clear B10 ht WE1 Z6
              go_wp2_with fail
              go_ret
              exact ⟨rfl, BS.out _ S10.out⟩
            · have hvi : ¬ (v2 : Int) ≤ (k : Int) := by omega
              have EQ : ((s6 ++ t6).toList == wt2.toList) = true := by
                rw [HP6.out.eq HW2.out]
                exact decide_eq_true (by have := WW.out 0 (by have := VL.out; omega); simpa using this)
              go_wp2_with fail
              go_ret
              exact ⟨rfl, BS.out _ S9.out⟩
          · obtain ⟨j, hj⟩ : ∃ j : Nat, c - ((L : Int) + (k : Int)) = (j : Int) := ⟨(c - ((L : Int) + (k : Int))).toNat, by omega⟩
            have Z8 := hid (fun wx : World => lzeros_any j wx (by omega))
            have hjl : ¬ c ≤ (L : Int) + (k : Int) := by omega
            have hjg : (L : Int) + (k : Int) < c := by omega
            have hlk : (L : Int) + (k : Int) ≤ 6000 := by omega
            have cb : c ≤ 6000 := by omega
            have HJ := hid hj
            clear KN RWC
            go_wp2_with fail
            refine (Z8.out _).mono ?_
            rintro e w9 ⟨tz9, rfl, ht9, B9⟩
            have S9 := hid (KS.out _ _ S8.out B9)
            have HW2 := hid (KF.out j row tz9 (by have := HJ.out; omega) HR.out ht9)
            have z2 := SV2.out _ HW2.out
            have tz9s : (tz9.size : Int) ≤ 6000 := by rw [ht9.size, List.length_replicate]; omega
            clear ht9 B9 S8 Z8 KF SV2
            go_upto_region 25 with fail
            generalize row ++ tz9 = wt2 at *
            by_cases hv : v2 ≤ k
            · obtain ⟨z, hz⟩ : ∃ z : Nat, (k : Int) + 1 - (v2 : Int) = (z : Int) := ⟨k + 1 - v2, by omega⟩
              have Z6 := hid (fun wx : World => lzeros_any z wx (by omega))
              have hvi : (v2 : Int) ≤ (k : Int) := by omega
              have WE1 : Hid (∀ t : ByteArray, Str t (List.replicate z 48) → ((s6 ++ t6).toList == (t ++ wt2).toList) = true ∧ (t.size : Int) ≤ 10000) := by
                intro t ht
                refine ⟨?_, by rw [ht.size, List.length_replicate]; omega⟩
                have h : Str (t ++ wt2) (List.replicate z 48 ++ V2) := ht.app HW2.out
                rw [HP6.out.eq h]
                exact decide_eq_true (WW.out z (by have := VL.out; omega))
              go_wp2_with fail
              refine (Z6.out _).mono ?_
              rintro e w10 ⟨t, rfl, ht, B10⟩
              obtain ⟨EQ, tz⟩ := WE1.out t ht
              have S10 := hid (KS.out _ _ S9.out B10)
              clear B10 ht WE1 Z6
              go_wp2_with fail
              go_ret
              exact ⟨rfl, BS.out _ S10.out⟩
            · have hvi : ¬ (v2 : Int) ≤ (k : Int) := by omega
              have EQ : ((s6 ++ t6).toList == wt2.toList) = true := by
                rw [HP6.out.eq HW2.out]
                exact decide_eq_true (by have := WW.out 0 (by have := VL.out; omega); simpa using this)
              go_wp2_with fail
              go_ret
              exact ⟨rfl, BS.out _ S9.out⟩
  · have hf' : Ie.fnt d = false := by simpa using hf
    rw [hf'] at FI
    clear hT h0 h1 hf hf'
    go_enter Tryz.func6, Tryz.ntmps6
    go_wp2_with fail
    refine PF.out.mono ?_
    rintro e w1 ⟨rfl, B1⟩
    have HB1 := hid B1
    have PA1 := hid (PA.out w1 B1)
    clear B1 PF PA
    go_wp2_with fail
    refine PA1.out.mono ?_
    rintro e w2 ⟨rfl, B2⟩
    have hb := HB1.out.trans (B2.mono HB1.out.size)
    go_upto_region 3 with fail
    have HZ := hid (FR3.new w2 (.bool false) (.string ⟨#[57, 57, 57, 53]⟩) (.int .i64 (-1)))
    have HGE := hid hb.size
    have HB2 := hid (hb.trans ((HBA.out w2).mono hb.size))
    clear B2 HB1 PA1 HBA hb
    generalize w2.alloc (.cells #[.bool false, .string ⟨#[57, 57, 57, 53]⟩, .int .i64 (-1)] 48) = wA at *
    generalize w2.heap.size = b at *
    obtain ⟨⟨c0, c1, c2⟩, q0, q1, q2⟩ := HZ.out.cells
    go_wp2_with fail
    refine (FI.out _).mono ?_
    rintro e wz ⟨rfl, hz⟩
    replace hz := hz.symm
    subst hz
    clear FI
    go_wp2_with fail
    go_ret
    exact ⟨rfl, HB2.out⟩
end Go.Proofs.YtbdbpjghmejfjaaGreatDoor

namespace Go.Proofs.YtbdbpjghmejfjaaGreatDoor
open Go Go.RowKit Go.Deep

theorem tab_laid : (Rows.laid_math_bits_deBruijn64tab : DataW Unit) = Lib.tabData .u8 (List.map Int.ofNat Lib.deBruijn64tab) := by kernel_rfl

theorem tab_of {W : World} {rest : List (String × DataW Unit)} (h : laidMet Tryz.prog (("math/bits.deBruijn64tab", Rows.laid_math_bits_deBruijn64tab) :: rest) W) : Tab W := by
  rw [tab_laid] at h
  have ht := Lib.tabIs_of_head (g := 0) (t := 99) (e := 5) (n := 64) (k := .u8) (zs := List.map Int.ofNat Lib.deBruijn64tab) (by kernel_rfl) (by kernel_rfl) Tryz.underlying99 Tryz.underlying5 (by kernel_rfl) (by kernel_rfl) h
  intro j hj
  have hl : (List.map Int.ofNat Lib.deBruijn64tab).length = Lib.deBruijn64tab.length := by simp
  rw [ht.cell (g := 0) (by kernel_rfl) j (by omega)]
  simp [List.getD, hj]

end Go.Proofs.YtbdbpjghmejfjaaGreatDoor
