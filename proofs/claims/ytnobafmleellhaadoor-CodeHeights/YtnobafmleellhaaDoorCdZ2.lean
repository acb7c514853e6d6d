/-
  abacuslaw26: CodeHeights, where a code is taken (mkcdz2.py).
-/
import Derived.Test.YtnobafmleellhaaDoorCdZ
namespace Go.Proofs.YtnobafmleellhaaDoor
open Go Go.RowKit Go.Deep Go.Shelf

theorem cd_neg (x : Int) (h : -1 ≤ x) (h2 : ¬ 0 ≤ x) : x = -1 := by omega
set_option maxRecDepth 100000 in
set_option maxHeartbeats 8000000 in
theorem heights_ok (l : List Cd.In) (nums : List Int) (strs : List ByteArray) (p q r : Option Addr) (cap c2 c3 : Nat) (w : World) (hT : Tab10 w) (hL : Cd.LI w p l) (hQ : Cd.NI w q nums) (hR : TR w r strs) (hU : Cd.U64 nums) (hZ : ∀ s ∈ strs, s.size ≤ 9223372036854775807) (hn : l.length ≤ 9223372036854775807) (hN : nums.length ≤ 9223372036854775807) (hS : strs.length ≤ 9223372036854775807)
    (he : (Cd.hts l nums.length strs.length).2.2 = 0) :
    Calls Tryd.prog 5 #[.agg #[.slice p l.length cap, .slice q nums.length c2, .slice r strs.length c3]] w fun e w' => e = .returned (.bool true) ∧ Below w.heap.size w w' := by
  have B1 := hid (alloc_b w (.cells #[.slice p l.length cap, .slice q nums.length c2, .slice r strs.length c3] 31))
  have X1 := hid (Bx.new w 31 #[.slice p l.length cap, .slice q nums.length c2, .slice r strs.length c3])
  have AW : Hid (∀ W, Below w.heap.size w W → _) := fun W hW => caw_any W (ctab10_below hT hW)
  have hc := Cd.chk_ok he
  have GD0 : Cd.GD l nums.length strs.length (Cd.hts l nums.length strs.length).1 (Cd.mx (Cd.hts l nums.length strs.length).1) := by
    have := Cd.gd_of (l := l) (N := nums.length) (S := strs.length) (by rw [hc])
    rwa [hc] at this
  have GR0 := Cd.gr_of he
  have at0 := Cd.hts_at he
  obtain ⟨hs, hhs⟩ : ∃ hs, (Cd.hts l nums.length strs.length).1 = hs := ⟨_, rfl⟩
  obtain ⟨mo, hmo⟩ : ∃ mo, Cd.mx hs = mo := ⟨_, rfl⟩
  rw [hhs, hmo] at GD0
  rw [hhs] at GR0
  rw [hhs, hmo] at hc
  have HE : Hid (∀ W, Below w.heap.size w W → Calls Tryd.prog 12 #[.agg #[.slice p l.length cap, .slice q nums.length c2, .slice r strs.length c3]] W fun e w' => ∃ g, e = .returned (.tuple #[.slice (some ⟨g, 0, none⟩) (l.length + 1) (l.length + 1), .int .i64 0, .int .i64 0]) ∧ Below W.heap.size W w' ∧ W.heap.size ≤ g ∧ Cd.HB w' g hs) := fun W hW => by
    refine (chts_any l p q r cap nums.length c2 strs.length c3 W (hL.on hW) hn hN hS).mono ?_
    rintro e w' ⟨v, rfl, hB, ⟨_, g, rfl, h1, h2, _⟩ | ⟨z, _⟩⟩
    · rw [he, at0]
      rw [hhs] at h2
      exact ⟨g, rfl, hB, h1, h2⟩
    · rw [he] at z; exact absurd z (by decide)
  have CH : Hid (∀ W, Below w.heap.size w W → Calls Tryd.prog 17 #[.agg #[.slice p l.length cap, .slice q nums.length c2, .slice r strs.length c3]] W fun e w' => e = .returned (.tuple #[.int .i64 mo, .int .i64 0, .int .i64 0]) ∧ Below W.heap.size W w') := fun W hW => by
    have := cchk_any l p q r cap nums.length c2 strs.length c3 W (hL.on hW) hn hN hS
    rw [hc] at this
    exact this
  have EN : Hid (∀ W, Below w.heap.size w W → Calls Tryd.prog 13 #[.agg #[.slice p l.length cap, .slice q nums.length c2, .slice r strs.length c3]] W fun e w' => ∃ v err, (err = 0 ∨ err = 3) ∧ e = .returned (.tuple #[v, .int .i64 err]) ∧ Below W.heap.size W w') := fun W hW => by
    have := cenc_any l nums strs p q r cap c2 c3 W (hL.on hW) (hQ.on hW) (hR.below hW (Nat.le_refl _)) hU hZ hn hN hS
    rw [hc] at this
    refine this.mono ?_
    rintro e w' ⟨v, err, rfl, hB, ⟨z, _⟩ | ⟨_, _, rfl, _⟩ | ⟨_, _, rfl, _⟩⟩
    · exact absurd z (by show ¬ (0 : Int) = 260; decide)
    · exact ⟨v, 3, .inr rfl, rfl, hB⟩
    · exact ⟨v, 0, .inl rfl, rfl, hB⟩
  have LS : Hid (∀ W, Below w.heap.size w W → Calls Tryd.prog 18 #[.agg #[.slice p l.length cap, .slice q nums.length c2, .slice r strs.length c3]] W fun e w' => ∃ v err, (err = 0 ∨ err = 3) ∧ e = .returned (.tuple #[.string v, .int .i64 err]) ∧ Below W.heap.size W w') := fun W hW => by
    have := clist_any l nums strs p q r cap c2 c3 W (ctab10_below hT hW) (hL.on hW) (hQ.on hW) (hR.below hW (Nat.le_refl _)) hU hZ hn hN hS
    rw [hc] at this
    refine this.mono ?_
    rintro e w' ⟨v, err, rfl, hB, ⟨z, _⟩ | ⟨_, _, rfl, _⟩ | ⟨_, _, rfl, _⟩⟩
    · exact absurd z (by show ¬ (0 : Int) = 260; decide)
    · exact ⟨v, 3, .inr rfl, rfl, hB⟩
    · exact ⟨v, 0, .inl rfl, rfl, hB⟩
  have L0 := hid hL
  have G := hid GD0
  have GR := hid GR0
  have GX : Hid (∀ i, i < l.length → ∃ x, l[i]? = some x) := fun i hi => ⟨_, List.getElem?_eq_getElem hi⟩
  have MT : Hid (∀ k, k < l.length + 1 → (hs.take (k + 1)).foldl max 0 = max ((hs.take k).foldl max 0) (hs.getD k 0)) := fun k hk => Cd.mx_take (by rw [GR0.len]; exact hk)
  have ME : Hid ((hs.take (l.length + 1)).foldl max 0 = mo) := by rw [Hid, List.take_of_length_le (by rw [GR0.len]; omega)]; exact hmo
  have T0 : Hid (∀ k, 0 ≤ (hs.take k).foldl max 0) := fun k => by
    have key : ∀ (l : List Int) (d : Int), d ≤ l.foldl max d := by
      intro l
      induction l with
      | nil => intro d; exact Int.le_refl _
      | cons a l ih => intro d; exact Int.le_trans (Int.le_max_left _ _) (ih _)
    exact key _ _
  have RA : Hid (∀ i R, Cd.RI l hs i R → i ≤ l.length → R.getD i false = decide (0 ≤ hs.getD i 0)) := fun i R h hi => Cd.ri_at h GD0 GR0 hi
  have RS : Hid (∀ i R, Cd.RI l hs i R → (¬ 0 ≤ hs.getD i 0 ∨ l.length ≤ i) → Cd.RI l hs (i + 1) R) := fun i R h h0 => Cd.ri_skip h h0
  have RT : Hid (∀ i R R' x, Cd.RI l hs i R → l[i]? = some x → 0 ≤ hs.getD i 0 → (∀ q, q ≤ l.length → (R'.getD q false = true ↔ (R.getD q false = true ∨ Cd.edg x i q))) → Cd.RI l hs (i + 1) R') := fun i R R' x h hx h0 hR => Cd.ri_step h hx h0 hR
  have R0 := hid (Cd.ri_first l hs)
  have sm := GD0.small
  have fi := GD0.first
  have la := GD0.last
  have mo0 : 0 ≤ mo := by have := GD0.top 0 (by omega); omega
  have mo1 : mo ≤ 32768 := by
    have : ∀ (l : List Int) (d : Int), d ≤ 32768 → (∀ z ∈ l, z ≤ 32768) → l.foldl max d ≤ 32768 := by
      intro l
      induction l with
      | nil => intro d hd _; exact hd
      | cons a l ih => intro d hd ha; exact ih _ (Int.max_le.2 ⟨hd, ha a (List.mem_cons_self ..)⟩) (fun b hb => ha b (List.mem_cons_of_mem _ hb))
    rw [← hmo]
    refine this hs 0 (by decide) (fun z hz => ?_)
    obtain ⟨i, hi⟩ := List.getElem?_of_mem hz
    have := GD0.le i
    rwa [List.getD_eq_getElem?_getD, hi] at this
  have hni : (l.length : Int) ≤ 131072 := by omega
  have HL : Hid (hs.length = l.length + 1) := GR0.len
  clear hc he hL hQ hR hU hZ hn hN hS hT at0 hhs hmo GD0 GR0
  generalize nums.length = N at *
  generalize strs.length = S at *
  generalize hnl : l.length = n at *
  have HNL : Hid (l.length = n) := hnl
  clear hnl
  have MB := cd_makeb (n + 1) (by omega)
  rw [show ((n + 1 : Nat) : Int) = (n : Int) + 1 by omega] at MB
  go_enter Tryd.func5, Tryd.ntmps5
  go_upto_region 1 with fail
  generalize w.alloc (.cells #[.slice p n cap, .slice q N c2, .slice r S c3] 31) = w1 at *
  go_upto_region 3 with (go_at_call 9; with_reducible refine (AW.out _ B1.out).mono ?_; rintro e w2 ⟨rfl, hB⟩; have B2 := hid (below_on B1.out hB); have X2 := hid (X1.out.on hB); obtain ⟨k0, k1, k2⟩ := bx3 X2.out; clear hB AW B1 X1)
  go_upto_region 5 with (go_at_call 12; with_reducible refine (HE.out _ B2.out).mono ?_; rintro e w3 ⟨g, rfl, hB, hg, hh⟩; have B3 := hid (below_on B2.out hB); have X3 := hid (X2.out.on hB); have H3 := hid hh; have gl := hid (Nat.le_trans B2.out.size hg); clear k0 k1 k2; obtain ⟨k0, k1, k2⟩ := bx3 X3.out; clear hB HE B2 X2 hh hg)
  go_upto_region 6 with (go_at_call 17; with_reducible refine (CH.out _ B3.out).mono ?_; rintro e w4 ⟨rfl, hB⟩; have B4 := hid (below_on B3.out hB); have X4 := hid (X3.out.on hB); have H4 := hid (H3.out.on hB); clear k0 k1 k2; obtain ⟨k0, k1, k2⟩ := bx3 X4.out; clear hB CH B3 X3 H3)
  go_upto_region 7 with (go_at_call 13; with_reducible refine (EN.out _ B4.out).mono ?_; rintro e w5 ⟨v5, e5, o5, rfl, hB⟩; have B5 := hid (below_on B4.out hB); have X5 := hid (X4.out.on hB); have H5 := hid (H4.out.on hB); clear k0 k1 k2; obtain ⟨k0, k1, k2⟩ := bx3 X5.out; clear hB EN B4 X4 H4)
  go_upto_region 8 with (go_at_call 18; with_reducible refine (LS.out _ B5.out).mono ?_; rintro e w6 ⟨v6, e6, o6, rfl, hB⟩; have B6 := hid (below_on B5.out hB); have X6 := hid (X5.out.on hB); have H6 := hid (H5.out.on hB); clear k0 k1 k2; clear hB LS B5 X5 H5)
  go_upto_region 12 with fail
  have h0c := H6.out.cell 0 (by rw [HL.out]; omega)
  have hnc := H6.out.cell n (by rw [HL.out]; omega)
  rw [fi] at h0c
  rw [la] at hnc
  have mo2 : decide ((32768 : Int) < mo) = false := decide_eq_false (by omega)
  go_cut [141] (fun v wx => v = .bool false ∧ wx = w6)
  case first =>
    as_aux_lemma =>
      clear G GR GX MT ME T0 RA RS RT R0 MB B6 X6 H6 L0 HL
      rcases o5 with rfl | rfl <;> rcases o6 with rfl | rfl <;>
      · go_wp2_with fail
        go_meet
        exact ⟨rfl, rfl⟩
  case rest =>
    obtain ⟨hc1, rfl⟩ := hcut
    subst hc1
    clear h0c hnc
    have MB6 := MB wc
    have A6 := hid (alloc_b wc (.cells (madeCells #[.bool false] (n + 1)) 4))
    have RB6 : Hid (Cd.RB (wc.alloc (.cells (madeCells #[.bool false] (n + 1)) 4)) wc.heap.size (List.replicate (n + 1) false)) := by
      rw [cd_madeb]; exact Bx.new wc _ _
    have H7 := hid (H6.out.on A6.out)
    have X7 := hid (X6.out.on A6.out)
    have B7 := hid (below_on B6.out A6.out)
    have bl := B6.out.size
    have gl6 := H6.out.lt
    have xl6 := X6.out.lt
    clear H6 X6 B6 A6 MB
    go_upto_region 15 with fail
    clear MB6
    generalize wc.alloc (.cells (madeCells #[.bool false] (n + 1)) 4) = w7 at *
    have gb : g ≠ wc.heap.size := by omega
    have xb : w.heap.size ≠ wc.heap.size := by omega
    generalize wc.heap.size = bb at *
    clear gl6 xl6
    have rc := RB6.out.cell 0 (by rw [List.length_replicate]; omega)
    have rf := RB6.out.free 0
    have J0 : Hid (Cd.RB (w7.setCell ⟨bb, 0, none⟩ (.bool true)) bb ((List.replicate (n + 1) false).set 0 true) ∧ ((List.replicate (n + 1) false).set 0 true).length = n + 1 ∧ Cd.RI l hs 0 ((List.replicate (n + 1) false).set 0 true) ∧ Cd.HB (w7.setCell ⟨bb, 0, none⟩ (.bool true)) g hs ∧ Bx (w7.setCell ⟨bb, 0, none⟩ (.bool true)) w.heap.size 31 #[.slice p n cap, .slice q N c2, .slice r S c3] ∧ Below w.heap.size w (w7.setCell ⟨bb, 0, none⟩ (.bool true))) :=
      ⟨RB6.out.put 0 true, by rw [List.length_set, List.length_replicate], R0.out, Bx.far (show Bx _ _ _ _ from H7.out) (fun e => gb e.symm), X7.out.far (fun e => xb e.symm), B7.out.setCell (p := ⟨bb, 0, none⟩) bl _⟩
    go_upto_region 17 with fail
    clear rc rf H7 X7 B7 RB6 R0
    generalize w7.setCell ⟨bb, 0, none⟩ (.bool true) = w8 at *
    generalize (List.replicate (n + 1) false).set 0 true = RR at *
    go_wp2_with fail
    go_loopg [15, 16] (n + 1) (fun m tv iv wr => ∃ (k : Nat) (R : List Bool), k + m = n + 1 ∧ iv = .int .i64 (k : Int) ∧ tv = .int .i64 ((hs.take k).foldl max 0) ∧ Hid (Cd.RB wr bb R ∧ R.length = n + 1 ∧ Cd.RI l hs k R ∧ Cd.HB wr g hs ∧ Bx wr w.heap.size 31 #[.slice p n cap, .slice q N c2, .slice r S c3] ∧ Below w.heap.size w wr))
    case atStart => exact ⟨0, RR, by omega, rfl, rfl, J0⟩
    case round =>
      obtain ⟨k, R, hk, rfl, rfl, J⟩ := hrel
      clear J0
      by_cases kl : k ≤ n
      · have kli : (k : Int) ≤ (n : Int) := by omega
        have ra := RA.out k R J.out.2.2.1 (by omega)
        have cR := J.out.1.cell k (by rw [J.out.2.1]; omega)
        have cH := J.out.2.2.2.1.cell k (by rw [HL.out]; omega)
        rw [ra] at cR
        have tm := MT.out k (by omega)
        have tt := T0.out k
        have lo := GR.out.low k
        have hile := G.out.le k
        have top1 := G.out.top k
        have SK := RS.out k R J.out.2.2.1
        have JD : Hid (∀ x, Cd.RB (wr.drewN x) bb R ∧ R.length = n + 1 ∧ Cd.HB (wr.drewN x) g hs ∧ Bx (wr.drewN x) w.heap.size 31 #[.slice p n cap, .slice q N c2, .slice r S c3] ∧ Below w.heap.size w (wr.drewN x)) := fun x => ⟨J.out.1, J.out.2.1, J.out.2.2.2.1, J.out.2.2.2.2.1, below_drewN J.out.2.2.2.2.2 x⟩
        by_cases hz : 0 ≤ hs.getD k 0
        · have raT : Hid (R.getD k false = true) := ra.trans (decide_eq_true hz)
          rw [decide_eq_true hz] at cR
          by_cases kn : k = n
          · as_aux_lemma =>
              subst kn
              rw [la] at cH tm
              have m1 : (1 : Int) ≤ mo := by have := top1 hz; omega
              have F := SK (.inr (Nat.le_refl _))
              have FF := hid F
              generalize (hs.take k).foldl max 0 = tp at *
              clear SK top1 hz J G GR GX MT ME T0 RA RS RT L0 F
              go_upto_region 20 with fail
              go_quiet (fail)
              have JX := hid (JD.out nq)
              have cR2 := JX.out.1.cell k (by rw [JX.out.2.1]; omega)
              have cH2 := JX.out.2.2.1.cell k (by rw [HL.out]; omega)
              rw [raT.out] at cR2
              rw [la] at cH2
              generalize wr.drewN nq = wd at *
              clear JD cR cH
              by_cases tc : tp < 1
              · go_wp2_with fail
                go_roundg (k + 1 - (k + 1))
                case measure => omega
                case rel => exact ⟨k + 1, R, by omega, by go_num, by rw [tm]; congr 1; omega, ⟨JX.out.1, JX.out.2.1, FF.out, JX.out.2.2.1, JX.out.2.2.2.1, JX.out.2.2.2.2⟩⟩
              · go_wp2_with fail
                go_roundg (k + 1 - (k + 1))
                case measure => omega
                case rel => exact ⟨k + 1, R, by omega, by go_num, by rw [tm]; congr 1; omega, ⟨JX.out.1, JX.out.2.1, FF.out, JX.out.2.2.1, JX.out.2.2.2.1, JX.out.2.2.2.2⟩⟩
          · have kl' : k < n := by omega
            have kni : ¬ (k : Int) = (n : Int) := by omega
            have knb : ((k : Int) == (n : Int)) = false := beq_false_of_ne kni
            obtain ⟨x, hx⟩ := GX.out k kl'
            obtain ⟨ro, tkh, st1, st2, st3, st4⟩ := G.out.step k x hx hz
            have hm := top1 hz
            obtain ⟨t0, t1, p0, p1⟩ := Cd.tk_rng ro
            obtain ⟨kw1, kw2, kf⟩ := Cd.ok_ft ro
            have EF := hid (fun W => cEffect_any x W)
            rw [Cd.ef_yes ro] at EF
            have JU := hid (fun W => cjmp_any x.w W)
            obtain ⟨b, off, rfl, -⟩ := L0.out.below J.out.2.2.2.2.2 (Nat.le_refl _) k x hx
            have XL : Hid (∀ W, Below w.heap.size w W → W.cell? ⟨b, off + k * 3, none⟩ = some (.int .i64 x.w) ∧ W.cell? ⟨b, off + k * 3 + 1, none⟩ = some (.int .i64 x.a) ∧ W.cell? ⟨b, off + k * 3 + 2, none⟩ = some (.int .i64 x.b)) := fun W hW => by
              obtain ⟨b', o', e, h⟩ := L0.out.below hW (Nat.le_refl _) k x hx
              cases e
              exact h
            have RL := hid J.out.2.1
            have MK : Hid (∀ R', (∀ q, q ≤ n → (R'.getD q false = true ↔ (R.getD q false = true ∨ Cd.edg x k q))) → Cd.RI l hs (k + 1) R') := fun R' h => RT.out k R R' x J.out.2.2.1 hx hz h
            have M27 : Hid (x.w = 27 → ∀ A : Nat, x.a = (A : Int) → A ≤ n → Cd.RI l hs (k + 1) (R.set A true)) := fun e A eA lA => MK.out _ fun q hq => by
              rw [Cd.getD_mark (by rw [RL.out]; omega)]
              refine or_congr_right ?_
              unfold Cd.edg
              omega
            have M28 : Hid ((x.w = 28 ∨ x.w = 29) → ∀ A : Nat, x.a = (A : Int) → A ≤ n → Cd.RI l hs (k + 1) ((R.set (k + 1) true).set A true)) := fun e A eA lA => MK.out _ fun q hq => by
              rw [Cd.getD_mark (by rw [List.length_set, RL.out]; omega), Cd.getD_mark (by rw [RL.out]; omega), or_assoc]
              refine or_congr_right ?_
              unfold Cd.edg
              omega
            have MO : Hid (x.w ≠ 27 → x.w ≠ 28 → x.w ≠ 29 → Cd.RI l hs (k + 1) (R.set (k + 1) true)) := fun e1 e2 e3 => MK.out _ fun q hq => by
              rw [Cd.getD_mark (by rw [RL.out]; omega)]
              refine or_congr_right ?_
              unfold Cd.edg
              omega
            have NR := hid st1
            have FR : Hid ((Cd.rx x).a = 3 → ∃ A : Nat, x.a = (A : Int) ∧ k < A ∧ A ≤ n ∧ hs.getD A 0 = hs.getD k 0 - Cd.tk x + Cd.pt x) := fun e => by
              obtain ⟨e0, e1, e3⟩ := st2 e
              rw [HNL.out] at e1
              exact ⟨x.a.toNat, by omega, by omega, by omega, e3⟩
            have W27 := hid (Cd.w27 (x := x))
            have W28 := hid (Cd.w28 (x := x))
            have W29 := hid (Cd.w29 (x := x))
            clear MK st1 st2 st3 st4 kf hx ro top1 G J GX GR MT ME T0 RA RS RT L0 SK
            generalize (Cd.rx x).a = ra3 at *
            generalize Cd.tk x = t at *
            generalize Cd.pt x = pp at *
            obtain ⟨xw, xa, xc⟩ := x
            simp only at *
            obtain ⟨h, hh⟩ : ∃ h, hs.getD k 0 = h := ⟨_, rfl⟩
            rw [hh] at cH tm lo hile hz hm tkh NR FR
            generalize (hs.take k).foldl max 0 = tp at *
            obtain ⟨tq, tqe⟩ : ∃ tq, (hs.take (k + 1)).foldl max 0 = tq := ⟨_, rfl⟩
            rw [tqe] at tm
            have te := hid tqe
            have tm' := hid tm
            clear tqe tm ra
            have hn1 : ¬ h < -1 := by omega
            have hmn : ¬ mo < h := by omega
            go_upto_region 20 with fail
            go_quiet (fail)
            have JX := hid (JD.out nq)
            generalize wr.drewN nq = wd at *
            clear JD cR cH
            have cR := JX.out.1.cell k (by rw [JX.out.2.1]; omega)
            have cH := JX.out.2.2.1.cell k (by rw [HL.out]; omega)
            rw [raT.out] at cR
            rw [hh] at cH
            go_upto_if 182 with fail
            go_cut [15] (fun v wx => v = .int .i64 tq ∧ wx = wd)
            case first =>
              as_aux_lemma =>
                clear XL EF JU M27 M28 MO W27 W28 W29 FR NR
                by_cases tc : tp < h
                · go_wp2_with fail
                  go_meet
                  exact ⟨by rw [tm'.out, Int.max_eq_right (by omega)], rfl⟩
                · go_wp2_with fail
                  go_meet
                  exact ⟨by rw [tm'.out, Int.max_eq_left (by omega)], rfl⟩
            case rest =>
              obtain ⟨hc1, hc2⟩ := hcut
              subst hc1
              subst hc2
              obtain ⟨c0, c1, c2x⟩ := XL.out _ JX.out.2.2.2.2
              obtain ⟨k0, k1, k2⟩ := bx3 JX.out.2.2.2.1
              have ibb : wc.heap.size ≠ bb := by have := Bx.lt (show Bx _ _ _ _ from JX.out.1); omega
              have J1 : Hid (∀ W, Below (wc.alloc (.cells #[.int .i64 xw, .int .i64 xa, .int .i64 xc] 26)).heap.size (wc.alloc (.cells #[.int .i64 xw, .int .i64 xa, .int .i64 xc] 26)) W → Hid (Cd.RB W bb R ∧ Cd.HB W g hs ∧ Bx W w.heap.size 31 #[.slice (some ⟨b, off, none⟩) n cap, .slice q N c2, .slice r S c3] ∧ Bx W wc.heap.size 26 #[.int .i64 xw, .int .i64 xa, .int .i64 xc] ∧ Below w.heap.size w W)) := fun W hW => by
                have A1 := alloc_b wc (.cells #[.int .i64 xw, .int .i64 xa, .int .i64 xc] 26)
                have hWW : Below wc.heap.size wc W := below_on A1 hW
                exact ⟨JX.out.1.on hWW, JX.out.2.2.1.on hWW, JX.out.2.2.2.1.on hWW, (Bx.new wc 26 #[.int .i64 xw, .int .i64 xa, .int .i64 xc]).on hW, below_on JX.out.2.2.2.2 hWW⟩
              clear JX XL
              have tg : t ≤ h := tkh
              have hcs : xw = 27 ∨ (xw = 28 ∨ xw = 29) ∨ (xw ≠ 27 ∧ xw ≠ 28 ∧ xw ≠ 29) := by omega
              rcases hcs with hw | hw | hw
              · as_aux_lemma =>
                  obtain ⟨A, rfl, A1, A2, vf⟩ := FR.out (W27.out hw)
                  rw [decide_eq_true (show xw = 27 ∨ xw = 28 ∨ xw = 29 by omega), decide_eq_false (show ¬ xw ≠ 27 by omega)] at JU
                  have MM := hid (M27.out hw A rfl A2)
                  have Ak : ¬ (A : Int) ≤ (k : Int) := by omega
                  have An : ¬ (n : Int) < (A : Int) := by omega
                  clear W27 W28 W29 M27 M28 MO FR NR hw cH
                  go_upto_region 27 with (go_at_call 19; with_reducible refine (EF.out _).mono ?_; rintro e w4 ⟨rfl, hB⟩; have J4 := J1.out w4 hB; obtain ⟨y0, y1, y2⟩ := bx3 J4.out.2.2.2.1; have ch := J4.out.2.1.cell k (by rw [HL.out]; omega); rw [hh] at ch; clear hB EF J1 k0 k1 k2 c0 c1 c2x cR)
                  go_upto_region 28 with (go_at_call 20; with_reducible refine (JU.out _).mono ?_; rintro e w4 ⟨rfl, rfl⟩; clear JU)
                  generalize wc.heap.size = ib at *
                  have ch := J4.out.2.1.cell k (by rw [HL.out]; omega)
                  rw [hh] at ch
                  obtain ⟨y0, y1, y2⟩ := bx3 J4.out.2.2.2.1
                  go_upto_region 35 with fail
                  have rc := J4.out.1.cell A (by rw [RL.out]; omega)
                  have rf := J4.out.1.free A
                  have J5 : Hid (Cd.RB (w4.setCell ⟨bb, A, none⟩ (.bool true)) bb (R.set A true) ∧ Cd.HB (w4.setCell ⟨bb, A, none⟩ (.bool true)) g hs ∧ Bx (w4.setCell ⟨bb, A, none⟩ (.bool true)) w.heap.size 31 #[.slice (some ⟨b, off, none⟩) n cap, .slice q N c2, .slice r S c3] ∧ Bx (w4.setCell ⟨bb, A, none⟩ (.bool true)) ib 26 #[.int .i64 xw, .int .i64 (A : Int), .int .i64 xc] ∧ Below w.heap.size w (w4.setCell ⟨bb, A, none⟩ (.bool true))) := ⟨J4.out.1.put A true, Bx.far (show Bx _ _ _ _ from J4.out.2.1) (fun e => gb e.symm), J4.out.2.2.1.far (fun e => xb e.symm), J4.out.2.2.2.1.far (fun e => ibb e.symm), J4.out.2.2.2.2.setCell (p := ⟨bb, A, none⟩) bl _⟩
                  go_upto_region 36 with fail
                  clear rc rf J4 ch y0 y1 y2
                  generalize w4.setCell ⟨bb, A, none⟩ (.bool true) = w7 at *
                  have ch := J5.out.2.1.cell k (by rw [HL.out]; omega)
                  have cn := J5.out.2.1.cell A (by rw [HL.out]; omega)
                  obtain ⟨y0, y1, y2⟩ := bx3 J5.out.2.2.2.1
                  rw [hh] at ch
                  rw [vf] at cn
                  go_quiet (fail)
                  have J4 : Hid (Cd.RB (w7.drewN nq) bb (R.set A true) ∧ Cd.HB (w7.drewN nq) g hs ∧ Bx (w7.drewN nq) w.heap.size 31 #[.slice (some ⟨b, off, none⟩) n cap, .slice q N c2, .slice r S c3] ∧ Bx (w7.drewN nq) ib 26 #[.int .i64 xw, .int .i64 (A : Int), .int .i64 xc] ∧ Below w.heap.size w (w7.drewN nq)) := ⟨J5.out.1, J5.out.2.1, J5.out.2.2.1, J5.out.2.2.2.1, below_drewN J5.out.2.2.2.2 nq⟩
                  generalize w7.drewN nq = w9 at *
                  clear ch cn J5 y0 y1 y2
                  go_wp2_with fail
                  go_roundg (n + 1 - (k + 1))
                  case measure => omega
                  case rel => exact ⟨k + 1, R.set A true, by omega, by go_num, by rw [te.out], ⟨J4.out.1, by simp only [List.length_set]; exact RL.out, MM.out, J4.out.2.1, J4.out.2.2.1, J4.out.2.2.2.2⟩⟩
              · as_aux_lemma =>
                  obtain ⟨A, rfl, A1, A2, vf⟩ := FR.out (by rcases hw with e | e; exact W28.out e; exact W29.out e)
                  have vn := NR.out (by omega)
                  rw [decide_eq_true (show xw = 27 ∨ xw = 28 ∨ xw = 29 by omega), decide_eq_true (show xw ≠ 27 by omega)] at JU
                  have MM := hid (M28.out hw A rfl A2)
                  have Ak : ¬ (A : Int) ≤ (k : Int) := by omega
                  have An : ¬ (n : Int) < (A : Int) := by omega
                  clear W27 W28 W29 M27 M28 MO FR NR hw cH
                  go_upto_region 27 with (go_at_call 19; with_reducible refine (EF.out _).mono ?_; rintro e w4 ⟨rfl, hB⟩; have J4 := J1.out w4 hB; obtain ⟨y0, y1, y2⟩ := bx3 J4.out.2.2.2.1; have ch := J4.out.2.1.cell k (by rw [HL.out]; omega); rw [hh] at ch; clear hB EF J1 k0 k1 k2 c0 c1 c2x cR)
                  go_upto_region 28 with (go_at_call 20; with_reducible refine (JU.out _).mono ?_; rintro e w4 ⟨rfl, rfl⟩; clear JU)
                  generalize wc.heap.size = ib at *
                  go_upto_region 31 with fail
                  have rc := J4.out.1.cell (k + 1) (by rw [RL.out]; omega)
                  have rf := J4.out.1.free (k + 1)
                  have J5 : Hid (Cd.RB (w4.setCell ⟨bb, k + 1, none⟩ (.bool true)) bb (R.set (k + 1) true) ∧ Cd.HB (w4.setCell ⟨bb, k + 1, none⟩ (.bool true)) g hs ∧ Bx (w4.setCell ⟨bb, k + 1, none⟩ (.bool true)) w.heap.size 31 #[.slice (some ⟨b, off, none⟩) n cap, .slice q N c2, .slice r S c3] ∧ Bx (w4.setCell ⟨bb, k + 1, none⟩ (.bool true)) ib 26 #[.int .i64 xw, .int .i64 (A : Int), .int .i64 xc] ∧ Below w.heap.size w (w4.setCell ⟨bb, k + 1, none⟩ (.bool true))) := ⟨J4.out.1.put (k + 1) true, Bx.far (show Bx _ _ _ _ from J4.out.2.1) (fun e => gb e.symm), J4.out.2.2.1.far (fun e => xb e.symm), J4.out.2.2.2.1.far (fun e => ibb e.symm), J4.out.2.2.2.2.setCell (p := ⟨bb, k + 1, none⟩) bl _⟩
                  go_upto_region 32 with fail
                  clear rc rf J4 ch y0 y1 y2
                  generalize w4.setCell ⟨bb, k + 1, none⟩ (.bool true) = w5 at *
                  have ch := J5.out.2.1.cell k (by rw [HL.out]; omega)
                  have cn := J5.out.2.1.cell (k + 1) (by rw [HL.out]; omega)
                  rw [hh] at ch
                  rw [vn] at cn
                  go_quiet (fail)
                  have J4 : Hid (Cd.RB (w5.drewN nq) bb (R.set (k + 1) true) ∧ Cd.HB (w5.drewN nq) g hs ∧ Bx (w5.drewN nq) w.heap.size 31 #[.slice (some ⟨b, off, none⟩) n cap, .slice q N c2, .slice r S c3] ∧ Bx (w5.drewN nq) ib 26 #[.int .i64 xw, .int .i64 (A : Int), .int .i64 xc] ∧ Below w.heap.size w (w5.drewN nq)) := ⟨J5.out.1, J5.out.2.1, J5.out.2.2.1, J5.out.2.2.2.1, below_drewN J5.out.2.2.2.2 nq⟩
                  have RL' : Hid ((R.set (k + 1) true).length = n + 1) := by rw [Hid, List.length_set]; exact RL.out
                  generalize w5.drewN nq = w6 at *
                  clear ch cn J5
                  have ch := J4.out.2.1.cell k (by rw [HL.out]; omega)
                  rw [hh] at ch
                  obtain ⟨y0, y1, y2⟩ := bx3 J4.out.2.2.2.1
                  go_upto_region 35 with fail
                  have rc := J4.out.1.cell A (by rw [RL'.out]; omega)
                  have rf := J4.out.1.free A
                  have J5 : Hid (Cd.RB (w6.setCell ⟨bb, A, none⟩ (.bool true)) bb ((R.set (k + 1) true).set A true) ∧ Cd.HB (w6.setCell ⟨bb, A, none⟩ (.bool true)) g hs ∧ Bx (w6.setCell ⟨bb, A, none⟩ (.bool true)) w.heap.size 31 #[.slice (some ⟨b, off, none⟩) n cap, .slice q N c2, .slice r S c3] ∧ Bx (w6.setCell ⟨bb, A, none⟩ (.bool true)) ib 26 #[.int .i64 xw, .int .i64 (A : Int), .int .i64 xc] ∧ Below w.heap.size w (w6.setCell ⟨bb, A, none⟩ (.bool true))) := ⟨J4.out.1.put A true, Bx.far (show Bx _ _ _ _ from J4.out.2.1) (fun e => gb e.symm), J4.out.2.2.1.far (fun e => xb e.symm), J4.out.2.2.2.1.far (fun e => ibb e.symm), J4.out.2.2.2.2.setCell (p := ⟨bb, A, none⟩) bl _⟩
                  go_upto_region 36 with fail
                  clear rc rf J4 ch y0 y1 y2
                  generalize w6.setCell ⟨bb, A, none⟩ (.bool true) = w8 at *
                  have ch := J5.out.2.1.cell k (by rw [HL.out]; omega)
                  have cn := J5.out.2.1.cell A (by rw [HL.out]; omega)
                  obtain ⟨y0, y1, y2⟩ := bx3 J5.out.2.2.2.1
                  rw [hh] at ch
                  rw [vf] at cn
                  go_quiet (fail)
                  have J4 : Hid (Cd.RB (w8.drewN nq) bb ((R.set (k + 1) true).set A true) ∧ Cd.HB (w8.drewN nq) g hs ∧ Bx (w8.drewN nq) w.heap.size 31 #[.slice (some ⟨b, off, none⟩) n cap, .slice q N c2, .slice r S c3] ∧ Bx (w8.drewN nq) ib 26 #[.int .i64 xw, .int .i64 (A : Int), .int .i64 xc] ∧ Below w.heap.size w (w8.drewN nq)) := ⟨J5.out.1, J5.out.2.1, J5.out.2.2.1, J5.out.2.2.2.1, below_drewN J5.out.2.2.2.2 nq⟩
                  generalize w8.drewN nq = w9 at *
                  clear ch cn J5 y0 y1 y2
                  go_wp2_with fail
                  go_roundg (n + 1 - (k + 1))
                  case measure => omega
                  case rel => exact ⟨k + 1, (R.set (k + 1) true).set A true, by omega, by go_num, by rw [te.out], ⟨J4.out.1, by simp only [List.length_set]; exact RL.out, MM.out, J4.out.2.1, J4.out.2.2.1, J4.out.2.2.2.2⟩⟩
              · as_aux_lemma =>
                  have vn := NR.out hw.1
                  rw [decide_eq_false (show ¬ (xw = 27 ∨ xw = 28 ∨ xw = 29) by omega), decide_eq_true (show xw ≠ 27 by omega)] at JU
                  have MM := hid (MO.out hw.1 hw.2.1 hw.2.2)
                  clear W27 W28 W29 M27 M28 MO FR NR hw cH
                  go_upto_region 27 with (go_at_call 19; with_reducible refine (EF.out _).mono ?_; rintro e w4 ⟨rfl, hB⟩; have J4 := J1.out w4 hB; obtain ⟨y0, y1, y2⟩ := bx3 J4.out.2.2.2.1; have ch := J4.out.2.1.cell k (by rw [HL.out]; omega); rw [hh] at ch; clear hB EF J1 k0 k1 k2 c0 c1 c2x cR)
                  go_upto_region 28 with (go_at_call 20; with_reducible refine (JU.out _).mono ?_; rintro e w4 ⟨rfl, rfl⟩; clear JU)
                  generalize wc.heap.size = ib at *
                  go_upto_region 31 with fail
                  have rc := J4.out.1.cell (k + 1) (by rw [RL.out]; omega)
                  have rf := J4.out.1.free (k + 1)
                  have J5 : Hid (Cd.RB (w4.setCell ⟨bb, k + 1, none⟩ (.bool true)) bb (R.set (k + 1) true) ∧ Cd.HB (w4.setCell ⟨bb, k + 1, none⟩ (.bool true)) g hs ∧ Bx (w4.setCell ⟨bb, k + 1, none⟩ (.bool true)) w.heap.size 31 #[.slice (some ⟨b, off, none⟩) n cap, .slice q N c2, .slice r S c3] ∧ Bx (w4.setCell ⟨bb, k + 1, none⟩ (.bool true)) ib 26 #[.int .i64 xw, .int .i64 xa, .int .i64 xc] ∧ Below w.heap.size w (w4.setCell ⟨bb, k + 1, none⟩ (.bool true))) := ⟨J4.out.1.put (k + 1) true, Bx.far (show Bx _ _ _ _ from J4.out.2.1) (fun e => gb e.symm), J4.out.2.2.1.far (fun e => xb e.symm), J4.out.2.2.2.1.far (fun e => ibb e.symm), J4.out.2.2.2.2.setCell (p := ⟨bb, k + 1, none⟩) bl _⟩
                  go_upto_region 32 with fail
                  clear rc rf J4 ch y0 y1 y2
                  generalize w4.setCell ⟨bb, k + 1, none⟩ (.bool true) = w5 at *
                  have ch := J5.out.2.1.cell k (by rw [HL.out]; omega)
                  have cn := J5.out.2.1.cell (k + 1) (by rw [HL.out]; omega)
                  rw [hh] at ch
                  rw [vn] at cn
                  go_quiet (fail)
                  have J4 : Hid (Cd.RB (w5.drewN nq) bb (R.set (k + 1) true) ∧ Cd.HB (w5.drewN nq) g hs ∧ Bx (w5.drewN nq) w.heap.size 31 #[.slice (some ⟨b, off, none⟩) n cap, .slice q N c2, .slice r S c3] ∧ Bx (w5.drewN nq) ib 26 #[.int .i64 xw, .int .i64 xa, .int .i64 xc] ∧ Below w.heap.size w (w5.drewN nq)) := ⟨J5.out.1, J5.out.2.1, J5.out.2.2.1, J5.out.2.2.2.1, below_drewN J5.out.2.2.2.2 nq⟩
                  have RL' : Hid ((R.set (k + 1) true).length = n + 1) := by rw [Hid, List.length_set]; exact RL.out
                  generalize w5.drewN nq = w6 at *
                  clear ch cn J5
                  go_wp2_with fail
                  go_roundg (n + 1 - (k + 1))
                  case measure => omega
                  case rel => exact ⟨k + 1, R.set (k + 1) true, by omega, by go_num, by rw [te.out], ⟨J4.out.1, by simp only [List.length_set]; exact RL.out, MM.out, J4.out.2.1, J4.out.2.2.1, J4.out.2.2.2.2⟩⟩
        · as_aux_lemma =>
            have e1 := cd_neg _ lo hz
            have raF : Hid (R.getD k false = false) := ra.trans (decide_eq_false hz)
            rw [decide_eq_false hz] at cR
            have F := SK (.inl (by omega))
            have FF := hid F
            rw [e1] at cH tm
            have kn : k ≠ n := fun e => by rw [e, la] at e1; omega
            have kni : ¬ (k : Int) = (n : Int) := by omega
            have knb : ((k : Int) == (n : Int)) = false := beq_false_of_ne kni
            have tn : ¬ (hs.take k).foldl max 0 < -1 := by omega
            have mn : ¬ mo < -1 := by omega
            generalize (hs.take k).foldl max 0 = tp at *
            clear SK top1 hz J G GR GX MT ME T0 RA RS RT L0 F
            go_upto_region 20 with fail
            go_quiet (fail)
            have JX := hid (JD.out nq)
            have cR2 := JX.out.1.cell k (by rw [JX.out.2.1]; omega)
            have cH2 := JX.out.2.2.1.cell k (by rw [HL.out]; omega)
            rw [raF.out] at cR2
            rw [e1] at cH2
            generalize wr.drewN nq = wd at *
            clear JD cR cH
            go_wp2_with fail
            go_roundg (n + 1 - (k + 1))
            case measure => omega
            case rel => exact ⟨k + 1, R, by omega, by go_num, by rw [tm]; congr 1; omega, ⟨JX.out.1, JX.out.2.1, FF.out, JX.out.2.2.1, JX.out.2.2.2.1, JX.out.2.2.2.2⟩⟩
      · have kli : ¬ (k : Int) ≤ (n : Int) := by omega
        obtain rfl : k = n + 1 := by omega
        have F := hid J.out.2.2.2.2.2
        rw [ME.out]
        clear J G GR GX MT ME T0 RA RS RT L0 HL
        go_wp2_with fail
        go_ret
        exact ⟨rfl, F.out⟩
end Go.Proofs.YtnobafmleellhaaDoor
