/-
  render: rendered (mkrnrd.py): the rest.
-/
import Derived.Test.YtiflponlioldmaaGreatDoorRnRd
namespace Go.Proofs.YtiflponlioldmaaGreatDoor
open Go Go.RowKit Go.Deep Go.Shelf

set_option maxRecDepth 100000 in
set_option maxHeartbeats 4000000 in
theorem rdC (w1 w : World) (hT : Tab w1) (v : Value) (A : List Rn.Ag) (zs : List Int) (p : Dr.Pc) (h : RWS w1 v A zs w) (hp : PcW p) (hr : Dr.isR p) (hA : ∀ a ∈ A, AgW a) (hl : A.length ≤ 4398046511104) (fw : Hid (¬ (A.length : Int) < Dr.tk p)) (b1 : Hid (¬ (p.wk = 2 ∧ (Rn.aW A).x = true))) (b2 : Hid (¬ (p.pk = 2 ∧ (Rn.aP p A).x = true))) (cs : Hid (¬ Ie.fnt (stV p.wk A) = false ∧ ¬ Ie.fnt (stV p.pk (stA p.wk A)) = false)) :
    Calls Tryz.prog 41 #[.pointer (some ⟨w1.heap.size, 0, none⟩), .agg #[.string (strOfNums p.t), .int .u8 p.v, .int .i64 p.fl, .int .i64 p.wk, .int .i64 p.wd, .int .i64 p.pk, .int .i64 p.pr]] w fun r w' => DirTold w1 A zs p r w' := by
  obtain ⟨vn0, vn37, -⟩ := Dr.verb_ne hr.1
  have n0 : (p.v == 0) = false := by simpa using vn0
  have n37 : (p.v == 37) = false := by simpa using vn37
  have tk0 : Dr.tk p = 1 + (if p.wk = 2 then 1 else 0) + (if p.pk = 2 then 1 else 0) := by rw [Dr.tk, if_neg (by omega)]
  have tb := Dr.tk_bd p
  have R0 := hid (RB7.new h p)
  have WA : Hid (∀ (wk : World) (g : Nat), PCells wk g 0 p → Calls Tryz.prog 16 #[.slice (some ⟨g, 0, none⟩) 1 1] wk fun e w' => e = .returned (.int .i64 (Dr.tk p)) ∧ Below wk.heap.size wk w') := by
    intro wk g hc
    have := wants_any (some ⟨g, 0, none⟩) 1 [p] wk (.inr ⟨g, 0, rfl, fun i q hq => by
      cases i with
      | zero => simp at hq; subst hq; simpa using hc
      | succ i => simp at hq⟩) (by simp)
    rw [wants_one] at this
    exact this
  have GU := hid (fun E wk => giveUp_any E wk)
  obtain ⟨bx, hbx⟩ : ∃ bx, w.heap.size = bx := ⟨_, rfl⟩
  rw [hbx] at R0
  -- what there is of each way
  have FEW : Hid ((A.length : Int) < Dr.tk p → ∀ w', Below w1.heap.size w1 w' → DirTold w1 A zs p (.panicked (flt 160)) w') := by
    intro q w' k
    have e : Rn.dirE p A = 160 := by rw [Rn.dirE, if_pos q]
    exact .inl ⟨by rw [e]; decide, by rw [e], k⟩
  obtain ⟨g1, g2, g3, g4, g5⟩ := Rn.dir_vals p A
  have BAD : Hid (¬ (A.length : Int) < Dr.tk p → ((p.wk = 2 ∧ (Rn.aW A).x = true) ∨ (p.pk = 2 ∧ (Rn.aP p A).x = true)) → ∀ w', Below w1.heap.size w1 w' → DirTold w1 A zs p (.panicked (flt 161)) w') := by
    intro q z w' k
    have e : Rn.dirE p A = 161 := by rw [Rn.dirE, if_neg q, if_pos z]
    exact .inl ⟨by rw [e]; decide, by rw [e], k⟩
  have WID : Hid (¬ (A.length : Int) < Dr.tk p → ¬ ((p.wk = 2 ∧ (Rn.aW A).x = true) ∨ (p.pk = 2 ∧ (Rn.aP p A).x = true)) → (Ie.fnt (stV p.wk A) = false ∨ Ie.fnt (stV p.pk (stA p.wk A)) = false) → ∀ w', Below w1.heap.size w1 w' → DirTold w1 A zs p (.panicked (flt 6)) w') := by
    intro q z y w' k
    have e : Rn.dirE p A = 6 := by rw [Rn.dirE, if_neg q, if_neg z, if_pos (y.imp g3.2 g4.2)]
    exact .inl ⟨by rw [e]; decide, by rw [e], k⟩
  have LATE : Hid (¬ (A.length : Int) < Dr.tk p → ¬ ((p.wk = 2 ∧ (Rn.aW A).x = true) ∨ (p.pk = 2 ∧ (Rn.aP p A).x = true)) → ¬ (Ie.fnt (stV p.wk A) = false ∨ Ie.fnt (stV p.pk (stA p.wk A)) = false) →
      Rn.dirE p A = (if ste p (Rn.cutI (stV p.wk A)) (Rn.cutI (stV p.pk (stA p.wk A))) ≠ 0 then ste p (Rn.cutI (stV p.wk A)) (Rn.cutI (stV p.pk (stA p.wk A))) else Rn.oneE p.v (Rn.sF p (Rn.cutI (stV p.wk A))) (Rn.sV p (Rn.cutI (stV p.wk A))) (sP p (Rn.cutI (stV p.pk (stA p.wk A)))) (Rn.aA p A)) ∧
      Rn.dirT p A = Rn.oneT p.v (Rn.sF p (Rn.cutI (stV p.wk A))) (Rn.sV p (Rn.cutI (stV p.wk A))) (sP p (Rn.cutI (stV p.pk (stA p.wk A)))) (Rn.aA p A)) := by
    intro q z y
    refine ⟨?_, by rw [Rn.dirT, g1, g2]⟩
    rw [Rn.dirE, if_neg q, if_neg z, if_neg (fun x => y (x.imp g3.1 g4.1)), g1, g2]
  have HT := hid hT
  -- the first drawn region: how many are wanted
  have AVl : ∃ pa cap, v = .slice pa A.length cap := by obtain ⟨pa, cap, e, _⟩ := h.av; exact ⟨pa, cap, e⟩
  obtain ⟨pa, cap, hv⟩ := AVl
  have CC := hid (fun (wk : World) (k : RWS w1 v A zs wk) => k.isw.cell0.1)
  have PCX : Hid (∀ (wk : World) (vv : Value) (g : Nat), PCells (wk.alloc (.cells #[.string (strOfNums p.t), .int .u8 p.v, .int .i64 p.fl, .int .i64 p.wk, .int .i64 p.wd, .int .i64 p.pk, .int .i64 p.pr] 39)) wk.heap.size 0 p) := by
    intro wk _ _
    have e : (wk.alloc (.cells #[.string (strOfNums p.t), .int .u8 p.v, .int .i64 p.fl, .int .i64 p.wk, .int .i64 p.wd, .int .i64 p.pk, .int .i64 p.pr] 39)).heap[wk.heap.size]? = _ := heap_alloc_new wk _
    refine ⟨?_, ?_, ?_, ?_, ?_, ?_, ?_⟩ <;> rw [Lib.cell_of_heap e] <;> rfl
  subst hv
  clear h
  go_enter Tryz.func41, Tryz.ntmps41
  go_upto_region 6 with fail
  generalize hwa : (w.alloc (.cells #[.string (strOfNums p.t), .int .u8 p.v, .int .i64 p.fl, .int .i64 p.wk, .int .i64 p.wd, .int .i64 p.pk, .int .i64 p.pr] 39)) = wa at *
  clear hwa hbx
  go_cut [26] from 18 to 25 (fun b wx => b = .bool (decide ((A.length : Int) < Dr.tk p)) ∧ Hid (RB7 w1 (.slice pa A.length cap) A zs bx p wx))
  case first =>
    have T1 := hid R0.out.drew
    obtain ⟨c0, c1, c2, c3, c4, c5, c6⟩ := T1.out.flat
    have d0 := CC.out _ T1.out.ws
    have T2 : Hid (RB7 w1 (.slice pa A.length cap) A zs bx p (wa.alloc (.cells #[.string (strOfNums p.t), .int .u8 p.v, .int .i64 p.fl, .int .i64 p.wk, .int .i64 p.wd, .int .i64 p.pk, .int .i64 p.pr] 39)).drew) := (R0.out.on (alloc_b wa _)).drew
    have P1 : Hid (PCells (wa.alloc (.cells #[.string (strOfNums p.t), .int .u8 p.v, .int .i64 p.fl, .int .i64 p.wk, .int .i64 p.wd, .int .i64 p.pk, .int .i64 p.pr] 39)).drew wa.heap.size 0 p) := PCX.out wa .nilFunc 0
    have d1 := CC.out _ T2.out.ws
    have dd := CC.out _ R0.out.ws
    obtain ⟨e0, e1, e2, e3, e4, e5, e6⟩ := R0.out.flat
    have l1 : w1.heap.size < wa.heap.size := R0.out.ws.isw.lt
    have l2 : bx < wa.heap.size := blk_lt R0.out.box
    clear hT hA hp hr FEW BAD WID LATE HT GU tk0 vn0 vn37 n0 n37 g1 g2 g3 g4 g5 PCX
    go_region_with (go_at_call 16; with_reducible refine (WA.out _ _ P1.out).mono ?_; rintro e w2 ⟨rfl, hB⟩; have T3 := hid (T2.out.on hB); have d3 := CC.out _ T3.out.ws; clear hB)
    all_goals (go_wp2_with fail; go_meet; exact ⟨rfl, T3.out⟩)
  case rest =>
  obtain ⟨h26, R1⟩ := hcut
  subst h26
  clear R0 WA PCX
  have few := fw.out
  rw [decide_eq_false few]
  clear FEW
  have fl : Dr.tk p ≤ A.length := by omega
  have L1 : p.wk = 2 → 0 < A.length := fun q => by rw [tk0, if_pos q] at fl; split at fl <;> omega
  have L2 : p.pk = 2 → 0 < (stA p.wk A).length := fun q => by
    unfold stA
    rw [tk0, if_pos q] at fl
    by_cases z : p.wk = 2
    · rw [if_pos z] at fl ⊢; rw [List.length_drop]; omega
    · rw [if_neg z] at fl ⊢; omega
  have bad1 := b1.out
  have K1 : p.wk = 2 → 0 < A.length ∧ (A.getD 0 Rn.Ag.no).x = false := fun q => ⟨L1 q, by cases e : (A.getD 0 Rn.Ag.no).x with
    | false => rfl
    | true => exact absurd ⟨q, e⟩ bad1⟩
  have SO1 : Hid (∀ wk, RB7 w1 (.slice pa A.length cap) A zs bx p wk → Calls Tryz.prog 88 #[.pointer (some ⟨w1.heap.size, 0, none⟩), .int .i64 p.wk] wk fun r w' => r = .returned (.int .u64 (stV p.wk A)) ∧ ∃ v', RB7 w1 v' (stA p.wk A) zs bx p w') := fun wk k => (star_ok w1 wk _ p.wk A zs k.ws K1).mono (by
    rintro r w' ⟨rfl, ⟨v', q⟩, kp⟩
    exact ⟨rfl, v', k.put q kp⟩)
  have bad2 := b2.out
  have bad : ¬ ((p.wk = 2 ∧ (Rn.aW A).x = true) ∨ (p.pk = 2 ∧ (Rn.aP p A).x = true)) := fun q => q.elim bad1 bad2
  have SO2 : Hid (∀ wk v', RB7 w1 v' (stA p.wk A) zs bx p wk → Calls Tryz.prog 88 #[.pointer (some ⟨w1.heap.size, 0, none⟩), .int .i64 p.pk] wk fun r w' => r = .returned (.int .u64 (stV p.pk (stA p.wk A))) ∧ ∃ v', RB7 w1 v' (stA p.pk (stA p.wk A)) zs bx p w') := fun wk v' k => (star_ok w1 wk _ p.pk (stA p.wk A) zs k.ws (fun q => ⟨L2 q, by rw [g5 q]; cases e : (Rn.aP p A).x with
    | false => rfl
    | true => exact absurd ⟨q, e⟩ bad2⟩)).mono (by
    rintro r w' ⟨rfl, ⟨v', q⟩, kp⟩
    exact ⟨rfl, v', k.put q kp⟩)
  have DL := Rn.dir_list fl tk0
  have VB1 : 0 ≤ stV p.wk A ∧ stV p.wk A < 18446744073709551616 := by
    unfold stV
    split
    · rename_i q; exact (hA _ (mem_get (L1 q))).2.1
    · omega
  have VB2 : 0 ≤ stV p.pk (stA p.wk A) ∧ stV p.pk (stA p.wk A) < 18446744073709551616 := by
    rw [stV]
    split
    · rename_i q
      have m : (stA p.wk A).getD 0 Rn.Ag.no ∈ A := by
        have := mem_get (L2 q)
        unfold stA at this ⊢
        split at this
        · rename_i z; rw [if_pos z]; exact List.mem_of_mem_drop this
        · rename_i z; rw [if_neg z]; exact this
      exact (hA _ m).2.1
    · omega
  have AW : AgW (Rn.aA p A) := by
    have : Rn.aA p A ∈ stA p.pk (stA p.wk A) := by rw [DL]; simp
    refine hA _ ?_
    unfold stA at this
    split at this <;> split at this <;> first | exact this | exact List.mem_of_mem_drop this | exact List.mem_of_mem_drop (List.mem_of_mem_drop this)

  have LT := hid (LATE.out few bad)
  have WD := hid (WID.out few bad)
  have CB := Rn.cut_bd (stV p.wk A)
  have CB' := Rn.cut_bd (stV p.pk (stA p.wk A))
  obtain ⟨V1, hV1⟩ : ∃ V1, stV p.wk A = V1 := ⟨_, rfl⟩
  obtain ⟨V2, hV2⟩ : ∃ V2, stV p.pk (stA p.wk A) = V2 := ⟨_, rfl⟩
  obtain ⟨A2, hA2⟩ : ∃ A2, stA p.pk (stA p.wk A) = A2 := ⟨_, rfl⟩
  rw [hV2] at SO2 LT WD VB2 CB' cs
  rw [hV1] at SO1 LT WD VB1 CB cs
  rw [hA2] at SO2 DL
  generalize stA p.wk A = A1 at *
  have DL := hid DL
  clear BAD WID LATE bad1 bad2 bad L1 L2 hT hA tk0 vn0 vn37 n0 n37 g1 g2 g3 g4 g5 few fl K1 hV1 hV2 hA2 CC tb
  go_upto_region 8 with fail
  have T1 := hid R1.out.drew
  go_region_held3 (fun wx => wx.cell? ⟨bx, 3, none⟩ = some (.int .i64 p.wk) ∧ wx.cell? ⟨bx, 5, none⟩ = some (.int .i64 p.pk)) (first | (with_reducible exact T3.out.two) | (with_reducible exact T2.out.two) | (with_reducible exact T1.out.two)) (first
    | (go_at_call 88; with_reducible refine (SO1.out _ T1.out).mono ?_; rintro r w4 ⟨rfl, v4, k4⟩; have T2 := hid k4; clear k4)
    | (go_at_call 88; with_reducible refine (SO2.out _ _ T2.out).mono ?_; rintro r w5 ⟨rfl, v5, k5⟩; have T3 := hid k5; clear k5))
  clear SO1 SO2 T1 T2 R1
  have f1 := cs.out.1
  have f1' : Ie.fnt V1 = true := by simpa using f1
  have CO1 := hid (fun wk => cut_ok V1 wk VB1.1 VB1.2 f1')
  have f2 := cs.out.2
  have f2' : Ie.fnt V2 = true := by simpa using f2
  have CO2 := hid (fun wk => cut_ok V2 wk VB2.1 VB2.2 f2')
  have SE0 := hid (fun wk => settle_any p (Rn.cutI V1) (Rn.cutI V2) wk hp (by omega) (by omega) (by omega) (by omega))
  have LT := hid (LT.out (fun q => q.elim f1 f2))
  clear WD CB CB' VB1 VB2 f1 f2 f1' f2' cs b1 b2 fw
  generalize Rn.cutI V1 = x at *
  generalize Rn.cutI V2 = y at *
  obtain ⟨a0, a1, a2, a3, hS⟩ : ∃ a0 a1 a2 a3 : Int, spv p x y = #[.int .u8 a0, .int .i64 a1, .int .i64 a2, .int .i64 a3] := by
    by_cases q : ste p x y = 0
    · exact ⟨_, _, _, _, spv_ok q⟩
    · exact ⟨_, _, _, _, spv_no q⟩
  have SE : Hid (∀ wk, Calls Tryz.prog 21 #[.agg #[.string (strOfNums p.t), .int .u8 p.v, .int .i64 p.fl, .int .i64 p.wk, .int .i64 p.wd, .int .i64 p.pk, .int .i64 p.pr], .int .i64 x, .int .i64 y] wk fun e w' => e = .returned (.tuple #[.agg #[.int .u8 a0, .int .i64 a1, .int .i64 a2, .int .i64 a3], .int .i64 (ste p x y)]) ∧ Below wk.heap.size wk w') := fun wk => by
    have q := SE0.out wk
    unfold SeTold at q
    rw [hS] at q
    exact q
  have HS := hid hS
  have PW := hid hp
  clear SE0 hS hp
  obtain ⟨E, hE⟩ : ∃ E, ste p x y = E := ⟨_, rfl⟩
  rw [hE] at SE
  have HE := hid hE
  clear hE
  go_upto_region 9 with fail
  go_cut [7, 8] from 36 to 44 (fun pv ev wx => ∃ b, pv = .pointer (some ⟨b, 0, none⟩) ∧ ev = .int .i64 E ∧ Hid (RB7 w1 v5 A2 zs bx p wx ∧ S4 wx b (.int .u8 a0) (.int .i64 a1) (.int .i64 a2) (.int .i64 a3)))
  case first =>
    clear LT AW DL HT GU hr HS PW HE
    have B0 : Hid (Below w5.heap.size w5 w5.drew) := Below.drew (Below.refl _ _)
    obtain ⟨c0, c1, c2, c3, c4, c5, c6⟩ := T3.out.flat
    obtain ⟨d0, d1, d2, d3, d4, d5, d6⟩ := (T3.out.on B0.out).flat
    have lt := blk_lt T3.out.box
    refine wp_region_any (by kernel_rfl) ?_
    change wpAny _ _ _ _ _ _ _ (World.drew _)
    refine wpAny_take (i := 1) (v := ?_) rfl (by kernel_rfl) (by kernel_rfl) (by kernel_rfl) (fun _ _ _ h => h) (Or.inl ⟨by rfl, ?_⟩) ?_
    rotate_left
    · (intro w; go_simp; try with_reducible rfl)
    refine wpAny_take (i := 3) (v := ?_) rfl (by kernel_rfl) (by kernel_rfl) (by kernel_rfl) (fun _ _ _ h => h) (Or.inl ⟨by rfl, ?_⟩) ?_
    rotate_left
    · (intro w; go_simp; try with_reducible rfl)
    refine wpAny_ready (rs := [0, 2, 9]) (by kernel_rfl) (by simp) ?_
    refine AllReady.cons rfl (fun K hK => ?_) (AllReady.cons rfl (fun K hK => ?_) (AllReady.cons rfl (fun K hK => ?_) AllReady.nil))
    · go_simp
      refine hK _ _ ?_
      clear hK K
      refine wpAny_ready (rs := [2, 9]) (by kernel_rfl) (by simp) ?_
      refine AllReady.cons rfl (fun K hK => ?_) (AllReady.cons rfl (fun K hK => ?_) AllReady.nil)
      · go_simp
        with_reducible refine (CO1.out _).mono ?_
        rintro r x2 ⟨rfl, k2⟩
        have B2 := hid (below_on B0.out k2)
        refine hK _ _ ?_
        clear hK K k2
        refine wpAny_ready (rs := [4, 9]) (by kernel_rfl) (by simp) ?_
        refine AllReady.cons rfl (fun K hK => ?_) (AllReady.cons rfl (fun K hK => ?_) AllReady.nil)
        · go_simp
          with_reducible refine (CO2.out _).mono ?_
          rintro r x3 ⟨rfl, k3⟩
          have B3 := hid (below_on B2.out k3)
          refine hK _ _ ?_
          clear hK K k3
          refine wpAny_ready (rs := [5, 9]) (by kernel_rfl) (by simp) ?_
          refine AllReady.cons rfl (fun K hK => ?_) (AllReady.cons rfl (fun K hK => ?_) AllReady.nil)
          · go_simp
            with_reducible refine (SE.out _).mono ?_
            rintro r x4 ⟨rfl, k4⟩
            have B4 := hid (below_on B3.out k4)
            refine hK _ _ ?_
            clear hK K k4
            refine wpAny_take (i := 6) (v := ?_) rfl (by kernel_rfl) (by kernel_rfl) (by kernel_rfl) (fun _ _ _ h => h) (Or.inl ⟨by rfl, ?_⟩) ?_
            rotate_left
            · (intro w; go_simp; try with_reducible rfl)
            refine wpAny_take (i := 7) (v := ?_) rfl (by kernel_rfl) (by kernel_rfl) (by kernel_rfl) (fun _ _ _ h => h) (Or.inl ⟨by rfl, ?_⟩) ?_
            rotate_left
            · (intro w; go_simp; try with_reducible rfl)
            refine wpAny_take (i := 8) (v := ?_) rfl (by kernel_rfl) (by kernel_rfl) (by kernel_rfl) (fun _ _ _ h => h) (Or.inl ⟨by rfl, ?_⟩) ?_
            rotate_left
            · (intro w; go_simp; try with_reducible rfl)
            refine wpAny_ready (rs := [9]) (by kernel_rfl) (by simp) ?_
            refine AllReady.cons rfl (fun K hK => ?_) AllReady.nil
            · go_simp
              have B5 := hid (below_on B4.out (alloc_b x4 (.cells #[.int .u8 0, .int .i64 0, .int .i64 0, .int .i64 0] 25)))
              have Z5 := hid (S4.new x4 (.int .u8 0) (.int .i64 0) (.int .i64 0) (.int .i64 0))
              have q5 : w5.heap.size ≤ x4.heap.size := B4.out.size
              refine hK _ _ ?_
              clear hK K
              refine wpAny_ready (rs := [10]) (by kernel_rfl) (by simp) ?_
              refine AllReady.cons rfl (fun K hK => ?_) AllReady.nil
              · go_simp
                refine hK _ _ ?_
                clear hK K
                refine wpAny_take (i := 11) (v := ?_) rfl (by kernel_rfl) (by kernel_rfl) (by kernel_rfl) (fun _ _ _ h => h) (Or.inl ⟨by rfl, ?_⟩) ?_
                rotate_left
                · (intro w; go_simp; try with_reducible rfl)
                refine wpAny_done (by kernel_rfl) ?_ _
                go_wp2_with fail
                go_meet
                first | exact ⟨_, rfl, rfl, show _ ∧ _ from ⟨T3.out.on (dset4_below B5.out q5), Z5.out.put _ _ _ _⟩⟩ | exact ⟨_, rfl, rfl, show _ ∧ _ from ⟨T3.out.on (below_on B4.out (alloc_b _ _)), S4.new _ _ _ _ _⟩⟩
          · go_simp
            have B7 := hid (below_on B3.out (alloc_b x3 (.cells #[.int .u8 0, .int .i64 0, .int .i64 0, .int .i64 0] 25)))
            have Z7 := hid (S4.new x3 (.int .u8 0) (.int .i64 0) (.int .i64 0) (.int .i64 0))
            have q7 : w5.heap.size ≤ x3.heap.size := B3.out.size
            refine hK _ _ ?_
            clear hK K
            refine wpAny_ready (rs := [5]) (by kernel_rfl) (by simp) ?_
            refine AllReady.cons rfl (fun K hK => ?_) AllReady.nil
            · go_simp
              with_reducible refine (SE.out _).mono ?_
              rintro r x8 ⟨rfl, k8⟩
              have B8 := hid (below_on B7.out k8)
              have Z8 := hid (Z7.out.below k8)
              obtain ⟨⟨z80, z81, z82, z83⟩, ⟨y80, y81, y82, y83⟩⟩ := Z8.out.cells
              refine hK _ _ ?_
              clear hK K k8
              refine wpAny_take (i := 6) (v := ?_) rfl (by kernel_rfl) (by kernel_rfl) (by kernel_rfl) (fun _ _ _ h => h) (Or.inl ⟨by rfl, ?_⟩) ?_
              rotate_left
              · (intro w; go_simp; try with_reducible rfl)
              refine wpAny_take (i := 7) (v := ?_) rfl (by kernel_rfl) (by kernel_rfl) (by kernel_rfl) (fun _ _ _ h => h) (Or.inl ⟨by rfl, ?_⟩) ?_
              rotate_left
              · (intro w; go_simp; try with_reducible rfl)
              refine wpAny_take (i := 8) (v := ?_) rfl (by kernel_rfl) (by kernel_rfl) (by kernel_rfl) (fun _ _ _ h => h) (Or.inl ⟨by rfl, ?_⟩) ?_
              rotate_left
              · (intro w; go_simp; try with_reducible rfl)
              refine wpAny_ready (rs := [10]) (by kernel_rfl) (by simp) ?_
              refine AllReady.cons rfl (fun K hK => ?_) AllReady.nil
              · go_simp
                refine hK _ _ ?_
                clear hK K
                refine wpAny_take (i := 11) (v := ?_) rfl (by kernel_rfl) (by kernel_rfl) (by kernel_rfl) (fun _ _ _ h => h) (Or.inl ⟨by rfl, ?_⟩) ?_
                rotate_left
                · (intro w; go_simp; try with_reducible rfl)
                refine wpAny_done (by kernel_rfl) ?_ _
                go_wp2_with fail
                go_meet
                exact ⟨_, rfl, rfl, show _ ∧ _ from ⟨T3.out.on (dset4_below B8.out q7), Z8.out.put _ _ _ _⟩⟩
        · go_simp
          have B10 := hid (below_on B2.out (alloc_b x2 (.cells #[.int .u8 0, .int .i64 0, .int .i64 0, .int .i64 0] 25)))
          have Z10 := hid (S4.new x2 (.int .u8 0) (.int .i64 0) (.int .i64 0) (.int .i64 0))
          have q10 : w5.heap.size ≤ x2.heap.size := B2.out.size
          refine hK _ _ ?_
          clear hK K
          refine wpAny_ready (rs := [4]) (by kernel_rfl) (by simp) ?_
          refine AllReady.cons rfl (fun K hK => ?_) AllReady.nil
          · go_simp
            with_reducible refine (CO2.out _).mono ?_
            rintro r x11 ⟨rfl, k11⟩
            have B11 := hid (below_on B10.out k11)
            have Z11 := hid (Z10.out.below k11)
            refine hK _ _ ?_
            clear hK K k11
            refine wpAny_ready (rs := [5]) (by kernel_rfl) (by simp) ?_
            refine AllReady.cons rfl (fun K hK => ?_) AllReady.nil
            · go_simp
              with_reducible refine (SE.out _).mono ?_
              rintro r x12 ⟨rfl, k12⟩
              have B12 := hid (below_on B11.out k12)
              have Z12 := hid (Z11.out.below k12)
              obtain ⟨⟨z120, z121, z122, z123⟩, ⟨y120, y121, y122, y123⟩⟩ := Z12.out.cells
              refine hK _ _ ?_
              clear hK K k12
              refine wpAny_take (i := 6) (v := ?_) rfl (by kernel_rfl) (by kernel_rfl) (by kernel_rfl) (fun _ _ _ h => h) (Or.inl ⟨by rfl, ?_⟩) ?_
              rotate_left
              · (intro w; go_simp; try with_reducible rfl)
              refine wpAny_take (i := 7) (v := ?_) rfl (by kernel_rfl) (by kernel_rfl) (by kernel_rfl) (fun _ _ _ h => h) (Or.inl ⟨by rfl, ?_⟩) ?_
              rotate_left
              · (intro w; go_simp; try with_reducible rfl)
              refine wpAny_take (i := 8) (v := ?_) rfl (by kernel_rfl) (by kernel_rfl) (by kernel_rfl) (fun _ _ _ h => h) (Or.inl ⟨by rfl, ?_⟩) ?_
              rotate_left
              · (intro w; go_simp; try with_reducible rfl)
              refine wpAny_ready (rs := [10]) (by kernel_rfl) (by simp) ?_
              refine AllReady.cons rfl (fun K hK => ?_) AllReady.nil
              · go_simp
                refine hK _ _ ?_
                clear hK K
                refine wpAny_take (i := 11) (v := ?_) rfl (by kernel_rfl) (by kernel_rfl) (by kernel_rfl) (fun _ _ _ h => h) (Or.inl ⟨by rfl, ?_⟩) ?_
                rotate_left
                · (intro w; go_simp; try with_reducible rfl)
                refine wpAny_done (by kernel_rfl) ?_ _
                go_wp2_with fail
                go_meet
                exact ⟨_, rfl, rfl, show _ ∧ _ from ⟨T3.out.on (dset4_below B12.out q10), Z12.out.put _ _ _ _⟩⟩
      · go_simp
        have B14 : Hid (Below w5.heap.size w5 (w5.alloc (.cells #[.int .u8 0, .int .i64 0, .int .i64 0, .int .i64 0] 25)).drew) := Below.drew (alloc_b w5 _)
        have Z14 : Hid (S4 (w5.alloc (.cells #[.int .u8 0, .int .i64 0, .int .i64 0, .int .i64 0] 25)).drew w5.heap.size (.int .u8 0) (.int .i64 0) (.int .i64 0) (.int .i64 0)) := S4.new w5 _ _ _ _
        have q14 : w5.heap.size ≤ w5.heap.size := Nat.le_refl _
        refine hK _ _ ?_
        clear hK K
        refine wpAny_ready (rs := [2]) (by kernel_rfl) (by simp) ?_
        refine AllReady.cons rfl (fun K hK => ?_) AllReady.nil
        · go_simp
          with_reducible refine (CO1.out _).mono ?_
          rintro r x15 ⟨rfl, k15⟩
          have B15 := hid (below_on B14.out k15)
          have Z15 := hid (Z14.out.below k15)
          refine hK _ _ ?_
          clear hK K k15
          refine wpAny_ready (rs := [4]) (by kernel_rfl) (by simp) ?_
          refine AllReady.cons rfl (fun K hK => ?_) AllReady.nil
          · go_simp
            with_reducible refine (CO2.out _).mono ?_
            rintro r x16 ⟨rfl, k16⟩
            have B16 := hid (below_on B15.out k16)
            have Z16 := hid (Z15.out.below k16)
            refine hK _ _ ?_
            clear hK K k16
            refine wpAny_ready (rs := [5]) (by kernel_rfl) (by simp) ?_
            refine AllReady.cons rfl (fun K hK => ?_) AllReady.nil
            · go_simp
              with_reducible refine (SE.out _).mono ?_
              rintro r x17 ⟨rfl, k17⟩
              have B17 := hid (below_on B16.out k17)
              have Z17 := hid (Z16.out.below k17)
              obtain ⟨⟨z170, z171, z172, z173⟩, ⟨y170, y171, y172, y173⟩⟩ := Z17.out.cells
              refine hK _ _ ?_
              clear hK K k17
              refine wpAny_take (i := 6) (v := ?_) rfl (by kernel_rfl) (by kernel_rfl) (by kernel_rfl) (fun _ _ _ h => h) (Or.inl ⟨by rfl, ?_⟩) ?_
              rotate_left
              · (intro w; go_simp; try with_reducible rfl)
              refine wpAny_take (i := 7) (v := ?_) rfl (by kernel_rfl) (by kernel_rfl) (by kernel_rfl) (fun _ _ _ h => h) (Or.inl ⟨by rfl, ?_⟩) ?_
              rotate_left
              · (intro w; go_simp; try with_reducible rfl)
              refine wpAny_take (i := 8) (v := ?_) rfl (by kernel_rfl) (by kernel_rfl) (by kernel_rfl) (fun _ _ _ h => h) (Or.inl ⟨by rfl, ?_⟩) ?_
              rotate_left
              · (intro w; go_simp; try with_reducible rfl)
              refine wpAny_ready (rs := [10]) (by kernel_rfl) (by simp) ?_
              refine AllReady.cons rfl (fun K hK => ?_) AllReady.nil
              · go_simp
                refine hK _ _ ?_
                clear hK K
                refine wpAny_take (i := 11) (v := ?_) rfl (by kernel_rfl) (by kernel_rfl) (by kernel_rfl) (fun _ _ _ h => h) (Or.inl ⟨by rfl, ?_⟩) ?_
                rotate_left
                · (intro w; go_simp; try with_reducible rfl)
                refine wpAny_done (by kernel_rfl) ?_ _
                go_wp2_with fail
                go_meet
                exact ⟨_, rfl, rfl, show _ ∧ _ from ⟨T3.out.on (dset4_below B17.out q14), Z17.out.put _ _ _ _⟩⟩
    · go_simp
      with_reducible refine (CO1.out _).mono ?_
      rintro r x19 ⟨rfl, k19⟩
      have B19 := hid (below_on B0.out k19)
      obtain ⟨p190, p191, p192, p193, p194, p195, p196⟩ := (T3.out.on B19.out).flat
      have l19 := blk_lt (T3.out.on B19.out).box
      refine hK _ _ ?_
      clear hK K k19
      refine wpAny_ready (rs := [0, 4, 9]) (by kernel_rfl) (by simp) ?_
      refine AllReady.cons rfl (fun K hK => ?_) (AllReady.cons rfl (fun K hK => ?_) (AllReady.cons rfl (fun K hK => ?_) AllReady.nil))
      · go_simp
        refine hK _ _ ?_
        clear hK K
        refine wpAny_ready (rs := [4, 9]) (by kernel_rfl) (by simp) ?_
        refine AllReady.cons rfl (fun K hK => ?_) (AllReady.cons rfl (fun K hK => ?_) AllReady.nil)
        · go_simp
          with_reducible refine (CO2.out _).mono ?_
          rintro r x21 ⟨rfl, k21⟩
          have B21 := hid (below_on B19.out k21)
          refine hK _ _ ?_
          clear hK K k21
          refine wpAny_ready (rs := [5, 9]) (by kernel_rfl) (by simp) ?_
          refine AllReady.cons rfl (fun K hK => ?_) (AllReady.cons rfl (fun K hK => ?_) AllReady.nil)
          · go_simp
            with_reducible refine (SE.out _).mono ?_
            rintro r x22 ⟨rfl, k22⟩
            have B22 := hid (below_on B21.out k22)
            refine hK _ _ ?_
            clear hK K k22
            refine wpAny_take (i := 6) (v := ?_) rfl (by kernel_rfl) (by kernel_rfl) (by kernel_rfl) (fun _ _ _ h => h) (Or.inl ⟨by rfl, ?_⟩) ?_
            rotate_left
            · (intro w; go_simp; try with_reducible rfl)
            refine wpAny_take (i := 7) (v := ?_) rfl (by kernel_rfl) (by kernel_rfl) (by kernel_rfl) (fun _ _ _ h => h) (Or.inl ⟨by rfl, ?_⟩) ?_
            rotate_left
            · (intro w; go_simp; try with_reducible rfl)
            refine wpAny_take (i := 8) (v := ?_) rfl (by kernel_rfl) (by kernel_rfl) (by kernel_rfl) (fun _ _ _ h => h) (Or.inl ⟨by rfl, ?_⟩) ?_
            rotate_left
            · (intro w; go_simp; try with_reducible rfl)
            refine wpAny_ready (rs := [9]) (by kernel_rfl) (by simp) ?_
            refine AllReady.cons rfl (fun K hK => ?_) AllReady.nil
            · go_simp
              have B23 := hid (below_on B22.out (alloc_b x22 (.cells #[.int .u8 0, .int .i64 0, .int .i64 0, .int .i64 0] 25)))
              have Z23 := hid (S4.new x22 (.int .u8 0) (.int .i64 0) (.int .i64 0) (.int .i64 0))
              have q23 : w5.heap.size ≤ x22.heap.size := B22.out.size
              refine hK _ _ ?_
              clear hK K
              refine wpAny_ready (rs := [10]) (by kernel_rfl) (by simp) ?_
              refine AllReady.cons rfl (fun K hK => ?_) AllReady.nil
              · go_simp
                refine hK _ _ ?_
                clear hK K
                refine wpAny_take (i := 11) (v := ?_) rfl (by kernel_rfl) (by kernel_rfl) (by kernel_rfl) (fun _ _ _ h => h) (Or.inl ⟨by rfl, ?_⟩) ?_
                rotate_left
                · (intro w; go_simp; try with_reducible rfl)
                refine wpAny_done (by kernel_rfl) ?_ _
                go_wp2_with fail
                go_meet
                first | exact ⟨_, rfl, rfl, show _ ∧ _ from ⟨T3.out.on (dset4_below B23.out q23), Z23.out.put _ _ _ _⟩⟩ | exact ⟨_, rfl, rfl, show _ ∧ _ from ⟨T3.out.on (below_on B22.out (alloc_b _ _)), S4.new _ _ _ _ _⟩⟩
          · go_simp
            have B25 := hid (below_on B21.out (alloc_b x21 (.cells #[.int .u8 0, .int .i64 0, .int .i64 0, .int .i64 0] 25)))
            have Z25 := hid (S4.new x21 (.int .u8 0) (.int .i64 0) (.int .i64 0) (.int .i64 0))
            have q25 : w5.heap.size ≤ x21.heap.size := B21.out.size
            refine hK _ _ ?_
            clear hK K
            refine wpAny_ready (rs := [5]) (by kernel_rfl) (by simp) ?_
            refine AllReady.cons rfl (fun K hK => ?_) AllReady.nil
            · go_simp
              with_reducible refine (SE.out _).mono ?_
              rintro r x26 ⟨rfl, k26⟩
              have B26 := hid (below_on B25.out k26)
              have Z26 := hid (Z25.out.below k26)
              obtain ⟨⟨z260, z261, z262, z263⟩, ⟨y260, y261, y262, y263⟩⟩ := Z26.out.cells
              refine hK _ _ ?_
              clear hK K k26
              refine wpAny_take (i := 6) (v := ?_) rfl (by kernel_rfl) (by kernel_rfl) (by kernel_rfl) (fun _ _ _ h => h) (Or.inl ⟨by rfl, ?_⟩) ?_
              rotate_left
              · (intro w; go_simp; try with_reducible rfl)
              refine wpAny_take (i := 7) (v := ?_) rfl (by kernel_rfl) (by kernel_rfl) (by kernel_rfl) (fun _ _ _ h => h) (Or.inl ⟨by rfl, ?_⟩) ?_
              rotate_left
              · (intro w; go_simp; try with_reducible rfl)
              refine wpAny_take (i := 8) (v := ?_) rfl (by kernel_rfl) (by kernel_rfl) (by kernel_rfl) (fun _ _ _ h => h) (Or.inl ⟨by rfl, ?_⟩) ?_
              rotate_left
              · (intro w; go_simp; try with_reducible rfl)
              refine wpAny_ready (rs := [10]) (by kernel_rfl) (by simp) ?_
              refine AllReady.cons rfl (fun K hK => ?_) AllReady.nil
              · go_simp
                refine hK _ _ ?_
                clear hK K
                refine wpAny_take (i := 11) (v := ?_) rfl (by kernel_rfl) (by kernel_rfl) (by kernel_rfl) (fun _ _ _ h => h) (Or.inl ⟨by rfl, ?_⟩) ?_
                rotate_left
                · (intro w; go_simp; try with_reducible rfl)
                refine wpAny_done (by kernel_rfl) ?_ _
                go_wp2_with fail
                go_meet
                exact ⟨_, rfl, rfl, show _ ∧ _ from ⟨T3.out.on (dset4_below B26.out q25), Z26.out.put _ _ _ _⟩⟩
        · go_simp
          have B28 := hid (below_on B19.out (alloc_b x19 (.cells #[.int .u8 0, .int .i64 0, .int .i64 0, .int .i64 0] 25)))
          have Z28 := hid (S4.new x19 (.int .u8 0) (.int .i64 0) (.int .i64 0) (.int .i64 0))
          have q28 : w5.heap.size ≤ x19.heap.size := B19.out.size
          refine hK _ _ ?_
          clear hK K
          refine wpAny_ready (rs := [4]) (by kernel_rfl) (by simp) ?_
          refine AllReady.cons rfl (fun K hK => ?_) AllReady.nil
          · go_simp
            with_reducible refine (CO2.out _).mono ?_
            rintro r x29 ⟨rfl, k29⟩
            have B29 := hid (below_on B28.out k29)
            have Z29 := hid (Z28.out.below k29)
            refine hK _ _ ?_
            clear hK K k29
            refine wpAny_ready (rs := [5]) (by kernel_rfl) (by simp) ?_
            refine AllReady.cons rfl (fun K hK => ?_) AllReady.nil
            · go_simp
              with_reducible refine (SE.out _).mono ?_
              rintro r x30 ⟨rfl, k30⟩
              have B30 := hid (below_on B29.out k30)
              have Z30 := hid (Z29.out.below k30)
              obtain ⟨⟨z300, z301, z302, z303⟩, ⟨y300, y301, y302, y303⟩⟩ := Z30.out.cells
              refine hK _ _ ?_
              clear hK K k30
              refine wpAny_take (i := 6) (v := ?_) rfl (by kernel_rfl) (by kernel_rfl) (by kernel_rfl) (fun _ _ _ h => h) (Or.inl ⟨by rfl, ?_⟩) ?_
              rotate_left
              · (intro w; go_simp; try with_reducible rfl)
              refine wpAny_take (i := 7) (v := ?_) rfl (by kernel_rfl) (by kernel_rfl) (by kernel_rfl) (fun _ _ _ h => h) (Or.inl ⟨by rfl, ?_⟩) ?_
              rotate_left
              · (intro w; go_simp; try with_reducible rfl)
              refine wpAny_take (i := 8) (v := ?_) rfl (by kernel_rfl) (by kernel_rfl) (by kernel_rfl) (fun _ _ _ h => h) (Or.inl ⟨by rfl, ?_⟩) ?_
              rotate_left
              · (intro w; go_simp; try with_reducible rfl)
              refine wpAny_ready (rs := [10]) (by kernel_rfl) (by simp) ?_
              refine AllReady.cons rfl (fun K hK => ?_) AllReady.nil
              · go_simp
                refine hK _ _ ?_
                clear hK K
                refine wpAny_take (i := 11) (v := ?_) rfl (by kernel_rfl) (by kernel_rfl) (by kernel_rfl) (fun _ _ _ h => h) (Or.inl ⟨by rfl, ?_⟩) ?_
                rotate_left
                · (intro w; go_simp; try with_reducible rfl)
                refine wpAny_done (by kernel_rfl) ?_ _
                go_wp2_with fail
                go_meet
                exact ⟨_, rfl, rfl, show _ ∧ _ from ⟨T3.out.on (dset4_below B30.out q28), Z30.out.put _ _ _ _⟩⟩
      · go_simp
        with_reducible refine (CO2.out _).mono ?_
        rintro r x32 ⟨rfl, k32⟩
        have B32 := hid (below_on B19.out k32)
        obtain ⟨p320, p321, p322, p323, p324, p325, p326⟩ := (T3.out.on B32.out).flat
        have l32 := blk_lt (T3.out.on B32.out).box
        refine hK _ _ ?_
        clear hK K k32
        refine wpAny_ready (rs := [0, 9]) (by kernel_rfl) (by simp) ?_
        refine AllReady.cons rfl (fun K hK => ?_) (AllReady.cons rfl (fun K hK => ?_) AllReady.nil)
        · go_simp
          refine hK _ _ ?_
          clear hK K
          refine wpAny_ready (rs := [5, 9]) (by kernel_rfl) (by simp) ?_
          refine AllReady.cons rfl (fun K hK => ?_) (AllReady.cons rfl (fun K hK => ?_) AllReady.nil)
          · go_simp
            with_reducible refine (SE.out _).mono ?_
            rintro r x34 ⟨rfl, k34⟩
            have B34 := hid (below_on B32.out k34)
            refine hK _ _ ?_
            clear hK K k34
            refine wpAny_take (i := 6) (v := ?_) rfl (by kernel_rfl) (by kernel_rfl) (by kernel_rfl) (fun _ _ _ h => h) (Or.inl ⟨by rfl, ?_⟩) ?_
            rotate_left
            · (intro w; go_simp; try with_reducible rfl)
            refine wpAny_take (i := 7) (v := ?_) rfl (by kernel_rfl) (by kernel_rfl) (by kernel_rfl) (fun _ _ _ h => h) (Or.inl ⟨by rfl, ?_⟩) ?_
            rotate_left
            · (intro w; go_simp; try with_reducible rfl)
            refine wpAny_take (i := 8) (v := ?_) rfl (by kernel_rfl) (by kernel_rfl) (by kernel_rfl) (fun _ _ _ h => h) (Or.inl ⟨by rfl, ?_⟩) ?_
            rotate_left
            · (intro w; go_simp; try with_reducible rfl)
            refine wpAny_ready (rs := [9]) (by kernel_rfl) (by simp) ?_
            refine AllReady.cons rfl (fun K hK => ?_) AllReady.nil
            · go_simp
              have B35 := hid (below_on B34.out (alloc_b x34 (.cells #[.int .u8 0, .int .i64 0, .int .i64 0, .int .i64 0] 25)))
              have Z35 := hid (S4.new x34 (.int .u8 0) (.int .i64 0) (.int .i64 0) (.int .i64 0))
              have q35 : w5.heap.size ≤ x34.heap.size := B34.out.size
              refine hK _ _ ?_
              clear hK K
              refine wpAny_ready (rs := [10]) (by kernel_rfl) (by simp) ?_
              refine AllReady.cons rfl (fun K hK => ?_) AllReady.nil
              · go_simp
                refine hK _ _ ?_
                clear hK K
                refine wpAny_take (i := 11) (v := ?_) rfl (by kernel_rfl) (by kernel_rfl) (by kernel_rfl) (fun _ _ _ h => h) (Or.inl ⟨by rfl, ?_⟩) ?_
                rotate_left
                · (intro w; go_simp; try with_reducible rfl)
                refine wpAny_done (by kernel_rfl) ?_ _
                go_wp2_with fail
                go_meet
                first | exact ⟨_, rfl, rfl, show _ ∧ _ from ⟨T3.out.on (dset4_below B35.out q35), Z35.out.put _ _ _ _⟩⟩ | exact ⟨_, rfl, rfl, show _ ∧ _ from ⟨T3.out.on (below_on B34.out (alloc_b _ _)), S4.new _ _ _ _ _⟩⟩
          · go_simp
            have B37 := hid (below_on B32.out (alloc_b x32 (.cells #[.int .u8 0, .int .i64 0, .int .i64 0, .int .i64 0] 25)))
            have Z37 := hid (S4.new x32 (.int .u8 0) (.int .i64 0) (.int .i64 0) (.int .i64 0))
            have q37 : w5.heap.size ≤ x32.heap.size := B32.out.size
            refine hK _ _ ?_
            clear hK K
            refine wpAny_ready (rs := [5]) (by kernel_rfl) (by simp) ?_
            refine AllReady.cons rfl (fun K hK => ?_) AllReady.nil
            · go_simp
              with_reducible refine (SE.out _).mono ?_
              rintro r x38 ⟨rfl, k38⟩
              have B38 := hid (below_on B37.out k38)
              have Z38 := hid (Z37.out.below k38)
              obtain ⟨⟨z380, z381, z382, z383⟩, ⟨y380, y381, y382, y383⟩⟩ := Z38.out.cells
              refine hK _ _ ?_
              clear hK K k38
              refine wpAny_take (i := 6) (v := ?_) rfl (by kernel_rfl) (by kernel_rfl) (by kernel_rfl) (fun _ _ _ h => h) (Or.inl ⟨by rfl, ?_⟩) ?_
              rotate_left
              · (intro w; go_simp; try with_reducible rfl)
              refine wpAny_take (i := 7) (v := ?_) rfl (by kernel_rfl) (by kernel_rfl) (by kernel_rfl) (fun _ _ _ h => h) (Or.inl ⟨by rfl, ?_⟩) ?_
              rotate_left
              · (intro w; go_simp; try with_reducible rfl)
              refine wpAny_take (i := 8) (v := ?_) rfl (by kernel_rfl) (by kernel_rfl) (by kernel_rfl) (fun _ _ _ h => h) (Or.inl ⟨by rfl, ?_⟩) ?_
              rotate_left
              · (intro w; go_simp; try with_reducible rfl)
              refine wpAny_ready (rs := [10]) (by kernel_rfl) (by simp) ?_
              refine AllReady.cons rfl (fun K hK => ?_) AllReady.nil
              · go_simp
                refine hK _ _ ?_
                clear hK K
                refine wpAny_take (i := 11) (v := ?_) rfl (by kernel_rfl) (by kernel_rfl) (by kernel_rfl) (fun _ _ _ h => h) (Or.inl ⟨by rfl, ?_⟩) ?_
                rotate_left
                · (intro w; go_simp; try with_reducible rfl)
                refine wpAny_done (by kernel_rfl) ?_ _
                go_wp2_with fail
                go_meet
                exact ⟨_, rfl, rfl, show _ ∧ _ from ⟨T3.out.on (dset4_below B38.out q37), Z38.out.put _ _ _ _⟩⟩
        · go_simp
          have B40 := hid (below_on B32.out (alloc_b x32 (.cells #[.int .u8 0, .int .i64 0, .int .i64 0, .int .i64 0] 25)))
          have Z40 := hid (S4.new x32 (.int .u8 0) (.int .i64 0) (.int .i64 0) (.int .i64 0))
          have q40 : w5.heap.size ≤ x32.heap.size := B32.out.size
          refine hK _ _ ?_
          clear hK K
          refine wpAny_ready (rs := [0]) (by kernel_rfl) (by simp) ?_
          refine AllReady.cons rfl (fun K hK => ?_) AllReady.nil
          · go_simp
            refine hK _ _ ?_
            clear hK K
            refine wpAny_ready (rs := [5]) (by kernel_rfl) (by simp) ?_
            refine AllReady.cons rfl (fun K hK => ?_) AllReady.nil
            · go_simp
              with_reducible refine (SE.out _).mono ?_
              rintro r x42 ⟨rfl, k42⟩
              have B42 := hid (below_on B40.out k42)
              have Z42 := hid (Z40.out.below k42)
              obtain ⟨⟨z420, z421, z422, z423⟩, ⟨y420, y421, y422, y423⟩⟩ := Z42.out.cells
              refine hK _ _ ?_
              clear hK K k42
              refine wpAny_take (i := 6) (v := ?_) rfl (by kernel_rfl) (by kernel_rfl) (by kernel_rfl) (fun _ _ _ h => h) (Or.inl ⟨by rfl, ?_⟩) ?_
              rotate_left
              · (intro w; go_simp; try with_reducible rfl)
              refine wpAny_take (i := 7) (v := ?_) rfl (by kernel_rfl) (by kernel_rfl) (by kernel_rfl) (fun _ _ _ h => h) (Or.inl ⟨by rfl, ?_⟩) ?_
              rotate_left
              · (intro w; go_simp; try with_reducible rfl)
              refine wpAny_take (i := 8) (v := ?_) rfl (by kernel_rfl) (by kernel_rfl) (by kernel_rfl) (fun _ _ _ h => h) (Or.inl ⟨by rfl, ?_⟩) ?_
              rotate_left
              · (intro w; go_simp; try with_reducible rfl)
              refine wpAny_ready (rs := [10]) (by kernel_rfl) (by simp) ?_
              refine AllReady.cons rfl (fun K hK => ?_) AllReady.nil
              · go_simp
                refine hK _ _ ?_
                clear hK K
                refine wpAny_take (i := 11) (v := ?_) rfl (by kernel_rfl) (by kernel_rfl) (by kernel_rfl) (fun _ _ _ h => h) (Or.inl ⟨by rfl, ?_⟩) ?_
                rotate_left
                · (intro w; go_simp; try with_reducible rfl)
                refine wpAny_done (by kernel_rfl) ?_ _
                go_wp2_with fail
                go_meet
                exact ⟨_, rfl, rfl, show _ ∧ _ from ⟨T3.out.on (dset4_below B42.out q40), Z42.out.put _ _ _ _⟩⟩
      · go_simp
        have B44 := hid (below_on B19.out (alloc_b x19 (.cells #[.int .u8 0, .int .i64 0, .int .i64 0, .int .i64 0] 25)))
        have Z44 := hid (S4.new x19 (.int .u8 0) (.int .i64 0) (.int .i64 0) (.int .i64 0))
        have q44 : w5.heap.size ≤ x19.heap.size := B19.out.size
        refine hK _ _ ?_
        clear hK K
        refine wpAny_ready (rs := [0, 4]) (by kernel_rfl) (by simp) ?_
        refine AllReady.cons rfl (fun K hK => ?_) (AllReady.cons rfl (fun K hK => ?_) AllReady.nil)
        · go_simp
          refine hK _ _ ?_
          clear hK K
          refine wpAny_ready (rs := [4]) (by kernel_rfl) (by simp) ?_
          refine AllReady.cons rfl (fun K hK => ?_) AllReady.nil
          · go_simp
            with_reducible refine (CO2.out _).mono ?_
            rintro r x46 ⟨rfl, k46⟩
            have B46 := hid (below_on B44.out k46)
            have Z46 := hid (Z44.out.below k46)
            refine hK _ _ ?_
            clear hK K k46
            refine wpAny_ready (rs := [5]) (by kernel_rfl) (by simp) ?_
            refine AllReady.cons rfl (fun K hK => ?_) AllReady.nil
            · go_simp
              with_reducible refine (SE.out _).mono ?_
              rintro r x47 ⟨rfl, k47⟩
              have B47 := hid (below_on B46.out k47)
              have Z47 := hid (Z46.out.below k47)
              obtain ⟨⟨z470, z471, z472, z473⟩, ⟨y470, y471, y472, y473⟩⟩ := Z47.out.cells
              refine hK _ _ ?_
              clear hK K k47
              refine wpAny_take (i := 6) (v := ?_) rfl (by kernel_rfl) (by kernel_rfl) (by kernel_rfl) (fun _ _ _ h => h) (Or.inl ⟨by rfl, ?_⟩) ?_
              rotate_left
              · (intro w; go_simp; try with_reducible rfl)
              refine wpAny_take (i := 7) (v := ?_) rfl (by kernel_rfl) (by kernel_rfl) (by kernel_rfl) (fun _ _ _ h => h) (Or.inl ⟨by rfl, ?_⟩) ?_
              rotate_left
              · (intro w; go_simp; try with_reducible rfl)
              refine wpAny_take (i := 8) (v := ?_) rfl (by kernel_rfl) (by kernel_rfl) (by kernel_rfl) (fun _ _ _ h => h) (Or.inl ⟨by rfl, ?_⟩) ?_
              rotate_left
              · (intro w; go_simp; try with_reducible rfl)
              refine wpAny_ready (rs := [10]) (by kernel_rfl) (by simp) ?_
              refine AllReady.cons rfl (fun K hK => ?_) AllReady.nil
              · go_simp
                refine hK _ _ ?_
                clear hK K
                refine wpAny_take (i := 11) (v := ?_) rfl (by kernel_rfl) (by kernel_rfl) (by kernel_rfl) (fun _ _ _ h => h) (Or.inl ⟨by rfl, ?_⟩) ?_
                rotate_left
                · (intro w; go_simp; try with_reducible rfl)
                refine wpAny_done (by kernel_rfl) ?_ _
                go_wp2_with fail
                go_meet
                exact ⟨_, rfl, rfl, show _ ∧ _ from ⟨T3.out.on (dset4_below B47.out q44), Z47.out.put _ _ _ _⟩⟩
        · go_simp
          with_reducible refine (CO2.out _).mono ?_
          rintro r x49 ⟨rfl, k49⟩
          have B49 := hid (below_on B44.out k49)
          obtain ⟨p490, p491, p492, p493, p494, p495, p496⟩ := (T3.out.on B49.out).flat
          have l49 := blk_lt (T3.out.on B49.out).box
          have Z49 := hid (Z44.out.below k49)
          refine hK _ _ ?_
          clear hK K k49
          refine wpAny_ready (rs := [0]) (by kernel_rfl) (by simp) ?_
          refine AllReady.cons rfl (fun K hK => ?_) AllReady.nil
          · go_simp
            refine hK _ _ ?_
            clear hK K
            refine wpAny_ready (rs := [5]) (by kernel_rfl) (by simp) ?_
            refine AllReady.cons rfl (fun K hK => ?_) AllReady.nil
            · go_simp
              with_reducible refine (SE.out _).mono ?_
              rintro r x51 ⟨rfl, k51⟩
              have B51 := hid (below_on B49.out k51)
              have Z51 := hid (Z49.out.below k51)
              obtain ⟨⟨z510, z511, z512, z513⟩, ⟨y510, y511, y512, y513⟩⟩ := Z51.out.cells
              refine hK _ _ ?_
              clear hK K k51
              refine wpAny_take (i := 6) (v := ?_) rfl (by kernel_rfl) (by kernel_rfl) (by kernel_rfl) (fun _ _ _ h => h) (Or.inl ⟨by rfl, ?_⟩) ?_
              rotate_left
              · (intro w; go_simp; try with_reducible rfl)
              refine wpAny_take (i := 7) (v := ?_) rfl (by kernel_rfl) (by kernel_rfl) (by kernel_rfl) (fun _ _ _ h => h) (Or.inl ⟨by rfl, ?_⟩) ?_
              rotate_left
              · (intro w; go_simp; try with_reducible rfl)
              refine wpAny_take (i := 8) (v := ?_) rfl (by kernel_rfl) (by kernel_rfl) (by kernel_rfl) (fun _ _ _ h => h) (Or.inl ⟨by rfl, ?_⟩) ?_
              rotate_left
              · (intro w; go_simp; try with_reducible rfl)
              refine wpAny_ready (rs := [10]) (by kernel_rfl) (by simp) ?_
              refine AllReady.cons rfl (fun K hK => ?_) AllReady.nil
              · go_simp
                refine hK _ _ ?_
                clear hK K
                refine wpAny_take (i := 11) (v := ?_) rfl (by kernel_rfl) (by kernel_rfl) (by kernel_rfl) (fun _ _ _ h => h) (Or.inl ⟨by rfl, ?_⟩) ?_
                rotate_left
                · (intro w; go_simp; try with_reducible rfl)
                refine wpAny_done (by kernel_rfl) ?_ _
                go_wp2_with fail
                go_meet
                exact ⟨_, rfl, rfl, show _ ∧ _ from ⟨T3.out.on (dset4_below B51.out q44), Z51.out.put _ _ _ _⟩⟩
    · go_simp
      have B53 : Hid (Below w5.heap.size w5 (w5.alloc (.cells #[.int .u8 0, .int .i64 0, .int .i64 0, .int .i64 0] 25)).drew) := Below.drew (alloc_b w5 _)
      have Z53 : Hid (S4 (w5.alloc (.cells #[.int .u8 0, .int .i64 0, .int .i64 0, .int .i64 0] 25)).drew w5.heap.size (.int .u8 0) (.int .i64 0) (.int .i64 0) (.int .i64 0)) := S4.new w5 _ _ _ _
      have q53 : w5.heap.size ≤ w5.heap.size := Nat.le_refl _
      refine hK _ _ ?_
      clear hK K
      refine wpAny_ready (rs := [0, 2]) (by kernel_rfl) (by simp) ?_
      refine AllReady.cons rfl (fun K hK => ?_) (AllReady.cons rfl (fun K hK => ?_) AllReady.nil)
      · go_simp
        refine hK _ _ ?_
        clear hK K
        refine wpAny_ready (rs := [2]) (by kernel_rfl) (by simp) ?_
        refine AllReady.cons rfl (fun K hK => ?_) AllReady.nil
        · go_simp
          with_reducible refine (CO1.out _).mono ?_
          rintro r x55 ⟨rfl, k55⟩
          have B55 := hid (below_on B53.out k55)
          have Z55 := hid (Z53.out.below k55)
          refine hK _ _ ?_
          clear hK K k55
          refine wpAny_ready (rs := [4]) (by kernel_rfl) (by simp) ?_
          refine AllReady.cons rfl (fun K hK => ?_) AllReady.nil
          · go_simp
            with_reducible refine (CO2.out _).mono ?_
            rintro r x56 ⟨rfl, k56⟩
            have B56 := hid (below_on B55.out k56)
            have Z56 := hid (Z55.out.below k56)
            refine hK _ _ ?_
            clear hK K k56
            refine wpAny_ready (rs := [5]) (by kernel_rfl) (by simp) ?_
            refine AllReady.cons rfl (fun K hK => ?_) AllReady.nil
            · go_simp
              with_reducible refine (SE.out _).mono ?_
              rintro r x57 ⟨rfl, k57⟩
              have B57 := hid (below_on B56.out k57)
              have Z57 := hid (Z56.out.below k57)
              obtain ⟨⟨z570, z571, z572, z573⟩, ⟨y570, y571, y572, y573⟩⟩ := Z57.out.cells
              refine hK _ _ ?_
              clear hK K k57
              refine wpAny_take (i := 6) (v := ?_) rfl (by kernel_rfl) (by kernel_rfl) (by kernel_rfl) (fun _ _ _ h => h) (Or.inl ⟨by rfl, ?_⟩) ?_
              rotate_left
              · (intro w; go_simp; try with_reducible rfl)
              refine wpAny_take (i := 7) (v := ?_) rfl (by kernel_rfl) (by kernel_rfl) (by kernel_rfl) (fun _ _ _ h => h) (Or.inl ⟨by rfl, ?_⟩) ?_
              rotate_left
              · (intro w; go_simp; try with_reducible rfl)
              refine wpAny_take (i := 8) (v := ?_) rfl (by kernel_rfl) (by kernel_rfl) (by kernel_rfl) (fun _ _ _ h => h) (Or.inl ⟨by rfl, ?_⟩) ?_
              rotate_left
              · (intro w; go_simp; try with_reducible rfl)
              refine wpAny_ready (rs := [10]) (by kernel_rfl) (by simp) ?_
              refine AllReady.cons rfl (fun K hK => ?_) AllReady.nil
              · go_simp
                refine hK _ _ ?_
                clear hK K
                refine wpAny_take (i := 11) (v := ?_) rfl (by kernel_rfl) (by kernel_rfl) (by kernel_rfl) (fun _ _ _ h => h) (Or.inl ⟨by rfl, ?_⟩) ?_
                rotate_left
                · (intro w; go_simp; try with_reducible rfl)
                refine wpAny_done (by kernel_rfl) ?_ _
                go_wp2_with fail
                go_meet
                exact ⟨_, rfl, rfl, show _ ∧ _ from ⟨T3.out.on (dset4_below B57.out q53), Z57.out.put _ _ _ _⟩⟩
      · go_simp
        with_reducible refine (CO1.out _).mono ?_
        rintro r x59 ⟨rfl, k59⟩
        have B59 := hid (below_on B53.out k59)
        obtain ⟨p590, p591, p592, p593, p594, p595, p596⟩ := (T3.out.on B59.out).flat
        have l59 := blk_lt (T3.out.on B59.out).box
        have Z59 := hid (Z53.out.below k59)
        refine hK _ _ ?_
        clear hK K k59
        refine wpAny_ready (rs := [0, 4]) (by kernel_rfl) (by simp) ?_
        refine AllReady.cons rfl (fun K hK => ?_) (AllReady.cons rfl (fun K hK => ?_) AllReady.nil)
        · go_simp
          refine hK _ _ ?_
          clear hK K
          refine wpAny_ready (rs := [4]) (by kernel_rfl) (by simp) ?_
          refine AllReady.cons rfl (fun K hK => ?_) AllReady.nil
          · go_simp
            with_reducible refine (CO2.out _).mono ?_
            rintro r x61 ⟨rfl, k61⟩
            have B61 := hid (below_on B59.out k61)
            have Z61 := hid (Z59.out.below k61)
            refine hK _ _ ?_
            clear hK K k61
            refine wpAny_ready (rs := [5]) (by kernel_rfl) (by simp) ?_
            refine AllReady.cons rfl (fun K hK => ?_) AllReady.nil
            · go_simp
              with_reducible refine (SE.out _).mono ?_
              rintro r x62 ⟨rfl, k62⟩
              have B62 := hid (below_on B61.out k62)
              have Z62 := hid (Z61.out.below k62)
              obtain ⟨⟨z620, z621, z622, z623⟩, ⟨y620, y621, y622, y623⟩⟩ := Z62.out.cells
              refine hK _ _ ?_
              clear hK K k62
              refine wpAny_take (i := 6) (v := ?_) rfl (by kernel_rfl) (by kernel_rfl) (by kernel_rfl) (fun _ _ _ h => h) (Or.inl ⟨by rfl, ?_⟩) ?_
              rotate_left
              · (intro w; go_simp; try with_reducible rfl)
              refine wpAny_take (i := 7) (v := ?_) rfl (by kernel_rfl) (by kernel_rfl) (by kernel_rfl) (fun _ _ _ h => h) (Or.inl ⟨by rfl, ?_⟩) ?_
              rotate_left
              · (intro w; go_simp; try with_reducible rfl)
              refine wpAny_take (i := 8) (v := ?_) rfl (by kernel_rfl) (by kernel_rfl) (by kernel_rfl) (fun _ _ _ h => h) (Or.inl ⟨by rfl, ?_⟩) ?_
              rotate_left
              · (intro w; go_simp; try with_reducible rfl)
              refine wpAny_ready (rs := [10]) (by kernel_rfl) (by simp) ?_
              refine AllReady.cons rfl (fun K hK => ?_) AllReady.nil
              · go_simp
                refine hK _ _ ?_
                clear hK K
                refine wpAny_take (i := 11) (v := ?_) rfl (by kernel_rfl) (by kernel_rfl) (by kernel_rfl) (fun _ _ _ h => h) (Or.inl ⟨by rfl, ?_⟩) ?_
                rotate_left
                · (intro w; go_simp; try with_reducible rfl)
                refine wpAny_done (by kernel_rfl) ?_ _
                go_wp2_with fail
                go_meet
                exact ⟨_, rfl, rfl, show _ ∧ _ from ⟨T3.out.on (dset4_below B62.out q53), Z62.out.put _ _ _ _⟩⟩
        · go_simp
          with_reducible refine (CO2.out _).mono ?_
          rintro r x64 ⟨rfl, k64⟩
          have B64 := hid (below_on B59.out k64)
          obtain ⟨p640, p641, p642, p643, p644, p645, p646⟩ := (T3.out.on B64.out).flat
          have l64 := blk_lt (T3.out.on B64.out).box
          have Z64 := hid (Z59.out.below k64)
          refine hK _ _ ?_
          clear hK K k64
          refine wpAny_ready (rs := [0]) (by kernel_rfl) (by simp) ?_
          refine AllReady.cons rfl (fun K hK => ?_) AllReady.nil
          · go_simp
            refine hK _ _ ?_
            clear hK K
            refine wpAny_ready (rs := [5]) (by kernel_rfl) (by simp) ?_
            refine AllReady.cons rfl (fun K hK => ?_) AllReady.nil
            · go_simp
              with_reducible refine (SE.out _).mono ?_
              rintro r x66 ⟨rfl, k66⟩
              have B66 := hid (below_on B64.out k66)
              have Z66 := hid (Z64.out.below k66)
              obtain ⟨⟨z660, z661, z662, z663⟩, ⟨y660, y661, y662, y663⟩⟩ := Z66.out.cells
              refine hK _ _ ?_
              clear hK K k66
              refine wpAny_take (i := 6) (v := ?_) rfl (by kernel_rfl) (by kernel_rfl) (by kernel_rfl) (fun _ _ _ h => h) (Or.inl ⟨by rfl, ?_⟩) ?_
              rotate_left
              · (intro w; go_simp; try with_reducible rfl)
              refine wpAny_take (i := 7) (v := ?_) rfl (by kernel_rfl) (by kernel_rfl) (by kernel_rfl) (fun _ _ _ h => h) (Or.inl ⟨by rfl, ?_⟩) ?_
              rotate_left
              · (intro w; go_simp; try with_reducible rfl)
              refine wpAny_take (i := 8) (v := ?_) rfl (by kernel_rfl) (by kernel_rfl) (by kernel_rfl) (fun _ _ _ h => h) (Or.inl ⟨by rfl, ?_⟩) ?_
              rotate_left
              · (intro w; go_simp; try with_reducible rfl)
              refine wpAny_ready (rs := [10]) (by kernel_rfl) (by simp) ?_
              refine AllReady.cons rfl (fun K hK => ?_) AllReady.nil
              · go_simp
                refine hK _ _ ?_
                clear hK K
                refine wpAny_take (i := 11) (v := ?_) rfl (by kernel_rfl) (by kernel_rfl) (by kernel_rfl) (fun _ _ _ h => h) (Or.inl ⟨by rfl, ?_⟩) ?_
                rotate_left
                · (intro w; go_simp; try with_reducible rfl)
                refine wpAny_done (by kernel_rfl) ?_ _
                go_wp2_with fail
                go_meet
                exact ⟨_, rfl, rfl, show _ ∧ _ from ⟨T3.out.on (dset4_below B66.out q53), Z66.out.put _ _ _ _⟩⟩
  case rest =>
  obtain ⟨sb, h7, h8, K9⟩ := hcut
  subst h7
  subst h8
  clear CO1 CO2 SE T3
  by_cases e0 : E = 0
  · have hs := spv_ok (HE.out.trans e0)
    rw [HS.out] at hs
    simp only [Array.mk.injEq, List.cons.injEq, Value.int.injEq, true_and, and_true] at hs
    obtain ⟨rfl, rfl, rfl, rfl⟩ := hs
    have EQ : Rn.dirE p A = Rn.oneE p.v (Rn.sF p x) (Rn.sV p x) (sP p y) (Rn.aA p A) := by rw [LT.out.1, HE.out, if_neg (by rw [e0]; decide)]
    have TQ := LT.out.2
    have ON := hid (fun wk (k : Tab wk) => one_any p.v (Rn.sF p x) (Rn.sV p x) (sP p y) (Rn.aA p A) wk k PW.out.2.1 PW.out.2.2 AW)
    unfold OneTold at ON
    rw [← EQ, ← TQ] at ON
    have RD : Hid (∀ e t r w', Rn.dirE p A = e → Rn.dirT p A = t → (e ≠ 0 ∧ r = .panicked (flt e) ∧ Below w1.heap.size w1 w') ∨ (e = 0 ∧ r = .returned (.string (strOfNums t)) ∧ ∃ v', RWS w1 v' (A.drop (Dr.tk p).toNat) zs w') → DirTold w1 A zs p r w') := by
      intro e t r w' h1 h2 k
      subst h1
      subst h2
      exact k
    obtain ⟨e1, he1⟩ : ∃ e1, Rn.dirE p A = e1 := ⟨_, rfl⟩
    obtain ⟨t1, ht1⟩ : ∃ t1, Rn.dirT p A = t1 := ⟨_, rfl⟩
    have RD := hid (fun r w' => RD.out e1 t1 r w' he1 ht1)
    rw [he1, ht1] at ON
    have dl := DL.out
    subst dl
    subst e0
    have NX := hid (fun wk (k : RWS w1 v5 (Rn.aA p A :: A.drop (Dr.tk p).toNat) zs wk) => wnext_any w1 wk v5 (Rn.aA p A) (A.drop (Dr.tk p).toNat) zs k)
    generalize A.drop (Dr.tk p).toNat = A3 at *
    generalize Rn.aA p A = ag at *
    clear LT EQ TQ he1 ht1 HS HE DL hr AW
    generalize Rn.sF p x = F at *
    generalize Rn.sV p x = W at *
    generalize sP p y = P at *
    have TB : Hid (∀ wk, Below w1.heap.size w1 wk → Tab wk) := fun wk k => HT.out.below k
    have NE : Hid (∀ wk, RWS w1 v5 (ag :: A3) zs wk → S4 wk sb (.int .u8 p.v) (.int .i64 F) (.int .i64 W) (.int .i64 P) → sb ≠ w1.heap.size) := by
      intro wk k s q
      obtain ⟨pq, _, vv, hb, _⟩ := k.isw.any
      rw [S4, q, hb] at s
      simp at s
    go_upto_region 12 with fail
    have Q1 := hid (K9.out.1.ws.on (Below.drew (Below.refl wc.heap.size wc)))
    have Q2 : Hid (S4 wc.drew sb (.int .u8 p.v) (.int .i64 F) (.int .i64 W) (.int .i64 P)) := K9.out.2
    go_region_held3 (fun wx => wx.cell? ⟨sb, 0, none⟩ = some (.int .u8 p.v) ∧ wx.cell? ⟨sb, 1, none⟩ = some (.int .i64 F) ∧ wx.cell? ⟨sb, 2, none⟩ = some (.int .i64 W) ∧ wx.cell? ⟨sb, 3, none⟩ = some (.int .i64 P)) (first | (with_reducible exact M6.out.cells.1) | (with_reducible exact M4.out.cells.1) | (with_reducible exact Q2.out.cells.1)) (first
      | (go_at_call 90; with_reducible refine (NX.out _ Q1.out).mono ?_; rintro r y4 ⟨rfl, ⟨v6, k4⟩, kp4⟩; have M3 := hid k4; have M4 := hid (Q2.out.keep kp4 (NE.out _ Q1.out Q2.out)); clear k4 kp4)
      | (go_at_call 22; with_reducible refine (ON.out _ (TB.out _ M3.out.bel)).mono ?_; rintro r y5 ⟨rfl, k5⟩; have M5 := hid (M3.out.on k5); have M6 := hid (M4.out.below k5); clear k5))
    by_cases z : e1 = 0
    · have R := hid (RD.out _ y5 (.inr ⟨z, rfl, _, M5.out⟩))
      subst z
      clear RD ON NX M3 M4 M5 M6 Q1 Q2 K9 TB NE GU HT PW
      go_wp2_with fail
      go_ret
      exact R.out
    · have R := hid (RD.out _ y5 (.inl ⟨z, rfl, M5.out.bel⟩))
      have n1 : (e1 == 0) = false := by simpa using z
      have n2 : (e1 != 0) = true := by simpa using z
      clear RD ON NX M3 M4 M5 M6 Q1 Q2 K9 TB NE HT PW z
      go_wp2_with fail
      with_reducible refine (GU.out _ _).mono ?_
      rintro r w9 ⟨rfl, e9⟩
      subst e9
      exact ⟨rfl, R.out⟩
  · have R : Hid (∀ w', Below w1.heap.size w1 w' → DirTold w1 A zs p (.panicked (flt E)) w') := by
      intro w' k
      have e : Rn.dirE p A = E := by rw [LT.out.1, HE.out, if_pos e0]
      exact .inl ⟨by rw [e]; exact e0, by rw [e], k⟩
    have BE := hid K9.out.1.ws.bel
    have n1 : (E == 0) = false := by simpa using e0
    have n2 : (E != 0) = true := by simpa using e0
    clear LT AW DL HT hr HS PW HE K9 e0
    go_wp2_with fail
    with_reducible refine (GU.out _ _).mono ?_
    rintro r w9 ⟨rfl, e9⟩
    subst e9
    exact ⟨rfl, R.out _ BE.out⟩
end Go.Proofs.YtiflponlioldmaaGreatDoor
