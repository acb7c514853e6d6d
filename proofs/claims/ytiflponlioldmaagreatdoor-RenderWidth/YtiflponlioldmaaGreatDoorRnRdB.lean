/-
  render: rendered (mkrnrd.py): a star that is no number.
-/
import Derived.Test.YtiflponlioldmaaGreatDoorRnRd
namespace Go.Proofs.YtiflponlioldmaaGreatDoor
open Go Go.RowKit Go.Deep Go.Shelf

set_option maxRecDepth 100000 in
set_option maxHeartbeats 4000000 in
theorem rdB (w1 w : World) (hT : Tab w1) (v : Value) (A : List Rn.Ag) (zs : List Int) (p : Dr.Pc) (h : RWS w1 v A zs w) (hp : PcW p) (hr : Dr.isR p) (hA : ∀ a ∈ A, AgW a) (hl : A.length ≤ 4398046511104) (fw : Hid (¬ (A.length : Int) < Dr.tk p)) (b1 : Hid (¬ (p.wk = 2 ∧ (Rn.aW A).x = true))) (b2 : Hid (¬ (p.pk = 2 ∧ (Rn.aP p A).x = true))) (cs : Hid (Ie.fnt (stV p.wk A) = false ∨ Ie.fnt (stV p.pk (stA p.wk A)) = false)) :
    Calls Tryz.prog 41 #[.pointer (some ⟨w1.heap.size, 0, none⟩), .agg #[.string (strOfNums p.t), .int .u8 p.v, .int .i64 p.fl, .int .i64 p.wk, .int .i64 p.wd, .int .i64 p.pk, .int .i64 p.pr]] w fun r w' => DirTold w1 A zs p r w' := by
  have UU := hid (And.intro hp hA)
  clear UU
  obtain ⟨vn0, vn37, -⟩ := Dr.verb_ne hr.1
  have n0 : (p.v == 0) = false := by simpa using vn0
  have n37 : (p.v == 37) = false := by simpa using vn37
  have tk0 : Dr.tk p = 1 + (if p.wk = 2 then 1 else 0) + (if p.pk = 2 then 1 else 0) := by rw [Dr.tk, if_neg (by omega)]
  have tb := Dr.tk_bd p
  have R0 := hid (RB7.new h p)
  have WA : Hid (∀ (wk : World) (g : Nat), PCells wk g 0 p → Calls Tryz.prog 16 #[.slice (some ⟨g, 0, none⟩) 1 1] wk fun e w' => e = .returned (.int .i64 (Dr.tk p)) ∧ Below wk.heap.size wk w') := by
    intro wk g hc
    have := wants_any (some ⟨g, 0, none⟩) 1 [p] wk (.inr ⟨g, 0, rfl, fun i q hq => by
      cases i with
      | zero => simp at hq; subst hq; simpa using hc
      | succ i => simp at hq⟩) (by simp)
    rw [wants_one] at this
    exact this
  have GU := hid (fun E wk => giveUp_any E wk)
  obtain ⟨bx, hbx⟩ : ∃ bx, w.heap.size = bx := ⟨_, rfl⟩
  rw [hbx] at R0
  -- what there is of each way
  have FEW : Hid ((A.length : Int) < Dr.tk p → ∀ w', Below w1.heap.size w1 w' → DirTold w1 A zs p (.panicked (flt 160)) w') := by
    intro q w' k
    have e : Rn.dirE p A = 160 := by rw [Rn.dirE, if_pos q]
    exact .inl ⟨by rw [e]; decide, by rw [e], k⟩
  obtain ⟨g1, g2, g3, g4, g5⟩ := Rn.dir_vals p A
  have BAD : Hid (¬ (A.length : Int) < Dr.tk p → ((p.wk = 2 ∧ (Rn.aW A).x = true) ∨ (p.pk = 2 ∧ (Rn.aP p A).x = true)) → ∀ w', Below w1.heap.size w1 w' → DirTold w1 A zs p (.panicked (flt 161)) w') := by
    intro q z w' k
    have e : Rn.dirE p A = 161 := by rw [Rn.dirE, if_neg q, if_pos z]
    exact .inl ⟨by rw [e]; decide, by rw [e], k⟩
  have WID : Hid (¬ (A.length : Int) < Dr.tk p → ¬ ((p.wk = 2 ∧ (Rn.aW A).x = true) ∨ (p.pk = 2 ∧ (Rn.aP p A).x = true)) → (Ie.fnt (stV p.wk A) = false ∨ Ie.fnt (stV p.pk (stA p.wk A)) = false) → ∀ w', Below w1.heap.size w1 w' → DirTold w1 A zs p (.panicked (flt 6)) w') := by
    intro q z y w' k
    have e : Rn.dirE p A = 6 := by rw [Rn.dirE, if_neg q, if_neg z, if_pos (y.imp g3.2 g4.2)]
    exact .inl ⟨by rw [e]; decide, by rw [e], k⟩
  have LATE : Hid (¬ (A.length : Int) < Dr.tk p → ¬ ((p.wk = 2 ∧ (Rn.aW A).x = true) ∨ (p.pk = 2 ∧ (Rn.aP p A).x = true)) → ¬ (Ie.fnt (stV p.wk A) = false ∨ Ie.fnt (stV p.pk (stA p.wk A)) = false) →
      Rn.dirE p A = (if ste p (Rn.cutI (stV p.wk A)) (Rn.cutI (stV p.pk (stA p.wk A))) ≠ 0 then ste p (Rn.cutI (stV p.wk A)) (Rn.cutI (stV p.pk (stA p.wk A))) else Rn.oneE p.v (Rn.sF p (Rn.cutI (stV p.wk A))) (Rn.sV p (Rn.cutI (stV p.wk A))) (sP p (Rn.cutI (stV p.pk (stA p.wk A)))) (Rn.aA p A)) ∧
      Rn.dirT p A = Rn.oneT p.v (Rn.sF p (Rn.cutI (stV p.wk A))) (Rn.sV p (Rn.cutI (stV p.wk A))) (sP p (Rn.cutI (stV p.pk (stA p.wk A)))) (Rn.aA p A)) := by
    intro q z y
    refine ⟨?_, by rw [Rn.dirT, g1, g2]⟩
    rw [Rn.dirE, if_neg q, if_neg z, if_neg (fun x => y (x.imp g3.1 g4.1)), g1, g2]
  have HT := hid hT
  -- the first drawn region: how many are wanted
  have AVl : ∃ pa cap, v = .slice pa A.length cap := by obtain ⟨pa, cap, e, _⟩ := h.av; exact ⟨pa, cap, e⟩
  obtain ⟨pa, cap, hv⟩ := AVl
  have CC := hid (fun (wk : World) (k : RWS w1 v A zs wk) => k.isw.cell0.1)
  have PCX : Hid (∀ (wk : World) (vv : Value) (g : Nat), PCells (wk.alloc (.cells #[.string (strOfNums p.t), .int .u8 p.v, .int .i64 p.fl, .int .i64 p.wk, .int .i64 p.wd, .int .i64 p.pk, .int .i64 p.pr] 39)) wk.heap.size 0 p) := by
    intro wk _ _
    have e : (wk.alloc (.cells #[.string (strOfNums p.t), .int .u8 p.v, .int .i64 p.fl, .int .i64 p.wk, .int .i64 p.wd, .int .i64 p.pk, .int .i64 p.pr] 39)).heap[wk.heap.size]? = _ := heap_alloc_new wk _
    refine ⟨?_, ?_, ?_, ?_, ?_, ?_, ?_⟩ <;> rw [Lib.cell_of_heap e] <;> rfl
  subst hv
  clear h
  go_enter Tryz.func41, Tryz.ntmps41
  go_upto_region 6 with fail
  generalize hwa : (w.alloc (.cells #[.string (strOfNums p.t), .int .u8 p.v, .int .i64 p.fl, .int .i64 p.wk, .int .i64 p.wd, .int .i64 p.pk, .int .i64 p.pr] 39)) = wa at *
  clear hwa hbx
  go_cut [26] from 18 to 25 (fun b wx => b = .bool (decide ((A.length : Int) < Dr.tk p)) ∧ Hid (RB7 w1 (.slice pa A.length cap) A zs bx p wx))
  case first =>
    have T1 := hid R0.out.drew
    obtain ⟨c0, c1, c2, c3, c4, c5, c6⟩ := T1.out.flat
    have d0 := CC.out _ T1.out.ws
    have T2 : Hid (RB7 w1 (.slice pa A.length cap) A zs bx p (wa.alloc (.cells #[.string (strOfNums p.t), .int .u8 p.v, .int .i64 p.fl, .int .i64 p.wk, .int .i64 p.wd, .int .i64 p.pk, .int .i64 p.pr] 39)).drew) := (R0.out.on (alloc_b wa _)).drew
    have P1 : Hid (PCells (wa.alloc (.cells #[.string (strOfNums p.t), .int .u8 p.v, .int .i64 p.fl, .int .i64 p.wk, .int .i64 p.wd, .int .i64 p.pk, .int .i64 p.pr] 39)).drew wa.heap.size 0 p) := PCX.out wa .nilFunc 0
    have d1 := CC.out _ T2.out.ws
    have dd := CC.out _ R0.out.ws
    obtain ⟨e0, e1, e2, e3, e4, e5, e6⟩ := R0.out.flat
    have l1 : w1.heap.size < wa.heap.size := R0.out.ws.isw.lt
    have l2 : bx < wa.heap.size := blk_lt R0.out.box
    clear hT hA hp hr FEW BAD WID LATE HT GU tk0 vn0 vn37 n0 n37 g1 g2 g3 g4 g5 PCX
    go_region_with (go_at_call 16; with_reducible refine (WA.out _ _ P1.out).mono ?_; rintro e w2 ⟨rfl, hB⟩; have T3 := hid (T2.out.on hB); have d3 := CC.out _ T3.out.ws; clear hB)
    all_goals (go_wp2_with fail; go_meet; exact ⟨rfl, T3.out⟩)
  case rest =>
  obtain ⟨h26, R1⟩ := hcut
  subst h26
  clear R0 WA PCX
  have few := fw.out
  rw [decide_eq_false few]
  clear FEW
  have fl : Dr.tk p ≤ A.length := by omega
  have L1 : p.wk = 2 → 0 < A.length := fun q => by rw [tk0, if_pos q] at fl; split at fl <;> omega
  have L2 : p.pk = 2 → 0 < (stA p.wk A).length := fun q => by
    unfold stA
    rw [tk0, if_pos q] at fl
    by_cases z : p.wk = 2
    · rw [if_pos z] at fl ⊢; rw [List.length_drop]; omega
    · rw [if_neg z] at fl ⊢; omega
  have bad1 := b1.out
  have K1 : p.wk = 2 → 0 < A.length ∧ (A.getD 0 Rn.Ag.no).x = false := fun q => ⟨L1 q, by cases e : (A.getD 0 Rn.Ag.no).x with
    | false => rfl
    | true => exact absurd ⟨q, e⟩ bad1⟩
  have SO1 : Hid (∀ wk, RB7 w1 (.slice pa A.length cap) A zs bx p wk → Calls Tryz.prog 88 #[.pointer (some ⟨w1.heap.size, 0, none⟩), .int .i64 p.wk] wk fun r w' => r = .returned (.int .u64 (stV p.wk A)) ∧ ∃ v', RB7 w1 v' (stA p.wk A) zs bx p w') := fun wk k => (star_ok w1 wk _ p.wk A zs k.ws K1).mono (by
    rintro r w' ⟨rfl, ⟨v', q⟩, kp⟩
    exact ⟨rfl, v', k.put q kp⟩)
  have bad2 := b2.out
  have bad : ¬ ((p.wk = 2 ∧ (Rn.aW A).x = true) ∨ (p.pk = 2 ∧ (Rn.aP p A).x = true)) := fun q => q.elim bad1 bad2
  have SO2 : Hid (∀ wk v', RB7 w1 v' (stA p.wk A) zs bx p wk → Calls Tryz.prog 88 #[.pointer (some ⟨w1.heap.size, 0, none⟩), .int .i64 p.pk] wk fun r w' => r = .returned (.int .u64 (stV p.pk (stA p.wk A))) ∧ ∃ v', RB7 w1 v' (stA p.pk (stA p.wk A)) zs bx p w') := fun wk v' k => (star_ok w1 wk _ p.pk (stA p.wk A) zs k.ws (fun q => ⟨L2 q, by rw [g5 q]; cases e : (Rn.aP p A).x with
    | false => rfl
    | true => exact absurd ⟨q, e⟩ bad2⟩)).mono (by
    rintro r w' ⟨rfl, ⟨v', q⟩, kp⟩
    exact ⟨rfl, v', k.put q kp⟩)
  have DL := Rn.dir_list fl tk0
  have VB1 : 0 ≤ stV p.wk A ∧ stV p.wk A < 18446744073709551616 := by
    unfold stV
    split
    · rename_i q; exact (hA _ (mem_get (L1 q))).2.1
    · omega
  have VB2 : 0 ≤ stV p.pk (stA p.wk A) ∧ stV p.pk (stA p.wk A) < 18446744073709551616 := by
    rw [stV]
    split
    · rename_i q
      have m : (stA p.wk A).getD 0 Rn.Ag.no ∈ A := by
        have := mem_get (L2 q)
        unfold stA at this ⊢
        split at this
        · rename_i z; rw [if_pos z]; exact List.mem_of_mem_drop this
        · rename_i z; rw [if_neg z]; exact this
      exact (hA _ m).2.1
    · omega
  have AW : AgW (Rn.aA p A) := by
    have : Rn.aA p A ∈ stA p.pk (stA p.wk A) := by rw [DL]; simp
    refine hA _ ?_
    unfold stA at this
    split at this <;> split at this <;> first | exact this | exact List.mem_of_mem_drop this | exact List.mem_of_mem_drop (List.mem_of_mem_drop this)

  have LT := hid (LATE.out few bad)
  have WD := hid (WID.out few bad)
  have CB := Rn.cut_bd (stV p.wk A)
  have CB' := Rn.cut_bd (stV p.pk (stA p.wk A))
  obtain ⟨V1, hV1⟩ : ∃ V1, stV p.wk A = V1 := ⟨_, rfl⟩
  obtain ⟨V2, hV2⟩ : ∃ V2, stV p.pk (stA p.wk A) = V2 := ⟨_, rfl⟩
  obtain ⟨A2, hA2⟩ : ∃ A2, stA p.pk (stA p.wk A) = A2 := ⟨_, rfl⟩
  rw [hV2] at SO2 LT WD VB2 CB' cs
  rw [hV1] at SO1 LT WD VB1 CB cs
  rw [hA2] at SO2 DL
  generalize stA p.wk A = A1 at *
  have DL := hid DL
  clear BAD WID LATE bad1 bad2 bad L1 L2 hT hA tk0 vn0 vn37 n0 n37 g1 g2 g3 g4 g5 few fl K1 hV1 hV2 hA2 CC tb
  go_upto_region 8 with fail
  have T1 := hid R1.out.drew
  go_region_held3 (fun wx => wx.cell? ⟨bx, 3, none⟩ = some (.int .i64 p.wk) ∧ wx.cell? ⟨bx, 5, none⟩ = some (.int .i64 p.pk)) (first | (with_reducible exact T3.out.two) | (with_reducible exact T2.out.two) | (with_reducible exact T1.out.two)) (first
    | (go_at_call 88; with_reducible refine (SO1.out _ T1.out).mono ?_; rintro r w4 ⟨rfl, v4, k4⟩; have T2 := hid k4; clear k4)
    | (go_at_call 88; with_reducible refine (SO2.out _ _ T2.out).mono ?_; rintro r w5 ⟨rfl, v5, k5⟩; have T3 := hid k5; clear k5))
  clear SO1 SO2 T1 T2 R1
  by_cases f1 : Ie.fnt V1 = false
  · have R := hid (WD.out (.inl f1))
    have CX := hid (fun wk => cut_bad V1 wk VB1.1 VB1.2 f1)
    clear LT WD CB CB' VB1 VB2 AW DL HT GU hp hr f1
    go_upto_region 9 with fail
    have B1 := hid (T3.out.on (Below.drew (Below.refl _ _)))
    have B2 : Hid (RB7 w1 v5 A2 zs bx p (w5.alloc (.cells #[.int .u8 0, .int .i64 0, .int .i64 0, .int .i64 0] 25)).drew) := (T3.out.on (alloc_b w5 _)).drew
    obtain ⟨c0, c1, c2, c3, c4, c5, c6⟩ := T3.out.flat
    obtain ⟨d0, d1, d2, d3, d4, d5, d6⟩ := B1.out.flat
    have lt := blk_lt T3.out.box
    refine wp_region_any (by kernel_rfl) ?_
    change wpAny _ _ _ _ _ _ _ (World.drew _)
    refine wpAny_take (i := 1) (v := ?_) rfl (by kernel_rfl) (by kernel_rfl) (by kernel_rfl) (fun _ _ _ h => h) (Or.inl ⟨by rfl, ?_⟩) ?_
    rotate_left
    · (intro w; go_simp; try with_reducible rfl)
    refine wpAny_take (i := 3) (v := ?_) rfl (by kernel_rfl) (by kernel_rfl) (by kernel_rfl) (fun _ _ _ h => h) (Or.inl ⟨by rfl, ?_⟩) ?_
    rotate_left
    · (intro w; go_simp; try with_reducible rfl)
    refine wpAny_ready (rs := [0, 2, 9]) (by kernel_rfl) (by simp) ?_
    refine AllReady.cons rfl (fun K hK => ?_) (AllReady.cons rfl (fun K hK => ?_) (AllReady.cons rfl (fun K hK => ?_) AllReady.nil))
    · go_simp
      refine hK _ _ ?_
      clear hK K
      refine wpAny_ready (rs := [2, 9]) (by kernel_rfl) (by simp) ?_
      refine AllReady.cons rfl (fun K hK => ?_) (AllReady.cons rfl (fun K hK => ?_) AllReady.nil)
      · go_simp
        with_reducible refine (CX.out _).mono ?_
        rintro r w6 ⟨rfl, e6⟩
        subst e6
        first | exact pan_ret rfl (R.out _ B1.out.ws.bel) | exact pan_ret rfl (R.out _ B2.out.ws.bel)
      · go_simp
        refine hK _ _ ?_
        clear hK K
        refine wpAny_ready (rs := [2]) (by kernel_rfl) (by simp) ?_
        refine AllReady.cons rfl (fun K hK => ?_) AllReady.nil
        · go_simp
          with_reducible refine (CX.out _).mono ?_
          rintro r w6 ⟨rfl, e6⟩
          subst e6
          first | exact pan_ret rfl (R.out _ B1.out.ws.bel) | exact pan_ret rfl (R.out _ B2.out.ws.bel)
    · go_simp
      with_reducible refine (CX.out _).mono ?_
      rintro r w6 ⟨rfl, e6⟩
      subst e6
      first | exact pan_ret rfl (R.out _ B1.out.ws.bel) | exact pan_ret rfl (R.out _ B2.out.ws.bel)
    · go_simp
      refine hK _ _ ?_
      clear hK K
      refine wpAny_ready (rs := [0, 2]) (by kernel_rfl) (by simp) ?_
      refine AllReady.cons rfl (fun K hK => ?_) (AllReady.cons rfl (fun K hK => ?_) AllReady.nil)
      · go_simp
        refine hK _ _ ?_
        clear hK K
        refine wpAny_ready (rs := [2]) (by kernel_rfl) (by simp) ?_
        refine AllReady.cons rfl (fun K hK => ?_) AllReady.nil
        · go_simp
          with_reducible refine (CX.out _).mono ?_
          rintro r w6 ⟨rfl, e6⟩
          subst e6
          first | exact pan_ret rfl (R.out _ B1.out.ws.bel) | exact pan_ret rfl (R.out _ B2.out.ws.bel)
      · go_simp
        with_reducible refine (CX.out _).mono ?_
        rintro r w6 ⟨rfl, e6⟩
        subst e6
        first | exact pan_ret rfl (R.out _ B1.out.ws.bel) | exact pan_ret rfl (R.out _ B2.out.ws.bel)
  have f1' : Ie.fnt V1 = true := by simpa using f1
  have CO1 := hid (fun wk => cut_ok V1 wk VB1.1 VB1.2 f1')
  by_cases f2 : Ie.fnt V2 = false
  · have R := hid (WD.out (.inr f2))
    have CX := hid (fun wk => cut_bad V2 wk VB2.1 VB2.2 f2)
    clear LT WD CB CB' VB1 VB2 AW DL HT GU hp hr f1 f2 f1'
    generalize Rn.cutI V1 = x at *
    go_upto_region 9 with fail
    have B1 := hid (T3.out.on (Below.drew (Below.refl _ _)))
    have B2 : Hid (RB7 w1 v5 A2 zs bx p (w5.alloc (.cells #[.int .u8 0, .int .i64 0, .int .i64 0, .int .i64 0] 25)).drew) := (T3.out.on (alloc_b w5 _)).drew
    obtain ⟨c0, c1, c2, c3, c4, c5, c6⟩ := T3.out.flat
    obtain ⟨d0, d1, d2, d3, d4, d5, d6⟩ := B1.out.flat
    have lt := blk_lt T3.out.box
    refine wp_region_any (by kernel_rfl) ?_
    change wpAny _ _ _ _ _ _ _ (World.drew _)
    refine wpAny_take (i := 1) (v := ?_) rfl (by kernel_rfl) (by kernel_rfl) (by kernel_rfl) (fun _ _ _ h => h) (Or.inl ⟨by rfl, ?_⟩) ?_
    rotate_left
    · (intro w; go_simp; try with_reducible rfl)
    refine wpAny_take (i := 3) (v := ?_) rfl (by kernel_rfl) (by kernel_rfl) (by kernel_rfl) (fun _ _ _ h => h) (Or.inl ⟨by rfl, ?_⟩) ?_
    rotate_left
    · (intro w; go_simp; try with_reducible rfl)
    refine wpAny_ready (rs := [0, 2, 9]) (by kernel_rfl) (by simp) ?_
    refine AllReady.cons rfl (fun K hK => ?_) (AllReady.cons rfl (fun K hK => ?_) (AllReady.cons rfl (fun K hK => ?_) AllReady.nil))
    · go_simp
      refine hK _ _ ?_
      clear hK K
      refine wpAny_ready (rs := [2, 9]) (by kernel_rfl) (by simp) ?_
      refine AllReady.cons rfl (fun K hK => ?_) (AllReady.cons rfl (fun K hK => ?_) AllReady.nil)
      · go_simp
        with_reducible refine (CO1.out _).mono ?_
        rintro r w6 ⟨rfl, b6⟩
        have B6 : Hid (RB7 w1 v5 A2 zs bx p w6) := by first | exact B1.out.on b6 | exact B2.out.on b6
        have B7 := hid (B6.out.on (alloc_b w6 (.cells #[.int .u8 0, .int .i64 0, .int .i64 0, .int .i64 0] 25)))
        obtain ⟨e0, e1, e2, e3, e4, e5, e6⟩ := B6.out.flat
        have lt6 := blk_lt B6.out.box
        refine hK _ _ ?_
        clear hK K b6
        refine wpAny_ready (rs := [4, 9]) (by kernel_rfl) (by simp) ?_
        refine AllReady.cons rfl (fun K hK => ?_) (AllReady.cons rfl (fun K hK => ?_) AllReady.nil)
        · go_simp
          with_reducible refine (CX.out _).mono ?_
          rintro r w7 ⟨rfl, e7⟩
          subst e7
          first | exact pan_ret rfl (R.out _ B6.out.ws.bel) | exact pan_ret rfl (R.out _ B7.out.ws.bel)
        · go_simp
          refine hK _ _ ?_
          clear hK K
          refine wpAny_ready (rs := [4]) (by kernel_rfl) (by simp) ?_
          refine AllReady.cons rfl (fun K hK => ?_) AllReady.nil
          · go_simp
            with_reducible refine (CX.out _).mono ?_
            rintro r w7 ⟨rfl, e7⟩
            subst e7
            first | exact pan_ret rfl (R.out _ B6.out.ws.bel) | exact pan_ret rfl (R.out _ B7.out.ws.bel)
      · go_simp
        refine hK _ _ ?_
        clear hK K
        refine wpAny_ready (rs := [2]) (by kernel_rfl) (by simp) ?_
        refine AllReady.cons rfl (fun K hK => ?_) AllReady.nil
        · go_simp
          with_reducible refine (CO1.out _).mono ?_
          rintro r w6 ⟨rfl, b6⟩
          have B6 : Hid (RB7 w1 v5 A2 zs bx p w6) := by first | exact B1.out.on b6 | exact B2.out.on b6
          have B7 := hid (B6.out.on (alloc_b w6 (.cells #[.int .u8 0, .int .i64 0, .int .i64 0, .int .i64 0] 25)))
          obtain ⟨e0, e1, e2, e3, e4, e5, e6⟩ := B6.out.flat
          have lt6 := blk_lt B6.out.box
          refine hK _ _ ?_
          clear hK K b6
          refine wpAny_ready (rs := [4]) (by kernel_rfl) (by simp) ?_
          refine AllReady.cons rfl (fun K hK => ?_) AllReady.nil
          · go_simp
            with_reducible refine (CX.out _).mono ?_
            rintro r w7 ⟨rfl, e7⟩
            subst e7
            first | exact pan_ret rfl (R.out _ B6.out.ws.bel) | exact pan_ret rfl (R.out _ B7.out.ws.bel)
    · go_simp
      with_reducible refine (CO1.out _).mono ?_
      rintro r w6 ⟨rfl, b6⟩
      have B6 : Hid (RB7 w1 v5 A2 zs bx p w6) := by first | exact B1.out.on b6 | exact B2.out.on b6
      have B7 := hid (B6.out.on (alloc_b w6 (.cells #[.int .u8 0, .int .i64 0, .int .i64 0, .int .i64 0] 25)))
      obtain ⟨e0, e1, e2, e3, e4, e5, e6⟩ := B6.out.flat
      have lt6 := blk_lt B6.out.box
      refine hK _ _ ?_
      clear hK K b6
      refine wpAny_ready (rs := [0, 4, 9]) (by kernel_rfl) (by simp) ?_
      refine AllReady.cons rfl (fun K hK => ?_) (AllReady.cons rfl (fun K hK => ?_) (AllReady.cons rfl (fun K hK => ?_) AllReady.nil))
      · go_simp
        refine hK _ _ ?_
        clear hK K
        refine wpAny_ready (rs := [4, 9]) (by kernel_rfl) (by simp) ?_
        refine AllReady.cons rfl (fun K hK => ?_) (AllReady.cons rfl (fun K hK => ?_) AllReady.nil)
        · go_simp
          with_reducible refine (CX.out _).mono ?_
          rintro r w7 ⟨rfl, e7⟩
          subst e7
          first | exact pan_ret rfl (R.out _ B6.out.ws.bel) | exact pan_ret rfl (R.out _ B7.out.ws.bel)
        · go_simp
          refine hK _ _ ?_
          clear hK K
          refine wpAny_ready (rs := [4]) (by kernel_rfl) (by simp) ?_
          refine AllReady.cons rfl (fun K hK => ?_) AllReady.nil
          · go_simp
            with_reducible refine (CX.out _).mono ?_
            rintro r w7 ⟨rfl, e7⟩
            subst e7
            first | exact pan_ret rfl (R.out _ B6.out.ws.bel) | exact pan_ret rfl (R.out _ B7.out.ws.bel)
      · go_simp
        with_reducible refine (CX.out _).mono ?_
        rintro r w7 ⟨rfl, e7⟩
        subst e7
        first | exact pan_ret rfl (R.out _ B6.out.ws.bel) | exact pan_ret rfl (R.out _ B7.out.ws.bel)
      · go_simp
        refine hK _ _ ?_
        clear hK K
        refine wpAny_ready (rs := [0, 4]) (by kernel_rfl) (by simp) ?_
        refine AllReady.cons rfl (fun K hK => ?_) (AllReady.cons rfl (fun K hK => ?_) AllReady.nil)
        · go_simp
          refine hK _ _ ?_
          clear hK K
          refine wpAny_ready (rs := [4]) (by kernel_rfl) (by simp) ?_
          refine AllReady.cons rfl (fun K hK => ?_) AllReady.nil
          · go_simp
            with_reducible refine (CX.out _).mono ?_
            rintro r w7 ⟨rfl, e7⟩
            subst e7
            first | exact pan_ret rfl (R.out _ B6.out.ws.bel) | exact pan_ret rfl (R.out _ B7.out.ws.bel)
        · go_simp
          with_reducible refine (CX.out _).mono ?_
          rintro r w7 ⟨rfl, e7⟩
          subst e7
          first | exact pan_ret rfl (R.out _ B6.out.ws.bel) | exact pan_ret rfl (R.out _ B7.out.ws.bel)
    · go_simp
      refine hK _ _ ?_
      clear hK K
      refine wpAny_ready (rs := [0, 2]) (by kernel_rfl) (by simp) ?_
      refine AllReady.cons rfl (fun K hK => ?_) (AllReady.cons rfl (fun K hK => ?_) AllReady.nil)
      · go_simp
        refine hK _ _ ?_
        clear hK K
        refine wpAny_ready (rs := [2]) (by kernel_rfl) (by simp) ?_
        refine AllReady.cons rfl (fun K hK => ?_) AllReady.nil
        · go_simp
          with_reducible refine (CO1.out _).mono ?_
          rintro r w6 ⟨rfl, b6⟩
          have B6 : Hid (RB7 w1 v5 A2 zs bx p w6) := by first | exact B1.out.on b6 | exact B2.out.on b6
          have B7 := hid (B6.out.on (alloc_b w6 (.cells #[.int .u8 0, .int .i64 0, .int .i64 0, .int .i64 0] 25)))
          obtain ⟨e0, e1, e2, e3, e4, e5, e6⟩ := B6.out.flat
          have lt6 := blk_lt B6.out.box
          refine hK _ _ ?_
          clear hK K b6
          refine wpAny_ready (rs := [4]) (by kernel_rfl) (by simp) ?_
          refine AllReady.cons rfl (fun K hK => ?_) AllReady.nil
          · go_simp
            with_reducible refine (CX.out _).mono ?_
            rintro r w7 ⟨rfl, e7⟩
            subst e7
            first | exact pan_ret rfl (R.out _ B6.out.ws.bel) | exact pan_ret rfl (R.out _ B7.out.ws.bel)
      · go_simp
        with_reducible refine (CO1.out _).mono ?_
        rintro r w6 ⟨rfl, b6⟩
        have B6 : Hid (RB7 w1 v5 A2 zs bx p w6) := by first | exact B1.out.on b6 | exact B2.out.on b6
        have B7 := hid (B6.out.on (alloc_b w6 (.cells #[.int .u8 0, .int .i64 0, .int .i64 0, .int .i64 0] 25)))
        obtain ⟨e0, e1, e2, e3, e4, e5, e6⟩ := B6.out.flat
        have lt6 := blk_lt B6.out.box
        refine hK _ _ ?_
        clear hK K b6
        refine wpAny_ready (rs := [0, 4]) (by kernel_rfl) (by simp) ?_
        refine AllReady.cons rfl (fun K hK => ?_) (AllReady.cons rfl (fun K hK => ?_) AllReady.nil)
        · go_simp
          refine hK _ _ ?_
          clear hK K
          refine wpAny_ready (rs := [4]) (by kernel_rfl) (by simp) ?_
          refine AllReady.cons rfl (fun K hK => ?_) AllReady.nil
          · go_simp
            with_reducible refine (CX.out _).mono ?_
            rintro r w7 ⟨rfl, e7⟩
            subst e7
            first | exact pan_ret rfl (R.out _ B6.out.ws.bel) | exact pan_ret rfl (R.out _ B7.out.ws.bel)
        · go_simp
          with_reducible refine (CX.out _).mono ?_
          rintro r w7 ⟨rfl, e7⟩
          subst e7
          first | exact pan_ret rfl (R.out _ B6.out.ws.bel) | exact pan_ret rfl (R.out _ B7.out.ws.bel)
  exact (cs.out.elim f1 f2).elim
end Go.Proofs.YtiflponlioldmaaGreatDoor
