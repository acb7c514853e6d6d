/-
  render: rendered (mkrnrd.py): too few arguments, a star that is a text.
-/
import Derived.Test.YtiflponlioldmaaGreatDoorRnRd
namespace Go.Proofs.YtiflponlioldmaaGreatDoor
open Go Go.RowKit Go.Deep Go.Shelf

set_option maxRecDepth 100000 in
set_option maxHeartbeats 4000000 in
theorem rdA (w1 w : World) (hT : Tab w1) (v : Value) (A : List Rn.Ag) (zs : List Int) (p : Dr.Pc) (h : RWS w1 v A zs w) (hp : PcW p) (hr : Dr.isR p) (hA : ∀ a ∈ A, AgW a) (hl : A.length ≤ 4398046511104) (cs : Hid ((A.length : Int) < Dr.tk p ∨ (p.wk = 2 ∧ (Rn.aW A).x = true) ∨ (p.pk = 2 ∧ (Rn.aP p A).x = true))) :
    Calls Tryz.prog 41 #[.pointer (some ⟨w1.heap.size, 0, none⟩), .agg #[.string (strOfNums p.t), .int .u8 p.v, .int .i64 p.fl, .int .i64 p.wk, .int .i64 p.wd, .int .i64 p.pk, .int .i64 p.pr]] w fun r w' => DirTold w1 A zs p r w' := by
  have UU := hid (And.intro hp hA)
  clear UU
  obtain ⟨vn0, vn37, -⟩ := Dr.verb_ne hr.1
  have n0 : (p.v == 0) = false := by simpa using vn0
  have n37 : (p.v == 37) = false := by simpa using vn37
  have tk0 : Dr.tk p = 1 + (if p.wk = 2 then 1 else 0) + (if p.pk = 2 then 1 else 0) := by rw [Dr.tk, if_neg (by omega)]
  have tb := Dr.tk_bd p
  have R0 := hid (RB7.new h p)
  have WA : Hid (∀ (wk : World) (g : Nat), PCells wk g 0 p → Calls Tryz.prog 16 #[.slice (some ⟨g, 0, none⟩) 1 1] wk fun e w' => e = .returned (.int .i64 (Dr.tk p)) ∧ Below wk.heap.size wk w') := by
    intro wk g hc
    have := wants_any (some ⟨g, 0, none⟩) 1 [p] wk (.inr ⟨g, 0, rfl, fun i q hq => by
      cases i with
      | zero => simp at hq; subst hq; simpa using hc
      | succ i => simp at hq⟩) (by simp)
    rw [wants_one] at this
    exact this
  have GU := hid (fun E wk => giveUp_any E wk)
  obtain ⟨bx, hbx⟩ : ∃ bx, w.heap.size = bx := ⟨_, rfl⟩
  rw [hbx] at R0
  -- what there is of each way
  have FEW : Hid ((A.length : Int) < Dr.tk p → ∀ w', Below w1.heap.size w1 w' → DirTold w1 A zs p (.panicked (flt 160)) w') := by
    intro q w' k
    have e : Rn.dirE p A = 160 := by rw [Rn.dirE, if_pos q]
    exact .inl ⟨by rw [e]; decide, by rw [e], k⟩
  obtain ⟨g1, g2, g3, g4, g5⟩ := Rn.dir_vals p A
  have BAD : Hid (¬ (A.length : Int) < Dr.tk p → ((p.wk = 2 ∧ (Rn.aW A).x = true) ∨ (p.pk = 2 ∧ (Rn.aP p A).x = true)) → ∀ w', Below w1.heap.size w1 w' → DirTold w1 A zs p (.panicked (flt 161)) w') := by
    intro q z w' k
    have e : Rn.dirE p A = 161 := by rw [Rn.dirE, if_neg q, if_pos z]
    exact .inl ⟨by rw [e]; decide, by rw [e], k⟩
  have WID : Hid (¬ (A.length : Int) < Dr.tk p → ¬ ((p.wk = 2 ∧ (Rn.aW A).x = true) ∨ (p.pk = 2 ∧ (Rn.aP p A).x = true)) → (Ie.fnt (stV p.wk A) = false ∨ Ie.fnt (stV p.pk (stA p.wk A)) = false) → ∀ w', Below w1.heap.size w1 w' → DirTold w1 A zs p (.panicked (flt 6)) w') := by
    intro q z y w' k
    have e : Rn.dirE p A = 6 := by rw [Rn.dirE, if_neg q, if_neg z, if_pos (y.imp g3.2 g4.2)]
    exact .inl ⟨by rw [e]; decide, by rw [e], k⟩
  have LATE : Hid (¬ (A.length : Int) < Dr.tk p → ¬ ((p.wk = 2 ∧ (Rn.aW A).x = true) ∨ (p.pk = 2 ∧ (Rn.aP p A).x = true)) → ¬ (Ie.fnt (stV p.wk A) = false ∨ Ie.fnt (stV p.pk (stA p.wk A)) = false) →
      Rn.dirE p A = (if ste p (Rn.cutI (stV p.wk A)) (Rn.cutI (stV p.pk (stA p.wk A))) ≠ 0 then ste p (Rn.cutI (stV p.wk A)) (Rn.cutI (stV p.pk (stA p.wk A))) else Rn.oneE p.v (Rn.sF p (Rn.cutI (stV p.wk A))) (Rn.sV p (Rn.cutI (stV p.wk A))) (sP p (Rn.cutI (stV p.pk (stA p.wk A)))) (Rn.aA p A)) ∧
      Rn.dirT p A = Rn.oneT p.v (Rn.sF p (Rn.cutI (stV p.wk A))) (Rn.sV p (Rn.cutI (stV p.wk A))) (sP p (Rn.cutI (stV p.pk (stA p.wk A)))) (Rn.aA p A)) := by
    intro q z y
    refine ⟨?_, by rw [Rn.dirT, g1, g2]⟩
    rw [Rn.dirE, if_neg q, if_neg z, if_neg (fun x => y (x.imp g3.1 g4.1)), g1, g2]
  have HT := hid hT
  -- the first drawn region: how many are wanted
  have AVl : ∃ pa cap, v = .slice pa A.length cap := by obtain ⟨pa, cap, e, _⟩ := h.av; exact ⟨pa, cap, e⟩
  obtain ⟨pa, cap, hv⟩ := AVl
  have CC := hid (fun (wk : World) (k : RWS w1 v A zs wk) => k.isw.cell0.1)
  have PCX : Hid (∀ (wk : World) (vv : Value) (g : Nat), PCells (wk.alloc (.cells #[.string (strOfNums p.t), .int .u8 p.v, .int .i64 p.fl, .int .i64 p.wk, .int .i64 p.wd, .int .i64 p.pk, .int .i64 p.pr] 39)) wk.heap.size 0 p) := by
    intro wk _ _
    have e : (wk.alloc (.cells #[.string (strOfNums p.t), .int .u8 p.v, .int .i64 p.fl, .int .i64 p.wk, .int .i64 p.wd, .int .i64 p.pk, .int .i64 p.pr] 39)).heap[wk.heap.size]? = _ := heap_alloc_new wk _
    refine ⟨?_, ?_, ?_, ?_, ?_, ?_, ?_⟩ <;> rw [Lib.cell_of_heap e] <;> rfl
  subst hv
  clear h
  go_enter Tryz.func41, Tryz.ntmps41
  go_upto_region 6 with fail
  generalize hwa : (w.alloc (.cells #[.string (strOfNums p.t), .int .u8 p.v, .int .i64 p.fl, .int .i64 p.wk, .int .i64 p.wd, .int .i64 p.pk, .int .i64 p.pr] 39)) = wa at *
  clear hwa hbx
  go_cut [26] from 18 to 25 (fun b wx => b = .bool (decide ((A.length : Int) < Dr.tk p)) ∧ Hid (RB7 w1 (.slice pa A.length cap) A zs bx p wx))
  case first =>
    have T1 := hid R0.out.drew
    obtain ⟨c0, c1, c2, c3, c4, c5, c6⟩ := T1.out.flat
    have d0 := CC.out _ T1.out.ws
    have T2 : Hid (RB7 w1 (.slice pa A.length cap) A zs bx p (wa.alloc (.cells #[.string (strOfNums p.t), .int .u8 p.v, .int .i64 p.fl, .int .i64 p.wk, .int .i64 p.wd, .int .i64 p.pk, .int .i64 p.pr] 39)).drew) := (R0.out.on (alloc_b wa _)).drew
    have P1 : Hid (PCells (wa.alloc (.cells #[.string (strOfNums p.t), .int .u8 p.v, .int .i64 p.fl, .int .i64 p.wk, .int .i64 p.wd, .int .i64 p.pk, .int .i64 p.pr] 39)).drew wa.heap.size 0 p) := PCX.out wa .nilFunc 0
    have d1 := CC.out _ T2.out.ws
    have dd := CC.out _ R0.out.ws
    obtain ⟨e0, e1, e2, e3, e4, e5, e6⟩ := R0.out.flat
    have l1 : w1.heap.size < wa.heap.size := R0.out.ws.isw.lt
    have l2 : bx < wa.heap.size := blk_lt R0.out.box
    clear hT hA hp hr FEW BAD WID LATE HT GU tk0 vn0 vn37 n0 n37 g1 g2 g3 g4 g5 PCX
    go_region_with (go_at_call 16; with_reducible refine (WA.out _ _ P1.out).mono ?_; rintro e w2 ⟨rfl, hB⟩; have T3 := hid (T2.out.on hB); have d3 := CC.out _ T3.out.ws; clear hB)
    all_goals (go_wp2_with fail; go_meet; exact ⟨rfl, T3.out⟩)
  case rest =>
  obtain ⟨h26, R1⟩ := hcut
  subst h26
  clear R0 WA PCX
  by_cases few : (A.length : Int) < Dr.tk p
  · have R := hid (FEW.out few _ R1.out.ws.bel)
    rw [decide_eq_true few]
    clear FEW BAD WID LATE R1
    go_wp2_with fail
    with_reducible refine (GU.out _ _).mono ?_
    rintro r w3 ⟨rfl, e3⟩
    subst e3
    exact ⟨rfl, R.out⟩
  rw [decide_eq_false few]
  clear FEW
  have fl : Dr.tk p ≤ A.length := by omega
  have L1 : p.wk = 2 → 0 < A.length := fun q => by rw [tk0, if_pos q] at fl; split at fl <;> omega
  have L2 : p.pk = 2 → 0 < (stA p.wk A).length := fun q => by
    unfold stA
    rw [tk0, if_pos q] at fl
    by_cases z : p.wk = 2
    · rw [if_pos z] at fl ⊢; rw [List.length_drop]; omega
    · rw [if_neg z] at fl ⊢; omega
  by_cases bad1 : p.wk = 2 ∧ (Rn.aW A).x = true
  · have R := hid (BAD.out few (.inl bad1))
    have SX : Hid (∀ wk, RWS w1 (.slice pa A.length cap) A zs wk → Calls Tryz.prog 88 #[.pointer (some ⟨w1.heap.size, 0, none⟩), .int .i64 p.wk] wk fun r w' => r = .panicked (flt 161) ∧ Below w1.heap.size w1 w') := fun wk k => by
      rw [bad1.1]; exact star_bad w1 wk _ A zs k (L1 bad1.1) bad1.2
    clear BAD WID LATE bad1 L1 L2 hT hA hp hr HT GU tk0 vn0 vn37 n0 n37 g1 g2 g3 g4 g5 few fl
    go_upto_region 8 with fail
    have T1 := hid R1.out.drew
    obtain ⟨c0, c1, c2, c3, c4, c5, c6⟩ := T1.out.flat
    refine wp_region_any (by kernel_rfl) ?_
    change wpAny _ _ _ _ _ _ _ (World.drew _)
    refine wpAny_take (i := 0) (v := ?_) rfl (by kernel_rfl) (by kernel_rfl) (by kernel_rfl) (fun _ _ _ h => h) (Or.inl ⟨by rfl, ?_⟩) ?_
    rotate_left
    · (intro w; go_simp; try with_reducible rfl)
    refine wpAny_take (i := 1) (v := ?_) rfl (by kernel_rfl) (by kernel_rfl) (by kernel_rfl) (fun _ _ _ h => h) (Or.inl ⟨by rfl, ?_⟩) ?_
    rotate_left
    · (intro w; go_simp; try with_reducible rfl)
    refine wpAny_take (i := 4) (v := ?_) rfl (by kernel_rfl) (by kernel_rfl) (by kernel_rfl) (fun _ _ _ h => h) (Or.inl ⟨by rfl, ?_⟩) ?_
    rotate_left
    · (intro w; go_simp; try with_reducible rfl)
    refine wpAny_take (i := 5) (v := ?_) rfl (by kernel_rfl) (by kernel_rfl) (by kernel_rfl) (fun _ _ _ h => h) (Or.inl ⟨by rfl, ?_⟩) ?_
    rotate_left
    · (intro w; go_simp; try with_reducible rfl)
    refine wpAny_ready (rs := [2, 6]) (by kernel_rfl) (by simp) ?_
    refine AllReady.cons rfl (fun K hK => ?_) (AllReady.cons rfl (fun K hK => ?_) AllReady.nil)
    · go_simp
      refine hK _ _ ?_
      clear hK K
      refine wpAny_ready (rs := [3, 6]) (by kernel_rfl) (by simp) ?_
      refine AllReady.cons rfl (fun K hK => ?_) (AllReady.cons rfl (fun K hK => ?_) AllReady.nil)
      · go_simp
        with_reducible refine (SX.out _ T1.out.ws).mono ?_
        rintro r w3 ⟨rfl, b3⟩
        exact pan_ret rfl (R.out _ b3)
      · go_simp
        refine hK _ _ ?_
        clear hK K
        refine wpAny_ready (rs := [3]) (by kernel_rfl) (by simp) ?_
        refine AllReady.cons rfl (fun K hK => ?_) AllReady.nil
        · go_simp
          with_reducible refine (SX.out _ T1.out.ws).mono ?_
          rintro r w3 ⟨rfl, b3⟩
          exact pan_ret rfl (R.out _ b3)
    · go_simp
      refine hK _ _ ?_
      clear hK K
      refine wpAny_ready (rs := [2]) (by kernel_rfl) (by simp) ?_
      refine AllReady.cons rfl (fun K hK => ?_) AllReady.nil
      · go_simp
        refine hK _ _ ?_
        clear hK K
        refine wpAny_ready (rs := [3]) (by kernel_rfl) (by simp) ?_
        refine AllReady.cons rfl (fun K hK => ?_) AllReady.nil
        · go_simp
          with_reducible refine (SX.out _ T1.out.ws).mono ?_
          rintro r w3 ⟨rfl, b3⟩
          exact pan_ret rfl (R.out _ b3)
  have K1 : p.wk = 2 → 0 < A.length ∧ (A.getD 0 Rn.Ag.no).x = false := fun q => ⟨L1 q, by cases e : (A.getD 0 Rn.Ag.no).x with
    | false => rfl
    | true => exact absurd ⟨q, e⟩ bad1⟩
  have SO1 : Hid (∀ wk, RB7 w1 (.slice pa A.length cap) A zs bx p wk → Calls Tryz.prog 88 #[.pointer (some ⟨w1.heap.size, 0, none⟩), .int .i64 p.wk] wk fun r w' => r = .returned (.int .u64 (stV p.wk A)) ∧ ∃ v', RB7 w1 v' (stA p.wk A) zs bx p w') := fun wk k => (star_ok w1 wk _ p.wk A zs k.ws K1).mono (by
    rintro r w' ⟨rfl, ⟨v', q⟩, kp⟩
    exact ⟨rfl, v', k.put q kp⟩)
  by_cases bad2 : p.pk = 2 ∧ (Rn.aP p A).x = true
  · have R := hid (BAD.out few (.inr bad2))
    have SX : Hid (∀ wk v', RWS w1 v' (stA p.wk A) zs wk → Calls Tryz.prog 88 #[.pointer (some ⟨w1.heap.size, 0, none⟩), .int .i64 p.pk] wk fun r w' => r = .panicked (flt 161) ∧ Below w1.heap.size w1 w') := fun wk v' k => by
      rw [bad2.1]; exact star_bad w1 wk _ (stA p.wk A) zs k (L2 bad2.1) (by rw [g5 bad2.1]; exact bad2.2)
    generalize stV p.wk A = V1 at *
    generalize stA p.wk A = A1 at *
    clear BAD WID LATE bad1 bad2 L1 L2 hT hA hp hr HT GU tk0 vn0 vn37 n0 n37 g1 g2 g3 g4 g5 few fl K1
    go_upto_region 8 with fail
    have T1 := hid R1.out.drew
    obtain ⟨c0, c1, c2, c3, c4, c5, c6⟩ := T1.out.flat
    refine wp_region_any (by kernel_rfl) ?_
    change wpAny _ _ _ _ _ _ _ (World.drew _)
    refine wpAny_take (i := 0) (v := ?_) rfl (by kernel_rfl) (by kernel_rfl) (by kernel_rfl) (fun _ _ _ h => h) (Or.inl ⟨by rfl, ?_⟩) ?_
    rotate_left
    · (intro w; go_simp; try with_reducible rfl)
    refine wpAny_take (i := 1) (v := ?_) rfl (by kernel_rfl) (by kernel_rfl) (by kernel_rfl) (fun _ _ _ h => h) (Or.inl ⟨by rfl, ?_⟩) ?_
    rotate_left
    · (intro w; go_simp; try with_reducible rfl)
    refine wpAny_take (i := 4) (v := ?_) rfl (by kernel_rfl) (by kernel_rfl) (by kernel_rfl) (fun _ _ _ h => h) (Or.inl ⟨by rfl, ?_⟩) ?_
    rotate_left
    · (intro w; go_simp; try with_reducible rfl)
    refine wpAny_take (i := 5) (v := ?_) rfl (by kernel_rfl) (by kernel_rfl) (by kernel_rfl) (fun _ _ _ h => h) (Or.inl ⟨by rfl, ?_⟩) ?_
    rotate_left
    · (intro w; go_simp; try with_reducible rfl)
    refine wpAny_ready (rs := [2, 6]) (by kernel_rfl) (by simp) ?_
    refine AllReady.cons rfl (fun K hK => ?_) (AllReady.cons rfl (fun K hK => ?_) AllReady.nil)
    · go_simp
      refine hK _ _ ?_
      clear hK K
      refine wpAny_ready (rs := [3, 6]) (by kernel_rfl) (by simp) ?_
      refine AllReady.cons rfl (fun K hK => ?_) (AllReady.cons rfl (fun K hK => ?_) AllReady.nil)
      · go_simp
        with_reducible refine (SO1.out _ T1.out).mono ?_
        rintro r w4 ⟨rfl, v4, k4⟩
        have T4 := hid k4
        obtain ⟨e0, e1, e2, e3, e4, e5, e6⟩ := T4.out.flat
        refine hK _ _ ?_
        clear hK K k4
        refine wpAny_ready (rs := [6]) (by kernel_rfl) (by simp) ?_
        refine AllReady.cons rfl (fun K hK => ?_) AllReady.nil
        · go_simp
          refine hK _ _ ?_
          clear hK K
          refine wpAny_ready (rs := [7]) (by kernel_rfl) (by simp) ?_
          refine AllReady.cons rfl (fun K hK => ?_) AllReady.nil
          · go_simp
            with_reducible refine (SX.out _ _ T4.out.ws).mono ?_
            rintro r w3 ⟨rfl, b3⟩
            exact pan_ret rfl (R.out _ b3)
      · go_simp
        refine hK _ _ ?_
        clear hK K
        refine wpAny_ready (rs := [3]) (by kernel_rfl) (by simp) ?_
        refine AllReady.cons rfl (fun K hK => ?_) AllReady.nil
        · go_simp
          with_reducible refine (SO1.out _ T1.out).mono ?_
          rintro r w4 ⟨rfl, v4, k4⟩
          have T4 := hid k4
          obtain ⟨e0, e1, e2, e3, e4, e5, e6⟩ := T4.out.flat
          refine hK _ _ ?_
          clear hK K k4
          refine wpAny_ready (rs := [7]) (by kernel_rfl) (by simp) ?_
          refine AllReady.cons rfl (fun K hK => ?_) AllReady.nil
          · go_simp
            with_reducible refine (SX.out _ _ T4.out.ws).mono ?_
            rintro r w3 ⟨rfl, b3⟩
            exact pan_ret rfl (R.out _ b3)
    · go_simp
      refine hK _ _ ?_
      clear hK K
      refine wpAny_ready (rs := [2]) (by kernel_rfl) (by simp) ?_
      refine AllReady.cons rfl (fun K hK => ?_) AllReady.nil
      · go_simp
        refine hK _ _ ?_
        clear hK K
        refine wpAny_ready (rs := [3]) (by kernel_rfl) (by simp) ?_
        refine AllReady.cons rfl (fun K hK => ?_) AllReady.nil
        · go_simp
          with_reducible refine (SO1.out _ T1.out).mono ?_
          rintro r w4 ⟨rfl, v4, k4⟩
          have T4 := hid k4
          obtain ⟨e0, e1, e2, e3, e4, e5, e6⟩ := T4.out.flat
          refine hK _ _ ?_
          clear hK K k4
          refine wpAny_ready (rs := [7]) (by kernel_rfl) (by simp) ?_
          refine AllReady.cons rfl (fun K hK => ?_) AllReady.nil
          · go_simp
            with_reducible refine (SX.out _ _ T4.out.ws).mono ?_
            rintro r w3 ⟨rfl, b3⟩
            exact pan_ret rfl (R.out _ b3)
  exact (cs.out.elim few (fun q => q.elim bad1 bad2)).elim
end Go.Proofs.YtiflponlioldmaaGreatDoor
