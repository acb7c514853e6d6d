/-
  abacuslaw13: DirectiveChain, where nothing is too great (mkdchain.py).
-/
import Derived.Test.YtdfnpoojbnoeeaaDoorDChainN
namespace Go.Proofs.YtdfnpoojbnoeeaaDoor
open Go Go.RowKit Go.Deep Go.Shelf

theorem CS.mlp {w0 wk : World} {B1 B3 n cm : Nat} {lv bv : Value} {am : Option Addr} {ls ms bs : List Dr.Pc} (h : CS w0 B1 B3 lv (.slice am n cm) bv ls ms bs wk) : LP wk am ms := by
  obtain ⟨a, c, e, _, l⟩ := h.mr.lp
  simp only [Value.slice.injEq] at e
  rw [e.1]; exact l
theorem CS.blp {w0 wk : World} {B1 B3 n cm : Nat} {lv mv : Value} {ab : Option Addr} {ls ms bs : List Dr.Pc} (h : CS w0 B1 B3 lv mv (.slice ab n cm) ls ms bs wk) : LP wk ab bs := by
  obtain ⟨a, c, e, _, l⟩ := h.br.lp
  simp only [Value.slice.injEq] at e
  rw [e.1]; exact l
theorem own_free {base g n cap : Nat} {w : World} {ps : List Dr.Pc} {o : Nat} (h : RowP base w (.slice (some ⟨g, 0, none⟩) n cap) ps) : w.frozen? ⟨g, o, none⟩ = false := by
  obtain ⟨h1, h2⟩ := h
  rcases h2 with ⟨e, _⟩ | ⟨g', cap', cur, e1, e2, e3, _⟩
  · simp at e
  · simp only [Value.slice.injEq, Option.some.injEq, Addr.mk.injEq] at e1
    obtain ⟨⟨rfl, _⟩, _⟩ := e1
    simp [World.frozen?, e3]
theorem take_next {ms : List Dr.Pc} {i : Nat} (h : i < ms.length) : ms.take (i + 1) = ms.take i ++ [ms.getD i Dr.Pc.no] := by
  rw [List.take_add_one, List.getD_eq_getElem?_getD, List.getElem?_eq_getElem h]; rfl
theorem RowP.shape {base : Nat} {w : World} {mv : Value} {ps : List Dr.Pc} (h : RowP base w mv ps) (hp : 0 < ps.length) : ∃ g cap, mv = .slice (some ⟨g, 0, none⟩) ps.length cap := by
  obtain ⟨h1, h2⟩ := h
  rcases h2 with ⟨_, h2⟩ | ⟨g, cap, cur, e1, _⟩
  · omega
  · exact ⟨g, cap, e1⟩
theorem LP.cells {w : World} {g : Nat} {ps : List Dr.Pc} (h : LP w (some ⟨g, 0, none⟩) ps) (i : Nat) (hi : i < ps.length) : PCells w g (i * 7) (ps.getD i Dr.Pc.no) := by
  obtain ⟨b, off, e, c⟩ := h.at i hi
  simp only [Option.some.injEq, Addr.mk.injEq] at e
  obtain ⟨rfl, rfl, _⟩ := e
  rw [Nat.zero_add] at c
  exact c

set_option maxRecDepth 100000 in
set_option maxHeartbeats 4000000 in
theorem chain_law (s t : ByteArray) (xs ys : List Int) (w : World) (hs : Str s xs) (ht : Str t ys) (hx : xs.length ≤ 1048576) (hy : ys.length ≤ 1048576) (hT : T10 w.heap.size w) :
    Calls Tryd.prog 7 #[.string s, .string t] w fun e w' => e = .returned (.bool true) ∧ Below w.heap.size w w' := by
  have AW := hid (awake_any w hT)
  have sx := hs.size
  have sy := ht.size
  have PX := hid (fun W => parse_any s xs W hs (by omega))
  have PY := hid (fun W => parse_any t ys W ht (by omega))
  have PZ := hid (fun W => parse_any (s ++ t) (xs ++ ys) W (hs.app ht) (by rw [List.length_append]; omega))
  have CAT : ∀ wx, (Op.stringOp .add s t).run Tryd.prog wx = .ok (.string (s ++ t)) wx := fun wx => run_string_add_sum wx _ _ (by omega)
  clear hT
  by_cases ok : (Dr.prs xs).2.2 = 0
  · have P1 : Hid (∀ W, Calls Tryd.prog 14 #[.string s] W fun r w' => ∃ lv, r = .returned (.tuple #[lv, .int .i64 0, .int .i64 0]) ∧ RowP W.heap.size w' lv (Dr.prs xs).1 ∧ Below W.heap.size W w') := fun W => (PX.out W).mono (by
      rintro e w' ⟨mv, rfl, r, b⟩
      refine ⟨mv, ?_, r, b⟩
      rw [Dr.prs_ok' ok]; rfl)
    obtain ⟨f1, f2⟩ := Dr.prs_app _ xs ys (Nat.le_refl _) ok
    by_cases ok2 : (Dr.prs ys).2.2 = 0
    · have P2 : Hid (∀ W, Calls Tryd.prog 14 #[.string t] W fun r w' => ∃ lv, r = .returned (.tuple #[lv, .int .i64 0, .int .i64 0]) ∧ RowP W.heap.size w' lv (Dr.prs ys).1 ∧ Below W.heap.size W w') := fun W => (PY.out W).mono (by
        rintro e w' ⟨mv, rfl, r, b⟩
        refine ⟨mv, ?_, r, b⟩
        rw [Dr.prs_ok' ok2]; rfl)
      have P3 : Hid (∀ W, Calls Tryd.prog 14 #[.string (s ++ t)] W fun r w' => ∃ lv, r = .returned (.tuple #[lv, .int .i64 0, .int .i64 0]) ∧ RowP W.heap.size w' lv (Dr.mrg (Dr.prs xs).1 (Dr.prs ys).1) ∧ Below W.heap.size W w') := fun W => (PZ.out W).mono (by
        rintro e w' ⟨mv, rfl, r, b⟩
        rw [f1 ok2] at r ⊢
        exact ⟨mv, rfl, r, b⟩)
      have MC := Dr.mrg_cases (Dr.prs xs).1 (Dr.prs ys).1
      have ML := Dr.prs_mem _ xs (Nat.le_refl _)
      have MM := Dr.prs_mem _ ys (Nat.le_refl _)
      have LL := Dr.prs_len _ xs (Nat.le_refl _)
      have LM := Dr.prs_len _ ys (Nat.le_refl _)
      have BL : Hid (∀ p ∈ (Dr.prs xs).1, ∀ x ∈ p.t, 0 ≤ x ∧ x < 256) := fun p hp x hx => hs.mem ((ML p hp).2.1 x hx)
      have BM : Hid (∀ p ∈ (Dr.prs ys).1, ∀ x ∈ p.t, 0 ≤ x ∧ x < 256) := fun p hp x hx => ht.mem ((MM p hp).2.1 x hx)
      have ZM : Hid (∀ p ∈ (Dr.prs ys).1, p.v = 0 → p = ⟨p.t, 0, 0, 0, 0, 0, 0⟩) := fun p hp => (MM p hp).1
      have HX : Hid ((Dr.prs xs).1.length ≤ 1048576) := by show _ ≤ _; omega
      have HM : Hid ((Dr.prs ys).1.length ≤ 1048576) := by show _ ≤ _; omega
      have TL : Hid (∀ p ∈ (Dr.prs xs).1, ∀ q ∈ (Dr.prs ys).1, (strOfNums p.t).size + (strOfNums q.t).size ≤ 9223372036854775807) := fun p hp q hq => by
        have a1 := (Str.of_nums (BL.out p hp)).size
        have a2 := (Str.of_nums (BM.out q hq)).size
        have a3 := (ML p hp).2.2
        have a4 := (MM q hq).2.2
        omega
      clear PX PY PZ hs ht hx hy sx sy f1 f2 ok ok2 ML MM LL LM
      generalize (Dr.prs xs).1 = L at *
      generalize (Dr.prs ys).1 = M at *
      generalize hbs : Dr.mrg L M = bs at *
      go_enter Tryd.func7, Tryd.ntmps7
      go_wp2_with fail
      refine AW.out.mono ?_
      rintro e w0 ⟨rfl, b0⟩
      have B0 := hid b0
      clear b0 AW
      go_wp2_with fail
      with_reducible refine (P1.out _).mono ?_
      rintro e w1 ⟨lv, rfl, r1, b1⟩
      have B1' := hid (below_on B0.out b1)
      have R1 := hid (r1.mono B0.out.size)
      clear b1 P1 r1 B0
      go_wp2_with fail
      with_reducible refine (P2.out _).mono ?_
      rintro e w2 ⟨mv, rfl, r2, b2⟩
      have K2 := hid b2
      have R2 := hid r2
      clear b2 P2 r2
      go_wp2_with fail
      with_reducible refine (P3.out _).mono ?_
      rintro e w3 ⟨bv, rfl, r3, b3⟩
      have K3 := hid b3
      have R3 := hid r3
      clear b3 P3 r3 CAT
      obtain ⟨B1, hB1⟩ : ∃ B1, w1.heap.size = B1 := ⟨_, rfl⟩
      obtain ⟨B3, hB3⟩ : ∃ B3, w3.heap.size = B3 := ⟨_, rfl⟩
      have C0 : Hid (CS w B1 B3 lv mv bv L M bs w3) := by
        have k23 := below_on K2.out K3.out
        refine ⟨below_on B1'.out k23, R1.out.below k23, ?_, ?_, ?_, ?_, ?_, ?_, by omega, by have := B1'.out.size; omega⟩
        · rw [← hB1]; exact R2.out.below K3.out
        · exact R3.out.mono (by have := K2.out.size; omega)
        · intro g hg; left; have := (World.ownsRow.lt R1.out g hg).2; omega
        · intro g hg; have := (World.ownsRow.lt R2.out g hg).2; have := K3.out.size; omega
        · intro g hg; have := (World.ownsRow.lt R3.out g hg).2; omega
        · cases e : Value.ownBlock mv with
          | none => exact .inl rfl
          | some g =>
            right
            intro z
            have := (World.ownsRow.lt R2.out g e).2
            have := (World.ownsRow.lt R3.out g z.symm).1
            omega
      clear R1 R2 R3 K2 K3 B1' hB1 hB3
      obtain ⟨ab, cb, rfl, _, _⟩ := C0.out.br.lp
      have HL : Hid (bs.length ≤ 2097152) := by
        show bs.length ≤ 2097152
        rw [MC]
        split <;> simp only [List.length_append, List.length_take, List.length_cons, List.length_tail] <;> (have := HX.out; have := HM.out; omega)
      clear hbs
      by_cases hL : 0 < L.length
      · obtain ⟨gl, cl, rfl⟩ := C0.out.lr.shape hL
        obtain ⟨n1, hn1⟩ : ∃ n1, L.length = n1 + 1 := ⟨L.length - 1, by omega⟩
        have nb : (n1 : Int) ≤ 1048576 := by have := HX.out; omega
        by_cases hM : 0 < M.length
        · obtain ⟨gm, cm, rfl⟩ := C0.out.mr.shape hM
          obtain ⟨q, M1, rfl⟩ : ∃ q M1, M = q :: M1 := by cases M with
            | nil => simp at hM
            | cons q M1 => exact ⟨q, M1, rfl⟩
          have LPL : LP w3 (some ⟨gl, 0, none⟩) L := by
            obtain ⟨a, c, e, _, l⟩ := C0.out.lr.lp
            simp only [Value.slice.injEq] at e
            rw [e.1]; exact l
          obtain ⟨x0, x1, -⟩ := LPL.cells n1 (by omega)
          obtain ⟨y0, y1, -⟩ := C0.out.mlp.cells 0 (by simp)
          rw [Nat.zero_mul] at y0 y1
          rw [Nat.zero_add] at y1
          rw [List.getD_cons_zero] at y0 y1 MC
          rw [show L.length - 1 = n1 by omega] at MC
          have pmem : L.getD n1 Dr.Pc.no ∈ L := by rw [List.getD_eq_getElem?_getD, List.getElem?_eq_getElem (by omega)]; exact List.getElem_mem _
          have BLp := BL.out _ pmem
          have TLp := TL.out _ pmem q (by simp)
          have BMq := BM.out q (by simp)
          have ZMq := ZM.out q (by simp)
          generalize L.getD n1 Dr.Pc.no = p at *
          clear LPL BL BM ZM TL pmem
          have mlen : Hid ((q :: M1).length = M1.length + 1) := rfl
          by_cases hp : p.v = 0
          · by_cases hq : q.v = 0
            · rw [if_pos ⟨hL, hM, hp, hq⟩] at MC
              have eq0 := ZMq hq
              have ST : strOfNums p.t ++ strOfNums q.t = strOfNums (p.t ++ q.t) := ((Str.of_nums BLp).app (Str.of_nums BMq)).inj (Str.of_nums (fun x hx => (List.mem_append.1 hx).elim (BLp x) (BMq x)))
              have CAT : ∀ wx, (Op.stringOp .add (strOfNums p.t) (strOfNums q.t)).run Tryd.prog wx = .ok (.string (strOfNums (p.t ++ q.t))) wx := fun wx => by rw [← ST]; exact run_string_add_sum wx _ _ TLp
              have C1 := hid (fun wx (k : CS w B1 B3 (.slice (some ⟨gl, 0, none⟩) L.length cl) (.slice (some ⟨gm, 0, none⟩) (q :: M1).length cm) (.slice ab bs.length cb) L (q :: M1) bs wx) => (k.text (p.t ++ q.t)).cut n1 (by omega))
              rw [hp] at x1
              rw [hq] at y1
              have ly : (0 : Int) < ((q :: M1).length : Int) := by rw [List.length_cons]; omega
              rw [hn1] at C0 C1
              have EQ : Hid (L.take n1 ++ ({ q with t := p.t ++ q.t } :: M1) = bs) := by
                show _ = _
                rw [MC, List.tail_cons]
                congr 2
                rw [eq0]
              have H0 : Hid ((L.take n1).length ≤ 1048576) := by show _ ≤ _; rw [List.length_take]; have := HX.out; omega
              have HM2 : Hid (({ q with t := p.t ++ q.t } :: M1).length ≤ 1048576) := HM.out
              have ncl : (n1 : Int) ≤ (cl : Int) := by
                obtain ⟨_, _, e, l, _⟩ := C0.out.lr.lp
                simp only [Value.slice.injEq] at e
                have := e.2.2
                omega
              rw [hn1]
              clear MC HX mlen BLp BMq ZMq TLp ST eq0 hL hM
              obtain ⟨ml, hml⟩ : ∃ ml, (q :: M1).length = ml := ⟨_, rfl⟩
              have C2 : Hid (∀ wx, CS w B1 B3 (.slice (some ⟨gl, 0, none⟩) (n1 + 1) cl) (.slice (some ⟨gm, 0, none⟩) ml cm) (.slice ab bs.length cb) L (q :: M1) bs wx → CS w B1 B3 (.slice (some ⟨gl, 0, none⟩) n1 cl) (.slice (some ⟨gm, 0, none⟩) ml cm) (.slice ab bs.length cb) (L.take n1) ({ q with t := p.t ++ q.t } :: M1) bs (wx.setCell ⟨gm, 0, none⟩ (.string (strOfNums (p.t ++ q.t))))) := fun wx k => by
                rw [← hml] at k ⊢
                exact C1.out wx k
              rw [hml] at C0 ly ⊢
              have fz := own_free (o := 0) C0.out.mr
              clear C1
              go_upto_region 12 with fail
              clear x1 y1
              have n0 : (0 : Int) ≤ (n1 : Int) := by omega
              have nl : (n1 : Int) < (n1 : Int) + 1 := by omega
              have wr1 : IntKind.i64.wrap ((n1 : Int) + 1 - 1) = (n1 : Int) := by rw [IntKind.wrap_i64]; omega
              have wr2 : IntKind.i64.wrap (n1 : Int) = (n1 : Int) := by rw [IntKind.wrap_i64]; omega
              have nl2 : (n1 : Int) < ((n1 + 1 : Nat) : Int) := by omega
              go_region_with (fail)
              · have CX := hid ((C2.out w3 C0.out).on (Below.drew (Below.refl _ _)))
                clear C0 C2 fz x0 y0 CAT
                generalize (w3.setCell ⟨gm, 0, none⟩ (.string (strOfNums (p.t ++ q.t)))).drew = w4 at *
                clear HM
                have HM := hid HM2.out
                clear HM2
                have mle : ({ q with t := p.t ++ q.t } :: M1).length = ml := hml
                generalize ({ q with t := p.t ++ q.t } :: M1) = MS at *
                clear hml
                subst mle
                go_wp2_with fail
                clear n0 nl wr1 wr2 nl2 ly ncl
                generalize L.take n1 = l0 at *
                go_loopg [5, 15] MS.length (fun m lv' k wr => ∃ i : Nat, i + m = MS.length ∧ k = .int .i64 (i : Int) ∧ Hid (CS w B1 B3 lv' (.slice (some ⟨gm, 0, none⟩) MS.length cm) (.slice ab bs.length cb) (l0 ++ MS.take i) MS bs wr))
                case atStart => exact ⟨0, by omega, rfl, by rw [List.take_zero, List.append_nil]; exact CX.out⟩
                case round =>
                  obtain ⟨i, hi, rfl, I⟩ := hrel
                  clear CX
                  by_cases il : i < MS.length
                  · have ili : (i : Int) < (MS.length : Int) := by omega
                    have ib : (i : Int) ≤ 2097152 := by have := HM.out; omega
                    obtain ⟨c0, c1, c2, c3, c4, c5, c6⟩ := I.out.mlp.cells i il
                    have TK := take_next il
                    generalize MS.getD i Dr.Pc.no = p at *
                    obtain ⟨lv2, w2, ap, C2⟩ := I.out.push p (by rw [List.length_append, List.length_take]; have := HM.out; have := H0.out; omega)
                    have F := hid C2
                    rw [List.append_assoc, ← TK] at F
                    have AP := hid ap
                    unfold pcv at AP
                    clear ap C2 I TK
                    go_wp2_with (at_builtin; refine wpList_append_b rfl _ _ rfl AP.out (by rfl) (by rfl) ?_; clear AP)
                    go_roundg (MS.length - (i + 1))
                    case measure => omega
                    case rel => exact ⟨i + 1, by omega, by go_num, F.out⟩
                  · have ili : ¬ (i : Int) < (MS.length : Int) := by omega
                    obtain rfl : i = MS.length := by omega
                    have Q := I.out
                    rw [List.take_length, EQ.out] at Q
                    obtain ⟨al, cl', rfl, _, LPl⟩ := Q.lr.lp
                    have LPb := Q.blp
                    have C1 := hid (fun W (k : Below wr.heap.size wr W) => same_any ab al cb cl' bs W (LPb.below k) (LPl.below k) (by have := HL.out; omega))
                    have C2 := hid (fun W (k : Below wr.heap.size wr W) => wants_any ab cb bs W (LPb.below k) (by have := HL.out; omega))
                    have C3 := hid (fun W (k : Below wr.heap.size wr W) => wants_any al cl' bs W (LPl.below k) (by have := HL.out; omega))
                    have BE := hid Q.bel
                    clear LPl LPb Q I
                    generalize Dr.wants bs = wn at *
                    go_wp2_with fail
                    with_reducible refine (C1.out _ (Below.refl _ _)).mono ?_
                    rintro e w4 ⟨rfl, b4⟩
                    have K4 := hid b4
                    clear b4 C1
                    go_wp2_with fail
                    with_reducible refine (C2.out _ K4.out).mono ?_
                    rintro e w5 ⟨rfl, b5⟩
                    have K5 := hid (below_on K4.out b5)
                    clear b5 C2 K4
                    go_wp2_with fail
                    with_reducible refine (C3.out _ K5.out).mono ?_
                    rintro e w6 ⟨rfl, b6⟩
                    have K6 := hid (below_on BE.out (below_on K5.out b6))
                    clear b6 C3 K5 BE
                    go_wp2_with fail
                    go_ret
                    exact ⟨rfl, K6.out⟩
              · have CX := hid ((C2.out w3 C0.out).on (Below.drew (Below.refl _ _)))
                clear C0 C2 fz x0 y0 CAT
                generalize (w3.setCell ⟨gm, 0, none⟩ (.string (strOfNums (p.t ++ q.t)))).drew = w4 at *
                clear HM
                have HM := hid HM2.out
                clear HM2
                have mle : ({ q with t := p.t ++ q.t } :: M1).length = ml := hml
                generalize ({ q with t := p.t ++ q.t } :: M1) = MS at *
                clear hml
                subst mle
                go_wp2_with fail
                clear n0 nl wr1 wr2 nl2 ly ncl
                generalize L.take n1 = l0 at *
                go_loopg [5, 15] MS.length (fun m lv' k wr => ∃ i : Nat, i + m = MS.length ∧ k = .int .i64 (i : Int) ∧ Hid (CS w B1 B3 lv' (.slice (some ⟨gm, 0, none⟩) MS.length cm) (.slice ab bs.length cb) (l0 ++ MS.take i) MS bs wr))
                case atStart => exact ⟨0, by omega, rfl, by rw [List.take_zero, List.append_nil]; exact CX.out⟩
                case round =>
                  obtain ⟨i, hi, rfl, I⟩ := hrel
                  clear CX
                  by_cases il : i < MS.length
                  · have ili : (i : Int) < (MS.length : Int) := by omega
                    have ib : (i : Int) ≤ 2097152 := by have := HM.out; omega
                    obtain ⟨c0, c1, c2, c3, c4, c5, c6⟩ := I.out.mlp.cells i il
                    have TK := take_next il
                    generalize MS.getD i Dr.Pc.no = p at *
                    obtain ⟨lv2, w2, ap, C2⟩ := I.out.push p (by rw [List.length_append, List.length_take]; have := HM.out; have := H0.out; omega)
                    have F := hid C2
                    rw [List.append_assoc, ← TK] at F
                    have AP := hid ap
                    unfold pcv at AP
                    clear ap C2 I TK
                    go_wp2_with (at_builtin; refine wpList_append_b rfl _ _ rfl AP.out (by rfl) (by rfl) ?_; clear AP)
                    go_roundg (MS.length - (i + 1))
                    case measure => omega
                    case rel => exact ⟨i + 1, by omega, by go_num, F.out⟩
                  · have ili : ¬ (i : Int) < (MS.length : Int) := by omega
                    obtain rfl : i = MS.length := by omega
                    have Q := I.out
                    rw [List.take_length, EQ.out] at Q
                    obtain ⟨al, cl', rfl, _, LPl⟩ := Q.lr.lp
                    have LPb := Q.blp
                    have C1 := hid (fun W (k : Below wr.heap.size wr W) => same_any ab al cb cl' bs W (LPb.below k) (LPl.below k) (by have := HL.out; omega))
                    have C2 := hid (fun W (k : Below wr.heap.size wr W) => wants_any ab cb bs W (LPb.below k) (by have := HL.out; omega))
                    have C3 := hid (fun W (k : Below wr.heap.size wr W) => wants_any al cl' bs W (LPl.below k) (by have := HL.out; omega))
                    have BE := hid Q.bel
                    clear LPl LPb Q I
                    generalize Dr.wants bs = wn at *
                    go_wp2_with fail
                    with_reducible refine (C1.out _ (Below.refl _ _)).mono ?_
                    rintro e w4 ⟨rfl, b4⟩
                    have K4 := hid b4
                    clear b4 C1
                    go_wp2_with fail
                    with_reducible refine (C2.out _ K4.out).mono ?_
                    rintro e w5 ⟨rfl, b5⟩
                    have K5 := hid (below_on K4.out b5)
                    clear b5 C2 K4
                    go_wp2_with fail
                    with_reducible refine (C3.out _ K5.out).mono ?_
                    rintro e w6 ⟨rfl, b6⟩
                    have K6 := hid (below_on BE.out (below_on K5.out b6))
                    clear b6 C3 K5 BE
                    go_wp2_with fail
                    go_ret
                    exact ⟨rfl, K6.out⟩
            · rw [if_neg (fun z => hq z.2.2.2)] at MC
              have hq1 : (q.v == 0) = false := by simpa using hq
              rw [hp] at x1
              rw [hn1] at C0
              have CX := hid C0.out
              have EQ : Hid (L ++ (q :: M1) = bs) := MC.symm
              have H0 : Hid (L.length ≤ 1048576) := HX
              have ly : (0 : Int) < ((q :: M1).length : Int) := by rw [List.length_cons]; omega
              rw [hn1]
              clear C0 MC HX mlen BLp BMq ZMq TLp
              generalize q :: M1 = MS at *
              go_wp2_with fail
              clear x0 x1 y0 y1
              generalize L = l0 at *
              go_loopg [5, 15] MS.length (fun m lv' k wr => ∃ i : Nat, i + m = MS.length ∧ k = .int .i64 (i : Int) ∧ Hid (CS w B1 B3 lv' (.slice (some ⟨gm, 0, none⟩) MS.length cm) (.slice ab bs.length cb) (l0 ++ MS.take i) MS bs wr))
              case atStart => exact ⟨0, by omega, rfl, by rw [List.take_zero, List.append_nil]; exact CX.out⟩
              case round =>
                obtain ⟨i, hi, rfl, I⟩ := hrel
                clear CX
                by_cases il : i < MS.length
                · have ili : (i : Int) < (MS.length : Int) := by omega
                  have ib : (i : Int) ≤ 2097152 := by have := HM.out; omega
                  obtain ⟨c0, c1, c2, c3, c4, c5, c6⟩ := I.out.mlp.cells i il
                  have TK := take_next il
                  generalize MS.getD i Dr.Pc.no = p at *
                  obtain ⟨lv2, w2, ap, C2⟩ := I.out.push p (by rw [List.length_append, List.length_take]; have := HM.out; have := H0.out; omega)
                  have F := hid C2
                  rw [List.append_assoc, ← TK] at F
                  have AP := hid ap
                  unfold pcv at AP
                  clear ap C2 I TK
                  go_wp2_with (at_builtin; refine wpList_append_b rfl _ _ rfl AP.out (by rfl) (by rfl) ?_; clear AP)
                  go_roundg (MS.length - (i + 1))
                  case measure => omega
                  case rel => exact ⟨i + 1, by omega, by go_num, F.out⟩
                · have ili : ¬ (i : Int) < (MS.length : Int) := by omega
                  obtain rfl : i = MS.length := by omega
                  have Q := I.out
                  rw [List.take_length, EQ.out] at Q
                  obtain ⟨al, cl', rfl, _, LPl⟩ := Q.lr.lp
                  have LPb := Q.blp
                  have C1 := hid (fun W (k : Below wr.heap.size wr W) => same_any ab al cb cl' bs W (LPb.below k) (LPl.below k) (by have := HL.out; omega))
                  have C2 := hid (fun W (k : Below wr.heap.size wr W) => wants_any ab cb bs W (LPb.below k) (by have := HL.out; omega))
                  have C3 := hid (fun W (k : Below wr.heap.size wr W) => wants_any al cl' bs W (LPl.below k) (by have := HL.out; omega))
                  have BE := hid Q.bel
                  clear LPl LPb Q I
                  generalize Dr.wants bs = wn at *
                  go_wp2_with fail
                  with_reducible refine (C1.out _ (Below.refl _ _)).mono ?_
                  rintro e w4 ⟨rfl, b4⟩
                  have K4 := hid b4
                  clear b4 C1
                  go_wp2_with fail
                  with_reducible refine (C2.out _ K4.out).mono ?_
                  rintro e w5 ⟨rfl, b5⟩
                  have K5 := hid (below_on K4.out b5)
                  clear b5 C2 K4
                  go_wp2_with fail
                  with_reducible refine (C3.out _ K5.out).mono ?_
                  rintro e w6 ⟨rfl, b6⟩
                  have K6 := hid (below_on BE.out (below_on K5.out b6))
                  clear b6 C3 K5 BE
                  go_wp2_with fail
                  go_ret
                  exact ⟨rfl, K6.out⟩
          · rw [if_neg (fun z => hp z.2.2.1)] at MC
            have hp1 : (p.v == 0) = false := by simpa using hp
            rw [hn1] at C0
            have CX := hid C0.out
            have EQ : Hid (L ++ (q :: M1) = bs) := MC.symm
            have H0 : Hid (L.length ≤ 1048576) := HX
            have ly : (0 : Int) < ((q :: M1).length : Int) := by rw [List.length_cons]; omega
            rw [hn1]
            clear C0 MC HX mlen BLp BMq ZMq TLp
            generalize q :: M1 = MS at *
            go_wp2_with fail
            clear x0 x1 y0 y1
            generalize L = l0 at *
            go_loopg [5, 15] MS.length (fun m lv' k wr => ∃ i : Nat, i + m = MS.length ∧ k = .int .i64 (i : Int) ∧ Hid (CS w B1 B3 lv' (.slice (some ⟨gm, 0, none⟩) MS.length cm) (.slice ab bs.length cb) (l0 ++ MS.take i) MS bs wr))
            case atStart => exact ⟨0, by omega, rfl, by rw [List.take_zero, List.append_nil]; exact CX.out⟩
            case round =>
              obtain ⟨i, hi, rfl, I⟩ := hrel
              clear CX
              by_cases il : i < MS.length
              · have ili : (i : Int) < (MS.length : Int) := by omega
                have ib : (i : Int) ≤ 2097152 := by have := HM.out; omega
                obtain ⟨c0, c1, c2, c3, c4, c5, c6⟩ := I.out.mlp.cells i il
                have TK := take_next il
                generalize MS.getD i Dr.Pc.no = p at *
                obtain ⟨lv2, w2, ap, C2⟩ := I.out.push p (by rw [List.length_append, List.length_take]; have := HM.out; have := H0.out; omega)
                have F := hid C2
                rw [List.append_assoc, ← TK] at F
                have AP := hid ap
                unfold pcv at AP
                clear ap C2 I TK
                go_wp2_with (at_builtin; refine wpList_append_b rfl _ _ rfl AP.out (by rfl) (by rfl) ?_; clear AP)
                go_roundg (MS.length - (i + 1))
                case measure => omega
                case rel => exact ⟨i + 1, by omega, by go_num, F.out⟩
              · have ili : ¬ (i : Int) < (MS.length : Int) := by omega
                obtain rfl : i = MS.length := by omega
                have Q := I.out
                rw [List.take_length, EQ.out] at Q
                obtain ⟨al, cl', rfl, _, LPl⟩ := Q.lr.lp
                have LPb := Q.blp
                have C1 := hid (fun W (k : Below wr.heap.size wr W) => same_any ab al cb cl' bs W (LPb.below k) (LPl.below k) (by have := HL.out; omega))
                have C2 := hid (fun W (k : Below wr.heap.size wr W) => wants_any ab cb bs W (LPb.below k) (by have := HL.out; omega))
                have C3 := hid (fun W (k : Below wr.heap.size wr W) => wants_any al cl' bs W (LPl.below k) (by have := HL.out; omega))
                have BE := hid Q.bel
                clear LPl LPb Q I
                generalize Dr.wants bs = wn at *
                go_wp2_with fail
                with_reducible refine (C1.out _ (Below.refl _ _)).mono ?_
                rintro e w4 ⟨rfl, b4⟩
                have K4 := hid b4
                clear b4 C1
                go_wp2_with fail
                with_reducible refine (C2.out _ K4.out).mono ?_
                rintro e w5 ⟨rfl, b5⟩
                have K5 := hid (below_on K4.out b5)
                clear b5 C2 K4
                go_wp2_with fail
                with_reducible refine (C3.out _ K5.out).mono ?_
                rintro e w6 ⟨rfl, b6⟩
                have K6 := hid (below_on BE.out (below_on K5.out b6))
                clear b6 C3 K5 BE
                go_wp2_with fail
                go_ret
                exact ⟨rfl, K6.out⟩
        · have MN : M = [] := List.eq_nil_of_length_eq_zero (by omega)
          subst MN
          obtain ⟨am, cm, rfl, _, _⟩ := C0.out.mr.lp
          rw [if_neg (fun z => hM z.2.1)] at MC
          have EQ : Hid (L ++ [] = bs) := MC.symm
          have H0 : Hid (L.length ≤ 1048576) := HX
          rw [hn1] at C0
          have CX := hid C0.out
          rw [hn1]
          clear C0 MC HX BL BM ZM TL hM
          generalize hms : ([] : List Dr.Pc) = MS at *
          have lz : ¬ (0 : Int) < (MS.length : Int) := by rw [← hms]; simp
          have LZ : Hid (MS.length = 0) := by rw [← hms]; rfl
          clear hms
          go_wp2_with fail
          clear lz
          generalize L = l0 at *
          go_loopg [5, 15] MS.length (fun m lv' k wr => ∃ i : Nat, i + m = MS.length ∧ k = .int .i64 (i : Int) ∧ Hid (CS w B1 B3 lv' (.slice am MS.length cm) (.slice ab bs.length cb) (l0 ++ MS.take i) MS bs wr))
          case atStart => exact ⟨0, by omega, rfl, by rw [List.take_zero, List.append_nil]; exact CX.out⟩
          case round =>
            obtain ⟨i, hi, rfl, I⟩ := hrel
            clear CX
            by_cases il : i < MS.length
            · exact absurd il (by have := LZ.out; omega)
            · have ili : ¬ (i : Int) < (MS.length : Int) := by omega
              obtain rfl : i = MS.length := by omega
              have Q := I.out
              rw [List.take_length, EQ.out] at Q
              obtain ⟨al, cl', rfl, _, LPl⟩ := Q.lr.lp
              have LPb := Q.blp
              have C1 := hid (fun W (k : Below wr.heap.size wr W) => same_any ab al cb cl' bs W (LPb.below k) (LPl.below k) (by have := HL.out; omega))
              have C2 := hid (fun W (k : Below wr.heap.size wr W) => wants_any ab cb bs W (LPb.below k) (by have := HL.out; omega))
              have C3 := hid (fun W (k : Below wr.heap.size wr W) => wants_any al cl' bs W (LPl.below k) (by have := HL.out; omega))
              have BE := hid Q.bel
              clear LPl LPb Q I
              generalize Dr.wants bs = wn at *
              go_wp2_with fail
              with_reducible refine (C1.out _ (Below.refl _ _)).mono ?_
              rintro e w4 ⟨rfl, b4⟩
              have K4 := hid b4
              clear b4 C1
              go_wp2_with fail
              with_reducible refine (C2.out _ K4.out).mono ?_
              rintro e w5 ⟨rfl, b5⟩
              have K5 := hid (below_on K4.out b5)
              clear b5 C2 K4
              go_wp2_with fail
              with_reducible refine (C3.out _ K5.out).mono ?_
              rintro e w6 ⟨rfl, b6⟩
              have K6 := hid (below_on BE.out (below_on K5.out b6))
              clear b6 C3 K5 BE
              go_wp2_with fail
              go_ret
              exact ⟨rfl, K6.out⟩
      · have LN : L = [] := List.eq_nil_of_length_eq_zero (by omega)
        subst LN
        obtain ⟨al, cl, rfl, _, _⟩ := C0.out.lr.lp
        obtain ⟨am, cm, rfl, _, _⟩ := C0.out.mr.lp
        rw [if_neg (fun z => hL z.1)] at MC
        have EQ : Hid ([] ++ M = bs) := MC.symm
        have H0 : Hid (([] : List Dr.Pc).length ≤ 1048576) := HX
        have CX := hid C0.out
        rw [List.length_nil] at CX
        clear C0 MC HX BL BM ZM TL hL
        go_wp2_with fail
        generalize M = MS at *
        generalize ([] : List Dr.Pc) = l0 at *
        go_loopg [5, 15] MS.length (fun m lv' k wr => ∃ i : Nat, i + m = MS.length ∧ k = .int .i64 (i : Int) ∧ Hid (CS w B1 B3 lv' (.slice am MS.length cm) (.slice ab bs.length cb) (l0 ++ MS.take i) MS bs wr))
        case atStart => exact ⟨0, by omega, rfl, by rw [List.take_zero, List.append_nil]; exact CX.out⟩
        case round =>
          obtain ⟨i, hi, rfl, I⟩ := hrel
          clear CX
          by_cases il : i < MS.length
          · have ili : (i : Int) < (MS.length : Int) := by omega
            have ib : (i : Int) ≤ 2097152 := by have := HM.out; omega
            obtain ⟨g, off, rfl, hc⟩ := I.out.mlp.at i il
            obtain ⟨c0, c1, c2, c3, c4, c5, c6⟩ := hc
            have TK := take_next il
            generalize MS.getD i Dr.Pc.no = p at *
            obtain ⟨lv2, w2, ap, C2⟩ := I.out.push p (by rw [List.length_append, List.length_take]; have := HM.out; have := H0.out; omega)
            have F := hid C2
            rw [List.append_assoc, ← TK] at F
            have AP := hid ap
            unfold pcv at AP
            clear ap C2 I TK
            go_wp2_with (at_builtin; refine wpList_append_b rfl _ _ rfl AP.out (by rfl) (by rfl) ?_; clear AP)
            go_roundg (MS.length - (i + 1))
            case measure => omega
            case rel => exact ⟨i + 1, by omega, by go_num, F.out⟩
          · have ili : ¬ (i : Int) < (MS.length : Int) := by omega
            obtain rfl : i = MS.length := by omega
            have Q := I.out
            rw [List.take_length, EQ.out] at Q
            obtain ⟨al, cl', rfl, _, LPl⟩ := Q.lr.lp
            have LPb := Q.blp
            have C1 := hid (fun W (k : Below wr.heap.size wr W) => same_any ab al cb cl' bs W (LPb.below k) (LPl.below k) (by have := HL.out; omega))
            have C2 := hid (fun W (k : Below wr.heap.size wr W) => wants_any ab cb bs W (LPb.below k) (by have := HL.out; omega))
            have C3 := hid (fun W (k : Below wr.heap.size wr W) => wants_any al cl' bs W (LPl.below k) (by have := HL.out; omega))
            have BE := hid Q.bel
            clear LPl LPb Q I
            generalize Dr.wants bs = wn at *
            go_wp2_with fail
            with_reducible refine (C1.out _ (Below.refl _ _)).mono ?_
            rintro e w4 ⟨rfl, b4⟩
            have K4 := hid b4
            clear b4 C1
            go_wp2_with fail
            with_reducible refine (C2.out _ K4.out).mono ?_
            rintro e w5 ⟨rfl, b5⟩
            have K5 := hid (below_on K4.out b5)
            clear b5 C2 K4
            go_wp2_with fail
            with_reducible refine (C3.out _ K5.out).mono ?_
            rintro e w6 ⟨rfl, b6⟩
            have K6 := hid (below_on BE.out (below_on K5.out b6))
            clear b6 C3 K5 BE
            go_wp2_with fail
            go_ret
            exact ⟨rfl, K6.out⟩
    · have E2 := Dr.prs_bad' ok2
      have E3 := f2 ok2
      obtain ⟨A, hA⟩ : ∃ A, (Dr.prs ys).2.1 = A := ⟨_, rfl⟩
      obtain ⟨E, hE⟩ : ∃ E, (Dr.prs ys).2.2 = E := ⟨_, rfl⟩
      rw [hA, hE] at E2 E3
      rw [hE] at ok2
      have AB : Hid (A ≤ 1048576) := by
        have := (Dr.fmt_bad _ ys (Nat.le_refl _) (by rw [hE]; exact ok2)).1
        rw [hA] at this
        show A ≤ _
        omega
      have P2 : Hid (∀ W, Calls Tryd.prog 14 #[.string t] W fun r w' => ∃ lv, r = .returned (.tuple #[lv, .int .i64 (A : Int), .int .i64 E]) ∧ Below W.heap.size W w') := fun W => (PY.out W).mono (by
        rintro e w' ⟨mv, rfl, r, b⟩
        rw [E2]
        exact ⟨mv, rfl, b⟩)
      have P3 : Hid (∀ W, Calls Tryd.prog 14 #[.string (s ++ t)] W fun r w' => ∃ p c, r = .returned (.tuple #[.slice p 0 c, .int .i64 ((A : Int) + (s.size : Int)), .int .i64 E]) ∧ Below W.heap.size W w') := fun W => (PZ.out W).mono (by
        rintro e w' ⟨mv, rfl, r, b⟩
        rw [E3] at r ⊢
        obtain ⟨p, c, rfl⟩ := row_nil r
        refine ⟨p, c, ?_, b⟩
        rw [sx, show ((A : Int) + (xs.length : Int)) = ((xs.length + A : Nat) : Int) by omega])
      have sb : (s.size : Int) ≤ 1048576 := by omega
      have ab : (A : Int) ≤ 1048576 := by have := AB.out; omega
      have e0 : (E == 0) = false := by simpa using ok2
      clear PX PY PZ hs ht hx hy sx sy f1 f2 ok E2 E3 hA hE ok2 AB
      go_enter Tryd.func7, Tryd.ntmps7
      go_wp2_with fail
      refine AW.out.mono ?_
      rintro e w0 ⟨rfl, b0⟩
      have B0 := hid b0
      clear b0 AW
      go_wp2_with fail
      with_reducible refine (P1.out _).mono ?_
      rintro e w1 ⟨lv, rfl, r1, b1⟩
      have B1 := hid (below_on B0.out b1)
      clear b1 P1 r1 B0
      go_wp2_with fail
      with_reducible refine (P2.out _).mono ?_
      rintro e w2 ⟨mv, rfl, b2⟩
      have B2 := hid (below_on B1.out b2)
      clear b2 P2 B1
      go_wp2_with fail
      with_reducible refine (P3.out _).mono ?_
      rintro e w3 ⟨p, c, rfl, b3⟩
      have B3 := hid (below_on B2.out b3)
      clear b3 P3 B2
      go_wp2_with fail
      go_ret
      exact ⟨rfl, B3.out⟩
  · have P1 : Hid (∀ W, Calls Tryd.prog 14 #[.string s] W fun r w' => ∃ lv a, r = .returned (.tuple #[lv, .int .i64 a, .int .i64 (Dr.prs xs).2.2]) ∧ Below W.heap.size W w') := fun W => (PX.out W).mono (by
      rintro e w' ⟨mv, rfl, r, b⟩
      exact ⟨mv, _, rfl, b⟩)
    have e0 : ((Dr.prs xs).2.2 == 0) = false := by simpa using ok
    clear PX PY PZ hs ht hx hy sx sy ok CAT
    generalize (Dr.prs xs).2.2 = E at *
    go_enter Tryd.func7, Tryd.ntmps7
    go_wp2_with fail
    refine AW.out.mono ?_
    rintro e w0 ⟨rfl, b0⟩
    have B0 := hid b0
    clear b0 AW
    go_wp2_with fail
    with_reducible refine (P1.out _).mono ?_
    rintro e w1 ⟨lv, a, rfl, b1⟩
    have B1 := hid (below_on B0.out b1)
    clear b1 P1 B0
    go_wp2_with fail
    go_ret
    exact ⟨rfl, B1.out⟩
end Go.Proofs.YtdfnpoojbnoeeaaDoor
