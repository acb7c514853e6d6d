/-
  whole: Pad (mkjpad.py).
-/
import Derived.Test.YtigmhnlcmhpepaaGreatDoorWAI
namespace Go.Proofs.YtigmhnlcmhpepaaGreatDoor
open Go Go.RowKit Go.Deep Go.Shelf

def PadTold (F W P : Int) (z : Bool) (h b : List Int) (w : World) (e : Ending) (w' : World) : Prop := e = .returned (.tuple #[.string (strOfNums (Wh.pad F W P z h b)), .int .i64 (Wh.padE F W P h b)]) ∧ Below w.heap.size w w'
theorem PadTold.bel {F W P : Int} {z : Bool} {h b : List Int} {w : World} {e : Ending} {w' : World} (k : PadTold F W P z h b w e w') : Below w.heap.size w w' := k.2

set_option maxRecDepth 100000 in
set_option maxHeartbeats 4000000 in
theorem pad_any (V F W P : Int) (h b : List Int) (z : Bool) (w : World) (hh : Wh.By h) (hb : Wh.By b) (lh : h.length ≤ 140737488355328) (lb : b.length ≤ 140737488355328) :
    Calls Tryz.prog 112 #[.agg #[.int .u8 V, .int .i64 F, .int .i64 W, .int .i64 P], .string (strOfNums h), .string (strOfNums b), .bool z] w fun e w' => PadTold F W P z h b w e w' := by
  have B0 := hid (alloc_b w (.cells #[.int .u8 V, .int .i64 F, .int .i64 W, .int .i64 P] 141))
  have CK := hid (fun W' => check_any V F W P W')
  by_cases hc : Wh.chk F W P = 0
  · obtain ⟨⟨f0, f1⟩, ⟨wl, wu⟩, ⟨p0, p1⟩⟩ := Wh.chk_ok hc
    rw [hc] at CK
    have sh : (strOfNums h).size = h.length := strOfNums_size h
    have sb : (strOfNums b).size = b.length := strOfNums_size b
    have S0 := hid (S4.new w (.int .u8 V) (.int .i64 F) (.int .i64 W) (.int .i64 P))
    by_cases hl : 16777216 < h.length + b.length
    · have hE : Wh.padE F W P h b = 3 := by rw [Wh.padE, if_pos hc, if_pos hl]
      have G : Hid (∀ w', Below w.heap.size w w' → PadTold F W P z h b w (.returned (.tuple #[.string ⟨#[]⟩, .int .i64 3])) w') := fun w' k => ⟨by rw [Wh.pad, hE, if_neg (by decide)]; rfl, k⟩
      have l1 : (16777216 : Int) - (h.length : Int) < (b.length : Int) := by omega
      have l2 : (h.length : Int) ≤ 140737488355328 := by omega
      have l3 : (b.length : Int) ≤ 140737488355328 := by omega
      clear hh hb lh lb hc hl hE f0 f1 wl wu p0 p1 S0
      go_enter Tryz.func112, Tryz.ntmps112
      go_wp2_with fail
      refine (CK.out _).mono ?_
      rintro e w1 ⟨rfl, b1⟩
      have B1 := hid (below_on B0.out b1)
      clear b1 CK
      go_wp2_with fail
      go_ret2
      exact G.out _ B1.out
    · have hE : Wh.padE F W P h b = 0 := by rw [Wh.padE, if_pos hc, if_neg hl]
      have hP : Wh.pad F W P z h b = Wh.padT F W z h b := by rw [Wh.pad, hE, if_pos rfl]
      have BY := hid (Wh.padT_by (F := F) (W := W) (z := z) hh hb)
      have PL := hid (Wh.padT_len F W z h b)
      have l1 : ¬ (16777216 : Int) - (h.length : Int) < (b.length : Int) := by omega
      have l2 : (h.length : Int) ≤ 16777216 := by omega
      have l3 : (b.length : Int) ≤ 16777216 := by omega
      have n2 : h.length ≤ 16777216 := by omega
      have n3 : b.length ≤ 16777216 := by omega
      obtain ⟨M, hM⟩ : ∃ M : Nat, M = (W - h.length - b.length).toNat := ⟨_, rfl⟩
      have M1 : M ≤ 4096 := by omega
      have mx : max 0 (W - (h.length : Int) - (b.length : Int)) = (M : Int) := by rw [hM]; omega
      have rp : ∀ c, Wh.rep c (W - h.length - b.length) = Wh.rep c (M : Int) := by intro c; rw [Wh.rep, Wh.rep, hM]; rfl
      have R0 : Hid (∀ W', Calls Tryz.prog 141 #[.string ⟨#[32]⟩, .int .i64 0] W' fun e w' => e = .returned (.string (strOfNums [])) ∧ Below W'.heap.size W' w') := fun W' => jrep32 0 W' (by omega)
      have R1 := hid (fun W' => jrep32 M W' (by omega))
      have Q0 : Hid (∀ W', Calls Tryz.prog 141 #[.string ⟨#[48]⟩, .int .i64 0] W' fun e w' => e = .returned (.string (strOfNums [])) ∧ Below W'.heap.size W' w') := fun W' => jrep48 0 W' (by omega)
      have Q1 := hid (fun W' => jrep48 M W' (by omega))
      have H1 := hid (fun W' => has_any V F W P 1 W' f0 f1 (by omega))
      have H2 := hid (fun W' => has_any V F W P 16 W' f0 f1 (by omega))
      have GR := hid (fun (w1 : World) (k : Below w.heap.size w w1) => PS.grow (h.length + b.length + M) k (by omega))
      have WT := hid (fun (wk : World) bb zs xs (k : PS w bb zs wk) hx hl => PS.write k xs hx hl)
      have WS := hid (fun (wk : World) bb zs (k : PS w bb zs wk) hx => PS.str k hx)
      have gm : ((h.length + b.length + M : Nat) : Int) = (h.length : Int) + (b.length : Int) + (M : Int) := by omega
      have m0 : (M : Int) ≤ 4096 := by omega
      have y1 : Hid (Wh.By (Wh.rep 32 (M : Int)) ∧ (Wh.rep 32 (M : Int)).length = M) := ⟨Wh.By.rep (by omega), by rw [Wh.rep_len]; omega⟩
      have y2 : Hid (Wh.By (Wh.rep 48 (M : Int)) ∧ (Wh.rep 48 (M : Int)).length = M) := ⟨Wh.By.rep (by omega), by rw [Wh.rep_len]; omega⟩
      have YH := hid hh
      have YB := hid hb
      have N2 := hid n2
      have N3 := hid n3
      have G : Hid (∀ w', Below w.heap.size w w' → PadTold F W P z h b w (.returned (.tuple #[.string (strOfNums (Wh.padT F W z h b)), .int .i64 0])) w') := fun w' k => ⟨by rw [hE, hP], k⟩
      cases hb1 : Wh.bit F 1 with
      | true =>
        have EQ : Hid (Wh.padT F W z h b = h ++ b ++ Wh.rep 32 (M : Int)) := by rw [Hid]; rw [Wh.padT, if_pos hb1, rp]
        clear hh hb lh lb hc hl hE hP hM rp f0 f1 p0 p1 n2 n3
        go_enter Tryz.func112, Tryz.ntmps112
        go_wp2_with fail
        refine (CK.out _).mono ?_
        rintro e w1 ⟨rfl, b1⟩
        have B1 := hid (below_on B0.out b1)
        obtain ⟨⟨c0, c1, c2, c3⟩, -⟩ := (S0.out.below b1).cells
        have S1 := hid (S0.out.below b1)
        clear b1 CK S0 B0
        go_wp2_with fail
        refine (H1.out _).mono ?_
        rintro e w2 ⟨rfl, b2⟩
        have B2 := hid (below_on B1.out b2)
        obtain ⟨⟨d0, d1, d2, d3⟩, -⟩ := (S1.out.below b2).cells
        have S2 := hid (S1.out.below b2)
        clear b2 c0 c1 c2 c3 B1 S1
        rw [hb1]
        go_wp2_with fail
        have GG := GR.out _ B2.out
        rw [gm] at GG
        with_reducible refine GG.mono ?_
        rintro e wa ⟨rfl, q⟩
        have Qa := hid q
        clear q GG GR
        go_wp2_with fail
        generalize w2.heap.size = bb at *
        with_reducible refine (R0.out _).mono ?_
        rintro e wr ⟨rfl, br⟩
        have Qr := hid (Qa.out.on br)
        clear br
        go_wp2_with fail
        with_reducible refine (WT.out _ _ _ [] Qr.out Wh.By.nil (by have := N2.out; have := N3.out; have := y1.out.2; have := y2.out.2; simp only [List.length_nil]; omega)).mono ?_
        rintro e Qbw ⟨rfl, q⟩
        have Qb := hid q
        clear q Qr wr
        go_wp2_with fail
        with_reducible refine (WT.out _ _ _ h Qb.out YH.out (by have := N2.out; have := N3.out; have := y1.out.2; have := y2.out.2; simp only [List.length_append, List.length_nil]; omega)).mono ?_
        rintro e Qcw ⟨rfl, q⟩
        have Qc := hid q
        clear q
        go_wp2_with fail
        with_reducible refine (Q0.out _).mono ?_
        rintro e wr ⟨rfl, br⟩
        have Qr := hid (Qc.out.on br)
        clear br
        go_wp2_with fail
        with_reducible refine (WT.out _ _ _ [] Qr.out Wh.By.nil (by have := N2.out; have := N3.out; have := y1.out.2; have := y2.out.2; simp only [List.length_append, List.length_nil]; omega)).mono ?_
        rintro e Qdw ⟨rfl, q⟩
        have Qd := hid q
        clear q Qr wr
        go_wp2_with fail
        with_reducible refine (WT.out _ _ _ b Qd.out YB.out (by have := N2.out; have := N3.out; have := y1.out.2; have := y2.out.2; simp only [List.length_append, List.length_nil]; omega)).mono ?_
        rintro e Qew ⟨rfl, q⟩
        have Qe := hid q
        clear q
        go_wp2_with fail
        with_reducible refine (R1.out _).mono ?_
        rintro e wr ⟨rfl, br⟩
        have Qr := hid (Qe.out.on br)
        clear br
        go_wp2_with fail
        with_reducible refine (WT.out _ _ _ (Wh.rep 32 (M : Int)) Qr.out y1.out.1 (by have := N2.out; have := N3.out; have := y1.out.2; have := y2.out.2; simp only [List.length_append, List.length_nil]; omega)).mono ?_
        rintro e Qfw ⟨rfl, q⟩
        have Qf := hid q
        clear q Qr wr
        go_wp2_with fail
        have QF : Hid (PS w bb (Wh.padT F W z h b) Qfw) := by
          have q := Qf.out
          simp only [List.nil_append, List.append_nil] at q
          rw [EQ.out]; exact q
        with_reducible refine (WS.out _ _ _ QF.out BY.out).mono ?_
        rintro e wz ⟨rfl, bz⟩
        have BZ := hid (G.out _ bz)
        clear bz QF Qf
        go_wp2_with fail
        go_ret2
        exact BZ.out
      | false =>
        cases hb2 : Wh.bit F 16 with
        | true =>
          cases z with
          | true =>
            have EQ : Hid (Wh.padT F W true h b = h ++ Wh.rep 48 (M : Int) ++ b) := by rw [Hid]; rw [Wh.padT, hb1, if_neg Bool.false_ne_true, if_pos ⟨hb2, rfl⟩, rp]
            clear hh hb lh lb hc hl hE hP hM rp f0 f1 p0 p1 n2 n3
            go_enter Tryz.func112, Tryz.ntmps112
            go_wp2_with fail
            refine (CK.out _).mono ?_
            rintro e w1 ⟨rfl, b1⟩
            have B1 := hid (below_on B0.out b1)
            obtain ⟨⟨c0, c1, c2, c3⟩, -⟩ := (S0.out.below b1).cells
            have S1 := hid (S0.out.below b1)
            clear b1 CK S0 B0
            go_wp2_with fail
            refine (H1.out _).mono ?_
            rintro e w2 ⟨rfl, b2⟩
            have B2 := hid (below_on B1.out b2)
            obtain ⟨⟨d0, d1, d2, d3⟩, -⟩ := (S1.out.below b2).cells
            have S2 := hid (S1.out.below b2)
            clear b2 c0 c1 c2 c3 B1 S1
            rw [hb1]
            go_wp2_with fail
            refine (H2.out _).mono ?_
            rintro e w3 ⟨rfl, b3⟩
            have B3 := hid (below_on B2.out b3)
            obtain ⟨⟨c0, c1, c2, c3⟩, -⟩ := (S2.out.below b3).cells
            clear b3 d0 d1 d2 d3 B2 S2
            rw [hb2]
            go_wp2_with fail
            have GG := GR.out _ B3.out
            rw [gm] at GG
            with_reducible refine GG.mono ?_
            rintro e wa ⟨rfl, q⟩
            have Qa := hid q
            clear q GG GR
            go_wp2_with fail
            generalize w3.heap.size = bb at *
            with_reducible refine (R0.out _).mono ?_
            rintro e wr ⟨rfl, br⟩
            have Qr := hid (Qa.out.on br)
            clear br
            go_wp2_with fail
            with_reducible refine (WT.out _ _ _ [] Qr.out Wh.By.nil (by have := N2.out; have := N3.out; have := y1.out.2; have := y2.out.2; simp only [List.length_nil]; omega)).mono ?_
            rintro e Qbw ⟨rfl, q⟩
            have Qb := hid q
            clear q Qr wr
            go_wp2_with fail
            with_reducible refine (WT.out _ _ _ h Qb.out YH.out (by have := N2.out; have := N3.out; have := y1.out.2; have := y2.out.2; simp only [List.length_append, List.length_nil]; omega)).mono ?_
            rintro e Qcw ⟨rfl, q⟩
            have Qc := hid q
            clear q
            go_wp2_with fail
            with_reducible refine (Q1.out _).mono ?_
            rintro e wr ⟨rfl, br⟩
            have Qr := hid (Qc.out.on br)
            clear br
            go_wp2_with fail
            with_reducible refine (WT.out _ _ _ (Wh.rep 48 (M : Int)) Qr.out y2.out.1 (by have := N2.out; have := N3.out; have := y1.out.2; have := y2.out.2; simp only [List.length_append, List.length_nil]; omega)).mono ?_
            rintro e Qdw ⟨rfl, q⟩
            have Qd := hid q
            clear q Qr wr
            go_wp2_with fail
            with_reducible refine (WT.out _ _ _ b Qd.out YB.out (by have := N2.out; have := N3.out; have := y1.out.2; have := y2.out.2; simp only [List.length_append, List.length_nil]; omega)).mono ?_
            rintro e Qew ⟨rfl, q⟩
            have Qe := hid q
            clear q
            go_wp2_with fail
            with_reducible refine (R0.out _).mono ?_
            rintro e wr ⟨rfl, br⟩
            have Qr := hid (Qe.out.on br)
            clear br
            go_wp2_with fail
            with_reducible refine (WT.out _ _ _ [] Qr.out Wh.By.nil (by have := N2.out; have := N3.out; have := y1.out.2; have := y2.out.2; simp only [List.length_append, List.length_nil]; omega)).mono ?_
            rintro e Qfw ⟨rfl, q⟩
            have Qf := hid q
            clear q Qr wr
            go_wp2_with fail
            have QF : Hid (PS w bb (Wh.padT F W true h b) Qfw) := by
              have q := Qf.out
              simp only [List.nil_append, List.append_nil] at q
              rw [EQ.out]; exact q
            with_reducible refine (WS.out _ _ _ QF.out BY.out).mono ?_
            rintro e wz ⟨rfl, bz⟩
            have BZ := hid (G.out _ bz)
            clear bz QF Qf
            go_wp2_with fail
            go_ret2
            exact BZ.out
          | false =>
            have EQ : Hid (Wh.padT F W false h b = Wh.rep 32 (M : Int) ++ h ++ b) := by rw [Hid]; rw [Wh.padT, hb1, if_neg Bool.false_ne_true, if_neg (fun q => Bool.false_ne_true q.2), rp]
            clear hh hb lh lb hc hl hE hP hM rp f0 f1 p0 p1 n2 n3
            go_enter Tryz.func112, Tryz.ntmps112
            go_wp2_with fail
            refine (CK.out _).mono ?_
            rintro e w1 ⟨rfl, b1⟩
            have B1 := hid (below_on B0.out b1)
            obtain ⟨⟨c0, c1, c2, c3⟩, -⟩ := (S0.out.below b1).cells
            have S1 := hid (S0.out.below b1)
            clear b1 CK S0 B0
            go_wp2_with fail
            refine (H1.out _).mono ?_
            rintro e w2 ⟨rfl, b2⟩
            have B2 := hid (below_on B1.out b2)
            obtain ⟨⟨d0, d1, d2, d3⟩, -⟩ := (S1.out.below b2).cells
            have S2 := hid (S1.out.below b2)
            clear b2 c0 c1 c2 c3 B1 S1
            rw [hb1]
            go_wp2_with fail
            refine (H2.out _).mono ?_
            rintro e w3 ⟨rfl, b3⟩
            have B3 := hid (below_on B2.out b3)
            obtain ⟨⟨c0, c1, c2, c3⟩, -⟩ := (S2.out.below b3).cells
            clear b3 d0 d1 d2 d3 B2 S2
            rw [hb2]
            go_wp2_with fail
            have GG := GR.out _ B3.out
            rw [gm] at GG
            with_reducible refine GG.mono ?_
            rintro e wa ⟨rfl, q⟩
            have Qa := hid q
            clear q GG GR
            go_wp2_with fail
            generalize w3.heap.size = bb at *
            with_reducible refine (R1.out _).mono ?_
            rintro e wr ⟨rfl, br⟩
            have Qr := hid (Qa.out.on br)
            clear br
            go_wp2_with fail
            with_reducible refine (WT.out _ _ _ (Wh.rep 32 (M : Int)) Qr.out y1.out.1 (by have := N2.out; have := N3.out; have := y1.out.2; have := y2.out.2; simp only [List.length_nil]; omega)).mono ?_
            rintro e Qbw ⟨rfl, q⟩
            have Qb := hid q
            clear q Qr wr
            go_wp2_with fail
            with_reducible refine (WT.out _ _ _ h Qb.out YH.out (by have := N2.out; have := N3.out; have := y1.out.2; have := y2.out.2; simp only [List.length_append, List.length_nil]; omega)).mono ?_
            rintro e Qcw ⟨rfl, q⟩
            have Qc := hid q
            clear q
            go_wp2_with fail
            with_reducible refine (Q0.out _).mono ?_
            rintro e wr ⟨rfl, br⟩
            have Qr := hid (Qc.out.on br)
            clear br
            go_wp2_with fail
            with_reducible refine (WT.out _ _ _ [] Qr.out Wh.By.nil (by have := N2.out; have := N3.out; have := y1.out.2; have := y2.out.2; simp only [List.length_append, List.length_nil]; omega)).mono ?_
            rintro e Qdw ⟨rfl, q⟩
            have Qd := hid q
            clear q Qr wr
            go_wp2_with fail
            with_reducible refine (WT.out _ _ _ b Qd.out YB.out (by have := N2.out; have := N3.out; have := y1.out.2; have := y2.out.2; simp only [List.length_append, List.length_nil]; omega)).mono ?_
            rintro e Qew ⟨rfl, q⟩
            have Qe := hid q
            clear q
            go_wp2_with fail
            with_reducible refine (R0.out _).mono ?_
            rintro e wr ⟨rfl, br⟩
            have Qr := hid (Qe.out.on br)
            clear br
            go_wp2_with fail
            with_reducible refine (WT.out _ _ _ [] Qr.out Wh.By.nil (by have := N2.out; have := N3.out; have := y1.out.2; have := y2.out.2; simp only [List.length_append, List.length_nil]; omega)).mono ?_
            rintro e Qfw ⟨rfl, q⟩
            have Qf := hid q
            clear q Qr wr
            go_wp2_with fail
            have QF : Hid (PS w bb (Wh.padT F W false h b) Qfw) := by
              have q := Qf.out
              simp only [List.nil_append, List.append_nil] at q
              rw [EQ.out]; exact q
            with_reducible refine (WS.out _ _ _ QF.out BY.out).mono ?_
            rintro e wz ⟨rfl, bz⟩
            have BZ := hid (G.out _ bz)
            clear bz QF Qf
            go_wp2_with fail
            go_ret2
            exact BZ.out
        | false =>
          have EQ : Hid (Wh.padT F W z h b = Wh.rep 32 (M : Int) ++ h ++ b) := by rw [Hid]; rw [Wh.padT, hb1, if_neg Bool.false_ne_true, hb2, if_neg (fun q => Bool.false_ne_true q.1), rp]
          clear hh hb lh lb hc hl hE hP hM rp f0 f1 p0 p1 n2 n3
          go_enter Tryz.func112, Tryz.ntmps112
          go_wp2_with fail
          refine (CK.out _).mono ?_
          rintro e w1 ⟨rfl, b1⟩
          have B1 := hid (below_on B0.out b1)
          obtain ⟨⟨c0, c1, c2, c3⟩, -⟩ := (S0.out.below b1).cells
          have S1 := hid (S0.out.below b1)
          clear b1 CK S0 B0
          go_wp2_with fail
          refine (H1.out _).mono ?_
          rintro e w2 ⟨rfl, b2⟩
          have B2 := hid (below_on B1.out b2)
          obtain ⟨⟨d0, d1, d2, d3⟩, -⟩ := (S1.out.below b2).cells
          have S2 := hid (S1.out.below b2)
          clear b2 c0 c1 c2 c3 B1 S1
          rw [hb1]
          go_wp2_with fail
          refine (H2.out _).mono ?_
          rintro e w3 ⟨rfl, b3⟩
          have B3 := hid (below_on B2.out b3)
          obtain ⟨⟨c0, c1, c2, c3⟩, -⟩ := (S2.out.below b3).cells
          clear b3 d0 d1 d2 d3 B2 S2
          rw [hb2]
          go_wp2_with fail
          have GG := GR.out _ B3.out
          rw [gm] at GG
          with_reducible refine GG.mono ?_
          rintro e wa ⟨rfl, q⟩
          have Qa := hid q
          clear q GG GR
          go_wp2_with fail
          generalize w3.heap.size = bb at *
          with_reducible refine (R1.out _).mono ?_
          rintro e wr ⟨rfl, br⟩
          have Qr := hid (Qa.out.on br)
          clear br
          go_wp2_with fail
          with_reducible refine (WT.out _ _ _ (Wh.rep 32 (M : Int)) Qr.out y1.out.1 (by have := N2.out; have := N3.out; have := y1.out.2; have := y2.out.2; simp only [List.length_nil]; omega)).mono ?_
          rintro e Qbw ⟨rfl, q⟩
          have Qb := hid q
          clear q Qr wr
          go_wp2_with fail
          with_reducible refine (WT.out _ _ _ h Qb.out YH.out (by have := N2.out; have := N3.out; have := y1.out.2; have := y2.out.2; simp only [List.length_append, List.length_nil]; omega)).mono ?_
          rintro e Qcw ⟨rfl, q⟩
          have Qc := hid q
          clear q
          go_wp2_with fail
          with_reducible refine (Q0.out _).mono ?_
          rintro e wr ⟨rfl, br⟩
          have Qr := hid (Qc.out.on br)
          clear br
          go_wp2_with fail
          with_reducible refine (WT.out _ _ _ [] Qr.out Wh.By.nil (by have := N2.out; have := N3.out; have := y1.out.2; have := y2.out.2; simp only [List.length_append, List.length_nil]; omega)).mono ?_
          rintro e Qdw ⟨rfl, q⟩
          have Qd := hid q
          clear q Qr wr
          go_wp2_with fail
          with_reducible refine (WT.out _ _ _ b Qd.out YB.out (by have := N2.out; have := N3.out; have := y1.out.2; have := y2.out.2; simp only [List.length_append, List.length_nil]; omega)).mono ?_
          rintro e Qew ⟨rfl, q⟩
          have Qe := hid q
          clear q
          go_wp2_with fail
          with_reducible refine (R0.out _).mono ?_
          rintro e wr ⟨rfl, br⟩
          have Qr := hid (Qe.out.on br)
          clear br
          go_wp2_with fail
          with_reducible refine (WT.out _ _ _ [] Qr.out Wh.By.nil (by have := N2.out; have := N3.out; have := y1.out.2; have := y2.out.2; simp only [List.length_append, List.length_nil]; omega)).mono ?_
          rintro e Qfw ⟨rfl, q⟩
          have Qf := hid q
          clear q Qr wr
          go_wp2_with fail
          have QF : Hid (PS w bb (Wh.padT F W z h b) Qfw) := by
            have q := Qf.out
            simp only [List.nil_append, List.append_nil] at q
            rw [EQ.out]; exact q
          with_reducible refine (WS.out _ _ _ QF.out BY.out).mono ?_
          rintro e wz ⟨rfl, bz⟩
          have BZ := hid (G.out _ bz)
          clear bz QF Qf
          go_wp2_with fail
          go_ret2
          exact BZ.out
  · have hE : Wh.padE F W P h b = Wh.chk F W P := by rw [Wh.padE, if_neg hc]
    have G : Hid (∀ w', Below w.heap.size w w' → PadTold F W P z h b w (.returned (.tuple #[.string ⟨#[]⟩, .int .i64 (Wh.chk F W P)])) w') := fun w' k => ⟨by rw [Wh.pad, hE, if_neg hc]; rfl, k⟩
    have hne : (Wh.chk F W P == 0) = false := by simpa using hc
    clear hh hb lh lb hc hE
    generalize Wh.chk F W P = E at *
    go_enter Tryz.func112, Tryz.ntmps112
    go_wp2_with fail
    refine (CK.out _).mono ?_
    rintro e w1 ⟨rfl, b1⟩
    have B1 := hid (below_on B0.out b1)
    clear b1 CK
    go_wp2_with fail
    go_ret2
    exact G.out _ B1.out
end Go.Proofs.YtigmhnlcmhpepaaGreatDoor
