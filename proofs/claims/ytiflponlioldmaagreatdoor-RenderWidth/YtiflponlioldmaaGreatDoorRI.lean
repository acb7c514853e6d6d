/-
  Texts put together: PoLay, JPad, JSigned, PoA, PoB, PoC, PoD, PoPadN, PoE.
-/
import Derived.Test.YtiflponlioldmaaGreatDoorRB
import Derived.Shelf.Strings.OnBuilder
import Derived.Test.YtiflponlioldmaaGreatDoorRC
import Derived.Laws.Concat
import Derived.Test.YtiflponlioldmaaGreatDoorRD
namespace Go.Proofs.YtiflponlioldmaaGreatDoor
open Go Go.RowKit Go.Deep Go.Shelf

set_option maxRecDepth 100000 in
theorem upLays : Go.Proofs.Lays.n158 Tryz.prog jren where
  mixed := by kernel_rfl
  f118 := Tryz.func264.trans (congrArg some (by kernel_rfl))
  f158 := Tryz.func206.trans (congrArg some (by kernel_rfl))
  f165 := Tryz.func146.trans (congrArg some (by kernel_rfl))
  f166 := Tryz.func48.trans (congrArg some (by kernel_rfl))
  f167 := Tryz.func236.trans (congrArg some (by kernel_rfl))
  f168 := Tryz.func265.trans (congrArg some (by kernel_rfl))
  f169 := Tryz.func42.trans (congrArg some (by kernel_rfl))
  f197 := Tryz.func263.trans (congrArg some (by kernel_rfl))
  f203 := Tryz.func238.trans (congrArg some (by kernel_rfl))
  f230 := Tryz.func237.trans (congrArg some (by kernel_rfl))
  f240 := Tryz.func93.trans (congrArg some (by kernel_rfl))
  f241 := Tryz.func202.trans (congrArg some (by kernel_rfl))
  f242 := Tryz.func290.trans (congrArg some (by kernel_rfl))
  f260 := Tryz.func289.trans (congrArg some (by kernel_rfl))
  f262 := Tryz.func267.trans (congrArg some (by kernel_rfl))
  f270 := Tryz.func266.trans (congrArg some (by kernel_rfl))
  f274 := Tryz.func305.trans (congrArg some (by kernel_rfl))
  f275 := Tryz.func306.trans (congrArg some (by kernel_rfl))
  f276 := Tryz.func143.trans (congrArg some (by kernel_rfl))
  f277 := Tryz.func232.trans (congrArg some (by kernel_rfl))
  f278 := Tryz.func304.trans (congrArg some (by kernel_rfl))
  f313 := Tryz.func291.trans (congrArg some (by kernel_rfl))
  t0 := by kernel_rfl
  a0 := fun _ => by kernel_rfl
  z0 := fun _ => by kernel_rfl
  v0 := fun _ => by kernel_rfl
  t3 := by kernel_rfl
  a3 := fun _ => by kernel_rfl
  z3 := fun _ => by kernel_rfl
  v3 := fun _ => by kernel_rfl
  t4 := by kernel_rfl
  a4 := fun _ => by kernel_rfl
  z4 := fun _ => by kernel_rfl
  v4 := fun _ => by kernel_rfl
  t5 := by kernel_rfl
  a5 := fun _ => by kernel_rfl
  z5 := fun _ => by kernel_rfl
  v5 := fun _ => by kernel_rfl
  t9 := by kernel_rfl
  a9 := fun _ => by kernel_rfl
  z9 := fun _ => by kernel_rfl
  v9 := fun _ => by kernel_rfl
  t20 := by kernel_rfl
  a20 := fun _ => by kernel_rfl
  z20 := fun _ => by kernel_rfl
  v20 := fun _ => by kernel_rfl
  t21 := by kernel_rfl
  a21 := fun _ => by kernel_rfl
  z21 := fun _ => by kernel_rfl
  v21 := fun _ => by kernel_rfl
  t37 := by kernel_rfl
  a37 := fun _ => by kernel_rfl
  z37 := fun _ => by kernel_rfl
  v37 := fun _ => by kernel_rfl
  t46 := by kernel_rfl
  a46 := fun _ => by kernel_rfl
  z46 := fun _ => by kernel_rfl
  v46 := fun _ => by kernel_rfl
  t51 := by kernel_rfl
  a51 := fun _ => by kernel_rfl
  z51 := fun _ => by kernel_rfl
  v51 := fun _ => by kernel_rfl
  t70 := by kernel_rfl
  a70 := fun _ => by kernel_rfl
  z70 := fun _ => by kernel_rfl
  v70 := fun _ => by kernel_rfl
  t72 := by kernel_rfl
  a72 := fun _ => by kernel_rfl
  z72 := fun _ => by kernel_rfl
  v72 := fun _ => by kernel_rfl
  t75 := by kernel_rfl
  a75 := fun _ => by kernel_rfl
  z75 := fun _ => by kernel_rfl
  v75 := fun _ => by kernel_rfl
  t76 := by kernel_rfl
  a76 := fun _ => by kernel_rfl
  z76 := fun _ => by kernel_rfl
  v76 := fun _ => by kernel_rfl
  t105 := by kernel_rfl
  a105 := fun _ => by kernel_rfl
  z105 := fun _ => by kernel_rfl
  v105 := fun _ => by kernel_rfl
  t107 := by kernel_rfl
  a107 := fun _ => by kernel_rfl
  z107 := fun _ => by kernel_rfl
  v107 := fun _ => by kernel_rfl
  t119 := by kernel_rfl
  a119 := fun _ => by kernel_rfl
  z119 := fun _ => by kernel_rfl
  t127 := by kernel_rfl
  a127 := fun _ => by kernel_rfl
  z127 := fun _ => by kernel_rfl
  v127 := fun _ => by kernel_rfl
  t138 := by kernel_rfl
  a138 := fun _ => by kernel_rfl
  z138 := fun _ => by kernel_rfl
  v138 := fun _ => by kernel_rfl
  t139 := by kernel_rfl
  a139 := fun _ => by kernel_rfl
  z139 := fun _ => by kernel_rfl
  v139 := fun _ => by kernel_rfl
  t160 := by kernel_rfl
  a160 := fun _ => by kernel_rfl
  z160 := fun _ => by kernel_rfl
  v160 := fun _ => by kernel_rfl
  t162 := by kernel_rfl
  a162 := fun _ => by kernel_rfl
  z162 := fun _ => by kernel_rfl
  v162 := fun _ => by kernel_rfl
  t164 := by kernel_rfl
  a164 := fun _ => by kernel_rfl
  z164 := fun _ => by kernel_rfl
  v164 := fun _ => by kernel_rfl
  t203 := by kernel_rfl
  a203 := fun _ => by kernel_rfl
  z203 := fun _ => by kernel_rfl
  v203 := fun _ => by kernel_rfl
  t206 := by kernel_rfl
  a206 := fun _ => by kernel_rfl
  z206 := fun _ => by kernel_rfl
  v206 := fun _ => by kernel_rfl
  t208 := by kernel_rfl
  a208 := fun _ => by kernel_rfl
  z208 := fun _ => by kernel_rfl
  v208 := fun _ => by kernel_rfl
  g3 := by kernel_rfl
  g4 := by kernel_rfl
  g13 := by kernel_rfl
end Go.Proofs.YtiflponlioldmaaGreatDoor

namespace Go.Proofs.YtiflponlioldmaaGreatDoor
open Go Go.RowKit Go.Deep Go.Shelf

def PadTold (F W P : Int) (z : Bool) (h b : List Int) (w : World) (e : Ending) (w' : World) : Prop := e = .returned (.tuple #[.string (strOfNums (Wh.pad F W P z h b)), .int .i64 (Wh.padE F W P h b)]) ∧ Below w.heap.size w w'
theorem PadTold.bel {F W P : Int} {z : Bool} {h b : List Int} {w : World} {e : Ending} {w' : World} (k : PadTold F W P z h b w e w') : Below w.heap.size w w' := k.2

set_option maxRecDepth 100000 in
set_option maxHeartbeats 4000000 in
theorem pad_any (V F W P : Int) (h b : List Int) (z : Bool) (w : World) (hh : Wh.By h) (hb : Wh.By b) (lh : h.length ≤ 140737488355328) (lb : b.length ≤ 140737488355328) :
    Calls Tryz.prog 94 #[.agg #[.int .u8 V, .int .i64 F, .int .i64 W, .int .i64 P], .string (strOfNums h), .string (strOfNums b), .bool z] w fun e w' => PadTold F W P z h b w e w' := by
  have B0 := hid (alloc_b w (.cells #[.int .u8 V, .int .i64 F, .int .i64 W, .int .i64 P] 25))
  have CK := hid (fun W' => check_any V F W P W')
  by_cases hc : Wh.chk F W P = 0
  · obtain ⟨⟨f0, f1⟩, ⟨wl, wu⟩, ⟨p0, p1⟩⟩ := Wh.chk_ok hc
    rw [hc] at CK
    have sh : (strOfNums h).size = h.length := strOfNums_size h
    have sb : (strOfNums b).size = b.length := strOfNums_size b
    have S0 := hid (S4.new w (.int .u8 V) (.int .i64 F) (.int .i64 W) (.int .i64 P))
    by_cases hl : 16777216 < h.length + b.length
    · have hE : Wh.padE F W P h b = 3 := by rw [Wh.padE, if_pos hc, if_pos hl]
      have G : Hid (∀ w', Below w.heap.size w w' → PadTold F W P z h b w (.returned (.tuple #[.string ⟨#[]⟩, .int .i64 3])) w') := fun w' k => ⟨by rw [Wh.pad, hE, if_neg (by decide)]; rfl, k⟩
      have l1 : (16777216 : Int) - (h.length : Int) < (b.length : Int) := by omega
      have l2 : (h.length : Int) ≤ 140737488355328 := by omega
      have l3 : (b.length : Int) ≤ 140737488355328 := by omega
      clear hh hb lh lb hc hl hE f0 f1 wl wu p0 p1 S0
      go_enter Tryz.func94, Tryz.ntmps94
      go_wp2_with fail
      refine (CK.out _).mono ?_
      rintro e w1 ⟨rfl, b1⟩
      have B1 := hid (below_on B0.out b1)
      clear b1 CK
      go_wp2_with fail
      go_ret2
      exact G.out _ B1.out
    · have hE : Wh.padE F W P h b = 0 := by rw [Wh.padE, if_pos hc, if_neg hl]
      have hP : Wh.pad F W P z h b = Wh.padT F W z h b := by rw [Wh.pad, hE, if_pos rfl]
      have BY := hid (Wh.padT_by (F := F) (W := W) (z := z) hh hb)
      have PL := hid (Wh.padT_len F W z h b)
      have l1 : ¬ (16777216 : Int) - (h.length : Int) < (b.length : Int) := by omega
      have l2 : (h.length : Int) ≤ 16777216 := by omega
      have l3 : (b.length : Int) ≤ 16777216 := by omega
      have n2 : h.length ≤ 16777216 := by omega
      have n3 : b.length ≤ 16777216 := by omega
      obtain ⟨M, hM⟩ : ∃ M : Nat, M = (W - h.length - b.length).toNat := ⟨_, rfl⟩
      have M1 : M ≤ 4096 := by omega
      have mx : max 0 (W - (h.length : Int) - (b.length : Int)) = (M : Int) := by rw [hM]; omega
      have rp : ∀ c, Wh.rep c (W - h.length - b.length) = Wh.rep c (M : Int) := by intro c; rw [Wh.rep, Wh.rep, hM]; rfl
      have R0 : Hid (∀ W', Calls Tryz.prog 147 #[.string ⟨#[32]⟩, .int .i64 0] W' fun e w' => e = .returned (.string (strOfNums [])) ∧ Below W'.heap.size W' w') := fun W' => jrep32 0 W' (by omega)
      have R1 := hid (fun W' => jrep32 M W' (by omega))
      have Q0 : Hid (∀ W', Calls Tryz.prog 147 #[.string ⟨#[48]⟩, .int .i64 0] W' fun e w' => e = .returned (.string (strOfNums [])) ∧ Below W'.heap.size W' w') := fun W' => jrep48 0 W' (by omega)
      have Q1 := hid (fun W' => jrep48 M W' (by omega))
      have H1 := hid (fun W' => has_any V F W P 1 W' f0 f1 (by omega))
      have H2 := hid (fun W' => has_any V F W P 16 W' f0 f1 (by omega))
      have GR := hid (fun (w1 : World) (k : Below w.heap.size w w1) => PS.grow (h.length + b.length + M) k (by omega))
      have WT := hid (fun (wk : World) bb zs xs (k : PS w bb zs wk) hx hl => PS.write k xs hx hl)
      have WS := hid (fun (wk : World) bb zs (k : PS w bb zs wk) hx => PS.str k hx)
      have gm : ((h.length + b.length + M : Nat) : Int) = (h.length : Int) + (b.length : Int) + (M : Int) := by omega
      have m0 : (M : Int) ≤ 4096 := by omega
      have y1 : Hid (Wh.By (Wh.rep 32 (M : Int)) ∧ (Wh.rep 32 (M : Int)).length = M) := ⟨Wh.By.rep (by omega), by rw [Wh.rep_len]; omega⟩
      have y2 : Hid (Wh.By (Wh.rep 48 (M : Int)) ∧ (Wh.rep 48 (M : Int)).length = M) := ⟨Wh.By.rep (by omega), by rw [Wh.rep_len]; omega⟩
      have YH := hid hh
      have YB := hid hb
      have N2 := hid n2
      have N3 := hid n3
      have G : Hid (∀ w', Below w.heap.size w w' → PadTold F W P z h b w (.returned (.tuple #[.string (strOfNums (Wh.padT F W z h b)), .int .i64 0])) w') := fun w' k => ⟨by rw [hE, hP], k⟩
      cases hb1 : Wh.bit F 1 with
      | true =>
        have EQ : Hid (Wh.padT F W z h b = h ++ b ++ Wh.rep 32 (M : Int)) := by rw [Hid]; rw [Wh.padT, if_pos hb1, rp]
        clear hh hb lh lb hc hl hE hP hM rp f0 f1 p0 p1 n2 n3
        go_enter Tryz.func94, Tryz.ntmps94
        go_wp2_with fail
        refine (CK.out _).mono ?_
        rintro e w1 ⟨rfl, b1⟩
        have B1 := hid (below_on B0.out b1)
        obtain ⟨⟨c0, c1, c2, c3⟩, -⟩ := (S0.out.below b1).cells
        have S1 := hid (S0.out.below b1)
        clear b1 CK S0 B0
        go_wp2_with fail
        refine (H1.out _).mono ?_
        rintro e w2 ⟨rfl, b2⟩
        have B2 := hid (below_on B1.out b2)
        obtain ⟨⟨d0, d1, d2, d3⟩, -⟩ := (S1.out.below b2).cells
        have S2 := hid (S1.out.below b2)
        clear b2 c0 c1 c2 c3 B1 S1
        rw [hb1]
        go_wp2_with fail
        have GG := GR.out _ B2.out
        rw [gm] at GG
        with_reducible refine GG.mono ?_
        rintro e wa ⟨rfl, q⟩
        have Qa := hid q
        clear q GG GR
        go_wp2_with fail
        generalize w2.heap.size = bb at *
        with_reducible refine (R0.out _).mono ?_
        rintro e wr ⟨rfl, br⟩
        have Qr := hid (Qa.out.on br)
        clear br
        go_wp2_with fail
        with_reducible refine (WT.out _ _ _ [] Qr.out Wh.By.nil (by have := N2.out; have := N3.out; have := y1.out.2; have := y2.out.2; simp only [List.length_nil]; omega)).mono ?_
        rintro e Qbw ⟨rfl, q⟩
        have Qb := hid q
        clear q Qr wr
        go_wp2_with fail
        with_reducible refine (WT.out _ _ _ h Qb.out YH.out (by have := N2.out; have := N3.out; have := y1.out.2; have := y2.out.2; simp only [List.length_append, List.length_nil]; omega)).mono ?_
        rintro e Qcw ⟨rfl, q⟩
        have Qc := hid q
        clear q
        go_wp2_with fail
        with_reducible refine (Q0.out _).mono ?_
        rintro e wr ⟨rfl, br⟩
        have Qr := hid (Qc.out.on br)
        clear br
        go_wp2_with fail
        with_reducible refine (WT.out _ _ _ [] Qr.out Wh.By.nil (by have := N2.out; have := N3.out; have := y1.out.2; have := y2.out.2; simp only [List.length_append, List.length_nil]; omega)).mono ?_
        rintro e Qdw ⟨rfl, q⟩
        have Qd := hid q
        clear q Qr wr
        go_wp2_with fail
        with_reducible refine (WT.out _ _ _ b Qd.out YB.out (by have := N2.out; have := N3.out; have := y1.out.2; have := y2.out.2; simp only [List.length_append, List.length_nil]; omega)).mono ?_
        rintro e Qew ⟨rfl, q⟩
        have Qe := hid q
        clear q
        go_wp2_with fail
        with_reducible refine (R1.out _).mono ?_
        rintro e wr ⟨rfl, br⟩
        have Qr := hid (Qe.out.on br)
        clear br
        go_wp2_with fail
        with_reducible refine (WT.out _ _ _ (Wh.rep 32 (M : Int)) Qr.out y1.out.1 (by have := N2.out; have := N3.out; have := y1.out.2; have := y2.out.2; simp only [List.length_append, List.length_nil]; omega)).mono ?_
        rintro e Qfw ⟨rfl, q⟩
        have Qf := hid q
        clear q Qr wr
        go_wp2_with fail
        have QF : Hid (PS w bb (Wh.padT F W z h b) Qfw) := by
          have q := Qf.out
          simp only [List.nil_append, List.append_nil] at q
          rw [EQ.out]; exact q
        with_reducible refine (WS.out _ _ _ QF.out BY.out).mono ?_
        rintro e wz ⟨rfl, bz⟩
        have BZ := hid (G.out _ bz)
        clear bz QF Qf
        go_wp2_with fail
        go_ret2
        exact BZ.out
      | false =>
        cases hb2 : Wh.bit F 16 with
        | true =>
          cases z with
          | true =>
            have EQ : Hid (Wh.padT F W true h b = h ++ Wh.rep 48 (M : Int) ++ b) := by rw [Hid]; rw [Wh.padT, hb1, if_neg Bool.false_ne_true, if_pos ⟨hb2, rfl⟩, rp]
            clear hh hb lh lb hc hl hE hP hM rp f0 f1 p0 p1 n2 n3
            go_enter Tryz.func94, Tryz.ntmps94
            go_wp2_with fail
            refine (CK.out _).mono ?_
            rintro e w1 ⟨rfl, b1⟩
            have B1 := hid (below_on B0.out b1)
            obtain ⟨⟨c0, c1, c2, c3⟩, -⟩ := (S0.out.below b1).cells
            have S1 := hid (S0.out.below b1)
            clear b1 CK S0 B0
            go_wp2_with fail
            refine (H1.out _).mono ?_
            rintro e w2 ⟨rfl, b2⟩
            have B2 := hid (below_on B1.out b2)
            obtain ⟨⟨d0, d1, d2, d3⟩, -⟩ := (S1.out.below b2).cells
            have S2 := hid (S1.out.below b2)
            clear b2 c0 c1 c2 c3 B1 S1
            rw [hb1]
            go_wp2_with fail
            refine (H2.out _).mono ?_
            rintro e w3 ⟨rfl, b3⟩
            have B3 := hid (below_on B2.out b3)
            obtain ⟨⟨c0, c1, c2, c3⟩, -⟩ := (S2.out.below b3).cells
            clear b3 d0 d1 d2 d3 B2 S2
            rw [hb2]
            go_wp2_with fail
            have GG := GR.out _ B3.out
            rw [gm] at GG
            with_reducible refine GG.mono ?_
            rintro e wa ⟨rfl, q⟩
            have Qa := hid q
            clear q GG GR
            go_wp2_with fail
            generalize w3.heap.size = bb at *
            with_reducible refine (R0.out _).mono ?_
            rintro e wr ⟨rfl, br⟩
            have Qr := hid (Qa.out.on br)
            clear br
            go_wp2_with fail
            with_reducible refine (WT.out _ _ _ [] Qr.out Wh.By.nil (by have := N2.out; have := N3.out; have := y1.out.2; have := y2.out.2; simp only [List.length_nil]; omega)).mono ?_
            rintro e Qbw ⟨rfl, q⟩
            have Qb := hid q
            clear q Qr wr
            go_wp2_with fail
            with_reducible refine (WT.out _ _ _ h Qb.out YH.out (by have := N2.out; have := N3.out; have := y1.out.2; have := y2.out.2; simp only [List.length_append, List.length_nil]; omega)).mono ?_
            rintro e Qcw ⟨rfl, q⟩
            have Qc := hid q
            clear q
            go_wp2_with fail
            with_reducible refine (Q1.out _).mono ?_
            rintro e wr ⟨rfl, br⟩
            have Qr := hid (Qc.out.on br)
            clear br
            go_wp2_with fail
            with_reducible refine (WT.out _ _ _ (Wh.rep 48 (M : Int)) Qr.out y2.out.1 (by have := N2.out; have := N3.out; have := y1.out.2; have := y2.out.2; simp only [List.length_append, List.length_nil]; omega)).mono ?_
            rintro e Qdw ⟨rfl, q⟩
            have Qd := hid q
            clear q Qr wr
            go_wp2_with fail
            with_reducible refine (WT.out _ _ _ b Qd.out YB.out (by have := N2.out; have := N3.out; have := y1.out.2; have := y2.out.2; simp only [List.length_append, List.length_nil]; omega)).mono ?_
            rintro e Qew ⟨rfl, q⟩
            have Qe := hid q
            clear q
            go_wp2_with fail
            with_reducible refine (R0.out _).mono ?_
            rintro e wr ⟨rfl, br⟩
            have Qr := hid (Qe.out.on br)
            clear br
            go_wp2_with fail
            with_reducible refine (WT.out _ _ _ [] Qr.out Wh.By.nil (by have := N2.out; have := N3.out; have := y1.out.2; have := y2.out.2; simp only [List.length_append, List.length_nil]; omega)).mono ?_
            rintro e Qfw ⟨rfl, q⟩
            have Qf := hid q
            clear q Qr wr
            go_wp2_with fail
            have QF : Hid (PS w bb (Wh.padT F W true h b) Qfw) := by
              have q := Qf.out
              simp only [List.nil_append, List.append_nil] at q
              rw [EQ.out]; exact q
            with_reducible refine (WS.out _ _ _ QF.out BY.out).mono ?_
            rintro e wz ⟨rfl, bz⟩
            have BZ := hid (G.out _ bz)
            clear bz QF Qf
            go_wp2_with fail
            go_ret2
            exact BZ.out
          | false =>
            have EQ : Hid (Wh.padT F W false h b = Wh.rep 32 (M : Int) ++ h ++ b) := by rw [Hid]; rw [Wh.padT, hb1, if_neg Bool.false_ne_true, if_neg (fun q => Bool.false_ne_true q.2), rp]
            clear hh hb lh lb hc hl hE hP hM rp f0 f1 p0 p1 n2 n3
            go_enter Tryz.func94, Tryz.ntmps94
            go_wp2_with fail
            refine (CK.out _).mono ?_
            rintro e w1 ⟨rfl, b1⟩
            have B1 := hid (below_on B0.out b1)
            obtain ⟨⟨c0, c1, c2, c3⟩, -⟩ := (S0.out.below b1).cells
            have S1 := hid (S0.out.below b1)
            clear b1 CK S0 B0
            go_wp2_with fail
            refine (H1.out _).mono ?_
            rintro e w2 ⟨rfl, b2⟩
            have B2 := hid (below_on B1.out b2)
            obtain ⟨⟨d0, d1, d2, d3⟩, -⟩ := (S1.out.below b2).cells
            have S2 := hid (S1.out.below b2)
            clear b2 c0 c1 c2 c3 B1 S1
            rw [hb1]
            go_wp2_with fail
            refine (H2.out _).mono ?_
            rintro e w3 ⟨rfl, b3⟩
            have B3 := hid (below_on B2.out b3)
            obtain ⟨⟨c0, c1, c2, c3⟩, -⟩ := (S2.out.below b3).cells
            clear b3 d0 d1 d2 d3 B2 S2
            rw [hb2]
            go_wp2_with fail
            have GG := GR.out _ B3.out
            rw [gm] at GG
            with_reducible refine GG.mono ?_
            rintro e wa ⟨rfl, q⟩
            have Qa := hid q
            clear q GG GR
            go_wp2_with fail
            generalize w3.heap.size = bb at *
            with_reducible refine (R1.out _).mono ?_
            rintro e wr ⟨rfl, br⟩
            have Qr := hid (Qa.out.on br)
            clear br
            go_wp2_with fail
            with_reducible refine (WT.out _ _ _ (Wh.rep 32 (M : Int)) Qr.out y1.out.1 (by have := N2.out; have := N3.out; have := y1.out.2; have := y2.out.2; simp only [List.length_nil]; omega)).mono ?_
            rintro e Qbw ⟨rfl, q⟩
            have Qb := hid q
            clear q Qr wr
            go_wp2_with fail
            with_reducible refine (WT.out _ _ _ h Qb.out YH.out (by have := N2.out; have := N3.out; have := y1.out.2; have := y2.out.2; simp only [List.length_append, List.length_nil]; omega)).mono ?_
            rintro e Qcw ⟨rfl, q⟩
            have Qc := hid q
            clear q
            go_wp2_with fail
            with_reducible refine (Q0.out _).mono ?_
            rintro e wr ⟨rfl, br⟩
            have Qr := hid (Qc.out.on br)
            clear br
            go_wp2_with fail
            with_reducible refine (WT.out _ _ _ [] Qr.out Wh.By.nil (by have := N2.out; have := N3.out; have := y1.out.2; have := y2.out.2; simp only [List.length_append, List.length_nil]; omega)).mono ?_
            rintro e Qdw ⟨rfl, q⟩
            have Qd := hid q
            clear q Qr wr
            go_wp2_with fail
            with_reducible refine (WT.out _ _ _ b Qd.out YB.out (by have := N2.out; have := N3.out; have := y1.out.2; have := y2.out.2; simp only [List.length_append, List.length_nil]; omega)).mono ?_
            rintro e Qew ⟨rfl, q⟩
            have Qe := hid q
            clear q
            go_wp2_with fail
            with_reducible refine (R0.out _).mono ?_
            rintro e wr ⟨rfl, br⟩
            have Qr := hid (Qe.out.on br)
            clear br
            go_wp2_with fail
            with_reducible refine (WT.out _ _ _ [] Qr.out Wh.By.nil (by have := N2.out; have := N3.out; have := y1.out.2; have := y2.out.2; simp only [List.length_append, List.length_nil]; omega)).mono ?_
            rintro e Qfw ⟨rfl, q⟩
            have Qf := hid q
            clear q Qr wr
            go_wp2_with fail
            have QF : Hid (PS w bb (Wh.padT F W false h b) Qfw) := by
              have q := Qf.out
              simp only [List.nil_append, List.append_nil] at q
              rw [EQ.out]; exact q
            with_reducible refine (WS.out _ _ _ QF.out BY.out).mono ?_
            rintro e wz ⟨rfl, bz⟩
            have BZ := hid (G.out _ bz)
            clear bz QF Qf
            go_wp2_with fail
            go_ret2
            exact BZ.out
        | false =>
          have EQ : Hid (Wh.padT F W z h b = Wh.rep 32 (M : Int) ++ h ++ b) := by rw [Hid]; rw [Wh.padT, hb1, if_neg Bool.false_ne_true, hb2, if_neg (fun q => Bool.false_ne_true q.1), rp]
          clear hh hb lh lb hc hl hE hP hM rp f0 f1 p0 p1 n2 n3
          go_enter Tryz.func94, Tryz.ntmps94
          go_wp2_with fail
          refine (CK.out _).mono ?_
          rintro e w1 ⟨rfl, b1⟩
          have B1 := hid (below_on B0.out b1)
          obtain ⟨⟨c0, c1, c2, c3⟩, -⟩ := (S0.out.below b1).cells
          have S1 := hid (S0.out.below b1)
          clear b1 CK S0 B0
          go_wp2_with fail
          refine (H1.out _).mono ?_
          rintro e w2 ⟨rfl, b2⟩
          have B2 := hid (below_on B1.out b2)
          obtain ⟨⟨d0, d1, d2, d3⟩, -⟩ := (S1.out.below b2).cells
          have S2 := hid (S1.out.below b2)
          clear b2 c0 c1 c2 c3 B1 S1
          rw [hb1]
          go_wp2_with fail
          refine (H2.out _).mono ?_
          rintro e w3 ⟨rfl, b3⟩
          have B3 := hid (below_on B2.out b3)
          obtain ⟨⟨c0, c1, c2, c3⟩, -⟩ := (S2.out.below b3).cells
          clear b3 d0 d1 d2 d3 B2 S2
          rw [hb2]
          go_wp2_with fail
          have GG := GR.out _ B3.out
          rw [gm] at GG
          with_reducible refine GG.mono ?_
          rintro e wa ⟨rfl, q⟩
          have Qa := hid q
          clear q GG GR
          go_wp2_with fail
          generalize w3.heap.size = bb at *
          with_reducible refine (R1.out _).mono ?_
          rintro e wr ⟨rfl, br⟩
          have Qr := hid (Qa.out.on br)
          clear br
          go_wp2_with fail
          with_reducible refine (WT.out _ _ _ (Wh.rep 32 (M : Int)) Qr.out y1.out.1 (by have := N2.out; have := N3.out; have := y1.out.2; have := y2.out.2; simp only [List.length_nil]; omega)).mono ?_
          rintro e Qbw ⟨rfl, q⟩
          have Qb := hid q
          clear q Qr wr
          go_wp2_with fail
          with_reducible refine (WT.out _ _ _ h Qb.out YH.out (by have := N2.out; have := N3.out; have := y1.out.2; have := y2.out.2; simp only [List.length_append, List.length_nil]; omega)).mono ?_
          rintro e Qcw ⟨rfl, q⟩
          have Qc := hid q
          clear q
          go_wp2_with fail
          with_reducible refine (Q0.out _).mono ?_
          rintro e wr ⟨rfl, br⟩
          have Qr := hid (Qc.out.on br)
          clear br
          go_wp2_with fail
          with_reducible refine (WT.out _ _ _ [] Qr.out Wh.By.nil (by have := N2.out; have := N3.out; have := y1.out.2; have := y2.out.2; simp only [List.length_append, List.length_nil]; omega)).mono ?_
          rintro e Qdw ⟨rfl, q⟩
          have Qd := hid q
          clear q Qr wr
          go_wp2_with fail
          with_reducible refine (WT.out _ _ _ b Qd.out YB.out (by have := N2.out; have := N3.out; have := y1.out.2; have := y2.out.2; simp only [List.length_append, List.length_nil]; omega)).mono ?_
          rintro e Qew ⟨rfl, q⟩
          have Qe := hid q
          clear q
          go_wp2_with fail
          with_reducible refine (R0.out _).mono ?_
          rintro e wr ⟨rfl, br⟩
          have Qr := hid (Qe.out.on br)
          clear br
          go_wp2_with fail
          with_reducible refine (WT.out _ _ _ [] Qr.out Wh.By.nil (by have := N2.out; have := N3.out; have := y1.out.2; have := y2.out.2; simp only [List.length_append, List.length_nil]; omega)).mono ?_
          rintro e Qfw ⟨rfl, q⟩
          have Qf := hid q
          clear q Qr wr
          go_wp2_with fail
          have QF : Hid (PS w bb (Wh.padT F W z h b) Qfw) := by
            have q := Qf.out
            simp only [List.nil_append, List.append_nil] at q
            rw [EQ.out]; exact q
          with_reducible refine (WS.out _ _ _ QF.out BY.out).mono ?_
          rintro e wz ⟨rfl, bz⟩
          have BZ := hid (G.out _ bz)
          clear bz QF Qf
          go_wp2_with fail
          go_ret2
          exact BZ.out
  · have hE : Wh.padE F W P h b = Wh.chk F W P := by rw [Wh.padE, if_neg hc]
    have G : Hid (∀ w', Below w.heap.size w w' → PadTold F W P z h b w (.returned (.tuple #[.string ⟨#[]⟩, .int .i64 (Wh.chk F W P)])) w') := fun w' k => ⟨by rw [Wh.pad, hE, if_neg hc]; rfl, k⟩
    have hne : (Wh.chk F W P == 0) = false := by simpa using hc
    clear hh hb lh lb hc hE
    generalize Wh.chk F W P = E at *
    go_enter Tryz.func94, Tryz.ntmps94
    go_wp2_with fail
    refine (CK.out _).mono ?_
    rintro e w1 ⟨rfl, b1⟩
    have B1 := hid (below_on B0.out b1)
    clear b1 CK
    go_wp2_with fail
    go_ret2
    exact G.out _ B1.out
end Go.Proofs.YtiflponlioldmaaGreatDoor

namespace Go.Proofs.YtiflponlioldmaaGreatDoor
open Go Go.RowKit Go.Deep Go.Shelf

theorem str_app {a b : List Int} (ha : Wh.By a) (hb : Wh.By b) : strOfNums a ++ strOfNums b = strOfNums (a ++ b) := by
  have k : Str (strOfNums a ++ strOfNums b) (a ++ b) := by
    have h1 := Str.of_nums ha
    have h2 := Str.of_nums hb
    unfold Str at *
    conv => rhs; rw [← h1, ← h2, ← List.map_append]
    simp
  exact str_is k

theorem ret_se {a b : ByteArray} {x y : Int} (h : a = b) (k : x = y) : Ending.returned (.tuple #[.string a, .int .i64 x]) = .returned (.tuple #[.string b, .int .i64 y]) := by rw [h, k]
set_option maxRecDepth 100000 in
theorem filled_any (V F W P : Int) (d : List Int) (w : World) (p0 : -1 ≤ P) (p1 : P ≤ 4096) (hd : Wh.By d) (hl : d.length ≤ 262144) :
    Calls Tryz.prog 153 #[.agg #[.int .u8 V, .int .i64 F, .int .i64 W, .int .i64 P], .string (strOfNums d)] w fun e w' => e = .returned (.string (strOfNums (Wh.fil P d))) ∧ Below w.heap.size w w' := by
  have B0 := hid (SB.new w V F W P)
  have sd : (strOfNums d).size = d.length := strOfNums_size d
  have l2 : (d.length : Int) ≤ 262144 := by omega
  obtain ⟨M, hM⟩ : ∃ M : Nat, M = ((if P = -1 then 1 else P) - (d.length : Int)).toNat := ⟨_, rfl⟩
  have M1 : M ≤ 4096 := by rw [hM]; split <;> omega
  have m0 : (M : Int) ≤ 4096 := by omega
  have RE := hid (fun W' => jrep48 M W' (by omega))
  have sr : (strOfNums (Wh.rep 48 (M : Int))).size = M := by rw [strOfNums_size, Wh.rep_len]; omega
  have G : Hid (strOfNums (Wh.rep 48 (M : Int)) ++ strOfNums d = strOfNums (Wh.fil P d)) := by
    rw [Hid, str_app (Wh.By.rep (by omega)) hd, Wh.fil]
    have e : Wh.rep 48 (M : Int) = Wh.rep 48 ((if P = -1 then 1 else P) - (d.length : Int)) := by rw [Wh.rep, Wh.rep, hM]; rfl
    rw [e]
  by_cases hP : P = -1
  · have mx : max 0 (1 - (d.length : Int)) = (M : Int) := by rw [hM, if_pos hP]; omega
    subst hP
    clear hd hl hM p0 p1
    obtain ⟨c0, c1, c2, c3⟩ := B0.out.flat
    go_enter Tryz.func153, Tryz.ntmps153
    go_wp2_with fail
    with_reducible refine (RE.out _).mono ?_
    rintro e w1 ⟨rfl, b1⟩
    have B1 := hid (B0.out.on b1).bel
    clear b1 RE
    go_wp2_with fail
    go_ret
    exact ⟨ret_str G.out, B1.out⟩
  · have mx : max 0 (P - (d.length : Int)) = (M : Int) := by rw [hM, if_neg hP]; omega
    have hne : (P == -1) = false := by simpa using hP
    clear hd hl hM hP
    obtain ⟨c0, c1, c2, c3⟩ := B0.out.flat
    go_enter Tryz.func153, Tryz.ntmps153
    go_wp2_with fail
    with_reducible refine (RE.out _).mono ?_
    rintro e w1 ⟨rfl, b1⟩
    have B1 := hid (B0.out.on b1).bel
    clear b1 RE
    go_wp2_with fail
    go_ret
    exact ⟨ret_str G.out, B1.out⟩

set_option maxRecDepth 100000 in
theorem wsign_any (V F W P : Int) (bl : Bool) (w : World) (f0 : 0 ≤ F) (f1 : F ≤ 31) :
    Calls Tryz.prog 152 #[.agg #[.int .u8 V, .int .i64 F, .int .i64 W, .int .i64 P], .bool bl] w fun e w' => e = .returned (.string (strOfNums (Wh.sgn F bl))) ∧ Below w.heap.size w w' := by
  have B0 := hid (SB.new w V F W P)
  have H2 := hid (fun W' => has_any V F W P 2 W' f0 f1 (by omega))
  have H4 := hid (fun W' => has_any V F W P 4 W' f0 f1 (by omega))
  clear f0 f1
  obtain ⟨c0, c1, c2, c3⟩ := B0.out.flat
  cases bl with
  | true =>
    have G : Hid (strOfNums (Wh.sgn F true) = ⟨#[45]⟩) := rfl
    clear H2 H4
    go_enter Tryz.func152, Tryz.ntmps152
    go_wp2_with fail
    go_ret
    exact ⟨ret_str G.out.symm, B0.out.bel⟩
  | false =>
    cases h2 : Wh.bit F 2 with
    | true =>
      have G : Hid (strOfNums (Wh.sgn F false) = ⟨#[43]⟩) := by rw [Hid, Wh.sgn, if_neg Bool.false_ne_true, if_pos h2]; rfl
      rw [h2] at H2
      clear H4
      go_enter Tryz.func152, Tryz.ntmps152
      go_wp2_with fail
      with_reducible refine (H2.out _).mono ?_
      rintro e w1 ⟨rfl, b1⟩
      have B1 := hid (B0.out.on b1).bel
      clear b1 H2
      go_wp2_with fail
      go_ret
      exact ⟨ret_str G.out.symm, B1.out⟩
    | false =>
      rw [h2] at H2
      cases h4 : Wh.bit F 4 with
      | true =>
        have G : Hid (strOfNums (Wh.sgn F false) = ⟨#[32]⟩) := by rw [Hid, Wh.sgn, if_neg Bool.false_ne_true, h2, if_neg Bool.false_ne_true, if_pos h4]; rfl
        rw [h4] at H4
        go_enter Tryz.func152, Tryz.ntmps152
        go_wp2_with fail
        with_reducible refine (H2.out _).mono ?_
        rintro e w1 ⟨rfl, b1⟩
        have B1 := hid (B0.out.on b1)
        clear b1 H2 c0 c1 c2 c3
        obtain ⟨c0, c1, c2, c3⟩ := B1.out.flat
        go_wp2_with fail
        with_reducible refine (H4.out _).mono ?_
        rintro e w2 ⟨rfl, b2⟩
        have B2 := hid (B1.out.on b2).bel
        clear b2 H4
        go_wp2_with fail
        go_ret
        exact ⟨ret_str G.out.symm, B2.out⟩
      | false =>
        have G : Hid (strOfNums (Wh.sgn F false) = ⟨#[]⟩) := by rw [Hid, Wh.sgn, if_neg Bool.false_ne_true, h2, if_neg Bool.false_ne_true, h4, if_neg Bool.false_ne_true]; rfl
        rw [h4] at H4
        go_enter Tryz.func152, Tryz.ntmps152
        go_wp2_with fail
        with_reducible refine (H2.out _).mono ?_
        rintro e w1 ⟨rfl, b1⟩
        have B1 := hid (B0.out.on b1)
        clear b1 H2 c0 c1 c2 c3
        obtain ⟨c0, c1, c2, c3⟩ := B1.out.flat
        go_wp2_with fail
        with_reducible refine (H4.out _).mono ?_
        rintro e w2 ⟨rfl, b2⟩
        have B2 := hid (B1.out.on b2).bel
        clear b2 H4
        go_wp2_with fail
        go_ret
        exact ⟨ret_str G.out.symm, B2.out⟩

set_option maxRecDepth 100000 in
theorem digitsOf_any (p : Option Addr) (n cap : Nat) (za : List Int) (B : Int) (up : Bool) (w : World) (ha : Arg w p n cap za) (hB : 2 ≤ B) (h36 : B ≤ 36) :
    Calls Tryz.prog 151 #[.slice p n cap, .int .i64 B, .bool up] w fun e w' => e = .returned (.tuple #[.string (strOfNums (if 4096 < Nm.tsize za then [] else Wh.dig B up (Nm.val za))), .int .i64 (if 4096 < Nm.tsize za then 2 else 0)]) ∧ Below w.heap.size w w' := by
  obtain ⟨L, hL, hbig, hzero⟩ := blen_big ha.2.2.2.2
  have BL := hid (bitLen_isT L p n cap za w ha hL)
  have hv := (Nm.tsize_zero_iff ha.2.2.2.2)
  by_cases h0 : Nm.tsize za = 0
  · have hL0 : (L : Int) = 0 := hzero.2 h0
    obtain rfl : L = 0 := by omega
    have G : Hid (strOfNums (Wh.dig B up (Nm.val za)) = ⟨#[]⟩) := by rw [Hid, Wh.dig, if_pos (hv.1 h0)]; rfl
    rw [if_neg (by omega), if_neg (by omega)]
    clear ha hL hbig hzero hv h0
    go_enter Tryz.func151, Tryz.ntmps151
    go_wp2_with fail
    with_reducible refine BL.out.mono ?_
    rintro e w' ⟨rfl, hw⟩
    rw [hw]
    clear hw w'
    go_wp2_with fail
    go_ret2
    exact ⟨ret_se G.out.symm rfl, Below.refl _ _⟩
  · have hL0 : ((L : Int) == 0) = false := by rw [beq_eq_false_iff_ne]; intro c; exact h0 (hzero.1 c)
    have hLi : (L : Int) ≠ 0 := by simpa using hL0
    have v0 : 0 < Nm.val za := by have := (Nm.val_bd za ha.2.2.2.2).1; omega
    have IB := hid (inBase_any p n cap za B up w ha (by omega) (by omega))
    have G : Hid (∀ s xs E, Str s xs → InIs za B up xs E → s = strOfNums (if 4096 < Nm.tsize za then [] else Wh.dig B up (Nm.val za)) ∧ E = if 4096 < Nm.tsize za then 2 else 0) := by
      intro s xs E hs hi
      by_cases hb : 4096 < Nm.tsize za
      · rw [if_pos hb, if_pos hb]
        cases hi with
        | big _ => exact ⟨str_is hs, rfl⟩
        | base q _ => omega
        | zero q _ _ => omega
        | ok _ _ q _ _ _ => omega
      · rw [if_neg hb, if_neg hb]
        obtain ⟨e1, e2⟩ := Wh.dig_is ha.2.2.2.2 v0 (by omega) hB h36 hi
        exact ⟨by rw [← e1]; exact str_is hs, e2⟩
    generalize (if 4096 < Nm.tsize za then [] else Wh.dig B up (Nm.val za)) = D at *
    generalize (if 4096 < Nm.tsize za then (2 : Int) else 0) = EE at *
    clear ha hL hbig hzero hv h0 v0
    go_enter Tryz.func151, Tryz.ntmps151
    go_wp2_with fail
    with_reducible refine BL.out.mono ?_
    rintro e w' ⟨rfl, hw⟩
    rw [hw]
    clear hw w'
    go_wp2_with fail
    with_reducible refine IB.out.mono ?_
    rintro e w1 ⟨s, xs, E, rfl, hs, hi, b1⟩
    obtain ⟨e1, e2⟩ := G.out s xs E hs hi
    have B1 := hid b1
    have E1 := hid e1
    have E2 := hid e2
    clear hs hi b1 e1 e2
    go_wp2_with fail
    go_ret2
    exact ⟨ret_se E1.out E2.out, B1.out⟩

def SigTold (V F W P : Int) (neg : Bool) (zs : List Int) (w : World) (e : Ending) (w' : World) : Prop := e = .returned (.tuple #[.string (strOfNums (Wh.sig V F W P neg zs)), .int .i64 (Wh.sigE V F W P (Nm.tsize zs))]) ∧ Below w.heap.size w w'

theorem isEmpty_nums (d : List Int) : (strOfNums d).toList.isEmpty = d.isEmpty := by
  rw [ByteArray.toList_eq, strOfNums_data]
  cases d <;> rfl

/-- The sign's answer where there is no number below nothing. -/
def below (neg : Bool) (v : Int) : Bool := neg && decide (v ≠ 0)

theorem dig_nil (B : Int) (up : Bool) (zs : List Int) (hz : Nm.Limbs zs) (h1 : Nm.tsize zs ≤ 4096) (hB : 2 ≤ B) (h36 : B ≤ 36) : (Wh.dig B up (Nm.val zs)).isEmpty = decide (Nm.val zs = 0) ∧ (Wh.dig B up (Nm.val zs)).length ≤ 262144 := by
  have v := (Nm.val_bd zs hz).1
  by_cases h : Nm.val zs = 0
  · rw [Wh.dig, if_pos h, decide_eq_true h]; exact ⟨rfl, by simp⟩
  · have g := Wh.dig_good (up := up) hz (by omega) h1 hB h36
    refine ⟨?_, g.len⟩
    rw [decide_eq_false h]
    cases e : Wh.dig B up (Nm.val zs) with
    | nil => exact absurd e g.ne
    | cons _ _ => rfl

theorem toList_nums (d : List Int) : ((strOfNums d).toList == []) = d.isEmpty := by
  rw [ByteArray.toList_eq, strOfNums_data]
  cases d <;> rfl
set_option maxRecDepth 100000 in
set_option maxHeartbeats 2000000 in
theorem wsigned_any (V F W P : Int) (neg : Bool) (p : Option Addr) (n cap : Nat) (zs : List Int) (w : World) (h0 : 0 ≤ V) (h1 : V < 256) (ha : Arg w p n cap zs) :
    Calls Tryz.prog 100 #[.agg #[.int .u8 V, .int .i64 F, .int .i64 W, .int .i64 P], .bool neg, .slice p n cap] w fun e w' => SigTold V F W P neg zs w e w' := by
  have B0 := hid (SB.new w V F W P)
  have CV := hid (fun W' => checkVerb_any V F W P ⟨#[100, 105]⟩ _ W' (vb_di V h0 h1))
  by_cases hV : V = 100 ∨ V = 105
  · rw [if_pos (decide_eq_true hV)] at CV
    by_cases hc : Wh.chk F W P = 0
    · obtain ⟨⟨f0, f1⟩, ⟨wl, wu⟩, ⟨p0, p1⟩⟩ := Wh.chk_ok hc
      rw [hc] at CV
      have DG := hid (fun W' (k : Below w.heap.size w W') => digitsOf_any p n cap zs 10 false W' (ha.below k (Nat.le_refl _)) (by omega) (by omega))
      have hE : Wh.sigE V F W P (Nm.tsize zs) = if 4096 < Nm.tsize zs then 2 else 0 := by rw [Wh.sigE, if_pos hV, if_pos hc]
      by_cases hb : 4096 < Nm.tsize zs
      · rw [if_pos hb] at hE
        rw [if_pos hb, if_pos hb] at DG
        have G : Hid (∀ w', Below w.heap.size w w' → SigTold V F W P neg zs w (.returned (.tuple #[.string ⟨#[]⟩, .int .i64 2])) w') := fun w' k => ⟨by rw [Wh.sig, hE, if_neg (by decide)]; rfl, k⟩
        clear ha hV hc hE hb f0 f1 wl wu p0 p1
        go_enter Tryz.func100, Tryz.ntmps100
        go_wp2_with fail
        with_reducible refine (CV.out _).mono ?_
        rintro e w1 ⟨rfl, b1⟩
        have B1 := hid (B0.out.on b1)
        clear b1 CV B0
        go_wp2_with fail
        with_reducible refine (DG.out _ B1.out.bel).mono ?_
        rintro e w2 ⟨rfl, b2⟩
        have R := hid (G.out _ (B1.out.on b2).bel)
        clear b2 DG B1
        go_wp2_with fail
        go_ret2
        exact R.out
      · rw [if_neg hb] at hE
        rw [if_neg hb, if_neg hb] at DG
        obtain ⟨di, dl⟩ := dig_nil 10 false zs ha.2.2.2.2 (by omega) (by omega) (by omega)
        have dy := Wh.dig_by 10 false (Nm.val zs)
        have FI := hid (fun W' => filled_any V F W P (Wh.dig 10 false (Nm.val zs)) W' p0 p1 dy dl)
        have SG := hid (fun W' => wsign_any V F W P (below neg (Nm.val zs)) W' f0 f1)
        have sl := Wh.sgn_len F (below neg (Nm.val zs))
        have fl := Wh.fil_len P (Wh.dig 10 false (Nm.val zs))
        have fl2 : (Wh.fil P (Wh.dig 10 false (Nm.val zs))).length ≤ 270000 := by rw [fl]; split <;> omega
        have PA := hid (fun W' => pad_any V F W P (Wh.sgn F (below neg (Nm.val zs))) (Wh.fil P (Wh.dig 10 false (Nm.val zs))) (decide (P = -1)) W' (Wh.sgn_by _ _) (Wh.fil_by dy) (by omega) (by omega))
        have pe : Wh.padE F W P (Wh.sgn F (below neg (Nm.val zs))) (Wh.fil P (Wh.dig 10 false (Nm.val zs))) = 0 := by rw [Wh.padE, if_pos hc, if_neg (by omega)]
        have G : Hid (∀ W' e w', PadTold F W P (decide (P = -1)) (Wh.sgn F (below neg (Nm.val zs))) (Wh.fil P (Wh.dig 10 false (Nm.val zs))) W' e w' → Below w.heap.size w W' → ∃ s, e = .returned (.tuple #[.string s, .int .i64 0]) ∧ SigTold V F W P neg zs w (.returned (.tuple #[.string s, .int .i64 0])) w') := by
          rintro W' e w' ⟨rfl, k⟩ b
          rw [pe]
          exact ⟨_, rfl, by rw [Wh.sig, hE, if_pos rfl, Wh.pad, if_pos pe]; rfl, below_on b k⟩
        have DI := isEmpty_nums (Wh.dig 10 false (Nm.val zs))
        have DJ := toList_nums (Wh.dig 10 false (Nm.val zs))
        rw [di] at DI DJ
        have NEG : (neg && !decide (Nm.val zs = 0)) = below neg (Nm.val zs) := by unfold below; simp
        have ep : (P == -1) = decide (P = -1) := by by_cases h : P = -1 <;> simp [h]
        clear ha hV hc hE hb f0 f1 wl wu di dl dy sl fl fl2 pe h0 h1
        generalize Wh.dig 10 false (Nm.val zs) = D at *
        generalize Wh.fil P D = FD at *
        generalize decide (Nm.val zs = 0) = z0 at *
        generalize below neg (Nm.val zs) = bl at *
        generalize Wh.sgn F bl = SN at *
        generalize decide (P = -1) = ez at *
        go_enter Tryz.func100, Tryz.ntmps100
        go_wp2_with fail
        with_reducible refine (CV.out _).mono ?_
        rintro e w1 ⟨rfl, b1⟩
        have B1 := hid (B0.out.on b1)
        clear b1 CV B0
        go_wp2_with fail
        with_reducible refine (DG.out _ B1.out.bel).mono ?_
        rintro e w2 ⟨rfl, b2⟩
        have B2 := hid (B1.out.on b2)
        clear b2 DG B1
        obtain ⟨c0, c1, c2, c3⟩ := B2.out.flat
        cases neg with
        | true =>
          have NEG2 : bl = !z0 := by simpa using NEG.symm
          subst NEG2
          clear NEG
          go_wp2_with fail
          with_reducible refine (SG.out _).mono ?_
          rintro e w3 ⟨rfl, b3⟩
          have B3 := hid (B2.out.on b3)
          clear b3 SG B2 c0 c1 c2 c3
          go_upto_region 8 with fail
          have T1 := hid B3.out.drew
          go_region_held3 (fun wx => wx.cell? ⟨w.heap.size, 0, none⟩ = some (.int .u8 V) ∧ wx.cell? ⟨w.heap.size, 1, none⟩ = some (.int .i64 F) ∧ wx.cell? ⟨w.heap.size, 2, none⟩ = some (.int .i64 W) ∧ wx.cell? ⟨w.heap.size, 3, none⟩ = some (.int .i64 P)) (first | (with_reducible exact T3.out.flat) | (with_reducible exact T2.out.flat) | (with_reducible exact T1.out.flat)) (first
            | (go_at_call 153; with_reducible refine (FI.out _).mono ?_; rintro e wa ⟨rfl, hB⟩; have T2 := hid (T1.out.on hB); clear hB)
            | (go_at_call 94; with_reducible refine (PA.out _).mono ?_; rintro e wb hP; have T3 := hid (T2.out.on hP.bel); obtain ⟨s, rfl, R⟩ := G.out _ _ _ hP T2.out.bel; have R := hid R; clear hP))
          go_wp2_with fail
          go_ret2
          exact R.out
        | false =>
          have NEG2 : bl = false := by simpa using NEG.symm
          subst NEG2
          clear NEG
          go_wp2_with fail
          with_reducible refine (SG.out _).mono ?_
          rintro e w3 ⟨rfl, b3⟩
          have B3 := hid (B2.out.on b3)
          clear b3 SG B2 c0 c1 c2 c3
          go_upto_region 8 with fail
          have T1 := hid B3.out.drew
          go_region_held3 (fun wx => wx.cell? ⟨w.heap.size, 0, none⟩ = some (.int .u8 V) ∧ wx.cell? ⟨w.heap.size, 1, none⟩ = some (.int .i64 F) ∧ wx.cell? ⟨w.heap.size, 2, none⟩ = some (.int .i64 W) ∧ wx.cell? ⟨w.heap.size, 3, none⟩ = some (.int .i64 P)) (first | (with_reducible exact T3.out.flat) | (with_reducible exact T2.out.flat) | (with_reducible exact T1.out.flat)) (first
            | (go_at_call 153; with_reducible refine (FI.out _).mono ?_; rintro e wa ⟨rfl, hB⟩; have T2 := hid (T1.out.on hB); clear hB)
            | (go_at_call 94; with_reducible refine (PA.out _).mono ?_; rintro e wb hP; have T3 := hid (T2.out.on hP.bel); obtain ⟨s, rfl, R⟩ := G.out _ _ _ hP T2.out.bel; have R := hid R; clear hP))
          go_wp2_with fail
          go_ret2
          exact R.out
    · have hE : Wh.sigE V F W P (Nm.tsize zs) = Wh.chk F W P := by rw [Wh.sigE, if_pos hV, if_neg hc]
      have G : Hid (∀ w', Below w.heap.size w w' → SigTold V F W P neg zs w (.returned (.tuple #[.string ⟨#[]⟩, .int .i64 (Wh.chk F W P)])) w') := fun w' k => ⟨by rw [Wh.sig, hE, if_neg hc]; rfl, k⟩
      have hne : (Wh.chk F W P == 0) = false := by simpa using hc
      clear hc hE ha hV
      generalize Wh.chk F W P = E at *
      go_enter Tryz.func100, Tryz.ntmps100
      go_wp2_with fail
      refine (CV.out _).mono ?_
      rintro e w1 ⟨rfl, b1⟩
      have R := hid (G.out _ (B0.out.on b1).bel)
      clear b1 CV
      go_wp2_with fail
      go_ret2
      exact R.out
  · rw [if_neg (by simpa using hV)] at CV
    have hE : Wh.sigE V F W P (Nm.tsize zs) = 140 := by rw [Wh.sigE, if_neg hV]
    have G : Hid (∀ w', Below w.heap.size w w' → SigTold V F W P neg zs w (.returned (.tuple #[.string ⟨#[]⟩, .int .i64 140])) w') := fun w' k => ⟨by rw [Wh.sig, hE, if_neg (by decide)]; rfl, k⟩
    clear ha hV hE
    go_enter Tryz.func100, Tryz.ntmps100
    go_wp2_with fail
    refine (CV.out _).mono ?_
    rintro e w1 ⟨rfl, b1⟩
    have R := hid (G.out _ (B0.out.on b1).bel)
    clear b1 CV
    go_wp2_with fail
    go_ret2
    exact R.out
end Go.Proofs.YtiflponlioldmaaGreatDoor

namespace Go.Proofs.YtiflponlioldmaaGreatDoor
open Go Go.RowKit Go.Deep Go.Shelf

/-- A flag, of any number. -/
def Po.hb (F k : Int) : Bool := bits .and .i64 F k != 0
theorem Po.hb_is {F k : Int} (h0 : 0 ≤ F) (h1 : F ≤ 31) (hk : k = 1 ∨ k = 2 ∨ k = 4 ∨ k = 8 ∨ k = 16) : Po.hb F k = Wh.bit F k := by
  unfold Po.hb
  rcases bit_and F k h0 h1 hk with ⟨e, q⟩ | ⟨e, q⟩
  · rw [e, q]; rfl
  · rw [q]; simpa using e
def Po.sx (F : Int) (n : Bool) : List Int := if n = true then [45] else if Po.hb F 2 = true then [43] else if Po.hb F 4 = true then [32] else []
theorem Po.sx_is {F : Int} (n : Bool) (h0 : 0 ≤ F) (h1 : F ≤ 31) : Po.sx F n = Wh.sgn F n := by
  unfold Po.sx Wh.sgn
  rw [Po.hb_is h0 h1 (by omega), Po.hb_is h0 h1 (by omega)]
theorem Po.sx_by (F : Int) (n : Bool) : Wh.By (Po.sx F n) ∧ (Po.sx F n).length ≤ 1 := by
  unfold Po.sx
  split
  · exact ⟨fun x hx => by simp at hx; omega, by simp⟩
  · split
    · exact ⟨fun x hx => by simp at hx; omega, by simp⟩
    · split
      · exact ⟨fun x hx => by simp at hx; omega, by simp⟩
      · exact ⟨Wh.By.nil, by simp⟩

set_option maxRecDepth 100000 in
theorem phas_any (V F W P k : Int) (w : World) :
    Calls Tryz.prog 156 #[.agg #[.int .u8 V, .int .i64 F, .int .i64 W, .int .i64 P], .int .i64 k] w fun e w' => e = .returned (.bool (Po.hb F k)) ∧ Below w.heap.size w w' := by
  have B := hid (alloc_b w (.cells #[.int .u8 V, .int .i64 F, .int .i64 W, .int .i64 P] 25))
  go_enter Tryz.func156, Tryz.ntmps156
  go_wp2_with fail
  go_ret
  exact ⟨rfl, B.out⟩

set_option maxRecDepth 100000 in
theorem cap_ix (V : Int) (h0 : 0 ≤ V) (h1 : V < 256) : decide (0 ≤ Lib.indexByte (⟨#[69, 70, 71, 88]⟩ : ByteArray).data.toList V.toNat.toUInt8) = Po.cap V := by
  have key : ∀ t : Fin 256, decide (0 ≤ Lib.indexByte [69, 70, 71, 88] (t.val : Int).toNat.toUInt8) = Po.cap (t.val : Int) := by decide
  have := key ⟨V.toNat, by omega⟩
  simp only at this
  rw [show ((V.toNat : Nat) : Int) = V by omega] at this
  exact this
set_option maxRecDepth 100000 in
theorem ok_ix (V : Int) (h0 : 0 ≤ V) (h1 : V < 256) : decide (Lib.indexByte (⟨#[101, 69, 102, 70, 103, 71]⟩ : ByteArray).data.toList V.toNat.toUInt8 < 0) = !Po.okV V := by
  have key : ∀ t : Fin 256, decide (Lib.indexByte [101, 69, 102, 70, 103, 71] (t.val : Int).toNat.toUInt8 < 0) = !Po.okV (t.val : Int) := by decide
  have := key ⟨V.toNat, by omega⟩
  simp only at this
  rw [show ((V.toNat : Nat) : Int) = V by omega] at this
  exact this

set_option maxRecDepth 100000 in
theorem pcap_any (V : Int) (w : World) (h0 : 0 ≤ V) (h1 : V < 256) :
    Calls Tryz.prog 205 #[.int .u8 V] w fun e w' => e = .returned (.bool (Po.cap V)) ∧ w' = w := by
  have IX := hid (fun w => Any.strings_IndexByte idxLays ⟨#[69, 70, 71, 88]⟩ V w)
  have E := hid (cap_ix V h0 h1)
  generalize Lib.indexByte (⟨#[69, 70, 71, 88]⟩ : ByteArray).data.toList V.toNat.toUInt8 = x at *
  clear h0 h1
  go_enter Tryz.func205, Tryz.ntmps205
  go_wp2_with (go_at_call 54; refine (IX.out _).mono ?_; rintro e w2 ⟨rfl, rfl⟩)
  go_ret
  exact ⟨fretB E.out, rfl⟩

set_option maxRecDepth 100000 in
theorem pfin_any (d : Int) (w : World) (h0 : 0 ≤ d) (h1 : d < 18446744073709551616) :
    Calls Tryz.prog 150 #[.int .u64 d] w fun e w' => e = .returned (.bool (Ie.fnt d)) ∧ w' = w := by
  have C := hid (class_any d w h0 h1)
  have E : Hid (Ie.fnt d = decide (Ie.cls d < 3)) := rfl
  generalize Ie.cls d = c at *
  go_enter Tryz.func150, Tryz.ntmps150
  go_wp2_with fail
  refine C.out.mono ?_
  rintro e w' ⟨rfl, rfl⟩
  go_wp2_with fail
  go_ret
  exact ⟨fretB E.out.symm, rfl⟩

set_option maxRecDepth 100000 in
theorem psign_any (V F W P d : Int) (w : World) (h0 : 0 ≤ d) (h1 : d < 18446744073709551616) :
    Calls Tryz.prog 102 #[.agg #[.int .u8 V, .int .i64 F, .int .i64 W, .int .i64 P], .int .u64 d] w fun e w' => e = .returned (.string (strOfNums (Po.sx F (Po.ng d)))) ∧ Below w.heap.size w w' := by
  have B := hid (SB.new w V F W P)
  have DC := hid (fun wx => decode_any d wx h0 h1)
  have H2 := hid (fun W' => phas_any V F W P 2 W')
  have H4 := hid (fun W' => phas_any V F W P 4 W')
  unfold partsOf at DC
  have E : Hid (Po.sx F (Po.ng d) = if Po.ng d = true then [45] else if Po.hb F 2 = true then [43] else if Po.hb F 4 = true then [32] else []) := rfl
  rw [← Po.ng] at DC
  generalize Po.ng d = n at *
  generalize Po.hb F 2 = b2 at *
  generalize Po.hb F 4 = b4 at *
  generalize Po.sx F n = R at *
  generalize Ie.cls d = c at *
  generalize Ie.dm d = m at *
  generalize Ie.de d = ee at *
  have FD : ∀ wx : World, (Instr.field 99 (.agg #[.bool n, .int .i64 c, .int .u64 m, .int .i64 ee]) 0).run Tryz.prog wx = .ok (.bool n) wx := fun _ => by kernel_rfl
  clear h0 h1
  cases n with
  | true =>
    have E2 : Hid (strOfNums [45] = strOfNums R) := by rw [Hid, E.out]; rfl
    clear E
    go_enter Tryz.func102, Tryz.ntmps102
    go_wp2_with fail
    refine (DC.out _).mono ?_
    rintro e w1 ⟨rfl, b1⟩
    have B1 := hid (B.out.on b1)
    clear b1 B
    go_wp2_with fail
    go_ret
    exact ⟨ret_str E2.out, B1.out.bel⟩
  | false =>
    cases b2 with
    | true =>
      have E2 : Hid (strOfNums [43] = strOfNums R) := by rw [Hid, E.out]; rfl
      clear E
      go_enter Tryz.func102, Tryz.ntmps102
      go_wp2_with fail
      refine (DC.out _).mono ?_
      rintro e w1 ⟨rfl, b1⟩
      have B1 := hid (B.out.on b1)
      clear b1 B
      obtain ⟨c0, c1, c2, c3⟩ := B1.out.flat
      go_wp2_with fail
      refine (H2.out _).mono ?_
      rintro e w2 ⟨rfl, b2⟩
      have B2 := hid (B1.out.on b2)
      clear b2 B1 c0 c1 c2 c3
      go_wp2_with fail
      go_ret
      exact ⟨ret_str E2.out, B2.out.bel⟩
    | false =>
      have E2 : Hid ((b4 = true → strOfNums [32] = strOfNums R) ∧ (b4 = false → strOfNums [] = strOfNums R)) := by
        constructor
        · rintro rfl; rw [E.out]; rfl
        · rintro rfl; rw [E.out]; rfl
      clear E
      go_enter Tryz.func102, Tryz.ntmps102
      go_wp2_with fail
      refine (DC.out _).mono ?_
      rintro e w1 ⟨rfl, b1⟩
      have B1 := hid (B.out.on b1)
      clear b1 B
      obtain ⟨c0, c1, c2, c3⟩ := B1.out.flat
      go_wp2_with fail
      refine (H2.out _).mono ?_
      rintro e w2 ⟨rfl, b2⟩
      have B2 := hid (B1.out.on b2)
      clear b2 B1 c0 c1 c2 c3
      obtain ⟨c0, c1, c2, c3⟩ := B2.out.flat
      go_wp2_with fail
      refine (H4.out _).mono ?_
      rintro e w3 ⟨rfl, b3⟩
      have B3 := hid (B2.out.on b3)
      clear b3 B2 c0 c1 c2 c3
      cases b4 with
      | true =>
        have E3 := hid (E2.out.1 rfl)
        clear E2
        go_wp2_with fail
        go_ret
        exact ⟨ret_str E3.out, B3.out.bel⟩
      | false =>
        have E3 := hid (E2.out.2 rfl)
        clear E2
        go_wp2_with fail
        go_ret
        exact ⟨ret_str E3.out, B3.out.bel⟩

/-- A short name in capitals. -/
theorem pup_any (xs ys : List Int) (w : World) (h : (xs, ys) = ([], []) ∨ (xs, ys) = ([105, 110, 102], [73, 78, 70]) ∨ (xs, ys) = ([110, 97, 110], [78, 65, 78])) :
    Calls Tryz.prog 206 #[.string (strOfNums xs)] w fun e w' => e = .returned (.string (strOfNums ys)) ∧ Below w.heap.size w w' := by
  have ha : ∀ (j : Nat) (b : UInt8), (strOfNums xs).data.toList[j]? = some b → b.toNat < 128 := by
    intro j b hb
    have hm := List.mem_of_getElem? hb
    rcases h with h | h | h
    · obtain ⟨rfl, rfl⟩ := Prod.mk.inj h
      simp [strOfNums] at hm
    · obtain ⟨rfl, rfl⟩ := Prod.mk.inj h
      simp [strOfNums] at hm
      rcases hm with rfl | rfl | rfl <;> decide
    · obtain ⟨rfl, rfl⟩ := Prod.mk.inj h
      simp [strOfNums] at hm
      rcases hm with rfl | rfl | rfl <;> decide
  refine (Any.strings_ToUpper_ascii upLays jExtra (strOfNums xs) w (by rw [strOfNums_size]; rcases h with h | h | h <;> (obtain ⟨rfl, rfl⟩ := Prod.mk.inj h; simp)) ha).mono ?_
  rintro e w' ⟨rfl, k⟩
  refine ⟨ret_str ?_, k⟩
  rcases h with h | h | h <;> (obtain ⟨rfl, rfl⟩ := Prod.mk.inj h; decide)

set_option maxRecDepth 100000 in
theorem pname_any (V d : Int) (w : World) (v0 : 0 ≤ V) (v1 : V < 256) (h0 : 0 ≤ d) (h1 : d < 18446744073709551616) :
    Calls Tryz.prog 149 #[.int .u8 V, .int .u64 d] w fun e w' => e = .returned (.string (strOfNums (Po.nm (Po.cap V) (Ie.cls d)))) ∧ Below w.heap.size w w' := by
  have C := hid (fun wx => class_any d wx h0 h1)
  have CP := hid (fun wx => pcap_any V wx v0 v1)
  have U0 : Hid (∀ wx, Calls Tryz.prog 206 #[.string ⟨#[]⟩] wx fun e w' => e = .returned (.string (strOfNums [])) ∧ Below wx.heap.size wx w') := fun wx => pup_any [] [] wx (.inl rfl)
  have U1 : Hid (∀ wx, Calls Tryz.prog 206 #[.string ⟨#[105, 110, 102]⟩] wx fun e w' => e = .returned (.string (strOfNums [73, 78, 70])) ∧ Below wx.heap.size wx w') := fun wx => pup_any [105, 110, 102] [73, 78, 70] wx (.inr (.inl rfl))
  have U2 : Hid (∀ wx, Calls Tryz.prog 206 #[.string ⟨#[110, 97, 110]⟩] wx fun e w' => e = .returned (.string (strOfNums [78, 65, 78])) ∧ Below wx.heap.size wx w') := fun wx => pup_any [110, 97, 110] [78, 65, 78] wx (.inr (.inr rfl))
  have E : ∀ (b : Bool) (k : Int), Hid (Po.nm b k = if k = 3 then (if b = true then [73, 78, 70] else [105, 110, 102]) else if k = 4 then (if b = true then [78, 65, 78] else [110, 97, 110]) else []) := fun _ _ => rfl
  have E := E (Po.cap V) (Ie.cls d)
  generalize Ie.cls d = c at *
  generalize Po.cap V = b at *
  generalize Po.nm b c = R at *
  clear h0 h1 v0 v1
  by_cases c3 : c = 3
  · subst c3
    cases b with
    | true =>
      have E2 : Hid (strOfNums [73, 78, 70] = strOfNums R) := by rw [Hid, E.out]; rfl
      clear E
      go_enter Tryz.func149, Tryz.ntmps149
      go_wp2_with (first | (go_at_call 26; refine (C.out _).mono ?_; rintro e w' ⟨rfl, hw⟩; rw [hw]; clear hw w') | (go_at_call 205; refine (CP.out _).mono ?_; rintro e w' ⟨rfl, hw⟩; rw [hw]; clear hw w'))
      refine (U1.out _).mono ?_
      rintro e w1 ⟨rfl, b1⟩
      have B1 := hid b1
      clear b1
      go_wp2_with fail
      go_ret
      exact ⟨ret_str E2.out, B1.out⟩
    | false =>
      have E2 : Hid (strOfNums [105, 110, 102] = strOfNums R) := by rw [Hid, E.out]; rfl
      clear E
      go_enter Tryz.func149, Tryz.ntmps149
      go_wp2_with (first | (go_at_call 26; refine (C.out _).mono ?_; rintro e w' ⟨rfl, hw⟩; rw [hw]; clear hw w') | (go_at_call 205; refine (CP.out _).mono ?_; rintro e w' ⟨rfl, hw⟩; rw [hw]; clear hw w'))
      go_ret
      exact ⟨ret_str E2.out, Below.refl _ _⟩
  · by_cases c4 : c = 4
    · subst c4
      cases b with
      | true =>
        have E2 : Hid (strOfNums [78, 65, 78] = strOfNums R) := by rw [Hid, E.out]; rfl
        clear E
        go_enter Tryz.func149, Tryz.ntmps149
        go_wp2_with (first | (go_at_call 26; refine (C.out _).mono ?_; rintro e w' ⟨rfl, hw⟩; rw [hw]; clear hw w') | (go_at_call 205; refine (CP.out _).mono ?_; rintro e w' ⟨rfl, hw⟩; rw [hw]; clear hw w'))
        refine (U2.out _).mono ?_
        rintro e w1 ⟨rfl, b1⟩
        have B1 := hid b1
        clear b1
        go_wp2_with fail
        go_ret
        exact ⟨ret_str E2.out, B1.out⟩
      | false =>
        have E2 : Hid (strOfNums [110, 97, 110] = strOfNums R) := by rw [Hid, E.out]; rfl
        clear E
        go_enter Tryz.func149, Tryz.ntmps149
        go_wp2_with (first | (go_at_call 26; refine (C.out _).mono ?_; rintro e w' ⟨rfl, hw⟩; rw [hw]; clear hw w') | (go_at_call 205; refine (CP.out _).mono ?_; rintro e w' ⟨rfl, hw⟩; rw [hw]; clear hw w'))
        go_ret
        exact ⟨ret_str E2.out, Below.refl _ _⟩
    · have k3 : (c == 3) = false := by simpa using c3
      have k4 : (c == 4) = false := by simpa using c4
      have E2 : Hid (strOfNums [] = strOfNums R) := by rw [Hid, E.out, if_neg c3, if_neg c4]
      clear E c3 c4
      cases b with
      | true =>
        go_enter Tryz.func149, Tryz.ntmps149
        go_wp2_with (first | (go_at_call 26; refine (C.out _).mono ?_; rintro e w' ⟨rfl, hw⟩; rw [hw]; clear hw w') | (go_at_call 205; refine (CP.out _).mono ?_; rintro e w' ⟨rfl, hw⟩; rw [hw]; clear hw w'))
        refine (U0.out _).mono ?_
        rintro e w1 ⟨rfl, b1⟩
        have B1 := hid b1
        clear b1
        go_wp2_with fail
        go_ret
        exact ⟨ret_str E2.out, B1.out⟩
      | false =>
        go_enter Tryz.func149, Tryz.ntmps149
        go_wp2_with (first | (go_at_call 26; refine (C.out _).mono ?_; rintro e w' ⟨rfl, hw⟩; rw [hw]; clear hw w') | (go_at_call 205; refine (CP.out _).mono ?_; rintro e w' ⟨rfl, hw⟩; rw [hw]; clear hw w'))
        go_ret
        exact ⟨ret_str E2.out, Below.refl _ _⟩
end Go.Proofs.YtiflponlioldmaaGreatDoor

namespace Go.Proofs.YtiflponlioldmaaGreatDoor
open Go Go.RowKit Go.Deep Go.Shelf

/-- Three texts in a box that may be written. -/
def N3 (w : World) (b : Nat) (v0 v1 v2 : Value) : Prop := w.heap[b]? = some (.cells #[v0, v1, v2] 187 (0, 0))
theorem N3.new (w : World) (v0 v1 v2 : Value) : N3 (w.alloc (.cells #[v0, v1, v2] 187)) w.heap.size v0 v1 v2 := heap_alloc_new w _
theorem N3.lt {w : World} {b : Nat} {v0 v1 v2 : Value} (h : N3 w b v0 v1 v2) : b < w.heap.size := by
  rcases Nat.lt_or_ge b w.heap.size with hl | hl
  · exact hl
  · simp [N3, Array.getElem?_eq_none hl] at h
theorem N3.below {w w' : World} {b : Nat} {v0 v1 v2 : Value} (h : N3 w b v0 v1 v2) (hB : Below w.heap.size w w') : N3 w' b v0 v1 v2 := by
  rw [N3, hB.block b h.lt]; exact h
theorem N3.cells {w : World} {b : Nat} {v0 v1 v2 : Value} (h : N3 w b v0 v1 v2) :
    (w.cell? ⟨b, 0, none⟩ = some v0 ∧ w.cell? ⟨b, 1, none⟩ = some v1 ∧ w.cell? ⟨b, 2, none⟩ = some v2) ∧
    (w.frozen? ⟨b, 0, none⟩ = false ∧ w.frozen? ⟨b, 1, none⟩ = false ∧ w.frozen? ⟨b, 2, none⟩ = false) := by
  simp only [N3] at h
  refine ⟨⟨?_, ?_, ?_⟩, ⟨?_, ?_, ?_⟩⟩ <;> simp [World.cell?, World.frozen?, h]
theorem N3.put {w : World} {b : Nat} {v0 v1 v2 : Value} (h : N3 w b v0 v1 v2) (u0 u1 u2 : Value) :
    N3 (((w.setCell ⟨b, 0, none⟩ u0).setCell ⟨b, 1, none⟩ u1).setCell ⟨b, 2, none⟩ u2) b u0 u1 u2 := by
  have h0 := fset1 (o := 0) (v := u0) (c' := #[u0, v1, v2]) h (by simp [Array.setIfInBounds])
  have h1 := fset1 (o := 1) (v := u1) (c' := #[u0, u1, v2]) h0 (by simp [Array.setIfInBounds])
  exact fset1 (o := 2) (v := u2) (c' := #[u0, u1, u2]) h1 (by simp [Array.setIfInBounds])
theorem N3.put1 {w : World} {b : Nat} {v0 v1 v2 : Value} (h : N3 w b v0 v1 v2) (u1 : Value) :
    N3 (w.setCell ⟨b, 1, none⟩ u1) b v0 u1 v2 := fset1 (o := 1) (v := u1) (c' := #[v0, u1, v2]) h (by simp [Array.setIfInBounds])
/-- A number's box, all else as it was. -/
structure NB (w0 : World) (b : Nat) (x y z : List Int) (wk : World) : Prop where
  bel : Below w0.heap.size w0 wk
  box : N3 wk b (.string (strOfNums x)) (.string (strOfNums y)) (.string (strOfNums z))
  lo : w0.heap.size ≤ b
theorem NB.on {w0 wk w' : World} {b : Nat} {x y z : List Int} (h : NB w0 b x y z wk) (k : Below wk.heap.size wk w') : NB w0 b x y z w' := ⟨below_on h.bel k, h.box.below k, h.lo⟩
theorem NB.drew {w0 wk : World} {b : Nat} {x y z : List Int} (h : NB w0 b x y z wk) : NB w0 b x y z wk.drew := ⟨h.bel.drew, h.box, h.lo⟩
theorem NB.put {w0 wk : World} {b : Nat} {x y z : List Int} (h : NB w0 b x y z wk) (x' y' z' : List Int) :
    NB w0 b x' y' z' (((wk.setCell ⟨b, 0, none⟩ (.string (strOfNums x'))).setCell ⟨b, 1, none⟩ (.string (strOfNums y'))).setCell ⟨b, 2, none⟩ (.string (strOfNums z'))) :=
  ⟨fset3_below h.bel h.lo, h.box.put _ _ _, h.lo⟩
theorem NB.put1 {w0 wk : World} {b : Nat} {x y z : List Int} (h : NB w0 b x y z wk) (y' : List Int) :
    NB w0 b x y' z (wk.setCell ⟨b, 1, none⟩ (.string (strOfNums y'))) :=
  ⟨h.bel.setCell (p := ⟨b, 1, none⟩) h.lo _, h.box.put1 _, h.lo⟩
theorem NB.new (w : World) : NB w w.heap.size [] [] [] (w.alloc (.cells #[.string ⟨#[]⟩, .string ⟨#[]⟩, .string ⟨#[]⟩] 187)) := ⟨alloc_b w _, N3.new w _ _ _, Nat.le_refl _⟩

/-- Places and Figures, their texts as lists. -/
theorem plx_any (d n : Int) (w : World) (hT : Tab w) (h0 : 0 ≤ d) (h1 : d < 18446744073709551616) :
    Calls Tryz.prog 207 #[.int .u64 d, .int .i64 n] w fun e w' => e = .returned (.tuple #[.string (strOfNums (Fx.pA d n)), .string (strOfNums (Fx.pB d n)), .int .i64 (Fx.rf d n 0)]) ∧ Below w.heap.size w w' := by
  refine (places_any d n w hT h0 h1).mono ?_
  rintro e w' ⟨s, t, rfl, hs, ht, hB⟩
  rw [str_is hs, str_is ht]
  exact ⟨rfl, hB⟩
theorem fgx_any (d n : Int) (w : World) (hT : Tab w) (h0 : 0 ≤ d) (h1 : d < 18446744073709551616) :
    Calls Tryz.prog 208 #[.int .u64 d, .int .i64 n] w fun e w' => e = .returned (.tuple #[.string (strOfNums (Fx.gS d n)), .int .i64 (Fx.gK d n), .int .i64 (Fx.rf d n 1)]) ∧ Below w.heap.size w w' := by
  refine (figures_any d n w hT h0 h1).mono ?_
  rintro e w' ⟨s, rfl, hs, hB⟩
  rw [str_is hs]
  exact ⟨rfl, hB⟩

/-- What the texts of a number are told as. -/
def NumV (x y z : List Int) : Value := .agg #[.string (strOfNums x), .string (strOfNums y), .string (strOfNums z)]

set_option maxRecDepth 100000 in
set_option maxHeartbeats 2000000 in
theorem pexp_any (V k : Int) (w : World) (v0 : 0 ≤ V) (v1 : V < 256) (k0 : -400 ≤ k) (k1 : k ≤ 400) :
    Calls Tryz.prog 209 #[.int .u8 V, .int .i64 k] w fun e w' => e = .returned (.string (strOfNums (Po.ex V k))) ∧ Below w.heap.size w w' := by
  have CP := hid (fun wx => pcap_any V wx v0 v1)
  obtain ⟨m, hm⟩ : ∃ m, max k (-k) = m := ⟨_, rfl⟩
  have m0 : 0 ≤ m := by omega
  have m1 : m ≤ 400 := by omega
  have SG : Hid (∀ W' : World, Calls Tryz.prog 100 #[.agg #[.int .u8 100, .int .i64 2, .int .i64 0, .int .i64 2], .bool (decide (k < 0)), .slice (some ⟨W'.heap.size, 0, none⟩) 1 1] (W'.alloc (.cells #[.int .u64 m] 26)) fun e w' => e = .returned (.tuple #[.string (strOfNums (Po.xd k)), .int .i64 0]) ∧ Below W'.heap.size W' w') := by
    intro W'
    have hA : Arg (W'.alloc (.cells #[.int .u64 m] 26)) (some ⟨W'.heap.size, 0, none⟩) 1 1 [m] := by
      have o : Own (W'.alloc (.cells #[.int .u64 m] 26)) W'.heap.size [m] := heap_alloc_new W' _
      exact ⟨rfl, by omega, by omega, o.lies, limb_one ⟨m0, by omega⟩⟩
    refine (wsigned_any 100 2 0 2 (decide (k < 0)) _ 1 1 [m] _ (by omega) (by omega) hA).mono ?_
    rintro e w' ⟨rfl, b⟩
    have hv : Nm.val [m] = m := by simp [Nm.val]
    have ts : Nm.tsize [m] ≤ 1 := by have := Nm.tsize_le [m]; simpa using this
    have hE : Wh.sigE 100 2 0 2 (Nm.tsize [m]) = 0 := by
      rw [Wh.sigE, if_pos (by omega), if_pos (by decide), if_neg (by omega)]
    refine ⟨?_, below_on (alloc_b W' _) b⟩
    rw [hE, Wh.sig, hE, if_pos rfl, hv, Wh.sigT, Wh.padT_zero]
    have e1 : Wh.sgn 2 (decide (k < 0) && decide (m ≠ 0)) ++ Wh.fil 2 (Wh.dig 10 false m) = Po.xd k := by
      unfold Po.xd
      rw [hm]
      by_cases c : k < 0
      · rw [decide_eq_true c, decide_eq_true (show m ≠ 0 by omega), if_pos c]; rfl
      · rw [decide_eq_false c, if_neg c]; rfl
    rw [e1]
  have hs1 : (w.alloc (.cells #[.int .u8 100, .int .i64 2, .int .i64 0, .int .i64 2] 25)).heap.size = w.heap.size + 1 := Array.size_push ..
  have SG1 : Hid (Calls Tryz.prog 100 #[.agg #[.int .u8 100, .int .i64 2, .int .i64 0, .int .i64 2], .bool (decide (k < 0)), .slice (some ⟨w.heap.size + 1, 0, none⟩) 1 1] ((w.alloc (.cells #[.int .u8 100, .int .i64 2, .int .i64 0, .int .i64 2] 25)).alloc (.cells #[.int .u64 m] 26)) fun e w' => e = .returned (.tuple #[.string (strOfNums (Po.xd k)), .int .i64 0]) ∧ Below w.heap.size w w') := by
    have q := SG.out (w.alloc (.cells #[.int .u8 100, .int .i64 2, .int .i64 0, .int .i64 2] 25))
    refine Calls.mono (by rw [hs1] at q; exact q) ?_
    rintro e w' ⟨rfl, b⟩
    rw [← hs1] at b
    exact ⟨rfl, below_on (alloc_b w _) b⟩
  clear hs1 SG
  have XL := Po.xd_len (k := k) (by omega) (by omega)
  have xs : (strOfNums (Po.xd k)).size = (Po.xd k).length := strOfNums_size _
  have xl : ((strOfNums (Po.xd k)).size : Int) ≤ 4 := by rw [xs]; omega
  have E : Hid ((Po.cap V = true → (⟨#[69]⟩ : ByteArray) ++ strOfNums (Po.xd k) = strOfNums (Po.ex V k)) ∧ (Po.cap V = false → (⟨#[101]⟩ : ByteArray) ++ strOfNums (Po.xd k) = strOfNums (Po.ex V k))) := by
    have X := Str.of_nums (Po.xd_by k)
    constructor
    · intro c
      have q : Str ((⟨#[69]⟩ : ByteArray) ++ strOfNums (Po.xd k)) ([69] ++ Po.xd k) := Str.app rfl X
      rw [str_is q, Po.ex, if_pos c]; rfl
    · intro c
      have q : Str ((⟨#[101]⟩ : ByteArray) ++ strOfNums (Po.xd k)) ([101] ++ Po.xd k) := Str.app rfl X
      rw [str_is q, Po.ex, if_neg (by rw [c]; decide)]; rfl
  clear XL xs v0 v1
  generalize Po.cap V = b at *
  generalize Po.xd k = X at *
  generalize Po.ex V k = R at *
  generalize hs : strOfNums X = s at *
  clear hs
  cases b with
  | true =>
    have E2 := hid (E.out.1 rfl)
    clear E
    go_enter Tryz.func209, Tryz.ntmps209
    go_wp2_with (go_at_call 205; refine (CP.out _).mono ?_; rintro e w' ⟨rfl, hw⟩; rw [hw]; clear hw w')
    with_reducible refine SG1.out.mono ?_
    rintro e w1 ⟨rfl, b1⟩
    have B1 := hid b1
    clear b1
    go_wp2_with fail
    go_ret
    exact ⟨ret_str E2.out, B1.out⟩
  | false =>
    have E2 := hid (E.out.2 rfl)
    clear E
    go_enter Tryz.func209, Tryz.ntmps209
    go_wp2_with (go_at_call 205; refine (CP.out _).mono ?_; rintro e w' ⟨rfl, hw⟩; rw [hw]; clear hw w')
    with_reducible refine SG1.out.mono ?_
    rintro e w1 ⟨rfl, b1⟩
    have B1 := hid b1
    clear b1
    go_wp2_with fail
    go_ret
    exact ⟨ret_str E2.out, B1.out⟩

set_option maxRecDepth 100000 in
set_option maxHeartbeats 2000000 in
theorem pplaced_any (d n : Int) (w : World) (hT : Tab w) (h0 : 0 ≤ d) (h1 : d < 18446744073709551616) :
    Calls Tryz.prog 157 #[.int .u64 d, .int .i64 n] w fun e w' => e = .returned (NumV (Fx.pA d n) (Fx.pB d n) []) ∧ Below w.heap.size w w' := by
  have B := hid (NB.new w)
  have PL := hid (plx_any d n _ (hT.below (NB.new w).bel) h0 h1)
  generalize Fx.pA d n = A at *
  generalize Fx.pB d n = C at *
  generalize Fx.rf d n 0 = r at *
  clear hT h0 h1
  go_enter Tryz.func157, Tryz.ntmps157
  go_wp2_with fail
  refine PL.out.mono ?_
  rintro e w1 ⟨rfl, b1⟩
  have B1 := hid (B.out.on b1)
  have B2 := hid (B1.out.put A C [])
  obtain ⟨⟨c0, c1, c2⟩, f0, f1, f2⟩ := B1.out.box.cells
  clear b1 B PL
  go_wp2_with fail
  (try simp only [Exit.inBlock, Exit.then])
  refine bodyPost_ret (results_cell_row rfl _ _ w.heap.size 187 _ (0, 0) _ rfl B2.out.box Tryz.underlying187 rfl (by kernel_rfl)) rfl ?_
  exact ⟨rfl, B2.out.bel⟩
end Go.Proofs.YtiflponlioldmaaGreatDoor

namespace Go.Proofs.YtiflponlioldmaaGreatDoor
open Go Go.RowKit Go.Deep Go.Shelf

theorem ext_tail {xs : List Int} (hx : Wh.By xs) (k : Nat) : (strOfNums xs).extract k xs.length = strOfNums (xs.drop k) := by
  have q := (Str.of_nums hx).extract k xs.length
  have e : (xs.drop k).take (xs.length - k) = xs.drop k := List.take_of_length_le (by rw [List.length_drop]; omega)
  rw [e] at q
  exact str_is q
theorem ext_head {xs : List Int} (hx : Wh.By xs) (k : Nat) : (strOfNums xs).extract 0 k = strOfNums (xs.take k) := by
  have q := (Str.of_nums hx).extract 0 k
  rw [List.drop_zero, Nat.sub_zero] at q
  exact str_is q

set_option maxRecDepth 100000 in
set_option maxHeartbeats 4000000 in
theorem ppowered_any (V d n : Int) (w : World) (hT : Tab w) (v0 : 0 ≤ V) (v1 : V < 256) (h0 : 0 ≤ d) (h1 : d < 18446744073709551616) (hf : Ie.fnt d = true) (n0 : 0 ≤ n) (n1 : n ≤ 4199) :
    Calls Tryz.prog 158 #[.int .u8 V, .int .u64 d, .int .i64 n] w fun e w' => e = .returned (NumV ((Fx.gS d (n + 1)).take 1) ((Fx.gS d (n + 1)).drop 1) (Po.ex V (Fx.gK d (n + 1)))) ∧ Below w.heap.size w w' := by
  have B := hid (NB.new w)
  have PL := hid (fgx_any d (n + 1) _ (hT.below (NB.new w).bel) h0 h1)
  have K := Po.fgF hf (n := n + 1) (by omega) (by omega)
  have XP := hid (fun wx => pexp_any V (Fx.gK d (n + 1)) wx v0 v1 (by have := K.lo; omega) (by have := K.hi; omega))
  have BY := Po.digs_by K.s
  have X1 := hid (ext_head BY 1)
  have X2 := hid (ext_tail BY 1)
  have LN := K.len
  obtain ⟨L, hL⟩ : ∃ L, (Fx.gS d (n + 1)).length = L := ⟨_, rfl⟩
  have SZ : (strOfNums (Fx.gS d (n + 1))).size = L := by rw [strOfNums_size, hL]
  rw [hL] at X2 LN
  have l1 : (1 : Int) ≤ (L : Int) := by omega
  have l2 : (L : Int) ≤ 4200 := by omega
  clear hT h0 h1 hf v0 v1 K BY LN hL
  generalize Fx.gS d (n + 1) = S at *
  generalize Fx.gK d (n + 1) = k at *
  generalize Fx.rf d (n + 1) 1 = r at *
  generalize Po.ex V k = E at *
  generalize S.take 1 = S1 at *
  generalize S.drop 1 = S2 at *
  generalize hs : strOfNums S = s at *
  clear hs
  go_enter Tryz.func158, Tryz.ntmps158
  go_wp2_with fail
  refine PL.out.mono ?_
  rintro e w1 ⟨rfl, b1⟩
  have B1 := hid (B.out.on b1)
  clear b1 B PL
  have FIN : Hid (∀ wk, NB w w.heap.size [] [] [] wk → NB w w.heap.size S1 S2 E (((wk.setCell ⟨w.heap.size, 0, none⟩ (.string (s.extract 0 1))).setCell ⟨w.heap.size, 1, none⟩ (.string (s.extract 1 L))).setCell ⟨w.heap.size, 2, none⟩ (.string (strOfNums E)))) := by
    intro wk h
    rw [X1.out, X2.out]
    exact h.put S1 S2 E
  have CL : Hid (∀ wk, NB w w.heap.size [] [] [] wk → (wk.cell? ⟨w.heap.size, 0, none⟩ = some (.string (strOfNums [])) ∧ wk.cell? ⟨w.heap.size, 1, none⟩ = some (.string (strOfNums [])) ∧ wk.cell? ⟨w.heap.size, 2, none⟩ = some (.string (strOfNums []))) ∧ (wk.frozen? ⟨w.heap.size, 0, none⟩ = false ∧ wk.frozen? ⟨w.heap.size, 1, none⟩ = false ∧ wk.frozen? ⟨w.heap.size, 2, none⟩ = false)) := fun wk h => h.box.cells
  go_upto_region 2 with fail
  have T1 := hid B1.out.drew
  obtain ⟨⟨c0, c1, c2⟩, f0, f1, f2⟩ := CL.out _ T1.out
  go_region_with (go_at_call 209; with_reducible refine (XP.out _).mono ?_; rintro e w2 ⟨rfl, b2⟩; have T2 := hid (T1.out.on b2); obtain ⟨⟨g0, g1, g2⟩, i0, i1, i2⟩ := CL.out _ T2.out; clear b2)
  all_goals (
    have T3 := hid (FIN.out _ T2.out)
    go_wp2_with fail
    (try simp only [Exit.inBlock, Exit.then])
    refine bodyPost_ret (results_cell_row rfl _ _ w.heap.size 187 _ (0, 0) _ rfl T3.out.box Tryz.underlying187 rfl (by kernel_rfl)) rfl ?_
    exact ⟨rfl, T3.out.bel⟩)

set_option maxRecDepth 100000 in
set_option maxHeartbeats 4000000 in
theorem pgeneral_any (V d n : Int) (w : World) (hT : Tab w) (v0 : 0 ≤ V) (v1 : V < 256) (h0 : 0 ≤ d) (h1 : d < 18446744073709551616) (hf : Ie.fnt d = true) (n0 : 1 ≤ n) (n1 : n ≤ 4096) :
    Calls Tryz.prog 159 #[.int .u8 V, .int .u64 d, .int .i64 n] w fun e w' => e = .returned (if -4 ≤ Fx.gK d n ∧ Fx.gK d n < n then NumV (Fx.pA d (n - 1 - Fx.gK d n)) (Fx.pB d (n - 1 - Fx.gK d n)) [] else NumV ((Fx.gS d n).take 1) ((Fx.gS d n).drop 1) (Po.ex V (Fx.gK d n))) ∧ Below w.heap.size w w' := by
  have B := hid (NB.new w)
  have PL := hid (fgx_any d n _ (hT.below (NB.new w).bel) h0 h1)
  have K := Po.fgF hf (n := n) (by omega) (by omega)
  obtain ⟨k, hk⟩ : ∃ k, Fx.gK d n = k := ⟨_, rfl⟩
  have k0 := K.lo
  have k1 := K.hi
  rw [hk] at k0 k1 PL
  have TB : Hid (∀ wk, Below w.heap.size w wk → Tab wk) := fun wk h => hT.below h
  have PW : Hid (∀ wk, Tab wk → Calls Tryz.prog 158 #[.int .u8 V, .int .u64 d, .int .i64 (n - 1)] wk fun e w' => e = .returned (NumV ((Fx.gS d n).take 1) ((Fx.gS d n).drop 1) (Po.ex V (Fx.gK d n))) ∧ Below wk.heap.size wk w') := by
    intro wk h
    have q := ppowered_any V d (n - 1) wk h v0 v1 h0 h1 hf (by omega) (by omega)
    rw [show n - 1 + 1 = n by omega] at q
    exact q
  have PA : Hid (∀ wk, Tab wk → Calls Tryz.prog 157 #[.int .u64 d, .int .i64 (n - 1 - k)] wk fun e w' => e = .returned (NumV (Fx.pA d (n - 1 - k)) (Fx.pB d (n - 1 - k)) []) ∧ Below wk.heap.size wk w') := fun wk h => pplaced_any d (n - 1 - k) wk h h0 h1
  rw [hk] at PW ⊢
  have FIN : Hid (∀ wk x y z, NB w w.heap.size [] [] [] wk → NB w w.heap.size x y z (((wk.setCell ⟨w.heap.size, 0, none⟩ (.string (strOfNums x))).setCell ⟨w.heap.size, 1, none⟩ (.string (strOfNums y))).setCell ⟨w.heap.size, 2, none⟩ (.string (strOfNums z)))) := fun wk x y z h => h.put x y z
  clear hT h0 h1 hf v0 v1 K hk
  generalize Fx.pA d (n - 1 - k) = A at *
  generalize Fx.pB d (n - 1 - k) = C at *
  generalize (Fx.gS d n).take 1 = S1 at *
  generalize (Fx.gS d n).drop 1 = S2 at *
  generalize Fx.gS d n = S at *
  generalize Fx.rf d n 1 = r at *
  generalize Po.ex V k = E at *
  by_cases g : -4 ≤ k ∧ k < n
  · rw [if_pos g]
    obtain ⟨g1, g2⟩ := g
    unfold NumV at PA
    go_enter Tryz.func159, Tryz.ntmps159
    go_wp2_with fail
    refine PL.out.mono ?_
    rintro e w1 ⟨rfl, b1⟩
    have B1 := hid (B.out.on b1)
    have T1 := hid (TB.out _ B1.out.bel)
    clear b1 B PL
    go_wp2_with fail
    refine (PA.out _ T1.out).mono ?_
    rintro e w2 ⟨rfl, b2⟩
    have B2 := hid (B1.out.on b2)
    have B3 := hid (FIN.out _ A C [] B2.out)
    obtain ⟨⟨c0, c1, c2⟩, f0, f1, f2⟩ := B2.out.box.cells
    clear b2 B1 T1 TB PA PW
    go_wp2_with fail
    (try simp only [Exit.inBlock, Exit.then])
    refine bodyPost_ret (results_cell_row rfl _ _ w.heap.size 187 _ (0, 0) _ rfl B3.out.box Tryz.underlying187 rfl (by kernel_rfl)) rfl ?_
    exact ⟨rfl, B3.out.bel⟩
  · rw [if_neg g]
    unfold NumV at PW
    by_cases g1 : -4 ≤ k
    · have g2 : ¬ k < n := by omega
      clear g
      go_enter Tryz.func159, Tryz.ntmps159
      go_wp2_with fail
      refine PL.out.mono ?_
      rintro e w1 ⟨rfl, b1⟩
      have B1 := hid (B.out.on b1)
      have T1 := hid (TB.out _ B1.out.bel)
      clear b1 B PL
      go_wp2_with fail
      refine (PW.out _ T1.out).mono ?_
      rintro e w2 ⟨rfl, b2⟩
      have B2 := hid (B1.out.on b2)
      have B3 := hid (FIN.out _ S1 S2 E B2.out)
      obtain ⟨⟨c0, c1, c2⟩, f0, f1, f2⟩ := B2.out.box.cells
      clear b2 B1 T1 TB PA PW
      go_wp2_with fail
      (try simp only [Exit.inBlock, Exit.then])
      refine bodyPost_ret (results_cell_row rfl _ _ w.heap.size 187 _ (0, 0) _ rfl B3.out.box Tryz.underlying187 rfl (by kernel_rfl)) rfl ?_
      exact ⟨rfl, B3.out.bel⟩
    · clear g
      go_enter Tryz.func159, Tryz.ntmps159
      go_wp2_with fail
      refine PL.out.mono ?_
      rintro e w1 ⟨rfl, b1⟩
      have B1 := hid (B.out.on b1)
      have T1 := hid (TB.out _ B1.out.bel)
      clear b1 B PL
      go_wp2_with fail
      refine (PW.out _ T1.out).mono ?_
      rintro e w2 ⟨rfl, b2⟩
      have B2 := hid (B1.out.on b2)
      have B3 := hid (FIN.out _ S1 S2 E B2.out)
      obtain ⟨⟨c0, c1, c2⟩, f0, f1, f2⟩ := B2.out.box.cells
      clear b2 B1 T1 TB PA PW
      go_wp2_with fail
      (try simp only [Exit.inBlock, Exit.then])
      refine bodyPost_ret (results_cell_row rfl _ _ w.heap.size 187 _ (0, 0) _ rfl B3.out.box Tryz.underlying187 rfl (by kernel_rfl)) rfl ?_
      exact ⟨rfl, B3.out.bel⟩

set_option maxRecDepth 100000 in
set_option maxHeartbeats 4000000 in
theorem pwritten_any (a b p : List Int) (h : Bool) (w : World) (ha : Wh.By a) (hb : Wh.By b) (hp : Wh.By p) (la : a.length ≤ 10000) (lb : b.length ≤ 10000) (lp : p.length ≤ 10000) :
    Calls Tryz.prog 161 #[NumV a b p, .bool h] w fun e w' => e = .returned (.string (strOfNums (Po.wrt a b p h))) ∧ Below w.heap.size w w' := by
  have B := hid (alloc_b w (.cells #[.string (strOfNums a), .string (strOfNums b), .string (strOfNums p)] 187))
  have sa : (strOfNums a).size = a.length := strOfNums_size a
  have sb : (strOfNums b).size = b.length := strOfNums_size b
  have sp : (strOfNums p).size = p.length := strOfNums_size p
  have SA := Str.of_nums ha
  have SB := Str.of_nums hb
  have SP := Str.of_nums hp
  have na : ((strOfNums a).size : Int) ≤ 10000 := by rw [sa]; omega
  have nb : ((strOfNums b).size : Int) ≤ 10000 := by rw [sb]; omega
  have np : ((strOfNums p).size : Int) ≤ 10000 := by rw [sp]; omega
  have EI := isEmpty_nums b
  have EJ := toList_nums b
  unfold NumV
  by_cases hc : b = [] ∧ h = false
  · have E : Hid (strOfNums a ++ strOfNums p = strOfNums (Po.wrt a b p h)) := by
      rw [Hid, Po.wrt, if_pos hc]; exact str_is (SA.app SP)
    obtain ⟨h1, h2⟩ := hc
    subst h1
    subst h2
    rw [show (([] : List Int).isEmpty) = true from rfl] at EI EJ
    clear SA SB SP sa sb sp la lb lp ha hb hp
    generalize strOfNums a = A at *
    generalize strOfNums p = P at *
    generalize Po.wrt a [] p false = R at *
    go_enter Tryz.func161, Tryz.ntmps161
    go_wp2_with fail
    go_ret
    exact ⟨ret_str E.out, B.out⟩
  · have E : Hid (strOfNums a ++ ⟨#[46]⟩ ++ strOfNums b ++ strOfNums p = strOfNums (Po.wrt a b p h)) := by
      rw [Hid, Po.wrt, if_neg hc]
      have q : Str (strOfNums a ++ ⟨#[46]⟩ ++ strOfNums b ++ strOfNums p) (a ++ [46] ++ b ++ p) := ((SA.app (show Str ⟨#[46]⟩ [46] from rfl)).app SB).app SP
      rw [str_is q]
      simp
    cases h with
    | true =>
      clear SA SB SP sa sb sp la lb lp ha hb hp hc
      generalize strOfNums a = A at *
      generalize strOfNums p = P at *
      generalize Po.wrt a b p true = R at *
      generalize b.isEmpty = be at *
      generalize strOfNums b = C at *
      cases be with
      | true =>
        go_enter Tryz.func161, Tryz.ntmps161
        go_wp2_with fail
        go_ret
        exact ⟨ret_str E.out, B.out⟩
      | false =>
        go_enter Tryz.func161, Tryz.ntmps161
        go_wp2_with fail
        go_ret
        exact ⟨ret_str E.out, B.out⟩
    | false =>
      have hbe : b.isEmpty = false := by
        cases b with
        | nil => exact absurd ⟨rfl, rfl⟩ hc
        | cons _ _ => rfl
      rw [hbe] at EI EJ
      clear SA SB SP sa sb sp la lb lp ha hb hp hc hbe
      generalize strOfNums a = A at *
      generalize strOfNums p = P at *
      generalize Po.wrt a b p false = R at *
      generalize strOfNums b = C at *
      go_enter Tryz.func161, Tryz.ntmps161
      go_wp2_with fail
      go_ret
      exact ⟨ret_str E.out, B.out⟩
end Go.Proofs.YtiflponlioldmaaGreatDoor

namespace Go.Proofs.YtiflponlioldmaaGreatDoor
open Go Go.RowKit Go.Deep Go.Shelf

/-- A Spec's box and a number's behind it. -/
structure BD (w0 : World) (V F W P : Int) (x y z : List Int) (wk : World) : Prop where
  bel : Below w0.heap.size w0 wk
  spec : S4 wk w0.heap.size (.int .u8 V) (.int .i64 F) (.int .i64 W) (.int .i64 P)
  num : N3 wk (w0.heap.size + 1) (.string (strOfNums x)) (.string (strOfNums y)) (.string (strOfNums z))
theorem BD.new (w : World) (V F W P : Int) : BD w V F W P [] [] [] ((w.alloc (.cells #[.int .u8 V, .int .i64 F, .int .i64 W, .int .i64 P] 25)).alloc (.cells #[.string ⟨#[]⟩, .string ⟨#[]⟩, .string ⟨#[]⟩] 187)) :=
  ⟨below_on (alloc_b _ _) (alloc_b _ _), heap_alloc2_old _ _ _, heap_alloc2_new _ _ _⟩
theorem BD.on {w0 wk w' : World} {V F W P : Int} {x y z : List Int} (h : BD w0 V F W P x y z wk) (k : Below wk.heap.size wk w') : BD w0 V F W P x y z w' := ⟨below_on h.bel k, h.spec.below k, h.num.below k⟩
theorem BD.drew {w0 wk : World} {V F W P : Int} {x y z : List Int} (h : BD w0 V F W P x y z wk) : BD w0 V F W P x y z wk.drew := ⟨h.bel.drew, h.spec, h.num⟩
theorem BD.put {w0 wk : World} {V F W P : Int} {x y z : List Int} (h : BD w0 V F W P x y z wk) (x' y' z' : List Int) :
    BD w0 V F W P x' y' z' (((wk.setCell ⟨w0.heap.size + 1, 0, none⟩ (.string (strOfNums x'))).setCell ⟨w0.heap.size + 1, 1, none⟩ (.string (strOfNums y'))).setCell ⟨w0.heap.size + 1, 2, none⟩ (.string (strOfNums z'))) :=
  ⟨fset3_below h.bel (Nat.le_succ _), ((h.spec.far (by omega)).far (by omega)).far (by omega), h.num.put _ _ _⟩
theorem BD.put1 {w0 wk : World} {V F W P : Int} {x y z : List Int} (h : BD w0 V F W P x y z wk) (y' : List Int) :
    BD w0 V F W P x y' z (wk.setCell ⟨w0.heap.size + 1, 1, none⟩ (.string (strOfNums y'))) :=
  ⟨h.bel.setCell (p := ⟨w0.heap.size + 1, 1, none⟩) (Nat.le_succ _) _, h.spec.far (by omega), h.num.put1 _⟩
theorem BD.flat {w0 wk : World} {V F W P : Int} {x y z : List Int} (h : BD w0 V F W P x y z wk) :
    (wk.cell? ⟨w0.heap.size, 0, none⟩ = some (.int .u8 V) ∧ wk.cell? ⟨w0.heap.size, 1, none⟩ = some (.int .i64 F) ∧ wk.cell? ⟨w0.heap.size, 2, none⟩ = some (.int .i64 W) ∧ wk.cell? ⟨w0.heap.size, 3, none⟩ = some (.int .i64 P)) ∧
    (wk.cell? ⟨w0.heap.size + 1, 0, none⟩ = some (.string (strOfNums x)) ∧ wk.cell? ⟨w0.heap.size + 1, 1, none⟩ = some (.string (strOfNums y)) ∧ wk.cell? ⟨w0.heap.size + 1, 2, none⟩ = some (.string (strOfNums z))) := ⟨h.spec.cells.1, h.num.cells.1⟩
theorem BD.cells {w0 wk : World} {V F W P : Int} {x y z : List Int} (h : BD w0 V F W P x y z wk) :
    ((wk.cell? ⟨w0.heap.size, 0, none⟩ = some (.int .u8 V) ∧ wk.cell? ⟨w0.heap.size, 1, none⟩ = some (.int .i64 F) ∧ wk.cell? ⟨w0.heap.size, 2, none⟩ = some (.int .i64 W) ∧ wk.cell? ⟨w0.heap.size, 3, none⟩ = some (.int .i64 P))) ∧
    (wk.cell? ⟨w0.heap.size + 1, 0, none⟩ = some (.string (strOfNums x)) ∧ wk.cell? ⟨w0.heap.size + 1, 1, none⟩ = some (.string (strOfNums y)) ∧ wk.cell? ⟨w0.heap.size + 1, 2, none⟩ = some (.string (strOfNums z))) ∧
    (wk.frozen? ⟨w0.heap.size + 1, 0, none⟩ = false ∧ wk.frozen? ⟨w0.heap.size + 1, 1, none⟩ = false ∧ wk.frozen? ⟨w0.heap.size + 1, 2, none⟩ = false) := ⟨h.spec.cells.1, h.num.cells.1, h.num.cells.2⟩

/-- strings.TrimRight at one '0', as a list. -/
theorem ptrim_any (xs : List Int) (w : World) (hx : Wh.By xs) (hl : xs.length ≤ 100000) :
    Calls Tryz.prog 160 #[.string (strOfNums xs), .string ⟨#[48]⟩] w fun e w' => e = .returned (.string (strOfNums (Po.sp xs))) ∧ w' = w := by
  refine (frtrim0_any (strOfNums xs) xs w (Str.of_nums hx) (by omega)).mono ?_
  rintro e w' ⟨⟨s', k, rfl, h1, h2, h3, h4⟩, rfl⟩
  exact ⟨by rw [str_is h1, Po.sp_of h2 h3 h4], rfl⟩

set_option maxRecDepth 100000 in
set_option maxHeartbeats 4000000 in
theorem pbody_f (V F W P d : Int) (w : World) (hT : Tab w) (_v0 : 0 ≤ V) (_v1 : V < 256) (hV : V = 102 ∨ V = 70) (f0 : 0 ≤ F) (f1 : F ≤ 31) (p0 : -1 ≤ P) (p1 : P ≤ 4096) (h0 : 0 ≤ d) (h1 : d < 18446744073709551616) (hf : Ie.fnt d = true) :
    Calls Tryz.prog 103 #[.agg #[.int .u8 V, .int .i64 F, .int .i64 W, .int .i64 P], .int .u64 d] w fun e w' => e = .returned (.string (strOfNums (Po.bdF (Wh.bit F 8) d (Po.pr P)))) ∧ Below w.heap.size w w' := by
  obtain ⟨q0, q1⟩ := Po.pr_bd p0 p1
  have K := Po.plF hf q0 (by omega)
  have PA : Hid (∀ wk, Tab wk → Calls Tryz.prog 157 #[.int .u64 d, .int .i64 (Po.pr P)] wk fun e w' => e = .returned (NumV (Fx.pA d (Po.pr P)) (Fx.pB d (Po.pr P)) []) ∧ Below wk.heap.size wk w') := fun wk h => pplaced_any d (Po.pr P) wk h h0 h1
  have WR : Hid (∀ wk, Calls Tryz.prog 161 #[NumV (Fx.pA d (Po.pr P)) (Fx.pB d (Po.pr P)) [], .bool (Wh.bit F 8)] wk fun e w' => e = .returned (.string (strOfNums (Po.bdF (Wh.bit F 8) d (Po.pr P)))) ∧ Below wk.heap.size wk w') := fun wk => pwritten_any _ _ _ _ wk (Po.digs_by K.a) (Po.digs_by K.b) Wh.By.nil (by have := K.la; omega) (by have := K.lb; omega) (by simp)
  have B := hid (BD.new w V F W P)
  have TT := hid (hT.below (BD.new w V F W P).bel)
  have HS : Hid (∀ wk, Calls Tryz.prog 156 #[.agg #[.int .u8 V, .int .i64 F, .int .i64 W, .int .i64 P], .int .i64 8] wk fun e w' => e = .returned (.bool (Wh.bit F 8)) ∧ Below wk.heap.size wk w') := by
    intro wk
    have q := phas_any V F W P 8 wk
    rw [Po.hb_is f0 f1 (by omega)] at q
    exact q
  unfold NumV at PA WR
  have PR : Hid (Po.pr P = if P = -1 then 6 else P) := rfl
  clear hT h0 h1 hf K f0 f1
  generalize Po.bdF (Wh.bit F 8) d (Po.pr P) = R at *
  generalize Fx.pA d (Po.pr P) = x at *
  generalize Fx.pB d (Po.pr P) = y at *
  generalize Wh.bit F 8 = hh at *
  generalize Po.pr P = pp at *
  rcases hV with rfl | rfl
  · by_cases hP : P = -1
    · have e6 : pp = 6 := by rw [PR.out, if_pos hP]
      subst e6
      subst hP
      clear PR
      go_enter Tryz.func103, Tryz.ntmps103
      go_wp2_with fail
      with_reducible refine (PA.out _ TT.out).mono ?_
      rintro e w1 ⟨rfl, b1⟩
      have B1 := hid (B.out.on b1)
      have B2 := hid (B1.out.put x y [])
      obtain ⟨⟨s0, s1, s2, s3⟩, ⟨c0, c1, c2⟩, g0, g1, g2⟩ := B1.out.cells
      clear b1 B PA TT
      go_upto_region 15 with fail
      have T1 := hid B2.out.drew
      go_region_held3 (fun wx => (wx.cell? ⟨w.heap.size, 0, none⟩ = some (.int .u8 102) ∧ wx.cell? ⟨w.heap.size, 1, none⟩ = some (.int .i64 F) ∧ wx.cell? ⟨w.heap.size, 2, none⟩ = some (.int .i64 W) ∧ wx.cell? ⟨w.heap.size, 3, none⟩ = some (.int .i64 (-1))) ∧ (wx.cell? ⟨w.heap.size + 1, 0, none⟩ = some (.string (strOfNums x)) ∧ wx.cell? ⟨w.heap.size + 1, 1, none⟩ = some (.string (strOfNums y)) ∧ wx.cell? ⟨w.heap.size + 1, 2, none⟩ = some (.string (strOfNums [])))) (first | (with_reducible exact T3.out.flat) | (with_reducible exact T2.out.flat) | (with_reducible exact T1.out.flat)) (first
        | (go_at_call 156; with_reducible refine (HS.out _).mono ?_; rintro e wa ⟨rfl, hB⟩; have T2 := hid (T1.out.on hB); clear hB)
        | (go_at_call 161; with_reducible refine (WR.out _).mono ?_; rintro e wb ⟨rfl, hB⟩; have T3 := hid (T2.out.on hB); clear hB))
      go_wp2_with fail
      go_ret
      exact ⟨rfl, T3.out.bel⟩
    · have e6 : P = pp := by rw [PR.out, if_neg hP]
      have hne : (pp == -1) = false := by rw [← e6]; simpa using hP
      subst e6
      clear PR hP
      go_enter Tryz.func103, Tryz.ntmps103
      go_wp2_with fail
      with_reducible refine (PA.out _ TT.out).mono ?_
      rintro e w1 ⟨rfl, b1⟩
      have B1 := hid (B.out.on b1)
      have B2 := hid (B1.out.put x y [])
      obtain ⟨⟨s0, s1, s2, s3⟩, ⟨c0, c1, c2⟩, g0, g1, g2⟩ := B1.out.cells
      clear b1 B PA TT
      go_upto_region 15 with fail
      have T1 := hid B2.out.drew
      go_region_held3 (fun wx => (wx.cell? ⟨w.heap.size, 0, none⟩ = some (.int .u8 102) ∧ wx.cell? ⟨w.heap.size, 1, none⟩ = some (.int .i64 F) ∧ wx.cell? ⟨w.heap.size, 2, none⟩ = some (.int .i64 W) ∧ wx.cell? ⟨w.heap.size, 3, none⟩ = some (.int .i64 P)) ∧ (wx.cell? ⟨w.heap.size + 1, 0, none⟩ = some (.string (strOfNums x)) ∧ wx.cell? ⟨w.heap.size + 1, 1, none⟩ = some (.string (strOfNums y)) ∧ wx.cell? ⟨w.heap.size + 1, 2, none⟩ = some (.string (strOfNums [])))) (first | (with_reducible exact T3.out.flat) | (with_reducible exact T2.out.flat) | (with_reducible exact T1.out.flat)) (first
        | (go_at_call 156; with_reducible refine (HS.out _).mono ?_; rintro e wa ⟨rfl, hB⟩; have T2 := hid (T1.out.on hB); clear hB)
        | (go_at_call 161; with_reducible refine (WR.out _).mono ?_; rintro e wb ⟨rfl, hB⟩; have T3 := hid (T2.out.on hB); clear hB))
      go_wp2_with fail
      go_ret
      exact ⟨rfl, T3.out.bel⟩
  · by_cases hP : P = -1
    · have e6 : pp = 6 := by rw [PR.out, if_pos hP]
      subst e6
      subst hP
      clear PR
      go_enter Tryz.func103, Tryz.ntmps103
      go_wp2_with fail
      with_reducible refine (PA.out _ TT.out).mono ?_
      rintro e w1 ⟨rfl, b1⟩
      have B1 := hid (B.out.on b1)
      have B2 := hid (B1.out.put x y [])
      obtain ⟨⟨s0, s1, s2, s3⟩, ⟨c0, c1, c2⟩, g0, g1, g2⟩ := B1.out.cells
      clear b1 B PA TT
      go_upto_region 15 with fail
      have T1 := hid B2.out.drew
      go_region_held3 (fun wx => (wx.cell? ⟨w.heap.size, 0, none⟩ = some (.int .u8 70) ∧ wx.cell? ⟨w.heap.size, 1, none⟩ = some (.int .i64 F) ∧ wx.cell? ⟨w.heap.size, 2, none⟩ = some (.int .i64 W) ∧ wx.cell? ⟨w.heap.size, 3, none⟩ = some (.int .i64 (-1))) ∧ (wx.cell? ⟨w.heap.size + 1, 0, none⟩ = some (.string (strOfNums x)) ∧ wx.cell? ⟨w.heap.size + 1, 1, none⟩ = some (.string (strOfNums y)) ∧ wx.cell? ⟨w.heap.size + 1, 2, none⟩ = some (.string (strOfNums [])))) (first | (with_reducible exact T3.out.flat) | (with_reducible exact T2.out.flat) | (with_reducible exact T1.out.flat)) (first
        | (go_at_call 156; with_reducible refine (HS.out _).mono ?_; rintro e wa ⟨rfl, hB⟩; have T2 := hid (T1.out.on hB); clear hB)
        | (go_at_call 161; with_reducible refine (WR.out _).mono ?_; rintro e wb ⟨rfl, hB⟩; have T3 := hid (T2.out.on hB); clear hB))
      go_wp2_with fail
      go_ret
      exact ⟨rfl, T3.out.bel⟩
    · have e6 : P = pp := by rw [PR.out, if_neg hP]
      have hne : (pp == -1) = false := by rw [← e6]; simpa using hP
      subst e6
      clear PR hP
      go_enter Tryz.func103, Tryz.ntmps103
      go_wp2_with fail
      with_reducible refine (PA.out _ TT.out).mono ?_
      rintro e w1 ⟨rfl, b1⟩
      have B1 := hid (B.out.on b1)
      have B2 := hid (B1.out.put x y [])
      obtain ⟨⟨s0, s1, s2, s3⟩, ⟨c0, c1, c2⟩, g0, g1, g2⟩ := B1.out.cells
      clear b1 B PA TT
      go_upto_region 15 with fail
      have T1 := hid B2.out.drew
      go_region_held3 (fun wx => (wx.cell? ⟨w.heap.size, 0, none⟩ = some (.int .u8 70) ∧ wx.cell? ⟨w.heap.size, 1, none⟩ = some (.int .i64 F) ∧ wx.cell? ⟨w.heap.size, 2, none⟩ = some (.int .i64 W) ∧ wx.cell? ⟨w.heap.size, 3, none⟩ = some (.int .i64 P)) ∧ (wx.cell? ⟨w.heap.size + 1, 0, none⟩ = some (.string (strOfNums x)) ∧ wx.cell? ⟨w.heap.size + 1, 1, none⟩ = some (.string (strOfNums y)) ∧ wx.cell? ⟨w.heap.size + 1, 2, none⟩ = some (.string (strOfNums [])))) (first | (with_reducible exact T3.out.flat) | (with_reducible exact T2.out.flat) | (with_reducible exact T1.out.flat)) (first
        | (go_at_call 156; with_reducible refine (HS.out _).mono ?_; rintro e wa ⟨rfl, hB⟩; have T2 := hid (T1.out.on hB); clear hB)
        | (go_at_call 161; with_reducible refine (WR.out _).mono ?_; rintro e wb ⟨rfl, hB⟩; have T3 := hid (T2.out.on hB); clear hB))
      go_wp2_with fail
      go_ret
      exact ⟨rfl, T3.out.bel⟩
set_option maxRecDepth 100000 in
set_option maxHeartbeats 4000000 in
theorem pbody_e (V F W P d : Int) (w : World) (hT : Tab w) (v0 : 0 ≤ V) (v1 : V < 256) (hV : V = 101 ∨ V = 69) (f0 : 0 ≤ F) (f1 : F ≤ 31) (p0 : -1 ≤ P) (p1 : P ≤ 4096) (h0 : 0 ≤ d) (h1 : d < 18446744073709551616) (hf : Ie.fnt d = true) :
    Calls Tryz.prog 103 #[.agg #[.int .u8 V, .int .i64 F, .int .i64 W, .int .i64 P], .int .u64 d] w fun e w' => e = .returned (.string (strOfNums (Po.bdE V (Wh.bit F 8) d (Po.pr P)))) ∧ Below w.heap.size w w' := by
  obtain ⟨q0, q1⟩ := Po.pr_bd p0 p1
  have K := Po.fgF hf (n := Po.pr P + 1) (by omega) (by omega)
  have PA : Hid (∀ wk, Tab wk → Calls Tryz.prog 158 #[.int .u8 V, .int .u64 d, .int .i64 (Po.pr P)] wk fun e w' => e = .returned (NumV ((Fx.gS d (Po.pr P + 1)).take 1) ((Fx.gS d (Po.pr P + 1)).drop 1) (Po.ex V (Fx.gK d (Po.pr P + 1)))) ∧ Below wk.heap.size wk w') := fun wk h => ppowered_any V d (Po.pr P) wk h v0 v1 h0 h1 hf q0 (by omega)
  have WR : Hid (∀ wk, Calls Tryz.prog 161 #[NumV ((Fx.gS d (Po.pr P + 1)).take 1) ((Fx.gS d (Po.pr P + 1)).drop 1) (Po.ex V (Fx.gK d (Po.pr P + 1))), .bool (Wh.bit F 8)] wk fun e w' => e = .returned (.string (strOfNums (Po.bdE V (Wh.bit F 8) d (Po.pr P)))) ∧ Below wk.heap.size wk w') := fun wk => pwritten_any _ _ _ _ wk (Po.digs_by (Po.digs_take K.s _)) (Po.digs_by (Po.digs_drop K.s _)) (Po.ex_by _ _) (by rw [List.length_take]; omega) (by have := K.len; rw [List.length_drop]; omega) (by have := Po.ex_len (V := V) (k := Fx.gK d (Po.pr P + 1)) (by have := K.lo; omega) (by have := K.hi; omega); omega)
  have B := hid (BD.new w V F W P)
  have TT := hid (hT.below (BD.new w V F W P).bel)
  have HS : Hid (∀ wk, Calls Tryz.prog 156 #[.agg #[.int .u8 V, .int .i64 F, .int .i64 W, .int .i64 P], .int .i64 8] wk fun e w' => e = .returned (.bool (Wh.bit F 8)) ∧ Below wk.heap.size wk w') := by
    intro wk
    have q := phas_any V F W P 8 wk
    rw [Po.hb_is f0 f1 (by omega)] at q
    exact q
  unfold NumV at PA WR
  have PR : Hid (Po.pr P = if P = -1 then 6 else P) := rfl
  clear hT h0 h1 hf K f0 f1
  generalize Po.bdE V (Wh.bit F 8) d (Po.pr P) = R at *
  generalize (Fx.gS d (Po.pr P + 1)).take 1 = x at *
  generalize (Fx.gS d (Po.pr P + 1)).drop 1 = y at *
  generalize Po.ex V (Fx.gK d (Po.pr P + 1)) = z at *
  generalize Wh.bit F 8 = hh at *
  generalize Po.pr P = pp at *
  rcases hV with rfl | rfl
  · by_cases hP : P = -1
    · have e6 : pp = 6 := by rw [PR.out, if_pos hP]
      subst e6
      subst hP
      clear PR
      go_enter Tryz.func103, Tryz.ntmps103
      go_wp2_with fail
      with_reducible refine (PA.out _ TT.out).mono ?_
      rintro e w1 ⟨rfl, b1⟩
      have B1 := hid (B.out.on b1)
      have B2 := hid (B1.out.put x y z)
      obtain ⟨⟨s0, s1, s2, s3⟩, ⟨c0, c1, c2⟩, g0, g1, g2⟩ := B1.out.cells
      clear b1 B PA TT
      go_upto_region 15 with fail
      have T1 := hid B2.out.drew
      go_region_held3 (fun wx => (wx.cell? ⟨w.heap.size, 0, none⟩ = some (.int .u8 101) ∧ wx.cell? ⟨w.heap.size, 1, none⟩ = some (.int .i64 F) ∧ wx.cell? ⟨w.heap.size, 2, none⟩ = some (.int .i64 W) ∧ wx.cell? ⟨w.heap.size, 3, none⟩ = some (.int .i64 (-1))) ∧ (wx.cell? ⟨w.heap.size + 1, 0, none⟩ = some (.string (strOfNums x)) ∧ wx.cell? ⟨w.heap.size + 1, 1, none⟩ = some (.string (strOfNums y)) ∧ wx.cell? ⟨w.heap.size + 1, 2, none⟩ = some (.string (strOfNums z)))) (first | (with_reducible exact T3.out.flat) | (with_reducible exact T2.out.flat) | (with_reducible exact T1.out.flat)) (first
        | (go_at_call 156; with_reducible refine (HS.out _).mono ?_; rintro e wa ⟨rfl, hB⟩; have T2 := hid (T1.out.on hB); clear hB)
        | (go_at_call 161; with_reducible refine (WR.out _).mono ?_; rintro e wb ⟨rfl, hB⟩; have T3 := hid (T2.out.on hB); clear hB))
      go_wp2_with fail
      go_ret
      exact ⟨rfl, T3.out.bel⟩
    · have e6 : P = pp := by rw [PR.out, if_neg hP]
      have hne : (pp == -1) = false := by rw [← e6]; simpa using hP
      subst e6
      clear PR hP
      go_enter Tryz.func103, Tryz.ntmps103
      go_wp2_with fail
      with_reducible refine (PA.out _ TT.out).mono ?_
      rintro e w1 ⟨rfl, b1⟩
      have B1 := hid (B.out.on b1)
      have B2 := hid (B1.out.put x y z)
      obtain ⟨⟨s0, s1, s2, s3⟩, ⟨c0, c1, c2⟩, g0, g1, g2⟩ := B1.out.cells
      clear b1 B PA TT
      go_upto_region 15 with fail
      have T1 := hid B2.out.drew
      go_region_held3 (fun wx => (wx.cell? ⟨w.heap.size, 0, none⟩ = some (.int .u8 101) ∧ wx.cell? ⟨w.heap.size, 1, none⟩ = some (.int .i64 F) ∧ wx.cell? ⟨w.heap.size, 2, none⟩ = some (.int .i64 W) ∧ wx.cell? ⟨w.heap.size, 3, none⟩ = some (.int .i64 P)) ∧ (wx.cell? ⟨w.heap.size + 1, 0, none⟩ = some (.string (strOfNums x)) ∧ wx.cell? ⟨w.heap.size + 1, 1, none⟩ = some (.string (strOfNums y)) ∧ wx.cell? ⟨w.heap.size + 1, 2, none⟩ = some (.string (strOfNums z)))) (first | (with_reducible exact T3.out.flat) | (with_reducible exact T2.out.flat) | (with_reducible exact T1.out.flat)) (first
        | (go_at_call 156; with_reducible refine (HS.out _).mono ?_; rintro e wa ⟨rfl, hB⟩; have T2 := hid (T1.out.on hB); clear hB)
        | (go_at_call 161; with_reducible refine (WR.out _).mono ?_; rintro e wb ⟨rfl, hB⟩; have T3 := hid (T2.out.on hB); clear hB))
      go_wp2_with fail
      go_ret
      exact ⟨rfl, T3.out.bel⟩
  · by_cases hP : P = -1
    · have e6 : pp = 6 := by rw [PR.out, if_pos hP]
      subst e6
      subst hP
      clear PR
      go_enter Tryz.func103, Tryz.ntmps103
      go_wp2_with fail
      with_reducible refine (PA.out _ TT.out).mono ?_
      rintro e w1 ⟨rfl, b1⟩
      have B1 := hid (B.out.on b1)
      have B2 := hid (B1.out.put x y z)
      obtain ⟨⟨s0, s1, s2, s3⟩, ⟨c0, c1, c2⟩, g0, g1, g2⟩ := B1.out.cells
      clear b1 B PA TT
      go_upto_region 15 with fail
      have T1 := hid B2.out.drew
      go_region_held3 (fun wx => (wx.cell? ⟨w.heap.size, 0, none⟩ = some (.int .u8 69) ∧ wx.cell? ⟨w.heap.size, 1, none⟩ = some (.int .i64 F) ∧ wx.cell? ⟨w.heap.size, 2, none⟩ = some (.int .i64 W) ∧ wx.cell? ⟨w.heap.size, 3, none⟩ = some (.int .i64 (-1))) ∧ (wx.cell? ⟨w.heap.size + 1, 0, none⟩ = some (.string (strOfNums x)) ∧ wx.cell? ⟨w.heap.size + 1, 1, none⟩ = some (.string (strOfNums y)) ∧ wx.cell? ⟨w.heap.size + 1, 2, none⟩ = some (.string (strOfNums z)))) (first | (with_reducible exact T3.out.flat) | (with_reducible exact T2.out.flat) | (with_reducible exact T1.out.flat)) (first
        | (go_at_call 156; with_reducible refine (HS.out _).mono ?_; rintro e wa ⟨rfl, hB⟩; have T2 := hid (T1.out.on hB); clear hB)
        | (go_at_call 161; with_reducible refine (WR.out _).mono ?_; rintro e wb ⟨rfl, hB⟩; have T3 := hid (T2.out.on hB); clear hB))
      go_wp2_with fail
      go_ret
      exact ⟨rfl, T3.out.bel⟩
    · have e6 : P = pp := by rw [PR.out, if_neg hP]
      have hne : (pp == -1) = false := by rw [← e6]; simpa using hP
      subst e6
      clear PR hP
      go_enter Tryz.func103, Tryz.ntmps103
      go_wp2_with fail
      with_reducible refine (PA.out _ TT.out).mono ?_
      rintro e w1 ⟨rfl, b1⟩
      have B1 := hid (B.out.on b1)
      have B2 := hid (B1.out.put x y z)
      obtain ⟨⟨s0, s1, s2, s3⟩, ⟨c0, c1, c2⟩, g0, g1, g2⟩ := B1.out.cells
      clear b1 B PA TT
      go_upto_region 15 with fail
      have T1 := hid B2.out.drew
      go_region_held3 (fun wx => (wx.cell? ⟨w.heap.size, 0, none⟩ = some (.int .u8 69) ∧ wx.cell? ⟨w.heap.size, 1, none⟩ = some (.int .i64 F) ∧ wx.cell? ⟨w.heap.size, 2, none⟩ = some (.int .i64 W) ∧ wx.cell? ⟨w.heap.size, 3, none⟩ = some (.int .i64 P)) ∧ (wx.cell? ⟨w.heap.size + 1, 0, none⟩ = some (.string (strOfNums x)) ∧ wx.cell? ⟨w.heap.size + 1, 1, none⟩ = some (.string (strOfNums y)) ∧ wx.cell? ⟨w.heap.size + 1, 2, none⟩ = some (.string (strOfNums z)))) (first | (with_reducible exact T3.out.flat) | (with_reducible exact T2.out.flat) | (with_reducible exact T1.out.flat)) (first
        | (go_at_call 156; with_reducible refine (HS.out _).mono ?_; rintro e wa ⟨rfl, hB⟩; have T2 := hid (T1.out.on hB); clear hB)
        | (go_at_call 161; with_reducible refine (WR.out _).mono ?_; rintro e wb ⟨rfl, hB⟩; have T3 := hid (T2.out.on hB); clear hB))
      go_wp2_with fail
      go_ret
      exact ⟨rfl, T3.out.bel⟩
set_option maxRecDepth 100000 in
set_option maxHeartbeats 4000000 in
theorem pbody_g (V F W P d : Int) (w : World) (hT : Tab w) (v0 : 0 ≤ V) (v1 : V < 256) (hV : V ≠ 102 ∧ V ≠ 70 ∧ V ≠ 101 ∧ V ≠ 69) (f0 : 0 ≤ F) (f1 : F ≤ 31) (p0 : -1 ≤ P) (p1 : P ≤ 4096) (h0 : 0 ≤ d) (h1 : d < 18446744073709551616) (hf : Ie.fnt d = true) :
    Calls Tryz.prog 103 #[.agg #[.int .u8 V, .int .i64 F, .int .i64 W, .int .i64 P], .int .u64 d] w fun e w' => e = .returned (.string (strOfNums (Po.bdG V (Wh.bit F 8) d (max (Po.pr P) 1)))) ∧ Below w.heap.size w w' := by
  obtain ⟨q0, q1⟩ := Po.pr_bd p0 p1
  have key : ∃ x y z : List Int, Hid (∀ wk, Tab wk → Calls Tryz.prog 159 #[.int .u8 V, .int .u64 d, .int .i64 (max (Po.pr P) 1)] wk fun e w' => e = .returned (NumV x y z) ∧ Below wk.heap.size wk w') ∧
      Hid (∀ wk, Calls Tryz.prog 161 #[NumV x (Po.st (Wh.bit F 8) y) z, .bool (Wh.bit F 8)] wk fun e w' => e = .returned (.string (strOfNums (Po.bdG V (Wh.bit F 8) d (max (Po.pr P) 1)))) ∧ Below wk.heap.size wk w') ∧ Wh.By y ∧ y.length ≤ 10000 := by
    have K := Po.fgF hf (n := max (Po.pr P) 1) (by omega) (by omega)
    have GN : ∀ wk, Tab wk → _ := fun wk h => pgeneral_any V d (max (Po.pr P) 1) wk h v0 v1 h0 h1 hf (by omega) (by omega)
    by_cases g : -4 ≤ Fx.gK d (max (Po.pr P) 1) ∧ Fx.gK d (max (Po.pr P) 1) < max (Po.pr P) 1
    · have J := Po.plF hf (n := max (Po.pr P) 1 - 1 - Fx.gK d (max (Po.pr P) 1)) (by omega) (by omega)
      simp only [if_pos g] at GN
      refine ⟨_, _, _, GN, fun wk => ?_, Po.digs_by J.b, by have := J.lb; omega⟩
      have q := pwritten_any (Fx.pA d (max (Po.pr P) 1 - 1 - Fx.gK d (max (Po.pr P) 1))) (Po.st (Wh.bit F 8) (Fx.pB d (max (Po.pr P) 1 - 1 - Fx.gK d (max (Po.pr P) 1)))) [] (Wh.bit F 8) wk (Po.digs_by J.a) (Po.digs_by (Po.digs_st _ J.b)) Wh.By.nil (by have := J.la; omega) (by have := J.lb; have := Po.st_len (Wh.bit F 8) (Fx.pB d (max (Po.pr P) 1 - 1 - Fx.gK d (max (Po.pr P) 1))); omega) (by simp)
      unfold Po.bdG
      rw [if_pos g]
      exact q
    · simp only [if_neg g] at GN
      have ln := K.len
      refine ⟨_, _, _, GN, fun wk => ?_, Po.digs_by (Po.digs_drop K.s _), by rw [List.length_drop]; omega⟩
      have q := pwritten_any ((Fx.gS d (max (Po.pr P) 1)).take 1) (Po.st (Wh.bit F 8) ((Fx.gS d (max (Po.pr P) 1)).drop 1)) (Po.ex V (Fx.gK d (max (Po.pr P) 1))) (Wh.bit F 8) wk (Po.digs_by (Po.digs_take K.s _)) (Po.digs_by (Po.digs_st _ (Po.digs_drop K.s _))) (Po.ex_by _ _) (by rw [List.length_take]; omega) (by have := Po.st_len (Wh.bit F 8) ((Fx.gS d (max (Po.pr P) 1)).drop 1); rw [List.length_drop] at this; omega) (by have := Po.ex_len (V := V) (k := Fx.gK d (max (Po.pr P) 1)) (by have := K.lo; omega) (by have := K.hi; omega); omega)
      unfold Po.bdG
      rw [if_neg g]
      exact q
  obtain ⟨x, y, z, PA, WR, yb, yl⟩ := key
  have TR := hid (fun wk => ptrim_any y wk yb (by omega))
  have B := hid (BD.new w V F W P)
  have TT := hid (hT.below (BD.new w V F W P).bel)
  have HS : Hid (∀ wk, Calls Tryz.prog 156 #[.agg #[.int .u8 V, .int .i64 F, .int .i64 W, .int .i64 P], .int .i64 8] wk fun e w' => e = .returned (.bool (Wh.bit F 8)) ∧ Below wk.heap.size wk w') := by
    intro wk
    have q := phas_any V F W P 8 wk
    rw [Po.hb_is f0 f1 (by omega)] at q
    exact q
  unfold NumV at PA WR
  have PR : Hid (Po.pr P = if P = -1 then 6 else P) := rfl
  have n1 : (V == 102) = false := by simpa using hV.1
  have n2 : (V == 70) = false := by simpa using hV.2.1
  have n3 : (V == 101) = false := by simpa using hV.2.2.1
  have n4 : (V == 69) = false := by simpa using hV.2.2.2
  clear hT h0 h1 hf f0 f1 v0 v1 yb yl hV
  generalize Po.bdG V (Wh.bit F 8) d (max (Po.pr P) 1) = R at *
  have E1 : Hid (Wh.bit F 8 = true → Po.st (Wh.bit F 8) y = y) := fun h => by unfold Po.st; rw [if_pos h]
  have E2 : Hid (Wh.bit F 8 = false → Po.st (Wh.bit F 8) y = Po.sp y) := fun h => by unfold Po.st; rw [if_neg (by rw [h]; decide)]
  generalize Wh.bit F 8 = hh at *
  generalize Po.st hh y = ys at *
  generalize Po.sp y = y2 at *
  obtain ⟨mm, hmm⟩ : ∃ mm, max (Po.pr P) 1 = mm := ⟨_, rfl⟩
  rw [hmm] at PA
  cases hh with
  | true =>
    have e := E1.out rfl
    subst e
    clear E1 E2
    by_cases hP : P = -1
    · have e6 : mm = 6 := by rw [← hmm, PR.out, if_pos hP]; decide
      subst e6
      subst hP
      clear PR hmm
      have m61 : max (6 : Int) 1 = 6 := by decide
      go_enter Tryz.func103, Tryz.ntmps103
      go_wp2_with fail
      with_reducible refine (PA.out _ TT.out).mono ?_
      rintro e w1 ⟨rfl, b1⟩
      have B1 := hid (B.out.on b1)
      have B2 := hid (B1.out.put x ys z)
      obtain ⟨⟨s0, s1, s2, s3⟩, ⟨c0, c1, c2⟩, g0, g1, g2⟩ := B1.out.cells
      clear b1 B PA TT
      go_upto_region 7 with fail
      generalize ((w1.setCell ⟨w.heap.size + 1, 0, none⟩ (.string (strOfNums x))).setCell ⟨w.heap.size + 1, 1, none⟩ (.string (strOfNums ys))).setCell ⟨w.heap.size + 1, 2, none⟩ (.string (strOfNums z)) = w2 at *
      clear s0 s1 s2 s3 c0 c1 c2 g0 g1 g2 B1
      obtain ⟨⟨s0, s1, s2, s3⟩, ⟨c0, c1, c2⟩, g0, g1, g2⟩ := B2.out.cells
      go_wp2_with fail
      with_reducible refine (HS.out _).mono ?_
      rintro e w3 ⟨rfl, b3⟩
      have B3 := hid (B2.out.on b3)
      clear s0 s1 s2 s3 c0 c1 c2 g0 g1 g2 B2 b3
      obtain ⟨⟨s0, s1, s2, s3⟩, ⟨c0, c1, c2⟩, g0, g1, g2⟩ := B3.out.cells
      go_upto_region 15 with fail
      have T1 := hid B3.out.drew
      go_region_held3 (fun wx => (wx.cell? ⟨w.heap.size, 0, none⟩ = some (.int .u8 V) ∧ wx.cell? ⟨w.heap.size, 1, none⟩ = some (.int .i64 F) ∧ wx.cell? ⟨w.heap.size, 2, none⟩ = some (.int .i64 W) ∧ wx.cell? ⟨w.heap.size, 3, none⟩ = some (.int .i64 (-1))) ∧ (wx.cell? ⟨w.heap.size + 1, 0, none⟩ = some (.string (strOfNums x)) ∧ wx.cell? ⟨w.heap.size + 1, 1, none⟩ = some (.string (strOfNums ys)) ∧ wx.cell? ⟨w.heap.size + 1, 2, none⟩ = some (.string (strOfNums z)))) (first | (with_reducible exact T3.out.flat) | (with_reducible exact T2.out.flat) | (with_reducible exact T1.out.flat)) (first
        | (go_at_call 156; with_reducible refine (HS.out _).mono ?_; rintro e wa ⟨rfl, hB⟩; have T2 := hid (T1.out.on hB); clear hB)
        | (go_at_call 161; with_reducible refine (WR.out _).mono ?_; rintro e wb ⟨rfl, hB⟩; have T3 := hid (T2.out.on hB); clear hB))
      go_wp2_with fail
      go_ret
      exact ⟨rfl, T3.out.bel⟩
    · have e6 : max P 1 = mm := by rw [← hmm, PR.out, if_neg hP]
      have hne : (P == -1) = false := by simpa using hP
      clear PR hP hmm
      go_enter Tryz.func103, Tryz.ntmps103
      go_wp2_with fail
      with_reducible refine (PA.out _ TT.out).mono ?_
      rintro e w1 ⟨rfl, b1⟩
      have B1 := hid (B.out.on b1)
      have B2 := hid (B1.out.put x ys z)
      obtain ⟨⟨s0, s1, s2, s3⟩, ⟨c0, c1, c2⟩, g0, g1, g2⟩ := B1.out.cells
      clear b1 B PA TT
      go_upto_region 7 with fail
      generalize ((w1.setCell ⟨w.heap.size + 1, 0, none⟩ (.string (strOfNums x))).setCell ⟨w.heap.size + 1, 1, none⟩ (.string (strOfNums ys))).setCell ⟨w.heap.size + 1, 2, none⟩ (.string (strOfNums z)) = w2 at *
      clear s0 s1 s2 s3 c0 c1 c2 g0 g1 g2 B1
      obtain ⟨⟨s0, s1, s2, s3⟩, ⟨c0, c1, c2⟩, g0, g1, g2⟩ := B2.out.cells
      go_wp2_with fail
      with_reducible refine (HS.out _).mono ?_
      rintro e w3 ⟨rfl, b3⟩
      have B3 := hid (B2.out.on b3)
      clear s0 s1 s2 s3 c0 c1 c2 g0 g1 g2 B2 b3
      obtain ⟨⟨s0, s1, s2, s3⟩, ⟨c0, c1, c2⟩, g0, g1, g2⟩ := B3.out.cells
      go_upto_region 15 with fail
      have T1 := hid B3.out.drew
      go_region_held3 (fun wx => (wx.cell? ⟨w.heap.size, 0, none⟩ = some (.int .u8 V) ∧ wx.cell? ⟨w.heap.size, 1, none⟩ = some (.int .i64 F) ∧ wx.cell? ⟨w.heap.size, 2, none⟩ = some (.int .i64 W) ∧ wx.cell? ⟨w.heap.size, 3, none⟩ = some (.int .i64 P)) ∧ (wx.cell? ⟨w.heap.size + 1, 0, none⟩ = some (.string (strOfNums x)) ∧ wx.cell? ⟨w.heap.size + 1, 1, none⟩ = some (.string (strOfNums ys)) ∧ wx.cell? ⟨w.heap.size + 1, 2, none⟩ = some (.string (strOfNums z)))) (first | (with_reducible exact T3.out.flat) | (with_reducible exact T2.out.flat) | (with_reducible exact T1.out.flat)) (first
        | (go_at_call 156; with_reducible refine (HS.out _).mono ?_; rintro e wa ⟨rfl, hB⟩; have T2 := hid (T1.out.on hB); clear hB)
        | (go_at_call 161; with_reducible refine (WR.out _).mono ?_; rintro e wb ⟨rfl, hB⟩; have T3 := hid (T2.out.on hB); clear hB))
      go_wp2_with fail
      go_ret
      exact ⟨rfl, T3.out.bel⟩
  | false =>
    have e := E2.out rfl
    subst e
    clear E1 E2
    by_cases hP : P = -1
    · have e6 : mm = 6 := by rw [← hmm, PR.out, if_pos hP]; decide
      subst e6
      subst hP
      clear PR hmm
      have m61 : max (6 : Int) 1 = 6 := by decide
      go_enter Tryz.func103, Tryz.ntmps103
      go_wp2_with fail
      with_reducible refine (PA.out _ TT.out).mono ?_
      rintro e w1 ⟨rfl, b1⟩
      have B1 := hid (B.out.on b1)
      have B2 := hid (B1.out.put x y z)
      obtain ⟨⟨s0, s1, s2, s3⟩, ⟨c0, c1, c2⟩, g0, g1, g2⟩ := B1.out.cells
      clear b1 B PA TT
      go_upto_region 7 with fail
      generalize ((w1.setCell ⟨w.heap.size + 1, 0, none⟩ (.string (strOfNums x))).setCell ⟨w.heap.size + 1, 1, none⟩ (.string (strOfNums y))).setCell ⟨w.heap.size + 1, 2, none⟩ (.string (strOfNums z)) = w2 at *
      clear s0 s1 s2 s3 c0 c1 c2 g0 g1 g2 B1
      obtain ⟨⟨s0, s1, s2, s3⟩, ⟨c0, c1, c2⟩, g0, g1, g2⟩ := B2.out.cells
      go_wp2_with fail
      with_reducible refine (HS.out _).mono ?_
      rintro e w3 ⟨rfl, b3⟩
      have B3 := hid (B2.out.on b3)
      clear s0 s1 s2 s3 c0 c1 c2 g0 g1 g2 B2 b3
      obtain ⟨⟨s0, s1, s2, s3⟩, ⟨c0, c1, c2⟩, g0, g1, g2⟩ := B3.out.cells
      go_wp2_with fail
      with_reducible refine (TR.out _).mono ?_
      rintro e w4 ⟨rfl, hw4⟩
      rw [hw4]
      clear hw4 w4
      have B4 := hid (B3.out.put1 ys)
      go_upto_region 15 with fail
      have T1 := hid B4.out.drew
      go_region_held3 (fun wx => (wx.cell? ⟨w.heap.size, 0, none⟩ = some (.int .u8 V) ∧ wx.cell? ⟨w.heap.size, 1, none⟩ = some (.int .i64 F) ∧ wx.cell? ⟨w.heap.size, 2, none⟩ = some (.int .i64 W) ∧ wx.cell? ⟨w.heap.size, 3, none⟩ = some (.int .i64 (-1))) ∧ (wx.cell? ⟨w.heap.size + 1, 0, none⟩ = some (.string (strOfNums x)) ∧ wx.cell? ⟨w.heap.size + 1, 1, none⟩ = some (.string (strOfNums ys)) ∧ wx.cell? ⟨w.heap.size + 1, 2, none⟩ = some (.string (strOfNums z)))) (first | (with_reducible exact T3.out.flat) | (with_reducible exact T2.out.flat) | (with_reducible exact T1.out.flat)) (first
        | (go_at_call 156; with_reducible refine (HS.out _).mono ?_; rintro e wa ⟨rfl, hB⟩; have T2 := hid (T1.out.on hB); clear hB)
        | (go_at_call 161; with_reducible refine (WR.out _).mono ?_; rintro e wb ⟨rfl, hB⟩; have T3 := hid (T2.out.on hB); clear hB))
      go_wp2_with fail
      go_ret
      exact ⟨rfl, T3.out.bel⟩
    · have e6 : max P 1 = mm := by rw [← hmm, PR.out, if_neg hP]
      have hne : (P == -1) = false := by simpa using hP
      clear PR hP hmm
      go_enter Tryz.func103, Tryz.ntmps103
      go_wp2_with fail
      with_reducible refine (PA.out _ TT.out).mono ?_
      rintro e w1 ⟨rfl, b1⟩
      have B1 := hid (B.out.on b1)
      have B2 := hid (B1.out.put x y z)
      obtain ⟨⟨s0, s1, s2, s3⟩, ⟨c0, c1, c2⟩, g0, g1, g2⟩ := B1.out.cells
      clear b1 B PA TT
      go_upto_region 7 with fail
      generalize ((w1.setCell ⟨w.heap.size + 1, 0, none⟩ (.string (strOfNums x))).setCell ⟨w.heap.size + 1, 1, none⟩ (.string (strOfNums y))).setCell ⟨w.heap.size + 1, 2, none⟩ (.string (strOfNums z)) = w2 at *
      clear s0 s1 s2 s3 c0 c1 c2 g0 g1 g2 B1
      obtain ⟨⟨s0, s1, s2, s3⟩, ⟨c0, c1, c2⟩, g0, g1, g2⟩ := B2.out.cells
      go_wp2_with fail
      with_reducible refine (HS.out _).mono ?_
      rintro e w3 ⟨rfl, b3⟩
      have B3 := hid (B2.out.on b3)
      clear s0 s1 s2 s3 c0 c1 c2 g0 g1 g2 B2 b3
      obtain ⟨⟨s0, s1, s2, s3⟩, ⟨c0, c1, c2⟩, g0, g1, g2⟩ := B3.out.cells
      go_wp2_with fail
      with_reducible refine (TR.out _).mono ?_
      rintro e w4 ⟨rfl, hw4⟩
      rw [hw4]
      clear hw4 w4
      have B4 := hid (B3.out.put1 ys)
      go_upto_region 15 with fail
      have T1 := hid B4.out.drew
      go_region_held3 (fun wx => (wx.cell? ⟨w.heap.size, 0, none⟩ = some (.int .u8 V) ∧ wx.cell? ⟨w.heap.size, 1, none⟩ = some (.int .i64 F) ∧ wx.cell? ⟨w.heap.size, 2, none⟩ = some (.int .i64 W) ∧ wx.cell? ⟨w.heap.size, 3, none⟩ = some (.int .i64 P)) ∧ (wx.cell? ⟨w.heap.size + 1, 0, none⟩ = some (.string (strOfNums x)) ∧ wx.cell? ⟨w.heap.size + 1, 1, none⟩ = some (.string (strOfNums ys)) ∧ wx.cell? ⟨w.heap.size + 1, 2, none⟩ = some (.string (strOfNums z)))) (first | (with_reducible exact T3.out.flat) | (with_reducible exact T2.out.flat) | (with_reducible exact T1.out.flat)) (first
        | (go_at_call 156; with_reducible refine (HS.out _).mono ?_; rintro e wa ⟨rfl, hB⟩; have T2 := hid (T1.out.on hB); clear hB)
        | (go_at_call 161; with_reducible refine (WR.out _).mono ?_; rintro e wb ⟨rfl, hB⟩; have T3 := hid (T2.out.on hB); clear hB))
      go_wp2_with fail
      go_ret
      exact ⟨rfl, T3.out.bel⟩

theorem pbody_any (V F W P d : Int) (w : World) (hT : Tab w) (v0 : 0 ≤ V) (v1 : V < 256) (f0 : 0 ≤ F) (f1 : F ≤ 31) (p0 : -1 ≤ P) (p1 : P ≤ 4096) (h0 : 0 ≤ d) (h1 : d < 18446744073709551616) (hf : Ie.fnt d = true) :
    Calls Tryz.prog 103 #[.agg #[.int .u8 V, .int .i64 F, .int .i64 W, .int .i64 P], .int .u64 d] w fun e w' => e = .returned (.string (strOfNums (Po.bd V (Wh.bit F 8) P d))) ∧ Below w.heap.size w w' := by
  unfold Po.bd
  by_cases c1 : V = 102 ∨ V = 70
  · rw [if_pos c1]; exact pbody_f V F W P d w hT v0 v1 c1 f0 f1 p0 p1 h0 h1 hf
  · rw [if_neg c1]
    by_cases c2 : V = 101 ∨ V = 69
    · rw [if_pos c2]; exact pbody_e V F W P d w hT v0 v1 c2 f0 f1 p0 p1 h0 h1 hf
    · rw [if_neg c2]; exact pbody_g V F W P d w hT v0 v1 (by omega) f0 f1 p0 p1 h0 h1 hf
end Go.Proofs.YtiflponlioldmaaGreatDoor

namespace Go.Proofs.YtiflponlioldmaaGreatDoor
open Go Go.RowKit Go.Deep
namespace Po

/-- What is padded. -/
noncomputable def tb (V F P d : Int) : List Int := if Ie.fnt d = true then bd V (Wh.bit F 8) P d else nm (cap V) (Ie.cls d)
theorem ren_pad {V F W P d : Int} (h : renE V F W P = 0) : ren V F W P d = Wh.padT F W (Ie.fnt d) (Wh.sgn F (ng d)) (tb V F P d) := by
  unfold ren tb
  rw [if_pos h]
  by_cases c : Ie.fnt d = true
  · rw [if_pos c, if_pos c, c]
  · rw [if_neg c, if_neg c, show Ie.fnt d = false by simpa using c]
theorem renE_ok {V F W P : Int} (h : renE V F W P = 0) : okV V = true ∧ Wh.chk F W P = 0 := by
  unfold renE at h
  split at h
  · next c => exact ⟨c, h⟩
  · omega
theorem renE_zero {V F W P : Int} (h : renE V F W P = 0) : renE V F 0 P = 0 := by
  obtain ⟨a, b⟩ := renE_ok h
  obtain ⟨f, w, p⟩ := Wh.chk_ok b
  unfold renE
  rw [if_pos a]
  exact Wh.chk_of ⟨f, by omega, p⟩
theorem cls_of {d : Int} (h : Ie.fnt d = false) : Ie.cls d = 3 ∨ Ie.cls d = 4 := by
  unfold Ie.fnt at h
  rw [decide_eq_false_iff_not] at h
  unfold Ie.cls at *
  split at h
  · split at h <;> omega
  · split at h
    · rename_i a b
      rw [if_neg a, if_pos b]
      split <;> omega
    · omega
theorem sgn_bit {F G : Int} (b : Bool) (h2 : Wh.bit F 2 = Wh.bit G 2) (h4 : Wh.bit F 4 = Wh.bit G 4) : Wh.sgn F b = Wh.sgn G b := by unfold Wh.sgn; rw [h2, h4]
theorem tb_bit {V F G P d : Int} (h : Wh.bit F 8 = Wh.bit G 8) : tb V F P d = tb V G P d := by unfold tb; rw [h]

/-- Digits ahead, whatever follows. -/
theorem wrt_head {a b p : List Int} {h : Bool} (ha : Digs a) (hne : a ≠ []) : ∃ x ys, wrt a b p h = x :: ys ∧ 48 ≤ x ∧ x ≤ 57 := by
  match a, hne with
  | x :: l, _ =>
    unfold wrt
    have := ha x (by simp)
    split
    · exact ⟨x, l ++ p, rfl, this⟩
    · exact ⟨x, l ++ 46 :: (b ++ p), rfl, this⟩
theorem take1 {xs : List Int} (h : 1 ≤ xs.length) : xs.take 1 ≠ [] := by
  intro c
  have : (xs.take 1).length = 0 := by rw [c]; rfl
  rw [List.length_take] at this
  omega
theorem bd_head {V P d : Int} (h : Bool) (hf : Ie.fnt d = true) (p0 : -1 ≤ P) (p1 : P ≤ 4096) : ∃ x ys, bd V h P d = x :: ys ∧ 48 ≤ x ∧ x ≤ 57 := by
  obtain ⟨q0, q1⟩ := pr_bd p0 p1
  unfold bd
  split
  · have k := plF hf q0 (by omega)
    exact wrt_head k.a k.ane
  · split
    · have k := fgF hf (n := pr P + 1) (by omega) (by omega)
      exact wrt_head (digs_take k.s _) (take1 (by have := k.len; omega))
    · have k := fgF hf (n := max (pr P) 1) (by omega) (by omega)
      unfold bdG
      split
      · rename_i g
        have j := plF hf (n := max (pr P) 1 - 1 - Fx.gK d (max (pr P) 1)) (by omega) (by omega)
        exact wrt_head j.a j.ane
      · exact wrt_head (digs_take k.s _) (take1 (by have := k.len; omega))
theorem nm_head {c : Bool} {k : Int} (h : k = 3 ∨ k = 4) : ∃ x ys, nm c k = x :: ys ∧ 48 ≤ x ∧ x ≤ 122 := by
  unfold nm
  rcases h with rfl | rfl
  · rw [if_pos rfl]; cases c
    · exact ⟨_, _, if_neg Bool.false_ne_true, by omega, by omega⟩
    · exact ⟨_, _, if_pos rfl, by omega, by omega⟩
  · rw [if_neg (by decide), if_pos rfl]; cases c
    · exact ⟨_, _, if_neg Bool.false_ne_true, by omega, by omega⟩
    · exact ⟨_, _, if_pos rfl, by omega, by omega⟩
theorem tb_head {V F P d : Int} (p0 : -1 ≤ P) (p1 : P ≤ 4096) : ∃ x ys, tb V F P d = x :: ys ∧ 48 ≤ x ∧ x ≤ 122 := by
  unfold tb
  split
  · next c =>
    obtain ⟨x, ys, e, a, b⟩ := bd_head (V := V) (Wh.bit F 8) c p0 p1
    exact ⟨x, ys, e, a, by omega⟩
  · next c => exact nm_head (cls_of (by simpa using c))
theorem tb_ok {V F P d : Int} (p0 : -1 ≤ P) (p1 : P ≤ 4096) : Wh.By (tb V F P d) ∧ (tb V F P d).length ≤ 20000 := by
  unfold tb
  split
  · next c => exact bd_ok _ c p0 p1
  · exact ⟨nm_by _ _, by have := nm_len (cap V) (Ie.cls d); omega⟩
theorem ren_len {V F W P d : Int} : (ren V F W P d).length ≤ 30000 ∧ Wh.By (ren V F W P d) := by
  by_cases h : renE V F W P = 0
  · obtain ⟨-, b⟩ := renE_ok h
    obtain ⟨f, w, p⟩ := Wh.chk_ok b
    have k := tb_ok (V := V) (F := F) (d := d) p.1 p.2
    have s := Wh.sgn_len F (ng d)
    rw [ren_pad h]
    refine ⟨?_, Wh.padT_by (Wh.sgn_by _ _) k.1⟩
    rw [Wh.padT_len]
    omega
  · unfold ren
    rw [if_neg h]
    exact ⟨by simp, Wh.By.nil⟩

/-- Small letters. -/
def low (x : Int) : Int := if 65 ≤ x ∧ x ≤ 90 then x + 32 else x
theorem low_id {x : Int} (h : ¬ (65 ≤ x ∧ x ≤ 90)) : low x = x := if_neg h
theorem map_id {xs : List Int} (h : ∀ x ∈ xs, ¬ (65 ≤ x ∧ x ≤ 90)) : xs.map low = xs := by
  induction xs with
  | nil => rfl
  | cons x l ih => rw [List.map_cons, low_id (h x (by simp)), ih (fun y hy => h y (by simp [hy]))]
theorem map_digs {xs : List Int} (h : Digs xs) : xs.map low = xs := map_id (fun x hx => by have := h x hx; omega)
theorem map_rep {c n : Int} (h : c = 32 ∨ c = 48) : (Wh.rep c n).map low = Wh.rep c n := map_id (fun x hx => by
  rw [Wh.rep, List.mem_replicate] at hx; omega)
theorem map_sgn (F : Int) (b : Bool) : (Wh.sgn F b).map low = Wh.sgn F b := map_id (fun x hx => by
  unfold Wh.sgn at hx
  split at hx
  · simp at hx; omega
  · split at hx
    · simp at hx; omega
    · split at hx
      · simp at hx; omega
      · simp at hx)
theorem xd_small {k : Int} (h0 : -400 ≤ k) (h1 : k ≤ 400) : ∀ x ∈ xd k, 43 ≤ x ∧ x ≤ 57 := by
  rw [xd_is h0 h1]
  intro x hx
  rcases List.mem_cons.1 hx with rfl | q
  · split <;> omega
  · have := Fx.tx_digs _ _ x q; omega
theorem map_ex {V v k : Int} (hV : cap V = true) (hv : cap v = false) (h0 : -400 ≤ k) (h1 : k ≤ 400) : (ex V k).map low = ex v k := by
  unfold ex
  rw [hV, hv, if_pos rfl, if_neg Bool.false_ne_true, List.map_cons, map_id (fun x hx => by have := xd_small h0 h1 x hx; omega)]
  rfl
theorem map_wrt {a b p q : List Int} {h : Bool} (ha : Digs a) (hb : Digs b) (hp : p.map low = q) : (wrt a b p h).map low = wrt a b q h := by
  unfold wrt
  split
  · rw [List.map_append, map_digs ha, hp]
  · rw [List.map_append, List.map_cons, List.map_append, map_digs ha, map_digs hb, hp]
    rfl
theorem map_bd {V P d : Int} (h : Bool) (hf : Ie.fnt d = true) (p0 : -1 ≤ P) (p1 : P ≤ 4096) (hV : V = 69 ∨ V = 70 ∨ V = 71) : (bd V h P d).map low = bd (V + 32) h P d := by
  obtain ⟨q0, q1⟩ := pr_bd p0 p1
  have cV : cap V = true := by unfold cap; rw [decide_eq_true_iff]; omega
  have cv : cap (V + 32) = false := by unfold cap; rw [decide_eq_false_iff_not]; omega
  unfold bd
  by_cases hF : V = 102 ∨ V = 70
  · rw [if_pos hF, if_pos (show V + 32 = 102 ∨ V + 32 = 70 by omega)]
    have k := plF hf q0 (by omega)
    exact map_wrt k.a k.b rfl
  · rw [if_neg hF, if_neg (show ¬ (V + 32 = 102 ∨ V + 32 = 70) by omega)]
    by_cases hE : V = 101 ∨ V = 69
    · rw [if_pos hE, if_pos (show V + 32 = 101 ∨ V + 32 = 69 by omega)]
      have k := fgF hf (n := pr P + 1) (by omega) (by omega)
      exact map_wrt (digs_take k.s _) (digs_drop k.s _) (map_ex cV cv (by have := k.lo; omega) (by have := k.hi; omega))
    · rw [if_neg hE, if_neg (show ¬ (V + 32 = 101 ∨ V + 32 = 69) by omega)]
      have k := fgF hf (n := max (pr P) 1) (by omega) (by omega)
      unfold bdG
      by_cases g : -4 ≤ Fx.gK d (max (pr P) 1) ∧ Fx.gK d (max (pr P) 1) < max (pr P) 1
      · rw [if_pos g, if_pos g]
        have j := plF hf (n := max (pr P) 1 - 1 - Fx.gK d (max (pr P) 1)) (by omega) (by omega)
        exact map_wrt j.a (digs_st h j.b) rfl
      · rw [if_neg g, if_neg g]
        exact map_wrt (digs_take k.s _) (digs_st h (digs_drop k.s _)) (map_ex cV cv (by have := k.lo; omega) (by have := k.hi; omega))
theorem map_tb {V F P d : Int} (p0 : -1 ≤ P) (p1 : P ≤ 4096) (hV : V = 69 ∨ V = 70 ∨ V = 71) : (tb V F P d).map low = tb (V + 32) F P d := by
  have cV : cap V = true := by unfold cap; rw [decide_eq_true_iff]; omega
  have cv : cap (V + 32) = false := by unfold cap; rw [decide_eq_false_iff_not]; omega
  unfold tb
  by_cases c : Ie.fnt d = true
  · rw [if_pos c, if_pos c]; exact map_bd _ c p0 p1 hV
  · rw [if_neg c, if_neg c, cV, cv]
    rcases cls_of (show Ie.fnt d = false by simpa using c) with e | e <;> rw [e] <;> rfl
theorem map_pad {F W : Int} {z : Bool} {h b c : List Int} (hh : h.map low = h) (hb : b.map low = c) : (Wh.padT F W z h b).map low = Wh.padT F W z h c := by
  have l : (b.length : Int) = c.length := by rw [← hb, List.length_map]
  unfold Wh.padT
  rw [l]
  split
  · rw [List.map_append, List.map_append, hh, hb, map_rep (.inl rfl)]
  · split
    · rw [List.map_append, List.map_append, hh, hb, map_rep (.inr rfl)]
    · rw [List.map_append, List.map_append, hh, hb, map_rep (.inl rfl)]
theorem map_ren {V F W P d : Int} (hV : V = 69 ∨ V = 70 ∨ V = 71) : (ren V F W P d).map low = ren (V + 32) F W P d := by
  have oV : okV V = true := by unfold okV; rw [decide_eq_true_iff]; omega
  have ov : okV (V + 32) = true := by unfold okV; rw [decide_eq_true_iff]; omega
  have e : renE V F W P = renE (V + 32) F W P := by unfold renE; rw [if_pos oV, if_pos ov]
  by_cases h : renE V F W P = 0
  · obtain ⟨-, b⟩ := renE_ok h
    obtain ⟨f, w, p⟩ := Wh.chk_ok b
    rw [ren_pad h, ren_pad (by rw [← e]; exact h)]
    exact map_pad (map_sgn _ _) (map_tb p.1 p.2 hV)
  · unfold ren
    rw [if_neg h, if_neg (by rw [← e]; exact h)]
    rfl
/-- No small letter. -/
def NoS (xs : List Int) : Prop := ∀ x ∈ xs, ¬ (97 ≤ x ∧ x ≤ 122)
theorem NoS.app {a b : List Int} (h : NoS a) (k : NoS b) : NoS (a ++ b) := by
  intro x hx
  rcases List.mem_append.1 hx with q | q
  · exact h x q
  · exact k x q
theorem NoS.digs {a : List Int} (h : Digs a) : NoS a := fun x hx => by have := h x hx; omega
theorem NoS.cons {c : Int} {a : List Int} (h0 : ¬ (97 ≤ c ∧ c ≤ 122)) (h : NoS a) : NoS (c :: a) := by
  intro x hx
  rcases List.mem_cons.1 hx with q | q
  · rw [q]; exact h0
  · exact h x q
theorem NoS.nil : NoS [] := by intro x h; simp at h
theorem nos_rep {c n : Int} (h : c = 32 ∨ c = 48) : NoS (Wh.rep c n) := fun x hx => by rw [Wh.rep, List.mem_replicate] at hx; omega
theorem nos_sgn (F : Int) (b : Bool) : NoS (Wh.sgn F b) := fun x hx => by
  unfold Wh.sgn at hx
  split at hx
  · simp at hx; omega
  · split at hx
    · simp at hx; omega
    · split at hx
      · simp at hx; omega
      · simp at hx
theorem nos_ex {V k : Int} (hV : cap V = true) (h0 : -400 ≤ k) (h1 : k ≤ 400) : NoS (ex V k) := by
  unfold ex
  rw [hV, if_pos rfl]
  exact NoS.cons (by omega) (fun x hx => by have := xd_small h0 h1 x hx; omega)
theorem nos_wrt {a b p : List Int} {h : Bool} (ha : Digs a) (hb : Digs b) (hp : NoS p) : NoS (wrt a b p h) := by
  unfold wrt
  split
  · exact (NoS.digs ha).app hp
  · exact (NoS.digs ha).app (NoS.cons (by omega) ((NoS.digs hb).app hp))
theorem nos_bd {V P d : Int} (h : Bool) (hf : Ie.fnt d = true) (p0 : -1 ≤ P) (p1 : P ≤ 4096) (hV : V = 69 ∨ V = 70 ∨ V = 71) : NoS (bd V h P d) := by
  obtain ⟨q0, q1⟩ := pr_bd p0 p1
  have cV : cap V = true := by unfold cap; rw [decide_eq_true_iff]; omega
  unfold bd
  split
  · have k := plF hf q0 (by omega)
    exact nos_wrt k.a k.b NoS.nil
  · split
    · have k := fgF hf (n := pr P + 1) (by omega) (by omega)
      exact nos_wrt (digs_take k.s _) (digs_drop k.s _) (nos_ex cV (by have := k.lo; omega) (by have := k.hi; omega))
    · have k := fgF hf (n := max (pr P) 1) (by omega) (by omega)
      unfold bdG
      split
      · rename_i g
        have j := plF hf (n := max (pr P) 1 - 1 - Fx.gK d (max (pr P) 1)) (by omega) (by omega)
        exact nos_wrt j.a (digs_st h j.b) NoS.nil
      · exact nos_wrt (digs_take k.s _) (digs_st h (digs_drop k.s _)) (nos_ex cV (by have := k.lo; omega) (by have := k.hi; omega))
theorem nos_tb {V F P d : Int} (p0 : -1 ≤ P) (p1 : P ≤ 4096) (hV : V = 69 ∨ V = 70 ∨ V = 71) : NoS (tb V F P d) := by
  have cV : cap V = true := by unfold cap; rw [decide_eq_true_iff]; omega
  unfold tb
  by_cases c : Ie.fnt d = true
  · rw [if_pos c]; exact nos_bd _ c p0 p1 hV
  · rw [if_neg c, cV]
    rcases cls_of (show Ie.fnt d = false by simpa using c) with e | e <;> rw [e] <;> (intro x hx; simp [nm] at hx; omega)
theorem nos_ren {V F W P d : Int} (hV : V = 69 ∨ V = 70 ∨ V = 71) : NoS (ren V F W P d) := by
  by_cases h : renE V F W P = 0
  · obtain ⟨-, b⟩ := renE_ok h
    obtain ⟨f, w, p⟩ := Wh.chk_ok b
    rw [ren_pad h]
    have k := nos_tb (V := V) (F := F) (d := d) p.1 p.2 hV
    unfold Wh.padT
    split
    · exact ((nos_sgn _ _).app k).app (nos_rep (.inl rfl))
    · split
      · exact ((nos_sgn _ _).app (nos_rep (.inr rfl))).app k
      · exact ((nos_rep (.inl rfl)).app (nos_sgn _ _)).app k
  · unfold ren
    rw [if_neg h]
    exact NoS.nil
end Po
end Go.Proofs.YtiflponlioldmaaGreatDoor

namespace Go.Proofs.YtiflponlioldmaaGreatDoor
open Go Go.RowKit Go.Deep Go.Shelf

def SpcTold (V F W P d : Int) (w : World) (e : Ending) (w' : World) : Prop := e = .returned (.tuple #[.string (strOfNums (Po.spc V F W P d)), .bool (Po.spb F W P d), .int .i64 (Wh.chk F W P)]) ∧ Below w.heap.size w w'
def RenTold (V F W P d : Int) (w : World) (e : Ending) (w' : World) : Prop := e = .returned (.tuple #[.string (strOfNums (Po.ren V F W P d)), .int .i64 (Po.renE V F W P)]) ∧ Below w.heap.size w w'

theorem pad_small {F W P : Int} {z : Bool} {h b : List Int} (hl : h.length + b.length ≤ 16777216) : Wh.padE F W P h b = Wh.chk F W P ∧ Wh.pad F W P z h b = (if Wh.chk F W P = 0 then Wh.padT F W z h b else []) := by
  have e : Wh.padE F W P h b = Wh.chk F W P := by
    unfold Wh.padE
    by_cases c : Wh.chk F W P = 0
    · rw [if_pos c, if_neg (by omega), c]
    · rw [if_neg c]
  exact ⟨e, by rw [Wh.pad, e]⟩

set_option maxRecDepth 100000 in
set_option maxHeartbeats 4000000 in
theorem special_any (V F W P d : Int) (w : World) (v0 : 0 ≤ V) (v1 : V < 256) (h0 : 0 ≤ d) (h1 : d < 18446744073709551616) :
    Calls Tryz.prog 99 #[.agg #[.int .u8 V, .int .i64 F, .int .i64 W, .int .i64 P], .int .u64 d] w fun e w' => SpcTold V F W P d w e w' := by
  have B0 := hid (SB.new w V F W P)
  have SG := hid (fun wk => psign_any V F W P d wk h0 h1)
  have NM := hid (fun wk => pname_any V d wk v0 v1 h0 h1)
  have FN := hid (fun wk => pfin_any d wk h0 h1)
  have sb := Po.sx_by F (Po.ng d)
  have nb := Po.nm_by (Po.cap V) (Ie.cls d)
  have nl := Po.nm_len (Po.cap V) (Ie.cls d)
  have PA : Hid (∀ wk, Calls Tryz.prog 94 #[.agg #[.int .u8 V, .int .i64 F, .int .i64 W, .int .i64 P], .string (strOfNums (Po.sx F (Po.ng d))), .string (strOfNums (Po.nm (Po.cap V) (Ie.cls d))), .bool false] wk fun e w' => e = .returned (.tuple #[.string (strOfNums (if Wh.chk F W P = 0 then Wh.padT F W false (Po.sx F (Po.ng d)) (Po.nm (Po.cap V) (Ie.cls d)) else [])), .int .i64 (Wh.chk F W P)]) ∧ Below wk.heap.size wk w') := by
    intro wk
    refine (pad_any V F W P _ _ false wk sb.1 nb (by omega) (by omega)).mono ?_
    rintro e w' ⟨rfl, k⟩
    obtain ⟨e1, e2⟩ := pad_small (F := F) (W := W) (P := P) (z := false) (h := Po.sx F (Po.ng d)) (b := Po.nm (Po.cap V) (Ie.cls d)) (by omega)
    exact ⟨by rw [e1, e2], k⟩
  have G1 : Hid (∀ w' , Wh.chk F W P ≠ 0 → Below w.heap.size w w' → SpcTold V F W P d w (.returned (.tuple #[.string ⟨#[]⟩, .bool false, .int .i64 (Wh.chk F W P)])) w') := by
    intro w' h k
    refine ⟨?_, k⟩
    rw [Po.spc, if_neg (fun q => h q.1), Po.spb, decide_eq_false h]
    rfl
  have G2 : Hid (∀ w' , Wh.chk F W P = 0 → Ie.fnt d = true → Below w.heap.size w w' → SpcTold V F W P d w (.returned (.tuple #[.string ⟨#[]⟩, .bool false, .int .i64 0])) w') := by
    intro w' h f k
    refine ⟨?_, k⟩
    rw [Po.spc, if_neg (fun q => by rw [f] at q; exact Bool.false_ne_true q.2.symm), Po.spb, f, h]
    rfl
  have G3 : Hid (∀ w' , Wh.chk F W P = 0 → Ie.fnt d = false → Below w.heap.size w w' → SpcTold V F W P d w (.returned (.tuple #[.string (strOfNums (if Wh.chk F W P = 0 then Wh.padT F W false (Po.sx F (Po.ng d)) (Po.nm (Po.cap V) (Ie.cls d)) else [])), .bool true, .int .i64 0])) w') := by
    intro w' h f k
    refine ⟨?_, k⟩
    obtain ⟨⟨f0, f1⟩, -, -⟩ := Wh.chk_ok h
    rw [if_pos h, Po.spc, if_pos ⟨h, f⟩, Po.spb, f, h, Po.sx_is _ f0 f1]
    rfl
  generalize (if Wh.chk F W P = 0 then Wh.padT F W false (Po.sx F (Po.ng d)) (Po.nm (Po.cap V) (Ie.cls d)) else []) = T at *
  generalize Po.sx F (Po.ng d) = SX at *
  generalize Po.nm (Po.cap V) (Ie.cls d) = NX at *
  clear v0 v1 h0 h1 sb nb nl
  generalize Wh.chk F W P = E at *
  generalize Ie.fnt d = fd at *
  go_enter Tryz.func99, Tryz.ntmps99
  go_upto_region 1 with fail
  have T1 := hid B0.out.drew
  go_region_held3 (fun wx => wx.cell? ⟨w.heap.size, 0, none⟩ = some (.int .u8 V) ∧ wx.cell? ⟨w.heap.size, 1, none⟩ = some (.int .i64 F) ∧ wx.cell? ⟨w.heap.size, 2, none⟩ = some (.int .i64 W) ∧ wx.cell? ⟨w.heap.size, 3, none⟩ = some (.int .i64 P)) (first | (with_reducible exact T4.out.flat) | (with_reducible exact T3.out.flat) | (with_reducible exact T2.out.flat) | (with_reducible exact T1.out.flat)) (first
    | (go_at_call 102; with_reducible refine (SG.out _).mono ?_; rintro e wa ⟨rfl, hB⟩; have T2 := hid (T1.out.on hB); clear hB)
    | (go_at_call 149; with_reducible refine (NM.out _).mono ?_; rintro e wb ⟨rfl, hB⟩; have T3 := hid (T2.out.on hB); clear hB)
    | (go_at_call 94; with_reducible refine (PA.out _).mono ?_; rintro e wc ⟨rfl, hB⟩; have T4 := hid (T3.out.on hB); clear hB))
  by_cases hE : E = 0
  · subst hE
    cases fd with
    | true =>
      have R := hid (G2.out wc rfl rfl T4.out.bel)
      clear G1 G2 G3
      go_wp2_with (go_at_call 150; refine (FN.out _).mono ?_; rintro e w' ⟨rfl, hw⟩; rw [hw]; clear hw w')
      go_ret3
      exact R.out
    | false =>
      have R := hid (G3.out wc rfl rfl T4.out.bel)
      clear G1 G2 G3
      go_wp2_with (go_at_call 150; refine (FN.out _).mono ?_; rintro e w' ⟨rfl, hw⟩; rw [hw]; clear hw w')
      go_ret3
      exact R.out
  · have hne : (E == 0) = false := by simpa using hE
    have hne2 : (E != 0) = true := by simpa using hE
    have R := hid (G1.out wc hE T4.out.bel)
    clear G1 G2 G3 hE
    go_wp2_with fail
    go_ret3
    exact R.out

set_option maxRecDepth 100000 in
set_option maxHeartbeats 4000000 in
theorem render_any (V F W P d : Int) (w : World) (hT : Tab w) (v0 : 0 ≤ V) (v1 : V < 256) (h0 : 0 ≤ d) (h1 : d < 18446744073709551616) :
    Calls Tryz.prog 56 #[.agg #[.int .u8 V, .int .i64 F, .int .i64 W, .int .i64 P], .int .u64 d] w fun e w' => RenTold V F W P d w e w' := by
  have B0 := hid (SB.new w V F W P)
  have IX := hid (fun w => Any.strings_IndexByte idxLays ⟨#[101, 69, 102, 70, 103, 71]⟩ V w)
  have OK := ok_ix V v0 v1
  obtain ⟨ix, hix⟩ : ∃ ix, Lib.indexByte (⟨#[101, 69, 102, 70, 103, 71]⟩ : ByteArray).data.toList V.toNat.toUInt8 = ix := ⟨_, rfl⟩
  rw [hix] at IX OK
  clear hix
  by_cases hV : Po.okV V = true
  · rw [hV] at OK
    have ix0 : ¬ ix < 0 := by simpa using OK
    have hR : Po.renE V F W P = Wh.chk F W P := by rw [Po.renE, if_pos hV]
    have SP := hid (fun wk => special_any V F W P d wk v0 v1 h0 h1)
    by_cases hc : Wh.chk F W P = 0
    · obtain ⟨⟨f0, f1⟩, -, ⟨p0, p1⟩⟩ := Wh.chk_ok hc
      by_cases hf : Ie.fnt d = true
      · have sp1 : Po.spb F W P d = false := by rw [Po.spb, hf]; simp
        have SG : Hid (∀ wk, Calls Tryz.prog 102 #[.agg #[.int .u8 V, .int .i64 F, .int .i64 W, .int .i64 P], .int .u64 d] wk fun e w' => e = .returned (.string (strOfNums (Wh.sgn F (Po.ng d)))) ∧ Below wk.heap.size wk w') := by
          intro wk
          have q := psign_any V F W P d wk h0 h1
          rw [Po.sx_is _ f0 f1] at q
          exact q
        have TB : Hid (∀ wk, Below w.heap.size w wk → Tab wk) := fun wk k => hT.below k
        have BO := hid (fun wk (k : Tab wk) => pbody_any V F W P d wk k v0 v1 f0 f1 p0 p1 h0 h1 hf)
        obtain ⟨bb, bl⟩ := Po.bd_ok (V := V) (P := P) (d := d) (Wh.bit F 8) hf p0 p1
        have sl := Wh.sgn_len F (Po.ng d)
        have PA : Hid (∀ wk, Calls Tryz.prog 94 #[.agg #[.int .u8 V, .int .i64 F, .int .i64 W, .int .i64 P], .string (strOfNums (Wh.sgn F (Po.ng d))), .string (strOfNums (Po.bd V (Wh.bit F 8) P d)), .bool true] wk fun e w' => e = .returned (.tuple #[.string (strOfNums (Po.ren V F W P d)), .int .i64 0]) ∧ Below wk.heap.size wk w') := by
          intro wk
          refine (pad_any V F W P _ _ true wk (Wh.sgn_by _ _) bb (by omega) (by omega)).mono ?_
          rintro e w' ⟨rfl, k⟩
          obtain ⟨e1, e2⟩ := pad_small (F := F) (W := W) (P := P) (z := true) (h := Wh.sgn F (Po.ng d)) (b := Po.bd V (Wh.bit F 8) P d) (by omega)
          refine ⟨?_, k⟩
          rw [e1, e2, hc, if_pos rfl, Po.ren, hR, if_pos hc, if_pos hf]
        have G : Hid (∀ w', Below w.heap.size w w' → RenTold V F W P d w (.returned (.tuple #[.string (strOfNums (Po.ren V F W P d)), .int .i64 0])) w') := fun w' k => ⟨by rw [hR, hc], k⟩
        unfold SpcTold at SP
        rw [sp1, hc] at SP
        clear hT v0 v1 h0 h1 hV OK hR hc hf f0 f1 p0 p1 bb bl sl sp1
        generalize Po.spc V F W P d = SC at *
        generalize Po.ren V F W P d = RN at *
        generalize Po.bd V (Wh.bit F 8) P d = BD' at *
        generalize Wh.sgn F (Po.ng d) = SN at *
        go_enter Tryz.func56, Tryz.ntmps56
        go_wp2_with (go_at_call 54; refine (IX.out _).mono ?_; rintro e w2 ⟨rfl, rfl⟩)
        with_reducible refine (SP.out _).mono ?_
        rintro e w1 ⟨rfl, b1⟩
        have B1 := hid (B0.out.on b1)
        clear b1 B0 SP IX
        obtain ⟨c0, c1, c2, c3⟩ := B1.out.flat
        go_upto_region 6 with fail
        clear c0 c1 c2 c3
        have T1 := hid B1.out.drew
        go_region_held3 (fun wx => wx.cell? ⟨w.heap.size, 0, none⟩ = some (.int .u8 V) ∧ wx.cell? ⟨w.heap.size, 1, none⟩ = some (.int .i64 F) ∧ wx.cell? ⟨w.heap.size, 2, none⟩ = some (.int .i64 W) ∧ wx.cell? ⟨w.heap.size, 3, none⟩ = some (.int .i64 P)) (first | (with_reducible exact T4.out.flat) | (with_reducible exact T3.out.flat) | (with_reducible exact T2.out.flat) | (with_reducible exact T1.out.flat)) (first
          | (go_at_call 102; with_reducible refine (SG.out _).mono ?_; rintro e wa ⟨rfl, hB⟩; have T2 := hid (T1.out.on hB); have K2 := hid (TB.out _ T2.out.bel); clear hB)
          | (go_at_call 103; with_reducible refine (BO.out _ K2.out).mono ?_; rintro e wb ⟨rfl, hB⟩; have T3 := hid (T2.out.on hB); clear hB)
          | (go_at_call 94; with_reducible refine (PA.out _).mono ?_; rintro e wc ⟨rfl, hB⟩; have T4 := hid (T3.out.on hB); clear hB))
        go_wp2_with fail
        go_ret2
        exact G.out _ T4.out.bel
      · have hf' : Ie.fnt d = false := by simpa using hf
        have sp1 : Po.spb F W P d = true := by rw [Po.spb, hf', hc]; rfl
        have sp2 : Po.spc V F W P d = Po.ren V F W P d := by rw [Po.spc, if_pos ⟨hc, hf'⟩, Po.ren, hR, if_pos hc, if_neg hf]
        have G : Hid (∀ w', Below w.heap.size w w' → RenTold V F W P d w (.returned (.tuple #[.string (strOfNums (Po.ren V F W P d)), .int .i64 0])) w') := fun w' k => ⟨by rw [hR, hc], k⟩
        unfold SpcTold at SP
        rw [sp1, sp2, hc] at SP
        clear hT v0 v1 h0 h1 hV OK hR hc hf hf' f0 f1 p0 p1 sp1 sp2
        generalize Po.ren V F W P d = RN at *
        go_enter Tryz.func56, Tryz.ntmps56
        go_wp2_with (go_at_call 54; refine (IX.out _).mono ?_; rintro e w2 ⟨rfl, rfl⟩)
        with_reducible refine (SP.out _).mono ?_
        rintro e w1 ⟨rfl, b1⟩
        have R := hid (G.out _ (B0.out.on b1).bel)
        clear b1 B0 SP IX G
        go_wp2_with fail
        go_ret2
        exact R.out
    · have sp1 : Po.spb F W P d = false := by rw [Po.spb, decide_eq_false hc]; rfl
      have sp2 : Po.spc V F W P d = Po.ren V F W P d := by rw [Po.spc, if_neg (fun q => hc q.1), Po.ren, hR, if_neg hc]
      have G : Hid (∀ w', Below w.heap.size w w' → RenTold V F W P d w (.returned (.tuple #[.string (strOfNums (Po.ren V F W P d)), .int .i64 (Wh.chk F W P)])) w') := fun w' k => ⟨by rw [hR], k⟩
      unfold SpcTold at SP
      rw [sp1, sp2] at SP
      have hne : (Wh.chk F W P == 0) = false := by simpa using hc
      have hne2 : (Wh.chk F W P != 0) = true := by simpa using hc
      clear hT v0 v1 h0 h1 hV OK hR hc sp1 sp2
      generalize Po.ren V F W P d = RN at *
      generalize Wh.chk F W P = E at *
      go_enter Tryz.func56, Tryz.ntmps56
      go_wp2_with (go_at_call 54; refine (IX.out _).mono ?_; rintro e w2 ⟨rfl, rfl⟩)
      with_reducible refine (SP.out _).mono ?_
      rintro e w1 ⟨rfl, b1⟩
      have R := hid (G.out _ (B0.out.on b1).bel)
      clear b1 B0 SP IX G
      go_wp2_with fail
      go_ret2
      exact R.out
  · have hV' : Po.okV V = false := by simpa using hV
    rw [hV'] at OK
    have ix0 : ix < 0 := by simpa using OK
    have hR : Po.renE V F W P = 140 := by rw [Po.renE, if_neg hV]
    have G : Hid (∀ w', Below w.heap.size w w' → RenTold V F W P d w (.returned (.tuple #[.string ⟨#[]⟩, .int .i64 140])) w') := fun w' k => ⟨by rw [Po.ren, hR, if_neg (by decide)]; rfl, k⟩
    have R := hid (G.out _ B0.out.bel)
    clear hT v0 v1 h0 h1 hV hV' OK hR G
    go_enter Tryz.func56, Tryz.ntmps56
    go_wp2_with (go_at_call 54; refine (IX.out _).mono ?_; rintro e w2 ⟨rfl, rfl⟩)
    go_ret2
    exact R.out
end Go.Proofs.YtiflponlioldmaaGreatDoor
