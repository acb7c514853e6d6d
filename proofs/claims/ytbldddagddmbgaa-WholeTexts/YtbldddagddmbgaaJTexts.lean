/-
  abacuslaw14: texts, pads, WholeTexts, WholeLong.
-/
import Derived.Test.YtbldddagddmbgaaJRefT
import Derived.Test.YtbldddagddmbgaaOpenAskT
namespace Go.Proofs.Ytbldddagddmbgaa
open Go Go.RowKit Go.Deep Go.Shelf

set_option maxRecDepth 100000 in
theorem tspec_any (V : Int) (w : World) :
    Calls Try.prog 6 #[.int .u8 V] w fun e w' => e = .returned (.agg #[.int .u8 V, .int .i64 0, .int .i64 0, .int .i64 (-1)]) ∧ Below w.heap.size w w' := by
  have B := hid (alloc_b w (.cells #[.int .u8 V, .int .i64 0, .int .i64 0, .int .i64 (-1)] 25))
  go_enter Try.func6, Try.ntmps6
  go_wp2_with fail
  refine bodyPost_ret (results_cell_row rfl _ _ w.heap.size 25 #[.int .u8 V, .int .i64 0, .int .i64 0, .int .i64 (-1)] (0, 0) _ rfl (heap_alloc_new w _) Try.underlying25 rfl (by kernel_rfl)) rfl ?_
  exact ⟨rfl, B.out⟩

set_option maxRecDepth 100000 in
set_option maxHeartbeats 1000000 in
theorem texts_any (V F W P : Int) (t : List Int) (w : World) (h0 : 0 ≤ V) (h1 : V < 256) (ht : Wh.By t) (hl : t.length ≤ 140737488355328) :
    Calls Try.prog 5 #[.agg #[.int .u8 V, .int .i64 F, .int .i64 W, .int .i64 P], .string (strOfNums t)] w fun e w' => e = .returned (.bool true) ∧ Below w.heap.size w w' := by
  have B0 := hid (SB.new w V F W P)
  have C1 := hid (fun W' => rchar_any V F W P t W' ht hl)
  have C2 := hid (fun W' => char_any V F W P t W' h0 h1 ht hl)
  have T1 := hid (fun W' => rtext_any V F W P t W' ht hl)
  have T2 := hid (fun W' => text_any V F W P t W' h0 h1 ht hl)
  unfold ChrTold at C1 C2
  unfold TexTold at T1 T2
  generalize strOfNums (Wh.chr V F W P t) = s1 at *
  generalize Wh.chrE V F W P = e1 at *
  generalize strOfNums (Wh.tex V F W P t) = s2 at *
  generalize Wh.texE V F W P t = e2 at *
  clear h0 h1 ht hl
  obtain ⟨c0, c1, c2, c3⟩ := B0.out.flat
  go_enter Try.func5, Try.ntmps5
  go_wp2_with fail
  with_reducible refine (C1.out _).mono ?_
  rintro e w1 ⟨rfl, b1⟩
  have B1 := hid (B0.out.on b1)
  clear b1 C1 B0 c0 c1 c2 c3
  obtain ⟨c0, c1, c2, c3⟩ := B1.out.flat
  go_wp2_with fail
  with_reducible refine (C2.out _).mono ?_
  rintro e w2 ⟨rfl, b2⟩
  have B2 := hid (B1.out.on b2)
  clear b2 C2 B1 c0 c1 c2 c3
  obtain ⟨c0, c1, c2, c3⟩ := B2.out.flat
  go_wp2_with fail
  with_reducible refine (T1.out _).mono ?_
  rintro e w3 ⟨rfl, b3⟩
  have B3 := hid (B2.out.on b3)
  clear b3 T1 B2 c0 c1 c2 c3
  obtain ⟨c0, c1, c2, c3⟩ := B3.out.flat
  go_wp2_with fail
  with_reducible refine (T2.out _).mono ?_
  rintro e w4 ⟨rfl, b4⟩
  have B4 := hid (B3.out.on b4)
  clear b4 T2 B3 c0 c1 c2 c3
  go_wp2_with fail
  go_ret
  exact ⟨rfl, B4.out.bel⟩

set_option maxRecDepth 100000 in
set_option maxHeartbeats 1000000 in
theorem pads_any (V F W P : Int) (h b : List Int) (z : Bool) (w : World) (hh : Wh.By h) (hb : Wh.By b) (lh : h.length ≤ 140737488355328) (lb : b.length ≤ 140737488355328) :
    Calls Try.prog 7 #[.agg #[.int .u8 V, .int .i64 F, .int .i64 W, .int .i64 P], .string (strOfNums h), .string (strOfNums b), .bool z] w fun e w' => e = .returned (.bool true) ∧ Below w.heap.size w w' := by
  have B0 := hid (SB.new w V F W P)
  have C1 := hid (fun W' => rpad_any V F W P h b z W' hh hb lh lb)
  have C2 := hid (fun W' => pad_any V F W P h b z W' hh hb lh lb)
  unfold PadTold at C1 C2
  generalize strOfNums (Wh.pad F W P z h b) = s1 at *
  generalize Wh.padE F W P h b = e1 at *
  clear hh hb lh lb
  obtain ⟨c0, c1, c2, c3⟩ := B0.out.flat
  go_enter Try.func7, Try.ntmps7
  go_wp2_with fail
  with_reducible refine (C1.out _).mono ?_
  rintro e w1 ⟨rfl, b1⟩
  have B1 := hid (B0.out.on b1)
  clear b1 C1 B0 c0 c1 c2 c3
  obtain ⟨c0, c1, c2, c3⟩ := B1.out.flat
  go_wp2_with fail
  with_reducible refine (C2.out _).mono ?_
  rintro e w2 ⟨rfl, b2⟩
  have B2 := hid (B1.out.on b2)
  clear b2 C2 B1 c0 c1 c2 c3
  go_wp2_with fail
  go_ret
  exact ⟨rfl, B2.out.bel⟩

theorem SB.t0 {w0 wk : World} {bx : Nat} {V F W P : Int} (h : SB w0 bx V F W P wk) (hb : w0.heap.size ≤ bx) (v : Int) : SB w0 bx v F W P (wk.setCell ⟨bx, 0, none⟩ (.int .u8 v)) :=
  ⟨h.bel.setCell (p := ⟨bx, 0, none⟩) hb _, set1 h.box rfl⟩
theorem SB.tfree {w0 wk : World} {bx : Nat} {V F W P : Int} (h : SB w0 bx V F W P wk) : wk.frozen? ⟨bx, 0, none⟩ = false ∧ wk.frozen? ⟨bx, 1, none⟩ = false ∧ wk.frozen? ⟨bx, 2, none⟩ = false ∧ wk.frozen? ⟨bx, 3, none⟩ = false := h.box.cells.2
/-- A Spec's box, and a text that was there before. -/
structure TX (w0 : World) (bx : Nat) (V F W P : Int) (b o : Nat) (s : ByteArray) (wk : World) : Prop where
  sb : SB w0 bx V F W P wk
  tc : w0.cell? ⟨b, o, none⟩ = some (.string s)
theorem TX.on {w0 wk w' : World} {bx b o : Nat} {V F W P : Int} {s : ByteArray} (h : TX w0 bx V F W P b o s wk) (k : Below wk.heap.size wk w') : TX w0 bx V F W P b o s w' := ⟨h.sb.on k, h.tc⟩
theorem TX.drew {w0 wk : World} {bx b o : Nat} {V F W P : Int} {s : ByteArray} (h : TX w0 bx V F W P b o s wk) : TX w0 bx V F W P b o s wk.drew := ⟨h.sb.drew, h.tc⟩
theorem TX.flat {w0 wk : World} {bx b o : Nat} {V F W P : Int} {s : ByteArray} (h : TX w0 bx V F W P b o s wk) : wk.cell? ⟨bx, 0, none⟩ = some (.int .u8 V) ∧ wk.cell? ⟨bx, 1, none⟩ = some (.int .i64 F) ∧ wk.cell? ⟨bx, 2, none⟩ = some (.int .i64 W) ∧ wk.cell? ⟨bx, 3, none⟩ = some (.int .i64 P) ∧ wk.cell? ⟨b, o, none⟩ = some (.string s) := by
  obtain ⟨c0, c1, c2, c3⟩ := h.sb.flat
  refine ⟨c0, c1, c2, c3, ?_⟩
  rw [h.sb.bel.cell (p := ⟨b, o, none⟩) (cell_lt h.tc)]
  exact h.tc

set_option maxRecDepth 100000 in
set_option maxHeartbeats 4000000 in
theorem wtexts_law (a : Option Addr) (cap : Nat) (qs : List Aq) (hd : List Int) (w : World) (hq : LA w a qs) (hw : ∀ q ∈ qs, AqW w q) (hn : qs.length ≤ 2199023255552) (hy : Wh.By hd) (hl : hd.length ≤ 140737488355328) :
    Calls Try.prog 3 #[.slice a qs.length cap, .string (strOfNums hd)] w fun e w' => e = .returned (.bool true) ∧ Below w.heap.size w w' := by
  have S1 := hid (fun W => tspec_any 99 W)
  have S2 := hid (fun W => tspec_any 115 W)
  have A1 : Hid (∀ W, Calls Try.prog 5 #[.agg #[.int .u8 99, .int .i64 0, .int .i64 0, .int .i64 (-1)], .string ⟨#[97, 98, 99]⟩] W fun e w' => e = .returned (.bool true) ∧ Below W.heap.size W w') := fun W => texts_any 99 0 0 (-1) [97, 98, 99] W (by omega) (by omega) (by intro x hx; simp at hx; omega) (by simp)
  have A2 : Hid (∀ W, Calls Try.prog 5 #[.agg #[.int .u8 115, .int .i64 0, .int .i64 0, .int .i64 (-1)], .string ⟨#[97, 98, 99]⟩] W fun e w' => e = .returned (.bool true) ∧ Below W.heap.size W w') := fun W => texts_any 115 0 0 (-1) [97, 98, 99] W (by omega) (by omega) (by intro x hx; simp at hx; omega) (by simp)
  have A3 : Hid (∀ W, Calls Try.prog 7 #[.agg #[.int .u8 0, .int .i64 16, .int .i64 6, .int .i64 (-1)], .string ⟨#[45]⟩, .string ⟨#[52, 50]⟩, .bool true] W fun e w' => e = .returned (.bool true) ∧ Below W.heap.size W w') := fun W => pads_any 0 16 6 (-1) [45] [52, 50] true W (by intro x hx; simp at hx; omega) (by intro x hx; simp at hx; omega) (by simp) (by simp)
  have TT := hid (fun (q : Aq) V W' (hm : q ∈ qs) (h0 : 0 ≤ V) (h1 : V < 256) => texts_any V q.F q.D q.P q.t W' h0 h1 (hw q hm).2.2.1 (by have := (hw q hm).2.2.2; omega))
  have PP := hid (fun (q : Aq) V z W' (hm : q ∈ qs) => pads_any V q.F q.D q.P hd q.t z W' hy (hw q hm).2.2.1 hl (by have := (hw q hm).2.2.2; omega))
  have VB := hid (fun (q : Aq) (hm : q ∈ qs) => (hw q hm).1)
  have H := hid hq
  have HN := hid hn
  clear hq hn hw hy hl
  go_enter Try.func3, Try.ntmps3
  go_wp2_with fail
  with_reducible refine (S1.out _).mono ?_
  rintro e w1 ⟨rfl, b1⟩
  have B1 := hid b1
  clear b1 S1
  go_wp2_with fail
  with_reducible refine (A1.out _).mono ?_
  rintro e w2 ⟨rfl, b2⟩
  have B2 := hid (below_on B1.out b2)
  clear b2 A1 B1
  go_wp2_with fail
  with_reducible refine (S2.out _).mono ?_
  rintro e w3 ⟨rfl, b3⟩
  have B3 := hid (below_on B2.out b3)
  clear b3 S2 B2
  go_wp2_with fail
  with_reducible refine (A2.out _).mono ?_
  rintro e w4 ⟨rfl, b4⟩
  have B4 := hid (below_on B3.out b4)
  clear b4 A2 B3
  go_wp2_with fail
  with_reducible refine (A3.out _).mono ?_
  rintro e w5 ⟨rfl, b5⟩
  have B5 := hid (below_on B4.out b5)
  clear b5 A3 B4
  go_wp2_with fail
  go_loopg [5, 6] qs.length (fun m k a6 wr => ∃ i : Nat, i + m = qs.length ∧ k = .int .i64 (i : Int) ∧ Hid (Below w.heap.size w wr))
  case atStart => exact ⟨0, by omega, rfl, B5.out⟩
  case round =>
    obtain ⟨i, hi, rfl, I⟩ := hrel
    clear B5
    by_cases il : i < qs.length
    · have ili : (i : Int) < (qs.length : Int) := by omega
      have ib : (i : Int) ≤ 2199023255552 := by have := HN.out; omega
      obtain ⟨b, off, rfl, hc⟩ := H.out.at i il
      have mem := aq_getD il
      have vb := VB.out _ mem
      have T1 := hid (fun W' => TT.out (qs.getD i Aq.no) (qs.getD i Aq.no).V W' mem vb.1 vb.2)
      have T2 := hid (fun W' => TT.out (qs.getD i Aq.no) 99 W' mem (by omega) (by omega))
      have T3 := hid (fun W' => TT.out (qs.getD i Aq.no) 115 W' mem (by omega) (by omega))
      have P1 := hid (fun W' => PP.out (qs.getD i Aq.no) (qs.getD i Aq.no).V true W' mem)
      have P2 := hid (fun W' => PP.out (qs.getD i Aq.no) (qs.getD i Aq.no).V false W' mem)
      obtain ⟨e0, e1, e2, e3, -, -, -, e7⟩ := hc.flat
      have k0 := cell_lt e0
      have E0 : ∀ (o : Nat) (v : Value), w.cell? ⟨b, o, none⟩ = some v → wr.cell? ⟨b, o, none⟩ = some v := fun o v h => by rw [I.out.cell (p := ⟨b, o, none⟩) k0]; exact h
      have d0 := E0 _ _ e0
      have d1 := E0 _ _ e1
      have d2 := E0 _ _ e2
      have d3 := E0 _ _ e3
      have TC := hid e7
      have wl : Hid (w.heap.size ≤ wr.heap.size) := I.out.size
      clear hc mem vb TT PP VB e0 e1 e2 e3 e7 E0 k0
      generalize qs.getD i Aq.no = q at *
      generalize strOfNums q.t = ts at *
      have N0 := SB.new wr q.V q.F q.D q.P
      have X0 : Hid (TX w wr.heap.size q.V q.F q.D q.P b (off + i * 8 + 7) ts (wr.alloc (.cells #[.int .u8 q.V, .int .i64 q.F, .int .i64 q.D, .int .i64 q.P] 25))) := ⟨⟨below_on I.out N0.bel, N0.box⟩, TC.out⟩
      clear N0 I
      go_upto_region 7 with fail
      clear d0 d1 d2 d3
      generalize (wr.alloc (.cells #[.int .u8 q.V, .int .i64 q.F, .int .i64 q.D, .int .i64 q.P] 25)) = wS at *
      generalize wr.heap.size = bx at *
      have Y1 := hid X0.out.drew
      go_region_held3 (fun wx => wx.cell? ⟨bx, 0, none⟩ = some (.int .u8 q.V) ∧ wx.cell? ⟨bx, 1, none⟩ = some (.int .i64 q.F) ∧ wx.cell? ⟨bx, 2, none⟩ = some (.int .i64 q.D) ∧ wx.cell? ⟨bx, 3, none⟩ = some (.int .i64 q.P) ∧ wx.cell? ⟨b, off + i * 8 + 7, none⟩ = some (.string ts)) (first | (with_reducible exact Y4.out.flat) | (with_reducible exact Y3.out.flat) | (with_reducible exact Y2.out.flat) | (with_reducible exact Y1.out.flat)) (first
        | (go_at_call 5; with_reducible refine (T1.out _).mono ?_; rintro e wa ⟨rfl, hB⟩; have Y2 := hid (Y1.out.on hB); clear hB)
        | (go_at_call 7; (first
            | (with_reducible refine (P1.out _).mono ?_; rintro e wb ⟨rfl, hB⟩; have Y3 := hid (Y2.out.on hB); clear hB)
            | (with_reducible refine (P2.out _).mono ?_; rintro e wd ⟨rfl, hB⟩; have Y4 := hid (Y3.out.on hB); clear hB))))
      have Z1 := hid Y4.out
      clear X0 Y1 Y2 Y3 Y4 T1 P1 P2
      obtain ⟨c0, c1, c2, c3, c4⟩ := Z1.out.flat
      obtain ⟨f0, f1, f2, f3⟩ := Z1.out.sb.tfree
      have Z2 : Hid (TX w bx 99 q.F q.D q.P b (off + i * 8 + 7) ts (wd.setCell ⟨bx, 0, none⟩ (.int .u8 99))) := ⟨Z1.out.sb.t0 wl.out 99, TC.out⟩
      go_upto_region 10 with fail
      clear c0 c1 c2 c3 c4 f0 f1 f2 f3 Z1
      generalize (wd.setCell ⟨bx, 0, none⟩ (.int .u8 99)) = wE at *
      have Y1 := hid Z2.out.drew
      go_region_held3 (fun wx => wx.cell? ⟨bx, 0, none⟩ = some (.int .u8 99) ∧ wx.cell? ⟨bx, 1, none⟩ = some (.int .i64 q.F) ∧ wx.cell? ⟨bx, 2, none⟩ = some (.int .i64 q.D) ∧ wx.cell? ⟨bx, 3, none⟩ = some (.int .i64 q.P) ∧ wx.cell? ⟨b, off + i * 8 + 7, none⟩ = some (.string ts)) (first | (with_reducible exact Y2.out.flat) | (with_reducible exact Y1.out.flat)) (first
        | (go_at_call 5; with_reducible refine (T2.out _).mono ?_; rintro e wf ⟨rfl, hB⟩; have Y2 := hid (Y1.out.on hB); clear hB))
      have Z3 := hid Y2.out
      clear Z2 Y1 Y2 T2
      obtain ⟨c0, c1, c2, c3, c4⟩ := Z3.out.flat
      obtain ⟨f0, f1, f2, f3⟩ := Z3.out.sb.tfree
      have Z4 : Hid (TX w bx 115 q.F q.D q.P b (off + i * 8 + 7) ts (wf.setCell ⟨bx, 0, none⟩ (.int .u8 115))) := ⟨Z3.out.sb.t0 wl.out 115, TC.out⟩
      go_upto_region 13 with fail
      clear c0 c1 c2 c3 c4 f0 f1 f2 f3 Z3
      generalize (wf.setCell ⟨bx, 0, none⟩ (.int .u8 115)) = wG at *
      have Y1 := hid Z4.out.drew
      go_region_held3 (fun wx => wx.cell? ⟨bx, 0, none⟩ = some (.int .u8 115) ∧ wx.cell? ⟨bx, 1, none⟩ = some (.int .i64 q.F) ∧ wx.cell? ⟨bx, 2, none⟩ = some (.int .i64 q.D) ∧ wx.cell? ⟨bx, 3, none⟩ = some (.int .i64 q.P) ∧ wx.cell? ⟨b, off + i * 8 + 7, none⟩ = some (.string ts)) (first | (with_reducible exact Y2.out.flat) | (with_reducible exact Y1.out.flat)) (first
        | (go_at_call 5; with_reducible refine (T3.out _).mono ?_; rintro e wh ⟨rfl, hB⟩; have Y2 := hid (Y1.out.on hB); clear hB))
      have Z5 := hid Y2.out
      clear Z4 Y1 Y2 T3
      go_wp2_with fail
      go_roundg (qs.length - (i + 1))
      case measure => omega
      case rel => exact ⟨i + 1, by omega, by go_num, Z5.out.sb.bel⟩
    · have ili : ¬ (i : Int) < (qs.length : Int) := by omega
      go_wp2_with fail
      go_ret
      exact ⟨rfl, I.out⟩
end Go.Proofs.Ytbldddagddmbgaa
