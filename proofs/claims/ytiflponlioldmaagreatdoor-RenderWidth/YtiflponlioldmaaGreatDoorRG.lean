/-
  Texts put together: DPiece, NPush, VPush, DParse, DWrite, DList.
-/
import Derived.Test.YtiflponlioldmaaGreatDoorDDir
import Derived.Test.YtiflponlioldmaaGreatDoorNMem
import Derived.Laws.AppendOwn
import Derived.Laws.OwnMore
import Derived.Test.YtiflponlioldmaaGreatDoorRA
import Derived.Test.YtiflponlioldmaaGreatDoorRE
import Derived.Lib.AppendIntMem
import Derived.Test.YtiflponlioldmaaGreatDoorRD
namespace Go.Proofs.YtiflponlioldmaaGreatDoor
open Go Go.RowKit Go.Deep Go.Shelf

/-- The state of piece: the reader, what has stayed, the result's box. -/
structure DQ (w : World) (b : Nat) (s : ByteArray) (j : Nat) (wx : World) : Prop where
  rb : RB wx b s j
  bl : b < w.heap.size
  oth : Oth b w wx
  res : P7 wx w.heap.size (.string ⟨#[]⟩) (.int .u8 0) (.int .i64 0) (.int .i64 0) (.int .i64 0) (.int .i64 0) (.int .i64 0)
theorem DQ.call {w wx wy : World} {b j j' : Nat} {s : ByteArray} (h : DQ w b s j wx) (r : RB wy b s j') (k : Oth b wx wy) : DQ w b s j' wy :=
  have := h.bl
  ⟨r, h.bl, h.oth.trans k, h.res.oth k (by omega)⟩
theorem DQ.step {w wx : World} {b j j' : Nat} {s : ByteArray} {v : Int} (h : DQ w b s j wx) (e : v = (j' : Int)) : DQ w b s j' (wx.setCell ⟨b, 1, none⟩ (.int .i64 v)) := h.call (h.rb.set e) (Oth.set _ _)
theorem DQ.fin {w wx : World} {b j : Nat} {s : ByteArray} (h : DQ w b s j wx) (u0 u1 u2 u3 u4 u5 u6 : Value) :
    P7 (((((((wx.setCell ⟨w.heap.size, 0, none⟩ u0).setCell ⟨w.heap.size, 1, none⟩ u1).setCell ⟨w.heap.size, 2, none⟩ u2).setCell ⟨w.heap.size, 3, none⟩ u3).setCell ⟨w.heap.size, 4, none⟩ u4).setCell ⟨w.heap.size, 5, none⟩ u5).setCell ⟨w.heap.size, 6, none⟩ u6) w.heap.size u0 u1 u2 u3 u4 u5 u6 ∧
    RB (((((((wx.setCell ⟨w.heap.size, 0, none⟩ u0).setCell ⟨w.heap.size, 1, none⟩ u1).setCell ⟨w.heap.size, 2, none⟩ u2).setCell ⟨w.heap.size, 3, none⟩ u3).setCell ⟨w.heap.size, 4, none⟩ u4).setCell ⟨w.heap.size, 5, none⟩ u5).setCell ⟨w.heap.size, 6, none⟩ u6) b s j ∧
    Oth b w (((((((wx.setCell ⟨w.heap.size, 0, none⟩ u0).setCell ⟨w.heap.size, 1, none⟩ u1).setCell ⟨w.heap.size, 2, none⟩ u2).setCell ⟨w.heap.size, 3, none⟩ u3).setCell ⟨w.heap.size, 4, none⟩ u4).setCell ⟨w.heap.size, 5, none⟩ u5).setCell ⟨w.heap.size, 6, none⟩ u6) := by
  have hb := h.bl
  have ne : w.heap.size ≠ b := by omega
  have le : w.heap.size ≤ w.heap.size := Nat.le_refl _
  exact ⟨h.res.put _ _ _ _ _ _ _, ((((((h.rb.far ne).far ne).far ne).far ne).far ne).far ne).far ne, ((((((h.oth.far le).far le).far le).far le).far le).far le).far le⟩

/-- What piece tells. -/
def QTold (b : Nat) (s : ByteArray) (l : List Int) (k : Nat) (w : World) (r : Ending) (w' : World) : Prop := r = .returned (.tuple #[.agg (pcv (Dr.qp l)), .int .i64 (Dr.qe l)]) ∧ RB w' b s (k + Dr.qu l) ∧ Oth b w w'

set_option maxRecDepth 100000 in
set_option maxHeartbeats 1000000 in
theorem piece_any (b k : Nat) (s : ByteArray) (xs : List Int) (w : World) (hs : Str s xs) (hk : k < xs.length) (hl : xs.length ≤ 281474976710656) (h : RB w b s k) :
    Calls Tryz.prog 34 #[.pointer (some ⟨b, 0, none⟩)] w fun r w' => QTold b s (xs.drop k) k w r w' := by
  have NX : Hid (∀ W, RB W b s k → Calls Tryz.prog 83 #[.pointer (some ⟨b, 0, none⟩)] W fun e w' => e = .returned (.int .u8 (Dr.nx xs k)) ∧ Below W.heap.size W w') := fun W hb => next_any b k s xs W hs (by omega) hb
  have hkl : (k : Int) < 281474976710656 := by omega
  have A1 := alloc_b w (.cells #[.string ⟨#[]⟩, .int .u8 0, .int .i64 0, .int .i64 0, .int .i64 0, .int .i64 0, .int .i64 0] 39)
  have D0 : Hid (DQ w b s k (w.alloc (.cells #[.string ⟨#[]⟩, .int .u8 0, .int .i64 0, .int .i64 0, .int .i64 0, .int .i64 0, .int .i64 0] 39))) :=
    ⟨h.below A1, h.lt, Oth.of_below A1, P7.new w _ _ _ _ _ _ _⟩
  have HH : (xs.drop k).headD 0 = Dr.nx xs k := Dr.head_drop xs k
  have TL : (xs.drop k).tail = xs.drop (k + 1) := List.tail_drop ..
  have HT : (xs.drop (k + 1)).headD 0 = Dr.nx xs (k + 1) := Dr.head_drop xs (k + 1)
  clear A1
  by_cases h37 : Dr.nx xs k = 37
  · have N2 : Hid (∀ W, RB W b s (k + 1) → Calls Tryz.prog 83 #[.pointer (some ⟨b, 0, none⟩)] W fun e w' => e = .returned (.int .u8 (Dr.nx xs (k + 1))) ∧ Below W.heap.size W w') := fun W hb => next_any b (k + 1) s xs W hs (by omega) hb
    rw [h37] at NX
    have z : ¬ (xs.drop k).headD 0 ≠ 37 := by rw [HH, h37]; simp
    by_cases h2 : Dr.nx xs (k + 1) = 37
    · have z2 : (xs.drop k).tail.headD 0 = 37 := by rw [TL, HT, h2]
      have KF : Hid (∀ W, RB W b s (k + 2) → Oth b w W → QTold b s (xs.drop k) k w (.returned (.tuple #[.agg #[.string ⟨#[]⟩, .int .u8 37, .int .i64 0, .int .i64 0, .int .i64 0, .int .i64 0, .int .i64 0], .int .i64 0])) W) := by
        intro W a1 a2
        refine ⟨?_, ?_, a2⟩
        · rw [Dr.qp, Dr.qe, if_neg z, if_neg z, if_pos z2, if_pos z2]; rfl
        · rw [Dr.qu, if_neg z, if_pos z2]; exact a1
      rw [h2] at N2
      clear h37 h2 z z2 HH TL HT hs h hk hl
      go_enter Tryz.func34, Tryz.ntmps34
      go_wp2_with fail
      refine (NX.out _ D0.out.rb).mono ?_
      rintro e w1 ⟨rfl, hB⟩
      have D1 := hid (D0.out.call (D0.out.rb.below hB) (Oth.of_below hB))
      clear hB D0
      obtain ⟨⟨c0, c1⟩, fz⟩ := D1.out.rb.cells
      go_wp2_with fail
      clear c0 c1 fz
      have D2 := hid (D1.out.step (v := (k : Int) + 1) (j' := k + 1) (by omega))
      refine (N2.out _ D2.out.rb).mono ?_
      rintro e w3 ⟨rfl, hB⟩
      have D3 := hid (D2.out.call (D2.out.rb.below hB) (Oth.of_below hB))
      clear hB D2 D1
      have D4 := hid (D3.out.step (v := (k : Int) + 2) (j' := k + 2) (by omega))
      obtain ⟨⟨c0, c1⟩, fz⟩ := D3.out.rb.cells
      obtain ⟨⟨r0, r1, r2, r3, r4, r5, r6⟩, ⟨q0, q1, q2, q3, q4, q5, q6⟩⟩ := D3.out.res.cells
      rw [show ((k + 1 : Nat) : Int) = (k : Int) + 1 by omega] at c1
      have kk : (k : Int) + 1 + 1 = (k : Int) + 2 := by omega
      have bs : b ≠ w.heap.size := by have := D3.out.bl; omega
      go_wp2_with fail
      (try simp only [Exit.inBlock, Exit.then])
      refine bodyPost_ret (results_row_tmp rfl _ _ w.heap.size 39 _ (0, 0) _ rfl (D4.out.fin _ _ _ _ _ _ _).1 Tryz.underlying39 rfl (by kernel_rfl)) rfl ?_
      exact KF.out _ (D4.out.fin _ _ _ _ _ _ _).2.1 (D4.out.fin _ _ _ _ _ _ _).2.2
    · have z2 : ¬ (xs.drop k).tail.headD 0 = 37 := by rw [TL, HT]; exact h2
      have DI : Hid (∀ W, RB W b s (k + 1) → Calls Tryz.prog 85 #[.pointer (some ⟨b, 0, none⟩)] W fun r w' => r = .returned (.tuple #[.agg (pcv (Dr.dp (xs.drop (k + 1)))), .int .i64 (Dr.de (xs.drop (k + 1)))]) ∧ RB w' b s (k + 1 + Dr.du (xs.drop (k + 1))) ∧ Oth b W w') := fun W hb => directive_any b (k + 1) s xs W hs (by omega) (by omega) hb
      have KF : Hid (∀ W, RB W b s (k + 1 + Dr.du (xs.drop (k + 1))) → Oth b w W → QTold b s (xs.drop k) k w (.returned (.tuple #[.agg (pcv (Dr.dp (xs.drop (k + 1)))), .int .i64 (Dr.de (xs.drop (k + 1)))])) W) := by
        intro W a1 a2
        refine ⟨?_, ?_, a2⟩
        · rw [Dr.qp, Dr.qe, if_neg z, if_neg z, if_neg z2, if_neg z2, TL]
        · rw [Dr.qu, if_neg z, if_neg z2, TL, ← Nat.add_assoc]; exact a1
      clear h37 z z2 HH TL HT hs h hk hl
      generalize Dr.dp (xs.drop (k + 1)) = p at *
      generalize Dr.de (xs.drop (k + 1)) = E at *
      generalize k + 1 + Dr.du (xs.drop (k + 1)) = j1 at *
      generalize Dr.nx xs (k + 1) = x at *
      unfold pcv at DI KF
      go_enter Tryz.func34, Tryz.ntmps34
      go_wp2_with fail
      refine (NX.out _ D0.out.rb).mono ?_
      rintro e w1 ⟨rfl, hB⟩
      have D1 := hid (D0.out.call (D0.out.rb.below hB) (Oth.of_below hB))
      clear hB D0
      obtain ⟨⟨c0, c1⟩, fz⟩ := D1.out.rb.cells
      go_wp2_with fail
      clear c0 c1 fz
      have D2 := hid (D1.out.step (v := (k : Int) + 1) (j' := k + 1) (by omega))
      refine (N2.out _ D2.out.rb).mono ?_
      rintro e w3 ⟨rfl, hB⟩
      have D3 := hid (D2.out.call (D2.out.rb.below hB) (Oth.of_below hB))
      clear hB D2 D1 hkl
      go_wp2_with fail
      refine (DI.out _ D3.out.rb).mono ?_
      rintro e w4 ⟨rfl, r4', o4'⟩
      have D4 := hid (D3.out.call r4' o4')
      clear r4' o4' D3
      obtain ⟨⟨r0, r1, r2, r3, r4, r5, r6⟩, ⟨q0, q1, q2, q3, q4, q5, q6⟩⟩ := D4.out.res.cells
      go_wp2_with fail
      (try simp only [Exit.inBlock, Exit.then])
      refine bodyPost_ret (results_row_tmp rfl _ _ w.heap.size 39 _ (0, 0) _ rfl (D4.out.fin _ _ _ _ _ _ _).1 Tryz.underlying39 rfl (by kernel_rfl)) rfl ?_
      exact KF.out _ (D4.out.fin _ _ _ _ _ _ _).2.1 (D4.out.fin _ _ _ _ _ _ _).2.2
  · have z : (xs.drop k).headD 0 ≠ 37 := by rw [HH]; exact h37
    have TX : Hid (∀ W, RB W b s k → Calls Tryz.prog 84 #[.pointer (some ⟨b, 0, none⟩)] W fun r w' => r = .returned (.string (strOfNums ((xs.drop k).take (Dr.ct Dr.isX (xs.drop k))))) ∧ RB w' b s (k + Dr.ct Dr.isX (xs.drop k)) ∧ Oth b W w') := fun W hb => dtext_any b k s xs W hs (by omega) hl hb
    have KF : Hid (∀ W, RB W b s (k + Dr.ct Dr.isX (xs.drop k)) → Oth b w W → QTold b s (xs.drop k) k w (.returned (.tuple #[.agg #[.string (strOfNums ((xs.drop k).take (Dr.ct Dr.isX (xs.drop k)))), .int .u8 0, .int .i64 0, .int .i64 0, .int .i64 0, .int .i64 0, .int .i64 0], .int .i64 0])) W) := by
      intro W a1 a2
      refine ⟨?_, ?_, a2⟩
      · rw [Dr.qp, Dr.qe, if_pos z, if_pos z]; rfl
      · rw [Dr.qu, if_pos z]; exact a1
    clear z HH TL HT hs h hk hl
    generalize strOfNums ((xs.drop k).take (Dr.ct Dr.isX (xs.drop k))) = t at *
    generalize k + Dr.ct Dr.isX (xs.drop k) = j1 at *
    generalize Dr.nx xs k = x at *
    clear hkl
    go_enter Tryz.func34, Tryz.ntmps34
    go_wp2_with fail
    refine (NX.out _ D0.out.rb).mono ?_
    rintro e w1 ⟨rfl, hB⟩
    have D1 := hid (D0.out.call (D0.out.rb.below hB) (Oth.of_below hB))
    clear hB D0
    go_wp2_with fail
    refine (TX.out _ D1.out.rb).mono ?_
    rintro e w4 ⟨rfl, r4', o4'⟩
    have D4 := hid (D1.out.call r4' o4')
    clear r4' o4' D1
    obtain ⟨⟨r0, r1, r2, r3, r4, r5, r6⟩, ⟨q0, q1, q2, q3, q4, q5, q6⟩⟩ := D4.out.res.cells
    go_wp2_with fail
    (try simp only [Exit.inBlock, Exit.then])
    refine bodyPost_ret (results_row_tmp rfl _ _ w.heap.size 39 _ (0, 0) _ rfl (D4.out.fin _ _ _ _ _ _ _).1 Tryz.underlying39 rfl (by kernel_rfl)) rfl ?_
    exact KF.out _ (D4.out.fin _ _ _ _ _ _ _).2.1 (D4.out.fin _ _ _ _ _ _ _).2.2
end Go.Proofs.YtiflponlioldmaaGreatDoor

namespace Go.Proofs.YtiflponlioldmaaGreatDoor
open Go.RowKit Go.Deep

theorem wpList_append_b {ty : TypeId} {ops : Array Oper} {rest : List Oper} {o : Oper} {a : Act} {Q : Exit → Act → World → Prop} (hgd : o.guard = none) (s x : Operand)
    (ho : o.op = .call { callee := .builtin .append, args := #[s, x], argTypes := #[ty, ty] }) {v y v' : Value} {w w' : World} (hr : (Builtin.append_ #[ty, ty] o.type #[v, y]).run Tryz.prog w = .ok v' w') (hs : a.eval s = v) (hx : a.eval x = y)
    (h : wpList Tryz.prog ops Q rest (a.put o.dst v') w') : wpList Tryz.prog ops Q (o :: rest) a w := by
  refine wpList_plain hgd fun K hK => ?_
  unfold Oper.wp execOp
  simp only [ho, resolve, invoke, builtin, Sem.run_bind, Sem.run_pure, Result.andThen_ok, List.map_toArray, List.map_cons, List.map_nil, hs, hx, hr]
  exact hK _ _ h

/-- The bytes, in a block of our own from base on. -/
def Row8 (base : Nat) (w : World) (mv : Value) (xs : List Int) : Prop := w.ownsRow base 5 1 mv xs.length (xs.map (Value.int .u8))

theorem Row8.below {base : Nat} {w w' : World} {mv : Value} {xs : List Int} (h : Row8 base w mv xs) (hb : Below w.heap.size w w') : Row8 base w' mv xs :=
  World.ownsRow.kept (row := none) h ⟨hb.os, hb.tape, hb.output, hb.size, fun j hj _ => hb.block j hj⟩ (by cases h : Value.ownBlock mv <;> simp)

theorem Row8.push {base : Nat} {w : World} {mv : Value} {xs : List Int} (ho : Row8 base w mv xs) (x : Int) (hn : xs.length < 140737488351232) (hb : base ≤ w.heap.size) :
    ∃ mv' w', (Builtin.append_ #[70, 70] 70 #[mv, .slice (some ⟨w.heap.size, 0, none⟩) 1 1]).run Tryz.prog (w.alloc (.cells #[.int .u8 x] 5)) = .ok mv' w' ∧ Row8 base w' mv' (xs ++ [x]) ∧ w.heap.size ≤ w'.heap.size ∧
      Below base w w' ∧ (∀ j, j < w.heap.size → some j ≠ mv.ownBlock → w'.heap[j]? = w.heap[j]?) := by
  obtain ⟨i, hi, hz⟩ := Option.map_eq_some_iff.1 info8
  simp only [Prod.mk.injEq] at hz
  obtain ⟨z1, z2, z3⟩ := hz
  have bm : Below w.heap.size w (w.alloc (.cells #[.int .u8 x] 5)) := (Below.refl _ _).alloc (Nat.le_refl _) _
  have hs : (w.alloc (.cells #[.int .u8 x] 5)).heap.size = w.heap.size + 1 := World.size_alloc _ _
  have ho' := World.ownsRow.alloc ho (.cells #[.int .u8 x] 5)
  have hcell : (w.alloc (.cells #[.int .u8 x] 5)).cell? ⟨w.heap.size, 0, none⟩ = some (.int .u8 x) :=
    (OwnB.alloc w [x]).cell 0 (by simp)
  obtain ⟨v', w', hr, h1, h2, _⟩ := run_append_own (P := Tryz.prog) (w.alloc (.cells #[.int .u8 x] 5)) base 70 70 5 i (.int .u8 0) 1 1 Tryz.underlying70 hi z1 z2 z3 rfl (by omega) mv xs.length (xs.map (Value.int .u8)) ho'
    ⟨w.heap.size, 0, none⟩ 1 1 [.int .u8 x] rfl (fun j u hu => by
      cases j with
      | zero =>
        simp at hu
        subst hu
        rw [Go.WideShapes.add_plain]
        exact hcell
      | succ j => simp at hu) (fun u hu => by simp at hu; subst hu; rfl) (by simp only [maxLen]; omega) (by omega) (by rw [hs]; omega)
  refine ⟨v', w', hr, by simpa [Row8] using h1, by have := h2.size; omega, ?_, fun j hj hne => ?_⟩
  · have hb2 : Below base (w.alloc (.cells #[.int .u8 x] 5)) w' := by
      refine ⟨h2.os, h2.tape, h2.output, h2.size, fun j hj => h2.block j (by rw [hs]; omega) ?_⟩
      intro hk
      have := (ho'.lt j hk.symm).1
      omega
    exact (bm.mono hb).trans hb2
  · rw [h2.block j (by rw [hs]; omega) hne]
    exact bm.block j hj

/-- The row's shape. -/
theorem Row8.shape {base : Nat} {w : World} {mv : Value} {xs : List Int} (h : Row8 base w mv xs) : ∃ pm cp, mv = .slice pm xs.length cp := by
  rcases h.2 with ⟨rfl, h0⟩ | ⟨g, cp, cur, rfl, _⟩
  · exact ⟨none, 0, by rw [h0]⟩
  · exact ⟨_, cp, rfl⟩

/-- string(b) of such a row that has an address. -/
theorem Row8.cells {base : Nat} {w : World} {mv : Value} {xs : List Int} (h : Row8 base w mv xs) (h0 : xs ≠ []) : ∃ g cp, mv = .slice (some ⟨g, 0, none⟩) xs.length cp ∧ ∀ i, i < xs.length → w.cell? ⟨g, 0 + i, none⟩ = some (.int .u8 (xs.getD i 0)) := by
  rcases h.2 with ⟨rfl, hn⟩ | ⟨g, cp, cur, rfl, _⟩
  · exact absurd (List.eq_nil_of_length_eq_zero hn) h0
  · refine ⟨g, cp, rfl, fun i hi => ?_⟩
    have := World.ownsRow.cells h (g := g) rfl i (.int .u8 (xs.getD i 0)) (by simp [List.getD, hi])
    rw [Go.WideShapes.add_plain] at this
    exact this
end Go.Proofs.YtiflponlioldmaaGreatDoor



namespace Go.Proofs.YtiflponlioldmaaGreatDoor
open Go Go.RowKit Go.Deep Go.Shelf

/-- Pieces' cells. -/
def pcs (ps : List Dr.Pc) : List Value := ps.flatMap fun p => (pcv p).toList
theorem pcs_len (ps : List Dr.Pc) : (pcs ps).length = ps.length * 7 := by
  induction ps with
  | nil => rfl
  | cons p l ih => rw [pcs, List.flatMap_cons, List.length_append, ← pcs, ih, List.length_cons]; simp [pcv]; omega
theorem pcs_app (a b : List Dr.Pc) : pcs (a ++ b) = pcs a ++ pcs b := by simp [pcs]
theorem pcs_one (p : Dr.Pc) : pcs [p] = (pcv p).toList := by simp [pcs]

/-- A list of pieces in a block of our own, from base on. -/
def RowP (base : Nat) (w : World) (mv : Value) (ps : List Dr.Pc) : Prop := w.ownsRow base 39 7 mv ps.length (pcs ps)
theorem RowP.below {base : Nat} {w w' : World} {mv : Value} {ps : List Dr.Pc} (h : RowP base w mv ps) (hb : Below w.heap.size w w') : RowP base w' mv ps :=
  World.ownsRow.kept (row := none) h ⟨hb.os, hb.tape, hb.output, hb.size, fun j hj _ => hb.block j hj⟩ (by cases h : Value.ownBlock mv <;> simp)
theorem RowP.oth {base b : Nat} {w w' : World} {mv : Value} {ps : List Dr.Pc} (h : RowP base w mv ps) (hb : Oth b w w') (hne : b < base) : RowP base w' mv ps := by
  refine World.ownsRow.kept (row := some b) h ⟨hb.os, hb.tape, hb.output, hb.size, fun j hj q => hb.block j hj (fun e => q (by rw [e]))⟩ ?_
  right
  intro e
  have := (World.ownsRow.lt h b e).1
  omega
theorem RowP.nil (base : Nat) (w : World) : RowP base w (.slice none 0 0) [] := World.ownsRow_nil _ _ _ _
theorem infoP : (Tryz.prog.info? 39).map (fun i => (i.zero, i.size, i.bytes)) = some (some (.agg #[.string ⟨#[]⟩, .int .u8 0, .int .i64 0, .int .i64 0, .int .i64 0, .int .i64 0, .int .i64 0]), 7, 64) := by kernel_rfl

theorem RowP.push {base : Nat} {w : World} {mv : Value} {ps : List Dr.Pc} (ho : RowP base w mv ps) (p : Dr.Pc) (hn : ps.length ≤ 2000000000000) (hb : base ≤ w.heap.size) :
    ∃ mv' w', (Builtin.append_ #[29, 29] 29 #[mv, .slice (some ⟨w.heap.size, 0, none⟩) 1 1]).run Tryz.prog (w.alloc (.cells (pcv p) 39)) = .ok mv' w' ∧ RowP base w' mv' (ps ++ [p]) ∧ w.heap.size ≤ w'.heap.size ∧
      Below base w w' ∧ (∀ j, j < w.heap.size → some j ≠ mv.ownBlock → w'.heap[j]? = w.heap[j]?) := by
  obtain ⟨i, hi, hz⟩ := Option.map_eq_some_iff.1 infoP
  simp only [Prod.mk.injEq] at hz
  obtain ⟨z1, z2, z3⟩ := hz
  have bm : Below w.heap.size w (w.alloc (.cells (pcv p) 39)) := (Below.refl _ _).alloc (Nat.le_refl _) _
  have hs : (w.alloc (.cells (pcv p) 39)).heap.size = w.heap.size + 1 := World.size_alloc _ _
  have ho' := World.ownsRow.alloc ho (.cells (pcv p) 39)
  have hcell : ∀ j u, (pcv p)[j]? = some u → (w.alloc (.cells (pcv p) 39)).cell? ⟨w.heap.size, j, none⟩ = some u := by
    intro j u hu
    have h0 : (w.alloc (.cells (pcv p) 39)).heap[w.heap.size]? = some (.cells (pcv p) 39 (0, 0)) := heap_alloc_new w _
    simp only [World.cell?, h0]
    simpa using hu
  obtain ⟨v', w', hr, h1, h2, _⟩ := run_append_own (P := Tryz.prog) (w.alloc (.cells (pcv p) 39)) base 29 29 39 i _ 7 64 Tryz.underlying29 hi z1 z2 z3 rfl (by omega) mv ps.length (pcs ps) ho'
    ⟨w.heap.size, 0, none⟩ 1 1 (pcv p).toList (by simp [pcv]) (fun j u hu => by
      rw [Go.WideShapes.add_plain, Nat.zero_add]
      exact hcell j u (by simpa using hu)) (fun u hu => by
        simp only [pcv, List.mem_cons, List.not_mem_nil, or_false] at hu
        rcases hu with rfl | rfl | rfl | rfl | rfl | rfl | rfl <;> rfl) (by simp only [maxLen]; omega) (by omega) (by rw [hs]; omega)
  refine ⟨v', w', hr, ?_, by have := h2.size; omega, ?_, fun j hj hne => ?_⟩
  · have h1' := h1
    rw [← pcs_one, ← pcs_app] at h1'
    simpa [RowP] using h1'
  · have hb2 : Below base (w.alloc (.cells (pcv p) 39)) w' := by
      refine ⟨h2.os, h2.tape, h2.output, h2.size, fun j hj => h2.block j (by rw [hs]; omega) ?_⟩
      intro hk
      have := (ho'.lt j hk.symm).1
      omega
    exact (bm.mono hb).trans hb2
  · rw [h2.block j (by rw [hs]; omega) hne]; exact bm.block j hj

/-- What is read so far, D, and what is left make the whole. -/
def Sofar (xs : List Int) (j : Nat) (D : List Dr.Pc) : Prop := Dr.prs xs = if (Dr.prs (xs.drop j)).2.2 = 0 then (D ++ (Dr.prs (xs.drop j)).1, 0, 0) else ([], j + (Dr.prs (xs.drop j)).2.1, (Dr.prs (xs.drop j)).2.2)
theorem prs_ok {l : List Int} (h : (Dr.prs l).2.2 = 0) : Dr.prs l = ((Dr.prs l).1, 0, 0) := by
  by_cases hl : l = []
  · rw [hl, Dr.prs_nil]
  · by_cases he : Dr.qe l = 0
    · rw [Dr.prs_cons hl he] at h ⊢
      split at h <;> rename_i k
      · rw [if_pos k]
      · exact absurd h k
    · rw [Dr.prs_err hl he] at h
      exact absurd h he
theorem prs_bad {l : List Int} (h : (Dr.prs l).2.2 ≠ 0) : (Dr.prs l).1 = [] := by
  by_cases hl : l = []
  · rw [hl, Dr.prs_nil]
  · by_cases he : Dr.qe l = 0
    · rw [Dr.prs_cons hl he] at h ⊢
      split at h <;> rename_i k
      · exact absurd rfl h
      · rw [if_neg k]
    · rw [Dr.prs_err hl he]
theorem Sofar.start (xs : List Int) : Sofar xs 0 [] := by
  unfold Sofar
  rw [List.drop_zero, List.nil_append, Nat.zero_add]
  by_cases h : (Dr.prs xs).2.2 = 0
  · rw [if_pos h]; exact prs_ok h
  · rw [if_neg h, ← prs_bad h]
theorem Sofar.step {xs : List Int} {j : Nat} {D : List Dr.Pc} (h : Sofar xs j D) (hj : j < xs.length) (he : Dr.qe (xs.drop j) = 0) : Sofar xs (j + Dr.qu (xs.drop j)) (D ++ [Dr.qp (xs.drop j)]) := by
  unfold Sofar at *
  have hl : xs.drop j ≠ [] := fun q => by have := List.drop_eq_nil_iff.1 q; omega
  rw [Dr.prs_cons hl he, List.drop_drop] at h
  rw [h]
  by_cases k : (Dr.prs (xs.drop (j + Dr.qu (xs.drop j)))).2.2 = 0
  · rw [if_pos k, if_pos k]; simp
  · rw [if_neg k, if_neg k, if_neg k, Nat.add_assoc]
theorem Sofar.stop {xs : List Int} {j : Nat} {D : List Dr.Pc} (h : Sofar xs j D) (hj : j < xs.length) (he : Dr.qe (xs.drop j) ≠ 0) : Dr.prs xs = ([], j + Dr.qu (xs.drop j), Dr.qe (xs.drop j)) := by
  unfold Sofar at h
  have hl : xs.drop j ≠ [] := fun q => by have := List.drop_eq_nil_iff.1 q; omega
  rw [Dr.prs_err hl he, if_neg he] at h
  exact h
theorem Sofar.done {xs : List Int} {D : List Dr.Pc} (h : Sofar xs xs.length D) : Dr.prs xs = (D, 0, 0) := by
  unfold Sofar at h
  rw [List.drop_length, Dr.prs_nil] at h
  simpa using h

/-- What Parse tells. -/
def PaTold (w : World) (xs : List Int) (r : Ending) (w' : World) : Prop := ∃ mv, r = .returned (.tuple #[mv, .int .i64 ((Dr.prs xs).2.1 : Nat), .int .i64 (Dr.prs xs).2.2]) ∧ RowP w.heap.size w' mv (Dr.prs xs).1 ∧ Below w.heap.size w w'
theorem RowP.mono {base base' : Nat} {w : World} {mv : Value} {ps : List Dr.Pc} (h : RowP base w mv ps) (hb : base' ≤ base) : RowP base' w mv ps := by
  obtain ⟨h1, h2⟩ := h
  refine ⟨h1, ?_⟩
  rcases h2 with h2 | ⟨g, cap, cur, e1, e2, e3⟩
  · exact .inl h2
  · exact .inr ⟨g, cap, cur, e1, by omega, e3⟩

set_option maxRecDepth 100000 in
set_option maxHeartbeats 1000000 in
theorem parse_any (s : ByteArray) (xs : List Int) (w : World) (hs : Str s xs) (hl : xs.length ≤ 1099511627776) :
    Calls Tryz.prog 14 #[.string s] w fun r w' => PaTold w xs r w' := by
  have hsz := hs.size
  have PI : Hid (∀ (j : Nat) W, j < xs.length → RB W w.heap.size s j → Calls Tryz.prog 34 #[.pointer (some ⟨w.heap.size, 0, none⟩)] W fun r w' => r = .returned (.tuple #[.agg (pcv (Dr.qp (xs.drop j))), .int .i64 (Dr.qe (xs.drop j))]) ∧ RB w' w.heap.size s (j + Dr.qu (xs.drop j)) ∧ Oth w.heap.size W w') := fun j W hj hb => piece_any w.heap.size j s xs W hs hj (by omega) hb
  have HL := hid hl
  have R0 := hid (RB.new w s)
  have B0 := hid (alloc_b w (.cells #[.string s, .int .i64 0] 73))
  have sz1 : (w.alloc (.cells #[.string s, .int .i64 0] 73)).heap.size = w.heap.size + 1 := Array.size_push ..
  have S0 : Hid (RB (w.alloc (.cells #[.string s, .int .i64 0] 73)) w.heap.size s 0 ∧ Below w.heap.size w (w.alloc (.cells #[.string s, .int .i64 0] 73)) ∧ w.heap.size + 1 ≤ (w.alloc (.cells #[.string s, .int .i64 0] 73)).heap.size) := ⟨R0.out, B0.out, by rw [sz1]; exact Nat.le_refl _⟩
  clear hs hl R0 B0 sz1
  go_enter Tryz.func14, Tryz.ntmps14
  go_wp2_with fail
  go_loopg [5] xs.length (fun m mv wr => ∃ (j : Nat) (D : List Dr.Pc), j + m = xs.length ∧ Hid (RB wr w.heap.size s j ∧ Below w.heap.size w wr ∧ w.heap.size + 1 ≤ wr.heap.size ∧ RowP (w.heap.size + 1) wr mv D ∧ Sofar xs j D ∧ D.length ≤ j))
  case atStart => exact ⟨0, [], by omega, S0.out.1, S0.out.2.1, S0.out.2.2, RowP.nil _ _, Sofar.start xs, by simp⟩
  case round =>
    obtain ⟨j, D, hj, I⟩ := hrel
    have hjb : (j : Int) ≤ 1099511627776 := by have := HL.out; omega
    obtain ⟨⟨c0, c1⟩, -⟩ := I.out.1.cells
    by_cases hjl : j < xs.length
    · have hji : (j : Int) < (xs.length : Int) := by omega
      have P1 := hid (PI.out j wr hjl I.out.1)
      have K0 := hid (fun h => I.out.2.2.2.2.1.step hjl h)
      have K1 := hid (fun h => I.out.2.2.2.2.1.stop hjl h)
      have qp := Dr.qu_pos (l := xs.drop j) (fun q => by have := List.drop_eq_nil_iff.1 q; omega)
      have ql := Dr.qu_le (l := xs.drop j) (fun q => by have := List.drop_eq_nil_iff.1 q; omega)
      rw [List.length_drop] at ql
      have I1 := hid I.out.2
      have j2 : j < j + Dr.qu (xs.drop j) := by omega
      have j3 : j + Dr.qu (xs.drop j) ≤ xs.length := by omega
      have dl := I1.out.2.2.2.2
      clear PI I qp ql
      generalize j + Dr.qu (xs.drop j) = j1 at *
      generalize Dr.qp (xs.drop j) = p at *
      generalize Dr.qe (xs.drop j) = E at *
      have P2 : Hid (Calls Tryz.prog 34 #[.pointer (some ⟨w.heap.size, 0, none⟩)] wr fun r w' => r = .returned (.tuple #[.agg #[.string (strOfNums p.t), .int .u8 p.v, .int .i64 p.fl, .int .i64 p.wk, .int .i64 p.wd, .int .i64 p.pk, .int .i64 p.pr], .int .i64 E]) ∧ RB w' w.heap.size s j1 ∧ Oth w.heap.size wr w') := P1.out
      clear P1
      go_wp2_with fail
      refine P2.out.mono ?_
      rintro e w1 ⟨rfl, r1, o1⟩
      have A1 := alloc_b w1 (.cells #[.string (strOfNums p.t), .int .u8 p.v, .int .i64 p.fl, .int .i64 p.wk, .int .i64 p.wd, .int .i64 p.pk, .int .i64 p.pr] 39)
      have RA := hid (r1.below A1)
      have B1 : Hid (Below w.heap.size w (w1.alloc (.cells #[.string (strOfNums p.t), .int .u8 p.v, .int .i64 p.fl, .int .i64 p.wk, .int .i64 p.wd, .int .i64 p.pk, .int .i64 p.pr] 39))) := by
        have k1 : Below w.heap.size wr w1 := o1.below (Nat.le_refl _) (by have := I1.out.2.1; omega)
        have k2 := I1.out.1.trans k1
        exact k2.trans (A1.mono (by have := k2.size; omega))
      have W1 : Hid (∀ mv, RowP (w.heap.size + 1) wr mv D → RowP (w.heap.size + 1) (w1.alloc (.cells #[.string (strOfNums p.t), .int .u8 p.v, .int .i64 p.fl, .int .i64 p.wk, .int .i64 p.wd, .int .i64 p.pk, .int .i64 p.pr] 39)) mv D) := fun mv h => (h.oth o1 (by omega)).below A1
      have Z1 : Hid (w.heap.size + 1 ≤ (w1.alloc (.cells #[.string (strOfNums p.t), .int .u8 p.v, .int .i64 p.fl, .int .i64 p.wk, .int .i64 p.wd, .int .i64 p.pk, .int .i64 p.pr] 39)).heap.size) := by
        have := I1.out.2.1; have := o1.size; have := A1.size; show _ ≤ _; omega
      have PB := hid (P7.new w1 (.string (strOfNums p.t)) (.int .u8 p.v) (.int .i64 p.fl) (.int .i64 p.wk) (.int .i64 p.wd) (.int .i64 p.pk) (.int .i64 p.pr))
      clear r1 o1 A1 c0 c1
      go_upto_region 5 with fail
      generalize w1.alloc (.cells #[.string (strOfNums p.t), .int .u8 p.v, .int .i64 p.fl, .int .i64 p.wk, .int .i64 p.wd, .int .i64 p.pk, .int .i64 p.pr] 39) = wA at *
      obtain ⟨⟨c0, c1⟩, -⟩ := RA.out.cells
      by_cases hE : E = 0
      · subst hE
        obtain ⟨mv', w2, ap, q1, q2, q3, q4⟩ := (W1.out _ I1.out.2.2.1).push p (by have := HL.out; omega) Z1.out
        have AP := hid ap
        have F : Hid (RB w2 w.heap.size s j1 ∧ Below w.heap.size w w2 ∧ w.heap.size + 1 ≤ w2.heap.size ∧ RowP (w.heap.size + 1) w2 mv' (D ++ [p]) ∧ Sofar xs j1 (D ++ [p]) ∧ (D ++ [p]).length ≤ j1) := by
          refine ⟨?_, B1.out.trans (q3.mono (by omega)), by have := Z1.out; omega, q1, K0.out rfl, by simp; omega⟩
          rw [RB, q4 w.heap.size RA.out.lt (fun e => by have := (World.ownsRow.lt (W1.out _ I1.out.2.2.1) _ e.symm).1; omega)]
          exact RA.out
        unfold pcv at AP
        obtain ⟨⟨b0, b1, b2, b3, b4, b5, b6⟩, -⟩ := PB.out.cells
        clear ap q1 q2 q3 q4 I1 K0 K1 W1 B1 RA c0 c1 PB Z1
        go_wp2_with (at_builtin; refine wpList_append_b rfl _ _ rfl AP.out (by rfl) (by rfl) ?_; clear AP)
        go_roundg (xs.length - j1)
        case measure => omega
        case rel => exact ⟨j1, D ++ [p], by omega, F.out⟩
      · have KF : Hid (∀ n, PaTold w xs (.returned (.tuple #[.slice none 0 0, .int .i64 (j1 : Int), .int .i64 E])) (wA.drewN n)) := by
          intro n
          have e := K1.out hE
          rw [PaTold, e]
          exact ⟨_, rfl, RowP.nil _ _, below_drewN B1.out n⟩
        clear I1 K0 K1 W1 B1 PB Z1
        go_wp2_with fail
        go_quiet (fail)
        go_wp2_with fail
        go_ret3
        exact KF.out _
    · have hje : j = xs.length := by omega
      have hji : ¬ (j : Int) < (xs.length : Int) := by omega
      have KF : Hid (∀ mv, RowP (w.heap.size + 1) wr mv D → PaTold w xs (.returned (.tuple #[mv, .int .i64 0, .int .i64 0])) wr) := by
        intro mv h
        have e : Dr.prs xs = (D, 0, 0) := by have := I.out.2.2.2.2.1; rw [hje] at this; exact this.done
        rw [PaTold, e]
        exact ⟨_, rfl, h.mono (by omega), I.out.2.1⟩
      have RW := hid I.out.2.2.2.1
      clear PI I
      go_wp2_with fail
      go_ret3
      exact KF.out _ RW.out
end Go.Proofs.YtiflponlioldmaaGreatDoor

namespace Go.Proofs.YtiflponlioldmaaGreatDoor
open Go Go.RowKit Go.Deep Go.Shelf

/-- The table of powers of ten, whatever changes from base on. -/
def T10 (B : Nat) (w : World) : Prop := Lib.TabBelow Tryz.prog B w "internal/strconv.uint64pow10" .u64 Lib.pow10Tab
theorem T10.on {B : Nat} {w w' : World} (h : T10 B w) (k : Below B w w') : T10 B w' := Lib.TabBelow.on h k
theorem T10.up {B B' : Nat} {w : World} (h : T10 B w) (k : B ≤ B') : T10 B' w := fun w' hb => h w' (hb.mono k)
theorem T10.of {w : World} (h : Lib.TabIs Tryz.prog w "internal/strconv.uint64pow10" .u64 Lib.pow10Tab) : T10 w.heap.size w := by
  intro w' k
  unfold Lib.TabIs World.var? at *
  cases hg : Tryz.prog.globalNamed "internal/strconv.uint64pow10" with
  | none => rw [hg] at h; simp at h
  | some g =>
    rw [hg] at h
    simp only [Option.bind_some] at h ⊢
    have hl : g < w.heap.size := by
      rcases Nat.lt_or_ge g w.heap.size with c | c
      · exact c
      · rw [Array.getElem?_eq_none c] at h; simp at h
    rw [k.block g hl]; exact h

theorem itoa_dl {n : Int} (h : 0 ≤ n) : Lib.byteCells (Lib.itoa n) = (Sc.dl n.toNat).map (Value.int .u8) := by
  rw [Lib.itoa, if_neg (by omega), Lib.byteCells, Sc.dl, List.map_map]; rfl
theorem itoa_len {n : Int} (h : 0 ≤ n) : (Lib.itoa n).length = (Sc.dl n.toNat).length := by
  rw [Lib.itoa, if_neg (by omega), Sc.dl, List.length_map]

theorem appint_any (base : Nat) (mv : Value) (zs : List Int) (n : Int) (w : World) (hr : Row8 base w mv zs) (hb : base ≤ w.heap.size) (hz : zs.length ≤ 1000) (hT : T10 base w) (n0 : 0 ≤ n) (n1 : n ≤ 4096) :
    Calls Tryz.prog 142 #[mv, .int .i64 n, .int .i64 10] w fun e w' => ∃ mv', e = .returned mv' ∧ Row8 base w' mv' (zs ++ Sc.dl n.toNat) ∧ Below base w w' := by
  have h := Any.strconv_AppendInt_10 apLays base zs.length n (by omega) (by omega) mv (zs.map (Value.int .u8)) w hr hb (by omega) hT
  change Calls Tryz.prog 142 _ _ _ at h
  refine h.mono ?_
  rintro e w' ⟨v', rfl, h1, h2, _⟩
  refine ⟨v', rfl, ?_, h2⟩
  rw [itoa_dl n0, itoa_len n0, ← List.map_append, ← List.length_append] at h1
  exact h1

/-- What appends to a row tells. -/
def ApTold (base : Nat) (zs : List Int) (w : World) (e : Ending) (w' : World) : Prop := ∃ mv, e = .returned mv ∧ Row8 base w' mv zs ∧ Below base w w'

theorem appnum_any (base : Nat) (mv : Value) (zs : List Int) (k n : Int) (w : World) (hr : Row8 base w mv zs) (hb : base ≤ w.heap.size) (hz : zs.length ≤ 1000) (hT : T10 base w) (hn : k = 1 → 0 ≤ n ∧ n ≤ 4096) :
    Calls Tryz.prog 92 #[mv, .int .i64 k, .int .i64 n] w fun e w' => ApTold base (zs ++ Dr.wn k n) w e w' := by
  by_cases h1 : k = 1
  · subst h1
    have AI := hid (appint_any base mv zs n w hr hb hz hT (hn rfl).1 (hn rfl).2)
    clear hr hb hT hn
    go_enter Tryz.func92, Tryz.ntmps92
    go_wp2_with fail
    refine AI.out.mono ?_
    rintro e w1 ⟨mv1, rfl, r1, b1⟩
    have K : Hid (ApTold base (zs ++ Dr.wn 1 n) w (.returned mv1) w1) := ⟨mv1, rfl, r1, b1⟩
    clear r1 b1
    go_wp2_with fail
    go_ret
    exact K.out
  · by_cases h2 : k = 2
    · subst h2
      obtain ⟨mv1, w1, ap, r1, z1, b1, _⟩ := hr.push 42 (by omega) hb
      have AP := hid ap
      have K : Hid (ApTold base (zs ++ Dr.wn 2 n) w (.returned mv1) w1) := ⟨mv1, rfl, r1, b1⟩
      clear hr hb hT hn ap r1 z1 b1
      go_enter Tryz.func92, Tryz.ntmps92
      go_wp2_with (at_builtin; refine wpList_append_b rfl _ _ rfl AP.out (by rfl) (by rfl) ?_; clear AP)
      go_ret
      exact K.out
    · have K : Hid (ApTold base (zs ++ Dr.wn k n) w (.returned mv) w) := by
        refine ⟨mv, rfl, ?_, Below.refl _ _⟩
        rw [Dr.wn, if_neg h1, if_neg h2, List.append_nil]; exact hr
      clear hr hb hT hn
      go_enter Tryz.func92, Tryz.ntmps92
      go_wp2_with fail
      go_ret
      exact K.out

namespace Dr
/-- The first i marks of the flags. -/
def msn (f : Int) : Nat → List Int
  | 0 => []
  | i + 1 => msn f i ++ (if f.toNat / 2 ^ i % 2 = 1 then [nx marks i] else [])
theorem msn5 (f : Int) : msn f 5 = ms f := by
  simp [msn, ms, nx, marks]
theorem msn_len (f : Int) (i : Nat) : (msn f i).length ≤ i := by
  induction i with
  | zero => simp [msn]
  | succ i ih => rw [msn, List.length_append]; split <;> simp <;> omega
end Dr

theorem and_is (t i : Nat) (ht : t < 32) (hi : i < 5) : bits .and .i64 (t : Int) (wrap64 (2 ^ i)) = 0 ↔ ¬ t / 2 ^ i % 2 = 1 := by
  have key : ∀ (t : Fin 32) (i : Fin 5), bits .and .i64 (t.val : Int) (IntKind.i64.wrap (1 * 2 ^ i.val)) = 0 ↔ ¬ t.val / 2 ^ i.val % 2 = 1 := by decide
  have e : wrap64 (2 ^ i) = IntKind.i64.wrap (1 * 2 ^ i) := by
    rw [IntKind.wrap_i64, Int.one_mul, wrap64]
  rw [e]
  exact key ⟨t, ht⟩ ⟨i, hi⟩

/-- Bytes as a text. -/
theorem Row8.cv {base : Nat} {w : World} {mv : Value} {xs : List Int} (h : Row8 base w mv xs) (h0 : xs ≠ []) : (convert 70 9 mv).run Tryz.prog w = .ok (.string (strOfNums xs)) w := by
  obtain ⟨g, cp, rfl, hc⟩ := h.cells h0
  exact run_convert_bytes_arg (P := Tryz.prog) w 70 5 Tryz.underlying70 Tryz.underlying5 g 0 xs.length cp xs rfl hc 9 Tryz.underlying9

/-- What written tells. -/
def WrTold (p : Dr.Pc) (w : World) (e : Ending) (w' : World) : Prop := e = .returned (.string (strOfNums (Dr.wr p))) ∧ Below w.heap.size w w'

theorem dl_len4 {u : Nat} (h : u ≤ 4096) : (Sc.dl u).length ≤ 4 := by
  by_cases h1 : u < 10
  · rw [Sc.dl_small h1]; simp
  · rw [Sc.dl_big h1, List.length_append]
    by_cases h2 : u / 10 < 10
    · rw [Sc.dl_small h2]; simp
    · rw [Sc.dl_big h2, List.length_append]
      by_cases h3 : u / 10 / 10 < 10
      · rw [Sc.dl_small h3]; simp
      · rw [Sc.dl_big h3, List.length_append, Sc.dl_small (by omega)]; simp
theorem wn_len {k n l : Int} (h : Dr.num k n l) : (Dr.wn k n).length ≤ 4 := by
  rcases h with ⟨h | h, hn⟩ | ⟨h, h1, h2⟩
  · rw [h, hn]; simp [Dr.wn]
  · rw [h, hn]; simp [Dr.wn]
  · rw [h]; exact dl_len4 (by omega)
theorem ms_len (f : Int) : (Dr.ms f).length ≤ 5 := by rw [← Dr.msn5]; exact Dr.msn_len f 5

theorem written_text (s : ByteArray) (xs : List Int) (v f a b c d : Int) (w : World) (hs : Str s xs) (h : v = 0 ∨ v = 37) :
    Calls Tryz.prog 46 #[.agg #[.string s, .int .u8 v, .int .i64 f, .int .i64 a, .int .i64 b, .int .i64 c, .int .i64 d]] w fun e w' => WrTold ⟨xs, v, f, a, b, c, d⟩ w e w' := by
  have B := hid (alloc_b w (.cells #[.string s, .int .u8 v, .int .i64 f, .int .i64 a, .int .i64 b, .int .i64 c, .int .i64 d] 39))
  rcases h with rfl | rfl
  · have K : Hid (WrTold ⟨xs, 0, f, a, b, c, d⟩ w (.returned (.string s)) (w.alloc (.cells #[.string s, .int .u8 0, .int .i64 f, .int .i64 a, .int .i64 b, .int .i64 c, .int .i64 d] 39))) := ⟨by rw [str_of hs]; rfl, B.out⟩
    clear hs
    go_enter Tryz.func46, Tryz.ntmps46
    go_wp2_with fail
    go_ret
    exact K.out
  · have K : Hid (WrTold ⟨xs, 37, f, a, b, c, d⟩ w (.returned (.string ⟨#[37, 37]⟩)) (w.alloc (.cells #[.string s, .int .u8 37, .int .i64 f, .int .i64 a, .int .i64 b, .int .i64 c, .int .i64 d] 39))) := ⟨rfl, B.out⟩
    clear hs
    go_enter Tryz.func46, Tryz.ntmps46
    go_wp2_with fail
    go_ret
    exact K.out

theorem P7.belowB {B : Nat} {w w' : World} {b : Nat} {v0 v1 v2 v3 v4 v5 v6 : Value} (h : P7 w b v0 v1 v2 v3 v4 v5 v6) (hB : Below B w w') (hb : b < B) : P7 w' b v0 v1 v2 v3 v4 v5 v6 := by
  rw [P7, hB.block b hb]; exact h

/-- The state of written: the piece's box, the bytes. -/
structure WS (w : World) (v0 v1 v2 v3 v4 v5 v6 : Value) (wx : World) (mv : Value) (zs : List Int) : Prop where
  box : P7 wx w.heap.size v0 v1 v2 v3 v4 v5 v6
  bel : Below w.heap.size w wx
  siz : w.heap.size + 1 ≤ wx.heap.size
  row : Row8 (w.heap.size + 1) wx mv zs
theorem WS.on {w wx wy : World} {v0 v1 v2 v3 v4 v5 v6 mv mv' : Value} {zs zs' : List Int} (h : WS w v0 v1 v2 v3 v4 v5 v6 wx mv zs) (r : Row8 (w.heap.size + 1) wy mv' zs') (b : Below (w.heap.size + 1) wx wy) : WS w v0 v1 v2 v3 v4 v5 v6 wy mv' zs' :=
  ⟨h.box.belowB b (by omega), h.bel.trans (b.mono (by omega)), by have := h.siz; have := b.size; omega, r⟩
theorem WS.drew {w wx : World} {v0 v1 v2 v3 v4 v5 v6 mv : Value} {zs : List Int} (h : WS w v0 v1 v2 v3 v4 v5 v6 wx mv zs) (n : Nat) : WS w v0 v1 v2 v3 v4 v5 v6 (wx.drewN n) mv zs :=
  ⟨h.box, below_drewN h.bel n, h.siz, h.row⟩
theorem WS.push {w wx : World} {v0 v1 v2 v3 v4 v5 v6 mv : Value} {zs : List Int} (h : WS w v0 v1 v2 v3 v4 v5 v6 wx mv zs) (x : Int) (hz : zs.length ≤ 1000) :
    ∃ mv' w', (Builtin.append_ #[70, 70] 70 #[mv, .slice (some ⟨wx.heap.size, 0, none⟩) 1 1]).run Tryz.prog (wx.alloc (.cells #[.int .u8 x] 5)) = .ok mv' w' ∧ WS w v0 v1 v2 v3 v4 v5 v6 w' mv' (zs ++ [x]) := by
  obtain ⟨mv1, w1, ap, r1, z1, b1, _⟩ := h.row.push x (by omega) h.siz
  exact ⟨mv1, w1, ap, h.on r1 b1⟩

set_option maxRecDepth 100000 in
set_option maxHeartbeats 2000000 in
theorem written_dir (s : ByteArray) (xs : List Int) (v f a b c d : Int) (w : World) (h : Dr.isR ⟨xs, v, f, a, b, c, d⟩) (hT : T10 w.heap.size w) :
    Calls Tryz.prog 46 #[.agg #[.string s, .int .u8 v, .int .i64 f, .int .i64 a, .int .i64 b, .int .i64 c, .int .i64 d]] w fun e w' => WrTold ⟨xs, v, f, a, b, c, d⟩ w e w' := by
  obtain ⟨hv, ht, f0, f1, hw, hp⟩ := h
  obtain ⟨v0, v37, -, -, -, -, v00, v256⟩ := Dr.verb_ne hv
  have A1 := alloc_b w (.cells #[.string s, .int .u8 v, .int .i64 f, .int .i64 a, .int .i64 b, .int .i64 c, .int .i64 d] 39)
  have P1 := P7.new w (.string s) (.int .u8 v) (.int .i64 f) (.int .i64 a) (.int .i64 b) (.int .i64 c) (.int .i64 d)
  have sz1 : (w.alloc (.cells #[.string s, .int .u8 v, .int .i64 f, .int .i64 a, .int .i64 b, .int .i64 c, .int .i64 d] 39)).heap.size = w.heap.size + 1 := Array.size_push ..
  have L1 := wn_len hw
  have L2 := wn_len hp
  have L3 := ms_len f
  have WE : Hid (Dr.wr ⟨xs, v, f, a, b, c, d⟩ = (([37] ++ Dr.ms f ++ Dr.wn a b) ++ (if c ≠ 0 then [46] ++ Dr.wn c d else [])) ++ [v]) := by
    rw [Hid, Dr.wr, if_neg v0, if_neg v37]
    by_cases hc : c = 0
    · simp [hc]
    · simp [hc]
  have N1 : a = 1 → 0 ≤ b ∧ b ≤ 4096 := fun e => by
    rcases hw with ⟨q | q, _⟩ | ⟨_, q1, q2⟩ <;> simp only at * <;> omega
  have N2 : c = 1 → 0 ≤ d ∧ d ≤ 4096 := fun e => by
    rcases hp with ⟨q | q, _⟩ | ⟨_, q1, q2⟩ <;> simp only at * <;> omega
  simp only at L1 L2 v0 v37 f0 f1
  obtain ⟨t, rfl⟩ : ∃ t : Nat, f = (t : Int) := ⟨f.toNat, by omega⟩
  have t32 : t < 32 := by omega
  have W0 : Hid (WS w (.string s) (.int .u8 v) (.int .i64 t) (.int .i64 a) (.int .i64 b) (.int .i64 c) (.int .i64 d) ((w.alloc (.cells #[.string s, .int .u8 v, .int .i64 t, .int .i64 a, .int .i64 b, .int .i64 c, .int .i64 d] 39)).alloc (.cells #[.int .u8 37] 5)) (.slice (some ⟨w.heap.size + 1, 0, none⟩) 1 1) [37]) := by
    have A2 := alloc_b (w.alloc (.cells #[.string s, .int .u8 v, .int .i64 t, .int .i64 a, .int .i64 b, .int .i64 c, .int .i64 d] 39)) (.cells #[.int .u8 37] 5)
    refine ⟨P1.below A2, below_on A1 A2, by have := A2.size; omega, ?_⟩
    have q := heap_alloc_new (w.alloc (.cells #[.string s, .int .u8 v, .int .i64 t, .int .i64 a, .int .i64 b, .int .i64 c, .int .i64 d] 39)) (.cells #[.int .u8 37] 5)
    rw [sz1] at q
    exact ⟨by simp, .inr ⟨w.heap.size + 1, 1, #[.int .u8 37], rfl, Nat.le_refl _, q, by simp, by simp [maxLen], by simp, by simp⟩⟩
  have AN : Hid (∀ wx mv zs (k n : Int), WS w (.string s) (.int .u8 v) (.int .i64 t) (.int .i64 a) (.int .i64 b) (.int .i64 c) (.int .i64 d) wx mv zs → zs.length ≤ 1000 → (k = 1 → 0 ≤ n ∧ n ≤ 4096) → Calls Tryz.prog 92 #[mv, .int .i64 k, .int .i64 n] wx fun e w' => ∃ mv', e = .returned mv' ∧ WS w (.string s) (.int .u8 v) (.int .i64 t) (.int .i64 a) (.int .i64 b) (.int .i64 c) (.int .i64 d) w' mv' (zs ++ Dr.wn k n)) := by
    intro wx mv zs k n h hz hn
    refine (appnum_any (w.heap.size + 1) mv zs k n wx h.row h.siz hz ((hT.on h.bel).up (by omega)) hn).mono ?_
    rintro e w' ⟨mv', rfl, r, b⟩
    exact ⟨mv', rfl, h.on r b⟩
  have HX : ∀ (i : Nat) (h : i < (⟨#[45, 43, 32, 35, 48]⟩ : ByteArray).size), (((⟨#[45, 43, 32, 35, 48]⟩ : ByteArray)[i]'h).toNat : Int) = Dr.nx Dr.marks i := fun i h => Str.at (s := ⟨#[45, 43, 32, 35, 48]⟩) (xs := Dr.marks) rfl i h
  have FN : Hid (∀ wx mv zs, Dr.wr ⟨xs, v, t, a, b, c, d⟩ = zs → zs ≠ [] → WS w (.string s) (.int .u8 v) (.int .i64 t) (.int .i64 a) (.int .i64 b) (.int .i64 c) (.int .i64 d) wx mv zs → (convert 70 9 mv).run Tryz.prog wx = .ok (.string (strOfNums zs)) wx ∧ WrTold ⟨xs, v, t, a, b, c, d⟩ w (.returned (.string (strOfNums zs))) wx) := by
    intro wx mv zs e h0 h
    exact ⟨h.row.cv h0, by rw [e], h.bel⟩
  have V0 := v0
  have V37 := v37
  have T32 := hid t32
  have N1 := hid N1
  have N2 := hid N2
  have HX := hid HX
  have L1 := hid L1
  have L2 := hid L2
  have L3 := hid L3
  clear A1 P1 sz1 hT t32 f0 f1 v0 v37
  go_enter Tryz.func46, Tryz.ntmps46
  go_wp2_with fail
  go_loopg [3, 14] 5 (fun m bv iv wr => ∃ i : Nat, i + m = 5 ∧ iv = .int .i64 (i : Int) ∧ Hid (WS w (.string s) (.int .u8 v) (.int .i64 t) (.int .i64 a) (.int .i64 b) (.int .i64 c) (.int .i64 d) wr bv ([37] ++ Dr.msn t i)))
  case atStart => exact ⟨0, by omega, rfl, W0.out⟩
  case round =>
    obtain ⟨i, hi, rfl, I⟩ := hrel
    obtain ⟨⟨b0, b1, b2, b3, b4, b5, b6⟩, -⟩ := I.out.box.cells
    by_cases h5 : i < 5
    · have i5 : (i : Int) < 5 := by omega
      have i0 : (0 : Int) ≤ (i : Int) := by omega
      have i64 : (i : Int) ≤ 64 := by omega
      have AI := and_is t i T32.out h5
      have hx : ∀ h : i < (⟨#[45, 43, 32, 35, 48]⟩ : ByteArray).size, (((⟨#[45, 43, 32, 35, 48]⟩ : ByteArray)[i]'h).toNat : Int) = Dr.nx Dr.marks i := HX.out i
      have ml := Dr.msn_len t i
      by_cases hb : t / 2 ^ i % 2 = 1
      · have A0 : ¬ bits .and .i64 (t : Int) (wrap64 (2 ^ i)) = 0 := fun q => AI.1 q hb
        have MS : Dr.msn t (i + 1) = Dr.msn t i ++ [Dr.nx Dr.marks i] := by rw [Dr.msn, Int.toNat_natCast, if_pos hb]
        clear AI hb
        go_wp2_with fail
        go_quiet (fail)
        obtain ⟨mv', w2, ap, q⟩ := (I.out.drew nq).push (Dr.nx Dr.marks i) (by simp; omega)
        rw [List.append_assoc, ← MS] at q
        have AP := hid ap
        have Q := hid q
        clear I ap q MS ml
        generalize wr.drewN nq = w1 at *
        go_wp2_with (at_builtin; refine wpList_append_b rfl _ _ rfl AP.out (by rfl) (by rfl) ?_; clear AP)
        go_roundg (5 - (i + 1))
        case measure => omega
        case rel => exact ⟨i + 1, by omega, by go_num, Q.out⟩
      · have A0 : bits .and .i64 (t : Int) (wrap64 (2 ^ i)) = 0 := AI.2 hb
        have MS : Dr.msn t (i + 1) = Dr.msn t i := by rw [Dr.msn, Int.toNat_natCast, if_neg hb, List.append_nil]
        have I2 := hid (fun n => I.out.drew n)
        rw [← MS] at I2
        clear I AI hb hx ml MS
        go_wp2_with fail
        go_quiet (fail)
        go_wp2_with fail
        go_roundg (5 - (i + 1))
        case measure => omega
        case rel => exact ⟨i + 1, by omega, by go_num, I2.out _⟩
    · have i5 : ¬ (i : Int) < 5 := by omega
      have ie : i = 5 := by omega
      have I0 : Hid (∀ mv, WS w (.string s) (.int .u8 v) (.int .i64 t) (.int .i64 a) (.int .i64 b) (.int .i64 c) (.int .i64 d) wr mv ([37] ++ Dr.msn t i) → WS w (.string s) (.int .u8 v) (.int .i64 t) (.int .i64 a) (.int .i64 b) (.int .i64 c) (.int .i64 d) wr mv ([37] ++ Dr.ms t)) := fun mv h => by rw [ie, Dr.msn5] at h; exact h
      have I1 := hid (I0.out _ I.out)
      clear I I0 ie hi
      go_wp2_with fail
      refine (AN.out wr _ _ a b I1.out (by have := L3.out; simp; omega) N1.out).mono ?_
      rintro e w1 ⟨mv1, rfl, q1⟩
      have Q1 := hid q1
      clear q1 I1 b0 b1 b2 b3 b4 b5 b6
      obtain ⟨⟨b0, b1, b2, b3, b4, b5, b6⟩, -⟩ := Q1.out.box.cells
      have WE1 := WE.out
      by_cases hc : c = 0
      · rw [if_neg (by simp [hc]), List.append_nil] at WE1
        obtain ⟨mv2, w2, ap, q2⟩ := Q1.out.push v (by have := L3.out; have := L1.out; simp; omega)
        obtain ⟨cv, kf⟩ := FN.out _ _ _ WE1 (by simp) q2
        have AP := hid ap
        have KF := hid kf
        clear ap q2 kf Q1 WE1
        generalize strOfNums ([37] ++ Dr.ms t ++ Dr.wn a b ++ [v]) = S at *
        go_wp2_with (at_builtin; refine wpList_append_b rfl _ _ rfl AP.out (by rfl) (by rfl) ?_; clear AP)
        go_ret
        exact KF.out
      · rw [if_pos hc] at WE1
        obtain ⟨mv2, w2, ap, q2⟩ := Q1.out.push 46 (by have := L3.out; have := L1.out; simp; omega)
        have AP := hid ap
        have Q2 := hid q2
        clear ap q2
        go_wp2_with (at_builtin; refine wpList_append_b rfl _ _ rfl AP.out (by rfl) (by rfl) ?_; clear AP; clear b0 b1 b2 b3 b4 b5 b6; obtain ⟨⟨b0, b1, b2, b3, b4, b5, b6⟩, -⟩ := Q2.out.box.cells)
        refine (AN.out w2 _ _ c d Q2.out (by have := L3.out; have := L1.out; simp; omega) N2.out).mono ?_
        rintro e w3 ⟨mv3, rfl, q3⟩
        have Q3 := hid q3
        clear q3 Q2 Q1 b0 b1 b2 b3 b4 b5 b6
        obtain ⟨⟨b0, b1, b2, b3, b4, b5, b6⟩, -⟩ := Q3.out.box.cells
        obtain ⟨mv4, w4, ap, q4⟩ := Q3.out.push v (by have := L3.out; have := L1.out; have := L2.out; simp; omega)
        obtain ⟨cv, kf⟩ := FN.out _ _ _ (by rw [WE1]; simp) (by simp) q4
        have AP := hid ap
        have KF := hid kf
        clear ap q4 kf Q3 WE1
        generalize strOfNums ([37] ++ Dr.ms t ++ Dr.wn a b ++ [46] ++ Dr.wn c d ++ [v]) = S at *
        go_wp2_with (at_builtin; refine wpList_append_b rfl _ _ rfl AP.out (by rfl) (by rfl) ?_; clear AP)
        go_ret
        exact KF.out
end Go.Proofs.YtiflponlioldmaaGreatDoor

namespace Go.Proofs.YtiflponlioldmaaGreatDoor
open Go Go.RowKit Go.Deep Go.Shelf

/-- A piece that a program can hold. -/
def PcW (p : Dr.Pc) : Prop := (∀ x ∈ p.t, 0 ≤ x ∧ x < 256) ∧ 0 ≤ p.v ∧ p.v < 256

/-- A piece's cells at a place. -/
def PCells (w : World) (b o : Nat) (p : Dr.Pc) : Prop := w.cell? ⟨b, o, none⟩ = some (.string (strOfNums p.t)) ∧ w.cell? ⟨b, o + 1, none⟩ = some (.int .u8 p.v) ∧ w.cell? ⟨b, o + 2, none⟩ = some (.int .i64 p.fl) ∧ w.cell? ⟨b, o + 3, none⟩ = some (.int .i64 p.wk) ∧ w.cell? ⟨b, o + 4, none⟩ = some (.int .i64 p.wd) ∧ w.cell? ⟨b, o + 5, none⟩ = some (.int .i64 p.pk) ∧ w.cell? ⟨b, o + 6, none⟩ = some (.int .i64 p.pr)

/-- A list of pieces that can be read. -/
def LP (w : World) (a : Option Addr) (ps : List Dr.Pc) : Prop := ps = [] ∨ ∃ b off, a = some ⟨b, off, none⟩ ∧ ∀ i p, ps[i]? = some p → PCells w b (off + i * 7) p
theorem cell_below {B : Nat} {w w' : World} {a : Addr} {v : Value} (h : w.cell? a = some v) (k : Below B w w') (hb : a.block < B) : w'.cell? a = some v := by
  rw [← h]; simp only [World.cell?, k.block a.block hb]
theorem PCells.below {w w' : World} {b o : Nat} {p : Dr.Pc} (h : PCells w b o p) (k : Below w.heap.size w w') : PCells w' b o p := by
  obtain ⟨h0, h1, h2, h3, h4, h5, h6⟩ := h
  have hb := cell_lt h0
  exact ⟨cell_below h0 k hb, cell_below h1 k hb, cell_below h2 k hb, cell_below h3 k hb, cell_below h4 k hb, cell_below h5 k hb, cell_below h6 k hb⟩
theorem LP.below {w w' : World} {a : Option Addr} {ps : List Dr.Pc} (h : LP w a ps) (k : Below w.heap.size w w') : LP w' a ps := by
  rcases h with h | ⟨b, off, e, h⟩
  · exact .inl h
  · exact .inr ⟨b, off, e, fun i p hi => (h i p hi).below k⟩

theorem pcs_at {ps : List Dr.Pc} {i k : Nat} {p : Dr.Pc} (h : ps[i]? = some p) (hk : k < 7) : (pcs ps)[i * 7 + k]? = (pcv p)[k]? := by
  induction ps generalizing i with
  | nil => simp at h
  | cons q l ih =>
    have e : pcs (q :: l) = (pcv q).toList ++ pcs l := by simp [pcs]
    have hl : (pcv q).toList.length = 7 := by simp [pcv]
    cases i with
    | zero =>
      simp at h
      subst h
      rw [e, List.getElem?_append_left (by omega)]
      simp
    | succ i =>
      simp at h
      rw [e, List.getElem?_append_right (by omega), hl, show (i + 1) * 7 + k - 7 = i * 7 + k by omega, ih h]
/-- A list of our own can be read. -/
theorem RowP.lp {base : Nat} {w : World} {mv : Value} {ps : List Dr.Pc} (h : RowP base w mv ps) : ∃ a cap, mv = .slice a ps.length cap ∧ ps.length ≤ cap ∧ LP w a ps := by
  rcases h.2 with ⟨rfl, h0⟩ | ⟨g, cap, cur, rfl, _, _, hc, _⟩
  · exact ⟨none, 0, by rw [h0], by omega, .inl (List.eq_nil_of_length_eq_zero h0)⟩
  · refine ⟨_, cap, rfl, hc, .inr ⟨g, 0, rfl, fun i p hi => ?_⟩⟩
    have k : ∀ j, j < 7 → ∀ u, (pcv p)[j]? = some u → w.cell? ⟨g, 0 + i * 7 + j, none⟩ = some u := by
      intro j hj u hu
      have := World.ownsRow.cells h (g := g) rfl (i * 7 + j) u (by rw [pcs_at hi hj]; exact hu)
      rw [Go.WideShapes.add_plain] at this
      rw [Nat.add_assoc]; exact this
    exact ⟨k 0 (by omega) _ rfl, k 1 (by omega) _ rfl, k 2 (by omega) _ rfl, k 3 (by omega) _ rfl, k 4 (by omega) _ rfl, k 5 (by omega) _ rfl, k 6 (by omega) _ rfl⟩

/-- The cells of the piece at place i, by its address. -/
theorem LP.at {w : World} {a : Option Addr} {ps : List Dr.Pc} (h : LP w a ps) (i : Nat) (hi : i < ps.length) : ∃ b off, a = some ⟨b, off, none⟩ ∧ PCells w b (off + i * 7) (ps.getD i Dr.Pc.no) := by
  rcases h with h | ⟨b, off, e, h⟩
  · rw [h] at hi; simp at hi
  · exact ⟨b, off, e, h i _ (by rw [List.getD_eq_getElem?_getD, List.getElem?_eq_getElem hi]; rfl)⟩

theorem check_pc (p : Dr.Pc) (w : World) (hp : PcW p) : Calls Tryz.prog 19 #[.agg #[.string (strOfNums p.t), .int .u8 p.v, .int .i64 p.fl, .int .i64 p.wk, .int .i64 p.wd, .int .i64 p.pk, .int .i64 p.pr]] w fun e w' => e = .returned (.int .i64 (okN p)) ∧ Below w.heap.size w w' :=
  dcheck_any (strOfNums p.t) p.t p.v p.fl p.wk p.wd p.pk p.pr w (Str.of_nums hp.1) hp.2.1 hp.2.2
theorem written_pc (p : Dr.Pc) (w : World) (hp : PcW p) (ho : Dr.ok p) (hT : T10 w.heap.size w) : Calls Tryz.prog 46 #[.agg #[.string (strOfNums p.t), .int .u8 p.v, .int .i64 p.fl, .int .i64 p.wk, .int .i64 p.wd, .int .i64 p.pk, .int .i64 p.pr]] w fun e w' => e = .returned (.string (strOfNums (Dr.wr p))) ∧ Below w.heap.size w w' := by
  rcases ho with h | h | h
  · exact written_text (strOfNums p.t) p.t p.v p.fl p.wk p.wd p.pk p.pr w (Str.of_nums hp.1) (.inl h.2.1)
  · exact written_text (strOfNums p.t) p.t p.v p.fl p.wk p.wd p.pk p.pr w (Str.of_nums hp.1) (.inr h.2.1)
  · exact written_dir (strOfNums p.t) p.t p.v p.fl p.wk p.wd p.pk p.pr w h hT


set_option maxRecDepth 100000 in
set_option maxHeartbeats 1000000 in
theorem wants_any (a : Option Addr) (cap : Nat) (ps : List Dr.Pc) (w : World) (h : LP w a ps) (hn : ps.length ≤ 2199023255552) :
    Calls Tryz.prog 16 #[.slice a ps.length cap] w fun e w' => e = .returned (.int .i64 (Dr.wants ps)) ∧ Below w.heap.size w w' := by
  have H := hid h
  have HN := hid hn
  have K : Hid (Dr.wants (ps.take ps.length) = Dr.wants ps) := by rw [Hid, List.take_length]
  clear h hn
  go_enter Tryz.func16, Tryz.ntmps16
  go_wp2_with fail
  go_loopg [3, 8] ps.length (fun m nv iv wr => ∃ i : Nat, i + m = ps.length ∧ nv = .int .i64 (Dr.wants (ps.take i)) ∧ iv = .int .i64 (i : Int) ∧ Hid (Below w.heap.size w wr))
  case atStart => exact ⟨0, by omega, rfl, rfl, Below.refl _ _⟩
  case round =>
    obtain ⟨i, hi, rfl, rfl, I⟩ := hrel
    have bd := Dr.wants_bd (ps.take i)
    have bl : ((ps.take i).length : Int) ≤ 2199023255552 := by have := HN.out; rw [List.length_take]; omega
    by_cases hl : i < ps.length
    · have hli : (i : Int) < (ps.length : Int) := by omega
      obtain ⟨b, off, rfl, hc⟩ := (H.out.below I.out).at i hl
      have NX := Dr.wants_take hl
      obtain ⟨c0, c1, c2, c3, c4, c5, c6⟩ := hc
      have A := hid (fun v0 v1 v2 v3 v4 v5 v6 => below_on I.out (alloc_b wr (.cells #[v0, v1, v2, v3, v4, v5, v6] 39)))
      clear I
      generalize Dr.wants (ps.take i) = n at *
      generalize ps.getD i Dr.Pc.no = p at *
      have ib : (i : Int) ≤ 2199023255552 := by have := HN.out; omega
      have n0 : 0 ≤ n := bd.1
      have n1 : n ≤ 6597069766656 := by omega
      clear bd bl
      by_cases v0 : p.v = 0
      · have F : Hid (Dr.wants (ps.take (i + 1)) = n) := by rw [Hid, NX, Dr.tk, if_pos (.inl v0)]; omega
        rw [v0] at c1
        clear NX
        go_wp2_with fail
        go_roundg (ps.length - (i + 1))
        case measure => omega
        case rel => exact ⟨i + 1, by omega, by rw [F.out], by go_num, A.out _ _ _ _ _ _ _⟩
      · by_cases v3 : p.v = 37
        · have F : Hid (Dr.wants (ps.take (i + 1)) = n) := by rw [Hid, NX, Dr.tk, if_pos (.inr v3)]; omega
          rw [v3] at c1
          clear NX
          go_wp2_with fail
          go_roundg (ps.length - (i + 1))
          case measure => omega
          case rel => exact ⟨i + 1, by omega, by rw [F.out], by go_num, A.out _ _ _ _ _ _ _⟩
        · rw [Dr.tk, if_neg (fun q => q.elim v0 v3)] at NX
          have u0 : (p.v == 0) = false := by simpa using v0
          have u3 : (p.v == 37) = false := by simpa using v3
          clear v0 v3
          by_cases k1 : p.wk = 2
          · by_cases k2 : p.pk = 2
            · have F : Hid (Dr.wants (ps.take (i + 1)) = n + 3) := by rw [Hid, NX, if_pos k1, if_pos k2]; omega
              rw [k1] at c3
              rw [k2] at c5
              clear NX
              go_wp2_with fail
              go_roundg (ps.length - (i + 1))
              case measure => omega
              case rel => exact ⟨i + 1, by omega, by rw [F.out] <;> first | rfl | (congr 1; omega), by go_num, A.out _ _ _ _ _ _ _⟩
            · have F : Hid (Dr.wants (ps.take (i + 1)) = n + 2) := by rw [Hid, NX, if_pos k1, if_neg k2]; omega
              rw [k1] at c3
              clear NX
              go_wp2_with fail
              go_roundg (ps.length - (i + 1))
              case measure => omega
              case rel => exact ⟨i + 1, by omega, by rw [F.out] <;> first | rfl | (congr 1; omega), by go_num, A.out _ _ _ _ _ _ _⟩
          · by_cases k2 : p.pk = 2
            · have F : Hid (Dr.wants (ps.take (i + 1)) = n + 2) := by rw [Hid, NX, if_neg k1, if_pos k2]; omega
              rw [k2] at c5
              clear NX
              go_wp2_with fail
              go_roundg (ps.length - (i + 1))
              case measure => omega
              case rel => exact ⟨i + 1, by omega, by rw [F.out] <;> first | rfl | (congr 1; omega), by go_num, A.out _ _ _ _ _ _ _⟩
            · have F : Hid (Dr.wants (ps.take (i + 1)) = n + 1) := by rw [Hid, NX, if_neg k1, if_neg k2]; omega
              clear NX
              go_wp2_with fail
              go_roundg (ps.length - (i + 1))
              case measure => omega
              case rel => exact ⟨i + 1, by omega, by rw [F.out] <;> first | rfl | (congr 1; omega), by go_num, A.out _ _ _ _ _ _ _⟩
    · have hli : ¬ (i : Int) < (ps.length : Int) := by omega
      have ie : i = ps.length := by omega
      have k := K.out
      rw [← ie] at k
      rw [k]
      clear bd bl hl
      go_wp2_with fail
      go_ret
      exact ⟨rfl, I.out⟩
end Go.Proofs.YtiflponlioldmaaGreatDoor
