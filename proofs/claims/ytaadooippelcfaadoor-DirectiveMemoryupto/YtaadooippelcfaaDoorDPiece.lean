/-
  directive's reader: piece.
-/
import Derived.Test.YtaadooippelcfaaDoorDDir
namespace Go.Proofs.YtaadooippelcfaaDoor
open Go Go.RowKit Go.Deep Go.Shelf

/-- The state of piece: the reader, what has stayed, the result's box. -/
structure DQ (w : World) (b : Nat) (s : ByteArray) (j : Nat) (wx : World) : Prop where
  rb : RB wx b s j
  bl : b < w.heap.size
  oth : Oth b w wx
  res : P7 wx w.heap.size (.string ⟨#[]⟩) (.int .u8 0) (.int .i64 0) (.int .i64 0) (.int .i64 0) (.int .i64 0) (.int .i64 0)
theorem DQ.call {w wx wy : World} {b j j' : Nat} {s : ByteArray} (h : DQ w b s j wx) (r : RB wy b s j') (k : Oth b wx wy) : DQ w b s j' wy :=
  have := h.bl
  ⟨r, h.bl, h.oth.trans k, h.res.oth k (by omega)⟩
theorem DQ.step {w wx : World} {b j j' : Nat} {s : ByteArray} {v : Int} (h : DQ w b s j wx) (e : v = (j' : Int)) : DQ w b s j' (wx.setCell ⟨b, 1, none⟩ (.int .i64 v)) := h.call (h.rb.set e) (Oth.set _ _)
theorem DQ.fin {w wx : World} {b j : Nat} {s : ByteArray} (h : DQ w b s j wx) (u0 u1 u2 u3 u4 u5 u6 : Value) :
    P7 (((((((wx.setCell ⟨w.heap.size, 0, none⟩ u0).setCell ⟨w.heap.size, 1, none⟩ u1).setCell ⟨w.heap.size, 2, none⟩ u2).setCell ⟨w.heap.size, 3, none⟩ u3).setCell ⟨w.heap.size, 4, none⟩ u4).setCell ⟨w.heap.size, 5, none⟩ u5).setCell ⟨w.heap.size, 6, none⟩ u6) w.heap.size u0 u1 u2 u3 u4 u5 u6 ∧
    RB (((((((wx.setCell ⟨w.heap.size, 0, none⟩ u0).setCell ⟨w.heap.size, 1, none⟩ u1).setCell ⟨w.heap.size, 2, none⟩ u2).setCell ⟨w.heap.size, 3, none⟩ u3).setCell ⟨w.heap.size, 4, none⟩ u4).setCell ⟨w.heap.size, 5, none⟩ u5).setCell ⟨w.heap.size, 6, none⟩ u6) b s j ∧
    Oth b w (((((((wx.setCell ⟨w.heap.size, 0, none⟩ u0).setCell ⟨w.heap.size, 1, none⟩ u1).setCell ⟨w.heap.size, 2, none⟩ u2).setCell ⟨w.heap.size, 3, none⟩ u3).setCell ⟨w.heap.size, 4, none⟩ u4).setCell ⟨w.heap.size, 5, none⟩ u5).setCell ⟨w.heap.size, 6, none⟩ u6) := by
  have hb := h.bl
  have ne : w.heap.size ≠ b := by omega
  have le : w.heap.size ≤ w.heap.size := Nat.le_refl _
  exact ⟨h.res.put _ _ _ _ _ _ _, ((((((h.rb.far ne).far ne).far ne).far ne).far ne).far ne).far ne, ((((((h.oth.far le).far le).far le).far le).far le).far le).far le⟩

/-- What piece tells. -/
def QTold (b : Nat) (s : ByteArray) (l : List Int) (k : Nat) (w : World) (r : Ending) (w' : World) : Prop := r = .returned (.tuple #[.agg (pcv (Dr.qp l)), .int .i64 (Dr.qe l)]) ∧ RB w' b s (k + Dr.qu l) ∧ Oth b w w'

set_option maxRecDepth 100000 in
set_option maxHeartbeats 1000000 in
theorem piece_any (b k : Nat) (s : ByteArray) (xs : List Int) (w : World) (hs : Str s xs) (hk : k < xs.length) (hl : xs.length ≤ 281474976710656) (h : RB w b s k) :
    Calls Tryd.prog 27 #[.pointer (some ⟨b, 0, none⟩)] w fun r w' => QTold b s (xs.drop k) k w r w' := by
  have NX : Hid (∀ W, RB W b s k → Calls Tryd.prog 42 #[.pointer (some ⟨b, 0, none⟩)] W fun e w' => e = .returned (.int .u8 (Dr.nx xs k)) ∧ Below W.heap.size W w') := fun W hb => next_any b k s xs W hs (by omega) hb
  have hkl : (k : Int) < 281474976710656 := by omega
  have A1 := alloc_b w (.cells #[.string ⟨#[]⟩, .int .u8 0, .int .i64 0, .int .i64 0, .int .i64 0, .int .i64 0, .int .i64 0] 25)
  have D0 : Hid (DQ w b s k (w.alloc (.cells #[.string ⟨#[]⟩, .int .u8 0, .int .i64 0, .int .i64 0, .int .i64 0, .int .i64 0, .int .i64 0] 25))) :=
    ⟨h.below A1, h.lt, Oth.of_below A1, P7.new w _ _ _ _ _ _ _⟩
  have HH : (xs.drop k).headD 0 = Dr.nx xs k := Dr.head_drop xs k
  have TL : (xs.drop k).tail = xs.drop (k + 1) := List.tail_drop ..
  have HT : (xs.drop (k + 1)).headD 0 = Dr.nx xs (k + 1) := Dr.head_drop xs (k + 1)
  clear A1
  by_cases h37 : Dr.nx xs k = 37
  · have N2 : Hid (∀ W, RB W b s (k + 1) → Calls Tryd.prog 42 #[.pointer (some ⟨b, 0, none⟩)] W fun e w' => e = .returned (.int .u8 (Dr.nx xs (k + 1))) ∧ Below W.heap.size W w') := fun W hb => next_any b (k + 1) s xs W hs (by omega) hb
    rw [h37] at NX
    have z : ¬ (xs.drop k).headD 0 ≠ 37 := by rw [HH, h37]; simp
    by_cases h2 : Dr.nx xs (k + 1) = 37
    · have z2 : (xs.drop k).tail.headD 0 = 37 := by rw [TL, HT, h2]
      have KF : Hid (∀ W, RB W b s (k + 2) → Oth b w W → QTold b s (xs.drop k) k w (.returned (.tuple #[.agg #[.string ⟨#[]⟩, .int .u8 37, .int .i64 0, .int .i64 0, .int .i64 0, .int .i64 0, .int .i64 0], .int .i64 0])) W) := by
        intro W a1 a2
        refine ⟨?_, ?_, a2⟩
        · rw [Dr.qp, Dr.qe, if_neg z, if_neg z, if_pos z2, if_pos z2]; rfl
        · rw [Dr.qu, if_neg z, if_pos z2]; exact a1
      rw [h2] at N2
      clear h37 h2 z z2 HH TL HT hs h hk hl
      go_enter Tryd.func27, Tryd.ntmps27
      go_wp2_with fail
      refine (NX.out _ D0.out.rb).mono ?_
      rintro e w1 ⟨rfl, hB⟩
      have D1 := hid (D0.out.call (D0.out.rb.below hB) (Oth.of_below hB))
      clear hB D0
      obtain ⟨⟨c0, c1⟩, fz⟩ := D1.out.rb.cells
      go_wp2_with fail
      clear c0 c1 fz
      have D2 := hid (D1.out.step (v := (k : Int) + 1) (j' := k + 1) (by omega))
      refine (N2.out _ D2.out.rb).mono ?_
      rintro e w3 ⟨rfl, hB⟩
      have D3 := hid (D2.out.call (D2.out.rb.below hB) (Oth.of_below hB))
      clear hB D2 D1
      have D4 := hid (D3.out.step (v := (k : Int) + 2) (j' := k + 2) (by omega))
      obtain ⟨⟨c0, c1⟩, fz⟩ := D3.out.rb.cells
      obtain ⟨⟨r0, r1, r2, r3, r4, r5, r6⟩, ⟨q0, q1, q2, q3, q4, q5, q6⟩⟩ := D3.out.res.cells
      rw [show ((k + 1 : Nat) : Int) = (k : Int) + 1 by omega] at c1
      have kk : (k : Int) + 1 + 1 = (k : Int) + 2 := by omega
      have bs : b ≠ w.heap.size := by have := D3.out.bl; omega
      go_wp2_with fail
      (try simp only [Exit.inBlock, Exit.then])
      refine bodyPost_ret (results_row_tmp rfl _ _ w.heap.size 25 _ (0, 0) _ rfl (D4.out.fin _ _ _ _ _ _ _).1 Tryd.underlying25 rfl (by kernel_rfl)) rfl ?_
      exact KF.out _ (D4.out.fin _ _ _ _ _ _ _).2.1 (D4.out.fin _ _ _ _ _ _ _).2.2
    · have z2 : ¬ (xs.drop k).tail.headD 0 = 37 := by rw [TL, HT]; exact h2
      have DI : Hid (∀ W, RB W b s (k + 1) → Calls Tryd.prog 44 #[.pointer (some ⟨b, 0, none⟩)] W fun r w' => r = .returned (.tuple #[.agg (pcv (Dr.dp (xs.drop (k + 1)))), .int .i64 (Dr.de (xs.drop (k + 1)))]) ∧ RB w' b s (k + 1 + Dr.du (xs.drop (k + 1))) ∧ Oth b W w') := fun W hb => directive_any b (k + 1) s xs W hs (by omega) (by omega) hb
      have KF : Hid (∀ W, RB W b s (k + 1 + Dr.du (xs.drop (k + 1))) → Oth b w W → QTold b s (xs.drop k) k w (.returned (.tuple #[.agg (pcv (Dr.dp (xs.drop (k + 1)))), .int .i64 (Dr.de (xs.drop (k + 1)))])) W) := by
        intro W a1 a2
        refine ⟨?_, ?_, a2⟩
        · rw [Dr.qp, Dr.qe, if_neg z, if_neg z, if_neg z2, if_neg z2, TL]
        · rw [Dr.qu, if_neg z, if_neg z2, TL, ← Nat.add_assoc]; exact a1
      clear h37 z z2 HH TL HT hs h hk hl
      generalize Dr.dp (xs.drop (k + 1)) = p at *
      generalize Dr.de (xs.drop (k + 1)) = E at *
      generalize k + 1 + Dr.du (xs.drop (k + 1)) = j1 at *
      generalize Dr.nx xs (k + 1) = x at *
      unfold pcv at DI KF
      go_enter Tryd.func27, Tryd.ntmps27
      go_wp2_with fail
      refine (NX.out _ D0.out.rb).mono ?_
      rintro e w1 ⟨rfl, hB⟩
      have D1 := hid (D0.out.call (D0.out.rb.below hB) (Oth.of_below hB))
      clear hB D0
      obtain ⟨⟨c0, c1⟩, fz⟩ := D1.out.rb.cells
      go_wp2_with fail
      clear c0 c1 fz
      have D2 := hid (D1.out.step (v := (k : Int) + 1) (j' := k + 1) (by omega))
      refine (N2.out _ D2.out.rb).mono ?_
      rintro e w3 ⟨rfl, hB⟩
      have D3 := hid (D2.out.call (D2.out.rb.below hB) (Oth.of_below hB))
      clear hB D2 D1 hkl
      go_wp2_with fail
      refine (DI.out _ D3.out.rb).mono ?_
      rintro e w4 ⟨rfl, r4', o4'⟩
      have D4 := hid (D3.out.call r4' o4')
      clear r4' o4' D3
      obtain ⟨⟨r0, r1, r2, r3, r4, r5, r6⟩, ⟨q0, q1, q2, q3, q4, q5, q6⟩⟩ := D4.out.res.cells
      go_wp2_with fail
      (try simp only [Exit.inBlock, Exit.then])
      refine bodyPost_ret (results_row_tmp rfl _ _ w.heap.size 25 _ (0, 0) _ rfl (D4.out.fin _ _ _ _ _ _ _).1 Tryd.underlying25 rfl (by kernel_rfl)) rfl ?_
      exact KF.out _ (D4.out.fin _ _ _ _ _ _ _).2.1 (D4.out.fin _ _ _ _ _ _ _).2.2
  · have z : (xs.drop k).headD 0 ≠ 37 := by rw [HH]; exact h37
    have TX : Hid (∀ W, RB W b s k → Calls Tryd.prog 43 #[.pointer (some ⟨b, 0, none⟩)] W fun r w' => r = .returned (.string (strOfNums ((xs.drop k).take (Dr.ct Dr.isX (xs.drop k))))) ∧ RB w' b s (k + Dr.ct Dr.isX (xs.drop k)) ∧ Oth b W w') := fun W hb => dtext_any b k s xs W hs (by omega) hl hb
    have KF : Hid (∀ W, RB W b s (k + Dr.ct Dr.isX (xs.drop k)) → Oth b w W → QTold b s (xs.drop k) k w (.returned (.tuple #[.agg #[.string (strOfNums ((xs.drop k).take (Dr.ct Dr.isX (xs.drop k)))), .int .u8 0, .int .i64 0, .int .i64 0, .int .i64 0, .int .i64 0, .int .i64 0], .int .i64 0])) W) := by
      intro W a1 a2
      refine ⟨?_, ?_, a2⟩
      · rw [Dr.qp, Dr.qe, if_pos z, if_pos z]; rfl
      · rw [Dr.qu, if_pos z]; exact a1
    clear z HH TL HT hs h hk hl
    generalize strOfNums ((xs.drop k).take (Dr.ct Dr.isX (xs.drop k))) = t at *
    generalize k + Dr.ct Dr.isX (xs.drop k) = j1 at *
    generalize Dr.nx xs k = x at *
    clear hkl
    go_enter Tryd.func27, Tryd.ntmps27
    go_wp2_with fail
    refine (NX.out _ D0.out.rb).mono ?_
    rintro e w1 ⟨rfl, hB⟩
    have D1 := hid (D0.out.call (D0.out.rb.below hB) (Oth.of_below hB))
    clear hB D0
    go_wp2_with fail
    refine (TX.out _ D1.out.rb).mono ?_
    rintro e w4 ⟨rfl, r4', o4'⟩
    have D4 := hid (D1.out.call r4' o4')
    clear r4' o4' D1
    obtain ⟨⟨r0, r1, r2, r3, r4, r5, r6⟩, ⟨q0, q1, q2, q3, q4, q5, q6⟩⟩ := D4.out.res.cells
    go_wp2_with fail
    (try simp only [Exit.inBlock, Exit.then])
    refine bodyPost_ret (results_row_tmp rfl _ _ w.heap.size 25 _ (0, 0) _ rfl (D4.out.fin _ _ _ _ _ _ _).1 Tryd.underlying25 rfl (by kernel_rfl)) rfl ?_
    exact KF.out _ (D4.out.fin _ _ _ _ _ _ _).2.1 (D4.out.fin _ _ _ _ _ _ _).2.2
end Go.Proofs.YtaadooippelcfaaDoor
