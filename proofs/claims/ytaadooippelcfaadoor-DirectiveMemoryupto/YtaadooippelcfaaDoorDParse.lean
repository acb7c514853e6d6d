/-
  directive: Parse.
-/
import Derived.Test.YtaadooippelcfaaDoorDPiece
import Derived.Test.YtaadooippelcfaaDoorVPush
namespace Go.Proofs.YtaadooippelcfaaDoor
open Go Go.RowKit Go.Deep Go.Shelf

/-- Pieces' cells. -/
def pcs (ps : List Dr.Pc) : List Value := ps.flatMap fun p => (pcv p).toList
theorem pcs_len (ps : List Dr.Pc) : (pcs ps).length = ps.length * 7 := by
  induction ps with
  | nil => rfl
  | cons p l ih => rw [pcs, List.flatMap_cons, List.length_append, ← pcs, ih, List.length_cons]; simp [pcv]; omega
theorem pcs_app (a b : List Dr.Pc) : pcs (a ++ b) = pcs a ++ pcs b := by simp [pcs]
theorem pcs_one (p : Dr.Pc) : pcs [p] = (pcv p).toList := by simp [pcs]

/-- A list of pieces in a block of our own, from base on. -/
def RowP (base : Nat) (w : World) (mv : Value) (ps : List Dr.Pc) : Prop := w.ownsRow base 25 7 mv ps.length (pcs ps)
theorem RowP.below {base : Nat} {w w' : World} {mv : Value} {ps : List Dr.Pc} (h : RowP base w mv ps) (hb : Below w.heap.size w w') : RowP base w' mv ps :=
  World.ownsRow.kept (row := none) h ⟨hb.os, hb.tape, hb.output, hb.size, fun j hj _ => hb.block j hj⟩ (by cases h : Value.ownBlock mv <;> simp)
theorem RowP.oth {base b : Nat} {w w' : World} {mv : Value} {ps : List Dr.Pc} (h : RowP base w mv ps) (hb : Oth b w w') (hne : b < base) : RowP base w' mv ps := by
  refine World.ownsRow.kept (row := some b) h ⟨hb.os, hb.tape, hb.output, hb.size, fun j hj q => hb.block j hj (fun e => q (by rw [e]))⟩ ?_
  right
  intro e
  have := (World.ownsRow.lt h b e).1
  omega
theorem RowP.nil (base : Nat) (w : World) : RowP base w (.slice none 0 0) [] := World.ownsRow_nil _ _ _ _
theorem infoP : (Tryd.prog.info? 25).map (fun i => (i.zero, i.size, i.bytes)) = some (some (.agg #[.string ⟨#[]⟩, .int .u8 0, .int .i64 0, .int .i64 0, .int .i64 0, .int .i64 0, .int .i64 0]), 7, 64) := by kernel_rfl

theorem RowP.push {base : Nat} {w : World} {mv : Value} {ps : List Dr.Pc} (ho : RowP base w mv ps) (p : Dr.Pc) (hn : ps.length ≤ 2000000000000) (hb : base ≤ w.heap.size) :
    ∃ mv' w', (Builtin.append_ #[26, 26] 26 #[mv, .slice (some ⟨w.heap.size, 0, none⟩) 1 1]).run Tryd.prog (w.alloc (.cells (pcv p) 25)) = .ok mv' w' ∧ RowP base w' mv' (ps ++ [p]) ∧ w.heap.size ≤ w'.heap.size ∧
      Below base w w' ∧ (∀ j, j < w.heap.size → some j ≠ mv.ownBlock → w'.heap[j]? = w.heap[j]?) := by
  obtain ⟨i, hi, hz⟩ := Option.map_eq_some_iff.1 infoP
  simp only [Prod.mk.injEq] at hz
  obtain ⟨z1, z2, z3⟩ := hz
  have bm : Below w.heap.size w (w.alloc (.cells (pcv p) 25)) := (Below.refl _ _).alloc (Nat.le_refl _) _
  have hs : (w.alloc (.cells (pcv p) 25)).heap.size = w.heap.size + 1 := World.size_alloc _ _
  have ho' := World.ownsRow.alloc ho (.cells (pcv p) 25)
  have hcell : ∀ j u, (pcv p)[j]? = some u → (w.alloc (.cells (pcv p) 25)).cell? ⟨w.heap.size, j, none⟩ = some u := by
    intro j u hu
    have h0 : (w.alloc (.cells (pcv p) 25)).heap[w.heap.size]? = some (.cells (pcv p) 25 (0, 0)) := heap_alloc_new w _
    simp only [World.cell?, h0]
    simpa using hu
  obtain ⟨v', w', hr, h1, h2, _⟩ := run_append_own (P := Tryd.prog) (w.alloc (.cells (pcv p) 25)) base 26 26 25 i _ 7 64 Tryd.underlying26 hi z1 z2 z3 rfl (by omega) mv ps.length (pcs ps) ho'
    ⟨w.heap.size, 0, none⟩ 1 1 (pcv p).toList (by simp [pcv]) (fun j u hu => by
      rw [Go.WideShapes.add_plain, Nat.zero_add]
      exact hcell j u (by simpa using hu)) (fun u hu => by
        simp only [pcv, List.mem_cons, List.not_mem_nil, or_false] at hu
        rcases hu with rfl | rfl | rfl | rfl | rfl | rfl | rfl <;> rfl) (by simp only [maxLen]; omega) (by omega) (by rw [hs]; omega)
  refine ⟨v', w', hr, ?_, by have := h2.size; omega, ?_, fun j hj hne => ?_⟩
  · have h1' := h1
    rw [← pcs_one, ← pcs_app] at h1'
    simpa [RowP] using h1'
  · have hb2 : Below base (w.alloc (.cells (pcv p) 25)) w' := by
      refine ⟨h2.os, h2.tape, h2.output, h2.size, fun j hj => h2.block j (by rw [hs]; omega) ?_⟩
      intro hk
      have := (ho'.lt j hk.symm).1
      omega
    exact (bm.mono hb).trans hb2
  · rw [h2.block j (by rw [hs]; omega) hne]; exact bm.block j hj

/-- What is read so far, D, and what is left make the whole. -/
def Sofar (xs : List Int) (j : Nat) (D : List Dr.Pc) : Prop := Dr.prs xs = if (Dr.prs (xs.drop j)).2.2 = 0 then (D ++ (Dr.prs (xs.drop j)).1, 0, 0) else ([], j + (Dr.prs (xs.drop j)).2.1, (Dr.prs (xs.drop j)).2.2)
theorem prs_ok {l : List Int} (h : (Dr.prs l).2.2 = 0) : Dr.prs l = ((Dr.prs l).1, 0, 0) := by
  by_cases hl : l = []
  · rw [hl, Dr.prs_nil]
  · by_cases he : Dr.qe l = 0
    · rw [Dr.prs_cons hl he] at h ⊢
      split at h <;> rename_i k
      · rw [if_pos k]
      · exact absurd h k
    · rw [Dr.prs_err hl he] at h
      exact absurd h he
theorem prs_bad {l : List Int} (h : (Dr.prs l).2.2 ≠ 0) : (Dr.prs l).1 = [] := by
  by_cases hl : l = []
  · rw [hl, Dr.prs_nil]
  · by_cases he : Dr.qe l = 0
    · rw [Dr.prs_cons hl he] at h ⊢
      split at h <;> rename_i k
      · exact absurd rfl h
      · rw [if_neg k]
    · rw [Dr.prs_err hl he]
theorem Sofar.start (xs : List Int) : Sofar xs 0 [] := by
  unfold Sofar
  rw [List.drop_zero, List.nil_append, Nat.zero_add]
  by_cases h : (Dr.prs xs).2.2 = 0
  · rw [if_pos h]; exact prs_ok h
  · rw [if_neg h, ← prs_bad h]
theorem Sofar.step {xs : List Int} {j : Nat} {D : List Dr.Pc} (h : Sofar xs j D) (hj : j < xs.length) (he : Dr.qe (xs.drop j) = 0) : Sofar xs (j + Dr.qu (xs.drop j)) (D ++ [Dr.qp (xs.drop j)]) := by
  unfold Sofar at *
  have hl : xs.drop j ≠ [] := fun q => by have := List.drop_eq_nil_iff.1 q; omega
  rw [Dr.prs_cons hl he, List.drop_drop] at h
  rw [h]
  by_cases k : (Dr.prs (xs.drop (j + Dr.qu (xs.drop j)))).2.2 = 0
  · rw [if_pos k, if_pos k]; simp
  · rw [if_neg k, if_neg k, if_neg k, Nat.add_assoc]
theorem Sofar.stop {xs : List Int} {j : Nat} {D : List Dr.Pc} (h : Sofar xs j D) (hj : j < xs.length) (he : Dr.qe (xs.drop j) ≠ 0) : Dr.prs xs = ([], j + Dr.qu (xs.drop j), Dr.qe (xs.drop j)) := by
  unfold Sofar at h
  have hl : xs.drop j ≠ [] := fun q => by have := List.drop_eq_nil_iff.1 q; omega
  rw [Dr.prs_err hl he, if_neg he] at h
  exact h
theorem Sofar.done {xs : List Int} {D : List Dr.Pc} (h : Sofar xs xs.length D) : Dr.prs xs = (D, 0, 0) := by
  unfold Sofar at h
  rw [List.drop_length, Dr.prs_nil] at h
  simpa using h

/-- What Parse tells. -/
def PaTold (w : World) (xs : List Int) (r : Ending) (w' : World) : Prop := ∃ mv, r = .returned (.tuple #[mv, .int .i64 ((Dr.prs xs).2.1 : Nat), .int .i64 (Dr.prs xs).2.2]) ∧ RowP w.heap.size w' mv (Dr.prs xs).1 ∧ Below w.heap.size w w'
theorem RowP.mono {base base' : Nat} {w : World} {mv : Value} {ps : List Dr.Pc} (h : RowP base w mv ps) (hb : base' ≤ base) : RowP base' w mv ps := by
  obtain ⟨h1, h2⟩ := h
  refine ⟨h1, ?_⟩
  rcases h2 with h2 | ⟨g, cap, cur, e1, e2, e3⟩
  · exact .inl h2
  · exact .inr ⟨g, cap, cur, e1, by omega, e3⟩

set_option maxRecDepth 100000 in
set_option maxHeartbeats 1000000 in
theorem parse_any (s : ByteArray) (xs : List Int) (w : World) (hs : Str s xs) (hl : xs.length ≤ 1099511627776) :
    Calls Tryd.prog 10 #[.string s] w fun r w' => PaTold w xs r w' := by
  have hsz := hs.size
  have PI : Hid (∀ (j : Nat) W, j < xs.length → RB W w.heap.size s j → Calls Tryd.prog 27 #[.pointer (some ⟨w.heap.size, 0, none⟩)] W fun r w' => r = .returned (.tuple #[.agg (pcv (Dr.qp (xs.drop j))), .int .i64 (Dr.qe (xs.drop j))]) ∧ RB w' w.heap.size s (j + Dr.qu (xs.drop j)) ∧ Oth w.heap.size W w') := fun j W hj hb => piece_any w.heap.size j s xs W hs hj (by omega) hb
  have HL := hid hl
  have R0 := hid (RB.new w s)
  have B0 := hid (alloc_b w (.cells #[.string s, .int .i64 0] 58))
  have sz1 : (w.alloc (.cells #[.string s, .int .i64 0] 58)).heap.size = w.heap.size + 1 := Array.size_push ..
  have S0 : Hid (RB (w.alloc (.cells #[.string s, .int .i64 0] 58)) w.heap.size s 0 ∧ Below w.heap.size w (w.alloc (.cells #[.string s, .int .i64 0] 58)) ∧ w.heap.size + 1 ≤ (w.alloc (.cells #[.string s, .int .i64 0] 58)).heap.size) := ⟨R0.out, B0.out, by rw [sz1]; exact Nat.le_refl _⟩
  clear hs hl R0 B0 sz1
  go_enter Tryd.func10, Tryd.ntmps10
  go_wp2_with fail
  go_loopg [5] xs.length (fun m mv wr => ∃ (j : Nat) (D : List Dr.Pc), j + m = xs.length ∧ Hid (RB wr w.heap.size s j ∧ Below w.heap.size w wr ∧ w.heap.size + 1 ≤ wr.heap.size ∧ RowP (w.heap.size + 1) wr mv D ∧ Sofar xs j D ∧ D.length ≤ j))
  case atStart => exact ⟨0, [], by omega, S0.out.1, S0.out.2.1, S0.out.2.2, RowP.nil _ _, Sofar.start xs, by simp⟩
  case round =>
    obtain ⟨j, D, hj, I⟩ := hrel
    have hjb : (j : Int) ≤ 1099511627776 := by have := HL.out; omega
    obtain ⟨⟨c0, c1⟩, -⟩ := I.out.1.cells
    by_cases hjl : j < xs.length
    · have hji : (j : Int) < (xs.length : Int) := by omega
      have P1 := hid (PI.out j wr hjl I.out.1)
      have K0 := hid (fun h => I.out.2.2.2.2.1.step hjl h)
      have K1 := hid (fun h => I.out.2.2.2.2.1.stop hjl h)
      have qp := Dr.qu_pos (l := xs.drop j) (fun q => by have := List.drop_eq_nil_iff.1 q; omega)
      have ql := Dr.qu_le (l := xs.drop j) (fun q => by have := List.drop_eq_nil_iff.1 q; omega)
      rw [List.length_drop] at ql
      have I1 := hid I.out.2
      have j2 : j < j + Dr.qu (xs.drop j) := by omega
      have j3 : j + Dr.qu (xs.drop j) ≤ xs.length := by omega
      have dl := I1.out.2.2.2.2
      clear PI I qp ql
      generalize j + Dr.qu (xs.drop j) = j1 at *
      generalize Dr.qp (xs.drop j) = p at *
      generalize Dr.qe (xs.drop j) = E at *
      have P2 : Hid (Calls Tryd.prog 27 #[.pointer (some ⟨w.heap.size, 0, none⟩)] wr fun r w' => r = .returned (.tuple #[.agg #[.string (strOfNums p.t), .int .u8 p.v, .int .i64 p.fl, .int .i64 p.wk, .int .i64 p.wd, .int .i64 p.pk, .int .i64 p.pr], .int .i64 E]) ∧ RB w' w.heap.size s j1 ∧ Oth w.heap.size wr w') := P1.out
      clear P1
      go_wp2_with fail
      refine P2.out.mono ?_
      rintro e w1 ⟨rfl, r1, o1⟩
      have A1 := alloc_b w1 (.cells #[.string (strOfNums p.t), .int .u8 p.v, .int .i64 p.fl, .int .i64 p.wk, .int .i64 p.wd, .int .i64 p.pk, .int .i64 p.pr] 25)
      have RA := hid (r1.below A1)
      have B1 : Hid (Below w.heap.size w (w1.alloc (.cells #[.string (strOfNums p.t), .int .u8 p.v, .int .i64 p.fl, .int .i64 p.wk, .int .i64 p.wd, .int .i64 p.pk, .int .i64 p.pr] 25))) := by
        have k1 : Below w.heap.size wr w1 := o1.below (Nat.le_refl _) (by have := I1.out.2.1; omega)
        have k2 := I1.out.1.trans k1
        exact k2.trans (A1.mono (by have := k2.size; omega))
      have W1 : Hid (∀ mv, RowP (w.heap.size + 1) wr mv D → RowP (w.heap.size + 1) (w1.alloc (.cells #[.string (strOfNums p.t), .int .u8 p.v, .int .i64 p.fl, .int .i64 p.wk, .int .i64 p.wd, .int .i64 p.pk, .int .i64 p.pr] 25)) mv D) := fun mv h => (h.oth o1 (by omega)).below A1
      have Z1 : Hid (w.heap.size + 1 ≤ (w1.alloc (.cells #[.string (strOfNums p.t), .int .u8 p.v, .int .i64 p.fl, .int .i64 p.wk, .int .i64 p.wd, .int .i64 p.pk, .int .i64 p.pr] 25)).heap.size) := by
        have := I1.out.2.1; have := o1.size; have := A1.size; show _ ≤ _; omega
      have PB := hid (P7.new w1 (.string (strOfNums p.t)) (.int .u8 p.v) (.int .i64 p.fl) (.int .i64 p.wk) (.int .i64 p.wd) (.int .i64 p.pk) (.int .i64 p.pr))
      clear r1 o1 A1 c0 c1
      go_upto_region 5 with fail
      generalize w1.alloc (.cells #[.string (strOfNums p.t), .int .u8 p.v, .int .i64 p.fl, .int .i64 p.wk, .int .i64 p.wd, .int .i64 p.pk, .int .i64 p.pr] 25) = wA at *
      obtain ⟨⟨c0, c1⟩, -⟩ := RA.out.cells
      by_cases hE : E = 0
      · subst hE
        obtain ⟨mv', w2, ap, q1, q2, q3, q4⟩ := (W1.out _ I1.out.2.2.1).push p (by have := HL.out; omega) Z1.out
        have AP := hid ap
        have F : Hid (RB w2 w.heap.size s j1 ∧ Below w.heap.size w w2 ∧ w.heap.size + 1 ≤ w2.heap.size ∧ RowP (w.heap.size + 1) w2 mv' (D ++ [p]) ∧ Sofar xs j1 (D ++ [p]) ∧ (D ++ [p]).length ≤ j1) := by
          refine ⟨?_, B1.out.trans (q3.mono (by omega)), by have := Z1.out; omega, q1, K0.out rfl, by simp; omega⟩
          rw [RB, q4 w.heap.size RA.out.lt (fun e => by have := (World.ownsRow.lt (W1.out _ I1.out.2.2.1) _ e.symm).1; omega)]
          exact RA.out
        unfold pcv at AP
        obtain ⟨⟨b0, b1, b2, b3, b4, b5, b6⟩, -⟩ := PB.out.cells
        clear ap q1 q2 q3 q4 I1 K0 K1 W1 B1 RA c0 c1 PB Z1
        go_wp2_with (at_builtin; refine wpList_append_b rfl _ _ rfl AP.out (by rfl) (by rfl) ?_; clear AP)
        go_roundg (xs.length - j1)
        case measure => omega
        case rel => exact ⟨j1, D ++ [p], by omega, F.out⟩
      · have KF : Hid (∀ n, PaTold w xs (.returned (.tuple #[.slice none 0 0, .int .i64 (j1 : Int), .int .i64 E])) (wA.drewN n)) := by
          intro n
          have e := K1.out hE
          rw [PaTold, e]
          exact ⟨_, rfl, RowP.nil _ _, below_drewN B1.out n⟩
        clear I1 K0 K1 W1 B1 PB Z1
        go_wp2_with fail
        go_quiet (fail)
        go_wp2_with fail
        go_ret3
        exact KF.out _
    · have hje : j = xs.length := by omega
      have hji : ¬ (j : Int) < (xs.length : Int) := by omega
      have KF : Hid (∀ mv, RowP (w.heap.size + 1) wr mv D → PaTold w xs (.returned (.tuple #[mv, .int .i64 0, .int .i64 0])) wr) := by
        intro mv h
        have e : Dr.prs xs = (D, 0, 0) := by have := I.out.2.2.2.2.1; rw [hje] at this; exact this.done
        rw [PaTold, e]
        exact ⟨_, rfl, h.mono (by omega), I.out.2.1⟩
      have RW := hid I.out.2.2.2.1
      clear PI I
      go_wp2_with fail
      go_ret3
      exact KF.out _ RW.out
end Go.Proofs.YtaadooippelcfaaDoor
