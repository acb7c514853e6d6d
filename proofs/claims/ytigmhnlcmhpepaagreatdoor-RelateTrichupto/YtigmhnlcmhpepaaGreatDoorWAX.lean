/-
  Texts put together: DParse, DList, DPl.
-/
import Derived.Test.YtigmhnlcmhpepaaGreatDoorWAS
import Derived.Test.YtigmhnlcmhpepaaGreatDoorWAF
import Derived.Test.YtigmhnlcmhpepaaGreatDoorWAB
import Derived.Test.YtigmhnlcmhpepaaGreatDoorWAG
namespace Go.Proofs.YtigmhnlcmhpepaaGreatDoor
open Go Go.RowKit Go.Deep Go.Shelf

/-- Pieces' cells. -/
def pcs (ps : List Dr.Pc) : List Value := ps.flatMap fun p => (pcv p).toList
theorem pcs_app (a b : List Dr.Pc) : pcs (a ++ b) = pcs a ++ pcs b := by simp [pcs]
theorem pcs_one (p : Dr.Pc) : pcs [p] = (pcv p).toList := by simp [pcs]

/-- A list of pieces in a block of our own, from base on. -/
def RowP (base : Nat) (w : World) (mv : Value) (ps : List Dr.Pc) : Prop := w.ownsRow base 163 7 mv ps.length (pcs ps)
theorem RowP.below {base : Nat} {w w' : World} {mv : Value} {ps : List Dr.Pc} (h : RowP base w mv ps) (hb : Below w.heap.size w w') : RowP base w' mv ps :=
  World.ownsRow.kept (row := none) h ⟨hb.os, hb.tape, hb.output, hb.size, fun j hj _ => hb.block j hj⟩ (by cases h : Value.ownBlock mv <;> simp)
theorem RowP.oth {base b : Nat} {w w' : World} {mv : Value} {ps : List Dr.Pc} (h : RowP base w mv ps) (hb : Oth b w w') (hne : b < base) : RowP base w' mv ps := by
  refine World.ownsRow.kept (row := some b) h ⟨hb.os, hb.tape, hb.output, hb.size, fun j hj q => hb.block j hj (fun e => q (by rw [e]))⟩ ?_
  right
  intro e
  have := (World.ownsRow.lt h b e).1
  omega
theorem RowP.nil (base : Nat) (w : World) : RowP base w (.slice none 0 0) [] := World.ownsRow_nil _ _ _ _
theorem infoP : (Tryz.prog.info? 163).map (fun i => (i.zero, i.size, i.bytes)) = some (some (.agg #[.string ⟨#[]⟩, .int .u8 0, .int .i64 0, .int .i64 0, .int .i64 0, .int .i64 0, .int .i64 0]), 7, 64) := by kernel_rfl

theorem RowP.push {base : Nat} {w : World} {mv : Value} {ps : List Dr.Pc} (ho : RowP base w mv ps) (p : Dr.Pc) (hn : ps.length ≤ 2000000000000) (hb : base ≤ w.heap.size) :
    ∃ mv' w', (Builtin.append_ #[157, 157] 157 #[mv, .slice (some ⟨w.heap.size, 0, none⟩) 1 1]).run Tryz.prog (w.alloc (.cells (pcv p) 163)) = .ok mv' w' ∧ RowP base w' mv' (ps ++ [p]) ∧ w.heap.size ≤ w'.heap.size ∧
      Below base w w' ∧ (∀ j, j < w.heap.size → some j ≠ mv.ownBlock → w'.heap[j]? = w.heap[j]?) := by
  obtain ⟨i, hi, hz⟩ := Option.map_eq_some_iff.1 infoP
  simp only [Prod.mk.injEq] at hz
  obtain ⟨z1, z2, z3⟩ := hz
  have bm : Below w.heap.size w (w.alloc (.cells (pcv p) 163)) := (Below.refl _ _).alloc (Nat.le_refl _) _
  have hs : (w.alloc (.cells (pcv p) 163)).heap.size = w.heap.size + 1 := World.size_alloc _ _
  have ho' := World.ownsRow.alloc ho (.cells (pcv p) 163)
  have hcell : ∀ j u, (pcv p)[j]? = some u → (w.alloc (.cells (pcv p) 163)).cell? ⟨w.heap.size, j, none⟩ = some u := by
    intro j u hu
    have h0 : (w.alloc (.cells (pcv p) 163)).heap[w.heap.size]? = some (.cells (pcv p) 163 (0, 0)) := heap_alloc_new w _
    simp only [World.cell?, h0]
    simpa using hu
  obtain ⟨v', w', hr, h1, h2, _⟩ := run_append_own (P := Tryz.prog) (w.alloc (.cells (pcv p) 163)) base 157 157 163 i _ 7 64 Tryz.underlying157 hi z1 z2 z3 rfl (by omega) mv ps.length (pcs ps) ho'
    ⟨w.heap.size, 0, none⟩ 1 1 (pcv p).toList (by simp [pcv]) (fun j u hu => by
      rw [Go.WideShapes.add_plain, Nat.zero_add]
      exact hcell j u (by simpa using hu)) (fun u hu => by
        simp only [pcv, List.mem_cons, List.not_mem_nil, or_false] at hu
        rcases hu with rfl | rfl | rfl | rfl | rfl | rfl | rfl <;> rfl) (by simp only [maxLen]; omega) (by omega) (by rw [hs]; omega)
  refine ⟨v', w', hr, ?_, by have := h2.size; omega, ?_, fun j hj hne => ?_⟩
  · have h1' := h1
    rw [← pcs_one, ← pcs_app] at h1'
    simpa [RowP] using h1'
  · have hb2 : Below base (w.alloc (.cells (pcv p) 163)) w' := by
      refine ⟨h2.os, h2.tape, h2.output, h2.size, fun j hj => h2.block j (by rw [hs]; omega) ?_⟩
      intro hk
      have := (ho'.lt j hk.symm).1
      omega
    exact (bm.mono hb).trans hb2
  · rw [h2.block j (by rw [hs]; omega) hne]; exact bm.block j hj

/-- What is read so far, D, and what is left make the whole. -/
def Sofar (xs : List Int) (j : Nat) (D : List Dr.Pc) : Prop := Dr.prs xs = if (Dr.prs (xs.drop j)).2.2 = 0 then (D ++ (Dr.prs (xs.drop j)).1, 0, 0) else ([], j + (Dr.prs (xs.drop j)).2.1, (Dr.prs (xs.drop j)).2.2)
theorem prs_ok {l : List Int} (h : (Dr.prs l).2.2 = 0) : Dr.prs l = ((Dr.prs l).1, 0, 0) := by
  by_cases hl : l = []
  · rw [hl, Dr.prs_nil]
  · by_cases he : Dr.qe l = 0
    · rw [Dr.prs_cons hl he] at h ⊢
      split at h <;> rename_i k
      · rw [if_pos k]
      · exact absurd h k
    · rw [Dr.prs_err hl he] at h
      exact absurd h he
theorem prs_bad {l : List Int} (h : (Dr.prs l).2.2 ≠ 0) : (Dr.prs l).1 = [] := by
  by_cases hl : l = []
  · rw [hl, Dr.prs_nil]
  · by_cases he : Dr.qe l = 0
    · rw [Dr.prs_cons hl he] at h ⊢
      split at h <;> rename_i k
      · exact absurd rfl h
      · rw [if_neg k]
    · rw [Dr.prs_err hl he]
theorem Sofar.start (xs : List Int) : Sofar xs 0 [] := by
  unfold Sofar
  rw [List.drop_zero, List.nil_append, Nat.zero_add]
  by_cases h : (Dr.prs xs).2.2 = 0
  · rw [if_pos h]; exact prs_ok h
  · rw [if_neg h, ← prs_bad h]
theorem Sofar.step {xs : List Int} {j : Nat} {D : List Dr.Pc} (h : Sofar xs j D) (hj : j < xs.length) (he : Dr.qe (xs.drop j) = 0) : Sofar xs (j + Dr.qu (xs.drop j)) (D ++ [Dr.qp (xs.drop j)]) := by
  unfold Sofar at *
  have hl : xs.drop j ≠ [] := fun q => by have := List.drop_eq_nil_iff.1 q; omega
  rw [Dr.prs_cons hl he, List.drop_drop] at h
  rw [h]
  by_cases k : (Dr.prs (xs.drop (j + Dr.qu (xs.drop j)))).2.2 = 0
  · rw [if_pos k, if_pos k]; simp
  · rw [if_neg k, if_neg k, if_neg k, Nat.add_assoc]
theorem Sofar.stop {xs : List Int} {j : Nat} {D : List Dr.Pc} (h : Sofar xs j D) (hj : j < xs.length) (he : Dr.qe (xs.drop j) ≠ 0) : Dr.prs xs = ([], j + Dr.qu (xs.drop j), Dr.qe (xs.drop j)) := by
  unfold Sofar at h
  have hl : xs.drop j ≠ [] := fun q => by have := List.drop_eq_nil_iff.1 q; omega
  rw [Dr.prs_err hl he, if_neg he] at h
  exact h
theorem Sofar.done {xs : List Int} {D : List Dr.Pc} (h : Sofar xs xs.length D) : Dr.prs xs = (D, 0, 0) := by
  unfold Sofar at h
  rw [List.drop_length, Dr.prs_nil] at h
  simpa using h

/-- What Parse tells. -/
def PaTold (w : World) (xs : List Int) (r : Ending) (w' : World) : Prop := ∃ mv, r = .returned (.tuple #[mv, .int .i64 ((Dr.prs xs).2.1 : Nat), .int .i64 (Dr.prs xs).2.2]) ∧ RowP w.heap.size w' mv (Dr.prs xs).1 ∧ Below w.heap.size w w'
theorem RowP.mono {base base' : Nat} {w : World} {mv : Value} {ps : List Dr.Pc} (h : RowP base w mv ps) (hb : base' ≤ base) : RowP base' w mv ps := by
  obtain ⟨h1, h2⟩ := h
  refine ⟨h1, ?_⟩
  rcases h2 with h2 | ⟨g, cap, cur, e1, e2, e3⟩
  · exact .inl h2
  · exact .inr ⟨g, cap, cur, e1, by omega, e3⟩

set_option maxRecDepth 100000 in
set_option maxHeartbeats 1000000 in
theorem parse_any (s : ByteArray) (xs : List Int) (w : World) (hs : Str s xs) (hl : xs.length ≤ 1099511627776) :
    Calls Tryz.prog 88 #[.string s] w fun r w' => PaTold w xs r w' := by
  have hsz := hs.size
  have PI : Hid (∀ (j : Nat) W, j < xs.length → RB W w.heap.size s j → Calls Tryz.prog 106 #[.pointer (some ⟨w.heap.size, 0, none⟩)] W fun r w' => r = .returned (.tuple #[.agg (pcv (Dr.qp (xs.drop j))), .int .i64 (Dr.qe (xs.drop j))]) ∧ RB w' w.heap.size s (j + Dr.qu (xs.drop j)) ∧ Oth w.heap.size W w') := fun j W hj hb => piece_any w.heap.size j s xs W hs hj (by omega) hb
  have HL := hid hl
  have R0 := hid (RB.new w s)
  have B0 := hid (alloc_b w (.cells #[.string s, .int .i64 0] 180))
  have sz1 : (w.alloc (.cells #[.string s, .int .i64 0] 180)).heap.size = w.heap.size + 1 := Array.size_push ..
  have S0 : Hid (RB (w.alloc (.cells #[.string s, .int .i64 0] 180)) w.heap.size s 0 ∧ Below w.heap.size w (w.alloc (.cells #[.string s, .int .i64 0] 180)) ∧ w.heap.size + 1 ≤ (w.alloc (.cells #[.string s, .int .i64 0] 180)).heap.size) := ⟨R0.out, B0.out, by rw [sz1]; exact Nat.le_refl _⟩
  clear hs hl R0 B0 sz1
  go_enter Tryz.func88, Tryz.ntmps88
  go_wp2_with fail
  go_loopg [5] xs.length (fun m mv wr => ∃ (j : Nat) (D : List Dr.Pc), j + m = xs.length ∧ Hid (RB wr w.heap.size s j ∧ Below w.heap.size w wr ∧ w.heap.size + 1 ≤ wr.heap.size ∧ RowP (w.heap.size + 1) wr mv D ∧ Sofar xs j D ∧ D.length ≤ j))
  case atStart => exact ⟨0, [], by omega, S0.out.1, S0.out.2.1, S0.out.2.2, RowP.nil _ _, Sofar.start xs, by simp⟩
  case round =>
    obtain ⟨j, D, hj, I⟩ := hrel
    have hjb : (j : Int) ≤ 1099511627776 := by have := HL.out; omega
    obtain ⟨⟨c0, c1⟩, -⟩ := I.out.1.cells
    by_cases hjl : j < xs.length
    · have hji : (j : Int) < (xs.length : Int) := by omega
      have P1 := hid (PI.out j wr hjl I.out.1)
      have K0 := hid (fun h => I.out.2.2.2.2.1.step hjl h)
      have K1 := hid (fun h => I.out.2.2.2.2.1.stop hjl h)
      have qp := Dr.qu_pos (l := xs.drop j) (fun q => by have := List.drop_eq_nil_iff.1 q; omega)
      have ql := Dr.qu_le (l := xs.drop j) (fun q => by have := List.drop_eq_nil_iff.1 q; omega)
      rw [List.length_drop] at ql
      have I1 := hid I.out.2
      have j2 : j < j + Dr.qu (xs.drop j) := by omega
      have j3 : j + Dr.qu (xs.drop j) ≤ xs.length := by omega
      have dl := I1.out.2.2.2.2
      clear PI I qp ql
      generalize j + Dr.qu (xs.drop j) = j1 at *
      generalize Dr.qp (xs.drop j) = p at *
      generalize Dr.qe (xs.drop j) = E at *
      have P2 : Hid (Calls Tryz.prog 106 #[.pointer (some ⟨w.heap.size, 0, none⟩)] wr fun r w' => r = .returned (.tuple #[.agg #[.string (strOfNums p.t), .int .u8 p.v, .int .i64 p.fl, .int .i64 p.wk, .int .i64 p.wd, .int .i64 p.pk, .int .i64 p.pr], .int .i64 E]) ∧ RB w' w.heap.size s j1 ∧ Oth w.heap.size wr w') := P1.out
      clear P1
      go_wp2_with fail
      refine P2.out.mono ?_
      rintro e w1 ⟨rfl, r1, o1⟩
      have A1 := alloc_b w1 (.cells #[.string (strOfNums p.t), .int .u8 p.v, .int .i64 p.fl, .int .i64 p.wk, .int .i64 p.wd, .int .i64 p.pk, .int .i64 p.pr] 163)
      have RA := hid (r1.below A1)
      have B1 : Hid (Below w.heap.size w (w1.alloc (.cells #[.string (strOfNums p.t), .int .u8 p.v, .int .i64 p.fl, .int .i64 p.wk, .int .i64 p.wd, .int .i64 p.pk, .int .i64 p.pr] 163))) := by
        have k1 : Below w.heap.size wr w1 := o1.below (Nat.le_refl _) (by have := I1.out.2.1; omega)
        have k2 := I1.out.1.trans k1
        exact k2.trans (A1.mono (by have := k2.size; omega))
      have W1 : Hid (∀ mv, RowP (w.heap.size + 1) wr mv D → RowP (w.heap.size + 1) (w1.alloc (.cells #[.string (strOfNums p.t), .int .u8 p.v, .int .i64 p.fl, .int .i64 p.wk, .int .i64 p.wd, .int .i64 p.pk, .int .i64 p.pr] 163)) mv D) := fun mv h => (h.oth o1 (by omega)).below A1
      have Z1 : Hid (w.heap.size + 1 ≤ (w1.alloc (.cells #[.string (strOfNums p.t), .int .u8 p.v, .int .i64 p.fl, .int .i64 p.wk, .int .i64 p.wd, .int .i64 p.pk, .int .i64 p.pr] 163)).heap.size) := by
        have := I1.out.2.1; have := o1.size; have := A1.size; show _ ≤ _; omega
      have PB := hid (P7.new w1 (.string (strOfNums p.t)) (.int .u8 p.v) (.int .i64 p.fl) (.int .i64 p.wk) (.int .i64 p.wd) (.int .i64 p.pk) (.int .i64 p.pr))
      clear r1 o1 A1 c0 c1
      go_upto_region 5 with fail
      generalize w1.alloc (.cells #[.string (strOfNums p.t), .int .u8 p.v, .int .i64 p.fl, .int .i64 p.wk, .int .i64 p.wd, .int .i64 p.pk, .int .i64 p.pr] 163) = wA at *
      obtain ⟨⟨c0, c1⟩, -⟩ := RA.out.cells
      by_cases hE : E = 0
      · subst hE
        obtain ⟨mv', w2, ap, q1, q2, q3, q4⟩ := (W1.out _ I1.out.2.2.1).push p (by have := HL.out; omega) Z1.out
        have AP := hid ap
        have F : Hid (RB w2 w.heap.size s j1 ∧ Below w.heap.size w w2 ∧ w.heap.size + 1 ≤ w2.heap.size ∧ RowP (w.heap.size + 1) w2 mv' (D ++ [p]) ∧ Sofar xs j1 (D ++ [p]) ∧ (D ++ [p]).length ≤ j1) := by
          refine ⟨?_, B1.out.trans (q3.mono (by omega)), by have := Z1.out; omega, q1, K0.out rfl, by simp; omega⟩
          rw [RB, q4 w.heap.size RA.out.lt (fun e => by have := (World.ownsRow.lt (W1.out _ I1.out.2.2.1) _ e.symm).1; omega)]
          exact RA.out
        unfold pcv at AP
        obtain ⟨⟨b0, b1, b2, b3, b4, b5, b6⟩, -⟩ := PB.out.cells
        clear ap q1 q2 q3 q4 I1 K0 K1 W1 B1 RA c0 c1 PB Z1
        go_wp2_with (at_builtin; refine wpList_append_b rfl _ _ rfl AP.out (by rfl) (by rfl) ?_; clear AP)
        go_roundg (xs.length - j1)
        case measure => omega
        case rel => exact ⟨j1, D ++ [p], by omega, F.out⟩
      · have KF : Hid (∀ n, PaTold w xs (.returned (.tuple #[.slice none 0 0, .int .i64 (j1 : Int), .int .i64 E])) (wA.drewN n)) := by
          intro n
          have e := K1.out hE
          rw [PaTold, e]
          exact ⟨_, rfl, RowP.nil _ _, below_drewN B1.out n⟩
        clear I1 K0 K1 W1 B1 PB Z1
        go_wp2_with fail
        go_quiet (fail)
        go_wp2_with fail
        go_ret3
        exact KF.out _
    · have hje : j = xs.length := by omega
      have hji : ¬ (j : Int) < (xs.length : Int) := by omega
      have KF : Hid (∀ mv, RowP (w.heap.size + 1) wr mv D → PaTold w xs (.returned (.tuple #[mv, .int .i64 0, .int .i64 0])) wr) := by
        intro mv h
        have e : Dr.prs xs = (D, 0, 0) := by have := I.out.2.2.2.2.1; rw [hje] at this; exact this.done
        rw [PaTold, e]
        exact ⟨_, rfl, h.mono (by omega), I.out.2.1⟩
      have RW := hid I.out.2.2.2.1
      clear PI I
      go_wp2_with fail
      go_ret3
      exact KF.out _ RW.out
end Go.Proofs.YtigmhnlcmhpepaaGreatDoor

namespace Go.Proofs.YtigmhnlcmhpepaaGreatDoor
open Go Go.RowKit Go.Deep Go.Shelf

/-- A piece that a program can hold. -/
def PcW (p : Dr.Pc) : Prop := (∀ x ∈ p.t, 0 ≤ x ∧ x < 256) ∧ 0 ≤ p.v ∧ p.v < 256

/-- A piece's cells at a place. -/
def PCells (w : World) (b o : Nat) (p : Dr.Pc) : Prop := w.cell? ⟨b, o, none⟩ = some (.string (strOfNums p.t)) ∧ w.cell? ⟨b, o + 1, none⟩ = some (.int .u8 p.v) ∧ w.cell? ⟨b, o + 2, none⟩ = some (.int .i64 p.fl) ∧ w.cell? ⟨b, o + 3, none⟩ = some (.int .i64 p.wk) ∧ w.cell? ⟨b, o + 4, none⟩ = some (.int .i64 p.wd) ∧ w.cell? ⟨b, o + 5, none⟩ = some (.int .i64 p.pk) ∧ w.cell? ⟨b, o + 6, none⟩ = some (.int .i64 p.pr)

/-- A list of pieces that can be read. -/
def LP (w : World) (a : Option Addr) (ps : List Dr.Pc) : Prop := ps = [] ∨ ∃ b off, a = some ⟨b, off, none⟩ ∧ ∀ i p, ps[i]? = some p → PCells w b (off + i * 7) p
theorem cell_below {B : Nat} {w w' : World} {a : Addr} {v : Value} (h : w.cell? a = some v) (k : Below B w w') (hb : a.block < B) : w'.cell? a = some v := by
  rw [← h]; simp only [World.cell?, k.block a.block hb]
theorem PCells.below {w w' : World} {b o : Nat} {p : Dr.Pc} (h : PCells w b o p) (k : Below w.heap.size w w') : PCells w' b o p := by
  obtain ⟨h0, h1, h2, h3, h4, h5, h6⟩ := h
  have hb := cell_lt h0
  exact ⟨cell_below h0 k hb, cell_below h1 k hb, cell_below h2 k hb, cell_below h3 k hb, cell_below h4 k hb, cell_below h5 k hb, cell_below h6 k hb⟩
theorem LP.below {w w' : World} {a : Option Addr} {ps : List Dr.Pc} (h : LP w a ps) (k : Below w.heap.size w w') : LP w' a ps := by
  rcases h with h | ⟨b, off, e, h⟩
  · exact .inl h
  · exact .inr ⟨b, off, e, fun i p hi => (h i p hi).below k⟩

theorem pcs_at {ps : List Dr.Pc} {i k : Nat} {p : Dr.Pc} (h : ps[i]? = some p) (hk : k < 7) : (pcs ps)[i * 7 + k]? = (pcv p)[k]? := by
  induction ps generalizing i with
  | nil => simp at h
  | cons q l ih =>
    have e : pcs (q :: l) = (pcv q).toList ++ pcs l := by simp [pcs]
    have hl : (pcv q).toList.length = 7 := by simp [pcv]
    cases i with
    | zero =>
      simp at h
      subst h
      rw [e, List.getElem?_append_left (by omega)]
      simp
    | succ i =>
      simp at h
      rw [e, List.getElem?_append_right (by omega), hl, show (i + 1) * 7 + k - 7 = i * 7 + k by omega, ih h]
/-- A list of our own can be read. -/
theorem RowP.lp {base : Nat} {w : World} {mv : Value} {ps : List Dr.Pc} (h : RowP base w mv ps) : ∃ a cap, mv = .slice a ps.length cap ∧ ps.length ≤ cap ∧ LP w a ps := by
  rcases h.2 with ⟨rfl, h0⟩ | ⟨g, cap, cur, rfl, _, _, hc, _⟩
  · exact ⟨none, 0, by rw [h0], by omega, .inl (List.eq_nil_of_length_eq_zero h0)⟩
  · refine ⟨_, cap, rfl, hc, .inr ⟨g, 0, rfl, fun i p hi => ?_⟩⟩
    have k : ∀ j, j < 7 → ∀ u, (pcv p)[j]? = some u → w.cell? ⟨g, 0 + i * 7 + j, none⟩ = some u := by
      intro j hj u hu
      have := World.ownsRow.cells h (g := g) rfl (i * 7 + j) u (by rw [pcs_at hi hj]; exact hu)
      rw [Go.WideShapes.add_plain] at this
      rw [Nat.add_assoc]; exact this
    exact ⟨k 0 (by omega) _ rfl, k 1 (by omega) _ rfl, k 2 (by omega) _ rfl, k 3 (by omega) _ rfl, k 4 (by omega) _ rfl, k 5 (by omega) _ rfl, k 6 (by omega) _ rfl⟩

/-- The cells of the piece at place i, by its address. -/
theorem LP.at {w : World} {a : Option Addr} {ps : List Dr.Pc} (h : LP w a ps) (i : Nat) (hi : i < ps.length) : ∃ b off, a = some ⟨b, off, none⟩ ∧ PCells w b (off + i * 7) (ps.getD i Dr.Pc.no) := by
  rcases h with h | ⟨b, off, e, h⟩
  · rw [h] at hi; simp at hi
  · exact ⟨b, off, e, h i _ (by rw [List.getD_eq_getElem?_getD, List.getElem?_eq_getElem hi]; rfl)⟩


set_option maxRecDepth 100000 in
set_option maxHeartbeats 1000000 in
theorem wants_any (a : Option Addr) (cap : Nat) (ps : List Dr.Pc) (w : World) (h : LP w a ps) (hn : ps.length ≤ 2199023255552) :
    Calls Tryz.prog 89 #[.slice a ps.length cap] w fun e w' => e = .returned (.int .i64 (Dr.wants ps)) ∧ Below w.heap.size w w' := by
  have H := hid h
  have HN := hid hn
  have K : Hid (Dr.wants (ps.take ps.length) = Dr.wants ps) := by rw [Hid, List.take_length]
  clear h hn
  go_enter Tryz.func89, Tryz.ntmps89
  go_wp2_with fail
  go_loopg [3, 8] ps.length (fun m nv iv wr => ∃ i : Nat, i + m = ps.length ∧ nv = .int .i64 (Dr.wants (ps.take i)) ∧ iv = .int .i64 (i : Int) ∧ Hid (Below w.heap.size w wr))
  case atStart => exact ⟨0, by omega, rfl, rfl, Below.refl _ _⟩
  case round =>
    obtain ⟨i, hi, rfl, rfl, I⟩ := hrel
    have bd := Dr.wants_bd (ps.take i)
    have bl : ((ps.take i).length : Int) ≤ 2199023255552 := by have := HN.out; rw [List.length_take]; omega
    by_cases hl : i < ps.length
    · have hli : (i : Int) < (ps.length : Int) := by omega
      obtain ⟨b, off, rfl, hc⟩ := (H.out.below I.out).at i hl
      have NX := Dr.wants_take hl
      obtain ⟨c0, c1, c2, c3, c4, c5, c6⟩ := hc
      have A := hid (fun v0 v1 v2 v3 v4 v5 v6 => below_on I.out (alloc_b wr (.cells #[v0, v1, v2, v3, v4, v5, v6] 163)))
      clear I
      generalize Dr.wants (ps.take i) = n at *
      generalize ps.getD i Dr.Pc.no = p at *
      have ib : (i : Int) ≤ 2199023255552 := by have := HN.out; omega
      have n0 : 0 ≤ n := bd.1
      have n1 : n ≤ 6597069766656 := by omega
      clear bd bl
      by_cases v0 : p.v = 0
      · have F : Hid (Dr.wants (ps.take (i + 1)) = n) := by rw [Hid, NX, Dr.tk, if_pos (.inl v0)]; omega
        rw [v0] at c1
        clear NX
        go_wp2_with fail
        go_roundg (ps.length - (i + 1))
        case measure => omega
        case rel => exact ⟨i + 1, by omega, by rw [F.out], by go_num, A.out _ _ _ _ _ _ _⟩
      · by_cases v3 : p.v = 37
        · have F : Hid (Dr.wants (ps.take (i + 1)) = n) := by rw [Hid, NX, Dr.tk, if_pos (.inr v3)]; omega
          rw [v3] at c1
          clear NX
          go_wp2_with fail
          go_roundg (ps.length - (i + 1))
          case measure => omega
          case rel => exact ⟨i + 1, by omega, by rw [F.out], by go_num, A.out _ _ _ _ _ _ _⟩
        · rw [Dr.tk, if_neg (fun q => q.elim v0 v3)] at NX
          have u0 : (p.v == 0) = false := by simpa using v0
          have u3 : (p.v == 37) = false := by simpa using v3
          clear v0 v3
          by_cases k1 : p.wk = 2
          · by_cases k2 : p.pk = 2
            · have F : Hid (Dr.wants (ps.take (i + 1)) = n + 3) := by rw [Hid, NX, if_pos k1, if_pos k2]; omega
              rw [k1] at c3
              rw [k2] at c5
              clear NX
              go_wp2_with fail
              go_roundg (ps.length - (i + 1))
              case measure => omega
              case rel => exact ⟨i + 1, by omega, by rw [F.out] <;> first | rfl | (congr 1; omega), by go_num, A.out _ _ _ _ _ _ _⟩
            · have F : Hid (Dr.wants (ps.take (i + 1)) = n + 2) := by rw [Hid, NX, if_pos k1, if_neg k2]; omega
              rw [k1] at c3
              clear NX
              go_wp2_with fail
              go_roundg (ps.length - (i + 1))
              case measure => omega
              case rel => exact ⟨i + 1, by omega, by rw [F.out] <;> first | rfl | (congr 1; omega), by go_num, A.out _ _ _ _ _ _ _⟩
          · by_cases k2 : p.pk = 2
            · have F : Hid (Dr.wants (ps.take (i + 1)) = n + 2) := by rw [Hid, NX, if_neg k1, if_pos k2]; omega
              rw [k2] at c5
              clear NX
              go_wp2_with fail
              go_roundg (ps.length - (i + 1))
              case measure => omega
              case rel => exact ⟨i + 1, by omega, by rw [F.out] <;> first | rfl | (congr 1; omega), by go_num, A.out _ _ _ _ _ _ _⟩
            · have F : Hid (Dr.wants (ps.take (i + 1)) = n + 1) := by rw [Hid, NX, if_neg k1, if_neg k2]; omega
              clear NX
              go_wp2_with fail
              go_roundg (ps.length - (i + 1))
              case measure => omega
              case rel => exact ⟨i + 1, by omega, by rw [F.out] <;> first | rfl | (congr 1; omega), by go_num, A.out _ _ _ _ _ _ _⟩
    · have hli : ¬ (i : Int) < (ps.length : Int) := by omega
      have ie : i = ps.length := by omega
      have k := K.out
      rw [← ie] at k
      rw [k]
      clear bd bl hl
      go_wp2_with fail
      go_ret
      exact ⟨rfl, I.out⟩
end Go.Proofs.YtigmhnlcmhpepaaGreatDoor

namespace Go.Proofs.YtigmhnlcmhpepaaGreatDoor
open Go Go.RowKit Go.Deep Go.Shelf

theorem pgetD_mem {ps : List Dr.Pc} {i : Nat} (hi : i < ps.length) : ps.getD i Dr.Pc.no ∈ ps := by
  rw [List.getD_eq_getElem?_getD, List.getElem?_eq_getElem hi]; exact List.getElem_mem hi

set_option maxRecDepth 100000 in
set_option maxHeartbeats 2000000 in
theorem plain_any (a : Option Addr) (cap : Nat) (ps : List Dr.Pc) (w : World) (h : LP w a ps) (hn : ps.length ≤ 2199023255552) (hw : ∀ p ∈ ps, PcW p) (hs : (Dr.pl ps).length ≤ 16777216) :
    Calls Tryz.prog 93 #[.slice a ps.length cap] w fun e w' => e = .returned (.string (strOfNums (Dr.pl ps))) ∧ Below w.heap.size w w' := by
  have H := hid h
  have HN := hid hn
  have BL : Hid (∀ x ∈ Dr.pl ps, 0 ≤ x ∧ x < 256) := Dr.pl_mem (fun p hp => (hw p hp).1)
  have WS : Hid (∀ i, i < ps.length → Str (strOfNums (ps.getD i Dr.Pc.no).t) (ps.getD i Dr.Pc.no).t) := fun i hi => Str.of_nums (hw _ (pgetD_mem hi)).1
  have LE : Hid (∀ i, (Dr.pl (ps.take i)).length ≤ 16777216) := fun i => Nat.le_trans Dr.pl_le hs
  have B0 : Hid (DIsB w.heap.size w.heap.size [] (w.alloc (.cells #[.pointer none, .slice none 0 0] 186))) := Lib.fresh_isBuilder _ _ w
  have A1 := hid (alloc_b w (.cells #[.pointer none, .slice none 0 0] 186))
  have S1 : Hid (w.heap.size ≤ (w.alloc (.cells #[.pointer none, .slice none 0 0] 186)).heap.size) := A1.out.size
  clear h hn hw hs
  go_enter Tryz.func93, Tryz.ntmps93
  go_wp2_with fail
  generalize w.alloc (.cells #[.pointer none, .slice none 0 0] 186) = wB at *
  go_loopg [8] ps.length (fun m iv wr => ∃ k : Nat, k + m = ps.length ∧ iv = .int .i64 (k : Int) ∧ Hid (Below w.heap.size w wr ∧ DIsB w.heap.size w.heap.size (Dr.pl (ps.take k)) wr ∧ w.heap.size ≤ wr.heap.size))
  case atStart => exact ⟨0, by omega, rfl, A1.out, B0.out, S1.out⟩
  case round =>
    obtain ⟨k, hk, rfl, J⟩ := hrel
    by_cases kl : k < ps.length
    · have kli : (k : Int) < (ps.length : Int) := by omega
      have kb : (k : Int) ≤ 2199023255552 := by have := HN.out; omega
      obtain ⟨b, off, rfl, hc⟩ := (H.out.below J.out.1).at k kl
      obtain ⟨c0, c1, c2, c3, c4, c5, c6⟩ := hc
      have STR := hid (WS.out k kl)
      have TK := Dr.pl_take kl
      have ZL := LE.out (k + 1)
      have A2 := alloc_b wr (.cells #[.string (strOfNums (ps.getD k Dr.Pc.no).t), .int .u8 (ps.getD k Dr.Pc.no).v, .int .i64 (ps.getD k Dr.Pc.no).fl, .int .i64 (ps.getD k Dr.Pc.no).wk, .int .i64 (ps.getD k Dr.Pc.no).wd, .int .i64 (ps.getD k Dr.Pc.no).pk, .int .i64 (ps.getD k Dr.Pc.no).pr] 163)
      have J1 := hid (J.out.1.trans (A2.mono J.out.2.2))
      have Q1 := hid (J.out.2.1.below A2)
      have Z1 : Hid (w.heap.size ≤ (wr.alloc (.cells #[.string (strOfNums (ps.getD k Dr.Pc.no).t), .int .u8 (ps.getD k Dr.Pc.no).v, .int .i64 (ps.getD k Dr.Pc.no).fl, .int .i64 (ps.getD k Dr.Pc.no).wk, .int .i64 (ps.getD k Dr.Pc.no).wd, .int .i64 (ps.getD k Dr.Pc.no).pk, .int .i64 (ps.getD k Dr.Pc.no).pr] 163)).heap.size) := Nat.le_trans J.out.2.2 A2.size
      clear J A2
      generalize ps.getD k Dr.Pc.no = p at *
      by_cases hv : p.v = 37
      · rw [if_pos hv] at TK
        have v1 : (p.v == 37) = true := by simpa using hv
        have BW := hid (dbbyte_any _ _ _ 37 _ Q1.out (by rw [TK, List.length_append] at ZL; simpa using ZL) Z1.out)
        have TK := hid TK
        clear hv ZL
        go_upto_region 6 with fail
        generalize wr.alloc (.cells #[.string (strOfNums p.t), .int .u8 p.v, .int .i64 p.fl, .int .i64 p.wk, .int .i64 p.wd, .int .i64 p.pk, .int .i64 p.pr] 163) = wA at *
        clear c0 c1 c2 c3 c4 c5 c6
        go_wp2_with fail
        refine BW.out.mono ?_
        rintro e w3 ⟨rfl, q3, b3⟩
        have F : Hid (Below w.heap.size w w3 ∧ DIsB w.heap.size w.heap.size (Dr.pl (ps.take (k + 1))) w3 ∧ w.heap.size ≤ w3.heap.size) := by
          rw [TK.out]
          exact ⟨J1.out.trans b3, q3, Nat.le_trans Z1.out b3.size⟩
        clear q3 b3 BW
        go_wp2_with fail
        go_roundg (ps.length - (k + 1))
        case measure => omega
        case rel => exact ⟨k + 1, by omega, by go_num, F.out⟩
      · rw [if_neg hv] at TK
        have v1 : (p.v == 37) = false := by simpa using hv
        have BW := hid (dbwrite_any _ _ _ _ _ _ Q1.out STR.out (by rw [TK, List.length_append] at ZL; exact ZL) Z1.out)
        have TK := hid TK
        clear hv ZL
        go_upto_region 7 with fail
        obtain ⟨⟨b0, -, -, -, -, -, -⟩, -⟩ := (P7.new wr (.string (strOfNums p.t)) (.int .u8 p.v) (.int .i64 p.fl) (.int .i64 p.wk) (.int .i64 p.wd) (.int .i64 p.pk) (.int .i64 p.pr)).cells
        generalize wr.alloc (.cells #[.string (strOfNums p.t), .int .u8 p.v, .int .i64 p.fl, .int .i64 p.wk, .int .i64 p.wd, .int .i64 p.pk, .int .i64 p.pr] 163) = wA at *
        clear c0 c1 c2 c3 c4 c5 c6
        go_wp2_with fail
        refine BW.out.mono ?_
        rintro e w3 ⟨rfl, q3, b3⟩
        have F : Hid (Below w.heap.size w w3 ∧ DIsB w.heap.size w.heap.size (Dr.pl (ps.take (k + 1))) w3 ∧ w.heap.size ≤ w3.heap.size) := by
          rw [TK.out]
          exact ⟨J1.out.trans b3, q3, Nat.le_trans Z1.out b3.size⟩
        clear q3 b3 BW
        go_wp2_with fail
        go_roundg (ps.length - (k + 1))
        case measure => omega
        case rel => exact ⟨k + 1, by omega, by go_num, F.out⟩
    · have kli : ¬ (k : Int) < (ps.length : Int) := by omega
      have q := J.out.2
      rw [List.take_of_length_le (by omega)] at q
      have ST := hid (dbstr_any _ _ _ wr q.1 BL.out q.2)
      have J1 := hid J.out.1
      clear q J
      go_wp2_with fail
      refine ST.out.mono ?_
      rintro e w1 ⟨rfl, hB⟩
      have F2 := hid (J1.out.trans hB)
      clear hB ST
      go_wp2_with fail
      go_ret
      exact ⟨rfl, F2.out⟩
end Go.Proofs.YtigmhnlcmhpepaaGreatDoor
