/-
  record: a range over an iterator whose rounds come in a heap of some size; AppendSeq, Collect, Fields.
-/
import Derived.Test.YtiggmgagcogakaaDoorRcG
import Derived.Test.YtiggmgagcogakaaDoorChKa
import Derived.Maps.AppendAt
namespace Go.Proofs.YtiggmgagcogakaaDoor
open Go Go.RowKit Go.Deep Go.Shelf

attribute [local go_sem] Oper.semAt_some

theorem range_ownm (m : Nat) {g : Operand} {ps : Array Tmp} {assign body : Code} {Q : Exit → Act → World → Prop} {a : Act} {w : World} {gf : Nat} {lb : Array Value}
    (hg : a.eval g = .func (.func gf) #[] lb) (eg : ∀ args w, (callFunc gf args).run Tryd.prog w = .ok (.enter gf args) w)
    (encs : Nat → Array Value) (hps : ∀ k, (encs k).size = ps.size) (N : Nat) (I Ix : Nat → World → Prop) (Kp : World → World → Prop)
    (hI : ∀ k W o, I k W → w.heap.size + 1 < W.heap.size → I k (W.putObj (w.heap.size + 1) o)) (hIx : ∀ k W o, Ix k W → w.heap.size + 1 < W.heap.size → Ix k (W.putObj (w.heap.size + 1) o))
    (hKt : ∀ {A B C : World}, Kp A B → Kp B C → Kp A C) (hKb : ∀ W o, w.heap.size + 1 < W.heap.size → Kp W (W.putObj (w.heap.size + 1) o))
    (h0 : ∀ r, I 0 ((w.alloc (.deferred (some []))).alloc (.loop r))) (a1 : Nat → Act)
    (hassign : ∀ k W K, K (a1 k) W → assign.wpIn (Fence.wide.inRound (w.heap.size + 1)) 0 Tryd.prog (Exit.then K (fun _ _ _ => False)) { tmps := (ps.zip (encs k)).foldl (fun t (p, v) => t.setIfInBounds p v) a.tmps, defers := [] } W)
    (hbody : ∀ k W, k < N → m ≤ W.heap.size → I k W → w.heap.size + 1 < W.heap.size → body.wpIn (Fence.wide.inRound (w.heap.size + 1)) 0 Tryd.prog (Rc.Post I Ix Kp w.heap.size k W) (a1 k) W)
    (hseq : ∀ (r : Loop) (J Jx : Nat → World → Prop), (∀ k W, J k W ↔ I k W ∧ W.heap[w.heap.size + 1]? = some (.loop r) ∧ W.heap[w.heap.size]? = some (.deferred (some []))) → (∀ k W, Jx k W → Ix k W) →
      (∀ k W1, k < N → m ≤ W1.heap.size → J k W1 → Yd (w.heap.size + 1) (encs k) W1 fun e W' => (e = .returned (.bool true) ∧ J (k + 1) W' ∧ Kp W1 W') ∨ (e = .returned (.bool false) ∧ Jx (k + 1) W')) →
      J 0 ((w.alloc (.deferred (some []))).alloc (.loop r)) →
      CallsIn Fence.wide 0 Tryd.prog gf (#[.func (.yield (w.heap.size + 1)) #[] #[]] ++ lb) ((w.alloc (.deferred (some []))).alloc (.loop r)) fun e W' => (∃ v, e = .returned v) ∧ (J N W' ∨ ∃ k, k ≤ N ∧ Jx k W'))
    (hdone : ∀ W, I N W → W.heap[w.heap.size]? = some (.deferred (some [])) → Q .normal { a with defers := { target := .collected w.heap.size, args := #[] } :: a.defers } W)
    (hstop : ∀ k W, k ≤ N → Ix k W → W.heap[w.heap.size]? = some (.deferred (some [])) → Code.ret.wpIn Fence.wide 0 Tryd.prog Q { a with defers := { target := .collected w.heap.size, args := #[] } :: a.defers } W) :
    (Code.rangeFunc g ps assign body).wpIn Fence.wide 0 Tryd.prog Q a w := by
  refine wpIn_rangeFunc fun fn hfn => ?_
  let lp : LoopState → Option Code → Loop := fun st pe => { state := st, pending := pe, fn, tmps := a.tmps, params := ps, assign, body, defers := w.heap.size }
  have e1 : ((w.alloc (.deferred (some []))).alloc (.loop (lp .ready none))).heap[w.heap.size + 1]? = some (.loop (lp .ready none)) := by
    have := World.alloc_heap_new (w.alloc (.deferred (some []))) (.loop (lp .ready none))
    rwa [World.size_alloc] at this
  have e2 : ((w.alloc (.deferred (some []))).alloc (.loop (lp .ready none))).heap[w.heap.size]? = some (.deferred (some [])) :=
    (Below.heap_alloc _ _ _ (by simp)).trans (World.alloc_heap_new w _)
  refine ⟨w.heap.size + 1, [{ target := .collected w.heap.size, args := #[] }], _, { target := .fn (.func gf) lb, args := #[.func (.yield (w.heap.size + 1)) #[] #[]] }, (w.alloc (.deferred (some []))).alloc (.loop (lp .ready none)), gf,
    #[.func (.yield (w.heap.size + 1)) #[] #[]] ++ lb, (w.alloc (.deferred (some []))).alloc (.loop (lp .ready none)), run_enterLoop_outer _ _ _ _ _, ?_, fun f _ => trivial, ?_, fun h => (by cases h), ?_⟩
  · simp only [resolve, hg]
    simp [go_sem, lp]
  · simp [invoke, go_sem, eg]
  · refine (hseq (lp .ready none) (fun k W => I k W ∧ W.heap[w.heap.size + 1]? = some (.loop (lp .ready none)) ∧ W.heap[w.heap.size]? = some (.deferred (some [])))
      (fun k W => Ix k W ∧ W.heap[w.heap.size + 1]? = some (.loop (lp .done (some .ret))) ∧ W.heap[w.heap.size]? = some (.deferred (some []))) (fun k W => Iff.rfl) (fun k W h => h.1) ?_ ⟨h0 _, e1, e2⟩).mono ?_
    · rintro k W hk hm ⟨hi, hl, hd⟩
      have lt : w.heap.size + 1 < W.heap.size := (Array.getElem?_eq_some_iff.1 hl).1
      refine yd_of (m := 0) ⟨fn, _, assign, body, run_yield hl (hps k), roundIn_of_wpIn hfn (hassign k W _ ⟨_, run_beginRound hl rfl, ?_⟩)⟩
      have lt2 : w.heap.size + 1 < (W.putObj (w.heap.size + 1) (.loop (lp .busy none))).heap.size := by simpa using lt
      refine wpIn_mono (hbody k _ hk (by simpa using hm) (hI _ _ _ hi lt) lt2) ?_
      have b1 : (W.putObj (w.heap.size + 1) (.loop (lp .busy none))).heap[w.heap.size + 1]? = some (.loop (lp .busy none)) := World.putObj_heap_same lt
      have b2 : (W.putObj (w.heap.size + 1) (.loop (lp .busy none))).heap[w.heap.size]? = some (.deferred (some [])) := (World.putObj_heap_other (by omega)).trans hd
      rintro e a3 W3 hp
      cases e with
      | normal =>
        obtain ⟨⟨k1, k2⟩, i3, p3⟩ := hp
        have l3 := k1.trans b1
        have lt3 := (Array.getElem?_eq_some_iff.1 l3).1
        exact ⟨_, _, run_endRound none l3, .inl ⟨rfl, ⟨hI _ _ _ i3 lt3, World.putObj_heap_same lt3, (World.putObj_heap_other (by omega)).trans (k2.trans b2)⟩, hKt (hKt (hKb _ _ lt) p3) (hKb _ _ lt3)⟩⟩
      | ret =>
        obtain ⟨⟨k1, k2⟩, i3⟩ := hp
        have l3 := k1.trans b1
        have lt3 := (Array.getElem?_eq_some_iff.1 l3).1
        exact ⟨_, _, run_endRound (some .ret) l3, .inr ⟨rfl, hIx _ _ _ i3 lt3, World.putObj_heap_same lt3, (World.putObj_heap_other (by omega)).trans (k2.trans b2)⟩⟩
      | exit id => exact hp.elim
      | goto t => exact hp.elim
      | panic ch => exact hp.elim
      | outgrown => exact hp.elim
    · rintro e W2 ⟨⟨v, rfl⟩, (⟨hi, hl, hd⟩ | ⟨k, hk, hi, hl, hd⟩)⟩
      · have lt := (Array.getElem?_eq_some_iff.1 hl).1
        exact ⟨none, _, run_endLoop hl (by simp [lp]), hdone _ (hI _ _ _ hi lt) ((World.putObj_heap_other (by omega)).trans hd)⟩
      · have lt := (Array.getElem?_eq_some_iff.1 hl).1
        exact ⟨some .ret, _, run_endLoop hl (by simp [lp]), hstop k _ hk (hIx _ _ _ hi lt) ((World.putObj_heap_other (by omega)).trans hd)⟩

theorem yd_mono {l : Nat} {args : Array Value} {W : World} {R R' : Ending → World → Prop} (h : Yd l args W R) (hr : ∀ e w, R e w → R' e w) : Yd l args W R' := fun m => (h m).mono hr
/-- The fields of a text. -/
def Rc.fl (s fs : ByteArray) (ps : List (Nat × Nat)) : List ByteArray := (List.range (Rc.nf ps)).map (Rc.tk s fs ps)
theorem Rc.fl_len (s fs : ByteArray) (ps : List (Nat × Nat)) : (Rc.fl s fs ps).length = Rc.nf ps := by simp [Rc.fl]
theorem Rc.fl_take (s fs : ByteArray) (ps : List (Nat × Nat)) (k : Nat) (hk : k < Rc.nf ps) : (Rc.fl s fs ps).take (k + 1) = (Rc.fl s fs ps).take k ++ [Rc.tk s fs ps k] := by
  have hl : k < (Rc.fl s fs ps).length := by rw [Rc.fl_len]; exact hk
  rw [List.take_succ_eq_append_getElem hl]
  simp [Rc.fl]
theorem Rc.owns_of {A A' : World} {base : Nat} {e : TypeId} {v : Value} {k : Nat} {xs : List Value} (h : A.ownsRow base e 1 v k xs) (hb : ∀ g, base ≤ g → g < A.heap.size → A'.heap[g]? = A.heap[g]?) : A'.ownsRow base e 1 v k xs := by
  refine ⟨h.1, ?_⟩
  rcases h.2 with h2 | ⟨g, cap, cur, h1, h2, h3, h4⟩
  · exact .inl h2
  · exact .inr ⟨g, cap, cur, h1, h2, by rw [hb g h2 (Array.getElem?_eq_some_iff.1 h3).1]; exact h3, h4⟩

set_option maxRecDepth 100000 in
set_option maxHeartbeats 4000000 in
theorem appendseq_any (s fs : ByteArray) (ps : List (Nat × Nat)) (hp : Rc.Pl s fs ps) (hs : s.size ≤ 140737488355400) (hs2 : fs ≠ ⟨#[32]⟩ → s.size < 4294967281) (hf : fs.size ≤ 140737488355328) (bt bf : Nat) (w : World)
    (ct : w.cell? ⟨bt, 0, none⟩ = some (.string s)) (cf : w.cell? ⟨bf, 0, none⟩ = some (.string fs)) (hm : ML w) :
    CallsIn Fence.wide 0 Tryd.prog 17 #[.slice none 0 0, .func (.func 18) #[] #[.pointer (some ⟨bt, 0, none⟩), .pointer (some ⟨bf, 0, none⟩)]] w fun e w' => (∃ v, e = .returned v ∧ TO w.heap.size w' v (Rc.fl s fs ps)) ∧ Below w.heap.size w w' := by
  refine callsIn_of_wp_marks Tryd.func17 rfl trivial ?_ rfl
  simp only [Tryd.ntmps17, List.size_toArray, List.length_cons, List.length_nil, Nat.reduceAdd, Nat.reduceSub, Array.replicate_succ, Array.replicate_zero, List.push_toArray, List.append_toArray, List.nil_append, List.cons_append]
  gi_wp2
  have A1 := alloc_b w (.cells #[.slice none 0 0] 22)
  have b0 := Boxed.new w 22 (.slice none 0 0)
  have l1 : (w.alloc (.cells #[.slice none 0 0] 22)).heap.size = w.heap.size + 1 := World.size_alloc ..
  have bt1 : bt < w.heap.size := cell_lt ct
  have bf1 : bf < w.heap.size := cell_lt cf
  have m1 : 0 < w.heap.size := by obtain ⟨m, hm⟩ := hm; exact cell_lt hm
  obtain ⟨i, hi, hz⟩ := Option.map_eq_some_iff.1 info_str
  simp only [Prod.mk.injEq] at hz
  obtain ⟨z1, z2, z3⟩ := hz
  generalize w.alloc (.cells #[.slice none 0 0] 22) = w1 at *
  refine range_ownm (w.heap.size + 8) (gf := 18) (lb := #[.pointer (some ⟨bt, 0, none⟩), .pointer (some ⟨bf, 0, none⟩)]) rfl (enters_of Tryd.func18 (by kernel_rfl) rfl) (fun k => #[.string (Rc.tk s fs ps k)]) (fun _ => rfl) (Rc.nf ps)
    (fun k A => ∃ v, Boxed A w.heap.size 22 v ∧ A.ownsRow (w.heap.size + 9) 9 1 v k (((Rc.fl s fs ps).take k).map Value.string) ∧ Below w.heap.size w A)
    (fun _ _ => False) (Rc.KX (fun j => j = w.heap.size ∨ j = w.heap.size + 2 ∨ w.heap.size + 9 ≤ j)) ?hI (fun _ _ _ h _ => h) ?hKt ?hKb ?h0
    (fun k => { tmps := #[.slice none 0 0, .func (.func 18) #[] #[.pointer (some ⟨bt, 0, none⟩), .pointer (some ⟨bf, 0, none⟩)], .pointer (some ⟨w.heap.size, 0, none⟩), undef, .slice none 0 0, .string (Rc.tk s fs ps k), .func (.func 18) #[] #[.pointer (some ⟨bt, 0, none⟩), .pointer (some ⟨bf, 0, none⟩)], .string (Rc.tk s fs ps k), undef, undef, undef, undef, undef], defers := [] })
    ?assign ?body ?seq ?done (fun _ _ _ h _ => h.elim)
  case hI =>
    rintro k A o ⟨v, b, r, bl⟩ hlt
    rw [l1] at hlt ⊢
    have e : ∀ j, j ≠ w.heap.size + 1 + 1 → (A.putObj (w.heap.size + 1 + 1) o).heap[j]? = A.heap[j]? := fun j hj => World.putObj_heap_other hj
    exact ⟨v, Rc.boxed_of b (e _ (by omega)), Rc.owns_of r (fun g h _ => e g (by omega)), bl.os, bl.tape, bl.output, by simpa using bl.size, fun j hj => (e j (by omega)).trans (bl.block j hj)⟩
  case hKt =>
    intro A B C h k
    exact ⟨Nat.le_trans h.1 k.1, fun j hj hx => (k.2 j (Nat.lt_of_lt_of_le hj h.1) hx).trans (h.2 j hj hx)⟩
  case hKb =>
    intro A o hlt
    rw [l1]
    exact ⟨by simp, fun j _ hx => World.putObj_heap_other (fun e => hx (.inr (.inl e)))⟩
  case h0 =>
    intro r
    have b := below_on (alloc_b w1 (.deferred (some []))) (alloc_b (w1.alloc (.deferred (some []))) (.loop r))
    exact ⟨.slice none 0 0, Rc.boxed_of b0 (b.block _ (by omega)), World.ownsRow_nil _ _ _ _, below_on A1 b⟩
  case assign =>
    intro k A K hK
    gi_wp2
    exact hK
  case body =>
    rintro k A hk h8 ⟨v, b, r, bl⟩ hlt
    have kn : k < 32768 := by unfold Rc.nf at hk; omega
    have hb := b.cell
    have hv := r.alloc (.cells #[.string (Rc.tk s fs ps k)] 9)
    have FT := hid (Rc.fl_take s fs ps k hk)
    generalize Rc.tk s fs ps k = x at *
    have bA := b.alloc (.cells #[.string x] 9)
    have hbA := bA.cell
    gi_wp2_with (gi_at_builtin; refine wpListIn_append_own _ rfl _ _ 22 rfl (w.heap.size + 9) 9 i (.string ByteArray.empty) 1 16 Tryd.underlying22 hi z1 z2 z3 rfl (by decide) _ _ _ rfl hv ⟨A.heap.size, 0, none⟩ 1 1 [.string x] rfl rfl (cell_one_new _ _ _) (by simp [Value.oneCell']) (by simp only [maxLen]; omega) (by omega) (by simp; omega) ?_; intro v' w2 hown hgrow _; obtain ⟨g', cap', rfl⟩ := ownsRow_succ hown; have b2 := bA.kept hgrow (bA.not_row (by decide) hv); have hb2 := b2.cell; have hf2 := b2.frozen)
    have ch : ∀ j, j < A.heap.size → j ≠ w.heap.size → j < w.heap.size + 9 → (w2.setCell ⟨w.heap.size, 0, none⟩ (.slice (some ⟨g', 0, none⟩) (k + 1) cap')).heap[j]? = A.heap[j]? := fun j h1 h2 h3 => by
      rw [Rc.set_other _ h2, hgrow.block j (by simp; omega) (fun e => by have := (World.ownsRow.lt r j e.symm).1; omega)]
      exact (alloc_b A (.cells #[.string x] 9)).block j h1
    have sz : A.heap.size ≤ (w2.setCell ⟨w.heap.size, 0, none⟩ (.slice (some ⟨g', 0, none⟩) (k + 1) cap')).heap.size := by
      have := hgrow.size
      simp at this ⊢
      omega
    rw [l1]
    refine ⟨⟨ch _ (by omega) (by omega) (by omega), ch _ (by omega) (by omega) (by omega)⟩, ⟨_, b2.set _, ?_, ?_⟩, sz, fun j h1 h2 => ch j h1 (fun e => h2 (.inl e)) (Nat.lt_of_not_le (fun e => h2 (.inr (.inr e))))⟩
    · rw [FT.out, List.map_append]
      exact Rc.owns_of hown (fun g h _ => Rc.set_other _ (by omega))
    · exact ⟨hgrow.os.trans bl.os, hgrow.tape.trans bl.tape, hgrow.output.trans bl.output, Nat.le_trans bl.size sz, fun j hj => (ch j (Nat.lt_of_lt_of_le hj bl.size) (by omega) (by omega)).trans (bl.block j hj)⟩
  case seq =>
    intro r J Jx hJ hJx hYY h00
    have b := below_on (alloc_b w1 (.deferred (some []))) (alloc_b (w1.alloc (.deferred (some []))) (.loop r))
    have b1 := below_on A1 b
    have l3 : ((w1.alloc (.deferred (some []))).alloc (.loop r)).heap.size = w.heap.size + 3 := by simp [l1]
    refine (fields1_feeds s fs ps hp hs hs2 hf bt bf (w1.heap.size + 1) (fun j => j = w.heap.size ∨ j = w.heap.size + 2 ∨ w.heap.size + 9 ≤ j) J _ (by rw [b1.cell (p := ⟨bt, 0, none⟩) bt1]; exact ct) (by rw [b1.cell (p := ⟨bf, 0, none⟩) bf1]; exact cf) (hm.b b1)
      (by omega) (by omega) (by omega) (fun j h1 h2 => by rw [l3] at h1 h2; omega) ?_ ?_ h00).mono ?_
    · intro k A A' h1 h2
      obtain ⟨⟨v, bx, rw', bl⟩, hl, hd⟩ := (hJ k A).1 h1
      rw [l3] at h2
      obtain ⟨⟨e1, e2, e3⟩, h3, h4⟩ := h2
      have hA := bx.lt
      refine (hJ k A').2 ⟨⟨v, Rc.boxed_of bx (h4 _ hA (by omega)), Rc.owns_of rw' (fun g hg hg2 => h4 g hg2 (by omega)), e1.trans bl.os, e2.trans bl.tape, e3.trans bl.output, Nat.le_trans bl.size h3, fun j hj => (h4 j (by omega) (by omega)).trans (bl.block j hj)⟩, ?_, ?_⟩
      · rw [h4 _ ((Array.getElem?_eq_some_iff.1 hl).1) (by omega)]; exact hl
      · rw [h4 _ ((Array.getElem?_eq_some_iff.1 hd).1) (by omega)]; exact hd
    · intro k A hk h5 hj
      rw [l3] at h5
      refine (yd_mono (hYY k A hk (by omega) hj) ?_)
      rintro e A' (⟨rfl, j2, k2⟩ | ⟨rfl, j2⟩)
      · exact ⟨rfl, j2, k2⟩
      · exact (hJx _ _ j2).elim
    · rintro e W' ⟨he, hj⟩
      exact ⟨he, .inl hj⟩
  case done =>
    rintro A ⟨v, b, r, bl⟩ hd
    have hb := b.cell
    rw [List.take_of_length_le (by rw [Rc.fl_len]; exact Nat.le_refl _)] at r
    gi_wp2
    refine ⟨by simp, .inl ⟨_, _, rfl, run_takeDeferred hd, ?_⟩⟩
    have e : ∀ j, j ≠ w1.heap.size → (A.putObj w1.heap.size (.deferred none)).heap[j]? = A.heap[j]? := fun j hj => World.putObj_heap_other hj
    refine ⟨_, results_tmp rfl _ _ _, ⟨v, rfl, ?_⟩, bl.os, bl.tape, bl.output, by simpa using bl.size, fun j hj => (e j (by omega)).trans (bl.block j hj)⟩
    have q : TO (w.heap.size + 9) (A.putObj w1.heap.size (.deferred none)) v (Rc.fl s fs ps) := by
      unfold TO
      rw [Rc.fl_len]
      exact Rc.owns_of r (fun g hg _ => e g (by omega))
    exact q.mono (by omega)

theorem rcollect_any (s fs : ByteArray) (ps : List (Nat × Nat)) (hp : Rc.Pl s fs ps) (hs : s.size ≤ 140737488355400) (hs2 : fs ≠ ⟨#[32]⟩ → s.size < 4294967281) (hf : fs.size ≤ 140737488355328) (bt bf : Nat) (w : World)
    (ct : w.cell? ⟨bt, 0, none⟩ = some (.string s)) (cf : w.cell? ⟨bf, 0, none⟩ = some (.string fs)) (hm : ML w) :
    Calls Tryd.prog 11 #[.func (.func 18) #[] #[.pointer (some ⟨bt, 0, none⟩), .pointer (some ⟨bf, 0, none⟩)]] w fun e w' => (∃ v, e = .returned v ∧ TO w.heap.size w' v (Rc.fl s fs ps)) ∧ Below w.heap.size w w' := by
  have H := hid (callsIn_wide.1 (appendseq_any s fs ps hp hs hs2 hf bt bf w ct cf hm))
  clear hp hs hs2 hf ct cf hm
  go_enter Tryd.func11, Tryd.ntmps11
  go_wp2_with fail
  refine H.out.mono ?_
  rintro e w1 ⟨⟨v, rfl, ht⟩, hb⟩
  have T := hid (And.intro ht hb)
  clear ht hb H
  go_wp2_with fail
  go_ret
  exact ⟨⟨_, rfl, T.out.1⟩, T.out.2⟩
theorem rfields0_any (s fs : ByteArray) (w : World) : Calls Tryd.prog 12 #[.string s, .string fs] w fun e w' => e = .returned (.func (.func 18) #[] #[.pointer (some ⟨w.heap.size, 0, none⟩), .pointer (some ⟨w.heap.size + 1, 0, none⟩)]) ∧ w' = (w.alloc (.cells #[.string s] 9)).alloc (.cells #[.string fs] 9) := by
  go_enter Tryd.func12, Tryd.ntmps12
  go_wp2_with fail
  go_ret
  exact ⟨rfl, rfl⟩
set_option maxRecDepth 100000 in
/-- record.Fields. -/
theorem rfields_any (s fs : ByteArray) (ps : List (Nat × Nat)) (hp : Rc.Pl s fs ps) (hs : s.size ≤ 140737488355328) (hs2 : fs ≠ ⟨#[32]⟩ → s.size < 4294967281) (hf : fs.size ≤ 140737488355328) (w : World) (hm : ML w) :
    Calls Tryd.prog 5 #[.string s, .string fs] w fun e w' => (∃ v, e = .returned v ∧ TO w.heap.size w' v (Rc.fl s fs ps)) ∧ Below w.heap.size w w' := by
  have CL := hid (vclone_any s w (by omega))
  have CO : Hid (∀ w1, Below w.heap.size w w1 → Calls Tryd.prog 11 #[.func (.func 18) #[] #[.pointer (some ⟨w1.heap.size, 0, none⟩), .pointer (some ⟨w1.heap.size + 1, 0, none⟩)]] ((w1.alloc (.cells #[.string s] 9)).alloc (.cells #[.string fs] 9)) fun e w' => (∃ v, e = .returned v ∧ TO w.heap.size w' v (Rc.fl s fs ps)) ∧ Below w.heap.size w w') := fun w1 b => by
    have a1 := alloc_b w1 (.cells #[.string s] 9)
    have a2 := alloc_b (w1.alloc (.cells #[.string s] 9)) (.cells #[.string fs] 9)
    have l1 : (w1.alloc (.cells #[.string s] 9)).heap.size = w1.heap.size + 1 := World.size_alloc ..
    have c1 : ((w1.alloc (.cells #[.string s] 9)).alloc (.cells #[.string fs] 9)).cell? ⟨w1.heap.size, 0, none⟩ = some (.string s) := by
      rw [a2.cell (p := ⟨w1.heap.size, 0, none⟩) (by show w1.heap.size < _; rw [l1]; omega), cell_of_row _ _ _ _ _ _ (heap_alloc_new w1 _)]; rfl
    have c2 : ((w1.alloc (.cells #[.string s] 9)).alloc (.cells #[.string fs] 9)).cell? ⟨w1.heap.size + 1, 0, none⟩ = some (.string fs) := by
      have := heap_alloc_new (w1.alloc (.cells #[.string s] 9)) (.cells #[.string fs] 9)
      rw [l1] at this
      rw [cell_of_row _ _ _ _ _ _ this]; rfl
    have b2 := below_on b (below_on a1 a2)
    refine (rcollect_any s fs ps hp (by omega) hs2 hf w1.heap.size (w1.heap.size + 1) _ c1 c2 (hm.b b2)).mono ?_
    rintro e w' ⟨⟨v, rfl, ht⟩, hb⟩
    exact ⟨⟨v, rfl, ht.mono b2.size⟩, below_on b2 hb⟩
  clear hp hs hs2 hf hm
  go_enter Tryd.func5, Tryd.ntmps5
  go_wp2_with fail
  refine CL.out.mono ?_
  rintro e w1 ⟨rfl, hb⟩
  have CC := hid (CO.out w1 hb)
  clear CL hb CO
  go_wp2_with fail
  refine (rfields0_any s fs w1).mono ?_
  rintro e w2 ⟨rfl, hw⟩
  rw [hw]
  clear hw
  go_wp2_with fail
  refine CC.out.mono ?_
  rintro e w3 ⟨⟨v, rfl, ht⟩, hb⟩
  have T := hid (And.intro ht hb)
  clear ht hb CC
  go_wp2_with fail
  go_ret
  exact ⟨⟨_, rfl, T.out.1⟩, T.out.2⟩
end Go.Proofs.YtiggmgagcogakaaDoor
