/-
  record: a range over an iterator of our own (each round known ahead by its number).
-/
import Derived.Test.YtiggmgagcogakaaDoorRcC
namespace Go.Proofs.YtiggmgagcogakaaDoor
open Go Go.RowKit Go.Deep Go.Shelf

attribute [local go_sem] Oper.semAt_some

/-- What a round's body must leave: round k is over, or the function is left. -/
def Rc.Post (I : Nat → World → Prop) (Ix : Nat → World → Prop) (Kp : World → World → Prop) (D k : Nat) (W : World) : Exit → Act → World → Prop
  | .normal, _, W' => (W'.heap[D + 1]? = W.heap[D + 1]? ∧ W'.heap[D]? = W.heap[D]?) ∧ I (k + 1) W' ∧ Kp W W'
  | .ret, _, W' => (W'.heap[D + 1]? = W.heap[D + 1]? ∧ W'.heap[D]? = W.heap[D]?) ∧ Ix (k + 1) W'
  | _, _, _ => False

theorem range_own {g : Operand} {ps : Array Tmp} {assign body : Code} {Q : Exit → Act → World → Prop} {a : Act} {w : World} {gf : Nat} {lb : Array Value}
    (hg : a.eval g = .func (.func gf) #[] lb) (eg : ∀ args w, (callFunc gf args).run Tryd.prog w = .ok (.enter gf args) w)
    (encs : Nat → Array Value) (hps : ∀ k, (encs k).size = ps.size) (N : Nat) (I Ix : Nat → World → Prop) (Kp : World → World → Prop)
    (hI : ∀ k W o, I k W → w.heap.size + 1 < W.heap.size → I k (W.putObj (w.heap.size + 1) o)) (hIx : ∀ k W o, Ix k W → w.heap.size + 1 < W.heap.size → Ix k (W.putObj (w.heap.size + 1) o))
    (hKt : ∀ {A B C : World}, Kp A B → Kp B C → Kp A C) (hKb : ∀ W o, w.heap.size + 1 < W.heap.size → Kp W (W.putObj (w.heap.size + 1) o))
    (h0 : ∀ r, I 0 ((w.alloc (.deferred (some []))).alloc (.loop r))) (a1 : Nat → Act)
    (hassign : ∀ k W K, K (a1 k) W → assign.wpIn (Fence.wide.inRound (w.heap.size + 1)) 0 Tryd.prog (Exit.then K (fun _ _ _ => False)) { tmps := (ps.zip (encs k)).foldl (fun t (p, v) => t.setIfInBounds p v) a.tmps, defers := [] } W)
    (hbody : ∀ k W, k < N → I k W → w.heap.size + 1 < W.heap.size → body.wpIn (Fence.wide.inRound (w.heap.size + 1)) 0 Tryd.prog (Rc.Post I Ix Kp w.heap.size k W) (a1 k) W)
    (hseq : ∀ (r : Loop) (J Jx : Nat → World → Prop), (∀ k W, J k W ↔ I k W ∧ W.heap[w.heap.size + 1]? = some (.loop r) ∧ W.heap[w.heap.size]? = some (.deferred (some []))) →
      (∀ k W1, k < N → J k W1 → Yd (w.heap.size + 1) (encs k) W1 fun e W' => (e = .returned (.bool true) ∧ J (k + 1) W' ∧ Kp W1 W') ∨ (e = .returned (.bool false) ∧ Jx (k + 1) W')) →
      J 0 ((w.alloc (.deferred (some []))).alloc (.loop r)) →
      CallsIn Fence.wide 0 Tryd.prog gf (#[.func (.yield (w.heap.size + 1)) #[] #[]] ++ lb) ((w.alloc (.deferred (some []))).alloc (.loop r)) fun e W' => (∃ v, e = .returned v) ∧ (J N W' ∨ ∃ k, k ≤ N ∧ Jx k W'))
    (hdone : ∀ W, I N W → W.heap[w.heap.size]? = some (.deferred (some [])) → Q .normal { a with defers := { target := .collected w.heap.size, args := #[] } :: a.defers } W)
    (hstop : ∀ k W, k ≤ N → Ix k W → W.heap[w.heap.size]? = some (.deferred (some [])) → Code.ret.wpIn Fence.wide 0 Tryd.prog Q { a with defers := { target := .collected w.heap.size, args := #[] } :: a.defers } W) :
    (Code.rangeFunc g ps assign body).wpIn Fence.wide 0 Tryd.prog Q a w := by
  refine wpIn_rangeFunc fun fn hfn => ?_
  let lp : LoopState → Option Code → Loop := fun st pe => { state := st, pending := pe, fn, tmps := a.tmps, params := ps, assign, body, defers := w.heap.size }
  have e1 : ((w.alloc (.deferred (some []))).alloc (.loop (lp .ready none))).heap[w.heap.size + 1]? = some (.loop (lp .ready none)) := by
    have := World.alloc_heap_new (w.alloc (.deferred (some []))) (.loop (lp .ready none))
    rwa [World.size_alloc] at this
  have e2 : ((w.alloc (.deferred (some []))).alloc (.loop (lp .ready none))).heap[w.heap.size]? = some (.deferred (some [])) :=
    (Below.heap_alloc _ _ _ (by simp)).trans (World.alloc_heap_new w _)
  refine ⟨w.heap.size + 1, [{ target := .collected w.heap.size, args := #[] }], _, { target := .fn (.func gf) lb, args := #[.func (.yield (w.heap.size + 1)) #[] #[]] }, (w.alloc (.deferred (some []))).alloc (.loop (lp .ready none)), gf,
    #[.func (.yield (w.heap.size + 1)) #[] #[]] ++ lb, (w.alloc (.deferred (some []))).alloc (.loop (lp .ready none)), run_enterLoop_outer _ _ _ _ _, ?_, fun f _ => trivial, ?_, fun h => (by cases h), ?_⟩
  · simp only [resolve, hg]
    simp [go_sem, lp]
  · simp [invoke, go_sem, eg]
  · refine (hseq (lp .ready none) (fun k W => I k W ∧ W.heap[w.heap.size + 1]? = some (.loop (lp .ready none)) ∧ W.heap[w.heap.size]? = some (.deferred (some [])))
      (fun k W => Ix k W ∧ W.heap[w.heap.size + 1]? = some (.loop (lp .done (some .ret))) ∧ W.heap[w.heap.size]? = some (.deferred (some []))) (fun k W => Iff.rfl) ?_ ⟨h0 _, e1, e2⟩).mono ?_
    · rintro k W hk ⟨hi, hl, hd⟩
      have lt : w.heap.size + 1 < W.heap.size := (Array.getElem?_eq_some_iff.1 hl).1
      refine yd_of (m := 0) ⟨fn, _, assign, body, run_yield hl (hps k), roundIn_of_wpIn hfn (hassign k W _ ⟨_, run_beginRound hl rfl, ?_⟩)⟩
      have lt2 : w.heap.size + 1 < (W.putObj (w.heap.size + 1) (.loop (lp .busy none))).heap.size := by simpa using lt
      refine wpIn_mono (hbody k _ hk (hI _ _ _ hi lt) lt2) ?_
      have b1 : (W.putObj (w.heap.size + 1) (.loop (lp .busy none))).heap[w.heap.size + 1]? = some (.loop (lp .busy none)) := World.putObj_heap_same lt
      have b2 : (W.putObj (w.heap.size + 1) (.loop (lp .busy none))).heap[w.heap.size]? = some (.deferred (some [])) := (World.putObj_heap_other (by omega)).trans hd
      rintro e a3 W3 hp
      cases e with
      | normal =>
        obtain ⟨⟨k1, k2⟩, i3, p3⟩ := hp
        have l3 := k1.trans b1
        have lt3 := (Array.getElem?_eq_some_iff.1 l3).1
        exact ⟨_, _, run_endRound none l3, .inl ⟨rfl, ⟨hI _ _ _ i3 lt3, World.putObj_heap_same lt3, (World.putObj_heap_other (by omega)).trans (k2.trans b2)⟩, hKt (hKt (hKb _ _ lt) p3) (hKb _ _ lt3)⟩⟩
      | ret =>
        obtain ⟨⟨k1, k2⟩, i3⟩ := hp
        have l3 := k1.trans b1
        have lt3 := (Array.getElem?_eq_some_iff.1 l3).1
        exact ⟨_, _, run_endRound (some .ret) l3, .inr ⟨rfl, hIx _ _ _ i3 lt3, World.putObj_heap_same lt3, (World.putObj_heap_other (by omega)).trans (k2.trans b2)⟩⟩
      | exit id => exact hp.elim
      | goto t => exact hp.elim
      | panic ch => exact hp.elim
      | outgrown => exact hp.elim
    · rintro e W2 ⟨⟨v, rfl⟩, (⟨hi, hl, hd⟩ | ⟨k, hk, hi, hl, hd⟩)⟩
      · have lt := (Array.getElem?_eq_some_iff.1 hl).1
        exact ⟨none, _, run_endLoop hl (by simp [lp]), hdone _ (hI _ _ _ hi lt) ((World.putObj_heap_other (by omega)).trans hd)⟩
      · have lt := (Array.getElem?_eq_some_iff.1 hl).1
        exact ⟨some .ret, _, run_endLoop hl (by simp [lp]), hstop k _ hk (hIx _ _ _ hi lt) ((World.putObj_heap_other (by omega)).trans hd)⟩
end Go.Proofs.YtiggmgagcogakaaDoor
