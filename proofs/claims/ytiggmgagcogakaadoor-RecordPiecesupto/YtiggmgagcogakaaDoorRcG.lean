/-
  record: fields' iterator.
-/
import Derived.Test.YtiggmgagcogakaaDoorRcG0
namespace Go.Proofs.YtiggmgagcogakaaDoor
open Go Go.RowKit Go.Deep Go.Shelf

attribute [local go_sem] Oper.semAt_some

set_option maxRecDepth 100000 in
set_option maxHeartbeats 4000000 in
theorem fields1_feeds (s fs : ByteArray) (ps : List (Nat × Nat)) (hp : Rc.Pl s fs ps) (hs : s.size ≤ 140737488355400) (hs2 : fs ≠ ⟨#[32]⟩ → s.size < 4294967281) (hf : fs.size ≤ 140737488355328) (bt bf l : Nat) (X : Nat → Prop) (J : Nat → World → Prop) (W : World)
    (ct : W.cell? ⟨bt, 0, none⟩ = some (.string s)) (cf : W.cell? ⟨bf, 0, none⟩ = some (.string fs)) (hm : ML W)
    (xt : ¬ X bt) (xf : ¬ X bf) (xm : ¬ X 0) (xn : ∀ j, W.heap.size ≤ j → j < W.heap.size + 6 → ¬ X j)
    (st : ∀ k A A', J k A → Rc.Ka W.heap.size A A' → J k A')
    (hY : ∀ k A, k < Rc.nf ps → W.heap.size + 5 ≤ A.heap.size → J k A → Yd l #[.string (Rc.tk s fs ps k)] A fun e A' => e = .returned (.bool true) ∧ J (k + 1) A' ∧ Rc.KX X A A')
    (h0 : J 0 W) :
    CallsIn Fence.wide 0 Tryd.prog 18 #[.func (.yield l) #[] #[], .pointer (some ⟨bt, 0, none⟩), .pointer (some ⟨bf, 0, none⟩)] W fun e W' => (∃ v, e = .returned v) ∧ J (Rc.nf ps) W' := by
  have A1 := alloc_b W (.cells #[.func (.yield l) #[] #[]] 28)
  have A2 := alloc_b (W.alloc (.cells #[.func (.yield l) #[] #[]] 28)) (.cells #[.int .i64 0] 3)
  have A3 := below_on A1 A2
  have t1 : ((W.alloc (.cells #[.func (.yield l) #[] #[]] 28)).alloc (.cells #[.int .i64 0] 3)).cell? ⟨bt, 0, none⟩ = some (.string s) := by rw [A3.cell (cell_lt ct)]; exact ct
  have t2 : ((W.alloc (.cells #[.func (.yield l) #[] #[]] 28)).alloc (.cells #[.int .i64 0] 3)).cell? ⟨bf, 0, none⟩ = some (.string fs) := by rw [A3.cell (cell_lt cf)]; exact cf
  have PT := hid (rparts_any s fs ((W.alloc (.cells #[.func (.yield l) #[] #[]] 28)).alloc (.cells #[.int .i64 0] 3)))
  refine callsIn_of_wp_marks Tryd.func18 rfl trivial ?_ rfl
  simp only [Tryd.ntmps18, List.size_toArray, List.length_cons, List.length_nil, Nat.reduceAdd, Nat.reduceSub, Array.replicate_succ, Array.replicate_zero, List.push_toArray, List.append_toArray, List.nil_append, List.cons_append]
  gi_wp2_with (refine ⟨trivial, rfl, ?_⟩; gi_at_call 19; refine (callsIn_wide.2 PT.out).mono ?_; rintro e w1 ⟨rfl, hw⟩; rw [hw]; clear hw PT)
  have PF := hid (parts_feeds s fs ps · ((W.alloc (.cells #[.func (.yield l) #[] #[]] 28)).alloc (.cells #[.int .i64 0] 3)) hp (hm.b A3) hs hs2 hf)
  obtain ⟨q1, q2, q3⟩ := Rc.ptW_b s fs ((W.alloc (.cells #[.func (.yield l) #[] #[]] 28)).alloc (.cells #[.int .i64 0] 3))
  have l2 : ((W.alloc (.cells #[.func (.yield l) #[] #[]] 28)).alloc (.cells #[.int .i64 0] 3)).heap.size = W.heap.size + 2 := by simp
  have y0 : Boxed ((W.alloc (.cells #[.func (.yield l) #[] #[]] 28)).alloc (.cells #[.int .i64 0] 3)) W.heap.size 28 (.func (.yield l) #[] #[]) := (Boxed.new W 28 _).alloc _
  have c0 : Boxed ((W.alloc (.cells #[.func (.yield l) #[] #[]] 28)).alloc (.cells #[.int .i64 0] 3)) (W.heap.size + 1) 3 (.int .i64 0) := by
    have := Boxed.new (W.alloc (.cells #[.func (.yield l) #[] #[]] 28)) 3 (.int .i64 0)
    rwa [World.size_alloc] at this
  have y1 := Rc.boxed_of y0 (q1.block W.heap.size (by rw [l2]; omega))
  have c1 := Rc.boxed_of c0 (q1.block (W.heap.size + 1) (by rw [l2]; omega))
  have A4 := below_on A3 q1
  have MB : 0 < W.heap.size := by obtain ⟨m, hm⟩ := hm; exact cell_lt hm
  rw [l2] at q2 q3 PF
  generalize Rc.ptW s fs ((W.alloc (.cells #[.func (.yield l) #[] #[]] 28)).alloc (.cells #[.int .i64 0] 3)) = wI at *
  clear q1 y0 c0 l2 A1 A2 A3 t1 t2
  refine range_own (gf := Rc.ptF fs) (lb := Rc.ptB fs (W.heap.size + 2)) rfl (Rc.pt_enters fs) (fun k => #[.int .i64 (Rc.fr ps k : Int), .int .i64 (Rc.up ps k : Int)]) (fun _ => rfl) ps.length
    (fun k A => J k A ∧ k ≤ 32767 ∧ Kz (fun j => j < wI.heap.size ∧ ¬ X j ∧ j ≠ W.heap.size + 1) wI A ∧ Boxed A (W.heap.size + 1) 3 (.int .i64 (k : Int)) ∧ wI.heap.size + 2 ≤ A.heap.size)
    (fun _ A => J (Rc.nf ps) A) (Kz (fun j => j < wI.heap.size ∧ ¬ X j ∧ j ≠ W.heap.size + 1)) ?hI ?hIx (fun h k => h.trans k) ?hKb ?h0
    (fun k => { tmps := #[.func (.yield l) #[] #[], .pointer (some ⟨bt, 0, none⟩), .pointer (some ⟨bf, 0, none⟩), .pointer (some ⟨W.heap.size, 0, none⟩), .pointer (some ⟨W.heap.size + 1, 0, none⟩), .int .i64 (Rc.fr ps k : Int), .int .i64 (Rc.up ps k : Int), .string s, .string fs, .func (.func (Rc.ptF fs)) #[] (Rc.ptB fs (W.heap.size + 1 + 1)), .int .i64 (Rc.fr ps k : Int), .int .i64 (Rc.up ps k : Int), undef, undef, undef, undef, undef, undef, undef, undef, undef, undef, undef, undef, undef, undef, undef, undef, undef, undef], defers := [] })
    ?assign ?body ?seq ?done ?stop
  case hI =>
    rintro k A o ⟨hj, h7, hz, hc, hz2⟩ hlt
    have e : ∀ j, j ≠ wI.heap.size + 1 → (A.putObj (wI.heap.size + 1) o).heap[j]? = A.heap[j]? := fun j hj => World.putObj_heap_other hj
    exact ⟨st _ _ _ hj (Rc.Ka.put (by omega) (by omega) o), h7, hz.trans ⟨by simp, fun j hj => e j (by omega)⟩, Rc.boxed_of hc (e _ (by omega)), by simpa using hz2⟩
  case hIx =>
    intro k A o hj hlt
    exact st _ _ _ hj (Rc.Ka.put (by omega) (by omega) o)
  case hKb =>
    intro A o hlt
    exact ⟨by simp, fun j hj => World.putObj_heap_other (by omega)⟩
  case h0 =>
    intro r
    have b := below_on (alloc_b wI (.deferred (some []))) (alloc_b (wI.alloc (.deferred (some []))) (.loop r))
    have A5 := below_on A4 b
    exact ⟨st _ _ _ h0 (Rc.Ka.of A5), by omega, Kz.of b (fun j hj => hj.1), Rc.boxed_of c1 (b.block _ (by omega)), by simp⟩
  case assign =>
    intro k A K hK
    gi_wp2
    exact hK
  case body =>
    rintro k A hk ⟨hj, h7, hz, hc, hz2⟩ hlt
    have yb : Boxed A W.heap.size 28 (.func (.yield l) #[] #[]) := Rc.boxed_of y1 (hz.2 _ ⟨by omega, xn _ (by omega) (by omega), by omega⟩)
    have btI : bt < W.heap.size := cell_lt ct
    have bfI : bf < W.heap.size := cell_lt cf
    have tb : A.cell? ⟨bt, 0, none⟩ = some (.string s) := by
      rw [World.cell?_of_block (hz.2 bt ⟨by omega, xt, by omega⟩), A4.cell (p := ⟨bt, 0, none⟩) btI]; exact ct
    have fb : A.cell? ⟨bf, 0, none⟩ = some (.string fs) := by
      rw [World.cell?_of_block (hz.2 bf ⟨by omega, xf, by omega⟩), A4.cell (p := ⟨bf, 0, none⟩) bfI]; exact cf
    have cc := hc.cell
    have cz := hc.frozen
    have so : ∀ j, j ≠ W.heap.size + 1 → (A.setCell ⟨W.heap.size + 1, 0, none⟩ (.int .i64 ((k : Int) + 1))).heap[j]? = A.heap[j]? := fun j hj => Rc.set_other _ hj
    have cs := hc.set (.int .i64 ((k : Int) + 1))
    have ss : (A.setCell ⟨W.heap.size + 1, 0, none⟩ (.int .i64 ((k : Int) + 1))).heap.size = A.heap.size := by simp
    have ys := Rc.boxed_of yb (so _ (by omega))
    have ts : (A.setCell ⟨W.heap.size + 1, 0, none⟩ (.int .i64 ((k : Int) + 1))).cell? ⟨bt, 0, none⟩ = some (.string s) := by rw [World.cell?_of_block (so bt (by omega))]; exact tb
    have fss : (A.setCell ⟨W.heap.size + 1, 0, none⟩ (.int .i64 ((k : Int) + 1))).cell? ⟨bf, 0, none⟩ = some (.string fs) := by rw [World.cell?_of_block (so bf (by omega))]; exact fb
    have js := st _ _ _ hj (show Rc.Ka W.heap.size A (A.setCell ⟨W.heap.size + 1, 0, none⟩ (.int .i64 ((k : Int) + 1))) from ⟨⟨rfl, rfl, rfl⟩, by omega, fun j _ hn => so j (by omega)⟩)
    have cs1 := cs.cell
    have ys1 := ys.cell
    have kb : (k : Int) ≤ 32767 := by omega
    obtain ⟨rm1, rm2⟩ := hp.room hk
    have rm3 : (Rc.fr ps k : Int) ≤ (Rc.up ps k : Int) := by omega
    have rm4 : (Rc.up ps k : Int) ≤ (s.size : Int) := by omega
    have KP : ∀ A3, Rc.KX X (A.setCell ⟨W.heap.size + 1, 0, none⟩ (.int .i64 ((k : Int) + 1))) A3 → ∀ j, j < A.heap.size → ¬ X j → j ≠ W.heap.size + 1 → A3.heap[j]? = A.heap[j]? := fun A3 h j h1 h2 h3 => (h.2 j (by omega) h2).trans (so j h3)
    have FIN : Hid (k + 1 ≤ 32767 → ∀ A3, J (k + 1) A3 → Rc.KX X (A.setCell ⟨W.heap.size + 1, 0, none⟩ (.int .i64 ((k : Int) + 1))) A3 → (A3.heap[wI.heap.size + 1]? = A.heap[wI.heap.size + 1]? ∧ A3.heap[wI.heap.size]? = A.heap[wI.heap.size]?) ∧ (J (k + 1) A3 ∧ k + 1 ≤ 32767 ∧ Kz (fun j => j < wI.heap.size ∧ ¬ X j ∧ j ≠ W.heap.size + 1) wI A3 ∧ Boxed A3 (W.heap.size + 1) 3 (.int .i64 ((k + 1 : Nat) : Int)) ∧ wI.heap.size + 2 ≤ A3.heap.size) ∧ Kz (fun j => j < wI.heap.size ∧ ¬ X j ∧ j ≠ W.heap.size + 1) A A3) := fun hk1 A3 j3 h3 => by
      have z : Kz (fun j => j < wI.heap.size ∧ ¬ X j ∧ j ≠ W.heap.size + 1) A A3 := ⟨by have := h3.1; omega, fun j hj => KP A3 h3 j (by have := hj.1; omega) hj.2.1 hj.2.2⟩
      refine ⟨⟨KP A3 h3 _ (by omega) (xn _ (by omega) (by omega)) (by omega), KP A3 h3 _ (by omega) (xn _ (by omega) (by omega)) (by omega)⟩, ⟨j3, hk1, hz.trans z, Rc.boxed_of cs (h3.2 _ (by omega) (xn _ (by omega) (by omega))), by have := h3.1; omega⟩, z⟩
    have FI2 : Hid (∀ A3, Rc.KX X (A.setCell ⟨W.heap.size + 1, 0, none⟩ (.int .i64 ((k : Int) + 1))) A3 → (A3.heap[wI.heap.size + 1]? = A.heap[wI.heap.size + 1]? ∧ A3.heap[wI.heap.size]? = A.heap[wI.heap.size]?)) := fun A3 h3 => ⟨KP A3 h3 _ (by omega) (xn _ (by omega) (by omega)) (by omega), KP A3 h3 _ (by omega) (xn _ (by omega) (by omega)) (by omega)⟩
    have sz5 : W.heap.size + 5 ≤ (A.setCell ⟨W.heap.size + 1, 0, none⟩ (.int .i64 ((k : Int) + 1))).heap.size := by omega
    have mixed : Tryd.prog.follows Departure.mixedOrders = true := by kernel_rfl
    have HST := hid st
    have HHY := hid hY
    have JS := hid js
    clear KP so cs ss ys js yb tb fb hz hj hY st PF hc A4 y1 c1 ct cf xn xt xf xm hm h0 hz2 hlt
    by_cases k7 : k = 32767
    · have kn : k < Rc.nf ps := by unfold Rc.nf; omega
      have ke : k + 1 = Rc.nf ps := by unfold Rc.nf; omega
      have TK : Rc.tk s fs ps k = Rc.rst (s.extract (Rc.fr ps k) s.size) fs := by unfold Rc.tk; rw [if_pos k7]
      have e : (k : Int) + 1 = 32768 := by omega
      rw [e] at FI2 JS sz5 ts fss ys1 cs1
      have KE := hid ke
      have HTK := hid TK
      have HKN := hid kn
      have rm5 : (Rc.fr ps k : Int) ≤ (s.size : Int) := by omega
      clear FIN k7 TK kn ke rm1 rm2 rm3 rm4
      gi_wp2
      clear cc cz cs1 e
      generalize A.setCell ⟨W.heap.size + 1, 0, none⟩ (.int .i64 32768) = S1 at *
      have RS := hid (rrest_any (s.extract (Rc.fr ps k) s.size) fs S1.drew (by rw [ByteArray.size_extract]; omega))
      have CY : Hid (∀ A2, Below S1.drew.heap.size S1.drew A2 → A2.cell? ⟨W.heap.size, 0, none⟩ = some (.func (.yield l) #[] #[]) ∧ A2.cell? ⟨bt, 0, none⟩ = some (.string s) ∧ A2.cell? ⟨bf, 0, none⟩ = some (.string fs)) := fun A2 b => ⟨by rw [b.cell (p := ⟨W.heap.size, 0, none⟩) (cell_lt ys1)]; exact ys1, by rw [b.cell (p := ⟨bt, 0, none⟩) (cell_lt ts)]; exact ts, by rw [b.cell (p := ⟨bf, 0, none⟩) (cell_lt fss)]; exact fss⟩
      have YY : Hid (∀ A2, Below S1.drew.heap.size S1.drew A2 → YieldAt Fence.wide 0 Tryd.prog l #[.string (Rc.rst (s.extract (Rc.fr ps k) s.size) fs)] A2 fun e A3 => e = .returned (.bool true) ∧ (A3.heap[wI.heap.size + 1]? = A.heap[wI.heap.size + 1]? ∧ A3.heap[wI.heap.size]? = A.heap[wI.heap.size]?) ∧ J (Rc.nf ps) A3) := fun A2 b => by
        have q := HHY.out k A2 HKN.out (Nat.le_trans sz5 b.size) (HST.out _ _ _ JS.out ⟨⟨b.os, b.tape, b.output⟩, b.size, fun j hj _ => b.block j hj⟩) 0
        rw [HTK.out] at q
        refine q.mono ?_
        rintro e A3 ⟨rfl, j3, k3⟩
        refine ⟨rfl, FI2.out A3 ⟨Nat.le_trans b.size k3.1, fun j hj hx => (k3.2 j (Nat.lt_of_lt_of_le hj b.size) hx).trans (b.block j hj)⟩, by rw [← KE.out]; exact j3⟩
      clear HHY HST JS sz5 FI2 HTK HKN KE
      generalize Rc.rst (s.extract (Rc.fr ps k) s.size) fs = rr at *
      generalize Rc.fr ps k = p at *
      gi_region_with_o (first
        | (refine ⟨trivial, rfl, ?_⟩; gi_at_call 20; refine (CallsIn.inRound _ (callsIn_wide.2 RS.out)).mono ?_; rintro e A2 ⟨rfl, hb⟩; obtain ⟨fn, tmps, assign, body, hy, hR⟩ := YY.out A2 hb; obtain ⟨v1, v2, v3⟩ := CY.out A2 hb; have HR := hid hR; clear hb hR)
        | (refine ⟨rfl, HR.out.mono ?_⟩; rintro e A3 ⟨rfl, hJ3, hk3⟩; have HJ3 := hid hJ3; have HK3 := hid hk3; clear hJ3 hk3))
      all_goals
        try simp only [Act.put, List.getElem_toArray, List.getElem_cons_zero, List.getElem_cons_succ, List.setIfInBounds_toArray, List.set_cons_zero, List.set_cons_succ]
        gi_wp2
        exact ⟨HJ3.out, HK3.out⟩
    · have k8 : ((k : Int) + 1 == 32768) = false := by simp; omega
      have k9 : ¬ ((k : Int) + 1 = 32768) := by omega
      have kn : k < Rc.nf ps := by unfold Rc.nf; omega
      have TK : Rc.tk s fs ps k = s.extract (Rc.fr ps k) (Rc.up ps k) := by unfold Rc.tk; rw [if_neg k7]
      gi_wp2
      clear cc cz cs1
      generalize A.setCell ⟨W.heap.size + 1, 0, none⟩ (.int .i64 ((k : Int) + 1)) = S1 at *
      obtain ⟨fn, tmps, assign, body, hy, hR⟩ := HHY.out k S1.drew kn sz5 (HST.out _ _ _ JS.out ⟨⟨rfl, rfl, rfl⟩, Nat.le_refl _, fun _ _ _ => rfl⟩) 0
      rw [TK] at hy
      have HR := hid hR
      clear hR TK HHY HST JS sz5
      generalize Rc.fr ps k = p at *
      generalize Rc.up ps k = q at *
      gi_region_with_o (refine ⟨rfl, HR.out.mono ?_⟩; rintro e A3 ⟨rfl, hJ3, hk3⟩; have HJ3 := hid hJ3; have HK3 := hid hk3; clear hJ3 hk3)
      all_goals
        try simp only [Act.put, List.getElem_toArray, List.getElem_cons_zero, List.getElem_cons_succ, List.setIfInBounds_toArray, List.set_cons_zero, List.set_cons_succ]
        gi_wp2
        exact FIN.out (by omega) _ HJ3.out HK3.out
  case seq =>
    intro r JJ JJx hJJ hYY h00
    have b := below_on (alloc_b wI (.deferred (some []))) (alloc_b (wI.alloc (.deferred (some []))) (.loop r))
    refine PF.out _ ⟨by omega, xn _ (by omega) (by omega), by omega⟩ (fun h => ⟨by omega, xn _ (by omega) (by omega), by omega⟩) ⟨by omega, xm, by omega⟩ (wI.heap.size + 1) JJ JJx _ (Kz.of b (fun j hj => hj.1)) ?_ hYY h00
    intro k A A' h1 h2
    obtain ⟨⟨hj, h7, hz, hc, hz2⟩, hl, hd⟩ := (hJJ k A).1 h1
    exact (hJJ k A').2 ⟨⟨st _ _ _ hj (Rc.Ka.of h2), h7, hz.trans (Kz.of h2 (fun j hj => by have := hj.1; omega)), Rc.boxed_of hc (h2.block _ hc.lt), by have := h2.size; omega⟩, (h2.block _ (by omega)).trans hl, (h2.block _ (by omega)).trans hd⟩
  case done =>
    rintro A ⟨hj, h7, hz, hc, hz2⟩ hd
    have e : Rc.nf ps = ps.length := by unfold Rc.nf; omega
    gi_wp2
    refine ⟨by simp, .inl ⟨_, _, rfl, run_takeDeferred hd, ?_⟩⟩
    exact ⟨_, results_none rfl _ _ _, ⟨_, rfl⟩, by rw [e]; exact st _ _ _ hj (Rc.Ka.put (by omega) (by omega) _)⟩
  case stop =>
    intro k A hk hj hd
    gi_wp2
    refine ⟨by simp, .inl ⟨_, _, rfl, run_takeDeferred hd, ?_⟩⟩
    exact ⟨_, results_none rfl _ _ _, ⟨_, rfl⟩, st _ _ _ hj (Rc.Ka.put (by omega) (by omega) _)⟩
end Go.Proofs.YtiggmgagcogakaaDoor
