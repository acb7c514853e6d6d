/-
  abacuslaw24: small, checks, TreeChecks.
-/
import Derived.Test.YthachcidfnjbaaaTrT
namespace Go.Proofs.Ythachcidfnjbaaa
open Go Go.RowKit Go.Deep

namespace Tr
theorem fl_set3 (D : List Nd) (i : Nat) (x : Nd) (v : Int) (hx : D[i]? = some x) : (Re.fl en D).set (i * 6 + 3) (.int .i64 v) = Re.fl en (D.set i { x with n := v }) := by
  have hi := (List.getElem?_eq_some_iff.1 hx).1
  have e0 : D.set i x = D := by
    apply List.ext_getElem?
    intro j
    rw [List.getElem?_set]
    split
    · rename_i h; subst h; exact hx.symm
    · rfl
  have e1 := Re.fl_set en_len D i x hi
  rw [e0] at e1
  have e2 := Re.fl_set en_len D i { x with n := v } hi
  have l := Re.fl_len en_len D
  have lt : ((Re.fl en D).take (i * 6)).length = i * 6 := by rw [List.length_take]; omega
  rw [← e2]
  conv => lhs; rw [← e1]
  rw [List.append_assoc, List.append_assoc, List.set_append_right _ _ (by omega), lt, show i * 6 + 3 - i * 6 = 3 by omega, List.set_append_left _ _ (by rw [en_len]; omega)]
  rfl
theorem rmy_put (l : List Nd) (i : Nat) (x : Nd) (h : i < l.length) : (rmy l (l.length + 9)).set i x = rmy (l.set i x) ((l.set i x).length + 9) := by
  apply List.ext_getElem?
  intro j
  rw [List.getElem?_set]
  have l1 := rmy_len l (l.length + 9) (by omega)
  have l2 := rmy_len (l.set i x) ((l.set i x).length + 9) (by omega)
  have l3 : (l.set i x).length = l.length := List.length_set ..
  by_cases hj : j < l.length + 9
  · rw [rmy_full (l.set i x) (by omega), rmy_full l hj, at9, at9, List.getElem?_set]
    split
    · rename_i e; subst e
      rw [if_pos (by omega)]
      rfl
    · rfl
  · rw [List.getElem?_eq_none (l := rmy (l.set i x) _) (by omega), List.getElem?_eq_none (l := rmy l _) (by omega), if_neg (by omega)]
theorem copy_n (g b n cap : Nat) (A : List Nd) (ty : TypeId) (w : World) (hn : A.length = n) (hg : Bx w g 34 (Re.fl en (List.replicate n zn)).toArray) (hv : LN w (some ⟨b, 0, none⟩) A) :
    ∃ w', (Builtin.copy_ #[22, 22] ty #[.slice (some ⟨g, 0, none⟩) n n, .slice (some ⟨b, 0, none⟩) n cap]).run Try.prog w = .ok (.int .i64 (n : Int)) w' ∧ Bx w' g 34 (Re.fl en A).toArray ∧ Re.Kp (fun b => b = g) w w' := by
  have l1 := Re.fl_len en_len A
  have l2 := Re.fl_len en_len (List.replicate n zn)
  rw [List.length_replicate] at l2
  rw [hn] at l1
  have cc : ∀ j, j < (Re.fl en A).length → (w.cell? ⟨g, 0 + j, none⟩).isSome = true := fun j hj => by
    have := hg.cell (0 + j) _ (show (Re.fl en (List.replicate n zn)).toArray[0 + j]? = some _ by rw [List.getElem?_toArray]; exact List.getElem?_eq_getElem (by omega))
    rw [this]; rfl
  have r := run_copy_k (P := Try.prog) w 22 22 ty 34 6 g 0 n n ⟨b, 0, none⟩ n cap (Re.fl en A) Try.underlying22 (by kernel_rfl) (by rw [l1]; simp) (LN.src hv) cc (fun j _ => hg.free _) (en_ones A)
  have x := Re.bx_setc (Re.fl en A) 0 w (Re.fl en (List.replicate n zn)) hg (by omega)
  rw [List.take_zero, List.nil_append, List.drop_of_length_le (by omega), List.append_nil] at x
  refine ⟨w.setCells g 0 (Re.fl en A), ?_, x, (Re.Kp.refl (fun b => b = g) w).setcs (.inl rfl) 0 (Re.fl en A)⟩
  rw [r]
  simp [goInt]
def sm : List Nd := [⟨3, 0, 9, 0, 0, ⟨#[]⟩⟩, ⟨3, 0, 10, 0, 0, ⟨#[]⟩⟩, ⟨10, 1, 0, 2, 0, ⟨#[]⟩⟩]
end Tr

set_option maxRecDepth 100000 in
set_option maxHeartbeats 2000000 in
theorem lsmall_any (w : World) : Calls Try.prog 5 #[] w fun e w' => ∃ g, e = .returned (.agg #[.slice (some ⟨g, 0, none⟩) 3 3]) ∧ Tr.LN w' (some ⟨g, 0, none⟩) Tr.sm ∧ Below w.heap.size w w' := by
  go_enter Try.func5, Try.ntmps5
  go_wp2_with fail
  refine bodyPost_ret (results_cell_row rfl _ _ w.heap.size 24 _ (0, 0) _ rfl (heap_alloc2_old w _ _) Try.underlying24 rfl (by kernel_rfl)) rfl ?_
  exact ⟨_, rfl, Tr.LN.row (D := Tr.sm) (tr_new2 w _ _) (fun _ _ h => h), alloc_b3 w _ _⟩

set_option maxRecDepth 100000 in
set_option maxHeartbeats 4000000 in
theorem lchecks_any (p : Option Addr) (cap : Nat) (l : List Tr.Nd) (w : World) (h : Tr.LN w p l) (hl : l.length ≤ 9223372036854775807) :
    Calls Try.prog 4 #[.agg #[.slice p l.length cap]] w fun e w' => e = .returned (.bool true) ∧ Below w.heap.size w w' := by
  obtain ⟨N, hN⟩ : ∃ N, l.length = N := ⟨_, rfl⟩
  have H := hid h
  have hb : (N : Int) ≤ 9223372036854775807 := by omega
  have BB := hid (alloc_b w (.cells #[.slice p N cap] 24))
  have TB := hid (Bx.new w 24 #[.slice p N cap])
  by_cases h0 : 1048576 < N
  · have h1 : (1048576 : Int) < (N : Int) := by omega
    have RC := hid (fun W (hW : Below w.heap.size w W) => rcheck_any p cap l W (h.on hW) hl)
    have TC := hid (fun W (hW : Below w.heap.size w W) => tcheck_any p cap l W (h.on hW) hl)
    generalize (Tr.lk l).2.1 = B at *
    generalize (Tr.lk l).2.2 = C at *
    rw [hN] at RC TC ⊢
    clear h hl H hN h0
    go_enter Try.func4, Try.ntmps4
    go_wp2_with (first
      | (go_at_call 6; refine (RC.out _ BB.out).mono ?_; rintro e w2 ⟨rfl, hB⟩; have c2 := bx1 (TB.out.on hB); have B2 := hid (below_on BB.out hB); clear hB RC)
      | (go_at_call 7; refine (TC.out _ B2.out).mono ?_; rintro e w3 ⟨rfl, hB⟩; have B3 := hid (below_on B2.out hB); clear hB TC))
    go_ret
    exact ⟨rfl, B3.out⟩
  · have h1 : ¬ (1048576 : Int) < (N : Int) := by omega
    obtain ⟨M, hM⟩ : ∃ M, N + 9 = M := ⟨_, rfl⟩
    have RM : Hid (∀ W, Below w.heap.size w W → Calls Try.prog 8 #[.slice p N cap] W fun e w' => ∃ g, e = .returned (.slice (some ⟨g, 0, none⟩) N M) ∧ Hid (w.heap.size ≤ g ∧ Bx w' g 34 (Re.fl Tr.en (Tr.rmy l (l.length + 9))).toArray) ∧ Below W.heap.size W w') := fun W hW => by
      have r := lroomy_any p cap l W (h.on hW) (by omega)
      rw [← hM, ← hN]
      refine r.mono ?_
      rintro e w' ⟨rfl, r1, r2⟩
      exact ⟨_, rfl, ⟨hW.size, r1⟩, r2⟩
    have CK : Hid (∀ W g, Below w.heap.size w W → Bx W g 34 (Re.fl Tr.en (Tr.rmy l (l.length + 9))).toArray → Calls Try.prog 9 #[.agg #[.slice p N cap], .slice (some ⟨g, 0, none⟩) N M] W fun e w' => e = .returned (.bool true) ∧ Below W.heap.size W w') := fun W g hW hx => by
      have r := lchecked_any p cap g l W (h.on hW) hx (by omega)
      rw [hM.symm, ← hN]
      exact r
    clear h hl
    rw [hN]
    by_cases hz : N = 0
    · subst hz
      clear H hM h0 hN
      go_enter Try.func4, Try.ntmps4
      go_wp2_with (first
        | (go_at_call 8; refine (RM.out _ BB.out).mono ?_; rintro e w2 ⟨g, rfl, hx, hB⟩; have X2 := hid hx.out.2; have c2 := bx1 (TB.out.on hB); have B2 := hid (below_on BB.out hB); clear hB hx RM)
        | (go_at_call 9; refine (CK.out _ g B2.out X2.out).mono ?_; rintro e w3 ⟨rfl, hB⟩; have B3 := hid (below_on B2.out hB); clear hB CK))
      go_ret
      exact ⟨rfl, B3.out⟩
    · obtain ⟨K, hK⟩ : ∃ K, N = K + 1 := ⟨N - 1, by omega⟩
      obtain ⟨x, hx⟩ : ∃ x, l[K]? = some x := ⟨_, List.getElem?_eq_getElem (by omega)⟩
      obtain ⟨v, hv⟩ : ∃ v, IntKind.i64.wrap (x.n + 1) = v := ⟨_, rfl⟩
      have kb : (K : Int) ≤ 1048576 := by omega
      have w8 : IntKind.i64.wrap ((N : Int) - 1) = (K : Int) := by rw [IntKind.wrap_i64]; omega
      have k0 : ¬ (K : Int) < 0 := by omega
      have k1 : (K : Int) < (N : Int) := by omega
      have MK := Tr.make_n N (by omega)
      have XK : Hid (∀ W g, Bx W g 34 (Re.fl Tr.en (Tr.rmy l (l.length + 9))).toArray → W.cell? ⟨g, K * 6 + 3, none⟩ = some (.int .i64 x.n) ∧ W.frozen? ⟨g, K * 6 + 3, none⟩ = false ∧ Bx (W.setCell ⟨g, K * 6 + 3, none⟩ (.int .i64 v)) g 34 (Re.fl Tr.en (Tr.rmy (l.set K { x with n := v }) (N + 9))).toArray) := fun W g hg => by
        have hk := Tr.rmy_head l K x hx
        refine ⟨Re.bx_cell Tr.en_len hg hk 3 (by omega) _ rfl, hg.free _, ?_⟩
        have s := hg.set (K * 6 + 3) (.int .i64 v)
        rw [List.setIfInBounds_toArray, Tr.fl_set3 _ K x v hk, Tr.rmy_put l K _ (by omega), List.length_set, hN] at s
        exact s
      have CK2 : Hid (∀ W g b, Bx W g 34 (Re.fl Tr.en (Tr.rmy (l.set K { x with n := v }) (N + 9))).toArray → Bx W b 34 (Re.fl Tr.en (l.set K { x with n := v })).toArray → Calls Try.prog 9 #[.agg #[.slice (some ⟨b, 0, none⟩) N N], .slice (some ⟨g, 0, none⟩) N M] W fun e w' => e = .returned (.bool true) ∧ Below W.heap.size W w') := fun W g b hg hb => by
        have lz : (l.set K { x with n := v }).length = N := by rw [List.length_set, hN]
        have r := lchecked_any (some ⟨b, 0, none⟩) N g (l.set K { x with n := v }) W (Tr.LN.row hb (fun _ _ h => h)) (by rw [lz]; exact hg) (by omega)
        rw [lz, hM] at r
        exact r
      have CPY : Hid (∀ W g, Bx W g 34 (Re.fl Tr.en (Tr.rmy (l.set K { x with n := v }) (N + 9))).toArray → ∃ w', (Builtin.copy_ #[22, 22] 3 #[.slice (some ⟨W.heap.size, 0, none⟩) N N, .slice (some ⟨g, 0, none⟩) N M]).run Try.prog (W.alloc (.cells (Re.fl Tr.en (List.replicate N Tr.zn)).toArray 34)) = .ok (.int .i64 (N : Int)) w' ∧ Bx w' W.heap.size 34 (Re.fl Tr.en (l.set K { x with n := v })).toArray ∧ Bx w' g 34 (Re.fl Tr.en (Tr.rmy (l.set K { x with n := v }) (N + 9))).toArray ∧ Below W.heap.size W w') := fun W g hg => by
        have lz : (l.set K { x with n := v }).length = N := by rw [List.length_set, hN]
        have b1 := alloc_b W (.cells (Re.fl Tr.en (List.replicate N Tr.zn)).toArray 34)
        have lg : Tr.LN (W.alloc (.cells (Re.fl Tr.en (List.replicate N Tr.zn)).toArray 34)) (some ⟨g, 0, none⟩) (l.set K { x with n := v }) := Tr.LN.row (hg.on b1) (fun i y hy => by
          have := Tr.rmy_head _ i y hy
          rw [lz] at this
          exact this)
        obtain ⟨w', c1, c2, c3⟩ := Tr.copy_n W.heap.size g N M _ 3 _ lz (Bx.new W 34 _) lg
        refine ⟨w', c1, c2, (hg.on b1).kp c3 (fun e => ?_), ?_⟩
        · have := hg.lt; omega
        · exact b1.trans (c3.below (by rw [World.size_alloc]; omega) (fun b e => by rw [e]; exact Nat.le_refl _))
      clear H h0 hz hK
      go_enter Try.func4, Try.ntmps4
      go_upto_region 8 with (first
        | (go_at_call 8; refine (RM.out _ BB.out).mono ?_; rintro e w2 ⟨g, rfl, hx, hB⟩; have X2 := hid hx.out.2; have hg9 := hid hx.out.1; have c2 := bx1 (TB.out.on hB); have B2 := hid (below_on BB.out hB); clear hB hx RM)
        | (go_at_call 9; refine (CK.out _ g B2.out X2.out).mono ?_; rintro e w3 ⟨rfl, hB⟩; have B3 := hid (below_on B2.out hB); have X3 := hid (X2.out.on hB); clear hB CK))
      obtain ⟨s0, s1, s2⟩ := XK.out _ g X3.out
      have X4 := hid s2
      have B4 := hid (B3.out.setCell (p := ⟨g, K * 6 + 3, none⟩) hg9.out (.int .i64 v))
      clear s2 c2 XK X3 X2 B2 hx hN
      go_upto_region 12 with fail
      clear s0 s1
      generalize w3.setCell ⟨g, K * 6 + 3, none⟩ (.int .i64 v) = w4 at *
      obtain ⟨w5, c1, c3, c4, c5⟩ := CPY.out w4 g X4.out
      have C3 := hid c3
      have C4 := hid c4
      have B5 := hid (below_on B4.out c5)
      clear c3 c4 c5 CPY X4 B4
      go_wp2_with (go_at_call 9; refine (CK2.out _ g _ C4.out C3.out).mono ?_; rintro e w6 ⟨rfl, hB⟩; have B6 := hid (below_on B5.out hB); clear hB CK2)
      go_ret
      exact ⟨rfl, B6.out⟩

theorem checks_law (p : Option Addr) (cap : Nat) (l : List Tr.Nd) (w : World) (h : Tr.LN w p l) (hl : l.length ≤ 9223372036854775807) :
    Calls Try.prog 3 #[.agg #[.slice p l.length cap]] w fun e w' => e = .returned (.bool true) ∧ Below w.heap.size w w' := by
  have SM := hid (fun W => lsmall_any W)
  have CS : Hid (∀ W g, Tr.LN W (some ⟨g, 0, none⟩) Tr.sm → Calls Try.prog 4 #[.agg #[.slice (some ⟨g, 0, none⟩) 3 3]] W fun e w' => e = .returned (.bool true) ∧ Below W.heap.size W w') := fun W g hg => lchecks_any (some ⟨g, 0, none⟩) 3 Tr.sm W hg (by decide)
  have CT := hid (fun W (hW : Below w.heap.size w W) => lchecks_any p cap l W (h.on hW) hl)
  have BB := hid (alloc_b w (.cells #[.slice p l.length cap] 24))
  have TB := hid (Bx.new w 24 #[.slice p l.length cap])
  clear h hl
  generalize l.length = N at *
  go_enter Try.func3, Try.ntmps3
  go_wp2_with (first
    | (go_at_call 5; refine (SM.out _).mono ?_; rintro e w2 ⟨g, rfl, hl2, hB⟩; have L2 := hid hl2; have B2 := hid (below_on BB.out hB); have T2 := hid (TB.out.on hB); clear hB hl2 SM)
    | (go_at_call 4; first
      | (with_reducible refine (CS.out _ g L2.out).mono ?_; rintro e w3 ⟨rfl, hB⟩; have B3 := hid (below_on B2.out hB); have c3 := bx1 (T2.out.on hB); clear hB CS)
      | (with_reducible refine (CT.out _ B3.out).mono ?_; rintro e w4 ⟨rfl, hB⟩; have B4 := hid (below_on B3.out hB); clear hB CT)))
  go_ret
  exact ⟨rfl, B4.out⟩
end Go.Proofs.Ythachcidfnjbaaa
