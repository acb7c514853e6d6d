/-
  Texts put together: QOrder, QRef1, QRef2, QRef2H, QGrow, QRef3, QRef4.
-/
import Derived.Test.YtmihjiiagpkciaaDoorQTop
import Derived.Test.YtmihjiiagpkciaaDoorSmall
import Derived.Test.YtmihjiiagpkciaaDoorQDiv
import Derived.Test.YtmihjiiagpkciaaDoorBare
import Derived.Test.YtmihjiiagpkciaaDoorRA
import Derived.Laws.AppendOwn
import Derived.Laws.OwnMore
import Derived.Test.YtmihjiiagpkciaaDoorQDivMod
namespace Go.Proofs.YtmihjiiagpkciaaDoor
open Go.RowKit Go.Deep

theorem qcmp_at3 {zs ys : List Int} (hz : Nm.Limbs zs) (hy : Nm.Limbs ys) (hl : (Nm.trim zs).length = (Nm.trim ys).length) (t : Nat) (ht : t < (Nm.trim zs).length) (he : ∀ i, t + 1 ≤ i → (Nm.trim zs).getD i 0 = (Nm.trim ys).getD i 0) {x y : Int}
    (hx : x = (Nm.trim zs).getD t 0) (hy' : y = (Nm.trim ys).getD t 0) : (x < y → cmpI (Nm.val zs) (Nm.val ys) = -1) ∧ (y < x → cmpI (Nm.val zs) (Nm.val ys) = 1) := by
  refine ⟨fun h => ?_, fun h => ?_⟩
  · rw [← cmp_at hz hy hl t ht he hx hy' (by omega)]
    simp [sgn]; omega
  · rw [← cmp_at hz hy hl t ht he hx hy' (by omega)]
    simp [sgn, h]

set_option maxHeartbeats 2000000 in
theorem order_any (p q : Option Addr) (n cap m cap' : Nat) (zs ys : List Int) (w : World) (ha : Arg w p n cap zs) (hb : Arg w q m cap' ys) :
    Calls Tryd.prog 45 #[.slice p n cap, .slice q m cap'] w fun e w' => e = .returned (.int .i64 (cmpI (Nm.val zs) (Nm.val ys))) ∧ Below w.heap.size w w' := by
  obtain ⟨a1, a2, a3, a4, a5⟩ := ha
  obtain ⟨b1, b2, b3, b4, b5⟩ := hb
  have tl := Nm.tsize_le zs
  have tl' := Nm.tsize_le ys
  have S1 := hid (top_any p n cap zs w a1 (by omega) a4)
  have S2 := hid (top_any q m cap' ys w b1 (by omega) b4)
  by_cases h1 : Nm.tsize zs < Nm.tsize ys
  · have E := hid (cmpI_lt (val_lt_of_tsize a5 b5 h1))
    have h1' : (Nm.tsize zs : Int) < (Nm.tsize ys : Int) := by omega
    clear h1
    go_enter Tryd.func45, Tryd.ntmps45
    go_wp2_with fail
    refine S1.out.mono ?_
    rintro e w' ⟨rfl, rfl⟩
    go_wp2_with fail
    refine S2.out.mono ?_
    rintro e w' ⟨rfl, rfl⟩
    go_wp2
    go_ret
    exact ⟨ret_i64 E.out.symm, Below.refl _ _⟩
  by_cases h2 : Nm.tsize ys < Nm.tsize zs
  · have E := hid (cmpI_gt (val_lt_of_tsize b5 a5 h2))
    have h1' : ¬ (Nm.tsize zs : Int) < (Nm.tsize ys : Int) := by omega
    have h2' : (Nm.tsize ys : Int) < (Nm.tsize zs : Int) := by omega
    clear h1 h2
    go_enter Tryd.func45, Tryd.ntmps45
    go_wp2_with fail
    refine S1.out.mono ?_
    rintro e w' ⟨rfl, rfl⟩
    go_wp2_with fail
    refine S2.out.mono ?_
    rintro e w' ⟨rfl, rfl⟩
    go_wp2
    go_ret
    exact ⟨ret_i64 E.out.symm, Below.refl _ _⟩
  obtain ⟨N, HN⟩ : ∃ N, Hid (Nm.tsize zs = N) := ⟨_, rfl⟩
  have HN' : Hid (Nm.tsize ys = N) := by have := HN.out; exact (show Nm.tsize ys = N by omega)
  have T1 := S1.out
  have T2 := S2.out
  rw [HN.out] at T1
  rw [HN'.out] at T2
  have HT1 := hid T1
  have HT2 := hid T2
  have hN : N ≤ 17592186044000 := by have := HN.out; omega
  have L1 := hid (Nm.trim_length zs)
  have L2 := hid (Nm.trim_length ys)
  clear h1 h2 tl tl' T1 T2 S1 S2
  have FIN : Hid (Nm.trim zs = Nm.trim ys → cmpI (Nm.val zs) (Nm.val ys) = 0) := fun h => cmpI_eq (by rw [← Nm.val_trim zs, ← Nm.val_trim ys, h])
  by_cases h0 : N = 0
  · subst h0
    go_enter Tryd.func45, Tryd.ntmps45
    go_wp2_with fail
    refine HT1.out.mono ?_
    rintro e w' ⟨rfl, rfl⟩
    go_wp2_with fail
    refine HT2.out.mono ?_
    rintro e w' ⟨rfl, rfl⟩
    go_wp2_with fail
    refine wp_loop_rounds 1 ?_
    rw [rounds_succ]
    go_wp2
    go_ret
    exact ⟨ret_i64 (FIN.out (by rw [List.eq_nil_of_length_eq_zero (L1.out.trans HN.out), List.eq_nil_of_length_eq_zero (L2.out.trans HN'.out)])).symm, Below.refl _ _⟩
  · obtain ⟨b, off, rfl, hbw, HC⟩ := a4.trim.at (by have := L1.out; have := HN.out; omega)
    obtain ⟨b', off', rfl, hbw', HC'⟩ := b4.trim.at (by have := L2.out; have := HN'.out; omega)
    have hNn : N ≤ n := by have := HN.out; have := Nm.tsize_le zs; omega
    have hNm : N ≤ m := by have := HN'.out; have := Nm.tsize_le ys; omega
    go_enter Tryd.func45, Tryd.ntmps45
    go_wp2_with fail
    refine HT1.out.mono ?_
    rintro e w' ⟨rfl, rfl⟩
    go_wp2_with fail
    refine HT2.out.mono ?_
    rintro e w' ⟨rfl, rfl⟩
    go_wp2_with fail
    go_loopw [7] (fun i wr => ∃ j : Nat, j ≤ N ∧ i = .int .i64 ((j : Int) - 1) ∧ Hid (∀ t, j ≤ t → (Nm.trim zs).getD t 0 = (Nm.trim ys).getD t 0) ∧ Below w'.heap.size w' wr) (fun i _ => (intOf i + 1).toNat)
    case atStart => exact ⟨N, Nat.le_refl _, rfl, fun t ht => by rw [List.getD, List.getElem?_eq_none (by have := L1.out; have := HN.out; omega), List.getD, List.getElem?_eq_none (by have := L2.out; have := HN'.out; omega)], Below.refl _ _⟩
    case round =>
      obtain ⟨j, hj, rfl, hE, hB⟩ := hrel
      by_cases hj0 : j = 0
      · subst hj0
        have HB := hid hB
        clear hB
        go_wp2
        go_ret
        refine ⟨ret_i64 (FIN.out ?_).symm, HB.out⟩
        have e := Nm.drop_eq_of_getD (by rw [L1.out, L2.out, HN.out, HN'.out]) 0 hE.out
        simpa using e
      · obtain ⟨t, rfl⟩ : ∃ t, j = t + 1 := ⟨j - 1, by omega⟩
        obtain ⟨x, hx, X⟩ : ∃ x, wr.cell? ⟨b, off + t, none⟩ = some (.int .u64 x) ∧ Hid (x = (Nm.trim zs).getD t 0) := ⟨_, (hB.cell (p := ⟨b, off + t, none⟩) hbw).trans (HC.out t (by have := L1.out; have := HN.out; omega)), rfl⟩
        obtain ⟨y, hy, Y⟩ : ∃ y, wr.cell? ⟨b', off' + t, none⟩ = some (.int .u64 y) ∧ Hid (y = (Nm.trim ys).getD t 0) := ⟨_, (hB.cell (p := ⟨b', off' + t, none⟩) hbw').trans (HC'.out t (by have := L2.out; have := HN'.out; omega)), rfl⟩
        have HB := hid hB
        have CM := hid (qcmp_at3 a5 b5 (by rw [L1.out, L2.out, HN.out, HN'.out]) t (by rw [L1.out, HN.out]; omega) hE.out X.out Y.out)
        clear hB
        have htn : (t : Int) < (n : Int) := by omega
        have htm : (t : Int) < (m : Int) := by omega
        by_cases hxy : x < y
        · go_wp2_with fail
          go_quiet (fail)
          go_wp2
          go_ret
          exact ⟨ret_i64 (CM.out.1 hxy).symm, below_drewN HB.out _⟩
        · go_wp2_with fail
          go_quiet (fail)
          have hx2 : (wr.drewN nq).cell? ⟨b, off + t, none⟩ = some (.int .u64 x) := hx
          have hy2 : (wr.drewN nq).cell? ⟨b', off' + t, none⟩ = some (.int .u64 y) := hy
          have HB2 := hid (below_drewN HB.out nq)
          clear hx hy HB
          generalize wr.drewN nq = wq at *
          by_cases hyx : y < x
          · go_wp2_with fail
            go_quiet (fail)
            go_wp2
            go_ret
            exact ⟨ret_i64 (CM.out.2 hyx).symm, below_drewN HB2.out _⟩
          · have EQ : Hid (x = y) := by show _ = _; omega
            go_wp2_with fail
            go_quiet (fail)
            go_wp2
            go_roundw
            case rel =>
              refine ⟨t, by omega, by go_num, fun i hi => ?_, below_drewN HB2.out _⟩
              by_cases e : i = t
              · subst e; rw [← X.out, ← Y.out]; exact EQ.out
              · exact hE.out i (by omega)
            case measure => simp [intOf]

theorem order_is (c : Int) (p q : Option Addr) (n cap m cap' : Nat) (zs ys : List Int) (w : World) (ha : Arg w p n cap zs) (hb : Arg w q m cap' ys) (hc : cmpI (Nm.val zs) (Nm.val ys) = c) :
    Calls Tryd.prog 45 #[.slice p n cap, .slice q m cap'] w fun e w' => e = .returned (.int .i64 c) ∧ Below w.heap.size w w' := by
  rw [← hc]
  exact order_any p q n cap m cap' zs ys w ha hb
end Go.Proofs.YtmihjiiagpkciaaDoor

namespace Go.Proofs.YtmihjiiagpkciaaDoor
open Go.RowKit Go.Deep

theorem eq_of_getD {a b : List Int} (hl : a.length = b.length) (h : ∀ i, i < a.length → a.getD i 0 = b.getD i 0) : a = b := by
  have e := Nm.drop_eq_of_getD hl 0 (fun j _ => by
    by_cases hj : j < a.length
    · exact h j hj
    · rw [List.getD, List.getElem?_eq_none (by omega), List.getD, List.getElem?_eq_none (by omega)])
  simpa using e

set_option maxRecDepth 100000 in
set_option maxHeartbeats 1000000 in
/-- Short: the trimmed list, in a block of its own. -/
theorem short_any (p : Option Addr) (n cap : Nat) (zs : List Int) (N : Nat) (w : World) (hn : zs.length = n) (hm : n ≤ 17592186044000) (h : Lies w p zs) (hN : Nm.tsize zs = N) :
    Calls Tryd.prog 7 #[.slice p n cap] w fun e w' => e = .returned (.slice (some ⟨w.heap.size, 0, none⟩) N N) ∧ Own w' w.heap.size (Nm.trim zs) ∧ Below w.heap.size w w' := by
  have T := top_any p n cap zs w hn (by omega) h
  rw [hN] at T
  have HT := hid T
  have tl := Nm.tsize_le zs
  have hNn : N ≤ n := by omega
  have hmk := make64 N (by omega) w
  have ho : Own (w.alloc (.cells (madeCells #[.int .u64 0] N) 26)) w.heap.size (List.replicate N 0) := by
    rw [made_zero]; exact Own.alloc w _
  have hb0 : Below w.heap.size w (w.alloc (.cells (madeCells #[.int .u64 0] N) 26)) := (Below.refl _ _).alloc (Nat.le_refl _) _
  obtain ⟨W0, hW0⟩ : ∃ W0, w.alloc (.cells (madeCells #[.int .u64 0] N) 26) = W0 := ⟨_, rfl⟩
  rw [hW0] at hmk ho hb0
  have LT := hid ((Nm.trim_length zs).trans hN)
  have TG : Hid (∀ i, i < N → (Nm.trim zs).getD i 0 = zs.getD i 0) := fun i hi => by rw [Nm.trim, Nm.getD_take, if_pos (by omega)]
  have HO := hid ho
  have HB0 := hid hb0
  have HN := hid hn
  have HL := hid h
  clear hW0 ho hb0 T tl hN hn h
  by_cases h0 : N = 0
  · subst h0
    have E : Hid (Own W0 w.heap.size (Nm.trim zs)) := by
      rw [List.eq_nil_of_length_eq_zero LT.out]
      exact HO.out
    have hmk1 : (Instr.makeSlice 24 (.int .i64 0) (.int .i64 0)).run Tryd.prog w = .ok (.slice (some ⟨w.heap.size, 0, none⟩) 0 0) W0 := hmk
    clear hmk
    go_enter Tryd.func7, Tryd.ntmps7
    go_wp2_with fail
    refine HT.out.mono ?_
    rintro e w' ⟨rfl, rfl⟩
    go_wp2_with fail
    refine wp_loop_rounds 1 ?_
    rw [rounds_succ]
    go_wp2_with fail
    go_ret
    exact ⟨rfl, E.out, HB0.out⟩
  · obtain ⟨b, off, rfl, hbw, HC⟩ := HL.out.at (by have := HN.out; omega)
    go_enter Tryd.func7, Tryd.ntmps7
    go_wp2_with fail
    refine HT.out.mono ?_
    rintro e w' ⟨rfl, rfl⟩
    go_wp2_with fail
    go_loopw [5] (fun i wr => ∃ (j : Nat) (os : List Int), j ≤ N ∧ i = .int .i64 j ∧ Hid (Own wr w'.heap.size os ∧ os.length = N ∧ (∀ t, t < j → os.getD t 0 = zs.getD t 0) ∧ Below w'.heap.size w' wr)) (fun i _ => N - (intOf i).toNat)
    case atStart => exact ⟨0, _, Nat.zero_le _, rfl, HO.out, by simp, fun t ht => by omega, HB0.out⟩
    case round =>
      clear hmk HO HB0
      obtain ⟨j, os, hj, rfl, I⟩ := hrel
      by_cases hlt : j < N
      · obtain ⟨i1, i2, i3, i4⟩ := I.out
        obtain ⟨x, hx, X⟩ : ∃ x, wr.cell? ⟨b, off + j, none⟩ = some (.int .u64 x) ∧ Hid (x = zs.getD j 0) := ⟨_, (i4.cell (p := ⟨b, off + j, none⟩) hbw).trans (HC.out j (by have := HN.out; omega)), rfl⟩
        obtain ⟨y, hy⟩ : ∃ y, wr.cell? ⟨w'.heap.size, j, none⟩ = some (.int .u64 y) := ⟨_, i1.cell j (by omega)⟩
        have hfr := i1.free j
        have J : Hid (Own (wr.setCell ⟨w'.heap.size, j, none⟩ (.int .u64 x)) w'.heap.size (os.set j x) ∧ (os.set j x).length = N ∧ (∀ t, t < j + 1 → (os.set j x).getD t 0 = zs.getD t 0) ∧ Below w'.heap.size w' (wr.setCell ⟨w'.heap.size, j, none⟩ (.int .u64 x))) := by
          refine ⟨i1.set j x, by simpa using i2, fun t ht => ?_, i4.setCell (p := ⟨w'.heap.size, j, none⟩) (Nat.le_refl _) _⟩
          rw [Nm.getD_set _ _ _ _ (by omega)]
          by_cases e : t = j
          · rw [if_pos e, e, X.out]
          · rw [if_neg e]; exact i3 t (by omega)
        have hjn : (j : Int) < (n : Int) := by omega
        have hjN : (j : Int) < (N : Int) := by omega
        clear i1 i2 i3 i4 I
        go_wp2
        go_roundw
        case rel => exact ⟨j + 1, _, by omega, by go_num, J.out⟩
        case measure => simp [intOf]; omega
      · have hjN : j = N := by omega
        subst hjN
        have E : Hid (Own wr w'.heap.size (Nm.trim zs) ∧ Below w'.heap.size w' wr) := by
          obtain ⟨i1, i2, i3, i4⟩ := I.out
          have e : os = Nm.trim zs := eq_of_getD (by rw [i2, LT.out]) (fun i hi => by rw [i3 i (by omega), TG.out i (by omega)])
          rw [← e]
          exact ⟨i1, i4⟩
        clear I
        go_wp2
        go_ret
        exact ⟨rfl, E.out.1, E.out.2⟩

/-- One limb of a double. -/
theorem twice_limb (x sp : Int) (x0 : 0 ≤ x) (x1 : x < 18446744073709551616) (s0 : 0 ≤ sp) (s1 : sp ≤ 1) :
    ∃ A s sp', IntKind.u64.wrap (x * 2) = A ∧ bits .or .u64 A sp = s ∧ x / 9223372036854775808 = sp' ∧ (0 ≤ s ∧ s < 18446744073709551616) ∧ (0 ≤ sp' ∧ sp' ≤ 1) ∧ Hid (s + 18446744073709551616 * sp' = x * 2 + sp) := by
  obtain ⟨A, s, sp', u1, u2, u3, u4, u5, u6⟩ := Sh.up x sp 1 (by omega) x0 x1 s0 (by rw [show (2 : Int) ^ 1 = 2 by decide]; omega)
  have e1 : (2 : Int) ^ 1 = 2 := by decide
  have e2 : (2 : Int) ^ (64 - 1) = 9223372036854775808 := by decide
  rw [e1] at u1 u5 u6
  rw [e2] at u3
  exact ⟨A, s, sp', u1, u2, u3, u4, by omega, u6⟩

set_option maxRecDepth 100000 in
set_option maxHeartbeats 1000000 in
/-- doubled: twice the number and a bit, one limb longer, in a block of its own. -/
theorem doubled_any (p : Option Addr) (n cap : Nat) (zs : List Int) (bit : Int) (w : World) (hn : zs.length = n) (hm : n ≤ 17592186044000) (h : Lies w p zs) (hz : Nm.Limbs zs) (b0 : 0 ≤ bit) (b1 : bit ≤ 1) :
    Calls Tryd.prog 46 #[.slice p n cap, .int .u64 bit] w fun e w' => ∃ os, e = .returned (.slice (some ⟨w.heap.size, 0, none⟩) (n + 1) (n + 1)) ∧ Hid (Own w' w.heap.size os ∧ os.length = n + 1 ∧ Nm.Limbs os ∧ Nm.val os = 2 * Nm.val zs + bit ∧ Below w.heap.size w w') := by
  have hmk := make64 (n + 1) (by omega) w
  have em : ((n + 1 : Nat) : Int) = (n : Int) + 1 := by omega
  rw [em] at hmk
  clear em
  have ho : Own (w.alloc (.cells (madeCells #[.int .u64 0] (n + 1)) 26)) w.heap.size (List.replicate (n + 1) 0) := by
    rw [made_zero]; exact Own.alloc w _
  have hb0 : Below w.heap.size w (w.alloc (.cells (madeCells #[.int .u64 0] (n + 1)) 26)) := (Below.refl _ _).alloc (Nat.le_refl _) _
  obtain ⟨W0, hW0⟩ : ∃ W0, w.alloc (.cells (madeCells #[.int .u64 0] (n + 1)) 26) = W0 := ⟨_, rfl⟩
  rw [hW0] at hmk ho hb0
  have I0 : MaInv w.heap.size (n + 1) W0 (2 * Nm.val (zs.take 0) + bit) 0 bit (List.replicate (n + 1) 0) W0 :=
    ⟨⟨ho, by simp, Nm.Limbs.replicate _, by simp [Nm.val_replicate, Nm.val, Nm.pw], Below.refl _ _, rfl⟩, by omega, fun i _ => getD_replicate _ _⟩
  have HB0 := hid hb0
  have HN := hid hn
  have HL := hid h
  have HZ := hid hz
  have HI0 := hid I0
  clear hW0 ho hb0 hn h hz I0
  by_cases h0 : n = 0
  · subst h0
    have E : Hid (Own (W0.setCell ⟨w.heap.size, 0, none⟩ (.int .u64 bit)) w.heap.size ((List.replicate 1 0).set 0 bit) ∧ ((List.replicate 1 (0 : Int)).set 0 bit).length = 0 + 1 ∧ Nm.Limbs ((List.replicate 1 0).set 0 bit) ∧ Nm.val ((List.replicate 1 0).set 0 bit) = 2 * Nm.val zs + bit ∧ Below w.heap.size w (W0.setCell ⟨w.heap.size, 0, none⟩ (.int .u64 bit))) := by
      refine ⟨HI0.out.1.1.set 0 bit, by simp, HI0.out.1.2.2.1.set 0 b0 (by omega), ?_, HB0.out.setCell (p := ⟨w.heap.size, 0, none⟩) (Nat.le_refl _) _⟩
      rw [List.eq_nil_of_length_eq_zero HN.out]
      simp [Nm.val]
    obtain ⟨y, hy⟩ : ∃ y, W0.cell? ⟨w.heap.size, 0, none⟩ = some (.int .u64 y) := ⟨_, HI0.out.1.1.cell 0 (by simp)⟩
    have hfr := HI0.out.1.1.free 0
    have hmk1 : (Instr.makeSlice 24 (.int .i64 1) (.int .i64 1)).run Tryd.prog w = .ok (.slice (some ⟨w.heap.size, 0, none⟩) 1 1) W0 := hmk
    clear HI0 hmk
    go_enter Tryd.func46, Tryd.ntmps46
    go_wp2_with fail
    refine wp_loop_rounds 1 ?_
    rw [rounds_succ]
    go_wp2_with fail
    go_ret
    exact ⟨_, rfl, E⟩
  · obtain ⟨b, off, rfl, hbw, HC⟩ := HL.out.at (by have := HN.out; omega)
    go_enter Tryd.func46, Tryd.ntmps46
    go_wp2_with fail
    go_loopw [6, 7] (fun c i wr => ∃ (j : Nat) (cc : Int) (os : List Int), j ≤ n ∧ i = .int .i64 j ∧ c = .int .u64 cc ∧ (0 ≤ cc ∧ cc ≤ 1) ∧ Hid (MaInv w.heap.size (n + 1) W0 (2 * Nm.val (zs.take j) + bit) j cc os wr)) (fun _ i _ => n - (intOf i).toNat)
    case atStart => exact ⟨0, bit, _, Nat.zero_le _, rfl, rfl, ⟨b0, b1⟩, HI0.out⟩
    case round =>
      clear HI0 hmk
      obtain ⟨j, cc, os, hj, rfl, rfl, ⟨c0, c1⟩, I⟩ := hrel
      by_cases hlt : j < n
      · obtain ⟨x, hx, X⟩ : ∃ x, wr.cell? ⟨b, off + j, none⟩ = some (.int .u64 x) ∧ Hid (x = zs.getD j 0) := ⟨_, ((HB0.out.trans I.out.1.2.2.2.2.1).cell (p := ⟨b, off + j, none⟩) hbw).trans (HC.out j (by have := HN.out; omega)), rfl⟩
        have hx0 := HZ.out.at j
        rw [← X.out] at hx0
        obtain ⟨hx0, hx1⟩ := hx0
        obtain ⟨y, hyc⟩ : ∃ y, wr.cell? ⟨w.heap.size, j, none⟩ = some (.int .u64 y) := ⟨_, I.out.1.1.cell j (by have := I.out.1.2.1; omega)⟩
        have hfr := I.out.1.1.free j
        obtain ⟨A, s, sp', u1, u2, u3, us, usp, E⟩ := twice_limb x cc hx0 hx1 c0 c1
        have I2 := I.out.step (by omega) (x := x * 2) (s := s) (c' := sp') us ⟨usp.1, by omega⟩ E.out
        have T2 : 2 * Nm.val (zs.take j) + bit + Nm.pw j * (x * 2) = 2 * Nm.val (zs.take (j + 1)) + bit := by
          rw [Nm.val_take_succ zs j (by have := HN.out; omega), ← X.out, ← Int.mul_assoc]
          omega
        rw [T2] at I2
        have HI2 := hid I2
        have HU := hid usp
        obtain ⟨y2, hx2⟩ : ∃ y2, (wr.setCell ⟨w.heap.size, j, none⟩ (.int .u64 s)).cell? ⟨b, off + j, none⟩ = some (.int .u64 y2) ∧ y2 = x := ⟨x, by
          have hb : Below w.heap.size wr (wr.setCell ⟨w.heap.size, j, none⟩ (.int .u64 s)) := (Below.refl _ _).setCell (p := ⟨w.heap.size, j, none⟩) (Nat.le_refl _) _
          rw [hb.cell (p := ⟨b, off + j, none⟩) hbw]
          exact hx, rfl⟩
        obtain ⟨hx2, e2⟩ := hx2
        subst e2
        have hjn : (j : Int) < (n : Int) := by omega
        have hjn1 : (j : Int) < (n : Int) + 1 := by omega
        clear T2 E I2 us usp I
        go_wp2
        go_roundw
        case rel => exact ⟨j + 1, sp', _, by omega, by go_num, rfl, HU.out, HI2.out⟩
        case measure => simp [intOf]; omega
      · have hjn : j = n := by omega
        subst hjn
        obtain ⟨⟨i1, i2, i3, i4, i5, i6⟩, i7, i8⟩ := I.out
        have E : Hid (Own (wr.setCell ⟨w.heap.size, j, none⟩ (.int .u64 cc)) w.heap.size (os.set j cc) ∧ (os.set j cc).length = j + 1 ∧ Nm.Limbs (os.set j cc) ∧ Nm.val (os.set j cc) = 2 * Nm.val zs + bit ∧ Below w.heap.size w (wr.setCell ⟨w.heap.size, j, none⟩ (.int .u64 cc))) := by
          refine ⟨i1.set j cc, by simpa using i2, i3.set j c0 (by omega), ?_, (HB0.out.trans i5).setCell (p := ⟨w.heap.size, j, none⟩) (Nat.le_refl _) _⟩
          rw [Nm.val_set _ _ _ (by omega), i8 j (Nat.le_refl _), Int.sub_zero, i4, List.take_of_length_le (by have := HN.out; omega)]
        obtain ⟨y, hy⟩ : ∃ y, wr.cell? ⟨w.heap.size, j, none⟩ = some (.int .u64 y) := ⟨_, i1.cell j (by omega)⟩
        have hfr := i1.free j
        clear i1 i2 i3 i4 i5 i6 i7 i8 I
        go_wp2
        go_ret
        exact ⟨_, rfl, E⟩
end Go.Proofs.YtmihjiiagpkciaaDoor

namespace Go.Proofs.YtmihjiiagpkciaaDoor
open Go.RowKit Go.Deep

theorem part_getD (rs : List Int) (j M i : Nat) (hi : i < M) : (Qd.part rs j M).getD i 0 = rs.getD (j + i) 0 := by
  rw [Qd.part, Nm.getD_take, if_pos hi]
  simp [List.getD, List.getElem?_drop]

/-- The limb of one round of takeOff: the ways. -/
theorem off_ways (x y bw : Int) (x0 : 0 ≤ x) (x1 : x < 18446744073709551616) (y0 : 0 ≤ y) (y1 : y < 18446744073709551616) (b0 : 0 ≤ bw) (b1 : bw ≤ 1) :
    ∃ t d b', IntKind.u64.wrap (x - y) = t ∧ IntKind.u64.wrap (t - bw) = d ∧ (0 ≤ t ∧ t < 18446744073709551616) ∧ (0 ≤ d ∧ d < 18446744073709551616) ∧ Hid (d + 18446744073709551616 * (-b') = x + (-y) + (-bw)) ∧
      ((x < y ∧ b' = 1) ∨ (x = y ∧ bw = 1 ∧ b' = 1) ∨ (x = y ∧ bw = 0 ∧ b' = 0) ∨ (y < x ∧ b' = 0)) := by
  refine ⟨_, _, if x < y ∨ (x = y ∧ bw = 1) then 1 else 0, rfl, rfl, ?_, ?_, ?_, ?_⟩
  · rw [wrap_mod]; omega
  · rw [wrap_mod]; omega
  · show _ = _
    rw [wrap_mod, wrap_mod]
    split <;> omega
  · split <;> omega

set_option maxRecDepth 100000 in
set_option maxHeartbeats 1000000 in
/-- takeOff: ms, from limb j on, out of a block of our own that holds it. -/
theorem takeOff_any (g C R cap M cap' j : Nat) (rs : List Int) (q : Option Addr) (ms : List Int) (ji : Int) (w : World) (ho : Own w g rs) (hr : rs.length = C) (hRC : R ≤ C) (hR : R ≤ 17592186044000) (hm : ms.length = M) (hM : 0 < M) (hjM : j + M ≤ R) (hlr : Nm.Limbs rs) (h2 : Lies w q ms) (hlm : Nm.Limbs ms) (hq : ∀ a, q = some a → a.block ≠ g) (hji : ji = (j : Int))
    (hge : Nm.pw j * Nm.val ms ≤ Nm.val rs) (hlt : Nm.val rs < Nm.pw (j + M)) :
    Calls Tryd.prog 50 #[.slice (some ⟨g, 0, none⟩) R cap, .int .i64 ji, .slice q M cap'] w fun e w' => ∃ os, e = .returned (.tuple #[]) ∧ Hid (Own w' g os ∧ os.length = C ∧ Nm.Limbs os ∧ Nm.val os = Nm.val rs - Nm.pw j * Nm.val ms ∧ Below g w w' ∧ w'.heap.size = w.heap.size ∧ ∀ b, b ≠ g → w'.heap[b]? = w.heap[b]?) := by
  subst hji
  obtain ⟨b', off', rfl, hbw', HC'⟩ := h2.at (by omega)
  have hbg : b' ≠ g := hq _ rfl
  have I0 : PartInv g C (j + M) w rs (Nm.val rs + Nm.pw j * (-Nm.val (ms.take 0))) (j + 0) (-0) rs w := ⟨⟨ho, hr, hlr, by simp [Nm.val], Below.refl _ _, rfl⟩, fun _ _ => rfl, fun _ _ => rfl⟩
  have fin : ∀ (os : List Int) (bw : Int) (wr : World), 0 ≤ bw → bw ≤ 1 → PartInv g C (j + M) w rs (Nm.val rs + Nm.pw j * (-Nm.val ms)) (j + M) (-bw) os wr →
      Own wr g os ∧ os.length = C ∧ Nm.Limbs os ∧ Nm.val os = Nm.val rs - Nm.pw j * Nm.val ms ∧ Below g w wr ∧ wr.heap.size = w.heap.size ∧ ∀ b, b ≠ g → wr.heap[b]? = w.heap[b]? := by
    intro os bw wr b0 b1 P
    obtain ⟨⟨p1, p2, p3, p4, p5, p6⟩, p7, p8⟩ := P
    have hz : Nm.val os < Nm.pw (j + M) := by
      have h1 := Nm.val_take_of_zero os (j + M) (fun i hi => by rw [p7 i hi]; exact Nm.zero_of_lt hlr hlt i hi)
      have h2 := (Nm.val_bd _ (p3.take (j + M))).2
      rw [List.length_take, Nat.min_eq_left (by omega)] at h2
      omega
    rw [Int.mul_neg, Int.mul_neg] at p4
    have hb : bw = 0 := by
      rcases (show bw = 0 ∨ bw = 1 by omega) with h | h
      · exact h
      · rw [h, Int.mul_one] at p4; omega
    rw [hb, Int.mul_zero] at p4
    exact ⟨p1, p2, p3, by omega, p5, p6, p8⟩
  have FIN := hid fin
  have HI0 := hid I0
  have HM : Hid (ms.length = M) := hm
  have HML : Hid (Nm.Limbs ms) := hlm
  clear fin I0 hm hlm hq ho hr hlr h2 hge hlt
  go_enter Tryd.func50, Tryd.ntmps50
  go_wp2_with fail
  go_loopw [6, 7] (fun c i wr => ∃ (k : Nat) (bw : Int) (os : List Int), k ≤ M ∧ i = .int .i64 k ∧ c = .int .u64 bw ∧ (0 ≤ bw ∧ bw ≤ 1) ∧ Hid (PartInv g C (j + M) w rs (Nm.val rs + Nm.pw j * (-Nm.val (ms.take k))) (j + k) (-bw) os wr)) (fun _ i _ => M - (intOf i).toNat)
  case atStart => exact ⟨0, 0, rs, Nat.zero_le _, rfl, rfl, by omega, HI0.out⟩
  case round =>
    clear HI0
    obtain ⟨k, bw, os, hk, rfl, rfl, ⟨bw0, bw1⟩, I⟩ := hrel
    by_cases hlt : k < M
    · obtain ⟨y, hy, Y⟩ : ∃ y, wr.cell? ⟨b', off' + k, none⟩ = some (.int .u64 y) ∧ Hid (y = ms.getD k 0) := ⟨_, by
        have h := I.out.2.2 b' hbg
        have e : wr.cell? ⟨b', off' + k, none⟩ = w.cell? ⟨b', off' + k, none⟩ := by simp only [World.cell?, h]
        rw [e]
        exact HC'.out k (by have := HM.out; omega), rfl⟩
      obtain ⟨x, hx, X⟩ : ∃ x, wr.cell? ⟨g, j + k, none⟩ = some (.int .u64 x) ∧ Hid (x = os.getD (j + k) 0) := ⟨_, I.out.1.1.cell (j + k) (by have := I.out.1.2.1; omega), rfl⟩
      have hfr := I.out.1.1.free (j + k)
      have hx0 : 0 ≤ x ∧ x < 18446744073709551616 := by have := I.out.1.2.2.1.at (j + k); have := X.out; omega
      have hy0 : 0 ≤ y ∧ y < 18446744073709551616 := by have := HML.out.at k; have := Y.out; omega
      obtain ⟨hx0, hx1⟩ := hx0
      obtain ⟨hy0, hy1⟩ := hy0
      obtain ⟨t, d, b2, r1, r2, ⟨t0, t1⟩, ⟨d0, d1⟩, E, W⟩ := off_ways x y bw hx0 hx1 hy0 hy1 bw0 bw1
      have ST := hid (I.out.step (by omega) (by omega) (x := -y) (s := d) (c' := -b2) ⟨d0, d1⟩ (by rw [← X.out]; exact E.out))
      have T2 : Hid (Nm.val rs + Nm.pw j * (-Nm.val (ms.take k)) + Nm.pw (j + k) * (-y) = Nm.val rs + Nm.pw j * (-Nm.val (ms.take (k + 1)))) := by
        show _ = _
        rw [Nm.val_take_succ ms k (by have := HM.out; omega), ← Y.out, Nm.pw_add, Int.mul_neg, Int.mul_neg, Int.mul_neg, Int.mul_add, Int.mul_assoc]
        omega
      rw [T2.out] at ST
      have htR : (j : Int) + (k : Int) < (R : Int) := by omega
      have hb2 : 0 ≤ b2 ∧ b2 ≤ 1 := by omega
      have HB2 := hid hb2
      clear I E hb2 T2
      rcases W with ⟨c, rfl⟩ | ⟨c, c2, rfl⟩ | ⟨c, c2, rfl⟩ | ⟨c, rfl⟩
      · go_wp2
        go_roundw
        case rel => exact ⟨k + 1, 1, _, by omega, by go_num, rfl, HB2.out, ST.out⟩
        case measure => simp [intOf]; omega
      · subst c2
        have c3 : (x == y) = true := by simp [c]
        have c4 : ¬ x < y := by omega
        have C := hid c
        clear c
        go_wp2
        go_roundw
        case rel => exact ⟨k + 1, 1, _, by omega, by go_num, rfl, HB2.out, ST.out⟩
        case measure => simp [intOf]; omega
      · subst c2
        have c3 : (x == y) = true := by simp [c]
        have c4 : ¬ x < y := by omega
        have C := hid c
        have hdt : d = t := by rw [← r2, wrap_mod]; omega
        subst hdt
        clear c r2
        go_wp2
        go_roundw
        case rel => exact ⟨k + 1, 0, _, by omega, by go_num, rfl, HB2.out, ST.out⟩
        case measure => simp [intOf]; omega
      · have c3 : (x == y) = false := by rw [beq_eq_false_iff_ne]; omega
        have c4 : ¬ x < y := by omega
        go_wp2
        go_roundw
        case rel => exact ⟨k + 1, 0, _, by omega, by go_num, rfl, HB2.out, ST.out⟩
        case measure => simp [intOf]; omega
    · have hkM : k = M := by omega
      subst hkM
      have e := I.out
      rw [List.take_of_length_le (by have := HM.out; omega)] at e
      have F := hid (FIN.out os bw wr bw0 bw1 e)
      clear e I
      go_wp2
      go_end0
      exact ⟨os, rfl, F⟩
end Go.Proofs.YtmihjiiagpkciaaDoor

namespace Go.Proofs.YtmihjiiagpkciaaDoor
open Go.RowKit Go.Deep

set_option maxRecDepth 100000 in
set_option maxHeartbeats 1000000 in
/-- holds: are the limbs from place j on at least those of ms? -/
theorem holds_any (p q : Option Addr) (R cap M cap' j : Nat) (rs ms : List Int) (ji : Int) (w : World) (hr : rs.length = R) (hR : R ≤ 17592186044000) (hm : ms.length = M) (hM : 0 < M) (hjM : j + M ≤ R) (h1 : Lies w p rs) (h2 : Lies w q ms) (hlr : Nm.Limbs rs) (hlm : Nm.Limbs ms) (hji : ji = (j : Int)) :
    Calls Tryd.prog 52 #[.slice p R cap, .int .i64 ji, .slice q M cap'] w fun e w' => e = .returned (.bool (decide (Nm.val ms ≤ Nm.val (Qd.part rs j M)))) ∧ Below w.heap.size w w' := by
  subst hji
  obtain ⟨b, off, rfl, hbw, HC⟩ := h1.at (by omega)
  obtain ⟨b', off', rfl, hbw', HC'⟩ := h2.at (by omega)
  have PL := hid (Qd.part_length (rs := rs) (t := j) (n1 := M) (by omega))
  have HR := hid hr
  have HM := hid hm
  have HPL : Hid (Nm.Limbs (Qd.part rs j M)) := (hlr.drop j).take M
  have HML := hid hlm
  clear hr hm h1 h2 hlr hlm
  go_enter Tryd.func52, Tryd.ntmps52
  go_wp2_with fail
  go_loopw [7] (fun i wr => ∃ k : Nat, k ≤ M ∧ i = .int .i64 ((k : Int) - 1) ∧ Hid (∀ t, k ≤ t → (Qd.part rs j M).getD t 0 = ms.getD t 0) ∧ Hid (Below w.heap.size w wr)) (fun i _ => (intOf i + 1).toNat)
  case atStart => exact ⟨M, Nat.le_refl _, rfl, fun t ht => by rw [List.getD, List.getElem?_eq_none (by have := PL.out; omega), List.getD, List.getElem?_eq_none (by have := HM.out; omega)], Below.refl _ _⟩
  case round =>
    obtain ⟨k, hk, rfl, hE, HB⟩ := hrel
    by_cases hk0 : k = 0
    · subst hk0
      have E : Hid (decide (Nm.val ms ≤ Nm.val (Qd.part rs j M)) = true) := by
        have e := Nm.drop_eq_of_getD (by rw [PL.out, HM.out]) 0 hE.out
        simp only [List.drop_zero] at e
        simp only [Hid, decide_eq_true_eq]
        rw [e]
        exact Int.le_refl _
      go_wp2_with fail
      go_ret
      exact ⟨ret_bool E.out.symm, HB.out⟩
    · obtain ⟨t, rfl⟩ : ∃ t, k = t + 1 := ⟨k - 1, by omega⟩
      obtain ⟨x, hx, X⟩ : ∃ x, wr.cell? ⟨b, off + (j + t), none⟩ = some (.int .u64 x) ∧ Hid (x = (Qd.part rs j M).getD t 0) := ⟨_, (HB.out.cell (p := ⟨b, off + (j + t), none⟩) hbw).trans (HC.out (j + t) (by have := HR.out; omega)), by show _ = _; rw [part_getD rs j M t (by omega)]⟩
      obtain ⟨y, hy, Y⟩ : ∃ y, wr.cell? ⟨b', off' + t, none⟩ = some (.int .u64 y) ∧ Hid (y = ms.getD t 0) := ⟨_, (HB.out.cell (p := ⟨b', off' + t, none⟩) hbw').trans (HC'.out t (by have := HM.out; omega)), rfl⟩
      have LTS : Hid ((y < x → Nm.val ms < Nm.val (Qd.part rs j M)) ∧ (x < y → Nm.val (Qd.part rs j M) < Nm.val ms)) := by
        have hd := Nm.drop_eq_of_getD (by rw [PL.out, HM.out]) (t + 1) hE.out
        refine ⟨fun h => ?_, fun h => ?_⟩
        · exact Nm.val_lt_at HML.out HPL.out t (by have := HM.out; omega) (by rw [PL.out, HM.out]) (by rw [← X.out, ← Y.out]; exact h) hd.symm
        · exact Nm.val_lt_at HPL.out HML.out t (by have := PL.out; omega) (by rw [PL.out, HM.out]) (by rw [← X.out, ← Y.out]; exact h) hd
      have htR : (j : Int) + (t : Int) < (R : Int) := by omega
      have htM : (t : Int) < (M : Int) := by omega
      by_cases hxy : y < x
      · have E : Hid (decide (Nm.val ms ≤ Nm.val (Qd.part rs j M)) = true) := by
          simp only [Hid, decide_eq_true_eq]
          have := LTS.out.1 hxy
          omega
        go_wp2_with fail
        go_quiet (fail)
        go_wp2
        go_ret
        exact ⟨ret_bool E.out.symm, below_drewN HB.out _⟩
      · go_wp2_with fail
        go_quiet (fail)
        have hx2 : (wr.drewN nq).cell? ⟨b, off + (j + t), none⟩ = some (.int .u64 x) := hx
        have hy2 : (wr.drewN nq).cell? ⟨b', off' + t, none⟩ = some (.int .u64 y) := hy
        have HB2 := hid (below_drewN HB.out nq)
        clear hx hy HB
        generalize wr.drewN nq = wq at *
        by_cases hyx : x < y
        · have E : Hid (decide (Nm.val ms ≤ Nm.val (Qd.part rs j M)) = false) := by
            simp only [Hid, decide_eq_false_iff_not]
            have := LTS.out.2 hyx
            omega
          go_wp2_with fail
          go_quiet (fail)
          go_wp2
          go_ret
          exact ⟨ret_bool E.out.symm, below_drewN HB2.out _⟩
        · have EQ : Hid (x = y) := by show _ = _; omega
          go_wp2_with fail
          go_quiet (fail)
          go_wp2
          go_roundw
          case rel =>
            refine ⟨t, by omega, by go_num, fun i hi => ?_, below_drewN HB2.out _⟩
            by_cases e : i = t
            · subst e; rw [← X.out, ← Y.out]; exact EQ.out
            · exact hE.out i (by omega)
          case measure => simp [intOf]

end Go.Proofs.YtmihjiiagpkciaaDoor

namespace Go.Proofs.YtmihjiiagpkciaaDoor
open Go.RowKit Go.Deep

theorem zero64 (n : Nat) : Builtin.zeroCells #[Value.int .u64 0] n = ((List.replicate n (0 : Int)).map (Value.int .u64)).toArray := by
  apply Array.ext'
  simp only [Builtin.zeroCells, Array.toList_map, List.map_replicate, Array.toList_range, List.size_toArray, List.length_cons, List.length_nil, Nat.zero_add, Nat.mul_one, Nat.mod_one]
  exact List.eq_replicate_iff.2 ⟨by simp, fun v hv => by
    obtain ⟨i, _, rfl⟩ := List.mem_map.1 hv
    rfl⟩

/-- append(l, x): l fills its block, so that a new one is made, of unknown room. -/
theorem grow64 (g Y : Nat) (xs : List Int) (x : Int) (w : World) (hx : xs.length = Y) (hY : Y ≤ 1099511627776) (ho : Own w g xs) :
    ∃ cap w', (Builtin.append_ #[24, 24] 24 #[.slice (some ⟨g, 0, none⟩) Y Y, .slice (some ⟨w.heap.size, 0, none⟩) 1 1]).run Tryd.prog (w.alloc (.cells #[.int .u64 x] 26)) = .ok (.slice (some ⟨w.heap.size + 1, 0, none⟩) (Y + 1) cap) w' ∧
      Y + 1 ≤ cap ∧ Own w' (w.heap.size + 1) (xs ++ [x] ++ List.replicate (cap - (Y + 1)) 0) ∧ Below w.heap.size w w' := by
  obtain ⟨i, hi, hz⟩ := Option.map_eq_some_iff.1 info64
  simp only [Prod.mk.injEq] at hz
  obtain ⟨z1, z2, z3⟩ := hz
  have hg := ho.lt
  have bm : Below w.heap.size w (w.alloc (.cells #[.int .u64 x] 26)) := (Below.refl _ _).alloc (Nat.le_refl _) _
  have ho' := ho.below bm hg
  have hl : Own (w.alloc (.cells #[.int .u64 x] 26)) w.heap.size [x] := Own.alloc w [x]
  have hr := run_append_grow (P := Tryd.prog) (w.alloc (.cells #[.int .u64 x] 26)) 24 24 26 i (.int .u64 0) Tryd.underlying24 hi z1 ⟨g, 0, none⟩ Y Y (xs.map (Value.int .u64)) (by rw [z2, List.length_map, hx]; omega)
    (fun j v hv => by
      simp only [List.getElem?_map, Option.map_eq_some_iff] at hv
      obtain ⟨z, hz, rfl⟩ := hv
      have hj : j < xs.length := (List.getElem?_eq_some_iff.1 hz).1
      rw [Go.WideShapes.add_plain, Nat.zero_add, ho'.cell j hj]
      simp [List.getD, hz])
    ⟨w.heap.size, 0, none⟩ 1 1 [Value.int .u64 x] (by rw [z2]; rfl)
    (fun j v hv => by
      cases j with
      | zero =>
        simp at hv
        subst hv
        rw [Go.WideShapes.add_plain, hl.cell 0 (by simp)]
        rfl
      | succ j => simp at hv)
    (by omega) (by omega) (growslice_fits (by omega) (by rw [z3]; omega))
  have hge := grownCap_ge (w.alloc (.cells #[.int .u64 x] 26)) (Y + 1) Y 26
  have hs : (w.alloc (.cells #[.int .u64 x] 26)).heap.size = w.heap.size + 1 := World.size_alloc _ _
  obtain ⟨cap, hcap⟩ : ∃ c, grownCap (w.alloc (.cells #[.int .u64 x] 26)) (Y + 1) Y 26 = c := ⟨_, rfl⟩
  rw [hcap] at hr hge
  have e : ((xs.map (Value.int .u64)).toArray ++ [Value.int .u64 x].toArray ++ Builtin.zeroCells (Value.cells (.int .u64 0)) (cap - (Y + 1))) = ((xs ++ [x] ++ List.replicate (cap - (Y + 1)) 0).map (Value.int .u64)).toArray := by
    rw [show Value.cells (.int .u64 0) = #[Value.int .u64 0] from rfl, zero64]
    simp
  rw [e, hs] at hr
  refine ⟨cap, _, hr, hge, ?_, ?_⟩
  · have := Own.alloc (w.alloc (.cells #[.int .u64 x] 26)).drew (xs ++ [x] ++ List.replicate (cap - (Y + 1)) 0)
    rw [show (w.alloc (.cells #[.int .u64 x] 26)).drew.heap.size = w.heap.size + 1 from hs] at this
    exact this
  · exact bm.drew.alloc (by show w.heap.size ≤ (w.alloc (.cells #[.int .u64 x] 26)).heap.size; rw [hs]; omega) _

end Go.Proofs.YtmihjiiagpkciaaDoor

namespace Go.Proofs.YtmihjiiagpkciaaDoor
open Go.RowKit Go.Deep

/-- A block of limbs of the number V, Y + 1 of them at least. -/
def Mv (Y : Nat) (V : Int) (w : World) (g : Nat) : Prop := ∃ os, Own w g os ∧ Y + 1 ≤ os.length ∧ Nm.Limbs os ∧ Nm.val os = V

theorem Mv.lies {Y : Nat} {V : Int} {w : World} {g : Nat} (h : Mv Y V w g) (hV : V < Nm.pw (Y + 1)) : ∃ ms, Lies w (some ⟨g, 0, none⟩) ms ∧ ms.length = Y + 1 ∧ Nm.Limbs ms ∧ Nm.val ms = V := by
  obtain ⟨os, h1, h2, h3, h4⟩ := h
  refine ⟨os.take (Y + 1), h1.lies.take _, by simp; omega, h3.take _, ?_⟩
  rw [Nm.val_take_of_zero os (Y + 1) (fun j hj => Nm.zero_of_lt h3 (by rw [h4]; exact hV) j hj), h4]

theorem Mv.below {Y : Nat} {V : Int} {w w' : World} {g : Nat} (h : Mv Y V w g) (hb : Below w.heap.size w w') : Mv Y V w' g := by
  obtain ⟨os, h1, h2⟩ := h
  exact ⟨os, h1.below hb h1.lt, h2⟩

theorem Mv.lt {Y : Nat} {V : Int} {w : World} {g : Nat} (h : Mv Y V w g) : g < w.heap.size := by
  obtain ⟨os, h1, h2⟩ := h
  exact h1.lt

/-- A header of Y + 1 limbs. -/
def hdr (Y : Nat) (e : Nat × Nat) : Value := .slice (some ⟨e.1, 0, none⟩) (Y + 1) e.2

theorem info64s : (Tryd.prog.info? 24).map (fun i => (i.zero, i.size, i.bytes)) = some (some (.slice none 0 0), 1, 24) := by kernel_rfl

/-- The list of headers, behind another one is appended. -/
theorem pushHdr (base Y n : Nat) (mv : Value) (l : List (Nat × Nat)) (e : Nat × Nat) (w : World) (hn : l.length = n) (hY : n ≤ 1000) (hb : base ≤ w.heap.size) (ho : w.ownsRow base 24 1 mv n (l.map (hdr Y))) :
    ∃ mv' w', (Builtin.append_ #[27, 27] 27 #[mv, .slice (some ⟨w.heap.size, 0, none⟩) 1 1]).run Tryd.prog (w.alloc (.cells #[hdr Y e] 24)) = .ok mv' w' ∧ w'.ownsRow base 24 1 mv' (n + 1) ((l ++ [e]).map (hdr Y)) ∧ Below base w w' ∧ (∀ V g, Mv Y V w g → Mv Y V w' g) ∧ w.heap.size ≤ w'.heap.size := by
  obtain ⟨i, hi, hz⟩ := Option.map_eq_some_iff.1 info64s
  simp only [Prod.mk.injEq] at hz
  obtain ⟨z1, z2, z3⟩ := hz
  have bm : Below w.heap.size w (w.alloc (.cells #[hdr Y e] 24)) := (Below.refl _ _).alloc (Nat.le_refl _) _
  have hs : (w.alloc (.cells #[hdr Y e] 24)).heap.size = w.heap.size + 1 := World.size_alloc _ _
  have ho' := ho.alloc (.cells #[hdr Y e] 24)
  have hcell : (w.alloc (.cells #[hdr Y e] 24)).cell? ⟨w.heap.size, 0, none⟩ = some (hdr Y e) := by
    have : (w.alloc (.cells #[hdr Y e] 24)).heap[w.heap.size]? = some (.cells #[hdr Y e] 24 (0, 0)) := by
      show (w.heap.push _)[w.heap.size]? = _
      rw [Array.getElem?_push, if_pos rfl]
    simp only [World.cell?, this]
    rfl
  obtain ⟨v', w', hr, h1, h2, _⟩ := run_append_own (P := Tryd.prog) (w.alloc (.cells #[hdr Y e] 24)) base 27 27 24 i (.slice none 0 0) 1 24 Tryd.underlying27 hi z1 z2 z3 rfl (by omega) mv n (l.map (hdr Y)) ho'
    ⟨w.heap.size, 0, none⟩ 1 1 [hdr Y e] rfl
    (fun j v hv => by
      cases j with
      | zero =>
        simp at hv
        subst hv
        rw [Go.WideShapes.add_plain]
        exact hcell
      | succ j => simp at hv)
    (fun u hu => by simp at hu; subst hu; rfl) (by simp only [maxLen]; omega) (by omega) (by rw [hs]; omega)
  refine ⟨v', w', hr, by simpa using h1, ?_, ?_, by have := h2.size; omega⟩
  · have hb2 : Below base (w.alloc (.cells #[hdr Y e] 24)) w' := by
      refine ⟨h2.os, h2.tape, h2.output, h2.size, fun j hj => h2.block j (by rw [hs]; omega) ?_⟩
      intro hk
      have := (ho'.lt j hk.symm).1
      omega
    exact (bm.mono hb).trans hb2
  · intro V g hm
    obtain ⟨os, m1, m2, m3, m4⟩ := hm
    have m1' := m1.below bm m1.lt
    have hne : some g ≠ mv.ownBlock := by
      intro hk
      rcases ho'.2 with ⟨rfl, _⟩ | ⟨g', cp, cur, rfl, _, hcur, _⟩
      · simp [Value.ownBlock] at hk
      · simp only [Value.ownBlock, Option.some.injEq] at hk
        subst hk
        simp only [Own] at m1'
        rw [m1'] at hcur
        simp only [Option.some.injEq, Obj.cells.injEq] at hcur
        exact absurd hcur.2.1 (by decide)
    refine ⟨os, ?_, m2, m3, m4⟩
    simp only [Own] at m1' ⊢
    rw [h2.block g (by rw [hs]; have := m1.lt; omega) hne]
    exact m1'
end Go.Proofs.YtmihjiiagpkciaaDoor

namespace Go.Proofs.YtmihjiiagpkciaaDoor
open Go.RowKit Go.Deep

/-- An append whose run is known. -/
theorem wpList_append_q {ty : TypeId} {ops : Array Oper} {rest : List Oper} {o : Oper} {a : Act} {Q : Exit → Act → World → Prop} (hgd : o.guard = none) (s x : Operand)
    (ho : o.op = .call { callee := .builtin .append, args := #[s, x], argTypes := #[ty, ty] }) {v y v' : Value} {w w' : World} (hr : (Builtin.append_ #[ty, ty] o.type #[v, y]).run Tryd.prog w = .ok v' w') (hs : a.eval s = v) (hx : a.eval x = y)
    (h : wpList Tryd.prog ops Q rest (a.put o.dst v') w') : wpList Tryd.prog ops Q (o :: rest) a w := by
  refine wpList_plain hgd fun K hK => ?_
  unfold Oper.wp execOp
  simp only [ho, resolve, invoke, builtin, Sem.run_bind, Sem.run_pure, Result.andThen_ok, List.map_toArray, List.map_cons, List.map_nil, hs, hx, hr]
  exact hK _ _ h

theorem qtwo_lt {B : Int} {Y k : Nat} (hB : B < Nm.pw Y) (hB0 : 0 ≤ B) (hk : k ≤ 64) : B * 2 ^ k < Nm.pw (Y + 1) := by
  have h1 := Nm.two_mono hk
  rw [Nm.two_64] at h1
  have h2 : B * 2 ^ k ≤ B * 18446744073709551616 := Int.mul_le_mul_of_nonneg_left h1 hB0
  rw [Nm.pw_succ]
  omega

/-- Before bit k of limb t of the quotient. -/
structure InI (w : World) (g g2 C K : Nat) (A b : Int) (t k : Nat) (os rs : List Int) (wr : World) : Prop where
  own : Own wr g rs
  len : rs.length = C
  lim : Nm.Limbs rs
  own2 : Own wr g2 os
  len2 : os.length = K
  lim2 : Nm.Limbs os
  zero : ∀ i, i < t → os.getD i 0 = 0
  bit : ∃ h, 0 ≤ h ∧ os.getD t 0 = h * 2 ^ k
  eq : Nm.val os * b + Nm.val rs = A
  lt : Nm.val rs < Nm.pw t * (b * 2 ^ k)
  low : Below g w wr

theorem InI.first {w : World} {g g2 C K : Nat} {A b : Int} {t : Nat} {os rs : List Int} {wr : World} (h : DivI w g g2 C K A b (t + 1) os rs wr) : InI w g g2 C K A b t 64 os rs wr := by
  refine ⟨h.own, h.len, h.lim, h.own2, h.len2, h.lim2, fun i hi => h.zero i (by omega), ⟨0, Int.le_refl _, by rw [h.zero t (by omega)]; omega⟩, h.eq, ?_, h.low⟩
  have := h.lt
  rw [Nm.pw_succ] at this
  rw [Nm.two_64]
  have e : Nm.pw t * (b * 18446744073709551616) = 18446744073709551616 * Nm.pw t * b := by rw [Int.mul_left_comm, Int.mul_comm b, Int.mul_comm (Nm.pw t)]
  omega

theorem InI.last {w : World} {g g2 C K : Nat} {A b : Int} {t : Nat} {os rs : List Int} {wr : World} (h : InI w g g2 C K A b t 0 os rs wr) : DivI w g g2 C K A b t os rs wr := by
  refine ⟨h.own, h.len, h.lim, h.own2, h.len2, h.lim2, h.zero, h.eq, ?_, h.low⟩
  have := h.lt
  rw [Int.pow_zero, Int.mul_one] at this
  exact this

/-- The bit is 0. -/
theorem InI.skip {w : World} {g g2 C K : Nat} {A b : Int} {t s : Nat} {os rs : List Int} {wr wr' : World} (h : InI w g g2 C K A b t (s + 1) os rs wr) (hb : Below wr.heap.size wr wr') (hlt : Nm.val rs < Nm.pw t * (b * 2 ^ s)) : InI w g g2 C K A b t s os rs wr' := by
  obtain ⟨x, x0, hx⟩ := h.bit
  have hg := h.own.lt
  exact ⟨h.own.below hb hg, h.len, h.lim, h.own2.below hb h.own2.lt, h.len2, h.lim2, h.zero, ⟨x * 2, by omega, by rw [hx, Nm.two_succ, Int.mul_assoc]⟩, h.eq, hlt, h.low.trans (hb.mono (by omega))⟩

/-- The bit is 1: what stands in the limb, and what it becomes. -/
theorem InI.orr {w : World} {g g2 C K : Nat} {A b : Int} {t s : Nat} {os rs : List Int} {wr : World} (h : InI w g g2 C K A b t (s + 1) os rs wr) (hs : s ≤ 63) :
    bits .or .u64 (os.getD t 0) (2 ^ s) = os.getD t 0 + 2 ^ s ∧ (0 ≤ os.getD t 0 + 2 ^ s ∧ os.getD t 0 + 2 ^ s < 18446744073709551616) := by
  obtain ⟨x, x0, hx⟩ := h.bit
  have hl := h.lim2.at t
  have p1 := Nm.two_pos s
  have e1 := Nm.two_succ s
  have e2 := Nm.two_mono (show s + 1 ≤ 64 by omega)
  rw [Nm.two_64] at e2
  have hdiv : x * 2 ^ (s + 1) + 2 ^ (s + 1) ≤ 18446744073709551616 := by
    have e3 : (2 : Int) ^ (64 - (s + 1)) * 2 ^ (s + 1) = 18446744073709551616 := by rw [← Nm.two_add, show 64 - (s + 1) + (s + 1) = 64 by omega, Nm.two_64]
    have hx1 : x < 2 ^ (64 - (s + 1)) := by
      rcases Int.lt_or_le x (2 ^ (64 - (s + 1))) with c | c
      · exact c
      · exfalso
        have : 2 ^ (64 - (s + 1)) * 2 ^ (s + 1) ≤ x * 2 ^ (s + 1) := Int.mul_le_mul_of_nonneg_right c (by omega)
        omega
    have : (x + 1) * 2 ^ (s + 1) ≤ 2 ^ (64 - (s + 1)) * 2 ^ (s + 1) := Int.mul_le_mul_of_nonneg_right (by omega) (by omega)
    rw [Int.add_mul, Int.one_mul] at this
    omega
  have ho := or_sum x (2 ^ s) (s + 1) x0 (by omega) (by omega) (by omega) (by omega)
  rw [← hx] at ho hdiv
  exact ⟨ho, by omega⟩

theorem InI.take {w : World} {g g2 C K : Nat} {A b : Int} {t s : Nat} {os rs rs' : List Int} {wr w1 w2 : World} (h : InI w g g2 C K A b t (s + 1) os rs wr) (htK : t < K) (hgl : g < g2) (hb : Below wr.heap.size wr w1)
    (ho : Own w2 g rs') (hl : rs'.length = C) (hlim : Nm.Limbs rs') (hv : Nm.val rs' = Nm.val rs - Nm.pw t * (b * 2 ^ s)) (hb2 : Below g w1 w2) (hoth : ∀ b, b ≠ g → w2.heap[b]? = w1.heap[b]?) (hs : s ≤ 63) :
    Own w2 g2 os ∧ InI w g g2 C K A b t s (os.set t (os.getD t 0 + 2 ^ s)) rs' (w2.setCell ⟨g2, t, none⟩ (.int .u64 (os.getD t 0 + 2 ^ s))) := by
  have hor := h.orr hs
  obtain ⟨x, x0, hx⟩ := h.bit
  have o2 : Own w2 g2 os := by
    have h1 := h.own2.below hb h.own2.lt
    simp only [Own] at h1 ⊢
    rw [hoth g2 (by omega)]
    exact h1
  have hlow : Below g w w2 := (h.low.trans (hb.mono (Nat.le_of_lt h.own.lt))).trans hb2
  have hgg : g2 ≠ g := by omega
  refine ⟨o2, ?_⟩
  have p1 := Nm.two_pos s
  have e1 := Nm.two_succ s
  refine ⟨ho.other hgg t _, hl, hlim, o2.set t _, by simpa using h.len2, h.lim2.set t hor.2.1 hor.2.2, fun i hi => ?_, ⟨x * 2 + 1, by omega, ?_⟩, ?_, ?_, ?_⟩
  · rw [Nm.getD_set _ _ _ _ (by rw [h.len2]; exact htK), if_neg (by omega)]
    exact h.zero i hi
  · rw [Nm.getD_set _ _ _ _ (by rw [h.len2]; exact htK), if_pos rfl, hx, e1, Int.add_mul, Int.one_mul, Int.mul_assoc]
  · rw [Nm.val_set _ _ _ (by rw [h.len2]; exact htK), show os.getD t 0 + 2 ^ s - os.getD t 0 = 2 ^ s by omega, Int.add_mul, hv]
    have e2 : Nm.pw t * 2 ^ s * b = Nm.pw t * (b * 2 ^ s) := by rw [Int.mul_assoc, Int.mul_comm (2 ^ s) b]
    have := h.eq
    omega
  · rw [hv]
    have := h.lt
    rw [e1] at this
    have e3 : Nm.pw t * (b * (2 * 2 ^ s)) = Nm.pw t * (b * 2 ^ s) + Nm.pw t * (b * 2 ^ s) := by rw [Int.mul_left_comm b, Int.mul_left_comm (Nm.pw t)]; omega
    omega
  · exact hlow.setCell (p := ⟨g2, t, none⟩) (Nat.le_of_lt hgl) _
end Go.Proofs.YtmihjiiagpkciaaDoor
