/-
  Texts put together: IDec, Walk5, Small, FDec.
-/
import Derived.Test.YtobiapniidaibaaGreatDoorWAD
import Derived.Laws.Rows
/-
  ieee: Decode (made by mkdec.py).
-/
namespace Go.Proofs.YtobiapniidaibaaGreatDoor
open Go Go.RowKit Go.Deep

namespace Ie
/-- The mantissa that Decode tells. -/
def dm (d : Int) : Int := if cls d = 2 then 4503599627370496 + d % 4503599627370496 else if cls d = 1 ∨ cls d = 4 then d % 4503599627370496 else 0
/-- The exponent that Decode tells. -/
def de (d : Int) : Int := if cls d = 2 then fld d - 1075 else if cls d = 1 then -1074 else 0
theorem cls_cases (d : Int) : cls d = 0 ∨ cls d = 1 ∨ cls d = 2 ∨ cls d = 3 ∨ cls d = 4 := by
  simp only [cls]; split <;> split <;> (try split) <;> omega
theorem fld_bd (d : Int) : 0 ≤ fld d ∧ fld d < 2048 := by simp only [fld]; omega
end Ie

/-- A double taken apart, as Go has it. -/
def partsOf (neg : Bool) (c m e : Int) : Value := .agg #[.bool neg, .int .i64 c, .int .u64 m, .int .i64 e]

theorem ret_parts {n n' : Bool} {c c' m m' e e' : Int} (h0 : n = n') (h1 : c = c') (h2 : m = m') (h3 : e = e') : Ending.returned (partsOf n c m e) = .returned (partsOf n' c' m' e') := by rw [h0, h1, h2, h3]

theorem twice_alloc (w : World) (A B : Obj) : Below w.heap.size w ((w.alloc A).alloc B) := by
  have h1 := Below.alloc (w := w) (Below.refl w.heap.size w) (Nat.le_refl _) A
  exact Below.alloc h1 (by have := h1.size; omega) B

set_option maxRecDepth 100000 in
set_option maxHeartbeats 4000000 in
theorem decode_any (d : Int) (w : World) (h0 : 0 ≤ d) (h1 : d < 18446744073709551616) :
    Calls Tryz.prog 33 #[.int .u64 d] w fun e w' => e = .returned (partsOf (decide (9223372036854775808 ≤ d)) (Ie.cls d) (Ie.dm d) (Ie.de d)) ∧ Below w.heap.size w w' := by
  have B := Ib.sign_and d h0 h1
  have F := Ib.frac_and d h0 h1
  have CL := hid (fun (wx : World) => class_any d wx h0 h1)
  have FL := hid (fun (wx : World) => field_any d wx h0 h1)
  obtain ⟨sv, hsv⟩ : ∃ sv, d / 9223372036854775808 * 9223372036854775808 = sv := ⟨_, rfl⟩
  rw [hsv] at B
  obtain ⟨f, hf⟩ : ∃ f, Ie.fld d = f := ⟨_, rfl⟩
  have fb := Ie.fld_bd d
  obtain ⟨y, hy⟩ : ∃ y, d % 4503599627370496 = y := ⟨_, rfl⟩
  have y0 : 0 ≤ y := by omega
  have y1 : y < 4503599627370496 := by omega
  rw [hf] at FL fb
  rw [hy] at F
  have O := Ib.hidden_or y y0 y1
  obtain ⟨fb0, fb1⟩ := fb
  have DM : Hid (Ie.dm d = if Ie.cls d = 2 then 4503599627370496 + y else if Ie.cls d = 1 ∨ Ie.cls d = 4 then y else 0) := by rw [Hid, Ie.dm, hy]
  have DE : Hid (Ie.de d = if Ie.cls d = 2 then f - 1075 else if Ie.cls d = 1 then -1074 else 0) := by rw [Hid, Ie.de, hf]
  have cc := Ie.cls_cases d
  have sc : (sv = 0 ∧ decide (9223372036854775808 ≤ d) = false) ∨ (sv = 9223372036854775808 ∧ decide (9223372036854775808 ≤ d) = true) := by
    rcases (show d < 9223372036854775808 ∨ 9223372036854775808 ≤ d by omega) with h | h
    · left; exact ⟨by omega, by simp; omega⟩
    · right; exact ⟨by omega, by simp; omega⟩
  rcases sc with ⟨rfl, sn⟩ | ⟨rfl, sn⟩ <;> rw [sn] <;> rcases cc with hc | hc | hc | hc | hc <;> rw [hc] at CL DM DE ⊢ <;> clear hsv hf hy hc sn
  · go_enter Tryz.func33, Tryz.ntmps33
    go_wp2_with fail
    refine (CL.out _).mono ?_
    rintro e w' ⟨rfl, rfl⟩
    go_wp2_with fail
    (try simp only [Exit.inBlock, Exit.then])
    refine bodyPost_ret (results_cell_row rfl _ _ w.heap.size 63 _ (0, 0) _ rfl (heap_alloc2_old _ _ _) Tryz.underlying63 rfl (by kernel_rfl)) rfl ?_
    exact ⟨ret_parts rfl rfl (by rw [DM.out]; rfl) (by rw [DE.out]; first | rfl | (show _ = f - 1075; omega)), twice_alloc _ _ _⟩
  · go_enter Tryz.func33, Tryz.ntmps33
    go_wp2_with fail
    refine (CL.out _).mono ?_
    rintro e w' ⟨rfl, rfl⟩
    go_wp2_with fail
    (try simp only [Exit.inBlock, Exit.then])
    refine bodyPost_ret (results_cell_row rfl _ _ w.heap.size 63 _ (0, 0) _ rfl (heap_alloc2_old _ _ _) Tryz.underlying63 rfl (by kernel_rfl)) rfl ?_
    exact ⟨ret_parts rfl rfl (by rw [DM.out]; rfl) (by rw [DE.out]; first | rfl | (show _ = f - 1075; omega)), twice_alloc _ _ _⟩
  · go_enter Tryz.func33, Tryz.ntmps33
    go_wp2_with fail
    refine (CL.out _).mono ?_
    rintro e w' ⟨rfl, rfl⟩
    go_wp2_with fail
    refine (FL.out _).mono ?_
    rintro e w' ⟨rfl, rfl⟩
    go_wp2_with fail
    (try simp only [Exit.inBlock, Exit.then])
    refine bodyPost_ret (results_cell_row rfl _ _ w.heap.size 63 _ (0, 0) _ rfl (heap_alloc2_old _ _ _) Tryz.underlying63 rfl (by kernel_rfl)) rfl ?_
    exact ⟨ret_parts rfl rfl (by rw [DM.out]; rfl) (by rw [DE.out]; first | rfl | (show _ = f - 1075; omega)), twice_alloc _ _ _⟩
  · go_enter Tryz.func33, Tryz.ntmps33
    go_wp2_with fail
    refine (CL.out _).mono ?_
    rintro e w' ⟨rfl, rfl⟩
    go_wp2_with fail
    (try simp only [Exit.inBlock, Exit.then])
    refine bodyPost_ret (results_cell_row rfl _ _ w.heap.size 63 _ (0, 0) _ rfl (heap_alloc2_old _ _ _) Tryz.underlying63 rfl (by kernel_rfl)) rfl ?_
    exact ⟨ret_parts rfl rfl (by rw [DM.out]; rfl) (by rw [DE.out]; first | rfl | (show _ = f - 1075; omega)), twice_alloc _ _ _⟩
  · go_enter Tryz.func33, Tryz.ntmps33
    go_wp2_with fail
    refine (CL.out _).mono ?_
    rintro e w' ⟨rfl, rfl⟩
    go_wp2_with fail
    (try simp only [Exit.inBlock, Exit.then])
    refine bodyPost_ret (results_cell_row rfl _ _ w.heap.size 63 _ (0, 0) _ rfl (heap_alloc2_old _ _ _) Tryz.underlying63 rfl (by kernel_rfl)) rfl ?_
    exact ⟨ret_parts rfl rfl (by rw [DM.out]; rfl) (by rw [DE.out]; first | rfl | (show _ = f - 1075; omega)), twice_alloc _ _ _⟩
  · go_enter Tryz.func33, Tryz.ntmps33
    go_wp2_with fail
    refine (CL.out _).mono ?_
    rintro e w' ⟨rfl, rfl⟩
    go_wp2_with fail
    (try simp only [Exit.inBlock, Exit.then])
    refine bodyPost_ret (results_cell_row rfl _ _ w.heap.size 63 _ (0, 0) _ rfl (heap_alloc2_old _ _ _) Tryz.underlying63 rfl (by kernel_rfl)) rfl ?_
    exact ⟨ret_parts rfl rfl (by rw [DM.out]; rfl) (by rw [DE.out]; first | rfl | (show _ = f - 1075; omega)), twice_alloc _ _ _⟩
  · go_enter Tryz.func33, Tryz.ntmps33
    go_wp2_with fail
    refine (CL.out _).mono ?_
    rintro e w' ⟨rfl, rfl⟩
    go_wp2_with fail
    (try simp only [Exit.inBlock, Exit.then])
    refine bodyPost_ret (results_cell_row rfl _ _ w.heap.size 63 _ (0, 0) _ rfl (heap_alloc2_old _ _ _) Tryz.underlying63 rfl (by kernel_rfl)) rfl ?_
    exact ⟨ret_parts rfl rfl (by rw [DM.out]; rfl) (by rw [DE.out]; first | rfl | (show _ = f - 1075; omega)), twice_alloc _ _ _⟩
  · go_enter Tryz.func33, Tryz.ntmps33
    go_wp2_with fail
    refine (CL.out _).mono ?_
    rintro e w' ⟨rfl, rfl⟩
    go_wp2_with fail
    refine (FL.out _).mono ?_
    rintro e w' ⟨rfl, rfl⟩
    go_wp2_with fail
    (try simp only [Exit.inBlock, Exit.then])
    refine bodyPost_ret (results_cell_row rfl _ _ w.heap.size 63 _ (0, 0) _ rfl (heap_alloc2_old _ _ _) Tryz.underlying63 rfl (by kernel_rfl)) rfl ?_
    exact ⟨ret_parts rfl rfl (by rw [DM.out]; rfl) (by rw [DE.out]; first | rfl | (show _ = f - 1075; omega)), twice_alloc _ _ _⟩
  · go_enter Tryz.func33, Tryz.ntmps33
    go_wp2_with fail
    refine (CL.out _).mono ?_
    rintro e w' ⟨rfl, rfl⟩
    go_wp2_with fail
    (try simp only [Exit.inBlock, Exit.then])
    refine bodyPost_ret (results_cell_row rfl _ _ w.heap.size 63 _ (0, 0) _ rfl (heap_alloc2_old _ _ _) Tryz.underlying63 rfl (by kernel_rfl)) rfl ?_
    exact ⟨ret_parts rfl rfl (by rw [DM.out]; rfl) (by rw [DE.out]; first | rfl | (show _ = f - 1075; omega)), twice_alloc _ _ _⟩
  · go_enter Tryz.func33, Tryz.ntmps33
    go_wp2_with fail
    refine (CL.out _).mono ?_
    rintro e w' ⟨rfl, rfl⟩
    go_wp2_with fail
    (try simp only [Exit.inBlock, Exit.then])
    refine bodyPost_ret (results_cell_row rfl _ _ w.heap.size 63 _ (0, 0) _ rfl (heap_alloc2_old _ _ _) Tryz.underlying63 rfl (by kernel_rfl)) rfl ?_
    exact ⟨ret_parts rfl rfl (by rw [DM.out]; rfl) (by rw [DE.out]; first | rfl | (show _ = f - 1075; omega)), twice_alloc _ _ _⟩
end Go.Proofs.YtobiapniidaibaaGreatDoor

namespace Go.Proofs.YtobiapniidaibaaGreatDoor
open Go.RowKit Go.Deep

def sgn (b : Bool) : Int := if b then 1 else -1

theorem sign_any (b : Bool) (w : World) : Calls Tryz.prog 151 #[.bool b] w fun e w' => e = .returned (.int .i64 (sgn b)) ∧ w' = w := by
  cases b
  · go_enter Tryz.func151, Tryz.ntmps151
    go_wp2
    go_ret
    exact ⟨rfl, rfl⟩
  · go_enter Tryz.func151, Tryz.ntmps151
    go_wp2
    go_ret
    exact ⟨rfl, rfl⟩

theorem cmp_at {zs ys : List Int} (hz : Nm.Limbs zs) (hy : Nm.Limbs ys) (hl : (Nm.trim zs).length = (Nm.trim ys).length) (t : Nat) (ht : t < (Nm.trim zs).length) (he : ∀ i, t + 1 ≤ i → (Nm.trim zs).getD i 0 = (Nm.trim ys).getD i 0) {x y : Int}
    (hx : x = (Nm.trim zs).getD t 0) (hy' : y = (Nm.trim ys).getD t 0) (hxy : x ≠ y) : sgn (decide (y < x)) = cmpI (Nm.val zs) (Nm.val ys) := by
  have hd := Nm.drop_eq_of_getD hl (t + 1) he
  rw [← Nm.val_trim zs, ← Nm.val_trim ys]
  by_cases h : y < x
  · rw [cmpI_gt (Nm.val_lt_at hy.trim hz.trim t (by omega) hl.symm (by rw [← hx, ← hy']; exact h) hd.symm)]
    simp [sgn, h]
  · rw [cmpI_lt (Nm.val_lt_at hz.trim hy.trim t ht hl (by rw [← hx, ← hy']; omega) hd)]
    simp [sgn, h]

set_option maxHeartbeats 1000000 in
theorem cmp_any (p q : Option Addr) (n cap m cap' : Nat) (zs ys : List Int) (w : World) (ha : Arg w p n cap zs) (hb : Arg w q m cap' ys) :
    Calls Tryz.prog 135 #[.slice p n cap, .slice q m cap'] w fun e w' => e = .returned (.int .i64 (cmpI (Nm.val zs) (Nm.val ys))) ∧ Below w.heap.size w w' := by
  obtain ⟨a1, a2, a3, a4, a5⟩ := ha
  obtain ⟨b1, b2, b3, b4, b5⟩ := hb
  have tl := Nm.tsize_le zs
  have tl' := Nm.tsize_le ys
  by_cases h1 : Nm.tsize zs < Nm.tsize ys
  · have E := hid (cmpI_lt (val_lt_of_tsize a5 b5 h1))
    have E' : Hid (sgn (decide (Nm.tsize ys < Nm.tsize zs)) = -1) := by simp [Hid, sgn]; omega
    have h1' : ((Nm.tsize zs : Int) != (Nm.tsize ys : Int)) = true := by rw [bne_iff_ne]; omega
    go_enter Tryz.func135, Tryz.ntmps135
    go_wp2_with fail
    refine (trimmed_any p n cap zs _ a1 a2 (by omega) a4).mono ?_
    rintro e w' ⟨rfl, rfl⟩
    go_wp2_with fail
    refine (trimmed_any q m cap' ys _ b1 b2 (by omega) b4).mono ?_
    rintro e w' ⟨rfl, rfl⟩
    go_wp2_with fail
    refine (sign_any _ _).mono ?_
    rintro e w' ⟨rfl, rfl⟩
    go_wp2
    go_ret
    exact ⟨ret_i64 (by rw [E.out]; first | exact E'.out | simp [sgn]), Below.refl _ _⟩
  by_cases h2 : Nm.tsize ys < Nm.tsize zs
  · have E := hid (cmpI_gt (val_lt_of_tsize b5 a5 h2))
    have E' : Hid (sgn (decide (Nm.tsize ys < Nm.tsize zs)) = 1) := by simp [Hid, sgn, h2]
    have h1' : ((Nm.tsize zs : Int) != (Nm.tsize ys : Int)) = true := by rw [bne_iff_ne]; omega
    go_enter Tryz.func135, Tryz.ntmps135
    go_wp2_with fail
    refine (trimmed_any p n cap zs _ a1 a2 (by omega) a4).mono ?_
    rintro e w' ⟨rfl, rfl⟩
    go_wp2_with fail
    refine (trimmed_any q m cap' ys _ b1 b2 (by omega) b4).mono ?_
    rintro e w' ⟨rfl, rfl⟩
    go_wp2_with fail
    refine (sign_any _ _).mono ?_
    rintro e w' ⟨rfl, rfl⟩
    go_wp2
    go_ret
    exact ⟨ret_i64 (by rw [E.out]; first | exact E'.out | simp [sgn]), Below.refl _ _⟩
  obtain ⟨N, HN⟩ : ∃ N, Hid (Nm.tsize zs = N) := ⟨_, rfl⟩
  have HN' : Hid (Nm.tsize ys = N) := by have := HN.out; exact (show Nm.tsize ys = N by omega)
  have T1 := trimmed_any p n cap zs w a1 a2 (by omega) a4
  have T2 := trimmed_any q m cap' ys w b1 b2 (by omega) b4
  rw [HN.out] at T1
  rw [HN'.out] at T2
  have hN : N ≤ 17592186044416 := by have := HN.out; omega
  have L1 := hid (Nm.trim_length zs)
  have L2 := hid (Nm.trim_length ys)
  clear h1 h2 tl tl'
  have fin : Nm.trim zs = Nm.trim ys → cmpI (Nm.val zs) (Nm.val ys) = 0 := fun h => cmpI_eq (by rw [← Nm.val_trim zs, ← Nm.val_trim ys, h])
  have FIN := hid fin
  clear fin
  by_cases h0 : N = 0
  · have HT1 := hid T1
    have HT2 := hid T2
    clear T1 T2
    subst h0
    go_enter Tryz.func135, Tryz.ntmps135
    go_wp2_with fail
    refine HT1.out.mono ?_
    rintro e w' ⟨rfl, rfl⟩
    go_wp2_with fail
    refine HT2.out.mono ?_
    rintro e w' ⟨rfl, rfl⟩
    go_wp2_with fail
    refine wp_loop_rounds 1 ?_
    rw [rounds_succ]
    go_wp2
    go_ret
    exact ⟨ret_i64 (FIN.out (by rw [List.eq_nil_of_length_eq_zero (L1.out.trans HN.out), List.eq_nil_of_length_eq_zero (L2.out.trans HN'.out)])).symm, Below.refl _ _⟩
  · obtain ⟨b, off, rfl, hbw, HC⟩ := a4.trim.at (by have := L1.out; have := HN.out; omega)
    obtain ⟨b', off', rfl, hbw', HC'⟩ := b4.trim.at (by have := L2.out; have := HN'.out; omega)
    have HT1 := hid T1
    have HT2 := hid T2
    clear T1 T2
    go_enter Tryz.func135, Tryz.ntmps135
    go_wp2_with fail
    refine HT1.out.mono ?_
    rintro e w' ⟨rfl, rfl⟩
    go_wp2_with fail
    refine HT2.out.mono ?_
    rintro e w' ⟨rfl, rfl⟩
    go_wp2_with fail
    go_loopw [5] (fun i wr => ∃ j : Nat, j ≤ N ∧ i = .int .i64 ((j : Int) - 1) ∧ Hid (∀ t, j ≤ t → (Nm.trim zs).getD t 0 = (Nm.trim ys).getD t 0) ∧ Below w'.heap.size w' wr) (fun i _ => (intOf i + 1).toNat)
    case atStart => exact ⟨N, Nat.le_refl _, rfl, fun t ht => by rw [List.getD, List.getElem?_eq_none (by have := L1.out; have := HN.out; omega), List.getD, List.getElem?_eq_none (by have := L2.out; have := HN'.out; omega)], Below.refl _ _⟩
    case round =>
      obtain ⟨j, hj, rfl, hE, hB⟩ := hrel
      by_cases hj0 : j = 0
      · subst hj0
        have HB := hid hB
        clear hB
        go_wp2
        go_ret
        refine ⟨ret_i64 (FIN.out ?_).symm, HB.out⟩
        have e := Nm.drop_eq_of_getD (by rw [L1.out, L2.out, HN.out, HN'.out]) 0 hE.out
        simpa using e
      · obtain ⟨t, rfl⟩ : ∃ t, j = t + 1 := ⟨j - 1, by omega⟩
        obtain ⟨x, hx, X⟩ : ∃ x, wr.cell? ⟨b, off + t, none⟩ = some (.int .u64 x) ∧ Hid (x = (Nm.trim zs).getD t 0) := ⟨_, (hB.cell (p := ⟨b, off + t, none⟩) hbw).trans (HC.out t (by have := L1.out; have := HN.out; omega)), rfl⟩
        obtain ⟨y, hy, Y⟩ : ∃ y, wr.cell? ⟨b', off' + t, none⟩ = some (.int .u64 y) ∧ Hid (y = (Nm.trim ys).getD t 0) := ⟨_, (hB.cell (p := ⟨b', off' + t, none⟩) hbw').trans (HC'.out t (by have := L2.out; have := HN'.out; omega)), rfl⟩
        have HB := hid hB
        clear hB
        have htN : (t : Int) < (N : Int) := by omega
        by_cases hxy : x = y
        · have hxy' : (x != y) = false := by simp [hxy]
          have HXY := hid hxy
          clear hxy
          go_wp2_with fail
          go_quiet (fail)
          go_wp2
          go_roundw
          case rel =>
            refine ⟨t, by omega, by go_num, fun i hi => ?_, below_drewN HB.out _⟩
            by_cases e : i = t
            · subst e; rw [← X.out, ← Y.out]; exact HXY.out
            · exact hE.out i (by omega)
          case measure => simp [intOf]
        · have hxy' : (x != y) = true := by simp [hxy]
          have HXY := hid hxy
          clear hxy
          go_wp2_with fail
          go_quiet (fail)
          have hx2 : (wr.drewN nq).cell? ⟨b, off + t, none⟩ = some (.int .u64 x) := hx
          have hy2 : (wr.drewN nq).cell? ⟨b', off' + t, none⟩ = some (.int .u64 y) := hy
          have HB2 := hid (below_drewN HB.out nq)
          clear hx hy HB
          generalize wr.drewN nq = wq at *
          go_wp2_with fail
          go_quiet ((go_at_call 151; exact Calls.quiet_of_same (sign_any _ _)))
          go_wp2
          go_ret
          exact ⟨ret_i64 (cmp_at a5 b5 (by rw [L1.out, L2.out, HN.out, HN'.out]) t (by rw [L1.out, HN.out]; omega) hE.out X.out Y.out HXY.out), below_drewN HB2.out _⟩

end Go.Proofs.YtobiapniidaibaaGreatDoor

namespace Go.Proofs.YtobiapniidaibaaGreatDoor
open Go.RowKit Go.Deep

theorem cmp_is (c : Int) (p q : Option Addr) (n cap m cap' : Nat) (zs ys : List Int) (w : World) (ha : Arg w p n cap zs) (hb : Arg w q m cap' ys) (hc : cmpI (Nm.val zs) (Nm.val ys) = c) :
    Calls Tryz.prog 135 #[.slice p n cap, .slice q m cap'] w fun e w' => e = .returned (.int .i64 c) ∧ Below w.heap.size w w' := by
  rw [← hc]
  exact cmp_any p q n cap m cap' zs ys w ha hb
end Go.Proofs.YtobiapniidaibaaGreatDoor

namespace Go.Proofs.YtobiapniidaibaaGreatDoor
open Go Go.RowKit Go.Deep

theorem Ie.fdec (d : Int) (h : Ie.cls d < 3) : 0 ≤ Ie.dm d ∧ Ie.dm d < 9007199254740992 ∧ -1074 ≤ Ie.de d ∧ Ie.de d ≤ 971 ∧ (Ie.cls d = 0 ↔ Ie.dm d = 0) := by
  have fb := Ie.fld_bd d
  unfold Ie.dm Ie.de
  unfold Ie.cls at *
  by_cases a : Ie.fld d = 0
  · rw [if_pos a] at *
    by_cases b : d % 4503599627370496 = 0
    · simp only [if_pos b]
      simp
    · simp only [if_neg b]
      simp
      omega
  · rw [if_neg a] at *
    by_cases b : Ie.fld d = 2047
    · rw [if_pos b] at *
      by_cases c : d % 4503599627370496 = 0
      · rw [if_pos c] at h; omega
      · rw [if_neg c] at h; omega
    · simp only [if_neg b]
      simp
      omega

theorem fretB {a b : Bool} (h : a = b) : Ending.returned (.bool a) = .returned (.bool b) := by rw [h]

/-- No NaN and no infinity. -/
def Ie.fnt (d : Int) : Bool := decide (Ie.cls d < 3)

set_option maxRecDepth 100000 in
theorem ffinite_any (d : Int) (w : World) (h0 : 0 ≤ d) (h1 : d < 18446744073709551616) :
    Calls Tryz.prog 24 #[.int .u64 d] w fun e w' => e = .returned (.bool (Ie.fnt d)) ∧ w' = w := by
  have C := hid (class_any d w h0 h1)
  have E : Hid (Ie.fnt d = decide (Ie.cls d < 3)) := rfl
  generalize Ie.cls d = c at *
  go_enter Tryz.func24, Tryz.ntmps24
  go_wp2_with fail
  refine C.out.mono ?_
  rintro e w' ⟨rfl, rfl⟩
  go_wp2_with fail
  go_ret
  exact ⟨fretB E.out.symm, rfl⟩
end Go.Proofs.YtobiapniidaibaaGreatDoor
