/-
  THE REFERENCE's Same; the law's copied.
-/
import Derived.Test.YtggiioipppbedaaGreatDoorZRef1A
namespace Go.Proofs.YtggiioipppbedaaGreatDoor
open Go.RowKit Go.Deep

set_option maxRecDepth 100000 in
set_option maxHeartbeats 1000000 in
theorem refSame_any (p q : Option Addr) (n cap m cap' : Nat) (zs ys : List Int) (w : World) (ha : Arg w p n cap zs) (hb : Arg w q m cap' ys) :
    Calls Tryz.prog 10 #[.slice p n cap, .slice q m cap'] w fun e w' => e = .returned (.bool (decide (zs = ys))) ∧ Below w.heap.size w w' := by
  obtain ⟨a1, a2, a3, a4, a5⟩ := ha
  obtain ⟨b1, b2, b3, b4, b5⟩ := hb
  by_cases h1 : n = m
  · subst h1
    by_cases h0 : n = 0
    · subst h0
      have E : Hid (decide (zs = ys) = true) := by
        have e1 : zs = [] := List.eq_nil_of_length_eq_zero a1
        have e2 : ys = [] := List.eq_nil_of_length_eq_zero b1
        simp [Hid, e1, e2]
      clear a1 b1 a4 b4 a5 b5
      go_enter Tryz.func10, Tryz.ntmps10
      go_wp2_with fail
      refine wp_loop_rounds 1 ?_
      rw [rounds_succ]
      go_wp2
      go_ret
      exact ⟨ret_bool E.out.symm, Below.refl _ _⟩
    · obtain ⟨b, off, rfl, hbw, HC⟩ := a4.at (by omega)
      obtain ⟨b', off', rfl, hbw', HC'⟩ := b4.at (by omega)
      have A1 := hid a1
      have B1 := hid b1
      clear a1 b1 a4 b4 a5 b5
      go_enter Tryz.func10, Tryz.ntmps10
      go_wp2_with fail
      go_loopw [5] (fun i wr => ∃ j : Nat, j ≤ n ∧ i = .int .i64 j ∧ Hid (∀ t, t < j → zs.getD t 0 = ys.getD t 0) ∧ Below w.heap.size w wr) (fun i _ => n - (intOf i).toNat)
      case atStart => exact ⟨0, Nat.zero_le _, rfl, fun t ht => by omega, Below.refl _ _⟩
      case round =>
        obtain ⟨j, hj, rfl, hE, hB⟩ := hrel
        by_cases hlt : j < n
        · obtain ⟨x, hx, X⟩ : ∃ x, wr.cell? ⟨b, off + j, none⟩ = some (.int .u64 x) ∧ Hid (x = zs.getD j 0) := ⟨_, (hB.cell (p := ⟨b, off + j, none⟩) hbw).trans (HC.out j (by have := A1.out; omega)), rfl⟩
          obtain ⟨y, hy, Y⟩ : ∃ y, wr.cell? ⟨b', off' + j, none⟩ = some (.int .u64 y) ∧ Hid (y = ys.getD j 0) := ⟨_, (hB.cell (p := ⟨b', off' + j, none⟩) hbw').trans (HC'.out j (by have := B1.out; omega)), rfl⟩
          have HB := hid hB
          clear hB
          have hlt' : (j : Int) < (n : Int) := by omega
          by_cases hxy : x = y
          · have hxy' : (x != y) = false := by simp [hxy]
            have HXY := hid hxy
            clear hxy
            go_wp2_with fail
            go_quiet (fail)
            go_wp2
            go_roundw
            case rel =>
              refine ⟨j + 1, by omega, by go_num, fun i hi => ?_, below_drewN HB.out _⟩
              by_cases e : i = j
              · subst e; rw [← X.out, ← Y.out]; exact HXY.out
              · exact hE.out i (by omega)
            case measure => simp [intOf]; omega
          · have hxy' : (x != y) = true := by simp [hxy]
            have E : Hid (decide (zs = ys) = false) := by
              simp only [Hid, decide_eq_false_iff_not]
              intro e
              rw [e] at X
              exact hxy (X.out.trans Y.out.symm)
            clear hxy
            go_wp2_with fail
            go_quiet (fail)
            go_wp2
            go_ret
            exact ⟨ret_bool E.out.symm, below_drewN HB.out _⟩
        · have HB := hid hB
          clear hB
          have E : Hid (decide (zs = ys) = true) := by
            simp only [Hid, decide_eq_true_eq]
            apply List.ext_getElem (by rw [A1.out, B1.out])
            intro i h1 h2
            have := hE.out i (by have := A1.out; omega)
            simpa [List.getD, h1, h2] using this
          go_wp2
          go_ret
          exact ⟨ret_bool E.out.symm, HB.out⟩
  · have h1' : ((n : Int) != (m : Int)) = true := by rw [bne_iff_ne]; omega
    have E : Hid (decide (zs = ys) = false) := by
      simp only [Hid, decide_eq_false_iff_not]
      intro e
      rw [e] at a1
      omega
    clear a1 b1
    go_enter Tryz.func10, Tryz.ntmps10
    go_wp2_with fail
    go_ret
    exact ⟨ret_bool E.out.symm, Below.refl _ _⟩



theorem refSame_is (s : Bool) (p q : Option Addr) (n cap m cap' : Nat) (zs ys : List Int) (w : World) (ha : Arg w p n cap zs) (hb : Arg w q m cap' ys) (hs : decide (zs = ys) = s) :
    Calls Tryz.prog 10 #[.slice p n cap, .slice q m cap'] w fun e w' => e = .returned (.bool s) ∧ Below w.heap.size w w' := by
  rw [← hs]
  exact refSame_any p q n cap m cap' zs ys w ha hb

/-- copied: the same limbs in a block of its own. -/
theorem copied_any (p : Option Addr) (n cap : Nat) (zs : List Int) (w : World) (ha : Arg w p n cap zs) :
    Calls Tryz.prog 6 #[.slice p n cap] w fun e w' => e = .returned (.slice (some ⟨w.heap.size, 0, none⟩) n n) ∧ Own w' w.heap.size zs ∧ Below w.heap.size w w' ∧ w'.heap.size = w.heap.size + 1 := by
  obtain ⟨a1, a2, a3, a4, a5⟩ := ha
  have hn : n ≤ 17592186044000 := by omega
  have hmk := make64_room n (by omega) w
  have bm : Below w.heap.size w (w.alloc (.cells (madeCells #[.int .u64 0] n) 25)) := (Below.refl _ _).alloc (Nat.le_refl _) _
  obtain ⟨w1, ap, ow, be, sz⟩ := append64 w.heap.size n 0 (List.replicate n 0) p n cap zs 28 _ (by simp) a1 (by omega) (by have := Grown.made w n; simpa [Grown] using this) (a4.below bm (Nat.le_refl _))
  rw [Nat.zero_add] at ap
  have OW : Hid (Own w1 w.heap.size zs) := by
    have := ow
    simp only [List.take_zero, List.nil_append, Nat.zero_add, List.drop_replicate, Nat.sub_self, List.replicate_zero, List.append_nil] at this
    exact this
  have BE := hid (bm.trans be)
  have SZ : Hid (w1.heap.size = w.heap.size + 1) := by rw [Hid, sz, World.size_alloc]
  have AP := hid ap
  clear ap ow be sz bm a1 a2 a4 a5
  go_enter Tryz.func6, Tryz.ntmps6
  go_wp2_with (at_builtin; refine wpList_append_row rfl _ _ rfl AP.out (by rfl) (by rfl) ?_; clear AP)
  go_ret
  exact ⟨rfl, OW.out, BE.out, SZ.out⟩

end Go.Proofs.YtggiioipppbedaaGreatDoor
