import Derived.Test.YtmihjiiagpkciaaDoorQTop
/-
  The law's alike.
-/
namespace Go.Proofs.YtmihjiiagpkciaaDoor
open Go.RowKit Go.Deep

set_option maxHeartbeats 1000000 in
/-- Limb by limb. -/
theorem alike_any (p q : Option Addr) (n cap m cap' : Nat) (zs ys : List Int) (w : World) (ha : Arg w p n cap zs) (hb : Arg w q m cap' ys) :
    Calls Tryd.prog 9 #[.slice p n cap, .slice q m cap'] w fun e w' => e = .returned (.bool (decide (zs = ys))) ∧ Below w.heap.size w w' := by
  obtain ⟨a1, a2, a3, a4, a5⟩ := ha
  obtain ⟨b1, b2, b3, b4, b5⟩ := hb
  by_cases h1 : n = m
  · subst h1
    by_cases h0 : n = 0
    · subst h0
      have E : Hid (decide (zs = ys) = true) := by
        have e1 : zs = [] := List.eq_nil_of_length_eq_zero a1
        have e2 : ys = [] := List.eq_nil_of_length_eq_zero b1
        simp [Hid, e1, e2]
      clear a1 b1 a4 b4 a5 b5
      go_enter Tryd.func9, Tryd.ntmps9
      go_wp2_with fail
      refine wp_loop_rounds 1 ?_
      rw [rounds_succ]
      go_wp2
      go_ret
      exact ⟨ret_bool E.out.symm, Below.refl _ _⟩
    · obtain ⟨b, off, rfl, hbw, HC⟩ := a4.at (by omega)
      obtain ⟨b', off', rfl, hbw', HC'⟩ := b4.at (by omega)
      have A1 := hid a1
      have B1 := hid b1
      clear a1 b1 a4 b4 a5 b5
      go_enter Tryd.func9, Tryd.ntmps9
      go_wp2_with fail
      go_loopw [5] (fun i wr => ∃ j : Nat, j ≤ n ∧ i = .int .i64 j ∧ Hid (∀ t, t < j → zs.getD t 0 = ys.getD t 0) ∧ Below w.heap.size w wr) (fun i _ => n - (intOf i).toNat)
      case atStart => exact ⟨0, Nat.zero_le _, rfl, fun t ht => by omega, Below.refl _ _⟩
      case round =>
        obtain ⟨j, hj, rfl, hE, hB⟩ := hrel
        by_cases hlt : j < n
        · obtain ⟨x, hx, X⟩ : ∃ x, wr.cell? ⟨b, off + j, none⟩ = some (.int .u64 x) ∧ Hid (x = zs.getD j 0) := ⟨_, (hB.cell (p := ⟨b, off + j, none⟩) hbw).trans (HC.out j (by have := A1.out; omega)), rfl⟩
          obtain ⟨y, hy, Y⟩ : ∃ y, wr.cell? ⟨b', off' + j, none⟩ = some (.int .u64 y) ∧ Hid (y = ys.getD j 0) := ⟨_, (hB.cell (p := ⟨b', off' + j, none⟩) hbw').trans (HC'.out j (by have := B1.out; omega)), rfl⟩
          have HB := hid hB
          clear hB
          have hlt' : (j : Int) < (n : Int) := by omega
          by_cases hxy : x = y
          · have hxy' : (x != y) = false := by simp [hxy]
            have HXY := hid hxy
            clear hxy
            go_wp2_with fail
            go_quiet (fail)
            go_wp2
            go_roundw
            case rel =>
              refine ⟨j + 1, by omega, by go_num, fun i hi => ?_, below_drewN HB.out _⟩
              by_cases e : i = j
              · subst e; rw [← X.out, ← Y.out]; exact HXY.out
              · exact hE.out i (by omega)
            case measure => simp [intOf]; omega
          · have hxy' : (x != y) = true := by simp [hxy]
            have E : Hid (decide (zs = ys) = false) := by
              simp only [Hid, decide_eq_false_iff_not]
              intro e
              rw [e] at X
              exact hxy (X.out.trans Y.out.symm)
            clear hxy
            go_wp2_with fail
            go_quiet (fail)
            go_wp2
            go_ret
            exact ⟨ret_bool E.out.symm, below_drewN HB.out _⟩
        · have HB := hid hB
          clear hB
          have E : Hid (decide (zs = ys) = true) := by
            simp only [Hid, decide_eq_true_eq]
            apply List.ext_getElem (by rw [A1.out, B1.out])
            intro i h1 h2
            have := hE.out i (by have := A1.out; omega)
            simpa [List.getD, h1, h2] using this
          go_wp2
          go_ret
          exact ⟨ret_bool E.out.symm, HB.out⟩
  · have h1' : ((n : Int) != (m : Int)) = true := by rw [bne_iff_ne]; omega
    have E : Hid (decide (zs = ys) = false) := by
      simp only [Hid, decide_eq_false_iff_not]
      intro e
      rw [e] at a1
      omega
    clear a1 b1
    go_enter Tryd.func9, Tryd.ntmps9
    go_wp2_with fail
    go_ret
    exact ⟨ret_bool E.out.symm, Below.refl _ _⟩


theorem alike_is (s : Bool) (p q : Option Addr) (n cap m cap' : Nat) (zs ys : List Int) (w : World) (ha : Arg w p n cap zs) (hb : Arg w q m cap' ys) (hs : decide (zs = ys) = s) :
    Calls Tryd.prog 9 #[.slice p n cap, .slice q m cap'] w fun e w' => e = .returned (.bool s) ∧ Below w.heap.size w w' := by
  rw [← hs]
  exact alike_any p q n cap m cap' zs ys w ha hb

end Go.Proofs.YtmihjiiagpkciaaDoor
