/-
  quick: Small, over the table of the powers of ten.
-/
import Derived.Test.YthgjflfeilbbbaaGreatDoorKRows
import Derived.Test.YthgjflfeilbbbaaGreatDoorIRatio
namespace Go.Proofs.YthgjflfeilbbbaaGreatDoor
open Go Go.RowKit Go.Deep

/-- The table of the powers of ten that are doubles. -/
def Tens (w : World) : Prop := ∀ j : Nat, j < 23 → w.cell? ⟨0, j * 2, none⟩ = some (.int .u64 (lo64 (10 ^ j))) ∧ w.cell? ⟨0, j * 2 + 1, none⟩ = some (.int .u64 (hi64 (10 ^ j)))
theorem Tens.below {w w' : World} (h : Tens w) (hb : Below w.heap.size w w') : Tens w' := by
  intro j hj
  have hc := h j hj
  rw [hb.cell (p := ⟨0, j * 2, none⟩) (cell_lt hc.1), hb.cell (p := ⟨0, j * 2 + 1, none⟩) (cell_lt hc.2)]
  exact hc

def SmallTold (v q : Int) (w : World) (e : Ending) (w' : World) : Prop :=
  ((v ≤ 9007199254740992 ∧ -22 ≤ q ∧ q ≤ 22 ∧ ∃ x, e = .returned (.tuple #[.int .u64 x, .bool true]) ∧ Ie.Rnd (v * 10 ^ q.toNat) (10 ^ (-q).toNat) 0 false x) ∨
    ((9007199254740992 < v ∨ q < -22 ∨ 22 < q) ∧ e = .returned (.tuple #[.int .u64 0, .bool false]))) ∧ Below w.heap.size w w'

theorem ten_bd {j : Nat} (h : j < 23) : 0 < (10 : Int) ^ j ∧ (10 : Int) ^ j < 340282366920938463463374607431768211456 := by
  refine ⟨Int.pow_pos (by decide), ?_⟩
  have h1 := Nat.pow_le_pow_right (show 0 < 10 by decide) (show j ≤ 22 by omega)
  have e : ∀ k : Nat, ((10 ^ k : Nat) : Int) = 10 ^ k := by intro k; simp
  have e1 := e j
  have e2 := e 22
  have e3 : (10 : Int) ^ 22 = 10000000000000000000000 := by decide +kernel
  omega

set_option maxRecDepth 100000 in
set_option maxHeartbeats 1000000 in
theorem small_any9 (v q : Int) (w : World) (hT : Tab w) (hX : Tens w) (hv : Bd v) :
    Calls Tryz.prog 20 #[.int .u64 v, .int .i64 q] w fun e w' => SmallTold v q w e w' := by
  by_cases h : v ≤ 9007199254740992 ∧ -22 ≤ q ∧ q ≤ 22
  · by_cases h0 : 0 ≤ q
    · obtain ⟨j, hj⟩ := Int.eq_ofNat_of_zero_le h0
      have tb := ten_bd (show j < 23 by omega)
      have bs := bd_split (P := 10 ^ j) (by omega) tb.2
      have TM := hid (fun wx => times_any v (lo64 (10 ^ j)) (hi64 (10 ^ j)) wx hv bs.1 bs.2)
      rw [n2_split] at TM
      obtain ⟨c0, c1⟩ := hX j (by omega)
      have PR := hid (fun (a b c : Int) (wx : World) (hb : Below w.heap.size w wx) (hh : Bd a ∧ Bd b ∧ Bd c) => pround_any a b c 0 wx (hT.below hb) hh)
      have FF : Hid (∀ x w', Ie.Rnd (v * 10 ^ j) 1 0 false x → Below w.heap.size w w' → SmallTold v q w (.returned (.tuple #[.int .u64 x, .bool true])) w') := fun x w' r b => ⟨.inl ⟨h.1, h.2.1, h.2.2, x, rfl, by rw [show q.toNat = j by omega, show (-q).toNat = 0 by omega]; exact r⟩, b⟩
      have a0 : (j : Int) ≤ 22 := by omega
      have a1 : v ≤ 9007199254740992 := h.1
      have a2 : 0 ≤ v := hv.1
      subst hj
      clear h hT hX hv tb bs h0
      unfold wideV prodV at *
      generalize lo64 (10 ^ j) = x at *
      generalize hi64 (10 ^ j) = y at *
      go_enter Tryz.func20, Tryz.ntmps20
      go_wp2_with fail
      with_reducible refine (TM.out _).mono ?_
      rintro e w1 ⟨a, b, c, rfl, hbd, hn, hB⟩
      have BD := hid hbd
      have NN := hid hn
      have HB := hid hB
      clear hbd hn TM
      go_wp2_with fail
      with_reducible refine (PR.out a b c _ hB BD.out).mono ?_
      rintro e w2 ⟨z, rfl, hR, hB2⟩
      rw [NN.out] at hR
      have F := hid (FF.out z w2 hR (below_on HB.out hB2))
      clear hB hB2 hR FF PR
      go_wp2_with fail
      go_ret2
      exact F.out
    · obtain ⟨j, hj⟩ := Int.eq_ofNat_of_zero_le (show 0 ≤ -q by omega)
      have tb := ten_bd (show j < 23 by omega)
      have bs := bd_split (P := 10 ^ j) (by omega) tb.2
      obtain ⟨c0, c1⟩ := hX j (by omega)
      have RR : Hid (∀ wx, wx = ((w.alloc (.cells #[.int .u64 (lo64 (10 ^ j)), .int .u64 (hi64 (10 ^ j))] 52)).alloc (.cells #[.int .u64 v] 25)) → Calls Tryz.prog 43 #[.bool false, .slice (some ⟨w.heap.size + 1, 0, none⟩) 1 1, .slice (some ⟨w.heap.size, 0, none⟩) 2 2, .int .i64 0] wx fun e w' => ∃ x, e = .returned (.tuple #[.int .u64 x, .int .i64 0]) ∧ Ie.Rnd v (10 ^ j) 0 false x ∧ Below w.heap.size w w') := by
        intro wx hw
        subst hw
        have b2 : Below w.heap.size w ((w.alloc (.cells #[.int .u64 (lo64 (10 ^ j)), .int .u64 (hi64 (10 ^ j))] 52)).alloc (.cells #[.int .u64 v] 25)) := below_on (alloc_b _ _) (alloc_b _ _)
        refine (roundRatio_any false _ _ 1 1 2 2 [v] [lo64 (10 ^ j), hi64 (10 ^ j)] _ (arg_lit9 (heap_alloc2_new _ _ _) hv.1 hv.2) (At2.arg (heap_alloc2_old _ _ _) bs.1.1 bs.1.2 bs.2.1 bs.2.2) (hT.below b2) (Nat.le_trans (Nm.tsize_le _) (by simp)) (Nat.le_trans (Nm.tsize_le _) (by simp)) v (10 ^ j) 0 (by simp [Nm.val]) (by rw [n2_val, n2_split]) tb.1).mono ?_
        rintro e w' ⟨x, rfl, r, hB⟩
        exact ⟨x, by unfold Ie.sg; rfl, r, below_on b2 hB⟩
      have FF : Hid (∀ x w', Ie.Rnd v (10 ^ j) 0 false x → Below w.heap.size w w' → SmallTold v q w (.returned (.tuple #[.int .u64 x, .bool true])) w') := fun x w' r b => ⟨.inl ⟨h.1, h.2.1, h.2.2, x, rfl, by rw [show q.toNat = 0 by omega, show (-q).toNat = j by omega, Int.pow_zero, Int.mul_one]; exact r⟩, b⟩
      have a0 : (j : Int) ≤ 22 := by omega
      have a1 : v ≤ 9007199254740992 := h.1
      have a2 : 0 ≤ v := hv.1
      have a3 : -22 ≤ q := h.2.1
      have a4 : q < 0 := by omega
      clear h hT hX hv tb bs h0
      generalize lo64 (10 ^ j) = x at *
      generalize hi64 (10 ^ j) = y at *
      go_enter Tryz.func20, Tryz.ntmps20
      go_wp2_with fail
      with_reducible refine (RR.out _ rfl).mono ?_
      rintro e w2 ⟨z, rfl, hR, hB2⟩
      have F := hid (FF.out z w2 hR hB2)
      clear hB2 hR FF RR
      go_wp2_with fail
      go_ret2
      exact F.out
  · have F : Hid (SmallTold v q w (.returned (.tuple #[.int .u64 0, .bool false])) w) := ⟨.inr ⟨by omega, rfl⟩, Below.refl _ _⟩
    clear hT hX hv
    by_cases k1 : 9007199254740992 < v
    · clear h
      go_enter Tryz.func20, Tryz.ntmps20
      go_wp2_with fail
      go_ret2
      exact F.out
    · by_cases k2 : q ≤ -23
      · clear h
        go_enter Tryz.func20, Tryz.ntmps20
        go_wp2_with fail
        go_ret2
        exact F.out
      · have k3 : 23 ≤ q := by omega
        clear h
        go_enter Tryz.func20, Tryz.ntmps20
        go_wp2_with fail
        go_ret2
        exact F.out
end Go.Proofs.YthgjflfeilbbbaaGreatDoor
