/-
  code: effect.
-/
import Derived.Test.YtnobafmleellhabDoorCdB
namespace Go.Proofs.YtnobafmleellhabDoor
open Go Go.RowKit Go.Deep

theorem Cd.ef_no {x : Cd.In} (h : Cd.ok x = false) : Cd.ef x = (0, 0, false) := by unfold Cd.ef; rw [h]; rfl
theorem Cd.ef_yes {x : Cd.In} (h : Cd.ok x = true) : Cd.ef x = (Cd.tk x, Cd.pt x, true) := by unfold Cd.ef; rw [h]; rfl
theorem Cd.ok_word {x : Cd.In} (h : 1 ≤ x.w ∧ x.w ≤ 33) : Cd.ok x = Cd.ft (Cd.rx x) x.a x.b := by unfold Cd.ok; rw [decide_eq_true h]; rfl
theorem Cd.ok_noword {x : Cd.In} (h : ¬ (1 ≤ x.w ∧ x.w ≤ 33)) : Cd.ok x = false := by unfold Cd.ok; rw [decide_eq_false h]; rfl
theorem Cd.rx_rng (x : Cd.In) : Cd.RwR (Cd.rx x) := Cd.row_rng x.w.toNat
theorem Cd.TB.cellx {w : World} {b : Nat} {x : Cd.In} (h : Cd.TB w b) (hk : 1 ≤ x.w ∧ x.w ≤ 33) : w.cell? ⟨b, x.w.toNat * 5, none⟩ = some (.string (Cd.rx x).name) ∧ w.cell? ⟨b, x.w.toNat * 5 + 1, none⟩ = some (.int .i64 (Cd.rx x).a) ∧ w.cell? ⟨b, x.w.toNat * 5 + 2, none⟩ = some (.int .i64 (Cd.rx x).b) ∧ w.cell? ⟨b, x.w.toNat * 5 + 3, none⟩ = some (.int .i64 (Cd.rx x).takes) ∧ w.cell? ⟨b, x.w.toNat * 5 + 4, none⟩ = some (.int .i64 (Cd.rx x).puts) :=
  h.cells x.w.toNat (by omega)
set_option maxRecDepth 100000 in
set_option maxHeartbeats 4000000 in
theorem ceff_any (x : Cd.In) (w : World) (tb : Nat) (h : Cd.TB w tb) : Calls Tryd.prog 16 #[.pointer (some ⟨tb, 0, none⟩), .agg #[.int .i64 x.w, .int .i64 x.a, .int .i64 x.b]] w fun e w' => e = .returned (.tuple #[.int .i64 (Cd.ef x).1, .int .i64 (Cd.ef x).2.1, .bool (Cd.ef x).2.2]) ∧ Below w.heap.size w w' := by
  by_cases hk : 1 ≤ x.w ∧ x.w ≤ 33
  · have OK := Cd.ok_word hk
    have EN : Hid (Cd.ft (Cd.rx x) x.a x.b = false → Cd.ef x = (0, 0, false)) := fun h => Cd.ef_no (OK.trans h)
    have EY : Hid (Cd.ft (Cd.rx x) x.a x.b = true → Cd.ef x = (Cd.tkq (Cd.rx x) x.a x.b, (Cd.rx x).puts, true)) := fun h => Cd.ef_yes (OK.trans h)
    have RG := hid (fun h : Cd.ft (Cd.rx x) x.a x.b = true => Cd.tkq_rng (q := Cd.rx x) (A := x.a) (B := x.b) (Cd.rx_rng x) h)
    have TC : Hid (∀ W, Cd.TB W tb → _) := fun W hW => Cd.TB.cellx hW hk
    have FI := hid (fun W => cfits_any (Cd.rx x) x W)
    clear OK
    generalize Cd.ef x = E at *
    generalize Cd.rx x = r at *
    obtain ⟨k, a, b⟩ := x
    obtain ⟨nm, ra, rb, rt, rp⟩ := r
    simp only at hk EN EY RG TC FI ⊢
    obtain ⟨n, rfl⟩ : ∃ n : Nat, k = (n : Int) := ⟨k.toNat, by omega⟩
    rw [Int.toNat_natCast] at TC
    have n0 : 1 ≤ n := by omega
    have n34 : n < 34 := by omega
    have n34i : (n : Int) < 34 := by omega
    have ISW := hid (fun W => cisw_any (n : Int) W)
    rw [decide_eq_true hk] at ISW
    have B1 := hid (alloc_b w (.cells #[.int .i64 n, .int .i64 a, .int .i64 b] 28))
    have X1 := hid (Bx.new w 28 #[.int .i64 n, .int .i64 a, .int .i64 b])
    have T1 := hid (h.on B1.out)
    clear hk h
    have CN : Hid (∀ W, Below (w.alloc (.cells #[.int .i64 n, .int .i64 a, .int .i64 b] 28)).heap.size (w.alloc (.cells #[.int .i64 n, .int .i64 a, .int .i64 b] 28)) W → W.cell? ⟨w.heap.size, 0, none⟩ = some (.int .i64 n) ∧ W.cell? ⟨w.heap.size, 1, none⟩ = some (.int .i64 a) ∧ W.cell? ⟨w.heap.size, 2, none⟩ = some (.int .i64 b) ∧ W.cell? ⟨tb, n * 5, none⟩ = some (.string nm) ∧ W.cell? ⟨tb, n * 5 + 1, none⟩ = some (.int .i64 ra) ∧ W.cell? ⟨tb, n * 5 + 2, none⟩ = some (.int .i64 rb) ∧ W.cell? ⟨tb, n * 5 + 3, none⟩ = some (.int .i64 rt) ∧ W.cell? ⟨tb, n * 5 + 4, none⟩ = some (.int .i64 rp)) := fun W hW => by
      obtain ⟨e0, e1, e2⟩ := bx3 (X1.out.on hW)
      have t := TC.out W (T1.out.on hW)
      exact ⟨e0, e1, e2, t⟩
    go_enter Tryd.func16, Tryd.ntmps16
    go_upto_region 1 with fail
    generalize w.alloc (.cells #[.int .i64 n, .int .i64 a, .int .i64 b] 28) = w1 at *
    have U0 : Hid (Below w1.heap.size w1 w1.drew) := Below.drew (Below.refl _ _)
    clear T1 X1 TC
    cases hz : Cd.ft ⟨nm, ra, rb, rt, rp⟩ a b with
    | false =>
      have e := EN.out hz
      subst e
      rw [hz] at FI
      clear EN EY RG hz
      go_region_held3 (fun W => W.cell? ⟨w.heap.size, 0, none⟩ = some (.int .i64 n) ∧ W.cell? ⟨w.heap.size, 1, none⟩ = some (.int .i64 a) ∧ W.cell? ⟨w.heap.size, 2, none⟩ = some (.int .i64 b) ∧ W.cell? ⟨tb, n * 5, none⟩ = some (.string nm) ∧ W.cell? ⟨tb, n * 5 + 1, none⟩ = some (.int .i64 ra) ∧ W.cell? ⟨tb, n * 5 + 2, none⟩ = some (.int .i64 rb) ∧ W.cell? ⟨tb, n * 5 + 3, none⟩ = some (.int .i64 rt) ∧ W.cell? ⟨tb, n * 5 + 4, none⟩ = some (.int .i64 rp)) (first | (with_reducible exact CN.out _ U1.out) | (with_reducible exact CN.out _ U0.out)) (first
        | (go_at_call 25; with_reducible refine (ISW.out _).mono ?_; rintro e w2 ⟨rfl, rfl⟩)
        | (go_at_call 26; with_reducible refine (FI.out _).mono ?_; rintro e w2 ⟨rfl, hB⟩; have U1 := hid (below_on U0.out hB); clear hB))
      all_goals
        go_wp2_with fail
        go_ret3
        exact ⟨rfl, below_on B1.out U1.out⟩
    | true =>
      have e := EY.out hz
      subst e
      have rg := RG.out hz
      rw [hz] at FI
      clear EN EY RG hz
      go_region_held3 (fun W => W.cell? ⟨w.heap.size, 0, none⟩ = some (.int .i64 n) ∧ W.cell? ⟨w.heap.size, 1, none⟩ = some (.int .i64 a) ∧ W.cell? ⟨w.heap.size, 2, none⟩ = some (.int .i64 b) ∧ W.cell? ⟨tb, n * 5, none⟩ = some (.string nm) ∧ W.cell? ⟨tb, n * 5 + 1, none⟩ = some (.int .i64 ra) ∧ W.cell? ⟨tb, n * 5 + 2, none⟩ = some (.int .i64 rb) ∧ W.cell? ⟨tb, n * 5 + 3, none⟩ = some (.int .i64 rt) ∧ W.cell? ⟨tb, n * 5 + 4, none⟩ = some (.int .i64 rp)) (first | (with_reducible exact CN.out _ U1.out) | (with_reducible exact CN.out _ U0.out)) (first
        | (go_at_call 25; with_reducible refine (ISW.out _).mono ?_; rintro e w2 ⟨rfl, rfl⟩)
        | (go_at_call 26; with_reducible refine (FI.out _).mono ?_; rintro e w2 ⟨rfl, hB⟩; have U1 := hid (below_on U0.out hB); clear hB))
      all_goals
        go_upto_region 3 with fail
        have V0 : Hid (Below w1.heap.size w1 w2.drew) := Below.drew U1.out
        have V1 : Hid (Below w1.heap.size w1 (w2.alloc (.cells #[.string ⟨#[]⟩, .int .i64 0, .int .i64 0, .int .i64 0, .int .i64 0] 53)).drew) := Below.drew (below_on U1.out (alloc_b w2 _))
        have V2 : Hid (Below w1.heap.size w1 (w2.alloc (.cells #[.string nm, .int .i64 ra, .int .i64 rb, .int .i64 rt, .int .i64 rp] 53)).drew) := Below.drew (below_on U1.out (alloc_b w2 _))
        have R2 : Hid (Bx (w2.alloc (.cells #[.string nm, .int .i64 ra, .int .i64 rb, .int .i64 rt, .int .i64 rp] 53)).drew w2.heap.size 53 #[.string nm, .int .i64 ra, .int .i64 rb, .int .i64 rt, .int .i64 rp]) := Bx.new w2 _ _
        go_region_held3 (fun W => W.cell? ⟨w.heap.size, 0, none⟩ = some (.int .i64 n) ∧ W.cell? ⟨w.heap.size, 1, none⟩ = some (.int .i64 a) ∧ W.cell? ⟨w.heap.size, 2, none⟩ = some (.int .i64 b) ∧ W.cell? ⟨tb, n * 5, none⟩ = some (.string nm) ∧ W.cell? ⟨tb, n * 5 + 1, none⟩ = some (.int .i64 ra) ∧ W.cell? ⟨tb, n * 5 + 2, none⟩ = some (.int .i64 rb) ∧ W.cell? ⟨tb, n * 5 + 3, none⟩ = some (.int .i64 rt) ∧ W.cell? ⟨tb, n * 5 + 4, none⟩ = some (.int .i64 rp)) (first | (with_reducible exact CN.out _ V0.out) | (with_reducible exact CN.out _ V1.out) | (with_reducible exact CN.out _ V2.out)) (fail)
        all_goals
          generalize (w2.alloc (.cells #[.string nm, .int .i64 ra, .int .i64 rb, .int .i64 rt, .int .i64 rp] 53)).drew = w3 at *
          obtain ⟨c0, c1, c2, -, -, -, -, -⟩ := CN.out _ V2.out
          obtain ⟨-, d1, d2, d3, d4⟩ := bx5 R2.out
          have F := hid (below_on B1.out V2.out)
          clear V0 V1 V2 U0 U1 FI ISW CN B1
          obtain ⟨g1, g2, g3, g4, g5, g6, g7, g8⟩ := rg
          by_cases h1 : ra = 11
          · have a1 := g7 h1
            by_cases h2 : rb = 11
            · have b1 := g8 h2
              have e : Hid (Cd.tkq ⟨nm, ra, rb, rt, rp⟩ a b = rt + a + b) := by simp [Hid, Cd.tkq, h1, h2]
              subst h1 h2
              clear g1 g2 g7 g8
              go_upto_region 9 with fail
              go_quiet (fail)
              all_goals
                go_wp2_with fail
                go_ret3
                exact ⟨by rw [e.out]; rfl, below_drewN F.out _⟩
            · have e : Hid (Cd.tkq ⟨nm, ra, rb, rt, rp⟩ a b = rt + a) := by simp [Hid, Cd.tkq, h1, h2]
              subst h1
              clear g1 g2 g7 g8
              go_upto_region 9 with fail
              go_quiet (fail)
              all_goals
                go_wp2_with fail
                go_ret3
                exact ⟨by rw [e.out]; rfl, below_drewN F.out _⟩
          · by_cases h2 : rb = 11
            · have b1 := g8 h2
              have e : Hid (Cd.tkq ⟨nm, ra, rb, rt, rp⟩ a b = rt + b) := by simp [Hid, Cd.tkq, h1, h2]
              subst h2
              clear g1 g2 g7 g8
              go_upto_region 9 with fail
              go_quiet (fail)
              all_goals
                go_wp2_with fail
                go_ret3
                exact ⟨by rw [e.out]; rfl, below_drewN F.out _⟩
            · have e : Hid (Cd.tkq ⟨nm, ra, rb, rt, rp⟩ a b = rt) := by simp [Hid, Cd.tkq, h1, h2]
              clear g1 g2 g7 g8
              go_upto_region 9 with fail
              go_quiet (fail)
              all_goals
                go_wp2_with fail
                go_ret3
                exact ⟨by rw [e.out]; rfl, below_drewN F.out _⟩
  · have e := Cd.ef_no (Cd.ok_noword hk)
    rw [e]
    have ISW := hid (fun W => cisw_any x.w W)
    rw [decide_eq_false hk] at ISW
    have B1 := hid (alloc_b w (.cells #[.int .i64 x.w, .int .i64 x.a, .int .i64 x.b] 28))
    have X1 := hid (Bx.new w 28 #[.int .i64 x.w, .int .i64 x.a, .int .i64 x.b])
    generalize x.w = k at *
    generalize x.a = a at *
    generalize x.b = b at *
    clear e hk
    go_enter Tryd.func16, Tryd.ntmps16
    go_upto_region 1 with fail
    generalize w.alloc (.cells #[.int .i64 k, .int .i64 a, .int .i64 b] 28) = w1 at *
    obtain ⟨c0, c1, c2⟩ := bx3 X1.out
    go_quiet ((go_at_call 25; exact Calls.quiet_of_same (ISW.out _)))
    all_goals
      go_wp2_with fail
      go_ret3
      exact ⟨rfl, below_drewN B1.out _⟩
end Go.Proofs.YtnobafmleellhabDoor
