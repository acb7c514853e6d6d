/-
  abacuslaw24: still, checked.
-/
import Derived.Test.YthachcidfnjbaaaTrS
import Derived.Deep.RegionHeld3
import Derived.BigQuiet
namespace Go.Proofs.Ythachcidfnjbaaa
open Go Go.RowKit Go.Deep

theorem eq_node (k o r n m : Int) (s : ByteArray) (W : World) : (Op.equalIn 10000 34 (.agg #[.int .i64 k, .int .i64 o, .int .i64 r, .int .i64 n, .int .u64 m, .string s]) (.agg #[.int .i64 k, .int .i64 o, .int .i64 r, .int .i64 n, .int .u64 m, .string s])).run Try.prog W = .ok true W := by
  have u3 := Try.underlying3
  have a3 := Try.isAgg3
  have z3 := Try.sizeOf3
  have u5 := Try.underlying32
  have a5 := Try.isAgg32
  have z5 := Try.sizeOf32
  have u9 := Try.underlying9
  have a9 := Try.isAgg9
  have z9 := Try.sizeOf9
  have hS : Try.prog.underlying 34 = some (.struct (Try.prog.fieldsOf 34)) := by kernel_rfl
  rw [show (10000 : Nat) = 9999 + 1 from rfl, run_equalIn_struct W 9999 34 _ _ hS (by kernel_rfl)]
  simp only [Program.fieldsOf, Try.underlying34]
  go_simp

namespace Tr
theorem en_ones (A : List Nd) : ∀ v ∈ Re.fl en A, v.oneCell' = true := fun v hv => by
  obtain ⟨a, _, h⟩ := List.mem_flatMap.1 hv
  exact en_one a v h
/-- The first nodes of a block can be read. -/
theorem LN.row {w : World} {g : Nat} {D l : List Nd} (h : Bx w g 34 (Re.fl en D).toArray) (e : ∀ (i : Nat) x, l[i]? = some x → D[i]? = some x) : LN w (some ⟨g, 0, none⟩) l := fun i x hi => by
  have hD := e i x hi
  refine ⟨g, 0, rfl, ?_, ?_, ?_, ?_, ?_, ?_⟩
  · rw [Nat.zero_add]; exact Re.bx_cell en_len h hD 0 (by omega) _ rfl
  · rw [Nat.zero_add]; exact Re.bx_cell en_len h hD 1 (by omega) _ rfl
  · rw [Nat.zero_add]; exact Re.bx_cell en_len h hD 2 (by omega) _ rfl
  · rw [Nat.zero_add]; exact Re.bx_cell en_len h hD 3 (by omega) _ rfl
  · rw [Nat.zero_add]; exact Re.bx_cell en_len h hD 4 (by omega) _ rfl
  · rw [Nat.zero_add]; exact Re.bx_cell en_len h hD 5 (by omega) _ rfl
theorem rmy_head (l : List Nd) (i : Nat) (x : Nd) (h : l[i]? = some x) : (rmy l (l.length + 9))[i]? = some x := by
  have hi := (List.getElem?_eq_some_iff.1 h).1
  rw [rmy_full l (by omega), at9, h]
  rfl
theorem rmy_tail (l : List Nd) (i : Nat) (h : l.length ≤ i) (h2 : i < l.length + 9) : (rmy l (l.length + 9))[i]? = some (mk i) := by
  rw [rmy_full l (by omega), at9, List.getElem?_eq_none (by omega)]
  rfl
theorem LN.src {w : World} {b off : Nat} {A : List Nd} (h : LN w (some ⟨b, off, none⟩) A) : ∀ j v, (Re.fl en A)[j]? = some v → w.cell? ((⟨b, off, none⟩ : Addr).add j) = some v := fun j v hv => by
  have hj : j < A.length * 6 := by rw [← Re.fl_len en_len A]; exact (List.getElem?_eq_some_iff.1 hv).1
  have hi : j / 6 < A.length := by omega
  obtain ⟨b', off', e0, c0, c1, c2, c3, c4, c5⟩ := h (j / 6) A[j / 6] (List.getElem?_eq_getElem hi)
  cases e0
  have e := Re.fl_at en_len (List.getElem?_eq_getElem hi) (j % 6) (by omega)
  rw [Nat.div_add_mod'] at e
  rw [hv] at e
  rw [Go.WideShapes.add_plain]
  have hm := Nat.div_add_mod' j 6
  rcases (show j % 6 = 0 ∨ j % 6 = 1 ∨ j % 6 = 2 ∨ j % 6 = 3 ∨ j % 6 = 4 ∨ j % 6 = 5 by omega) with r | r | r | r | r | r
  · rw [r] at e hm
    rw [show off + j = off + j / 6 * 6 by omega, c0]
    exact e.symm
  · rw [r] at e hm
    rw [show off + j = off + j / 6 * 6 + 1 by omega, c1]
    exact e.symm
  · rw [r] at e hm
    rw [show off + j = off + j / 6 * 6 + 2 by omega, c2]
    exact e.symm
  · rw [r] at e hm
    rw [show off + j = off + j / 6 * 6 + 3 by omega, c3]
    exact e.symm
  · rw [r] at e hm
    rw [show off + j = off + j / 6 * 6 + 4 by omega, c4]
    exact e.symm
  · rw [r] at e hm
    rw [show off + j = off + j / 6 * 6 + 5 by omega, c5]
    exact e.symm
end Tr

set_option maxRecDepth 100000 in
set_option maxHeartbeats 4000000 in
theorem lstill_any (g : Nat) (pw : Option Addr) (capw : Nat) (Z : List Tr.Nd) (w : World) (h : Tr.LN w pw Z) (hB : Bx w g 34 (Re.fl Tr.en (Tr.rmy Z (Z.length + 9))).toArray) (hl : Z.length ≤ 1048576) :
    Calls Try.prog 15 #[.slice (some ⟨g, 0, none⟩) Z.length (Z.length + 9), .slice pw Z.length capw] w fun e w' => e = .returned (.bool true) ∧ Below w.heap.size w w' := by
  obtain ⟨N, hN⟩ : ∃ N, Z.length = N := ⟨_, rfl⟩
  obtain ⟨M, hM⟩ : ∃ M, N + 9 = M := ⟨_, rfl⟩
  have H := hid (And.intro h hB)
  have LH : Hid (Z.length = N) := hN
  have hmi : (N : Int) + 9 = (M : Int) := by omega
  have hb : (N : Int) ≤ 1048576 := by omega
  have mb : (M : Int) ≤ 1048585 := by omega
  rw [hN, hM]
  clear h hB hl hN
  go_enter Try.func15, Try.ntmps15
  go_wp2_with fail
  go_loopg [6] M (fun m iv wr => ∃ i : Nat, i + m = M ∧ iv = .int .i64 (i : Int) ∧ Hid (Below w.heap.size w wr))
  case atStart => exact ⟨0, by omega, rfl, Below.refl _ _⟩
  case round =>
    obtain ⟨i, hi, rfl, I⟩ := hrel
    by_cases il : i < M
    · have ili : (i : Int) < (M : Int) := by omega
      have U0 := hid (Below.drew I.out)
      by_cases iN : i < N
      · have iNi : (i : Int) < (N : Int) := by omega
        have g1 : decide ((i : Int) < (N : Int)) = true := decide_eq_true iNi
        have g2 : ¬ (N : Int) ≤ (i : Int) := by omega
        have g3 : decide ((N : Int) ≤ (i : Int)) = false := decide_eq_false g2
        obtain ⟨x, hx⟩ : ∃ x, Z[i]? = some x := ⟨_, List.getElem?_eq_getElem (by have := LH.out; omega)⟩
        obtain ⟨b, off, hp, c0, c1, c2, c3, c4, c5⟩ := (H.out.1.on I.out) i x hx
        subst hp
        have FX := Tr.rmy_head Z i x hx
        have FF := fun W (hW : Below w.heap.size w W) => (bxn_cells (Bx.on H.out.2 hW) FX).1
        have WW := fun W (hW : Below w.heap.size w W) => (H.out.1.on hW) i x hx
        clear c0 c1 c2 c3 c4 c5 hx FX
        obtain ⟨x0, x1, x2, x3, x4, x5⟩ := x
        simp only at FF WW
        have CW : Hid (∀ W, Below w.heap.size w W → (W.cell? ⟨g, i * 6, none⟩ = some (.int .i64 x0) ∧ W.cell? ⟨g, i * 6 + 1, none⟩ = some (.int .i64 x1) ∧ W.cell? ⟨g, i * 6 + 2, none⟩ = some (.int .i64 x2) ∧ W.cell? ⟨g, i * 6 + 3, none⟩ = some (.int .i64 x3) ∧ W.cell? ⟨g, i * 6 + 4, none⟩ = some (.int .u64 x4) ∧ W.cell? ⟨g, i * 6 + 5, none⟩ = some (.string x5)) ∧ (W.cell? ⟨b, off + i * 6, none⟩ = some (.int .i64 x0) ∧ W.cell? ⟨b, off + i * 6 + 1, none⟩ = some (.int .i64 x1) ∧ W.cell? ⟨b, off + i * 6 + 2, none⟩ = some (.int .i64 x2) ∧ W.cell? ⟨b, off + i * 6 + 3, none⟩ = some (.int .i64 x3) ∧ W.cell? ⟨b, off + i * 6 + 4, none⟩ = some (.int .u64 x4) ∧ W.cell? ⟨b, off + i * 6 + 5, none⟩ = some (.string x5))) := fun W hW => by
          refine ⟨FF W hW, ?_⟩
          obtain ⟨b', off', e0, c⟩ := WW W hW
          cases e0
          exact c
        have EQ := fun W => eq_node x0 x1 x2 x3 x4 x5 W
        clear FF WW H LH
        obtain ⟨⟨a0, a1, a2, a3, a4, a5⟩, ⟨d0, d1, d2, d3, d4, d5⟩⟩ := CW.out _ I.out
        go_upto_region 5 with fail
        go_quiet (fail)
        have U2 := hid (below_drewN I.out nq)
        clear a0 a1 a2 a3 a4 a5 d0 d1 d2 d3 d4 d5 U0 I
        generalize wr.drewN nq = wq at *
        go_wp2_with fail
        go_roundg (M - (i + 1))
        case measure => omega
        case rel => exact ⟨i + 1, by omega, by go_num, U2⟩
      · have iNi : ¬ (i : Int) < (N : Int) := by omega
        have g1 : decide ((i : Int) < (N : Int)) = false := decide_eq_false iNi
        have g2 : (N : Int) ≤ (i : Int) := by omega
        have g3 : decide ((N : Int) ≤ (i : Int)) = true := decide_eq_true g2
        have FX := Tr.rmy_tail Z i (by have := LH.out; omega) (by have := LH.out; omega)
        have CW : Hid (∀ W, Below w.heap.size w W → (W.cell? ⟨g, i * 6, none⟩ = some (.int .i64 901) ∧ W.cell? ⟨g, i * 6 + 1, none⟩ = some (.int .i64 0) ∧ W.cell? ⟨g, i * 6 + 2, none⟩ = some (.int .i64 (i : Int)) ∧ W.cell? ⟨g, i * 6 + 3, none⟩ = some (.int .i64 0) ∧ W.cell? ⟨g, i * 6 + 4, none⟩ = some (.int .u64 0) ∧ W.cell? ⟨g, i * 6 + 5, none⟩ = some (.string ⟨#[]⟩))) := fun W hW => (bxn_cells (Bx.on H.out.2 hW) FX).1
        have EQ := fun W => eq_node 901 0 (i : Int) 0 0 ⟨#[]⟩ W
        have MA := hid (lmark_any i)
        clear FX H LH
        obtain ⟨a0, a1, a2, a3, a4, a5⟩ := CW.out _ I.out
        go_upto_region 5 with fail
        refine wp_region_held_drew (S := (fun W => (W.cell? ⟨g, i * 6, none⟩ = some (.int .i64 901) ∧ W.cell? ⟨g, i * 6 + 1, none⟩ = some (.int .i64 0) ∧ W.cell? ⟨g, i * 6 + 2, none⟩ = some (.int .i64 (i : Int)) ∧ W.cell? ⟨g, i * 6 + 3, none⟩ = some (.int .i64 0) ∧ W.cell? ⟨g, i * 6 + 4, none⟩ = some (.int .u64 0) ∧ W.cell? ⟨g, i * 6 + 5, none⟩ = some (.string ⟨#[]⟩)))) (by kernel_rfl) (CW.out _ U0.out) (fun hHeld => ?_)
        refine wpAnyH_take (i := 0) (oi := { dst := some 18, op := Go.Op.move (Go.Operand.tmp 6), type := 3, pos := "law.go:76", after := #[], guard := none }) (v := ?_) rfl (by kernel_rfl) (by kernel_rfl) (by kernel_rfl) (fun _ _ _ h => h) (Or.inl ⟨by rfl, ?_⟩) (by assumption) ?_
        rotate_left
        · (intro w hSw; (try dsimp only at hSw); go_simp; try with_reducible rfl)
        (try simp only [Act.put]); (try simp only [List.setIfInBounds_toArray]); (try simp only [List.set_cons_succ]); (try simp only [List.set_cons_zero])
        refine wpAnyH_take (i := 1) (oi := { dst := some 19, op := Go.Op.move (Go.Operand.tmp 1), type := 22, pos := "law.go:76", after := #[], guard := none }) (v := ?_) rfl (by kernel_rfl) (by kernel_rfl) (by kernel_rfl) (fun _ _ _ h => h) (Or.inl ⟨by rfl, ?_⟩) (by assumption) ?_
        rotate_left
        · (intro w hSw; (try dsimp only at hSw); go_simp; try with_reducible rfl)
        (try simp only [Act.put]); (try simp only [List.setIfInBounds_toArray]); (try simp only [List.set_cons_succ]); (try simp only [List.set_cons_zero])
        refine wpAnyH_take (i := 2) (oi := { dst := some 20, op := Go.Op.call { callee := Go.Callee.builtin Go.Builtin.len, args := #[Go.Operand.tmp 19], argTypes := #[22] }, type := 3, pos := "law.go:76", after := #[{ on := 1, ground := Go.Ground.data }], guard := none }) (v := ?_) rfl (by kernel_rfl) (by kernel_rfl) (by kernel_rfl) (fun _ _ _ h => h) (Or.inl ⟨by rfl, ?_⟩) (by assumption) ?_
        rotate_left
        · (intro w hSw; (try dsimp only at hSw); go_simp; try with_reducible rfl)
        (try simp only [Act.put]); (try simp only [List.setIfInBounds_toArray]); (try simp only [List.set_cons_succ]); (try simp only [List.set_cons_zero])
        refine wpAnyH_take (i := 3) (oi := { dst := some 21, op := Go.Op.binOp Go.BinOp.lss 3 (Go.Operand.tmp 18) (Go.Operand.tmp 20) 3, type := 4, pos := "law.go:76", after := #[{ on := 0, ground := Go.Ground.data }, { on := 2, ground := Go.Ground.data }], guard := none }) (v := ?_) rfl (by kernel_rfl) (by kernel_rfl) (by kernel_rfl) (fun _ _ _ h => h) (Or.inl ⟨by rfl, ?_⟩) (by assumption) ?_
        rotate_left
        · (intro w hSw; (try dsimp only at hSw); go_simp; try with_reducible rfl)
        (try simp only [Act.put]); (try simp only [List.setIfInBounds_toArray]); (try simp only [List.set_cons_succ]); (try simp only [List.set_cons_zero])
        refine wpAnyH_take (i := 4) (oi := { dst := some 22, op := Go.Op.move (Go.Operand.tmp 21), type := 4, pos := "law.go:76", after := #[{ on := 3, ground := Go.Ground.data }], guard := none }) (v := ?_) rfl (by kernel_rfl) (by kernel_rfl) (by kernel_rfl) (fun _ _ _ h => h) (Or.inl ⟨by rfl, ?_⟩) (by assumption) ?_
        rotate_left
        · (intro w hSw; (try dsimp only at hSw); go_simp; try with_reducible rfl)
        (try simp only [Act.put]); (try simp only [List.setIfInBounds_toArray]); (try simp only [List.set_cons_succ]); (try simp only [List.set_cons_zero])
        refine wpAnyH_take (i := 5) (oi := { dst := some 23, op := Go.Op.move (Go.Operand.tmp 5), type := 22, pos := "law.go:76", after := #[{ on := 4, ground := Go.Ground.guard }], guard := some (4, true) }) (v := undef) rfl (by kernel_rfl) (by kernel_rfl) (by kernel_rfl) (fun _ _ _ h => h) (Or.inr ⟨by rfl, rfl⟩) (by assumption) ?_
        (try simp only [Act.put]); (try simp only [List.setIfInBounds_toArray]); (try simp only [List.set_cons_succ]); (try simp only [List.set_cons_zero])
        refine wpAnyH_take (i := 6) (oi := { dst := some 24, op := Go.Op.move (Go.Operand.tmp 6), type := 3, pos := "law.go:76", after := #[{ on := 4, ground := Go.Ground.guard }], guard := some (4, true) }) (v := undef) rfl (by kernel_rfl) (by kernel_rfl) (by kernel_rfl) (fun _ _ _ h => h) (Or.inr ⟨by rfl, rfl⟩) (by assumption) ?_
        (try simp only [Act.put]); (try simp only [List.setIfInBounds_toArray]); (try simp only [List.set_cons_succ]); (try simp only [List.set_cons_zero])
        refine wpAnyH_take (i := 7) (oi := { dst := some 25, op := Go.Op.indexAddr 22 (Go.Operand.tmp 23) (Go.Operand.tmp 24), type := 0, pos := "law.go:76", after := #[{ on := 5, ground := Go.Ground.data }, { on := 6, ground := Go.Ground.data }, { on := 4, ground := Go.Ground.guard }], guard := some (4, true) }) (v := undef) rfl (by kernel_rfl) (by kernel_rfl) (by kernel_rfl) (fun _ _ _ h => h) (Or.inr ⟨by rfl, rfl⟩) (by assumption) ?_
        (try simp only [Act.put]); (try simp only [List.setIfInBounds_toArray]); (try simp only [List.set_cons_succ]); (try simp only [List.set_cons_zero])
        refine wpAnyH_take (i := 8) (oi := { dst := some 26, op := Go.Op.load 34 (Go.Operand.tmp 25), type := 34, pos := "law.go:76", after := #[{ on := 7, ground := Go.Ground.data }, { on := 4, ground := Go.Ground.guard }], guard := some (4, true) }) (v := undef) rfl (by kernel_rfl) (by kernel_rfl) (by kernel_rfl) (fun _ _ _ h => h) (Or.inr ⟨by rfl, rfl⟩) (by assumption) ?_
        (try simp only [Act.put]); (try simp only [List.setIfInBounds_toArray]); (try simp only [List.set_cons_succ]); (try simp only [List.set_cons_zero])
        refine wpAnyH_take (i := 9) (oi := { dst := some 27, op := Go.Op.move (Go.Operand.tmp 1), type := 22, pos := "law.go:76", after := #[{ on := 4, ground := Go.Ground.guard }], guard := some (4, true) }) (v := undef) rfl (by kernel_rfl) (by kernel_rfl) (by kernel_rfl) (fun _ _ _ h => h) (Or.inr ⟨by rfl, rfl⟩) (by assumption) ?_
        (try simp only [Act.put]); (try simp only [List.setIfInBounds_toArray]); (try simp only [List.set_cons_succ]); (try simp only [List.set_cons_zero])
        refine wpAnyH_take (i := 10) (oi := { dst := some 28, op := Go.Op.move (Go.Operand.tmp 6), type := 3, pos := "law.go:76", after := #[{ on := 4, ground := Go.Ground.guard }], guard := some (4, true) }) (v := undef) rfl (by kernel_rfl) (by kernel_rfl) (by kernel_rfl) (fun _ _ _ h => h) (Or.inr ⟨by rfl, rfl⟩) (by assumption) ?_
        (try simp only [Act.put]); (try simp only [List.setIfInBounds_toArray]); (try simp only [List.set_cons_succ]); (try simp only [List.set_cons_zero])
        refine wpAnyH_take (i := 11) (oi := { dst := some 29, op := Go.Op.indexAddr 22 (Go.Operand.tmp 27) (Go.Operand.tmp 28), type := 0, pos := "law.go:76", after := #[{ on := 9, ground := Go.Ground.data }, { on := 10, ground := Go.Ground.data }, { on := 4, ground := Go.Ground.guard }], guard := some (4, true) }) (v := undef) rfl (by kernel_rfl) (by kernel_rfl) (by kernel_rfl) (fun _ _ _ h => h) (Or.inr ⟨by rfl, rfl⟩) (by assumption) ?_
        (try simp only [Act.put]); (try simp only [List.setIfInBounds_toArray]); (try simp only [List.set_cons_succ]); (try simp only [List.set_cons_zero])
        refine wpAnyH_take (i := 12) (oi := { dst := some 30, op := Go.Op.load 34 (Go.Operand.tmp 29), type := 34, pos := "law.go:76", after := #[{ on := 11, ground := Go.Ground.data }, { on := 4, ground := Go.Ground.guard }], guard := some (4, true) }) (v := undef) rfl (by kernel_rfl) (by kernel_rfl) (by kernel_rfl) (fun _ _ _ h => h) (Or.inr ⟨by rfl, rfl⟩) (by assumption) ?_
        (try simp only [Act.put]); (try simp only [List.setIfInBounds_toArray]); (try simp only [List.set_cons_succ]); (try simp only [List.set_cons_zero])
        refine wpAnyH_take (i := 13) (oi := { dst := some 31, op := Go.Op.binOp Go.BinOp.neq 34 (Go.Operand.tmp 26) (Go.Operand.tmp 30) 34, type := 4, pos := "law.go:76", after := #[{ on := 8, ground := Go.Ground.data }, { on := 12, ground := Go.Ground.data }, { on := 4, ground := Go.Ground.guard }], guard := some (4, true) }) (v := undef) rfl (by kernel_rfl) (by kernel_rfl) (by kernel_rfl) (fun _ _ _ h => h) (Or.inr ⟨by rfl, rfl⟩) (by assumption) ?_
        (try simp only [Act.put]); (try simp only [List.setIfInBounds_toArray]); (try simp only [List.set_cons_succ]); (try simp only [List.set_cons_zero])
        refine wpAnyH_take (i := 14) (oi := { dst := some 32, op := Go.Op.pick (Go.Operand.tmp 22) (Go.Operand.tmp 31) (Go.Operand.const (Go.Value.bool false)), type := 4, pos := "law.go:76", after := #[{ on := 4, ground := Go.Ground.data }, { on := 13, ground := Go.Ground.data }], guard := none }) (v := ?_) rfl (by kernel_rfl) (by kernel_rfl) (by kernel_rfl) (fun _ _ _ h => h) (Or.inl ⟨by rfl, ?_⟩) (by assumption) ?_
        rotate_left
        · (intro w hSw; (try dsimp only at hSw); go_simp; try with_reducible rfl)
        (try simp only [Act.put]); (try simp only [List.setIfInBounds_toArray]); (try simp only [List.set_cons_succ]); (try simp only [List.set_cons_zero])
        refine wpAnyH_take (i := 15) (oi := { dst := some 33, op := Go.Op.move (Go.Operand.tmp 32), type := 4, pos := "law.go:76", after := #[{ on := 14, ground := Go.Ground.data }, { on := 4, ground := Go.Ground.chain }], guard := none }) (v := ?_) rfl (by kernel_rfl) (by kernel_rfl) (by kernel_rfl) (fun _ _ _ h => h) (Or.inl ⟨by rfl, ?_⟩) (by assumption) ?_
        rotate_left
        · (intro w hSw; (try dsimp only at hSw); go_simp; try with_reducible rfl)
        (try simp only [Act.put]); (try simp only [List.setIfInBounds_toArray]); (try simp only [List.set_cons_succ]); (try simp only [List.set_cons_zero])
        refine wpAnyH_take (i := 16) (oi := { dst := some 34, op := Go.Op.move (Go.Operand.tmp 6), type := 3, pos := "law.go:76", after := #[{ on := 15, ground := Go.Ground.guard }], guard := some (15, false) }) (v := ?_) rfl (by kernel_rfl) (by kernel_rfl) (by kernel_rfl) (fun _ _ _ h => h) (Or.inl ⟨by rfl, ?_⟩) (by assumption) ?_
        rotate_left
        · (intro w hSw; (try dsimp only at hSw); go_simp; try with_reducible rfl)
        (try simp only [Act.put]); (try simp only [List.setIfInBounds_toArray]); (try simp only [List.set_cons_succ]); (try simp only [List.set_cons_zero])
        refine wpAnyH_take (i := 17) (oi := { dst := some 35, op := Go.Op.move (Go.Operand.tmp 1), type := 22, pos := "law.go:76", after := #[{ on := 15, ground := Go.Ground.guard }], guard := some (15, false) }) (v := ?_) rfl (by kernel_rfl) (by kernel_rfl) (by kernel_rfl) (fun _ _ _ h => h) (Or.inl ⟨by rfl, ?_⟩) (by assumption) ?_
        rotate_left
        · (intro w hSw; (try dsimp only at hSw); go_simp; try with_reducible rfl)
        (try simp only [Act.put]); (try simp only [List.setIfInBounds_toArray]); (try simp only [List.set_cons_succ]); (try simp only [List.set_cons_zero])
        refine wpAnyH_take (i := 18) (oi := { dst := some 36, op := Go.Op.call { callee := Go.Callee.builtin Go.Builtin.len, args := #[Go.Operand.tmp 35], argTypes := #[22] }, type := 3, pos := "law.go:76", after := #[{ on := 17, ground := Go.Ground.data }, { on := 15, ground := Go.Ground.guard }], guard := some (15, false) }) (v := ?_) rfl (by kernel_rfl) (by kernel_rfl) (by kernel_rfl) (fun _ _ _ h => h) (Or.inl ⟨by rfl, ?_⟩) (by assumption) ?_
        rotate_left
        · (intro w hSw; (try dsimp only at hSw); go_simp; try with_reducible rfl)
        (try simp only [Act.put]); (try simp only [List.setIfInBounds_toArray]); (try simp only [List.set_cons_succ]); (try simp only [List.set_cons_zero])
        refine wpAnyH_take (i := 19) (oi := { dst := some 37, op := Go.Op.binOp Go.BinOp.geq 3 (Go.Operand.tmp 34) (Go.Operand.tmp 36) 3, type := 4, pos := "law.go:76", after := #[{ on := 16, ground := Go.Ground.data }, { on := 18, ground := Go.Ground.data }, { on := 15, ground := Go.Ground.guard }], guard := some (15, false) }) (v := ?_) rfl (by kernel_rfl) (by kernel_rfl) (by kernel_rfl) (fun _ _ _ h => h) (Or.inl ⟨by rfl, ?_⟩) (by assumption) ?_
        rotate_left
        · (intro w hSw; (try dsimp only at hSw); go_simp; try with_reducible rfl)
        (try simp only [Act.put]); (try simp only [List.setIfInBounds_toArray]); (try simp only [List.set_cons_succ]); (try simp only [List.set_cons_zero])
        refine wpAnyH_take (i := 20) (oi := { dst := some 38, op := Go.Op.move (Go.Operand.tmp 37), type := 4, pos := "law.go:76", after := #[{ on := 19, ground := Go.Ground.data }, { on := 15, ground := Go.Ground.chain }, { on := 15, ground := Go.Ground.guard }], guard := some (15, false) }) (v := ?_) rfl (by kernel_rfl) (by kernel_rfl) (by kernel_rfl) (fun _ _ _ h => h) (Or.inl ⟨by rfl, ?_⟩) (by assumption) ?_
        rotate_left
        · (intro w hSw; (try dsimp only at hSw); go_simp; try with_reducible rfl)
        (try simp only [Act.put]); (try simp only [List.setIfInBounds_toArray]); (try simp only [List.set_cons_succ]); (try simp only [List.set_cons_zero])
        refine wpAnyH_take (i := 21) (oi := { dst := some 39, op := Go.Op.move (Go.Operand.tmp 5), type := 22, pos := "law.go:76", after := #[{ on := 20, ground := Go.Ground.guard }], guard := some (20, true) }) (v := ?_) rfl (by kernel_rfl) (by kernel_rfl) (by kernel_rfl) (fun _ _ _ h => h) (Or.inl ⟨by rfl, ?_⟩) (by assumption) ?_
        rotate_left
        · (intro w hSw; (try dsimp only at hSw); go_simp; try with_reducible rfl)
        (try simp only [Act.put]); (try simp only [List.setIfInBounds_toArray]); (try simp only [List.set_cons_succ]); (try simp only [List.set_cons_zero])
        refine wpAnyH_take (i := 22) (oi := { dst := some 40, op := Go.Op.move (Go.Operand.tmp 6), type := 3, pos := "law.go:76", after := #[{ on := 20, ground := Go.Ground.guard }], guard := some (20, true) }) (v := ?_) rfl (by kernel_rfl) (by kernel_rfl) (by kernel_rfl) (fun _ _ _ h => h) (Or.inl ⟨by rfl, ?_⟩) (by assumption) ?_
        rotate_left
        · (intro w hSw; (try dsimp only at hSw); go_simp; try with_reducible rfl)
        (try simp only [Act.put]); (try simp only [List.setIfInBounds_toArray]); (try simp only [List.set_cons_succ]); (try simp only [List.set_cons_zero])
        refine wpAnyH_take (i := 23) (oi := { dst := some 41, op := Go.Op.indexAddr 22 (Go.Operand.tmp 39) (Go.Operand.tmp 40), type := 0, pos := "law.go:76", after := #[{ on := 21, ground := Go.Ground.data }, { on := 22, ground := Go.Ground.data }, { on := 20, ground := Go.Ground.guard }], guard := some (20, true) }) (v := ?_) rfl (by kernel_rfl) (by kernel_rfl) (by kernel_rfl) (fun _ _ _ h => h) (Or.inl ⟨by rfl, ?_⟩) (by assumption) ?_
        rotate_left
        · (intro w hSw; (try dsimp only at hSw); go_simp; try with_reducible rfl)
        (try simp only [Act.put]); (try simp only [List.setIfInBounds_toArray]); (try simp only [List.set_cons_succ]); (try simp only [List.set_cons_zero])
        refine wpAnyH_take (i := 24) (oi := { dst := some 42, op := Go.Op.load 34 (Go.Operand.tmp 41), type := 34, pos := "law.go:76", after := #[{ on := 23, ground := Go.Ground.data }, { on := 20, ground := Go.Ground.guard }], guard := some (20, true) }) (v := ?_) rfl (by kernel_rfl) (by kernel_rfl) (by kernel_rfl) (fun _ _ _ h => h) (Or.inl ⟨by rfl, ?_⟩) (by assumption) ?_
        rotate_left
        · (intro w hSw; (try dsimp only at hSw); go_simp; try with_reducible rfl)
        (try simp only [Act.put]); (try simp only [List.setIfInBounds_toArray]); (try simp only [List.set_cons_succ]); (try simp only [List.set_cons_zero])
        refine wpAnyH_take (i := 25) (oi := { dst := some 43, op := Go.Op.move (Go.Operand.tmp 6), type := 3, pos := "law.go:76", after := #[{ on := 20, ground := Go.Ground.guard }], guard := some (20, true) }) (v := ?_) rfl (by kernel_rfl) (by kernel_rfl) (by kernel_rfl) (fun _ _ _ h => h) (Or.inl ⟨by rfl, ?_⟩) (by assumption) ?_
        rotate_left
        · (intro w hSw; (try dsimp only at hSw); go_simp; try with_reducible rfl)
        (try simp only [Act.put]); (try simp only [List.setIfInBounds_toArray]); (try simp only [List.set_cons_succ]); (try simp only [List.set_cons_zero])
        refine wpAnyH_ready (rs := [26]) (by kernel_rfl) (by simp) ?_
        refine AllReadyH.cons (o := { dst := some 44, op := Go.Op.call { callee := Go.Callee.value (Go.Operand.func 12), args := #[Go.Operand.tmp 43], argTypes := #[3] }, type := 34, pos := "law.go:76", after := #[{ on := 25, ground := Go.Ground.data }, { on := 20, ground := Go.Ground.chain }, { on := 20, ground := Go.Ground.guard }], guard := some (20, true) }) rfl (fun K hK => ?_) (AllReadyH.nil)
        · rw [if_pos (by rfl)]
          go_simp
          go_at_call 12
          refine (MA.out _).mono ?_
          rintro e w2 ⟨rfl, hB⟩
          have U1 := hid (below_on U0.out hB)
          clear hB
          refine hK.out _ _ (CW.out _ U1.out) (fun hHeld => ?_)
          clear hK K
          refine wpAnyH_take (i := 27) (oi := { dst := some 45, op := Go.Op.binOp Go.BinOp.neq 34 (Go.Operand.tmp 42) (Go.Operand.tmp 44) 34, type := 4, pos := "law.go:76", after := #[{ on := 24, ground := Go.Ground.data }, { on := 26, ground := Go.Ground.data }, { on := 20, ground := Go.Ground.guard }], guard := some (20, true) }) (v := ?_) rfl (by kernel_rfl) (by kernel_rfl) (by kernel_rfl) (fun _ _ _ h => h) (Or.inl ⟨by rfl, ?_⟩) (by assumption) ?_
          rotate_left
          · (intro w hSw; (try dsimp only at hSw); go_simp; try with_reducible rfl)
          (try simp only [Act.put]); (try simp only [List.setIfInBounds_toArray]); (try simp only [List.set_cons_succ]); (try simp only [List.set_cons_zero])
          refine wpAnyH_take (i := 28) (oi := { dst := some 46, op := Go.Op.pick (Go.Operand.tmp 38) (Go.Operand.tmp 45) (Go.Operand.const (Go.Value.bool false)), type := 4, pos := "law.go:76", after := #[{ on := 20, ground := Go.Ground.data }, { on := 27, ground := Go.Ground.data }, { on := 15, ground := Go.Ground.guard }], guard := some (15, false) }) (v := ?_) rfl (by kernel_rfl) (by kernel_rfl) (by kernel_rfl) (fun _ _ _ h => h) (Or.inl ⟨by rfl, ?_⟩) (by assumption) ?_
          rotate_left
          · (intro w hSw; (try dsimp only at hSw); go_simp; try with_reducible rfl)
          (try simp only [Act.put]); (try simp only [List.setIfInBounds_toArray]); (try simp only [List.set_cons_succ]); (try simp only [List.set_cons_zero])
          refine wpAnyH_take (i := 29) (oi := { dst := some 47, op := Go.Op.pick (Go.Operand.tmp 33) (Go.Operand.const (Go.Value.bool true)) (Go.Operand.tmp 46), type := 4, pos := "law.go:76", after := #[{ on := 15, ground := Go.Ground.data }, { on := 28, ground := Go.Ground.data }], guard := none }) (v := ?_) rfl (by kernel_rfl) (by kernel_rfl) (by kernel_rfl) (fun _ _ _ h => h) (Or.inl ⟨by rfl, ?_⟩) (by assumption) ?_
          rotate_left
          · (intro w hSw; (try dsimp only at hSw); go_simp; try with_reducible rfl)
          (try simp only [Act.put]); (try simp only [List.setIfInBounds_toArray]); (try simp only [List.set_cons_succ]); (try simp only [List.set_cons_zero])
          refine wpAnyH_done (by kernel_rfl) ?_ _
          clear a0 a1 a2 a3 a4 a5
          go_wp2_with fail
          go_roundg (M - (i + 1))
          case measure => omega
          case rel => exact ⟨i + 1, by omega, by go_num, U1⟩
    · obtain rfl : i = M := by omega
      have ili : ¬ (i : Int) < (i : Int) := by omega
      clear H LH
      go_wp2_with fail
      go_ret
      exact ⟨rfl, I.out⟩

set_option maxRecDepth 100000 in
set_option maxHeartbeats 2000000 in
theorem lchecked_any (pt : Option Addr) (cap g : Nat) (Z : List Tr.Nd) (w : World) (h : Tr.LN w pt Z) (hB : Bx w g 34 (Re.fl Tr.en (Tr.rmy Z (Z.length + 9))).toArray) (hl : Z.length ≤ 1048576) :
    Calls Try.prog 9 #[.agg #[.slice pt Z.length cap], .slice (some ⟨g, 0, none⟩) Z.length (Z.length + 9)] w fun e w' => e = .returned (.bool true) ∧ Below w.heap.size w w' := by
  have LG : Tr.LN w (some ⟨g, 0, none⟩) Z := Tr.LN.row hB (fun i x hx => Tr.rmy_head Z i x hx)
  have RC := hid (fun W (hW : Below w.heap.size w W) => rcheck_any pt cap Z W (h.on hW) (by omega))
  have TC := hid (fun W (hW : Below w.heap.size w W) => tcheck_any (some ⟨g, 0, none⟩) (Z.length + 9) Z W (LG.on hW) (by omega))
  have RD := hid (fun W (hW : Below w.heap.size w W) => rdepth_any pt cap Z W (h.on hW) (by omega))
  have TD := hid (fun W (hW : Below w.heap.size w W) => tdepth_any (some ⟨g, 0, none⟩) (Z.length + 9) Z W (LG.on hW) (by omega))
  have ST := hid (fun W (hW : Below w.heap.size w W) => lstill_any g pt cap Z W (h.on hW) (Bx.on hB hW) hl)
  have BB := hid (alloc_b w (.cells #[.slice pt Z.length cap] 24))
  have TB := hid (Bx.new w 24 #[.slice pt Z.length cap])
  generalize (Tr.lk Z).1 = A at *
  generalize (Tr.lk Z).2.1 = B at *
  generalize (Tr.lk Z).2.2 = C at *
  clear h hB LG hl
  generalize Z.length = N at *
  generalize N + 9 = M at *
  go_enter Try.func9, Try.ntmps9
  go_upto_region 3 with (first
    | (go_at_call 6; refine (RC.out _ BB.out).mono ?_; rintro e w2 ⟨rfl, hB⟩; have c2 := bx1 (TB.out.on hB); have B2 := hid (below_on BB.out hB); have T2 := hid (TB.out.on hB); clear hB RC)
    | (go_at_call 7; refine (TC.out _ B2.out).mono ?_; rintro e w3 ⟨rfl, hB⟩; have c3 := bx1 (T2.out.on hB); have B3 := hid (below_on B2.out hB); have T3 := hid (T2.out.on hB); clear hB TC))
  go_wp2_with (first
    | (go_at_call 13; refine (RD.out _ B3.out).mono ?_; rintro e w4 ⟨rfl, hB⟩; have c4 := bx1 (T3.out.on hB); have B4 := hid (below_on B3.out hB); have T4 := hid (T3.out.on hB); clear hB RD)
    | (go_at_call 14; refine (TD.out _ B4.out).mono ?_; rintro e w5 ⟨rfl, hB⟩; have c5 := bx1 (T4.out.on hB); have B5 := hid (below_on B4.out hB); have T5 := hid (T4.out.on hB); clear hB TD)
    | (go_at_call 15; refine (ST.out _ B5.out).mono ?_; rintro e w6 ⟨rfl, hB⟩; have B6 := hid (below_on B5.out hB); clear hB ST))
  go_ret
  exact ⟨rfl, B6.out⟩
end Go.Proofs.Ythachcidfnjbaaa
