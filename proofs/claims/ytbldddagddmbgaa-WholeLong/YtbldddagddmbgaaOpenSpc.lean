/-
  A Spec AS IT COMES IN: its fields, read.
-/
import Derived.Test.YtbldddagddmbgaaS4B
import Derived.SizedLaws
import Derived.ProofKit
namespace Go.Proofs.Ytbldddagddmbgaa
open Go.RowKit Go.Deep Go.ChangeShapes Go.WideShapes Go.ChangeAt

theorem spc_array {α : Type} {cs : Array α} (h : cs.size = 4) : ∃ c0 c1 c2 c3, cs = #[c0, c1, c2, c3] := by
  obtain ⟨l⟩ := cs
  match l, h with
  | [c0, c1, c2, c3], _ => exact ⟨c0, c1, c2, c3, rfl⟩
theorem spc_list {α : Type} {l : List α} (h : l.length = 4) : ∃ c0 c1 c2 c3, l = [c0, c1, c2, c3] := by
  match l, h with
  | [c0, c1, c2, c3], _ => exact ⟨c0, c1, c2, c3, rfl⟩

set_option maxRecDepth 100000 in
theorem open_spc_cells {H : Type} {enc : TypeId × Value → H} {W : World} {fuel : Nat} {a0 a1 a2 a3 : Value} {x : DataW H × List MemPlace} (hf : DataW.trod enc Try.prog W 0 (fun _ => true) true fuel 25 [a0, a1, a2, a3] = some x) :
    ∃ V F D P : Int, a0 = .int .u8 V ∧ a1 = .int .i64 F ∧ a2 = .int .i64 D ∧ a3 = .int .i64 P ∧ (0 ≤ V ∧ V < 256) := by
  obtain ⟨xs, n, _, hx, _, hlen, hfs⟩ := DataW.trod_struct Try.underlying25 hf
  obtain ⟨y0, y1, y2, y3, rfl⟩ := spc_list hlen
  have c3 : Try.prog.cellsOf 3 = 1 := by kernel_rfl
  have c8 : Try.prog.cellsOf 5 = 1 := by kernel_rfl
  have f0 : DataW.trod enc Try.prog W 0 (fun _ => true) true n 5 [a0] = some y0 := by simpa [c8] using hfs 0 _ rfl
  have f1 : DataW.trod enc Try.prog W 0 (fun _ => true) true n 3 [a1] = some y1 := by simpa [c3] using hfs 1 _ rfl
  have f2 : DataW.trod enc Try.prog W 0 (fun _ => true) true n 3 [a2] = some y2 := by simpa [c3] using hfs 2 _ rfl
  have f3 : DataW.trod enc Try.prog W 0 (fun _ => true) true n 3 [a3] = some y3 := by simpa [c3] using hfs 3 _ rfl
  obtain ⟨V, e0, _, w0⟩ := DataW.trod_int Try.underlying5 f0
  obtain ⟨F, e1, _, w1⟩ := DataW.trod_int Try.underlying3 f1
  obtain ⟨D, e2, _, w2⟩ := DataW.trod_int Try.underlying3 f2
  obtain ⟨P, e3, _, w3⟩ := DataW.trod_int Try.underlying3 f3
  have b0 := bounds_u8 w0
  exact ⟨V, F, D, P, (List.cons.inj e0).1, (List.cons.inj e1).1, (List.cons.inj e2).1, (List.cons.inj e3).1, by omega, by omega⟩

set_option maxRecDepth 100000 in
theorem open_spc {H : Type} {enc : TypeId × Value → H} {W : World} {base : Nat} {v : Value} {d : DataW H} {p : List MemPlace} (hv : Value.okWide Try.prog W .any base 25 v) (h : DataW.Trod enc Try.prog W 0 (fun _ => true) true 25 v d p) :
    ∃ V F D P : Int, v = .agg #[.int .u8 V, .int .i64 F, .int .i64 D, .int .i64 P] ∧ (0 ≤ V ∧ V < 256) := by
  obtain ⟨cs, rfl, hs3⟩ := okWide_struct Try.underlying25 hv
  obtain ⟨a0, a1, a2, a3, rfl⟩ := spc_array (hs3.trans (show Try.prog.cellsOf 25 = 4 by kernel_rfl))
  obtain ⟨fuel, hf⟩ := h
  have hf' : DataW.trod enc Try.prog W 0 (fun _ => true) true fuel 25 [a0, a1, a2, a3] = some (d, p) := by simpa [Value.cells] using hf
  obtain ⟨V, F, D, P, e0, e1, e2, e3, h1⟩ := open_spc_cells (x := (d, p)) hf'
  rw [e0, e1, e2, e3]
  exact ⟨V, F, D, P, rfl, h1⟩
end Go.Proofs.Ytbldddagddmbgaa
