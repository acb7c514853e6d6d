/-
  A Dec AS IT COMES IN: its fields, read.
-/
import Derived.Test.YthgjflfeilbbbaaGreatDoorVAll
import Derived.SizedLaws
import Derived.ProofKit
namespace Go.Proofs.YthgjflfeilbbbaaGreatDoor
open Go.RowKit Go.Deep Go.ChangeShapes Go.WideShapes Go.ChangeAt

theorem array3 {α : Type} {cs : Array α} (h : cs.size = 3) : ∃ c0 c1 c2, cs = #[c0, c1, c2] := by
  obtain ⟨l⟩ := cs
  match l, h with
  | [c0, c1, c2], _ => exact ⟨c0, c1, c2, rfl⟩

theorem list3 {α : Type} {l : List α} (h : l.length = 3) : ∃ c0 c1 c2, l = [c0, c1, c2] := by
  match l, h with
  | [c0, c1, c2], _ => exact ⟨c0, c1, c2, rfl⟩

theorem open_dec_cells {H : Type} {enc : TypeId × Value → H} {W : World} {fuel : Nat} {a0 a1 a2 : Value} {x : DataW H × List MemPlace} (hf : DataW.trod enc Tryz.prog W 0 (fun _ => true) true fuel 40 [a0, a1, a2] = some x)
    (hsz : ∀ n ∈ x.1.weights Tryz.prog 40, n ≤ reachBytes) :
    ∃ (neg : Bool) (s : ByteArray) (e : Int), a0 = .bool neg ∧ a1 = .string s ∧ a2 = .int .i64 e ∧ s.size ≤ 140737488351232 ∧ (-9223372036854775808 ≤ e ∧ e ≤ 9223372036854775807) := by
  obtain ⟨xs, n, _, hx, _, hlen, hfs⟩ := DataW.trod_struct Tryz.underlying40 hf
  obtain ⟨y0, y1, y2, rfl⟩ := list3 hlen
  have c3 : Tryz.prog.cellsOf 3 = 1 := by kernel_rfl
  have cs : Tryz.prog.cellsOf 9 = 1 := by kernel_rfl
  have cb : Tryz.prog.cellsOf 4 = 1 := by kernel_rfl
  have f0 : DataW.trod enc Tryz.prog W 0 (fun _ => true) true n 4 [a0] = some y0 := by simpa [cb] using hfs 0 _ rfl
  have f1 : DataW.trod enc Tryz.prog W 0 (fun _ => true) true n 9 [a1] = some y1 := by simpa [cs] using hfs 1 _ rfl
  have f2 : DataW.trod enc Tryz.prog W 0 (fun _ => true) true n 3 [a2] = some y2 := by simpa [c3] using hfs 2 _ rfl
  have hd : x.1 = .agg [y0.1, y1.1, y2.1] := by rw [hx]; rfl
  obtain ⟨ng, e0, _⟩ := DataW.trod_bool Tryz.underlying4 f0
  obtain ⟨s, e1, q1, _⟩ := DataW.trod_string Tryz.underlying9 f1
  obtain ⟨E, e2, _, w2⟩ := DataW.trod_int Tryz.underlying3 f2
  have hs : s.data.toList.length ≤ reachBytes := by
    refine hsz _ ?_
    rw [hd]
    simp only [DataW.weights, Tryz.underlying40]
    refine DataW.weights_mem_each (ts := [4, 9, 3]) (ds := [y0.1, y1.1, y2.1]) (j := 1) (t := 9) (d := y1.1) rfl rfl _ ?_
    rw [q1]
    simp [DataW.weights]
  have b2 := bounds_i64 w2
  refine ⟨ng, s, E, (List.cons.inj e0).1, (List.cons.inj e1).1, (List.cons.inj e2).1, ?_, by omega, by omega⟩
  rw [Array.length_toList] at hs
  exact Nat.le_trans (show s.size ≤ reachBytes from hs) (by decide)

set_option maxRecDepth 100000 in
theorem open_dec {H : Type} {enc : TypeId × Value → H} {W : World} {base : Nat} {v : Value} {d : DataW H} {p : List MemPlace} (hv : Value.okWide Tryz.prog W .any base 40 v) (h : DataW.Trod enc Tryz.prog W 0 (fun _ => true) true 40 v d p)
    (hsz : ∀ n ∈ d.weights Tryz.prog 40, n ≤ reachBytes) :
    ∃ (neg : Bool) (s : ByteArray) (e : Int), v = decV neg s e ∧ s.size ≤ 140737488351232 ∧ (-9223372036854775808 ≤ e ∧ e ≤ 9223372036854775807) := by
  obtain ⟨cs, rfl, hs3⟩ := okWide_struct Tryz.underlying40 hv
  obtain ⟨a0, a1, a2, rfl⟩ := array3 (hs3.trans (show Tryz.prog.cellsOf 40 = 3 by kernel_rfl))
  obtain ⟨fuel, hf⟩ := h
  have hf' : DataW.trod enc Tryz.prog W 0 (fun _ => true) true fuel 40 [a0, a1, a2] = some (d, p) := by simpa [Value.cells] using hf
  obtain ⟨neg, s, e, e0, e1, e2, h1, h2⟩ := open_dec_cells (x := (d, p)) hf' hsz
  rw [e0, e1, e2]
  exact ⟨neg, s, e, rfl, h1, h2⟩

theorem str_len (s : ByteArray) {n : Nat} (h : s.size ≤ n) : (s.data.toList.map (fun b => (b.toNat : Int))).length ≤ n := by
  rw [List.length_map, Array.length_toList]; exact h
end Go.Proofs.YthgjflfeilbbbaaGreatDoor
