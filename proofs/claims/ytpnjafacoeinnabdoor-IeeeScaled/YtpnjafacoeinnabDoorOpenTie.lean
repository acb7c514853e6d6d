/-
  A Tie AS IT COMES IN: its fields, read.
-/
import Derived.Test.YtpnjafacoeinnabDoorOpenList
import Derived.Test.YtpnjafacoeinnabDoorITie
import Derived.SizedLaws
import Derived.ProofKit
namespace Go.Proofs.YtpnjafacoeinnabDoor
open Go.RowKit Go.Deep Go.ChangeShapes Go.WideShapes Go.ChangeAt

theorem array6 {α : Type} {cs : Array α} (h : cs.size = 6) : ∃ c0 c1 c2 c3 c4 c5, cs = #[c0, c1, c2, c3, c4, c5] := by
  obtain ⟨l⟩ := cs
  match l, h with
  | [c0, c1, c2, c3, c4, c5], _ => exact ⟨c0, c1, c2, c3, c4, c5, rfl⟩

theorem list6 {α : Type} {l : List α} (h : l.length = 6) : ∃ c0 c1 c2 c3 c4 c5, l = [c0, c1, c2, c3, c4, c5] := by
  match l, h with
  | [c0, c1, c2, c3, c4, c5], _ => exact ⟨c0, c1, c2, c3, c4, c5, rfl⟩

theorem open_tie {H : Type} {enc : TypeId × Value → H} {W : World} {base : Nat} {v : Value} {d : DataW H} {p : List MemPlace} (hv : Value.okWide Tryd.prog W .any base 24 v) (h : DataW.Trod enc Tryd.prog W 0 (fun _ => true) true 24 v d p)
    (hsz : ∀ n ∈ d.weights Tryd.prog 24, n ≤ reachBytes) :
    ∃ (neg : Bool) (p1 p2 p3 : Option Addr) (n1 c1 n2 c2 n3 c3 : Nat) (E B : Int) (z1 z2 z3 : List Int), v = .agg (tieCells neg p1 p2 p3 n1 c1 n2 c2 n3 c3 E B) ∧ Arg W p1 n1 c1 z1 ∧ Arg W p2 n2 c2 z2 ∧ Arg W p3 n3 c3 z3 ∧ (-9223372036854775808 ≤ E ∧ E ≤ 9223372036854775807) ∧ (0 ≤ B ∧ B ≤ 255) := by
  obtain ⟨cs, rfl, hs6⟩ := okWide_struct Tryd.underlying24 hv
  obtain ⟨a0, a1, a2, a3, a4, a5, rfl⟩ := array6 (hs6.trans (show Tryd.prog.cellsOf 24 = 6 by kernel_rfl))
  obtain ⟨fuel, hf⟩ := h
  obtain ⟨xs, n, _, hx, _, hlen, hfs⟩ := DataW.trod_struct Tryd.underlying24 hf
  obtain ⟨y0, y1, y2, y3, y4, y5, rfl⟩ := list6 hlen
  have c3 : Tryd.prog.cellsOf 3 = 1 := by kernel_rfl
  have cs : Tryd.prog.cellsOf 22 = 1 := by kernel_rfl
  have cb : Tryd.prog.cellsOf 4 = 1 := by kernel_rfl
  have c8 : Tryd.prog.cellsOf 5 = 1 := by kernel_rfl
  have f0 : DataW.trod enc Tryd.prog W 0 (fun _ => true) true n 4 [a0] = some y0 := by simpa [Value.cells, cb] using hfs 0 _ rfl
  have f1 : DataW.trod enc Tryd.prog W 0 (fun _ => true) true n 22 [a1] = some y1 := by simpa [Value.cells, cs] using hfs 1 _ rfl
  have f2 : DataW.trod enc Tryd.prog W 0 (fun _ => true) true n 22 [a2] = some y2 := by simpa [Value.cells, cs] using hfs 2 _ rfl
  have f3 : DataW.trod enc Tryd.prog W 0 (fun _ => true) true n 22 [a3] = some y3 := by simpa [Value.cells, cs] using hfs 3 _ rfl
  have f4 : DataW.trod enc Tryd.prog W 0 (fun _ => true) true n 3 [a4] = some y4 := by simpa [Value.cells, c3] using hfs 4 _ rfl
  have f5 : DataW.trod enc Tryd.prog W 0 (fun _ => true) true n 5 [a5] = some y5 := by simpa [Value.cells, c8] using hfs 5 _ rfl
  have hd : d = .agg [y0.1, y1.1, y2.1, y3.1, y4.1, y5.1] := (Prod.mk.inj hx).1
  have hw : ∀ (j : Nat) (t : TypeId) (e : DataW H), [4, 22, 22, 22, 3, 5][j]? = some t → [y0.1, y1.1, y2.1, y3.1, y4.1, y5.1][j]? = some e → ∀ n ∈ e.weights Tryd.prog t, n ≤ reachBytes := by
    intro j t e ht he n hn
    refine hsz n ?_
    rw [hd]
    simp only [DataW.weights, Tryd.underlying24]
    exact DataW.weights_mem_each ht he n hn
  obtain ⟨ng, e0, _⟩ := DataW.trod_bool Tryd.underlying4 f0
  obtain ⟨E, e4, _, w4⟩ := DataW.trod_int Tryd.underlying3 f4
  obtain ⟨B, e5, _, w5⟩ := DataW.trod_int Tryd.underlying5 f5
  obtain ⟨p1, n1, c1, z1, rfl, A1, _⟩ := open_list f1 (hw 1 _ _ rfl rfl)
  obtain ⟨p2, n2, c2, z2, rfl, A2, _⟩ := open_list f2 (hw 2 _ _ rfl rfl)
  obtain ⟨p3, n3, c3', z3, rfl, A3, _⟩ := open_list f3 (hw 3 _ _ rfl rfl)
  obtain rfl : a0 = _ := (List.cons.inj e0).1
  obtain rfl : a4 = _ := (List.cons.inj e4).1
  obtain rfl : a5 = _ := (List.cons.inj e5).1
  have b4 := bounds_i64 w4
  have b5 := bounds_u8 w5
  exact ⟨ng, p1, p2, p3, n1, c1, n2, c2, n3, c3', E, B, z1, z2, z3, rfl, A1, A2, A3, by omega, by omega⟩
end Go.Proofs.YtpnjafacoeinnabDoor
