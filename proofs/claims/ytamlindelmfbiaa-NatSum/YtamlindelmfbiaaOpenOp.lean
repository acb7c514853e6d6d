/-
  AN Op AS IT COMES IN: its fields, read.
-/
import Derived.Test.YtamlindelmfbiaaMem
import Derived.SizedLaws
import Derived.ProofKit
namespace Go.Proofs.Ytamlindelmfbiaa
open Go.RowKit Go.Deep Go.ChangeShapes Go.WideShapes Go.ChangeAt

theorem array6 {α : Type} {cs : Array α} (h : cs.size = 6) : ∃ c0 c1 c2 c3 c4 c5, cs = #[c0, c1, c2, c3, c4, c5] := by
  obtain ⟨l⟩ := cs
  match l, h with
  | [c0, c1, c2, c3, c4, c5], _ => exact ⟨c0, c1, c2, c3, c4, c5, rfl⟩

theorem list6 {α : Type} {l : List α} (h : l.length = 6) : ∃ c0 c1 c2 c3 c4 c5, l = [c0, c1, c2, c3, c4, c5] := by
  match l, h with
  | [c0, c1, c2, c3, c4, c5], _ => exact ⟨c0, c1, c2, c3, c4, c5, rfl⟩

/-- A list of limbs that was read, wherever it stands. -/
theorem open_list {H : Type} {enc : TypeId × Value → H} {W : World} {fuel : Nat} {c : Value} {y : DataW H × List MemPlace} (hf : DataW.trod enc Try.prog W 0 (fun _ => true) true fuel 24 [c] = some y)
    (hsz : ∀ n ∈ y.1.weights Try.prog 24, n ≤ reachBytes) : ∃ p n cap zs, c = .slice p n cap ∧ Arg W p n cap zs ∧ cap ≤ 17592186043904 := by
  rcases open_ints Try.underlying24 Try.underlying29 (by kernel_rfl) hf with ⟨hcs, _⟩ | ⟨x, l, cp, zs, hcs, _, hl, hm, hz, hx, hcell, hwz⟩
  · simp only [List.cons.injEq, and_true] at hcs
    exact ⟨none, 0, 0, [], hcs, ⟨rfl, Nat.le_refl _, by omega, Lies.nil _ _, Nm.Limbs.nil⟩, by omega⟩
  · simp only [List.cons.injEq, and_true] at hcs
    have hz' : zs.length = cp := by simpa using hz
    have hr := hsz (((lits (H := H) .u64 (zs.take l)).length + (lits (H := H) .u64 (zs.drop l)).length) * Try.prog.bytesOf 29) (by rw [hx]; simp [DataW.weights, Try.underlying24])
    rw [show Try.prog.bytesOf 29 = 8 by kernel_rfl] at hr
    simp only [lits, List.length_map, List.length_take, List.length_drop, reachBytes] at hr
    have hb : cp ≤ 17592186043904 := by omega
    exact ⟨some x, l, cp, _, hcs, arg_open hl hz' hb hcell hwz, hb⟩

theorem open_op {H : Type} {enc : TypeId × Value → H} {W : World} {base : Nat} {v : Value} {d : DataW H} {p : List MemPlace} (hv : Value.okWide Try.prog W .any base 37 v) (h : DataW.Trod enc Try.prog W 0 (fun _ => true) true 37 v d p)
    (hsz : ∀ n ∈ d.weights Try.prog 37, n ≤ reachBytes) :
    ∃ (kd M C N : Int) (p1 : Option Addr) (n1 c1 : Nat) (z1 : List Int) (p2 : Option Addr) (n2 c2 : Nat) (z2 : List Int), v = .agg #[.int .i64 kd, .slice p1 n1 c1, .slice p2 n2 c2, .int .u64 M, .int .u64 C, .int .i64 N] ∧ Arg W p1 n1 c1 z1 ∧ Arg W p2 n2 c2 z2 ∧ (0 ≤ M ∧ M < 18446744073709551616) ∧ (0 ≤ C ∧ C < 18446744073709551616) ∧ (-9223372036854775808 ≤ N ∧ N ≤ 9223372036854775807) := by
  obtain ⟨cs, rfl, hs6⟩ := okWide_struct Try.underlying37 hv
  obtain ⟨a0, a1, a2, a3, a4, a5, rfl⟩ := array6 (hs6.trans (show Try.prog.cellsOf 37 = 6 by kernel_rfl))
  obtain ⟨fuel, hf⟩ := h
  obtain ⟨xs, n, _, hx, _, hlen, hfs⟩ := DataW.trod_struct Try.underlying37 hf
  obtain ⟨y0, y1, y2, y3, y4, y5, rfl⟩ := list6 hlen
  have c3 : Try.prog.cellsOf 3 = 1 := by kernel_rfl
  have cs : Try.prog.cellsOf 24 = 1 := by kernel_rfl
  have cu : Try.prog.cellsOf 29 = 1 := by kernel_rfl
  have f0 : DataW.trod enc Try.prog W 0 (fun _ => true) true n 3 [a0] = some y0 := by simpa [Value.cells, c3] using hfs 0 _ rfl
  have f1 : DataW.trod enc Try.prog W 0 (fun _ => true) true n 24 [a1] = some y1 := by simpa [Value.cells, cs] using hfs 1 _ rfl
  have f2 : DataW.trod enc Try.prog W 0 (fun _ => true) true n 24 [a2] = some y2 := by simpa [Value.cells, cs] using hfs 2 _ rfl
  have f3 : DataW.trod enc Try.prog W 0 (fun _ => true) true n 29 [a3] = some y3 := by simpa [Value.cells, cu] using hfs 3 _ rfl
  have f4 : DataW.trod enc Try.prog W 0 (fun _ => true) true n 29 [a4] = some y4 := by simpa [Value.cells, cu] using hfs 4 _ rfl
  have f5 : DataW.trod enc Try.prog W 0 (fun _ => true) true n 3 [a5] = some y5 := by simpa [Value.cells, c3] using hfs 5 _ rfl
  have hd : d = .agg [y0.1, y1.1, y2.1, y3.1, y4.1, y5.1] := (Prod.mk.inj hx).1
  have hw : ∀ (j : Nat) (t : TypeId) (e : DataW H), [3, 24, 24, 29, 29, 3][j]? = some t → [y0.1, y1.1, y2.1, y3.1, y4.1, y5.1][j]? = some e → ∀ n ∈ e.weights Try.prog t, n ≤ reachBytes := by
    intro j t e ht he n hn
    refine hsz n ?_
    rw [hd]
    simp only [DataW.weights, Try.underlying37]
    exact DataW.weights_mem_each ht he n hn
  obtain ⟨kd, e0, _, w0⟩ := DataW.trod_int Try.underlying3 f0
  obtain ⟨M, e3, _, w3⟩ := DataW.trod_int Try.underlying29 f3
  obtain ⟨C, e4, _, w4⟩ := DataW.trod_int Try.underlying29 f4
  obtain ⟨N, e5, _, w5⟩ := DataW.trod_int Try.underlying3 f5
  obtain ⟨p1, n1, c1, z1, rfl, A1, _⟩ := open_list f1 (hw 1 _ _ rfl rfl)
  obtain ⟨p2, n2, c2, z2, rfl, A2, _⟩ := open_list f2 (hw 2 _ _ rfl rfl)
  obtain rfl : a0 = _ := (List.cons.inj e0).1
  obtain rfl : a3 = _ := (List.cons.inj e3).1
  obtain rfl : a4 = _ := (List.cons.inj e4).1
  obtain rfl : a5 = _ := (List.cons.inj e5).1
  have b3 := bounds_u64 w3
  have b4 := bounds_u64 w4
  have b5 := bounds_i64 w5
  exact ⟨kd, M, C, N, p1, n1, c1, z1, p2, n2, c2, z2, rfl, A1, A2, by omega, by omega, by omega⟩
end Go.Proofs.Ytamlindelmfbiaa
