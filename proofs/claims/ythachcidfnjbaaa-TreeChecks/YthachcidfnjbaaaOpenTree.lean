/-
  A Tree AS IT COMES IN: its nodes, read.
-/
import Derived.Test.YthachcidfnjbaaaTrF
import Derived.SizedLaws
import Derived.ProofKit
namespace Go.Proofs.Ythachcidfnjbaaa
open Go Go.RowKit Go.Deep Go.ChangeShapes Go.WideShapes Go.ChangeAt

theorem tall_mem {H : Type} {P : Program} {e : TypeId} : ∀ {l : List (DataW H)} {d : DataW H}, d ∈ l → ∀ n ∈ d.weights P e, n ∈ DataW.weightsAll P e l
  | [], _, h, _, _ => by simp at h
  | x :: r, d, h, n, hn => by
    simp only [DataW.weightsAll, List.mem_append]
    rcases List.mem_cons.1 h with rfl | h
    · exact .inl hn
    · exact .inr (tall_mem h n hn)

/-- What can be told of each place can be told of a list. -/
theorem tlist_of_each {α : Type} {Q : Nat → α → Prop} : ∀ n, (∀ i, i < n → ∃ x, Q i x) → ∃ l : List α, l.length = n ∧ ∀ i x, l[i]? = some x → Q i x
  | 0, _ => ⟨[], rfl, by simp⟩
  | n + 1, h => by
    obtain ⟨l, h1, h2⟩ := tlist_of_each n (fun i hi => h i (by omega))
    obtain ⟨x, hx⟩ := h n (by omega)
    refine ⟨l ++ [x], by simp [h1], fun i y hy => ?_⟩
    by_cases hi : i < l.length
    · rw [List.getElem?_append_left hi] at hy
      exact h2 i y hy
    · have hlt := (List.getElem?_eq_some_iff.1 hy).1
      simp only [List.length_append, List.length_cons, List.length_nil] at hlt
      obtain rfl : i = n := by omega
      rw [List.getElem?_append_right (by omega), h1, Nat.sub_self] at hy
      simp at hy
      subst hy
      exact hx
theorem tlist6 {α : Type} {l : List α} (h : l.length = 6) : ∃ a0 a1 a2 a3 a4 a5, l = [a0, a1, a2, a3, a4, a5] := by
  match l, h with
  | [a0, a1, a2, a3, a4, a5], _ => exact ⟨a0, a1, a2, a3, a4, a5, rfl⟩
theorem tlist1 {α : Type} {l : List α} (h : l.length = 1) : ∃ a0, l = [a0] := by
  match l, h with
  | [a0], _ => exact ⟨a0, rfl⟩
theorem tarray1 {α : Type} {cs : Array α} (h : cs.size = 1) : ∃ c0, cs = #[c0] := by
  obtain ⟨l⟩ := cs
  match l, h with
  | [c0], _ => exact ⟨c0, rfl⟩

theorem open_node {H : Type} {enc : TypeId × Value → H} {W : World} {fuel : Nat} {a0 a1 a2 a3 a4 a5 : Value} {y : DataW H × List MemPlace} (hf : DataW.trod enc Try.prog W 0 (fun _ => true) true fuel 34 [a0, a1, a2, a3, a4, a5] = some y) :
    ∃ x : Tr.Nd, [a0, a1, a2, a3, a4, a5] = Tr.en x := by
  obtain ⟨xs, n, _, hx, _, hlen, hfs⟩ := DataW.trod_struct Try.underlying34 hf
  obtain ⟨y0, y1, y2, y3, y4, y5, rfl⟩ := tlist6 hlen
  have ci : Try.prog.cellsOf 3 = 1 := by kernel_rfl
  have cu : Try.prog.cellsOf 32 = 1 := by kernel_rfl
  have cs : Try.prog.cellsOf 9 = 1 := by kernel_rfl
  have f0 : DataW.trod enc Try.prog W 0 (fun _ => true) true n 3 [a0] = some y0 := by simpa [ci, cu, cs] using hfs 0 _ rfl
  have f1 : DataW.trod enc Try.prog W 0 (fun _ => true) true n 3 [a1] = some y1 := by simpa [ci, cu, cs] using hfs 1 _ rfl
  have f2 : DataW.trod enc Try.prog W 0 (fun _ => true) true n 3 [a2] = some y2 := by simpa [ci, cu, cs] using hfs 2 _ rfl
  have f3 : DataW.trod enc Try.prog W 0 (fun _ => true) true n 3 [a3] = some y3 := by simpa [ci, cu, cs] using hfs 3 _ rfl
  have f4 : DataW.trod enc Try.prog W 0 (fun _ => true) true n 32 [a4] = some y4 := by simpa [ci, cu, cs] using hfs 4 _ rfl
  have f5 : DataW.trod enc Try.prog W 0 (fun _ => true) true n 9 [a5] = some y5 := by simpa [ci, cu, cs] using hfs 5 _ rfl
  obtain ⟨x0, e0, _, _⟩ := DataW.trod_int Try.underlying3 f0
  obtain ⟨x1, e1, _, _⟩ := DataW.trod_int Try.underlying3 f1
  obtain ⟨x2, e2, _, _⟩ := DataW.trod_int Try.underlying3 f2
  obtain ⟨x3, e3, _, _⟩ := DataW.trod_int Try.underlying3 f3
  obtain ⟨x4, e4, _, _⟩ := DataW.trod_int Try.underlying32 f4
  obtain ⟨x5, e5, _, _⟩ := DataW.trod_string Try.underlying9 f5
  refine ⟨⟨x0, x1, x2, x3, x4, x5⟩, ?_⟩
  rw [(List.cons.inj e0).1, (List.cons.inj e1).1, (List.cons.inj e2).1, (List.cons.inj e3).1, (List.cons.inj e4).1, (List.cons.inj e5).1]
  rfl

set_option maxRecDepth 100000 in
theorem open_tree {H : Type} {enc : TypeId × Value → H} {W : World} {base : Nat} {v : Value} {d : DataW H} {p : List MemPlace} (hv : Value.okWide Try.prog W .any base 24 v) (h : DataW.Trod enc Try.prog W 0 (fun _ => true) true 24 v d p)
    (hsz : ∀ n ∈ d.weights Try.prog 24, n ≤ reachBytes) :
    ∃ (a : Option Addr) (cap : Nat) (l : List Tr.Nd), v = .agg #[.slice a l.length cap] ∧ Tr.LN W a l ∧ l.length ≤ cap ∧ cap ≤ 4398046511104 := by
  obtain ⟨cs0, rfl, hs1⟩ := okWide_struct Try.underlying24 hv
  obtain ⟨a0, rfl⟩ := tarray1 (hs1.trans (show Try.prog.cellsOf 24 = 1 by kernel_rfl))
  obtain ⟨fuel, hf⟩ := h
  have hf' : DataW.trod enc Try.prog W 0 (fun _ => true) true fuel 24 [a0] = some (d, p) := by simpa [Value.cells] using hf
  obtain ⟨xs, n, _, hx, _, hlen, hfs⟩ := DataW.trod_struct Try.underlying24 hf'
  obtain ⟨y0, rfl⟩ := tlist1 hlen
  have cl : Try.prog.cellsOf 22 = 1 := by kernel_rfl
  have f0 : DataW.trod enc Try.prog W 0 (fun _ => true) true n 22 [a0] = some y0 := by simpa [cl] using hfs 0 _ rfl
  have hd : d = .agg [y0.1] := (Prod.mk.inj hx).1
  have hw : ∀ k ∈ y0.1.weights Try.prog 22, k ≤ reachBytes := fun k hk => by
    refine hsz k ?_
    rw [hd]
    simp only [DataW.weights, Try.underlying24]
    exact DataW.weights_mem_each (ts := [22]) (ds := [y0.1]) (j := 0) (t := 22) (d := y0.1) rfl rfl k hk
  rcases DataW.trod_slice Try.underlying22 f0 with ⟨hcs, _⟩ | ⟨x, l, c, elems, rest, m, _, hcs, hx5, _, hl, hm, he, hel, hsp, _⟩
  · exact ⟨none, 0, [], by rw [(List.cons.inj hcs).1]; rfl, fun i x hi => by simp at hi, by simp, by omega⟩
  · rw [show y0.1 = .slice (elems.map (·.1)) (rest.map (·.1)) by rw [hx5]] at hw
    simp only [DataW.weights, Try.underlying22] at hw
    have hr := hw _ List.mem_cons_self
    rw [show Try.prog.bytesOf 34 = 56 by kernel_rfl] at hr
    have hrl := (hsp rfl).1
    simp only [List.length_map, reachBytes] at hr
    rw [show Try.prog.cellsOf 34 = 6 by kernel_rfl] at hel
    obtain ⟨its, i1, i2⟩ := tlist_of_each (Q := fun i (o : Tr.Nd) => ∀ (j : Nat) (v : Value), (Tr.en o)[j]? = some v → W.cell? ((x.add (i * 6)).add j) = some v) l (fun i hi => by
      have h1 := hel i hi
      have h2 : elems[i]? = some elems[i] := List.getElem?_eq_getElem (by omega)
      rw [h2] at h1
      obtain ⟨cs, h3, h4⟩ := Option.bind_eq_some_iff.1 h1
      obtain ⟨_, h5, h6⟩ := World.cells?_some h3
      obtain ⟨v0, v1, v2, v3, v4, v5, rfl⟩ := tlist6 h5
      obtain ⟨o, q⟩ := open_node h4
      refine ⟨o, fun j v hv => ?_⟩
      rw [← q] at hv
      have jl := (List.getElem?_eq_some_iff.1 hv).1
      simp only [List.length_cons, List.length_nil] at jl
      have e := h6 j (by omega)
      rw [e]; exact hv)
    refine ⟨some x, c, its, by rw [(List.cons.inj hcs).1, i1], fun i o hi => ?_, by omega, by omega⟩
    obtain ⟨b, off, spot⟩ := x
    have hspot : spot = none := by
      have h0 : 0 < its.length := by have := (List.getElem?_eq_some_iff.1 hi).1; omega
      have z := i2 0 _ (List.getElem?_eq_getElem h0) 0 _ rfl
      simpa [Addr.add] using World.cell?_spot z
    subst hspot
    have z := i2 i o hi
    simp only [Go.WideShapes.add_plain] at z
    exact ⟨b, off, rfl, z 0 _ rfl, z 1 _ rfl, z 2 _ rfl, z 3 _ rfl, z 4 _ rfl, z 5 _ rfl⟩
end Go.Proofs.Ythachcidfnjbaaa
