/-
  A Code AS IT COMES IN, an instruction, conditions; the table of powers.
-/
import Derived.Test.YtnobafmleellhabDoorCdS
import Derived.SizedLaws
import Derived.ProofKit
import Derived.Lib.LaidTab
namespace Go.Proofs.YtnobafmleellhabDoor
open Go Go.RowKit Go.Deep Go.ChangeShapes Go.WideShapes Go.ChangeAt

/-- What can be told of each place can be told of a list. -/
theorem olist_of_each {α : Type} {Q : Nat → α → Prop} : ∀ n, (∀ i, i < n → ∃ x, Q i x) → ∃ l : List α, l.length = n ∧ ∀ i x, l[i]? = some x → Q i x
  | 0, _ => ⟨[], rfl, by simp⟩
  | n + 1, h => by
    obtain ⟨l, h1, h2⟩ := olist_of_each n (fun i hi => h i (by omega))
    obtain ⟨x, hx⟩ := h n (by omega)
    refine ⟨l ++ [x], by simp [h1], fun i y hy => ?_⟩
    by_cases hi : i < l.length
    · rw [List.getElem?_append_left hi] at hy
      exact h2 i y hy
    · have hlt := (List.getElem?_eq_some_iff.1 hy).1
      simp only [List.length_append, List.length_cons, List.length_nil] at hlt
      obtain rfl : i = n := by omega
      rw [List.getElem?_append_right (by omega), h1, Nat.sub_self] at hy
      simp at hy
      subst hy
      exact hx
theorem olist3 {α : Type} {l : List α} (h : l.length = 3) : ∃ a0 a1 a2, l = [a0, a1, a2] := by
  match l, h with
  | [a0, a1, a2], _ => exact ⟨a0, a1, a2, rfl⟩
theorem oarray3 {α : Type} {cs : Array α} (h : cs.size = 3) : ∃ c0 c1 c2, cs = #[c0, c1, c2] := by
  obtain ⟨l⟩ := cs
  match l, h with
  | [c0, c1, c2], _ => exact ⟨c0, c1, c2, rfl⟩
theorem open_in {H : Type} {enc : TypeId × Value → H} {W : World} {fuel : Nat} {a0 a1 a2 : Value} {y : DataW H × List MemPlace} (hf : DataW.trod enc Tryd.prog W 0 (fun _ => true) true fuel 28 [a0, a1, a2] = some y) :
    ∃ x : Cd.In, [a0, a1, a2] = Cd.en x ∧ y = (.agg [.lit (.int .i64 x.w), .lit (.int .i64 x.a), .lit (.int .i64 x.b)], []) ∧ (Lit.int .i64 x.w).wf = true ∧ (Lit.int .i64 x.a).wf = true ∧ (Lit.int .i64 x.b).wf = true := by
  obtain ⟨xs, n, _, hx, _, hlen, hfs⟩ := DataW.trod_struct Tryd.underlying28 hf
  obtain ⟨y0, y1, y2, rfl⟩ := olist3 hlen
  have ci : Tryd.prog.cellsOf 3 = 1 := by kernel_rfl
  have f0 : DataW.trod enc Tryd.prog W 0 (fun _ => true) true n 3 [a0] = some y0 := by simpa [ci] using hfs 0 _ rfl
  have f1 : DataW.trod enc Tryd.prog W 0 (fun _ => true) true n 3 [a1] = some y1 := by simpa [ci] using hfs 1 _ rfl
  have f2 : DataW.trod enc Tryd.prog W 0 (fun _ => true) true n 3 [a2] = some y2 := by simpa [ci] using hfs 2 _ rfl
  obtain ⟨x0, e0, g0, w0⟩ := DataW.trod_int Tryd.underlying3 f0
  obtain ⟨x1, e1, g1, w1⟩ := DataW.trod_int Tryd.underlying3 f1
  obtain ⟨x2, e2, g2, w2⟩ := DataW.trod_int Tryd.underlying3 f2
  refine ⟨⟨x0, x1, x2⟩, ?_, ?_, w0, w1, w2⟩
  · rw [(List.cons.inj e0).1, (List.cons.inj e1).1, (List.cons.inj e2).1]
    rfl
  · rw [hx, g0, g1, g2]; rfl
theorem open_instrs {H : Type} {enc : TypeId × Value → H} {W : World} {fuel : Nat} {a0 : Value} {y : DataW H × List MemPlace} (hf : DataW.trod enc Tryd.prog W 0 (fun _ => true) true fuel 22 [a0] = some y) :
    ∃ (a : Option Addr) (cap : Nat) (l : List Cd.In), a0 = .slice a l.length cap ∧ Cd.LI W a l ∧ l.length ≤ 9223372036854775807 := by
  rcases DataW.trod_slice Tryd.underlying22 hf with ⟨hcs, _⟩ | ⟨x, l, c, elems, rest, m, _, hcs, hx5, _, hl, hm, he, hel, hsp, _⟩
  · exact ⟨none, 0, [], by rw [(List.cons.inj hcs).1]; rfl, fun i x hi => by simp at hi, by simp⟩
  · rw [show Tryd.prog.cellsOf 28 = 3 by kernel_rfl] at hel
    obtain ⟨its, i1, i2⟩ := olist_of_each (Q := fun i (o : Cd.In) => ∀ (j : Nat) (v : Value), (Cd.en o)[j]? = some v → W.cell? ((x.add (i * 3)).add j) = some v) l (fun i hi => by
      have h1 := hel i hi
      have h2 : elems[i]? = some elems[i] := List.getElem?_eq_getElem (by omega)
      rw [h2] at h1
      obtain ⟨cs, h3, h4⟩ := Option.bind_eq_some_iff.1 h1
      obtain ⟨_, h5, h6⟩ := World.cells?_some h3
      obtain ⟨v0, v1, v2, rfl⟩ := olist3 h5
      obtain ⟨o, q, _⟩ := open_in h4
      refine ⟨o, fun j v hv => ?_⟩
      rw [← q] at hv
      have jl := (List.getElem?_eq_some_iff.1 hv).1
      simp only [List.length_cons, List.length_nil] at jl
      have e := h6 j (by omega)
      rw [e]; exact hv)
    have hm' : c ≤ 9223372036854775807 := hm
    refine ⟨some x, c, its, by rw [(List.cons.inj hcs).1, i1], fun i o hi => ?_, by omega⟩
    obtain ⟨b, off, spot⟩ := x
    have hspot : spot = none := by
      have h0 : 0 < its.length := by have := (List.getElem?_eq_some_iff.1 hi).1; omega
      have z := i2 0 _ (List.getElem?_eq_getElem h0) 0 _ rfl
      simpa [Addr.add] using World.cell?_spot z
    subst hspot
    have z := i2 i o hi
    simp only [Go.WideShapes.add_plain] at z
    exact ⟨b, off, rfl, z 0 _ rfl, z 1 _ rfl, z 2 _ rfl⟩
/-- A list of things of one cell. -/
theorem open_ones {α : Type} (f : α → Value) {H : Type} {enc : TypeId × Value → H} {W : World} {fuel : Nat} {a0 : Value} {t e : TypeId} {y : DataW H × List MemPlace} (ht : Tryd.prog.underlying t = some (.slice e)) (hc : Tryd.prog.cellsOf e = 1) (K : α → Prop)
    (hone : ∀ {n : Nat} {cs : List Value} {z : DataW H × List MemPlace}, DataW.trod enc Tryd.prog W 0 (fun _ => true) true n e cs = some z → ∃ x, cs = [f x] ∧ K x) (hf : DataW.trod enc Tryd.prog W 0 (fun _ => true) true fuel t [a0] = some y) :
    ∃ (a : Option Addr) (cap : Nat) (l : List α), a0 = .slice a l.length cap ∧ (∀ i x, l[i]? = some x → ∃ b off, a = some ⟨b, off, none⟩ ∧ W.cell? ⟨b, off + i, none⟩ = some (f x)) ∧ (∀ x ∈ l, K x) ∧ l.length ≤ 9223372036854775807 := by
  rcases DataW.trod_slice ht hf with ⟨hcs, _⟩ | ⟨x, l, c, elems, rest, m, _, hcs, hx5, _, hl, hm, he, hel, hsp, _⟩
  · exact ⟨none, 0, [], by rw [(List.cons.inj hcs).1]; rfl, fun i x hi => by simp at hi, (fun x hx => by cases hx), by simp⟩
  · rw [hc] at hel
    obtain ⟨its, i1, i2⟩ := olist_of_each (Q := fun i (o : α) => W.cell? (x.add i) = some (f o) ∧ K o) l (fun i hi => by
      have h1 := hel i hi
      have h2 : elems[i]? = some elems[i] := List.getElem?_eq_getElem (by omega)
      rw [h2, Nat.mul_one] at h1
      obtain ⟨cs, h3, h4⟩ := Option.bind_eq_some_iff.1 h1
      obtain ⟨o, rfl, k⟩ := hone h4
      exact ⟨o, cell_of_cells?_one h3, k⟩)
    have hm' : c ≤ 9223372036854775807 := hm
    refine ⟨some x, c, its, by rw [(List.cons.inj hcs).1, i1], fun i o hi => ?_, fun o ho => ?_, by omega⟩
    · obtain ⟨b, off, spot⟩ := x
      have hspot : spot = none := by
        have h0 : 0 < its.length := by have := (List.getElem?_eq_some_iff.1 hi).1; omega
        simpa [Addr.add] using World.cell?_spot (i2 0 _ (List.getElem?_eq_getElem h0)).1
      subst hspot
      have z := (i2 i o hi).1
      rw [Go.WideShapes.add_plain] at z
      exact ⟨b, off, rfl, z⟩
    · obtain ⟨i, hi⟩ := List.getElem?_of_mem ho
      exact (i2 i o hi).2
set_option maxRecDepth 100000 in
theorem open_code {H : Type} {enc : TypeId × Value → H} {W : World} {base : Nat} {v : Value} {d : DataW H} {p : List MemPlace} (hv : Value.okWide Tryd.prog W .any base 26 v) (h : DataW.Trod enc Tryd.prog W 0 (fun _ => true) true 26 v d p) :
    ∃ (a b c : Option Addr) (ca cb cc : Nat) (l : List Cd.In) (nums : List Int) (strs : List ByteArray), v = .agg #[.slice a l.length ca, .slice b nums.length cb, .slice c strs.length cc] ∧ Cd.LI W a l ∧ Cd.NI W b nums ∧ TR W c strs ∧ Cd.U64 nums ∧ (∀ s ∈ strs, s.size ≤ 9223372036854775807) ∧ l.length ≤ 9223372036854775807 ∧ nums.length ≤ 9223372036854775807 ∧ strs.length ≤ 9223372036854775807 := by
  obtain ⟨cs0, rfl, hs1⟩ := okWide_struct Tryd.underlying26 hv
  obtain ⟨a0, a1, a2, rfl⟩ := oarray3 (hs1.trans (show Tryd.prog.cellsOf 26 = 3 by kernel_rfl))
  obtain ⟨fuel, hf⟩ := h
  have hf' : DataW.trod enc Tryd.prog W 0 (fun _ => true) true fuel 26 [a0, a1, a2] = some (d, p) := by simpa [Value.cells] using hf
  obtain ⟨xs, n, _, hx, _, hlen, hfs⟩ := DataW.trod_struct Tryd.underlying26 hf'
  obtain ⟨y0, y1, y2, rfl⟩ := olist3 hlen
  have c0 : Tryd.prog.cellsOf 22 = 1 := by kernel_rfl
  have c1 : Tryd.prog.cellsOf 23 = 1 := by kernel_rfl
  have c2 : Tryd.prog.cellsOf 24 = 1 := by kernel_rfl
  have f0 : DataW.trod enc Tryd.prog W 0 (fun _ => true) true n 22 [a0] = some y0 := by simpa [c0, c1, c2] using hfs 0 _ rfl
  have f1 : DataW.trod enc Tryd.prog W 0 (fun _ => true) true n 23 [a1] = some y1 := by simpa [c0, c1, c2] using hfs 1 _ rfl
  have f2 : DataW.trod enc Tryd.prog W 0 (fun _ => true) true n 24 [a2] = some y2 := by simpa [c0, c1, c2] using hfs 2 _ rfl
  obtain ⟨pa, ca, l, rfl, hl, nl⟩ := open_instrs f0
  obtain ⟨pb, cb, nums, rfl, hN, kN, nN⟩ := open_ones (Value.int .u64) Tryd.underlying23 (by kernel_rfl) (fun x => 0 ≤ x ∧ x < 18446744073709551616) (fun hz => by
    obtain ⟨x, e, _, w⟩ := DataW.trod_int Tryd.underlying50 hz
    exact ⟨x, e, by have := bounds_u64 w; omega⟩) f1
  obtain ⟨pc, cc, strs, rfl, hS, kS, nS⟩ := open_ones Value.string Tryd.underlying24 (by kernel_rfl) (fun s : ByteArray => s.size ≤ 9223372036854775807) (fun hz => by
    obtain ⟨s, e, _, w⟩ := DataW.trod_string Tryd.underlying9 hz
    exact ⟨s, e, w⟩) f2
  refine ⟨pa, pb, pc, ca, cb, cc, l, nums, strs, rfl, hl, hN, ?_, kN, kS, nl, nN, nS⟩
  rcases Nat.eq_zero_or_pos strs.length with h0 | h0
  · exact .inl (List.eq_nil_of_length_eq_zero h0)
  · obtain ⟨b, off, rfl, _⟩ := hS 0 _ (List.getElem?_eq_getElem h0)
    refine .inr ⟨b, off, rfl, fun i x hi => ?_⟩
    obtain ⟨b', off', e, c⟩ := hS i x hi
    cases e
    exact c
theorem claid_tail {P : Program} {W : World} {x : String × DataW Unit} {rest : List (String × DataW Unit)} (h : laidMet P (x :: rest) W) : laidMet P rest W := by
  obtain ⟨ps, ⟨g, t, cs, fuel, p, q, _, _, _, _, hr, rfl⟩, hn, hc⟩ := h
  exact ⟨q, hr, (List.nodup_append.1 hn).2.1, fun b off hm => hc b off (List.mem_append_right _ hm)⟩
theorem cpow_laid : (Rows.laid_internal_strconv_uint64pow10 : DataW Unit) = Lib.tabData .u64 Lib.pow10Tab := by kernel_rfl
theorem table10 {W : World} {a b : String × DataW Unit} (h : laidMet Tryd.prog [a, b, ("internal/strconv.uint64pow10", Rows.laid_internal_strconv_uint64pow10)] W) : Tab10 W := by
  have h2 := claid_tail (claid_tail h)
  rw [cpow_laid] at h2
  exact Lib.tabIs_of_head (g := 0) (t := 89) (e := 50) (n := 20) (by kernel_rfl) (by kernel_rfl) Tryd.underlying89 Tryd.underlying50 (by kernel_rfl) (by kernel_rfl) h2
end Go.Proofs.YtnobafmleellhabDoor
