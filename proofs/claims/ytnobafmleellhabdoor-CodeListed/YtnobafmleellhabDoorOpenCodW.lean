/-
  A Code as it comes in: how long its lists may be; an instruction.
-/
import Derived.Test.YtnobafmleellhabDoorOpenCode
namespace Go.Proofs.YtnobafmleellhabDoor
open Go Go.RowKit Go.Deep Go.ChangeShapes Go.WideShapes Go.ChangeAt

theorem slice_size {H : Type} {enc : TypeId × Value → H} {W : World} {fuel : Nat} {t e : TypeId} {B : Nat} {p : Option Addr} {n c : Nat} {y : DataW H × List MemPlace} (ht : Tryd.prog.underlying t = some (.slice e)) (hb : Tryd.prog.bytesOf e = B)
    (hf : DataW.trod enc Tryd.prog W 0 (fun _ => true) true fuel t [.slice p n c] = some y) (hw : ∀ k ∈ y.1.weights Tryd.prog t, k ≤ reachBytes) : n * B ≤ 140737488355328 := by
  rcases DataW.trod_slice ht hf with ⟨hcs, _⟩ | ⟨x, l, c', elems, rest, m, _, hcs, hx5, _, hl, hm, he, hel, hsp, _⟩
  · have := (List.cons.inj hcs).1
    simp only [Value.slice.injEq] at this
    rw [this.2.1]; omega
  · have := (List.cons.inj hcs).1
    simp only [Value.slice.injEq] at this
    obtain ⟨rfl, rfl, rfl⟩ := this
    rw [show y.1 = .slice (elems.map (·.1)) (rest.map (·.1)) by rw [hx5]] at hw
    simp only [DataW.weights, ht] at hw
    have hr := hw _ List.mem_cons_self
    rw [hb] at hr
    have hrl := (hsp rfl).1
    simp only [List.length_map, reachBytes] at hr
    refine Nat.le_trans (Nat.mul_le_mul_right B hl) ?_
    have e1 : elems.length + rest.length = c := by omega
    rw [← e1]
    omega
set_option maxRecDepth 100000 in
theorem code_sizes {H : Type} {enc : TypeId × Value → H} {W : World} {d : DataW H} {p : List MemPlace} {a b c : Option Addr} {l n s ca cb cc : Nat} (h : DataW.Trod enc Tryd.prog W 0 (fun _ => true) true 26 (.agg #[.slice a l ca, .slice b n cb, .slice c s cc]) d p)
    (hsz : ∀ k ∈ d.weights Tryd.prog 26, k ≤ reachBytes) : l * 24 ≤ 140737488355328 ∧ n * 8 ≤ 140737488355328 ∧ s * 16 ≤ 140737488355328 := by
  obtain ⟨fuel, hf⟩ := h
  have hf' : DataW.trod enc Tryd.prog W 0 (fun _ => true) true fuel 26 [.slice a l ca, .slice b n cb, .slice c s cc] = some (d, p) := by simpa [Value.cells] using hf
  obtain ⟨xs, m, _, hx, _, hlen, hfs⟩ := DataW.trod_struct Tryd.underlying26 hf'
  obtain ⟨y0, y1, y2, rfl⟩ := olist3 hlen
  have c0 : Tryd.prog.cellsOf 22 = 1 := by kernel_rfl
  have c1 : Tryd.prog.cellsOf 23 = 1 := by kernel_rfl
  have c2 : Tryd.prog.cellsOf 24 = 1 := by kernel_rfl
  have f0 : DataW.trod enc Tryd.prog W 0 (fun _ => true) true m 22 [.slice a l ca] = some y0 := by simpa [c0, c1, c2] using hfs 0 _ rfl
  have f1 : DataW.trod enc Tryd.prog W 0 (fun _ => true) true m 23 [.slice b n cb] = some y1 := by simpa [c0, c1, c2] using hfs 1 _ rfl
  have f2 : DataW.trod enc Tryd.prog W 0 (fun _ => true) true m 24 [.slice c s cc] = some y2 := by simpa [c0, c1, c2] using hfs 2 _ rfl
  have hd : d = .agg [y0.1, y1.1, y2.1] := (Prod.mk.inj hx).1
  have hw : ∀ (j : Nat) (t : TypeId) (e : DataW H), [22, 23, 24][j]? = some t → [y0.1, y1.1, y2.1][j]? = some e → ∀ k ∈ e.weights Tryd.prog t, k ≤ reachBytes := by
    intro j t e ht he k hk
    refine hsz k ?_
    rw [hd]
    simp only [DataW.weights, Tryd.underlying26]
    exact DataW.weights_mem_each ht he k hk
  exact ⟨slice_size (B := 24) Tryd.underlying22 (by kernel_rfl) f0 (hw 0 _ _ rfl rfl), slice_size (B := 8) Tryd.underlying23 (by kernel_rfl) f1 (hw 1 _ _ rfl rfl), slice_size (B := 16) Tryd.underlying24 (by kernel_rfl) f2 (hw 2 _ _ rfl rfl)⟩
set_option maxRecDepth 100000 in
theorem open_instr {H : Type} {enc : TypeId × Value → H} {W : World} {base : Nat} {v : Value} {d : DataW H} {p : List MemPlace} (hv : Value.okWide Tryd.prog W .any base 28 v) (h : DataW.Trod enc Tryd.prog W 0 (fun _ => true) true 28 v d p) :
    ∃ x : Cd.In, v = .agg #[.int .i64 x.w, .int .i64 x.a, .int .i64 x.b] ∧ (Lit.int .i64 x.w).wf = true ∧ (Lit.int .i64 x.a).wf = true ∧ (Lit.int .i64 x.b).wf = true := by
  obtain ⟨cs0, rfl, hs1⟩ := okWide_struct Tryd.underlying28 hv
  obtain ⟨a0, a1, a2, rfl⟩ := oarray3 (hs1.trans (show Tryd.prog.cellsOf 28 = 3 by kernel_rfl))
  obtain ⟨fuel, hf⟩ := h
  have hf' : DataW.trod enc Tryd.prog W 0 (fun _ => true) true fuel 28 [a0, a1, a2] = some (d, p) := by simpa [Value.cells] using hf
  obtain ⟨x, e, _, w0, w1, w2⟩ := open_in hf'
  simp only [Cd.en, List.cons.injEq, and_true] at e
  obtain ⟨rfl, rfl, rfl⟩ := e
  exact ⟨x, rfl, w0, w1, w2⟩
end Go.Proofs.YtnobafmleellhabDoor
