/-
  A LIST OF Pieces AS IT COMES IN: the seven fields of each, read; how great they are.
-/
import Derived.Test.YtaadooippelcfaaDoorDList
import Derived.Test.YtaadooippelcfaaDoorGBulk
import Derived.SizedLaws
import Derived.ProofKit
namespace Go.Proofs.YtaadooippelcfaaDoor
open Go Go.RowKit Go.Deep Go.ChangeShapes Go.WideShapes Go.ChangeAt

theorem bulk_mem {H : Type} : ∀ {l : List (DataW H)} {d : DataW H}, d ∈ l → Rows.uptoBulk d ≤ Rows.uptoBulkAll l
  | [], _, h => by simp at h
  | x :: r, d, h => by
    simp only [Rows.uptoBulkAll]
    rcases List.mem_cons.1 h with rfl | h
    · omega
    · have := bulk_mem h
      omega

theorem pall_mem {H : Type} {P : Program} {e : TypeId} : ∀ {l : List (DataW H)} {d : DataW H}, d ∈ l → ∀ n ∈ d.weights P e, n ∈ DataW.weightsAll P e l
  | [], _, h, _, _ => by simp at h
  | x :: r, d, h, n, hn => by
    simp only [DataW.weightsAll, List.mem_append]
    rcases List.mem_cons.1 h with rfl | h
    · exact .inl hn
    · exact .inr (pall_mem h n hn)

/-- What can be told of each place can be told of a list. -/
theorem plist_of_each {α : Type} {Q : Nat → α → Prop} : ∀ n, (∀ i, i < n → ∃ x, Q i x) → ∃ l : List α, l.length = n ∧ ∀ i x, l[i]? = some x → Q i x
  | 0, _ => ⟨[], rfl, by simp⟩
  | n + 1, h => by
    obtain ⟨l, h1, h2⟩ := plist_of_each n (fun i hi => h i (by omega))
    obtain ⟨x, hx⟩ := h n (by omega)
    refine ⟨l ++ [x], by simp [h1], fun i y hy => ?_⟩
    by_cases hi : i < l.length
    · rw [List.getElem?_append_left hi] at hy
      exact h2 i y hy
    · have hlt := (List.getElem?_eq_some_iff.1 hy).1
      simp only [List.length_append, List.length_cons, List.length_nil] at hlt
      obtain rfl : i = n := by omega
      rw [List.getElem?_append_right (by omega), h1, Nat.sub_self] at hy
      simp at hy
      subst hy
      exact hx

theorem list7 {α : Type} {l : List α} (h : l.length = 7) : ∃ c0 c1 c2 c3 c4 c5 c6, l = [c0, c1, c2, c3, c4, c5, c6] := by
  match l, h with
  | [c0, c1, c2, c3, c4, c5, c6], _ => exact ⟨c0, c1, c2, c3, c4, c5, c6, rfl⟩

theorem open_piece_cells {H : Type} {enc : TypeId × Value → H} {W : World} {fuel : Nat} {a0 a1 a2 a3 a4 a5 a6 : Value} {x : DataW H × List MemPlace} (hf : DataW.trod enc Tryd.prog W 0 (fun _ => true) true fuel 25 [a0, a1, a2, a3, a4, a5, a6] = some x)
    (hsz : ∀ n ∈ x.1.weights Tryd.prog 25, n ≤ reachBytes) :
    ∃ p : Dr.Pc, (a0 = .string (strOfNums p.t) ∧ a1 = .int .u8 p.v ∧ a2 = .int .i64 p.fl ∧ a3 = .int .i64 p.wk ∧ a4 = .int .i64 p.wd ∧ a5 = .int .i64 p.pk ∧ a6 = .int .i64 p.pr) ∧ PcW p ∧ p.t.length ≤ 140737488351232 ∧ p.t.length ≤ Rows.uptoBulk x.1 := by
  obtain ⟨xs, n, _, hx, _, hlen, hfs⟩ := DataW.trod_struct Tryd.underlying25 hf
  obtain ⟨y0, y1, y2, y3, y4, y5, y6, rfl⟩ := list7 hlen
  have c3 : Tryd.prog.cellsOf 3 = 1 := by kernel_rfl
  have c5 : Tryd.prog.cellsOf 5 = 1 := by kernel_rfl
  have cs : Tryd.prog.cellsOf 9 = 1 := by kernel_rfl
  have f0 : DataW.trod enc Tryd.prog W 0 (fun _ => true) true n 9 [a0] = some y0 := by simpa [cs] using hfs 0 _ rfl
  have f1 : DataW.trod enc Tryd.prog W 0 (fun _ => true) true n 5 [a1] = some y1 := by simpa [c5] using hfs 1 _ rfl
  have f2 : DataW.trod enc Tryd.prog W 0 (fun _ => true) true n 3 [a2] = some y2 := by simpa [c3] using hfs 2 _ rfl
  have f3 : DataW.trod enc Tryd.prog W 0 (fun _ => true) true n 3 [a3] = some y3 := by simpa [c3] using hfs 3 _ rfl
  have f4 : DataW.trod enc Tryd.prog W 0 (fun _ => true) true n 3 [a4] = some y4 := by simpa [c3] using hfs 4 _ rfl
  have f5 : DataW.trod enc Tryd.prog W 0 (fun _ => true) true n 3 [a5] = some y5 := by simpa [c3] using hfs 5 _ rfl
  have f6 : DataW.trod enc Tryd.prog W 0 (fun _ => true) true n 3 [a6] = some y6 := by simpa [c3] using hfs 6 _ rfl
  have hd : x.1 = .agg [y0.1, y1.1, y2.1, y3.1, y4.1, y5.1, y6.1] := by rw [hx]; rfl
  obtain ⟨s, e0, q0, _⟩ := DataW.trod_string Tryd.underlying9 f0
  obtain ⟨v, e1, _, w1⟩ := DataW.trod_int Tryd.underlying5 f1
  obtain ⟨fl, e2, _, _⟩ := DataW.trod_int Tryd.underlying3 f2
  obtain ⟨wk, e3, _, _⟩ := DataW.trod_int Tryd.underlying3 f3
  obtain ⟨wd, e4, _, _⟩ := DataW.trod_int Tryd.underlying3 f4
  obtain ⟨pk, e5, _, _⟩ := DataW.trod_int Tryd.underlying3 f5
  obtain ⟨pr, e6, _, _⟩ := DataW.trod_int Tryd.underlying3 f6
  have hs : s.data.toList.length ≤ reachBytes := by
    refine hsz _ ?_
    rw [hd]
    simp only [DataW.weights, Tryd.underlying25]
    refine DataW.weights_mem_each (ts := [9, 5, 3, 3, 3, 3, 3]) (ds := [y0.1, y1.1, y2.1, y3.1, y4.1, y5.1, y6.1]) (j := 0) (t := 9) (d := y0.1) rfl rfl _ ?_
    rw [q0]
    simp [DataW.weights]
  have hb : s.data.toList.length ≤ Rows.uptoBulk x.1 := by
    rw [hd, q0]
    simp only [Rows.uptoBulk, Rows.uptoBulkAll]
    simp
    omega
  have b1 := bounds_u8 w1
  refine ⟨⟨s.data.toList.map (fun b => (b.toNat : Int)), v, fl, wk, wd, pk, pr⟩, ⟨?_, (List.cons.inj e1).1, (List.cons.inj e2).1, (List.cons.inj e3).1, (List.cons.inj e4).1, (List.cons.inj e5).1, (List.cons.inj e6).1⟩, ⟨fun x hx => (Str.self s).mem hx, b1.1, Int.lt_of_le_of_lt b1.2 (by decide)⟩, ?_, ?_⟩
  · rw [(List.cons.inj e0).1, ← str_of (Str.self s)]
  · rw [List.length_map]; exact Nat.le_trans hs (by decide)
  · rw [List.length_map]; exact hb

theorem array7 {α : Type} {cs : Array α} (h : cs.size = 7) : ∃ c0 c1 c2 c3 c4 c5 c6, cs = #[c0, c1, c2, c3, c4, c5, c6] := by
  obtain ⟨l⟩ := cs
  match l, h with
  | [c0, c1, c2, c3, c4, c5, c6], _ => exact ⟨c0, c1, c2, c3, c4, c5, c6, rfl⟩

set_option maxRecDepth 100000 in
theorem open_piece {H : Type} {enc : TypeId × Value → H} {W : World} {base : Nat} {v : Value} {d : DataW H} {p : List MemPlace} (hv : Value.okWide Tryd.prog W .any base 25 v) (h : DataW.Trod enc Tryd.prog W 0 (fun _ => true) true 25 v d p)
    (hsz : ∀ n ∈ d.weights Tryd.prog 25, n ≤ reachBytes) :
    ∃ q : Dr.Pc, v = .agg #[.string (strOfNums q.t), .int .u8 q.v, .int .i64 q.fl, .int .i64 q.wk, .int .i64 q.wd, .int .i64 q.pk, .int .i64 q.pr] ∧ PcW q ∧ q.t.length ≤ 140737488351232 ∧ q.t.length ≤ Rows.uptoBulk d := by
  obtain ⟨cs, rfl, hs7⟩ := okWide_struct Tryd.underlying25 hv
  obtain ⟨a0, a1, a2, a3, a4, a5, a6, rfl⟩ := array7 (hs7.trans (show Tryd.prog.cellsOf 25 = 7 by kernel_rfl))
  obtain ⟨fuel, hf⟩ := h
  have hf' : DataW.trod enc Tryd.prog W 0 (fun _ => true) true fuel 25 [a0, a1, a2, a3, a4, a5, a6] = some (d, p) := by simpa [Value.cells] using hf
  obtain ⟨q, ⟨e0, e1, e2, e3, e4, e5, e6⟩, h1, h2, h3⟩ := open_piece_cells (x := (d, p)) hf' hsz
  rw [e0, e1, e2, e3, e4, e5, e6]
  exact ⟨q, rfl, h1, h2, h3⟩

set_option maxRecDepth 100000 in
theorem open_pieces {H : Type} {enc : TypeId × Value → H} {W : World} {a : Option Addr} {len cap : Nat} {d : DataW H} {p : List MemPlace} (h : DataW.Trod enc Tryd.prog W 0 (fun _ => true) true 26 (.slice a len cap) d p)
    (hsz : ∀ n ∈ d.weights Tryd.prog 26, n ≤ reachBytes) : ∃ ps : List Dr.Pc, ps.length = len ∧ LP W a ps ∧ (∀ q ∈ ps, PcW q) ∧ (∀ q ∈ ps, q.t.length ≤ 140737488351232 ∧ q.t.length ≤ Rows.uptoBulk d) ∧ len ≤ 2199023255552 ∧ len ≤ Rows.uptoBulk d := by
  obtain ⟨fuel, hf⟩ := h
  rcases DataW.trod_slice Tryd.underlying26 hf with ⟨hcs, _⟩ | ⟨x, l, c, elems, rest, n, _, hcs, hx, _, hl, hm, he, hel, hsp, _⟩
  · simp [Value.cells] at hcs
    obtain ⟨rfl, rfl, rfl⟩ := hcs
    exact ⟨[], rfl, .inl rfl, by intro it h; simp at h, by intro it h; simp at h, by omega, by omega⟩
  · simp [Value.cells] at hcs
    obtain ⟨rfl, rfl, rfl⟩ := hcs
    have hd : d = .slice (elems.map (·.1)) (rest.map (·.1)) := (Prod.mk.inj hx).1
    have hw : ∀ n ∈ (DataW.slice (elems.map (·.1)) (rest.map (·.1)) : DataW H).weights Tryd.prog 26, n ≤ reachBytes := by rw [← hd]; exact hsz
    simp only [DataW.weights, Tryd.underlying26] at hw
    have hr := hw _ List.mem_cons_self
    rw [show Tryd.prog.bytesOf 25 = 64 by kernel_rfl] at hr
    have hrl := (hsp rfl).1
    simp only [List.length_map, reachBytes] at hr
    have hbl : len ≤ Rows.uptoBulk d := by
      rw [hd]
      refine Nat.le_trans ?_ (bulk_slice _ _)
      rw [List.length_map]; omega
    rw [show Tryd.prog.cellsOf 25 = 7 by kernel_rfl] at hel
    obtain ⟨its, i1, i2⟩ := plist_of_each (Q := fun i (it : Dr.Pc) => (W.cell? (x.add (i * 7)) = some (.string (strOfNums it.t)) ∧ W.cell? ((x.add (i * 7)).add 1) = some (.int .u8 it.v) ∧ W.cell? ((x.add (i * 7)).add 2) = some (.int .i64 it.fl) ∧ W.cell? ((x.add (i * 7)).add 3) = some (.int .i64 it.wk) ∧ W.cell? ((x.add (i * 7)).add 4) = some (.int .i64 it.wd) ∧ W.cell? ((x.add (i * 7)).add 5) = some (.int .i64 it.pk) ∧ W.cell? ((x.add (i * 7)).add 6) = some (.int .i64 it.pr)) ∧ PcW it ∧ it.t.length ≤ 140737488351232 ∧ it.t.length ≤ Rows.uptoBulk d) len (fun i hi => by
      have h1 := hel i hi
      have h2 : elems[i]? = some elems[i] := List.getElem?_eq_getElem (by omega)
      rw [h2] at h1
      obtain ⟨cs, h3, h4⟩ := Option.bind_eq_some_iff.1 h1
      obtain ⟨_, h5, h6⟩ := World.cells?_some h3
      obtain ⟨v0, v1, v2, v3, v4, v5, v6, rfl⟩ := list7 h5
      have e0 := h6 0 (by omega)
      have e1 := h6 1 (by omega)
      have e2 := h6 2 (by omega)
      have e3 := h6 3 (by omega)
      have e4 := h6 4 (by omega)
      have e5 := h6 5 (by omega)
      have e6 := h6 6 (by omega)
      have h8 : (x.add (i * 7)).add 0 = x.add (i * 7) := by simp [Addr.add]
      rw [h8] at e0
      obtain ⟨q, ⟨q0, q1, q2, q3, q4, q5, q6⟩, hA, hB, hC⟩ := open_piece_cells h4 (fun m hm => hw m (List.mem_cons_of_mem _ (List.mem_append_left _ (pall_mem (List.mem_map.2 ⟨elems[i], List.getElem_mem _, rfl⟩) m hm))))
      subst q0 q1 q2 q3 q4 q5 q6
      refine ⟨q, ⟨e0, e1, e2, e3, e4, e5, e6⟩, hA, hB, Nat.le_trans hC ?_⟩
      have := bulk_mem (l := elems.map (·.1)) (d := elems[i].1) (List.mem_map.2 ⟨elems[i], List.getElem_mem _, rfl⟩)
      rw [hd]
      simp only [Rows.uptoBulk]
      omega)
    refine ⟨its, i1, ?_, ?_, ?_, by omega, hbl⟩
    · rcases Nat.eq_zero_or_pos its.length with h0 | h0
      · exact .inl (List.eq_nil_of_length_eq_zero h0)
      · obtain ⟨b, off, spot⟩ := x
        have hspot : spot = none := by simpa [Addr.add] using World.cell?_spot (i2 0 _ (List.getElem?_eq_getElem h0)).1.1
        subst hspot
        refine .inr ⟨b, off, rfl, fun i it hi => ?_⟩
        obtain ⟨⟨q0, q1, q2, q3, q4, q5, q6⟩, _⟩ := i2 i it hi
        simp only [Go.WideShapes.add_plain] at q0 q1 q2 q3 q4 q5 q6
        exact ⟨q0, q1, q2, q3, q4, q5, q6⟩
    · intro it hit
      obtain ⟨i, hi⟩ := List.getElem?_of_mem hit
      exact (i2 i it hi).2.1
    · intro it hit
      obtain ⟨i, hi⟩ := List.getElem?_of_mem hit
      exact (i2 i it hi).2.2
end Go.Proofs.YtaadooippelcfaaDoor
