/-
  Texts put together: OpenSpc, OpenList, OpenAskW, JUnsL.
-/
import Derived.Test.YtbldddagddmbgaaDoorJA
import Derived.SizedLaws
import Derived.ProofKit
import Derived.Test.YtbldddagddmbgaaDoorMem
import Derived.Test.YtbldddagddmbgaaDoorJR
import Derived.Test.YtbldddagddmbgaaDoorJC
namespace Go.Proofs.YtbldddagddmbgaaDoor
open Go.RowKit Go.Deep Go.ChangeShapes Go.WideShapes Go.ChangeAt

theorem spc_array {α : Type} {cs : Array α} (h : cs.size = 4) : ∃ c0 c1 c2 c3, cs = #[c0, c1, c2, c3] := by
  obtain ⟨l⟩ := cs
  match l, h with
  | [c0, c1, c2, c3], _ => exact ⟨c0, c1, c2, c3, rfl⟩
theorem spc_list {α : Type} {l : List α} (h : l.length = 4) : ∃ c0 c1 c2 c3, l = [c0, c1, c2, c3] := by
  match l, h with
  | [c0, c1, c2, c3], _ => exact ⟨c0, c1, c2, c3, rfl⟩

set_option maxRecDepth 100000 in
theorem open_spc_cells {H : Type} {enc : TypeId × Value → H} {W : World} {fuel : Nat} {a0 a1 a2 a3 : Value} {x : DataW H × List MemPlace} (hf : DataW.trod enc Tryd.prog W 0 (fun _ => true) true fuel 25 [a0, a1, a2, a3] = some x) :
    ∃ V F D P : Int, a0 = .int .u8 V ∧ a1 = .int .i64 F ∧ a2 = .int .i64 D ∧ a3 = .int .i64 P ∧ (0 ≤ V ∧ V < 256) := by
  obtain ⟨xs, n, _, hx, _, hlen, hfs⟩ := DataW.trod_struct Tryd.underlying25 hf
  obtain ⟨y0, y1, y2, y3, rfl⟩ := spc_list hlen
  have c3 : Tryd.prog.cellsOf 3 = 1 := by kernel_rfl
  have c8 : Tryd.prog.cellsOf 5 = 1 := by kernel_rfl
  have f0 : DataW.trod enc Tryd.prog W 0 (fun _ => true) true n 5 [a0] = some y0 := by simpa [c8] using hfs 0 _ rfl
  have f1 : DataW.trod enc Tryd.prog W 0 (fun _ => true) true n 3 [a1] = some y1 := by simpa [c3] using hfs 1 _ rfl
  have f2 : DataW.trod enc Tryd.prog W 0 (fun _ => true) true n 3 [a2] = some y2 := by simpa [c3] using hfs 2 _ rfl
  have f3 : DataW.trod enc Tryd.prog W 0 (fun _ => true) true n 3 [a3] = some y3 := by simpa [c3] using hfs 3 _ rfl
  obtain ⟨V, e0, _, w0⟩ := DataW.trod_int Tryd.underlying5 f0
  obtain ⟨F, e1, _, w1⟩ := DataW.trod_int Tryd.underlying3 f1
  obtain ⟨D, e2, _, w2⟩ := DataW.trod_int Tryd.underlying3 f2
  obtain ⟨P, e3, _, w3⟩ := DataW.trod_int Tryd.underlying3 f3
  have b0 := bounds_u8 w0
  exact ⟨V, F, D, P, (List.cons.inj e0).1, (List.cons.inj e1).1, (List.cons.inj e2).1, (List.cons.inj e3).1, by omega, by omega⟩

set_option maxRecDepth 100000 in
theorem open_spc {H : Type} {enc : TypeId × Value → H} {W : World} {base : Nat} {v : Value} {d : DataW H} {p : List MemPlace} (hv : Value.okWide Tryd.prog W .any base 25 v) (h : DataW.Trod enc Tryd.prog W 0 (fun _ => true) true 25 v d p) :
    ∃ V F D P : Int, v = .agg #[.int .u8 V, .int .i64 F, .int .i64 D, .int .i64 P] ∧ (0 ≤ V ∧ V < 256) := by
  obtain ⟨cs, rfl, hs3⟩ := okWide_struct Tryd.underlying25 hv
  obtain ⟨a0, a1, a2, a3, rfl⟩ := spc_array (hs3.trans (show Tryd.prog.cellsOf 25 = 4 by kernel_rfl))
  obtain ⟨fuel, hf⟩ := h
  have hf' : DataW.trod enc Tryd.prog W 0 (fun _ => true) true fuel 25 [a0, a1, a2, a3] = some (d, p) := by simpa [Value.cells] using hf
  obtain ⟨V, F, D, P, e0, e1, e2, e3, h1⟩ := open_spc_cells (x := (d, p)) hf'
  rw [e0, e1, e2, e3]
  exact ⟨V, F, D, P, rfl, h1⟩
end Go.Proofs.YtbldddagddmbgaaDoor

namespace Go.Proofs.YtbldddagddmbgaaDoor
open Go.RowKit Go.Deep Go.ChangeShapes Go.WideShapes Go.ChangeAt

/-- A list of limbs that was read, wherever it stands. -/
theorem open_list {H : Type} {enc : TypeId × Value → H} {W : World} {fuel : Nat} {c : Value} {y : DataW H × List MemPlace} (hf : DataW.trod enc Tryd.prog W 0 (fun _ => true) true fuel 28 [c] = some y)
    (hsz : ∀ n ∈ y.1.weights Tryd.prog 28, n ≤ reachBytes) : ∃ p n cap zs, c = .slice p n cap ∧ Arg W p n cap zs ∧ cap ≤ 17592186043904 := by
  rcases open_ints Tryd.underlying28 Tryd.underlying27 (by kernel_rfl) hf with ⟨hcs, _⟩ | ⟨x, l, cp, zs, hcs, _, hl, hm, hz, hx, hcell, hwz⟩
  · simp only [List.cons.injEq, and_true] at hcs
    exact ⟨none, 0, 0, [], hcs, ⟨rfl, Nat.le_refl _, by omega, Lies.nil _ _, Nm.Limbs.nil⟩, by omega⟩
  · simp only [List.cons.injEq, and_true] at hcs
    have hz' : zs.length = cp := by simpa using hz
    have hr := hsz (((lits (H := H) .u64 (zs.take l)).length + (lits (H := H) .u64 (zs.drop l)).length) * Tryd.prog.bytesOf 27) (by rw [hx]; simp [DataW.weights, Tryd.underlying28])
    rw [show Tryd.prog.bytesOf 27 = 8 by kernel_rfl] at hr
    simp only [lits, List.length_map, List.length_take, List.length_drop, reachBytes] at hr
    have hb : cp ≤ 17592186043904 := by omega
    exact ⟨some x, l, cp, _, hcs, arg_open hl hz' hb hcell hwz, hb⟩

theorem all_mem {H : Type} {P : Program} {e : TypeId} : ∀ {l : List (DataW H)} {d : DataW H}, d ∈ l → ∀ n ∈ d.weights P e, n ∈ DataW.weightsAll P e l
  | [], _, h, _, _ => by simp at h
  | x :: r, d, h, n, hn => by
    simp only [DataW.weightsAll, List.mem_append]
    rcases List.mem_cons.1 h with rfl | h
    · exact .inl hn
    · exact .inr (all_mem h n hn)

/-- What can be told of each place can be told of a list. -/
theorem list_of_each {α : Type} {Q : Nat → α → Prop} : ∀ n, (∀ i, i < n → ∃ x, Q i x) → ∃ l : List α, l.length = n ∧ ∀ i x, l[i]? = some x → Q i x
  | 0, _ => ⟨[], rfl, by simp⟩
  | n + 1, h => by
    obtain ⟨l, h1, h2⟩ := list_of_each n (fun i hi => h i (by omega))
    obtain ⟨x, hx⟩ := h n (by omega)
    refine ⟨l ++ [x], by simp [h1], fun i y hy => ?_⟩
    by_cases hi : i < l.length
    · rw [List.getElem?_append_left hi] at hy
      exact h2 i y hy
    · have hlt := (List.getElem?_eq_some_iff.1 hy).1
      simp only [List.length_append, List.length_cons, List.length_nil] at hlt
      obtain rfl : i = n := by omega
      rw [List.getElem?_append_right (by omega), h1, Nat.sub_self] at hy
      simp at hy
      subst hy
      exact hx
end Go.Proofs.YtbldddagddmbgaaDoor

namespace Go.Proofs.YtbldddagddmbgaaDoor
open Go Go.RowKit Go.Deep Go.ChangeShapes Go.WideShapes Go.ChangeAt

structure Aq where
  V : Int
  F : Int
  D : Int
  P : Int
  neg : Bool
  p : Option Addr
  n : Nat
  cap : Nat
  u : Int
  t : List Int
def aqv (q : Aq) : Array Value := #[.int .u8 q.V, .int .i64 q.F, .int .i64 q.D, .int .i64 q.P, .bool q.neg, .slice q.p q.n q.cap, .int .u64 q.u, .string (strOfNums q.t)]
/-- What is known of an Ask that came in. -/
def AqW (W : World) (q : Aq) : Prop := (0 ≤ q.V ∧ q.V < 256) ∧ (0 ≤ q.u ∧ q.u < 18446744073709551616) ∧ Wh.By q.t ∧ q.t.length ≤ 140737488351232 ∧ (∃ zs, Arg W q.p q.n q.cap zs)

theorem aq_array {α : Type} {cs : Array α} (h : cs.size = 8) : ∃ c0 c1 c2 c3 c4 c5 c6 c7, cs = #[c0, c1, c2, c3, c4, c5, c6, c7] := by
  obtain ⟨l⟩ := cs
  match l, h with
  | [c0, c1, c2, c3, c4, c5, c6, c7], _ => exact ⟨c0, c1, c2, c3, c4, c5, c6, c7, rfl⟩
theorem aq_list {α : Type} {l : List α} (h : l.length = 5) : ∃ c0 c1 c2 c3 c4, l = [c0, c1, c2, c3, c4] := by
  match l, h with
  | [c0, c1, c2, c3, c4], _ => exact ⟨c0, c1, c2, c3, c4, rfl⟩

set_option maxRecDepth 100000 in
theorem open_ask_cells {H : Type} {enc : TypeId × Value → H} {W : World} {fuel : Nat} {a0 a1 a2 a3 a4 a5 a6 a7 : Value} {x : DataW H × List MemPlace} (hf : DataW.trod enc Tryd.prog W 0 (fun _ => true) true fuel 30 [a0, a1, a2, a3, a4, a5, a6, a7] = some x)
    (hsz : ∀ n ∈ x.1.weights Tryd.prog 30, n ≤ reachBytes) : ∃ q : Aq, #[a0, a1, a2, a3, a4, a5, a6, a7] = aqv q ∧ AqW W q := by
  obtain ⟨xs, n, _, hx, _, hlen, hfs⟩ := DataW.trod_struct Tryd.underlying30 hf
  obtain ⟨y0, y1, y2, y3, y4, rfl⟩ := aq_list hlen
  have c4 : Tryd.prog.cellsOf 25 = 4 := by kernel_rfl
  have cb : Tryd.prog.cellsOf 4 = 1 := by kernel_rfl
  have cl : Tryd.prog.cellsOf 28 = 1 := by kernel_rfl
  have cu : Tryd.prog.cellsOf 27 = 1 := by kernel_rfl
  have cs : Tryd.prog.cellsOf 9 = 1 := by kernel_rfl
  have f0 : DataW.trod enc Tryd.prog W 0 (fun _ => true) true n 25 [a0, a1, a2, a3] = some y0 := by simpa [c4] using hfs 0 _ rfl
  have f1 : DataW.trod enc Tryd.prog W 0 (fun _ => true) true n 4 [a4] = some y1 := by simpa [cb] using hfs 1 _ rfl
  have f2 : DataW.trod enc Tryd.prog W 0 (fun _ => true) true n 28 [a5] = some y2 := by simpa [cl] using hfs 2 _ rfl
  have f3 : DataW.trod enc Tryd.prog W 0 (fun _ => true) true n 27 [a6] = some y3 := by simpa [cu] using hfs 3 _ rfl
  have f4 : DataW.trod enc Tryd.prog W 0 (fun _ => true) true n 9 [a7] = some y4 := by simpa [cs] using hfs 4 _ rfl
  have hd : x.1 = .agg [y0.1, y1.1, y2.1, y3.1, y4.1] := by rw [hx]; rfl
  have hw : ∀ (j : Nat) (t : TypeId) (e : DataW H), [25, 4, 28, 27, 9][j]? = some t → [y0.1, y1.1, y2.1, y3.1, y4.1][j]? = some e → ∀ n ∈ e.weights Tryd.prog t, n ≤ reachBytes := by
    intro j t e ht he n hn
    refine hsz n ?_
    rw [hd]
    simp only [DataW.weights, Tryd.underlying30]
    exact DataW.weights_mem_each ht he n hn
  obtain ⟨V, F, D, P, e0, e1, e2, e3, hV⟩ := open_spc_cells (x := y0) f0
  obtain ⟨ng, e4, _⟩ := DataW.trod_bool Tryd.underlying4 f1
  obtain ⟨u, e6, _, w6⟩ := DataW.trod_int Tryd.underlying27 f3
  obtain ⟨s, e7, q7, _⟩ := DataW.trod_string Tryd.underlying9 f4
  have hs : s.data.toList.length ≤ reachBytes := by
    refine hw 4 _ _ rfl rfl _ ?_
    rw [q7]
    simp [DataW.weights]
  have b6 : 0 ≤ u ∧ u < 18446744073709551616 := by have := bounds_u64 w6; omega
  have ht : (s.data.toList.map (fun b => (b.toNat : Int))).length ≤ 140737488351232 := by rw [List.length_map]; exact Nat.le_trans hs (by decide)
  obtain ⟨p1, n1, c1, z1, e5, A1, _⟩ := open_list f2 (hw 2 _ _ rfl rfl)
  refine ⟨⟨V, F, D, P, ng, p1, n1, c1, u, s.data.toList.map (fun b => (b.toNat : Int))⟩, ?_, hV, b6, fun x hx => (Str.self s).mem hx, ht, ⟨z1, A1⟩⟩
  rw [e0, e1, e2, e3, (List.cons.inj e4).1, e5, (List.cons.inj e6).1, (List.cons.inj e7).1]
  unfold aqv
  rw [← str_is (Str.self s)]

set_option maxRecDepth 100000 in
theorem open_ask {H : Type} {enc : TypeId × Value → H} {W : World} {base : Nat} {v : Value} {d : DataW H} {p : List MemPlace} (hv : Value.okWide Tryd.prog W .any base 30 v) (h : DataW.Trod enc Tryd.prog W 0 (fun _ => true) true 30 v d p)
    (hsz : ∀ n ∈ d.weights Tryd.prog 30, n ≤ reachBytes) : ∃ q : Aq, v = .agg (aqv q) ∧ AqW W q := by
  obtain ⟨cs, rfl, hs7⟩ := okWide_struct Tryd.underlying30 hv
  obtain ⟨a0, a1, a2, a3, a4, a5, a6, a7, rfl⟩ := aq_array (hs7.trans (show Tryd.prog.cellsOf 30 = 8 by kernel_rfl))
  obtain ⟨fuel, hf⟩ := h
  have hf' : DataW.trod enc Tryd.prog W 0 (fun _ => true) true fuel 30 [a0, a1, a2, a3, a4, a5, a6, a7] = some (d, p) := by simpa [Value.cells] using hf
  obtain ⟨q, e, h1⟩ := open_ask_cells (x := (d, p)) hf' hsz
  rw [e]
  exact ⟨q, rfl, h1⟩

/-- An Ask's cells at a place. -/
def ACells (w : World) (b o : Nat) (q : Aq) : Prop := ∀ k v, (aqv q)[k]? = some v → w.cell? ⟨b, o + k, none⟩ = some v
/-- A list of Asks that can be read. -/
def LA (w : World) (a : Option Addr) (qs : List Aq) : Prop := qs = [] ∨ ∃ b off, a = some ⟨b, off, none⟩ ∧ ∀ i q, qs[i]? = some q → ACells w b (off + i * 8) q

theorem aq_mem {H : Type} {P : Program} {e : TypeId} : ∀ {l : List (DataW H)} {d : DataW H}, d ∈ l → ∀ n ∈ d.weights P e, n ∈ DataW.weightsAll P e l
  | [], _, h, _, _ => by simp at h
  | x :: r, d, h, n, hn => by
    simp only [DataW.weightsAll, List.mem_append]
    rcases List.mem_cons.1 h with rfl | h
    · exact .inl hn
    · exact .inr (aq_mem h n hn)
theorem aq_each {α : Type} {Q : Nat → α → Prop} : ∀ n, (∀ i, i < n → ∃ x, Q i x) → ∃ l : List α, l.length = n ∧ ∀ i x, l[i]? = some x → Q i x
  | 0, _ => ⟨[], rfl, by simp⟩
  | n + 1, h => by
    obtain ⟨l, h1, h2⟩ := aq_each n (fun i hi => h i (by omega))
    obtain ⟨x, hx⟩ := h n (by omega)
    refine ⟨l ++ [x], by simp [h1], fun i y hy => ?_⟩
    by_cases hi : i < l.length
    · rw [List.getElem?_append_left hi] at hy
      exact h2 i y hy
    · have hlt := (List.getElem?_eq_some_iff.1 hy).1
      simp only [List.length_append, List.length_cons, List.length_nil] at hlt
      obtain rfl : i = n := by omega
      rw [List.getElem?_append_right (by omega), h1, Nat.sub_self] at hy
      simp at hy
      subst hy
      exact hx
theorem aq_list8 {α : Type} {l : List α} (h : l.length = 8) : ∃ c0 c1 c2 c3 c4 c5 c6 c7, l = [c0, c1, c2, c3, c4, c5, c6, c7] := by
  match l, h with
  | [c0, c1, c2, c3, c4, c5, c6, c7], _ => exact ⟨c0, c1, c2, c3, c4, c5, c6, c7, rfl⟩

set_option maxRecDepth 100000 in
theorem open_asks {H : Type} {enc : TypeId × Value → H} {W : World} {a : Option Addr} {len cap : Nat} {d : DataW H} {p : List MemPlace} (h : DataW.Trod enc Tryd.prog W 0 (fun _ => true) true 22 (.slice a len cap) d p)
    (hsz : ∀ n ∈ d.weights Tryd.prog 22, n ≤ reachBytes) : ∃ qs : List Aq, qs.length = len ∧ LA W a qs ∧ (∀ q ∈ qs, AqW W q) ∧ len ≤ 2199023255552 := by
  obtain ⟨fuel, hf⟩ := h
  rcases DataW.trod_slice Tryd.underlying22 hf with ⟨hcs, _⟩ | ⟨x, l, c, elems, rest, n, _, hcs, hx, _, hl, hm, he, hel, hsp, _⟩
  · simp [Value.cells] at hcs
    obtain ⟨rfl, rfl, rfl⟩ := hcs
    exact ⟨[], rfl, .inl rfl, by intro it h; simp at h, by omega⟩
  · simp [Value.cells] at hcs
    obtain ⟨rfl, rfl, rfl⟩ := hcs
    have hd : d = .slice (elems.map (·.1)) (rest.map (·.1)) := (Prod.mk.inj hx).1
    have hw : ∀ n ∈ (DataW.slice (elems.map (·.1)) (rest.map (·.1)) : DataW H).weights Tryd.prog 22, n ≤ reachBytes := by rw [← hd]; exact hsz
    simp only [DataW.weights, Tryd.underlying22] at hw
    have hr := hw _ List.mem_cons_self
    rw [show Tryd.prog.bytesOf 30 = 88 by kernel_rfl] at hr
    have hrl := (hsp rfl).1
    simp only [List.length_map, reachBytes] at hr
    rw [show Tryd.prog.cellsOf 30 = 8 by kernel_rfl] at hel
    obtain ⟨its, i1, i2⟩ := aq_each (Q := fun i (it : Aq) => (∀ k v, (aqv it)[k]? = some v → W.cell? ((x.add (i * 8)).add k) = some v) ∧ AqW W it) len (fun i hi => by
      have h1 := hel i hi
      have h2 : elems[i]? = some elems[i] := List.getElem?_eq_getElem (by omega)
      rw [h2] at h1
      obtain ⟨cs, h3, h4⟩ := Option.bind_eq_some_iff.1 h1
      obtain ⟨_, h5, h6⟩ := World.cells?_some h3
      obtain ⟨v0, v1, v2, v3, v4, v5, v6, v7, rfl⟩ := aq_list8 h5
      obtain ⟨q, e, hA⟩ := open_ask_cells h4 (fun m hm => hw m (List.mem_cons_of_mem _ (List.mem_append_left _ (aq_mem (List.mem_map.2 ⟨elems[i], List.getElem_mem _, rfl⟩) m hm))))
      refine ⟨q, fun k v hk => ?_, hA⟩
      rw [← e] at hk
      have hk8 : k < 8 := by
        have := (Array.getElem?_eq_some_iff.1 hk).1
        simpa using this
      have hk' : [v0, v1, v2, v3, v4, v5, v6, v7][k]? = some v := by simpa using hk
      have e6 := h6 k (by simpa using hk8)
      rw [e6]
      exact hk')
    refine ⟨its, i1, ?_, ?_, by omega⟩
    · rcases Nat.eq_zero_or_pos its.length with h0 | h0
      · exact .inl (List.eq_nil_of_length_eq_zero h0)
      · obtain ⟨b, off, spot⟩ := x
        have hspot : spot = none := by simpa [Addr.add] using World.cell?_spot ((i2 0 _ (List.getElem?_eq_getElem h0)).1 0 _ rfl)
        subst hspot
        refine .inr ⟨b, off, rfl, fun i it hi k v hk => ?_⟩
        have q := (i2 i it hi).1 k v hk
        simp only [Go.WideShapes.add_plain] at q
        exact q
    · intro it hit
      obtain ⟨i, hi⟩ := List.getElem?_of_mem hit
      exact (i2 i it hi).2
theorem ACells.flat {w : World} {b o : Nat} {q : Aq} (h : ACells w b o q) : w.cell? ⟨b, o, none⟩ = some (.int .u8 q.V) ∧ w.cell? ⟨b, o + 1, none⟩ = some (.int .i64 q.F) ∧ w.cell? ⟨b, o + 2, none⟩ = some (.int .i64 q.D) ∧ w.cell? ⟨b, o + 3, none⟩ = some (.int .i64 q.P) ∧ w.cell? ⟨b, o + 4, none⟩ = some (.bool q.neg) ∧ w.cell? ⟨b, o + 5, none⟩ = some (.slice q.p q.n q.cap) ∧ w.cell? ⟨b, o + 6, none⟩ = some (.int .u64 q.u) ∧ w.cell? ⟨b, o + 7, none⟩ = some (.string (strOfNums q.t)) :=
  ⟨h 0 _ rfl, h 1 _ rfl, h 2 _ rfl, h 3 _ rfl, h 4 _ rfl, h 5 _ rfl, h 6 _ rfl, h 7 _ rfl⟩
theorem LA.below {w w' : World} {a : Option Addr} {qs : List Aq} (h : LA w a qs) (k : Below w.heap.size w w') : LA w' a qs := by
  rcases h with h | ⟨b, off, e, h⟩
  · exact .inl h
  · refine .inr ⟨b, off, e, fun i q hi j v hj => ?_⟩
    have c := h i q hi j v hj
    have lt := cell_lt c
    rw [← c]
    simp only [World.cell?, k.block b lt]
def Aq.no : Aq := ⟨0, 0, 0, 0, false, none, 0, 0, 0, []⟩
theorem LA.at {w : World} {a : Option Addr} {qs : List Aq} (h : LA w a qs) (i : Nat) (hi : i < qs.length) : ∃ b off, a = some ⟨b, off, none⟩ ∧ ACells w b (off + i * 8) (qs.getD i Aq.no) := by
  rcases h with h | ⟨b, off, e, h⟩
  · rw [h] at hi; simp at hi
  · exact ⟨b, off, e, h i _ (by rw [List.getD_eq_getElem?_getD, List.getElem?_eq_getElem hi]; rfl)⟩
theorem aq_getD {qs : List Aq} {i : Nat} (hi : i < qs.length) : qs.getD i Aq.no ∈ qs := by
  rw [List.getD_eq_getElem?_getD, List.getElem?_eq_getElem hi]; exact List.getElem_mem hi
end Go.Proofs.YtbldddagddmbgaaDoor

namespace Go.Proofs.YtbldddagddmbgaaDoor
open Go Go.RowKit Go.Deep Go.Shelf

theorem SB.v0 {w0 wk : World} {bx : Nat} {V F W P : Int} (h : SB w0 bx V F W P wk) (hb : w0.heap.size ≤ bx) (v : Int) : SB w0 bx v F W P (wk.setCell ⟨bx, 0, none⟩ (.int .u8 v)) :=
  ⟨h.bel.setCell (p := ⟨bx, 0, none⟩) hb _, set1 h.box rfl⟩
theorem SB.vfree {w0 wk : World} {bx : Nat} {V F W P : Int} (h : SB w0 bx V F W P wk) : wk.frozen? ⟨bx, 0, none⟩ = false ∧ wk.frozen? ⟨bx, 1, none⟩ = false ∧ wk.frozen? ⟨bx, 2, none⟩ = false ∧ wk.frozen? ⟨bx, 3, none⟩ = false := h.box.cells.2
/-- A Spec's box, and a cell that was there before. -/
structure UX (w0 : World) (bx : Nat) (V F W P : Int) (b o : Nat) (v : Value) (wk : World) : Prop where
  sb : SB w0 bx V F W P wk
  tc : w0.cell? ⟨b, o, none⟩ = some v
theorem UX.on {w0 wk w' : World} {bx b o : Nat} {V F W P : Int} {v : Value} (h : UX w0 bx V F W P b o v wk) (k : Below wk.heap.size wk w') : UX w0 bx V F W P b o v w' := ⟨h.sb.on k, h.tc⟩
theorem UX.drew {w0 wk : World} {bx b o : Nat} {V F W P : Int} {v : Value} (h : UX w0 bx V F W P b o v wk) : UX w0 bx V F W P b o v wk.drew := ⟨h.sb.drew, h.tc⟩
theorem UX.flat {w0 wk : World} {bx b o : Nat} {V F W P : Int} {v : Value} (h : UX w0 bx V F W P b o v wk) : wk.cell? ⟨bx, 0, none⟩ = some (.int .u8 V) ∧ wk.cell? ⟨bx, 1, none⟩ = some (.int .i64 F) ∧ wk.cell? ⟨bx, 2, none⟩ = some (.int .i64 W) ∧ wk.cell? ⟨bx, 3, none⟩ = some (.int .i64 P) ∧ wk.cell? ⟨b, o, none⟩ = some v := by
  obtain ⟨c0, c1, c2, c3⟩ := h.sb.flat
  refine ⟨c0, c1, c2, c3, ?_⟩
  rw [h.sb.bel.cell (p := ⟨b, o, none⟩) (cell_lt h.tc)]
  exact h.tc

set_option maxRecDepth 100000 in
set_option maxHeartbeats 1000000 in
theorem unsigneds_any (V F W P u : Int) (w : World) (h0 : 0 ≤ V) (h1 : V < 256) (u0 : 0 ≤ u) (u1 : u < 18446744073709551616) :
    Calls Tryd.prog 9 #[.agg #[.int .u8 V, .int .i64 F, .int .i64 W, .int .i64 P], .int .u64 u] w fun e w' => e = .returned (.bool true) ∧ Below w.heap.size w w' := by
  have B0 := hid (SB.new w V F W P)
  have C1 := hid (fun W' => runsigned_any V F W P u W' u0 u1)
  have C2 := hid (fun W' => unsigned_any V F W P u W' h0 h1 u0 u1)
  unfold UnsTold at C1 C2
  generalize strOfNums (Wh.uns V F W P u) = s1 at *
  generalize Wh.unsE V F W P = e1 at *
  clear h0 h1 u0 u1
  obtain ⟨c0, c1, c2, c3⟩ := B0.out.flat
  go_enter Tryd.func9, Tryd.ntmps9
  go_wp2_with fail
  with_reducible refine (C1.out _).mono ?_
  rintro e w1 ⟨rfl, b1⟩
  have B1 := hid (B0.out.on b1)
  clear b1 C1 B0 c0 c1 c2 c3
  obtain ⟨c0, c1, c2, c3⟩ := B1.out.flat
  go_wp2_with fail
  with_reducible refine (C2.out _).mono ?_
  rintro e w2 ⟨rfl, b2⟩
  have B2 := hid (B1.out.on b2)
  clear b2 C2 B1 c0 c1 c2 c3
  go_wp2_with fail
  go_ret
  exact ⟨rfl, B2.out.bel⟩

set_option maxRecDepth 100000 in
set_option maxHeartbeats 4000000 in
theorem wuns_law (a : Option Addr) (cap : Nat) (qs : List Aq) (w : World) (hq : LA w a qs) (hw : ∀ q ∈ qs, AqW w q) (hn : qs.length ≤ 2199023255552) :
    Calls Tryd.prog 4 #[.slice a qs.length cap] w fun e w' => e = .returned (.bool true) ∧ Below w.heap.size w w' := by
  have S1 := hid (fun W => spec_any 120 W)
  have A1 := hid (fun W => unsigneds_any 120 0 0 (-1) 255 W (by omega) (by omega) (by omega) (by omega))
  have TT := hid (fun (q : Aq) V W' (hm : q ∈ qs) (h0 : 0 ≤ V) (h1 : V < 256) => unsigneds_any V q.F q.D q.P q.u W' h0 h1 (hw q hm).2.1.1 (hw q hm).2.1.2)
  have VB := hid (fun (q : Aq) (hm : q ∈ qs) => (hw q hm).1)
  have H := hid hq
  have HN := hid hn
  clear hq hn hw
  go_enter Tryd.func4, Tryd.ntmps4
  go_wp2_with fail
  with_reducible refine (S1.out _).mono ?_
  rintro e w1 ⟨rfl, b1⟩
  have B1 := hid b1
  clear b1 S1
  go_wp2_with fail
  with_reducible refine (A1.out _).mono ?_
  rintro e w2 ⟨rfl, b2⟩
  have B2 := hid (below_on B1.out b2)
  clear b2 A1 B1
  go_wp2_with fail
  go_loopg [3, 4, 5] qs.length (fun m k a4 a5 wr => ∃ i : Nat, i + m = qs.length ∧ k = .int .i64 (i : Int) ∧ Hid (Below w.heap.size w wr))
  case atStart => exact ⟨0, by omega, rfl, B2.out⟩
  case round =>
    obtain ⟨i, hi, rfl, I⟩ := hrel
    clear B2
    by_cases il : i < qs.length
    · have ili : (i : Int) < (qs.length : Int) := by omega
      have ib : (i : Int) ≤ 2199023255552 := by have := HN.out; omega
      obtain ⟨b, off, rfl, hc⟩ := H.out.at i il
      have mem := aq_getD il
      have vb := VB.out _ mem
      have T1 := hid (fun W' => TT.out (qs.getD i Aq.no) (qs.getD i Aq.no).V W' mem vb.1 vb.2)
      have T2 := hid (fun V W' h0 h1 => TT.out (qs.getD i Aq.no) V W' mem h0 h1)
      obtain ⟨e0, e1, e2, e3, -, -, e6, -⟩ := hc.flat
      have k0 := cell_lt e0
      have E0 : ∀ (o : Nat) (v : Value), w.cell? ⟨b, o, none⟩ = some v → wr.cell? ⟨b, o, none⟩ = some v := fun o v h => by rw [I.out.cell (p := ⟨b, o, none⟩) k0]; exact h
      have d0 := E0 _ _ e0
      have d1 := E0 _ _ e1
      have d2 := E0 _ _ e2
      have d3 := E0 _ _ e3
      have TC := hid e6
      have wl : Hid (w.heap.size ≤ wr.heap.size) := I.out.size
      clear hc mem vb TT VB e0 e1 e2 e3 e6 E0 k0
      generalize qs.getD i Aq.no = q at *
      have N0 := SB.new wr q.V q.F q.D q.P
      have X0 : Hid (UX w wr.heap.size q.V q.F q.D q.P b (off + i * 8 + 6) (.int .u64 q.u) (wr.alloc (.cells #[.int .u8 q.V, .int .i64 q.F, .int .i64 q.D, .int .i64 q.P] 25))) := ⟨⟨below_on I.out N0.bel, N0.box⟩, TC.out⟩
      clear N0 I
      go_upto_region 7 with fail
      clear d0 d1 d2 d3
      generalize (wr.alloc (.cells #[.int .u8 q.V, .int .i64 q.F, .int .i64 q.D, .int .i64 q.P] 25)) = wS at *
      generalize wr.heap.size = bx at *
      have Y1 := hid X0.out.drew
      go_region_held3 (fun wx => wx.cell? ⟨bx, 0, none⟩ = some (.int .u8 q.V) ∧ wx.cell? ⟨bx, 1, none⟩ = some (.int .i64 q.F) ∧ wx.cell? ⟨bx, 2, none⟩ = some (.int .i64 q.D) ∧ wx.cell? ⟨bx, 3, none⟩ = some (.int .i64 q.P) ∧ wx.cell? ⟨b, off + i * 8 + 6, none⟩ = some (.int .u64 q.u)) (first | (with_reducible exact Y2.out.flat) | (with_reducible exact Y1.out.flat)) (first
        | (go_at_call 9; with_reducible refine (T1.out _).mono ?_; rintro e wa ⟨rfl, hB⟩; have Y2 := hid (Y1.out.on hB); clear hB))
      have Z1 := hid Y2.out
      clear X0 Y1 Y2 T1
      go_wp2_with fail
      go_loopg [5] 4 (fun m k wr => ∃ (j : Nat) (V : Int), j + m = 4 ∧ k = .int .i64 (j : Int) ∧ Hid (UX w bx V q.F q.D q.P b (off + i * 8 + 6) (.int .u64 q.u) wr))
      case atStart => exact ⟨0, q.V, by omega, rfl, Z1.out⟩
      case round =>
        obtain ⟨j, V', hj, rfl, J⟩ := hrel
        clear Z1
        rcases (show j = 0 ∨ j = 1 ∨ j = 2 ∨ j = 3 ∨ j = 4 by omega) with rfl | rfl | rfl | rfl | rfl
        · have T3 := hid (fun W' => T2.out 111 W' (by omega) (by omega))
          have ki : ∀ h, (((⟨#[111, 117, 120, 88]⟩ : ByteArray)[0]'h).toNat : Int) = 111 := fun _ => rfl
          obtain ⟨c0, c1, c2, c3, c4⟩ := J.out.flat
          obtain ⟨f0, f1, f2, f3⟩ := J.out.sb.vfree
          have J2 : Hid (UX w bx 111 q.F q.D q.P b (off + i * 8 + 6) (.int .u64 q.u) (wr.setCell ⟨bx, 0, none⟩ (.int .u8 111))) := ⟨J.out.sb.v0 wl.out 111, TC.out⟩
          go_upto_region 13 with fail
          clear c0 c1 c2 c3 c4 f0 f1 f2 f3 J ki
          generalize (wr.setCell ⟨bx, 0, none⟩ (.int .u8 111)) = wE at *
          have Y1 := hid J2.out.drew
          go_region_held3 (fun wx => wx.cell? ⟨bx, 0, none⟩ = some (.int .u8 111) ∧ wx.cell? ⟨bx, 1, none⟩ = some (.int .i64 q.F) ∧ wx.cell? ⟨bx, 2, none⟩ = some (.int .i64 q.D) ∧ wx.cell? ⟨bx, 3, none⟩ = some (.int .i64 q.P) ∧ wx.cell? ⟨b, off + i * 8 + 6, none⟩ = some (.int .u64 q.u)) (first | (with_reducible exact Y2.out.flat) | (with_reducible exact Y1.out.flat)) (first
            | (go_at_call 9; with_reducible refine (T3.out _).mono ?_; rintro e wa ⟨rfl, hB⟩; have Y2 := hid (Y1.out.on hB); clear hB))
          have Z2 := hid Y2.out
          clear J2 Y1 Y2 T3
          go_wp2_with fail
          go_roundg 3
          case measure => omega
          case rel => exact ⟨1, 111, by omega, by go_num, Z2.out⟩
        · have T3 := hid (fun W' => T2.out 117 W' (by omega) (by omega))
          have ki : ∀ h, (((⟨#[111, 117, 120, 88]⟩ : ByteArray)[1]'h).toNat : Int) = 117 := fun _ => rfl
          obtain ⟨c0, c1, c2, c3, c4⟩ := J.out.flat
          obtain ⟨f0, f1, f2, f3⟩ := J.out.sb.vfree
          have J2 : Hid (UX w bx 117 q.F q.D q.P b (off + i * 8 + 6) (.int .u64 q.u) (wr.setCell ⟨bx, 0, none⟩ (.int .u8 117))) := ⟨J.out.sb.v0 wl.out 117, TC.out⟩
          go_upto_region 13 with fail
          clear c0 c1 c2 c3 c4 f0 f1 f2 f3 J ki
          generalize (wr.setCell ⟨bx, 0, none⟩ (.int .u8 117)) = wE at *
          have Y1 := hid J2.out.drew
          go_region_held3 (fun wx => wx.cell? ⟨bx, 0, none⟩ = some (.int .u8 117) ∧ wx.cell? ⟨bx, 1, none⟩ = some (.int .i64 q.F) ∧ wx.cell? ⟨bx, 2, none⟩ = some (.int .i64 q.D) ∧ wx.cell? ⟨bx, 3, none⟩ = some (.int .i64 q.P) ∧ wx.cell? ⟨b, off + i * 8 + 6, none⟩ = some (.int .u64 q.u)) (first | (with_reducible exact Y2.out.flat) | (with_reducible exact Y1.out.flat)) (first
            | (go_at_call 9; with_reducible refine (T3.out _).mono ?_; rintro e wa ⟨rfl, hB⟩; have Y2 := hid (Y1.out.on hB); clear hB))
          have Z2 := hid Y2.out
          clear J2 Y1 Y2 T3
          go_wp2_with fail
          go_roundg 2
          case measure => omega
          case rel => exact ⟨2, 117, by omega, by go_num, Z2.out⟩
        · have T3 := hid (fun W' => T2.out 120 W' (by omega) (by omega))
          have ki : ∀ h, (((⟨#[111, 117, 120, 88]⟩ : ByteArray)[2]'h).toNat : Int) = 120 := fun _ => rfl
          obtain ⟨c0, c1, c2, c3, c4⟩ := J.out.flat
          obtain ⟨f0, f1, f2, f3⟩ := J.out.sb.vfree
          have J2 : Hid (UX w bx 120 q.F q.D q.P b (off + i * 8 + 6) (.int .u64 q.u) (wr.setCell ⟨bx, 0, none⟩ (.int .u8 120))) := ⟨J.out.sb.v0 wl.out 120, TC.out⟩
          go_upto_region 13 with fail
          clear c0 c1 c2 c3 c4 f0 f1 f2 f3 J ki
          generalize (wr.setCell ⟨bx, 0, none⟩ (.int .u8 120)) = wE at *
          have Y1 := hid J2.out.drew
          go_region_held3 (fun wx => wx.cell? ⟨bx, 0, none⟩ = some (.int .u8 120) ∧ wx.cell? ⟨bx, 1, none⟩ = some (.int .i64 q.F) ∧ wx.cell? ⟨bx, 2, none⟩ = some (.int .i64 q.D) ∧ wx.cell? ⟨bx, 3, none⟩ = some (.int .i64 q.P) ∧ wx.cell? ⟨b, off + i * 8 + 6, none⟩ = some (.int .u64 q.u)) (first | (with_reducible exact Y2.out.flat) | (with_reducible exact Y1.out.flat)) (first
            | (go_at_call 9; with_reducible refine (T3.out _).mono ?_; rintro e wa ⟨rfl, hB⟩; have Y2 := hid (Y1.out.on hB); clear hB))
          have Z2 := hid Y2.out
          clear J2 Y1 Y2 T3
          go_wp2_with fail
          go_roundg 1
          case measure => omega
          case rel => exact ⟨3, 120, by omega, by go_num, Z2.out⟩
        · have T3 := hid (fun W' => T2.out 88 W' (by omega) (by omega))
          have ki : ∀ h, (((⟨#[111, 117, 120, 88]⟩ : ByteArray)[3]'h).toNat : Int) = 88 := fun _ => rfl
          obtain ⟨c0, c1, c2, c3, c4⟩ := J.out.flat
          obtain ⟨f0, f1, f2, f3⟩ := J.out.sb.vfree
          have J2 : Hid (UX w bx 88 q.F q.D q.P b (off + i * 8 + 6) (.int .u64 q.u) (wr.setCell ⟨bx, 0, none⟩ (.int .u8 88))) := ⟨J.out.sb.v0 wl.out 88, TC.out⟩
          go_upto_region 13 with fail
          clear c0 c1 c2 c3 c4 f0 f1 f2 f3 J ki
          generalize (wr.setCell ⟨bx, 0, none⟩ (.int .u8 88)) = wE at *
          have Y1 := hid J2.out.drew
          go_region_held3 (fun wx => wx.cell? ⟨bx, 0, none⟩ = some (.int .u8 88) ∧ wx.cell? ⟨bx, 1, none⟩ = some (.int .i64 q.F) ∧ wx.cell? ⟨bx, 2, none⟩ = some (.int .i64 q.D) ∧ wx.cell? ⟨bx, 3, none⟩ = some (.int .i64 q.P) ∧ wx.cell? ⟨b, off + i * 8 + 6, none⟩ = some (.int .u64 q.u)) (first | (with_reducible exact Y2.out.flat) | (with_reducible exact Y1.out.flat)) (first
            | (go_at_call 9; with_reducible refine (T3.out _).mono ?_; rintro e wa ⟨rfl, hB⟩; have Y2 := hid (Y1.out.on hB); clear hB))
          have Z2 := hid Y2.out
          clear J2 Y1 Y2 T3
          go_wp2_with fail
          go_roundg 0
          case measure => omega
          case rel => exact ⟨4, 88, by omega, by go_num, Z2.out⟩
        · have F := hid J.out.sb.bel
          clear J T2
          go_wp2_with fail
          go_roundg (qs.length - (i + 1))
          case measure => omega
          case rel => exact ⟨i + 1, by omega, by go_num, F.out⟩
    · have ili : ¬ (i : Int) < (qs.length : Int) := by omega
      go_wp2_with fail
      go_ret
      exact ⟨rfl, I.out⟩
end Go.Proofs.YtbldddagddmbgaaDoor
