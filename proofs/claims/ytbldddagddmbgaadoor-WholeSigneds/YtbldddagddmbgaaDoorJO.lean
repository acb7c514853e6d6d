/-
  Texts put together: OpenSpc, OpenList, OpenAskW, JSig0, JSigL, JSigW.
-/
import Derived.Test.YtbldddagddmbgaaDoorJA
import Derived.SizedLaws
import Derived.ProofKit
import Derived.Test.YtbldddagddmbgaaDoorMem
import Derived.Test.YtbldddagddmbgaaDoorJR
import Derived.Test.YtbldddagddmbgaaDoorJC
import Derived.Laws.Bits64
import Derived.BigQuiet
namespace Go.Proofs.YtbldddagddmbgaaDoor
open Go.RowKit Go.Deep Go.ChangeShapes Go.WideShapes Go.ChangeAt

theorem spc_array {α : Type} {cs : Array α} (h : cs.size = 4) : ∃ c0 c1 c2 c3, cs = #[c0, c1, c2, c3] := by
  obtain ⟨l⟩ := cs
  match l, h with
  | [c0, c1, c2, c3], _ => exact ⟨c0, c1, c2, c3, rfl⟩
theorem spc_list {α : Type} {l : List α} (h : l.length = 4) : ∃ c0 c1 c2 c3, l = [c0, c1, c2, c3] := by
  match l, h with
  | [c0, c1, c2, c3], _ => exact ⟨c0, c1, c2, c3, rfl⟩

set_option maxRecDepth 100000 in
theorem open_spc_cells {H : Type} {enc : TypeId × Value → H} {W : World} {fuel : Nat} {a0 a1 a2 a3 : Value} {x : DataW H × List MemPlace} (hf : DataW.trod enc Tryd.prog W 0 (fun _ => true) true fuel 25 [a0, a1, a2, a3] = some x) :
    ∃ V F D P : Int, a0 = .int .u8 V ∧ a1 = .int .i64 F ∧ a2 = .int .i64 D ∧ a3 = .int .i64 P ∧ (0 ≤ V ∧ V < 256) := by
  obtain ⟨xs, n, _, hx, _, hlen, hfs⟩ := DataW.trod_struct Tryd.underlying25 hf
  obtain ⟨y0, y1, y2, y3, rfl⟩ := spc_list hlen
  have c3 : Tryd.prog.cellsOf 3 = 1 := by kernel_rfl
  have c8 : Tryd.prog.cellsOf 5 = 1 := by kernel_rfl
  have f0 : DataW.trod enc Tryd.prog W 0 (fun _ => true) true n 5 [a0] = some y0 := by simpa [c8] using hfs 0 _ rfl
  have f1 : DataW.trod enc Tryd.prog W 0 (fun _ => true) true n 3 [a1] = some y1 := by simpa [c3] using hfs 1 _ rfl
  have f2 : DataW.trod enc Tryd.prog W 0 (fun _ => true) true n 3 [a2] = some y2 := by simpa [c3] using hfs 2 _ rfl
  have f3 : DataW.trod enc Tryd.prog W 0 (fun _ => true) true n 3 [a3] = some y3 := by simpa [c3] using hfs 3 _ rfl
  obtain ⟨V, e0, _, w0⟩ := DataW.trod_int Tryd.underlying5 f0
  obtain ⟨F, e1, _, w1⟩ := DataW.trod_int Tryd.underlying3 f1
  obtain ⟨D, e2, _, w2⟩ := DataW.trod_int Tryd.underlying3 f2
  obtain ⟨P, e3, _, w3⟩ := DataW.trod_int Tryd.underlying3 f3
  have b0 := bounds_u8 w0
  exact ⟨V, F, D, P, (List.cons.inj e0).1, (List.cons.inj e1).1, (List.cons.inj e2).1, (List.cons.inj e3).1, by omega, by omega⟩

set_option maxRecDepth 100000 in
theorem open_spc {H : Type} {enc : TypeId × Value → H} {W : World} {base : Nat} {v : Value} {d : DataW H} {p : List MemPlace} (hv : Value.okWide Tryd.prog W .any base 25 v) (h : DataW.Trod enc Tryd.prog W 0 (fun _ => true) true 25 v d p) :
    ∃ V F D P : Int, v = .agg #[.int .u8 V, .int .i64 F, .int .i64 D, .int .i64 P] ∧ (0 ≤ V ∧ V < 256) := by
  obtain ⟨cs, rfl, hs3⟩ := okWide_struct Tryd.underlying25 hv
  obtain ⟨a0, a1, a2, a3, rfl⟩ := spc_array (hs3.trans (show Tryd.prog.cellsOf 25 = 4 by kernel_rfl))
  obtain ⟨fuel, hf⟩ := h
  have hf' : DataW.trod enc Tryd.prog W 0 (fun _ => true) true fuel 25 [a0, a1, a2, a3] = some (d, p) := by simpa [Value.cells] using hf
  obtain ⟨V, F, D, P, e0, e1, e2, e3, h1⟩ := open_spc_cells (x := (d, p)) hf'
  rw [e0, e1, e2, e3]
  exact ⟨V, F, D, P, rfl, h1⟩
end Go.Proofs.YtbldddagddmbgaaDoor

namespace Go.Proofs.YtbldddagddmbgaaDoor
open Go.RowKit Go.Deep Go.ChangeShapes Go.WideShapes Go.ChangeAt

/-- A list of limbs that was read, wherever it stands. -/
theorem open_list {H : Type} {enc : TypeId × Value → H} {W : World} {fuel : Nat} {c : Value} {y : DataW H × List MemPlace} (hf : DataW.trod enc Tryd.prog W 0 (fun _ => true) true fuel 28 [c] = some y)
    (hsz : ∀ n ∈ y.1.weights Tryd.prog 28, n ≤ reachBytes) : ∃ p n cap zs, c = .slice p n cap ∧ Arg W p n cap zs ∧ cap ≤ 17592186043904 := by
  rcases open_ints Tryd.underlying28 Tryd.underlying27 (by kernel_rfl) hf with ⟨hcs, _⟩ | ⟨x, l, cp, zs, hcs, _, hl, hm, hz, hx, hcell, hwz⟩
  · simp only [List.cons.injEq, and_true] at hcs
    exact ⟨none, 0, 0, [], hcs, ⟨rfl, Nat.le_refl _, by omega, Lies.nil _ _, Nm.Limbs.nil⟩, by omega⟩
  · simp only [List.cons.injEq, and_true] at hcs
    have hz' : zs.length = cp := by simpa using hz
    have hr := hsz (((lits (H := H) .u64 (zs.take l)).length + (lits (H := H) .u64 (zs.drop l)).length) * Tryd.prog.bytesOf 27) (by rw [hx]; simp [DataW.weights, Tryd.underlying28])
    rw [show Tryd.prog.bytesOf 27 = 8 by kernel_rfl] at hr
    simp only [lits, List.length_map, List.length_take, List.length_drop, reachBytes] at hr
    have hb : cp ≤ 17592186043904 := by omega
    exact ⟨some x, l, cp, _, hcs, arg_open hl hz' hb hcell hwz, hb⟩

theorem all_mem {H : Type} {P : Program} {e : TypeId} : ∀ {l : List (DataW H)} {d : DataW H}, d ∈ l → ∀ n ∈ d.weights P e, n ∈ DataW.weightsAll P e l
  | [], _, h, _, _ => by simp at h
  | x :: r, d, h, n, hn => by
    simp only [DataW.weightsAll, List.mem_append]
    rcases List.mem_cons.1 h with rfl | h
    · exact .inl hn
    · exact .inr (all_mem h n hn)

/-- What can be told of each place can be told of a list. -/
theorem list_of_each {α : Type} {Q : Nat → α → Prop} : ∀ n, (∀ i, i < n → ∃ x, Q i x) → ∃ l : List α, l.length = n ∧ ∀ i x, l[i]? = some x → Q i x
  | 0, _ => ⟨[], rfl, by simp⟩
  | n + 1, h => by
    obtain ⟨l, h1, h2⟩ := list_of_each n (fun i hi => h i (by omega))
    obtain ⟨x, hx⟩ := h n (by omega)
    refine ⟨l ++ [x], by simp [h1], fun i y hy => ?_⟩
    by_cases hi : i < l.length
    · rw [List.getElem?_append_left hi] at hy
      exact h2 i y hy
    · have hlt := (List.getElem?_eq_some_iff.1 hy).1
      simp only [List.length_append, List.length_cons, List.length_nil] at hlt
      obtain rfl : i = n := by omega
      rw [List.getElem?_append_right (by omega), h1, Nat.sub_self] at hy
      simp at hy
      subst hy
      exact hx
end Go.Proofs.YtbldddagddmbgaaDoor

namespace Go.Proofs.YtbldddagddmbgaaDoor
open Go Go.RowKit Go.Deep Go.ChangeShapes Go.WideShapes Go.ChangeAt

structure Aq where
  V : Int
  F : Int
  D : Int
  P : Int
  neg : Bool
  p : Option Addr
  n : Nat
  cap : Nat
  u : Int
  t : List Int
def aqv (q : Aq) : Array Value := #[.int .u8 q.V, .int .i64 q.F, .int .i64 q.D, .int .i64 q.P, .bool q.neg, .slice q.p q.n q.cap, .int .u64 q.u, .string (strOfNums q.t)]
/-- What is known of an Ask that came in. -/
def AqW (W : World) (q : Aq) : Prop := (0 ≤ q.V ∧ q.V < 256) ∧ (0 ≤ q.u ∧ q.u < 18446744073709551616) ∧ Wh.By q.t ∧ q.t.length ≤ 140737488351232 ∧ (∃ zs, Arg W q.p q.n q.cap zs)

theorem aq_array {α : Type} {cs : Array α} (h : cs.size = 8) : ∃ c0 c1 c2 c3 c4 c5 c6 c7, cs = #[c0, c1, c2, c3, c4, c5, c6, c7] := by
  obtain ⟨l⟩ := cs
  match l, h with
  | [c0, c1, c2, c3, c4, c5, c6, c7], _ => exact ⟨c0, c1, c2, c3, c4, c5, c6, c7, rfl⟩
theorem aq_list {α : Type} {l : List α} (h : l.length = 5) : ∃ c0 c1 c2 c3 c4, l = [c0, c1, c2, c3, c4] := by
  match l, h with
  | [c0, c1, c2, c3, c4], _ => exact ⟨c0, c1, c2, c3, c4, rfl⟩

set_option maxRecDepth 100000 in
theorem open_ask_cells {H : Type} {enc : TypeId × Value → H} {W : World} {fuel : Nat} {a0 a1 a2 a3 a4 a5 a6 a7 : Value} {x : DataW H × List MemPlace} (hf : DataW.trod enc Tryd.prog W 0 (fun _ => true) true fuel 30 [a0, a1, a2, a3, a4, a5, a6, a7] = some x)
    (hsz : ∀ n ∈ x.1.weights Tryd.prog 30, n ≤ reachBytes) : ∃ q : Aq, #[a0, a1, a2, a3, a4, a5, a6, a7] = aqv q ∧ AqW W q := by
  obtain ⟨xs, n, _, hx, _, hlen, hfs⟩ := DataW.trod_struct Tryd.underlying30 hf
  obtain ⟨y0, y1, y2, y3, y4, rfl⟩ := aq_list hlen
  have c4 : Tryd.prog.cellsOf 25 = 4 := by kernel_rfl
  have cb : Tryd.prog.cellsOf 4 = 1 := by kernel_rfl
  have cl : Tryd.prog.cellsOf 28 = 1 := by kernel_rfl
  have cu : Tryd.prog.cellsOf 27 = 1 := by kernel_rfl
  have cs : Tryd.prog.cellsOf 9 = 1 := by kernel_rfl
  have f0 : DataW.trod enc Tryd.prog W 0 (fun _ => true) true n 25 [a0, a1, a2, a3] = some y0 := by simpa [c4] using hfs 0 _ rfl
  have f1 : DataW.trod enc Tryd.prog W 0 (fun _ => true) true n 4 [a4] = some y1 := by simpa [cb] using hfs 1 _ rfl
  have f2 : DataW.trod enc Tryd.prog W 0 (fun _ => true) true n 28 [a5] = some y2 := by simpa [cl] using hfs 2 _ rfl
  have f3 : DataW.trod enc Tryd.prog W 0 (fun _ => true) true n 27 [a6] = some y3 := by simpa [cu] using hfs 3 _ rfl
  have f4 : DataW.trod enc Tryd.prog W 0 (fun _ => true) true n 9 [a7] = some y4 := by simpa [cs] using hfs 4 _ rfl
  have hd : x.1 = .agg [y0.1, y1.1, y2.1, y3.1, y4.1] := by rw [hx]; rfl
  have hw : ∀ (j : Nat) (t : TypeId) (e : DataW H), [25, 4, 28, 27, 9][j]? = some t → [y0.1, y1.1, y2.1, y3.1, y4.1][j]? = some e → ∀ n ∈ e.weights Tryd.prog t, n ≤ reachBytes := by
    intro j t e ht he n hn
    refine hsz n ?_
    rw [hd]
    simp only [DataW.weights, Tryd.underlying30]
    exact DataW.weights_mem_each ht he n hn
  obtain ⟨V, F, D, P, e0, e1, e2, e3, hV⟩ := open_spc_cells (x := y0) f0
  obtain ⟨ng, e4, _⟩ := DataW.trod_bool Tryd.underlying4 f1
  obtain ⟨u, e6, _, w6⟩ := DataW.trod_int Tryd.underlying27 f3
  obtain ⟨s, e7, q7, _⟩ := DataW.trod_string Tryd.underlying9 f4
  have hs : s.data.toList.length ≤ reachBytes := by
    refine hw 4 _ _ rfl rfl _ ?_
    rw [q7]
    simp [DataW.weights]
  have b6 : 0 ≤ u ∧ u < 18446744073709551616 := by have := bounds_u64 w6; omega
  have ht : (s.data.toList.map (fun b => (b.toNat : Int))).length ≤ 140737488351232 := by rw [List.length_map]; exact Nat.le_trans hs (by decide)
  obtain ⟨p1, n1, c1, z1, e5, A1, _⟩ := open_list f2 (hw 2 _ _ rfl rfl)
  refine ⟨⟨V, F, D, P, ng, p1, n1, c1, u, s.data.toList.map (fun b => (b.toNat : Int))⟩, ?_, hV, b6, fun x hx => (Str.self s).mem hx, ht, ⟨z1, A1⟩⟩
  rw [e0, e1, e2, e3, (List.cons.inj e4).1, e5, (List.cons.inj e6).1, (List.cons.inj e7).1]
  unfold aqv
  rw [← str_is (Str.self s)]

set_option maxRecDepth 100000 in
theorem open_ask {H : Type} {enc : TypeId × Value → H} {W : World} {base : Nat} {v : Value} {d : DataW H} {p : List MemPlace} (hv : Value.okWide Tryd.prog W .any base 30 v) (h : DataW.Trod enc Tryd.prog W 0 (fun _ => true) true 30 v d p)
    (hsz : ∀ n ∈ d.weights Tryd.prog 30, n ≤ reachBytes) : ∃ q : Aq, v = .agg (aqv q) ∧ AqW W q := by
  obtain ⟨cs, rfl, hs7⟩ := okWide_struct Tryd.underlying30 hv
  obtain ⟨a0, a1, a2, a3, a4, a5, a6, a7, rfl⟩ := aq_array (hs7.trans (show Tryd.prog.cellsOf 30 = 8 by kernel_rfl))
  obtain ⟨fuel, hf⟩ := h
  have hf' : DataW.trod enc Tryd.prog W 0 (fun _ => true) true fuel 30 [a0, a1, a2, a3, a4, a5, a6, a7] = some (d, p) := by simpa [Value.cells] using hf
  obtain ⟨q, e, h1⟩ := open_ask_cells (x := (d, p)) hf' hsz
  rw [e]
  exact ⟨q, rfl, h1⟩

/-- An Ask's cells at a place. -/
def ACells (w : World) (b o : Nat) (q : Aq) : Prop := ∀ k v, (aqv q)[k]? = some v → w.cell? ⟨b, o + k, none⟩ = some v
/-- A list of Asks that can be read. -/
def LA (w : World) (a : Option Addr) (qs : List Aq) : Prop := qs = [] ∨ ∃ b off, a = some ⟨b, off, none⟩ ∧ ∀ i q, qs[i]? = some q → ACells w b (off + i * 8) q

theorem aq_mem {H : Type} {P : Program} {e : TypeId} : ∀ {l : List (DataW H)} {d : DataW H}, d ∈ l → ∀ n ∈ d.weights P e, n ∈ DataW.weightsAll P e l
  | [], _, h, _, _ => by simp at h
  | x :: r, d, h, n, hn => by
    simp only [DataW.weightsAll, List.mem_append]
    rcases List.mem_cons.1 h with rfl | h
    · exact .inl hn
    · exact .inr (aq_mem h n hn)
theorem aq_each {α : Type} {Q : Nat → α → Prop} : ∀ n, (∀ i, i < n → ∃ x, Q i x) → ∃ l : List α, l.length = n ∧ ∀ i x, l[i]? = some x → Q i x
  | 0, _ => ⟨[], rfl, by simp⟩
  | n + 1, h => by
    obtain ⟨l, h1, h2⟩ := aq_each n (fun i hi => h i (by omega))
    obtain ⟨x, hx⟩ := h n (by omega)
    refine ⟨l ++ [x], by simp [h1], fun i y hy => ?_⟩
    by_cases hi : i < l.length
    · rw [List.getElem?_append_left hi] at hy
      exact h2 i y hy
    · have hlt := (List.getElem?_eq_some_iff.1 hy).1
      simp only [List.length_append, List.length_cons, List.length_nil] at hlt
      obtain rfl : i = n := by omega
      rw [List.getElem?_append_right (by omega), h1, Nat.sub_self] at hy
      simp at hy
      subst hy
      exact hx
theorem aq_list8 {α : Type} {l : List α} (h : l.length = 8) : ∃ c0 c1 c2 c3 c4 c5 c6 c7, l = [c0, c1, c2, c3, c4, c5, c6, c7] := by
  match l, h with
  | [c0, c1, c2, c3, c4, c5, c6, c7], _ => exact ⟨c0, c1, c2, c3, c4, c5, c6, c7, rfl⟩

set_option maxRecDepth 100000 in
theorem open_asks {H : Type} {enc : TypeId × Value → H} {W : World} {a : Option Addr} {len cap : Nat} {d : DataW H} {p : List MemPlace} (h : DataW.Trod enc Tryd.prog W 0 (fun _ => true) true 22 (.slice a len cap) d p)
    (hsz : ∀ n ∈ d.weights Tryd.prog 22, n ≤ reachBytes) : ∃ qs : List Aq, qs.length = len ∧ LA W a qs ∧ (∀ q ∈ qs, AqW W q) ∧ len ≤ 2199023255552 := by
  obtain ⟨fuel, hf⟩ := h
  rcases DataW.trod_slice Tryd.underlying22 hf with ⟨hcs, _⟩ | ⟨x, l, c, elems, rest, n, _, hcs, hx, _, hl, hm, he, hel, hsp, _⟩
  · simp [Value.cells] at hcs
    obtain ⟨rfl, rfl, rfl⟩ := hcs
    exact ⟨[], rfl, .inl rfl, by intro it h; simp at h, by omega⟩
  · simp [Value.cells] at hcs
    obtain ⟨rfl, rfl, rfl⟩ := hcs
    have hd : d = .slice (elems.map (·.1)) (rest.map (·.1)) := (Prod.mk.inj hx).1
    have hw : ∀ n ∈ (DataW.slice (elems.map (·.1)) (rest.map (·.1)) : DataW H).weights Tryd.prog 22, n ≤ reachBytes := by rw [← hd]; exact hsz
    simp only [DataW.weights, Tryd.underlying22] at hw
    have hr := hw _ List.mem_cons_self
    rw [show Tryd.prog.bytesOf 30 = 88 by kernel_rfl] at hr
    have hrl := (hsp rfl).1
    simp only [List.length_map, reachBytes] at hr
    rw [show Tryd.prog.cellsOf 30 = 8 by kernel_rfl] at hel
    obtain ⟨its, i1, i2⟩ := aq_each (Q := fun i (it : Aq) => (∀ k v, (aqv it)[k]? = some v → W.cell? ((x.add (i * 8)).add k) = some v) ∧ AqW W it) len (fun i hi => by
      have h1 := hel i hi
      have h2 : elems[i]? = some elems[i] := List.getElem?_eq_getElem (by omega)
      rw [h2] at h1
      obtain ⟨cs, h3, h4⟩ := Option.bind_eq_some_iff.1 h1
      obtain ⟨_, h5, h6⟩ := World.cells?_some h3
      obtain ⟨v0, v1, v2, v3, v4, v5, v6, v7, rfl⟩ := aq_list8 h5
      obtain ⟨q, e, hA⟩ := open_ask_cells h4 (fun m hm => hw m (List.mem_cons_of_mem _ (List.mem_append_left _ (aq_mem (List.mem_map.2 ⟨elems[i], List.getElem_mem _, rfl⟩) m hm))))
      refine ⟨q, fun k v hk => ?_, hA⟩
      rw [← e] at hk
      have hk8 : k < 8 := by
        have := (Array.getElem?_eq_some_iff.1 hk).1
        simpa using this
      have hk' : [v0, v1, v2, v3, v4, v5, v6, v7][k]? = some v := by simpa using hk
      have e6 := h6 k (by simpa using hk8)
      rw [e6]
      exact hk')
    refine ⟨its, i1, ?_, ?_, by omega⟩
    · rcases Nat.eq_zero_or_pos its.length with h0 | h0
      · exact .inl (List.eq_nil_of_length_eq_zero h0)
      · obtain ⟨b, off, spot⟩ := x
        have hspot : spot = none := by simpa [Addr.add] using World.cell?_spot ((i2 0 _ (List.getElem?_eq_getElem h0)).1 0 _ rfl)
        subst hspot
        refine .inr ⟨b, off, rfl, fun i it hi k v hk => ?_⟩
        have q := (i2 i it hi).1 k v hk
        simp only [Go.WideShapes.add_plain] at q
        exact q
    · intro it hit
      obtain ⟨i, hi⟩ := List.getElem?_of_mem hit
      exact (i2 i it hi).2
theorem ACells.flat {w : World} {b o : Nat} {q : Aq} (h : ACells w b o q) : w.cell? ⟨b, o, none⟩ = some (.int .u8 q.V) ∧ w.cell? ⟨b, o + 1, none⟩ = some (.int .i64 q.F) ∧ w.cell? ⟨b, o + 2, none⟩ = some (.int .i64 q.D) ∧ w.cell? ⟨b, o + 3, none⟩ = some (.int .i64 q.P) ∧ w.cell? ⟨b, o + 4, none⟩ = some (.bool q.neg) ∧ w.cell? ⟨b, o + 5, none⟩ = some (.slice q.p q.n q.cap) ∧ w.cell? ⟨b, o + 6, none⟩ = some (.int .u64 q.u) ∧ w.cell? ⟨b, o + 7, none⟩ = some (.string (strOfNums q.t)) :=
  ⟨h 0 _ rfl, h 1 _ rfl, h 2 _ rfl, h 3 _ rfl, h 4 _ rfl, h 5 _ rfl, h 6 _ rfl, h 7 _ rfl⟩
theorem LA.below {w w' : World} {a : Option Addr} {qs : List Aq} (h : LA w a qs) (k : Below w.heap.size w w') : LA w' a qs := by
  rcases h with h | ⟨b, off, e, h⟩
  · exact .inl h
  · refine .inr ⟨b, off, e, fun i q hi j v hj => ?_⟩
    have c := h i q hi j v hj
    have lt := cell_lt c
    rw [← c]
    simp only [World.cell?, k.block b lt]
def Aq.no : Aq := ⟨0, 0, 0, 0, false, none, 0, 0, 0, []⟩
theorem LA.at {w : World} {a : Option Addr} {qs : List Aq} (h : LA w a qs) (i : Nat) (hi : i < qs.length) : ∃ b off, a = some ⟨b, off, none⟩ ∧ ACells w b (off + i * 8) (qs.getD i Aq.no) := by
  rcases h with h | ⟨b, off, e, h⟩
  · rw [h] at hi; simp at hi
  · exact ⟨b, off, e, h i _ (by rw [List.getD_eq_getElem?_getD, List.getElem?_eq_getElem hi]; rfl)⟩
theorem aq_getD {qs : List Aq} {i : Nat} (hi : i < qs.length) : qs.getD i Aq.no ∈ qs := by
  rw [List.getD_eq_getElem?_getD, List.getElem?_eq_getElem hi]; exact List.getElem_mem hi
end Go.Proofs.YtbldddagddmbgaaDoor

namespace Go.Proofs.YtbldddagddmbgaaDoor
open Go Go.RowKit Go.Deep Go.Shelf

theorem mark_any (i : Nat) (hi : i ≤ 17592186044416) (w : World) :
    Calls Tryd.prog 22 #[.int .i64 (i : Int)] w fun e w' => e = .returned (.int .u64 (7700 + (i : Int))) ∧ w' = w := by
  have h1 : (i : Int) ≤ 17592186044416 := by omega
  clear hi
  go_enter Tryd.func22, Tryd.ntmps22
  go_wp2_with fail
  go_ret
  exact ⟨rfl, rfl⟩

/-- An Ask's box among what stays. -/
structure AB (w0 : World) (bx : Nat) (q : Aq) (wk : World) : Prop where
  bel : Below w0.heap.size w0 wk
  box : wk.heap[bx]? = some (.cells (aqv q) 30 (0, 0))
  lo : w0.heap.size ≤ bx
theorem AB.new (w : World) (q : Aq) : AB w w.heap.size q (w.alloc (.cells (aqv q) 30)) := ⟨alloc_b w _, heap_alloc_new w _, Nat.le_refl _⟩
theorem AB.lt {w0 wk : World} {bx : Nat} {q : Aq} (h : AB w0 bx q wk) : bx < wk.heap.size := by
  rcases Nat.lt_or_ge bx wk.heap.size with hl | hl
  · exact hl
  · have := h.box; simp [Array.getElem?_eq_none hl] at this
theorem AB.on {w0 wk w' : World} {bx : Nat} {q : Aq} (h : AB w0 bx q wk) (k : Below wk.heap.size wk w') : AB w0 bx q w' := ⟨below_on h.bel k, by rw [k.block bx h.lt]; exact h.box, h.lo⟩
theorem AB.drew {w0 wk : World} {bx : Nat} {q : Aq} (h : AB w0 bx q wk) : AB w0 bx q wk.drew := ⟨h.bel.drew, h.box, h.lo⟩
theorem AB.flat {w0 wk : World} {bx : Nat} {q : Aq} (h : AB w0 bx q wk) : wk.cell? ⟨bx, 0, none⟩ = some (.int .u8 q.V) ∧ wk.cell? ⟨bx, 1, none⟩ = some (.int .i64 q.F) ∧ wk.cell? ⟨bx, 2, none⟩ = some (.int .i64 q.D) ∧ wk.cell? ⟨bx, 3, none⟩ = some (.int .i64 q.P) ∧ wk.cell? ⟨bx, 4, none⟩ = some (.bool q.neg) ∧ wk.cell? ⟨bx, 5, none⟩ = some (.slice q.p q.n q.cap) := by
  have := h.box
  unfold aqv at this
  refine ⟨?_, ?_, ?_, ?_, ?_, ?_⟩ <;> simp [World.cell?, this]
theorem AB.far {w0 wk : World} {bx f i : Nat} {q : Aq} (h : AB w0 bx q wk) (hf : bx < f) (v : Value) : AB w0 bx q (wk.setCell ⟨f, i, none⟩ v) := by
  refine ⟨h.bel.setCell (p := ⟨f, i, none⟩) (by have := h.lo; show _ ≤ f; omega) _, ?_, h.lo⟩
  simp only [World.setCell, Array.getElem?_modify]
  rw [if_neg (by omega)]
  exact h.box
/-- And a list of our own. -/
structure AF (w0 : World) (bx : Nat) (q : Aq) (f : Nat) (xs : List Int) (wk : World) : Prop where
  ab : AB w0 bx q wk
  own : Own wk f xs
  lt : bx < f
theorem AF.on {w0 wk w' : World} {bx f : Nat} {q : Aq} {xs : List Int} (h : AF w0 bx q f xs wk) (k : Below wk.heap.size wk w') : AF w0 bx q f xs w' := ⟨h.ab.on k, h.own.below k h.own.lt, h.lt⟩
theorem AF.drew {w0 wk : World} {bx f : Nat} {q : Aq} {xs : List Int} (h : AF w0 bx q f xs wk) : AF w0 bx q f xs wk.drew := ⟨h.ab.drew, h.own, h.lt⟩
theorem AF.set {w0 wk : World} {bx f : Nat} {q : Aq} {xs : List Int} (h : AF w0 bx q f xs wk) (i : Nat) (v : Int) : AF w0 bx q f (xs.set i v) (wk.setCell ⟨f, i, none⟩ (.int .u64 v)) := ⟨h.ab.far h.lt _, h.own.set i v, h.lt⟩
/-- And another one. -/
structure AG (w0 : World) (bx : Nat) (q : Aq) (f : Nat) (xs : List Int) (o : Nat) (ys : List Int) (wk : World) : Prop where
  af : AF w0 bx q f xs wk
  own : Own wk o ys
  lt : f < o
theorem own_far {wk : World} {g f i : Nat} {xs : List Int} (h : Own wk g xs) (hf : g ≠ f) (v : Value) : Own (wk.setCell ⟨f, i, none⟩ v) g xs := by
  simp only [Own] at h ⊢
  simp only [World.setCell, Array.getElem?_modify]
  rw [if_neg (by omega)]
  exact h
theorem AG.on {w0 wk w' : World} {bx f o : Nat} {q : Aq} {xs ys : List Int} (h : AG w0 bx q f xs o ys wk) (k : Below wk.heap.size wk w') : AG w0 bx q f xs o ys w' := ⟨h.af.on k, h.own.below k h.own.lt, h.lt⟩
theorem AG.set1 {w0 wk : World} {bx f o : Nat} {q : Aq} {xs ys : List Int} (h : AG w0 bx q f xs o ys wk) (i : Nat) (v : Int) : AG w0 bx q f (xs.set i v) o ys (wk.setCell ⟨f, i, none⟩ (.int .u64 v)) := ⟨h.af.set i v, own_far h.own (by have := h.lt; omega) _, h.lt⟩
theorem AG.set2 {w0 wk : World} {bx f o : Nat} {q : Aq} {xs ys : List Int} (h : AG w0 bx q f xs o ys wk) (i : Nat) (v : Int) : AG w0 bx q f xs o (ys.set i v) (wk.setCell ⟨o, i, none⟩ (.int .u64 v)) :=
  ⟨⟨h.af.ab.far (by have := h.lt; have := h.af.lt; omega) _, own_far h.af.own (by have := h.lt; omega) _, h.af.lt⟩, h.own.set i v, h.lt⟩

/-- The numbers' limbs, and the first k marks behind them. -/
structure Mkd (zs xs : List Int) (n k : Nat) : Prop where
  len : xs.length = n + 20
  tk : ∀ t, t < n → xs.getD t 0 = zs.getD t 0
  mr : ∀ t : Nat, n ≤ t → t < k → xs.getD t 0 = 7700 + (t : Int)
theorem getD_set_ne {xs : List Int} {i t : Nat} {v : Int} (h : i ≠ t) : (xs.set i v).getD t 0 = xs.getD t 0 := by
  rw [List.getD, List.getElem?_set, if_neg h, List.getD]
theorem getD_set_eq {xs : List Int} {i : Nat} {v : Int} (h : i < xs.length) : (xs.set i v).getD i 0 = v := by
  rw [List.getD, List.getElem?_set, if_pos rfl, if_pos h]; rfl
theorem Mkd.new (zs : List Int) (n : Nat) (hz : zs.length = n) : Mkd zs (zs ++ (List.replicate (n + 20) 0).drop n) n n := by
  refine ⟨by simp [hz], fun t ht => ?_, fun t h1 h2 => by omega⟩
  rw [List.getD, List.getElem?_append_left (by omega), List.getD]
theorem Mkd.put {zs xs : List Int} {n k : Nat} (h : Mkd zs xs n k) (hk : n ≤ k) (hk2 : k < n + 20) : Mkd zs (xs.set k (7700 + (k : Int))) n (k + 1) := by
  refine ⟨by rw [List.length_set]; exact h.len, fun t ht => ?_, fun t h1 h2 => ?_⟩
  · rw [getD_set_ne (by omega)]; exact h.tk t ht
  · by_cases e : k = t
    · subst e; rw [getD_set_eq (by have := h.len; omega)]
    · rw [getD_set_ne e]; exact h.mr t h1 (by omega)
theorem take_of_getD {zs xs : List Int} {n : Nat} (hz : zs.length = n) (hx : n ≤ xs.length) (h : ∀ t, t < n → xs.getD t 0 = zs.getD t 0) : xs.take n = zs := by
  refine List.ext_getElem? (fun i => ?_)
  by_cases hi : i < n
  · rw [List.getElem?_take, if_pos hi]
    have := h i hi
    rw [List.getD, List.getD, List.getElem?_eq_getElem (by omega), List.getElem?_eq_getElem (by omega)] at this
    rw [List.getElem?_eq_getElem (by omega), List.getElem?_eq_getElem (by omega)]
    simpa using this
  · rw [List.getElem?_eq_none (by rw [List.length_take]; omega), List.getElem?_eq_none (by omega)]
theorem AF.arg {w0 wk : World} {bx f n : Nat} {q : Aq} {zs xs : List Int} (h : AF w0 bx q f xs wk) (hz : zs.length = n) (hn : n ≤ 1048576) (hx : xs.length = n + 20) (hl : Nm.Limbs zs) (ht : ∀ t, t < n → xs.getD t 0 = zs.getD t 0) : Arg wk (some ⟨f, 0, none⟩) n (n + 20) zs := by
  refine ⟨hz, by omega, by omega, ?_, hl⟩
  have := h.own.lies.take n
  rw [take_of_getD hz (by omega) ht] at this
  exact this

/-- A limb turned. -/
def xr21 (x : Int) : Int := bits .xor .u64 x 21
theorem xr21_bd (x : Int) (h0 : 0 ≤ x) (h1 : x < 18446744073709551616) : 0 ≤ xr21 x ∧ xr21 x < 18446744073709551616 := by
  obtain ⟨a, rfl⟩ : ∃ a : Nat, x = (a : Int) := ⟨x.toNat, by omega⟩
  have h := bits_xor_u64_nat a 21 (by omega) (by omega)
  have e : xr21 (a : Int) = ((a ^^^ 21 : Nat) : Int) := h
  have hlt : a ^^^ 21 < 2 ^ 64 := Nat.xor_lt_two_pow (by omega) (by omega)
  rw [e]
  omega
/-- The first k limbs turned, here and there. -/
structure Trn (xs ys : List Int) (n k : Nat) : Prop where
  lx : xs.length = n + 20
  ly : ys.length = n
  bx : ∀ t, t < n → 0 ≤ xs.getD t 0 ∧ xs.getD t 0 < 18446744073709551616
  hy : Nm.Limbs ys
  eq : ∀ t, t < k → xs.getD t 0 = ys.getD t 0
theorem Trn.new {zs xs : List Int} {n k : Nat} (h : Mkd zs xs n k) (hz : Nm.Limbs zs) : Trn xs (List.replicate n 0) n 0 :=
  ⟨h.len, by simp, fun t ht => by rw [h.tk t ht]; exact hz.at t, Nm.Limbs.replicate n, fun t ht => by omega⟩
theorem Trn.put {xs ys : List Int} {n k : Nat} (h : Trn xs ys n k) (hk : k < n) : Trn (xs.set k (xr21 (xs.getD k 0))) (ys.set k (xr21 (xs.getD k 0))) n (k + 1) := by
  have b := xr21_bd _ (h.bx k hk).1 (h.bx k hk).2
  have := h.lx
  have := h.ly
  refine ⟨by rw [List.length_set]; omega, by rw [List.length_set]; omega, fun t ht => ?_, h.hy.set k b.1 b.2, fun t ht => ?_⟩
  · by_cases e : k = t
    · subst e; rw [getD_set_eq (by omega)]; exact b
    · rw [getD_set_ne e]; exact h.bx t ht
  · by_cases e : k = t
    · subst e; rw [getD_set_eq (by omega), getD_set_eq (by omega)]
    · rw [getD_set_ne e, getD_set_ne e]; exact h.eq t (by omega)
end Go.Proofs.YtbldddagddmbgaaDoor

namespace Go.Proofs.YtbldddagddmbgaaDoor
open Go Go.RowKit Go.Deep Go.Shelf

theorem AF.drewN {w0 wk : World} {bx f : Nat} {q : Aq} {xs : List Int} (h : AF w0 bx q f xs wk) (n : Nat) : AF w0 bx q f xs (wk.drewN n) := ⟨⟨⟨h.ab.bel.os, h.ab.bel.tape, h.ab.bel.output, h.ab.bel.size, h.ab.bel.block⟩, h.ab.box, h.ab.lo⟩, h.own, h.lt⟩
theorem AG.drew {w0 wk : World} {bx f o : Nat} {q : Aq} {xs ys : List Int} (h : AG w0 bx q f xs o ys wk) : AG w0 bx q f xs o ys wk.drew := ⟨h.af.drew, h.own, h.lt⟩

set_option maxRecDepth 100000 in
set_option maxHeartbeats 4000000 in
theorem signeds_any (q : Aq) (zs : List Int) (w : World) (ha : Arg w q.p q.n q.cap zs) (h0 : 0 ≤ q.V) (h1 : q.V < 256) :
    Calls Tryd.prog 7 #[.agg (aqv q)] w fun e w' => e = .returned (.bool true) ∧ Below w.heap.size w w' := by
  have B0 := hid (AB.new w q)
  unfold aqv
  have C1 := hid (fun W' (k : Below w.heap.size w W') => rsigned_any q.V q.F q.D q.P q.neg q.p q.n q.cap zs W' (ha.below k (Nat.le_refl _)))
  by_cases hn : 1048576 < q.n
  · have hni : (1048576 : Int) < (q.n : Int) := by omega
    have C2 := hid (fun W' (k : Below w.heap.size w W') => signed_any q.V q.F q.D q.P q.neg q.p q.n q.cap zs W' h0 h1 (ha.below k (Nat.le_refl _)))
    unfold SigTold at C1 C2
    generalize strOfNums (Wh.sig q.V q.F q.D q.P q.neg zs) = s1 at *
    generalize Wh.sigE q.V q.F q.D q.P (Nm.tsize zs) = e1 at *
    clear ha h0 h1 hn
    obtain ⟨c0, c1, c2, c3, c4, c5⟩ := B0.out.flat
    unfold aqv at B0 c0 c1 c2 c3 c4 c5
    go_enter Tryd.func7, Tryd.ntmps7
    go_wp2_with fail
    with_reducible refine (C1.out _ B0.out.bel).mono ?_
    rintro e w1 ⟨rfl, b1⟩
    have B1 := hid (B0.out.on b1)
    clear b1 C1 B0 c0 c1 c2 c3 c4 c5
    obtain ⟨c0, c1, c2, c3, c4, c5⟩ := B1.out.flat
    go_wp2_with fail
    with_reducible refine (C2.out _ B1.out.bel).mono ?_
    rintro e w2 ⟨rfl, b2⟩
    have B2 := hid (B1.out.on b2)
    clear b2 C2 B1 c0 c1 c2 c3 c4 c5
    go_wp2_with fail
    go_ret
    exact ⟨rfl, B2.out.bel⟩
  · have hni : ¬ (1048576 : Int) < (q.n : Int) := by omega
    have hnn : (q.n : Int) ≤ 1048576 := by omega
    obtain ⟨N, hN⟩ : ∃ N, q.n + 20 = N := ⟨_, rfl⟩
    have hNi : (N : Int) = (q.n : Int) + 20 := by omega
    have M := hid (fun (i : Nat) (h : i ≤ 17592186044416) W' => mark_any i h W')
    -- the memory: the list of our own, and the limbs copied
    obtain ⟨wS, hS⟩ : ∃ wS, w.alloc (.cells (aqv q) 30) = wS := ⟨_, rfl⟩
    rw [hS] at B0
    obtain ⟨f, hf⟩ : ∃ f, wS.heap.size = f := ⟨_, rfl⟩
    have hmk := make64 N (by omega) wS
    have gm : Own (wS.alloc (.cells (madeCells #[.int .u64 0] N) 27)) wS.heap.size (List.replicate N 0) := by rw [made_zero]; exact Own.alloc wS _
    have bm := alloc_b wS (.cells (madeCells #[.int .u64 0] N) 27)
    generalize wS.alloc (.cells (madeCells #[.int .u64 0] N) 27) = wm at hmk gm bm
    have Bm := B0.out.on bm
    obtain ⟨wc, hcp, hoc, hbc, hzc⟩ := copy64 wS.heap.size N (List.replicate N 0) q.p q.n q.cap zs 3 wm (by simp) ha.1 (by omega) gm (ha.2.2.2.1.below Bm.bel (Nat.le_refl _))
    have bc : Below wS.heap.size wS wc := bm.trans hbc
    have A0 : Hid (AF w w.heap.size q f (zs ++ (List.replicate (q.n + 20) 0).drop q.n) wc) := by
      rw [hN, ← hf]
      exact ⟨B0.out.on bc, hoc, B0.out.lt⟩
    have K0 := hid (Mkd.new zs q.n ha.1)
    generalize (zs ++ (List.replicate (q.n + 20) 0).drop q.n) = x0 at A0 K0
    have HA := hid ha
    have HB := hid (fun W' p' c' ys (k : Arg W' p' q.n c' ys) => signed_any q.V q.F q.D q.P q.neg p' q.n c' ys W' h0 h1 k)
    have HC := hid (fun W' p' c' ys (k : Arg W' p' q.n c' ys) => rsigned_any q.V q.F q.D q.P q.neg p' q.n c' ys W' k)
    rw [hf] at hmk hcp
    rw [hNi] at hmk
    have cS : wS.cell? ⟨w.heap.size, 5, none⟩ = some (.slice q.p q.n q.cap) := B0.out.flat.2.2.2.2.2
    have cm : wm.cell? ⟨w.heap.size, 5, none⟩ = some (.slice q.p q.n q.cap) := Bm.flat.2.2.2.2.2
    have HNN := hid hN
    clear ha h0 h1 hn C1 gm bm Bm hoc hbc hzc bc B0 hN
    unfold aqv at hS
    go_enter Tryd.func7, Tryd.ntmps7
    go_wp2_with fail
    clear cS cm hmk hcp hf hS hNi hni
    have hle : (q.n : Int) ≤ (N : Int) := by have := HNN.out; omega
    have N0 : Hid (N ≤ 1048596) := by have := HNN.out; show N ≤ _; omega
    go_loopg [9] 20 (fun m k wr => ∃ (j : Nat) (xs : List Int), j + m = N ∧ q.n ≤ j ∧ k = .int .i64 (j : Int) ∧ Hid (AF w w.heap.size q f xs wr) ∧ Hid (Mkd zs xs q.n j))
    case atStart => exact ⟨q.n, x0, HNN.out, Nat.le_refl _, rfl, A0.out, K0.out⟩
    case round =>
      obtain ⟨j, xs, hj, hj2, rfl, J, K⟩ := hrel
      clear A0 K0 wc wm wS x0
      by_cases jl : j < N
      · have jli : (j : Int) < (N : Int) := by omega
        have jb : (j : Int) ≤ 1048596 := by have := N0.out; omega
        have M1 := hid (fun W' => M.out j (by have := N0.out; omega) W')
        have fz := J.out.own.free j
        have cz := J.out.own.cell j (by have := K.out.len; have := HNN.out; omega)
        have J2 := hid (J.out.set j (7700 + (j : Int)))
        have K2 := hid (K.out.put hj2 (by have := HNN.out; omega))
        clear J K M
        generalize xs.getD j 0 = xj at cz
        go_wp2_with fail
        with_reducible refine (M1.out _).mono ?_
        rintro e w2 ⟨rfl, e2⟩
        rw [e2]
        clear e2 w2 M1
        go_wp2_with fail
        go_roundg (N - (j + 1))
        case measure => omega
        case rel => exact ⟨j + 1, _, by omega, by omega, by go_num, J2.out, K2.out⟩
      · have jli : ¬ (j : Int) < (N : Int) := by omega
        obtain rfl : j = N := by omega
        clear hj hj2 jl
        have C1 := hid (fun W' (k : Below w.heap.size w W') => HC.out W' q.p q.cap zs (HA.out.below k (Nat.le_refl _)))
        have C2 := hid (fun W' (k : AF w w.heap.size q f xs W') => HB.out W' (some ⟨f, 0, none⟩) j zs (by have := k.arg HA.out.1 (by omega) K.out.len HA.out.2.2.2.2 K.out.tk; rw [HNN.out] at this; exact this))
        unfold SigTold at C1 C2
        generalize strOfNums (Wh.sig q.V q.F q.D q.P q.neg zs) = s1 at *
        generalize Wh.sigE q.V q.F q.D q.P (Nm.tsize zs) = e1 at *
        obtain ⟨c0, c1, c2, c3, c4, c5⟩ := J.out.ab.flat
        go_wp2_with fail
        with_reducible refine (C1.out _ J.out.ab.bel).mono ?_
        rintro e w1 ⟨rfl, b1⟩
        have J1 := hid (J.out.on b1)
        clear b1 C1 J c0 c1 c2 c3 c4 c5
        go_upto_region 13 with fail
        have Y1 := hid J1.out.drew
        go_region_held3 (fun wx => wx.cell? ⟨w.heap.size, 0, none⟩ = some (.int .u8 q.V) ∧ wx.cell? ⟨w.heap.size, 1, none⟩ = some (.int .i64 q.F) ∧ wx.cell? ⟨w.heap.size, 2, none⟩ = some (.int .i64 q.D) ∧ wx.cell? ⟨w.heap.size, 3, none⟩ = some (.int .i64 q.P) ∧ wx.cell? ⟨w.heap.size, 4, none⟩ = some (.bool q.neg) ∧ wx.cell? ⟨w.heap.size, 5, none⟩ = some (.slice q.p q.n q.cap)) (first | (with_reducible exact Y2.out.ab.flat) | (with_reducible exact Y1.out.ab.flat)) (first
          | (go_at_call 13; with_reducible refine (C2.out _ Y1.out).mono ?_; rintro e wa ⟨rfl, hB⟩; have Y2 := hid (Y1.out.on hB); clear hB))
        have Z := hid Y2.out
        clear J1 Y1 Y2 C2
        go_wp2_with fail
        clear jli
        go_loopg [14] j (fun m k wr => ∃ i : Nat, i + m = j ∧ k = .int .i64 (i : Int) ∧ Hid (AF w w.heap.size q f xs wr))
        case atStart => exact ⟨0, by omega, rfl, Z.out⟩
        case round =>
          obtain ⟨i, hi, rfl, I⟩ := hrel
          clear Z
          by_cases il : i < j
          · have ili : (i : Int) < (j : Int) := by omega
            have ib : (i : Int) ≤ 1048596 := by have := N0.out; omega
            have I2 := hid (fun m => I.out.drewN m)
            by_cases inn : i < q.n
            · have ini : (i : Int) < (q.n : Int) := by omega
              have ige : ¬ (q.n : Int) ≤ (i : Int) := by omega
              have c5 := I.out.ab.flat.2.2.2.2.2
              have ce := I.out.own.cell i (by have := K.out.len; omega)
              rw [K.out.tk i inn] at ce
              have ly := (HA.out.below I.out.ab.bel (Nat.le_refl _)).2.2.2.1
              rcases ly with ly | ⟨b, off, hp, hcell⟩
              · have := HA.out.1
                rw [ly] at this
                simp at this
                omega
              · have cz := hcell i (by have := HA.out.1; omega)
                rw [hp] at c5
                generalize zs.getD i 0 = x at ce cz
                clear hp hcell I M HA HB HC K
                go_upto_region 19 with fail
                go_quiet (fail)
                go_wp2_with fail
                go_roundg (j - (i + 1))
                case measure => omega
                case rel => exact ⟨i + 1, by omega, by go_num, I2.out _⟩
            · have ini : ¬ (i : Int) < (q.n : Int) := by omega
              have ige : (q.n : Int) ≤ (i : Int) := by omega
              have ce := I.out.own.cell i (by have := K.out.len; have := HNN.out; omega)
              rw [K.out.mr i (by omega) il] at ce
              have M1 := hid (fun W' => M.out i (by have := N0.out; omega) W')
              clear I M HA HB HC K
              go_upto_region 19 with fail
              go_quiet ((go_at_call 22; with_reducible exact Calls.quiet_of_same (M1.out _)))
              go_wp2_with fail
              go_roundg (j - (i + 1))
              case measure => omega
              case rel => exact ⟨i + 1, by omega, by go_num, I2.out _⟩
          · have ili : ¬ (i : Int) < (j : Int) := by omega
            have hmk := make64 q.n (by omega) wr
            have gm : Own (wr.alloc (.cells (madeCells #[.int .u64 0] q.n) 27)) wr.heap.size (List.replicate q.n 0) := by rw [made_zero]; exact Own.alloc wr _
            have I3 := hid (I.out.on (alloc_b wr (.cells (madeCells #[.int .u64 0] q.n) 27)))
            have fo := I.out.own.lt
            generalize wr.alloc (.cells (madeCells #[.int .u64 0] q.n) 27) = wm at hmk gm I3
            generalize wr.heap.size = o at hmk gm fo
            have G0 : Hid (AG w w.heap.size q f xs o (List.replicate q.n 0) wm) := ⟨I3.out, gm, fo⟩
            have T0 := hid (Trn.new K.out HA.out.2.2.2.2)
            generalize List.replicate q.n (0 : Int) = ys0 at G0 T0
            clear gm I3 fo I K HA M
            go_wp2_with fail
            clear hmk ili
            go_loopg [16] q.n (fun m k wr => ∃ (i : Nat) (xs ys : List Int), i + m = q.n ∧ k = .int .i64 (i : Int) ∧ Hid (AG w w.heap.size q f xs o ys wr) ∧ Hid (Trn xs ys q.n i))
            case atStart => exact ⟨0, _, _, by omega, rfl, G0.out, T0.out⟩
            case round =>
              obtain ⟨i, xs, ys, hi, rfl, G, T⟩ := hrel
              clear G0 T0
              by_cases il : i < q.n
              · have ili : (i : Int) < (q.n : Int) := by omega
                have ilj : (i : Int) < (j : Int) := by omega
                have ib : (i : Int) ≤ 1048576 := by omega
                have cx := G.out.af.own.cell i (by have := T.out.lx; omega)
                have fx := G.out.af.own.free i
                have T2 := hid (T.out.put il)
                have G1 := hid (G.out.set1 i (xr21 (xs.getD i 0)))
                generalize xs.getD i 0 = x at cx T2 G1
                obtain ⟨y, hy⟩ : ∃ y, bits .xor .u64 x 21 = y := ⟨_, rfl⟩
                rw [xr21, hy] at T2 G1
                have cO := G1.out.own.cell i (by have := T.out.ly; omega)
                have fO := G1.out.own.free i
                have cA := G1.out.af.own.cell i (by rw [List.length_set]; have := T.out.lx; omega)
                rw [getD_set_eq (by have := T.out.lx; omega)] at cA
                have G2 := hid (G1.out.set2 i y)
                generalize ys.getD i 0 = yi at cO
                clear G G1 T HB HC
                go_upto_region 26 with fail
                clear cx fx hy
                generalize wr.setCell ⟨f, i, none⟩ (.int .u64 y) = wA at *
                go_wp2_with fail
                go_roundg (q.n - (i + 1))
                case measure => omega
                case rel => exact ⟨i + 1, _, _, by omega, by go_num, G2.out, T2.out⟩
              · have ili : ¬ (i : Int) < (q.n : Int) := by omega
                obtain rfl : i = q.n := by omega
                have C1 := hid (fun W' (k : AG w w.heap.size q f xs o ys W') => HC.out W' (some ⟨o, 0, none⟩) q.n ys ⟨T.out.ly, Nat.le_refl _, by omega, k.own.lies, T.out.hy⟩)
                have C2 := hid (fun W' (k : AG w w.heap.size q f xs o ys W') => HB.out W' (some ⟨f, 0, none⟩) j ys (by have := k.af.arg T.out.ly (by omega) T.out.lx T.out.hy T.out.eq; rw [HNN.out] at this; exact this))
                unfold SigTold at C1 C2
                generalize strOfNums (Wh.sig q.V q.F q.D q.P q.neg ys) = s2 at *
                generalize Wh.sigE q.V q.F q.D q.P (Nm.tsize ys) = e2 at *
                obtain ⟨c0, c1, c2, c3, c4, c5⟩ := G.out.af.ab.flat
                clear HB HC
                go_wp2_with fail
                with_reducible refine (C1.out _ G.out).mono ?_
                rintro e w1 ⟨rfl, b1⟩
                have J1 := hid (G.out.on b1)
                clear b1 C1 G c0 c1 c2 c3 c4 c5
                go_upto_region 28 with fail
                have Y1 := hid J1.out.drew
                go_region_held3 (fun wx => wx.cell? ⟨w.heap.size, 0, none⟩ = some (.int .u8 q.V) ∧ wx.cell? ⟨w.heap.size, 1, none⟩ = some (.int .i64 q.F) ∧ wx.cell? ⟨w.heap.size, 2, none⟩ = some (.int .i64 q.D) ∧ wx.cell? ⟨w.heap.size, 3, none⟩ = some (.int .i64 q.P) ∧ wx.cell? ⟨w.heap.size, 4, none⟩ = some (.bool q.neg) ∧ wx.cell? ⟨w.heap.size, 5, none⟩ = some (.slice q.p q.n q.cap)) (first | (with_reducible exact Y2.out.af.ab.flat) | (with_reducible exact Y1.out.af.ab.flat)) (first
                  | (go_at_call 13; with_reducible refine (C2.out _ Y1.out).mono ?_; rintro e wa ⟨rfl, hB⟩; have Y2 := hid (Y1.out.on hB); clear hB))
                have Z := hid Y2.out
                clear J1 Y1 Y2 C2
                go_wp2_with fail
                go_ret
                exact ⟨rfl, Z.out.af.ab.bel⟩
end Go.Proofs.YtbldddagddmbgaaDoor

namespace Go.Proofs.YtbldddagddmbgaaDoor
open Go Go.RowKit Go.Deep Go.Shelf

theorem AB.v0 {w0 wk : World} {bx : Nat} {q : Aq} (h : AB w0 bx q wk) (v : Int) : AB w0 bx { q with V := v } (wk.setCell ⟨bx, 0, none⟩ (.int .u8 v)) := by
  refine ⟨h.bel.setCell (p := ⟨bx, 0, none⟩) h.lo _, ?_, h.lo⟩
  have := h.box
  simp [World.setCell, Array.getElem?_modify, this, aqv]
theorem AB.flat8 {w0 wk : World} {bx : Nat} {q : Aq} (h : AB w0 bx q wk) : wk.cell? ⟨bx, 6, none⟩ = some (.int .u64 q.u) ∧ wk.cell? ⟨bx, 7, none⟩ = some (.string (strOfNums q.t)) ∧ wk.frozen? ⟨bx, 0, none⟩ = false := by
  have := h.box
  unfold aqv at this
  refine ⟨?_, ?_, ?_⟩ <;> simp [World.cell?, World.frozen?, this]

set_option maxRecDepth 100000 in
set_option maxHeartbeats 4000000 in
theorem wsig_law (a : Option Addr) (cap : Nat) (qs : List Aq) (w : World) (hq : LA w a qs) (hw : ∀ q ∈ qs, AqW w q) (hn : qs.length ≤ 2199023255552) :
    Calls Tryd.prog 3 #[.slice a qs.length cap] w fun e w' => e = .returned (.bool true) ∧ Below w.heap.size w w' := by
  have S1 := hid (fun W => spec_any 100 W)
  have A1 : Hid (∀ W : World, Calls Tryd.prog 7 #[.agg #[.int .u8 100, .int .i64 0, .int .i64 0, .int .i64 (-1), .bool true, .slice (some ⟨W.heap.size, 0, none⟩) 1 1, .int .u64 0, .string ⟨#[]⟩]] (W.alloc (.cells #[.int .u64 42] 27)) fun e w' => e = .returned (.bool true) ∧ Below (W.alloc (.cells #[.int .u64 42] 27)).heap.size (W.alloc (.cells #[.int .u64 42] 27)) w') := fun W =>
    signeds_any ⟨100, 0, 0, -1, true, some ⟨W.heap.size, 0, none⟩, 1, 1, 0, []⟩ [42] (W.alloc (.cells #[.int .u64 42] 27)) ⟨rfl, Nat.le_refl _, by show 1 ≤ _; decide, (Own.alloc W [42]).lies, Nm.Limbs.mk (by omega) (by omega) Nm.Limbs.nil⟩ (by show (0 : Int) ≤ 100; decide) (by show (100 : Int) < 256; decide)
  have TT := hid (fun (q : Aq) (V : Int) W' (hm : q ∈ qs) (k : Below w.heap.size w W') (h0 : 0 ≤ V) (h1 : V < 256) => by
    obtain ⟨_, _, _, _, zs, h5⟩ := hw q hm
    exact signeds_any { q with V := V } zs W' (h5.below k (Nat.le_refl _)) h0 h1)
  have VB := hid (fun (q : Aq) (hm : q ∈ qs) => (hw q hm).1)
  unfold aqv at TT
  have H := hid hq
  have HN := hid hn
  clear hq hn hw
  go_enter Tryd.func3, Tryd.ntmps3
  go_wp2_with fail
  with_reducible refine (S1.out _).mono ?_
  rintro e w1 ⟨rfl, b1⟩
  have B1 := hid b1
  clear b1 S1
  go_wp2_with fail
  with_reducible refine (A1.out _).mono ?_
  rintro e w2 ⟨rfl, b2⟩
  have B2 := hid (below_on (below_on B1.out (alloc_b w1 (.cells #[.int .u64 42] 27))) b2)
  clear b2 A1 B1
  go_wp2_with fail
  go_loopg [3, 4] qs.length (fun m k a4 wr => ∃ i : Nat, i + m = qs.length ∧ k = .int .i64 (i : Int) ∧ Hid (Below w.heap.size w wr))
  case atStart => exact ⟨0, by omega, rfl, B2.out⟩
  case round =>
    obtain ⟨i, hi, rfl, I⟩ := hrel
    clear B2
    by_cases il : i < qs.length
    · have ili : (i : Int) < (qs.length : Int) := by omega
      have ib : (i : Int) ≤ 2199023255552 := by have := HN.out; omega
      obtain ⟨b, off, rfl, hc⟩ := H.out.at i il
      have mem := aq_getD il
      have vb := VB.out _ mem
      have T1 := hid (fun W' k => TT.out (qs.getD i Aq.no) (qs.getD i Aq.no).V W' mem k vb.1 vb.2)
      have T2 := hid (fun W' k => TT.out (qs.getD i Aq.no) 100 W' mem k (by omega) (by omega))
      obtain ⟨e0, e1, e2, e3, e4, e5, e6, e7⟩ := hc.flat
      have k0 := cell_lt e0
      have E0 : ∀ (o : Nat) (v : Value), w.cell? ⟨b, o, none⟩ = some v → wr.cell? ⟨b, o, none⟩ = some v := fun o v h => by rw [I.out.cell (p := ⟨b, o, none⟩) k0]; exact h
      have d0 := E0 _ _ e0
      have d1 := E0 _ _ e1
      have d2 := E0 _ _ e2
      have d3 := E0 _ _ e3
      have d4 := E0 _ _ e4
      have d5 := E0 _ _ e5
      have d6 := E0 _ _ e6
      have d7 := E0 _ _ e7
      clear hc mem vb TT VB e0 e1 e2 e3 e4 e5 e6 e7 E0 k0
      generalize qs.getD i Aq.no = q at *
      have X0 : Hid (AB w wr.heap.size q (wr.alloc (.cells #[.int .u8 q.V, .int .i64 q.F, .int .i64 q.D, .int .i64 q.P, .bool q.neg, .slice q.p q.n q.cap, .int .u64 q.u, .string (strOfNums q.t)] 30))) := ⟨below_on I.out (alloc_b wr _), heap_alloc_new wr _, I.out.size⟩
      clear I
      go_upto_region 7 with fail
      clear d0 d1 d2 d3 d4 d5 d6 d7
      generalize (wr.alloc (.cells #[.int .u8 q.V, .int .i64 q.F, .int .i64 q.D, .int .i64 q.P, .bool q.neg, .slice q.p q.n q.cap, .int .u64 q.u, .string (strOfNums q.t)] 30)) = wS at *
      generalize wr.heap.size = bx at *
      obtain ⟨c0, c1, c2, c3, c4, c5⟩ := X0.out.flat
      obtain ⟨c6, c7, f0⟩ := X0.out.flat8
      go_wp2_with fail
      with_reducible refine (T1.out _ X0.out.bel).mono ?_
      rintro e wa ⟨rfl, b1⟩
      have X1 := hid (X0.out.on b1)
      clear b1 T1 X0 c0 c1 c2 c3 c4 c5 c6 c7 f0
      obtain ⟨c0, c1, c2, c3, c4, c5⟩ := X1.out.flat
      obtain ⟨c6, c7, f0⟩ := X1.out.flat8
      have X2 := hid (X1.out.v0 100)
      go_upto_region 10 with fail
      clear c0 c1 c2 c3 c4 c5 c6 c7 f0 X1
      generalize (wa.setCell ⟨bx, 0, none⟩ (.int .u8 100)) = wE at *
      obtain ⟨c0, c1, c2, c3, c4, c5⟩ := X2.out.flat
      obtain ⟨c6, c7, f0⟩ := X2.out.flat8
      dsimp only at c0 c1 c2 c3 c4 c5 c6 c7
      go_wp2_with fail
      with_reducible refine (T2.out _ X2.out.bel).mono ?_
      rintro e wc ⟨rfl, b1⟩
      have X3 := hid (X2.out.on b1)
      clear b1 T2 X2 c0 c1 c2 c3 c4 c5 c6 c7 f0
      go_wp2_with fail
      go_roundg (qs.length - (i + 1))
      case measure => omega
      case rel => exact ⟨i + 1, by omega, by go_num, X3.out.bel⟩
    · have ili : ¬ (i : Int) < (qs.length : Int) := by omega
      go_wp2_with fail
      go_ret
      exact ⟨rfl, I.out⟩
end Go.Proofs.YtbldddagddmbgaaDoor
