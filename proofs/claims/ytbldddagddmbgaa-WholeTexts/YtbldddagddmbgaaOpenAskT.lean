/-
  AN Ask AS IT COMES IN, AND A LIST OF THEM: the fields, read (all but the natural) (mkopenask.py).
-/
import Derived.Test.YtbldddagddmbgaaOpenSpc
import Derived.Test.YtbldddagddmbgaaVStr
import Derived.Test.YtbldddagddmbgaaJSpec
namespace Go.Proofs.Ytbldddagddmbgaa
open Go Go.RowKit Go.Deep Go.ChangeShapes Go.WideShapes Go.ChangeAt

structure Aq where
  V : Int
  F : Int
  D : Int
  P : Int
  neg : Bool
  p : Option Addr
  n : Nat
  cap : Nat
  u : Int
  t : List Int
def aqv (q : Aq) : Array Value := #[.int .u8 q.V, .int .i64 q.F, .int .i64 q.D, .int .i64 q.P, .bool q.neg, .slice q.p q.n q.cap, .int .u64 q.u, .string (strOfNums q.t)]
/-- What is known of an Ask that came in. -/
def AqW (_W : World) (q : Aq) : Prop := (0 ≤ q.V ∧ q.V < 256) ∧ (0 ≤ q.u ∧ q.u < 18446744073709551616) ∧ Wh.By q.t ∧ q.t.length ≤ 140737488351232

theorem aq_array {α : Type} {cs : Array α} (h : cs.size = 8) : ∃ c0 c1 c2 c3 c4 c5 c6 c7, cs = #[c0, c1, c2, c3, c4, c5, c6, c7] := by
  obtain ⟨l⟩ := cs
  match l, h with
  | [c0, c1, c2, c3, c4, c5, c6, c7], _ => exact ⟨c0, c1, c2, c3, c4, c5, c6, c7, rfl⟩
theorem aq_list {α : Type} {l : List α} (h : l.length = 5) : ∃ c0 c1 c2 c3 c4, l = [c0, c1, c2, c3, c4] := by
  match l, h with
  | [c0, c1, c2, c3, c4], _ => exact ⟨c0, c1, c2, c3, c4, rfl⟩

set_option maxRecDepth 100000 in
theorem open_ask_cells {H : Type} {enc : TypeId × Value → H} {W : World} {fuel : Nat} {a0 a1 a2 a3 a4 a5 a6 a7 : Value} {x : DataW H × List MemPlace} (hf : DataW.trod enc Try.prog W 0 (fun _ => true) true fuel 31 [a0, a1, a2, a3, a4, a5, a6, a7] = some x)
    (hsz : ∀ n ∈ x.1.weights Try.prog 31, n ≤ reachBytes) : ∃ q : Aq, #[a0, a1, a2, a3, a4, a5, a6, a7] = aqv q ∧ AqW W q := by
  obtain ⟨xs, n, _, hx, _, hlen, hfs⟩ := DataW.trod_struct Try.underlying31 hf
  obtain ⟨y0, y1, y2, y3, y4, rfl⟩ := aq_list hlen
  have c4 : Try.prog.cellsOf 25 = 4 := by kernel_rfl
  have cb : Try.prog.cellsOf 4 = 1 := by kernel_rfl
  have cl : Try.prog.cellsOf 28 = 1 := by kernel_rfl
  have cu : Try.prog.cellsOf 29 = 1 := by kernel_rfl
  have cs : Try.prog.cellsOf 9 = 1 := by kernel_rfl
  have f0 : DataW.trod enc Try.prog W 0 (fun _ => true) true n 25 [a0, a1, a2, a3] = some y0 := by simpa [c4] using hfs 0 _ rfl
  have f1 : DataW.trod enc Try.prog W 0 (fun _ => true) true n 4 [a4] = some y1 := by simpa [cb] using hfs 1 _ rfl
  have f2 : DataW.trod enc Try.prog W 0 (fun _ => true) true n 28 [a5] = some y2 := by simpa [cl] using hfs 2 _ rfl
  have f3 : DataW.trod enc Try.prog W 0 (fun _ => true) true n 29 [a6] = some y3 := by simpa [cu] using hfs 3 _ rfl
  have f4 : DataW.trod enc Try.prog W 0 (fun _ => true) true n 9 [a7] = some y4 := by simpa [cs] using hfs 4 _ rfl
  have hd : x.1 = .agg [y0.1, y1.1, y2.1, y3.1, y4.1] := by rw [hx]; rfl
  have hw : ∀ (j : Nat) (t : TypeId) (e : DataW H), [25, 4, 28, 29, 9][j]? = some t → [y0.1, y1.1, y2.1, y3.1, y4.1][j]? = some e → ∀ n ∈ e.weights Try.prog t, n ≤ reachBytes := by
    intro j t e ht he n hn
    refine hsz n ?_
    rw [hd]
    simp only [DataW.weights, Try.underlying31]
    exact DataW.weights_mem_each ht he n hn
  obtain ⟨V, F, D, P, e0, e1, e2, e3, hV⟩ := open_spc_cells (x := y0) f0
  obtain ⟨ng, e4, _⟩ := DataW.trod_bool Try.underlying4 f1
  obtain ⟨u, e6, _, w6⟩ := DataW.trod_int Try.underlying29 f3
  obtain ⟨s, e7, q7, _⟩ := DataW.trod_string Try.underlying9 f4
  have hs : s.data.toList.length ≤ reachBytes := by
    refine hw 4 _ _ rfl rfl _ ?_
    rw [q7]
    simp [DataW.weights]
  have b6 : 0 ≤ u ∧ u < 18446744073709551616 := by have := bounds_u64 w6; omega
  have ht : (s.data.toList.map (fun b => (b.toNat : Int))).length ≤ 140737488351232 := by rw [List.length_map]; exact Nat.le_trans hs (by decide)
  have A1 : ∃ (p1 : Option Addr) (n1 c1 : Nat), a5 = .slice p1 n1 c1 := by
    rcases DataW.trod_slice Try.underlying28 f2 with ⟨hcs, _⟩ | ⟨x, l, c, elems, rest, n, _, hcs, _⟩
    · exact ⟨_, _, _, (List.cons.inj hcs).1⟩
    · exact ⟨_, _, _, (List.cons.inj hcs).1⟩
  obtain ⟨p1, n1, c1, e5⟩ := A1
  refine ⟨⟨V, F, D, P, ng, p1, n1, c1, u, s.data.toList.map (fun b => (b.toNat : Int))⟩, ?_, hV, b6, fun x hx => (Str.self s).mem hx, ht⟩
  rw [e0, e1, e2, e3, (List.cons.inj e4).1, e5, (List.cons.inj e6).1, (List.cons.inj e7).1]
  unfold aqv
  rw [← str_is (Str.self s)]

set_option maxRecDepth 100000 in
theorem open_ask {H : Type} {enc : TypeId × Value → H} {W : World} {base : Nat} {v : Value} {d : DataW H} {p : List MemPlace} (hv : Value.okWide Try.prog W .any base 31 v) (h : DataW.Trod enc Try.prog W 0 (fun _ => true) true 31 v d p)
    (hsz : ∀ n ∈ d.weights Try.prog 31, n ≤ reachBytes) : ∃ q : Aq, v = .agg (aqv q) ∧ AqW W q := by
  obtain ⟨cs, rfl, hs7⟩ := okWide_struct Try.underlying31 hv
  obtain ⟨a0, a1, a2, a3, a4, a5, a6, a7, rfl⟩ := aq_array (hs7.trans (show Try.prog.cellsOf 31 = 8 by kernel_rfl))
  obtain ⟨fuel, hf⟩ := h
  have hf' : DataW.trod enc Try.prog W 0 (fun _ => true) true fuel 31 [a0, a1, a2, a3, a4, a5, a6, a7] = some (d, p) := by simpa [Value.cells] using hf
  obtain ⟨q, e, h1⟩ := open_ask_cells (x := (d, p)) hf' hsz
  rw [e]
  exact ⟨q, rfl, h1⟩

/-- An Ask's cells at a place. -/
def ACells (w : World) (b o : Nat) (q : Aq) : Prop := ∀ k v, (aqv q)[k]? = some v → w.cell? ⟨b, o + k, none⟩ = some v
/-- A list of Asks that can be read. -/
def LA (w : World) (a : Option Addr) (qs : List Aq) : Prop := qs = [] ∨ ∃ b off, a = some ⟨b, off, none⟩ ∧ ∀ i q, qs[i]? = some q → ACells w b (off + i * 8) q

theorem aq_mem {H : Type} {P : Program} {e : TypeId} : ∀ {l : List (DataW H)} {d : DataW H}, d ∈ l → ∀ n ∈ d.weights P e, n ∈ DataW.weightsAll P e l
  | [], _, h, _, _ => by simp at h
  | x :: r, d, h, n, hn => by
    simp only [DataW.weightsAll, List.mem_append]
    rcases List.mem_cons.1 h with rfl | h
    · exact .inl hn
    · exact .inr (aq_mem h n hn)
theorem aq_each {α : Type} {Q : Nat → α → Prop} : ∀ n, (∀ i, i < n → ∃ x, Q i x) → ∃ l : List α, l.length = n ∧ ∀ i x, l[i]? = some x → Q i x
  | 0, _ => ⟨[], rfl, by simp⟩
  | n + 1, h => by
    obtain ⟨l, h1, h2⟩ := aq_each n (fun i hi => h i (by omega))
    obtain ⟨x, hx⟩ := h n (by omega)
    refine ⟨l ++ [x], by simp [h1], fun i y hy => ?_⟩
    by_cases hi : i < l.length
    · rw [List.getElem?_append_left hi] at hy
      exact h2 i y hy
    · have hlt := (List.getElem?_eq_some_iff.1 hy).1
      simp only [List.length_append, List.length_cons, List.length_nil] at hlt
      obtain rfl : i = n := by omega
      rw [List.getElem?_append_right (by omega), h1, Nat.sub_self] at hy
      simp at hy
      subst hy
      exact hx
theorem aq_list8 {α : Type} {l : List α} (h : l.length = 8) : ∃ c0 c1 c2 c3 c4 c5 c6 c7, l = [c0, c1, c2, c3, c4, c5, c6, c7] := by
  match l, h with
  | [c0, c1, c2, c3, c4, c5, c6, c7], _ => exact ⟨c0, c1, c2, c3, c4, c5, c6, c7, rfl⟩

set_option maxRecDepth 100000 in
theorem open_asks {H : Type} {enc : TypeId × Value → H} {W : World} {a : Option Addr} {len cap : Nat} {d : DataW H} {p : List MemPlace} (h : DataW.Trod enc Try.prog W 0 (fun _ => true) true 22 (.slice a len cap) d p)
    (hsz : ∀ n ∈ d.weights Try.prog 22, n ≤ reachBytes) : ∃ qs : List Aq, qs.length = len ∧ LA W a qs ∧ (∀ q ∈ qs, AqW W q) ∧ len ≤ 2199023255552 := by
  obtain ⟨fuel, hf⟩ := h
  rcases DataW.trod_slice Try.underlying22 hf with ⟨hcs, _⟩ | ⟨x, l, c, elems, rest, n, _, hcs, hx, _, hl, hm, he, hel, hsp, _⟩
  · simp [Value.cells] at hcs
    obtain ⟨rfl, rfl, rfl⟩ := hcs
    exact ⟨[], rfl, .inl rfl, by intro it h; simp at h, by omega⟩
  · simp [Value.cells] at hcs
    obtain ⟨rfl, rfl, rfl⟩ := hcs
    have hd : d = .slice (elems.map (·.1)) (rest.map (·.1)) := (Prod.mk.inj hx).1
    have hw : ∀ n ∈ (DataW.slice (elems.map (·.1)) (rest.map (·.1)) : DataW H).weights Try.prog 22, n ≤ reachBytes := by rw [← hd]; exact hsz
    simp only [DataW.weights, Try.underlying22] at hw
    have hr := hw _ List.mem_cons_self
    rw [show Try.prog.bytesOf 31 = 88 by kernel_rfl] at hr
    have hrl := (hsp rfl).1
    simp only [List.length_map, reachBytes] at hr
    rw [show Try.prog.cellsOf 31 = 8 by kernel_rfl] at hel
    obtain ⟨its, i1, i2⟩ := aq_each (Q := fun i (it : Aq) => (∀ k v, (aqv it)[k]? = some v → W.cell? ((x.add (i * 8)).add k) = some v) ∧ AqW W it) len (fun i hi => by
      have h1 := hel i hi
      have h2 : elems[i]? = some elems[i] := List.getElem?_eq_getElem (by omega)
      rw [h2] at h1
      obtain ⟨cs, h3, h4⟩ := Option.bind_eq_some_iff.1 h1
      obtain ⟨_, h5, h6⟩ := World.cells?_some h3
      obtain ⟨v0, v1, v2, v3, v4, v5, v6, v7, rfl⟩ := aq_list8 h5
      obtain ⟨q, e, hA⟩ := open_ask_cells h4 (fun m hm => hw m (List.mem_cons_of_mem _ (List.mem_append_left _ (aq_mem (List.mem_map.2 ⟨elems[i], List.getElem_mem _, rfl⟩) m hm))))
      refine ⟨q, fun k v hk => ?_, hA⟩
      rw [← e] at hk
      have hk8 : k < 8 := by
        have := (Array.getElem?_eq_some_iff.1 hk).1
        simpa using this
      have hk' : [v0, v1, v2, v3, v4, v5, v6, v7][k]? = some v := by simpa using hk
      have e6 := h6 k (by simpa using hk8)
      rw [e6]
      exact hk')
    refine ⟨its, i1, ?_, ?_, by omega⟩
    · rcases Nat.eq_zero_or_pos its.length with h0 | h0
      · exact .inl (List.eq_nil_of_length_eq_zero h0)
      · obtain ⟨b, off, spot⟩ := x
        have hspot : spot = none := by simpa [Addr.add] using World.cell?_spot ((i2 0 _ (List.getElem?_eq_getElem h0)).1 0 _ rfl)
        subst hspot
        refine .inr ⟨b, off, rfl, fun i it hi k v hk => ?_⟩
        have q := (i2 i it hi).1 k v hk
        simp only [Go.WideShapes.add_plain] at q
        exact q
    · intro it hit
      obtain ⟨i, hi⟩ := List.getElem?_of_mem hit
      exact (i2 i it hi).2
theorem ACells.flat {w : World} {b o : Nat} {q : Aq} (h : ACells w b o q) : w.cell? ⟨b, o, none⟩ = some (.int .u8 q.V) ∧ w.cell? ⟨b, o + 1, none⟩ = some (.int .i64 q.F) ∧ w.cell? ⟨b, o + 2, none⟩ = some (.int .i64 q.D) ∧ w.cell? ⟨b, o + 3, none⟩ = some (.int .i64 q.P) ∧ w.cell? ⟨b, o + 4, none⟩ = some (.bool q.neg) ∧ w.cell? ⟨b, o + 5, none⟩ = some (.slice q.p q.n q.cap) ∧ w.cell? ⟨b, o + 6, none⟩ = some (.int .u64 q.u) ∧ w.cell? ⟨b, o + 7, none⟩ = some (.string (strOfNums q.t)) :=
  ⟨h 0 _ rfl, h 1 _ rfl, h 2 _ rfl, h 3 _ rfl, h 4 _ rfl, h 5 _ rfl, h 6 _ rfl, h 7 _ rfl⟩
theorem LA.below {w w' : World} {a : Option Addr} {qs : List Aq} (h : LA w a qs) (k : Below w.heap.size w w') : LA w' a qs := by
  rcases h with h | ⟨b, off, e, h⟩
  · exact .inl h
  · refine .inr ⟨b, off, e, fun i q hi j v hj => ?_⟩
    have c := h i q hi j v hj
    have lt := cell_lt c
    rw [← c]
    simp only [World.cell?, k.block b lt]
def Aq.no : Aq := ⟨0, 0, 0, 0, false, none, 0, 0, 0, []⟩
theorem LA.at {w : World} {a : Option Addr} {qs : List Aq} (h : LA w a qs) (i : Nat) (hi : i < qs.length) : ∃ b off, a = some ⟨b, off, none⟩ ∧ ACells w b (off + i * 8) (qs.getD i Aq.no) := by
  rcases h with h | ⟨b, off, e, h⟩
  · rw [h] at hi; simp at hi
  · exact ⟨b, off, e, h i _ (by rw [List.getD_eq_getElem?_getD, List.getElem?_eq_getElem hi]; rfl)⟩
theorem aq_getD {qs : List Aq} {i : Nat} (hi : i < qs.length) : qs.getD i Aq.no ∈ qs := by
  rw [List.getD_eq_getElem?_getD, List.getElem?_eq_getElem hi]; exact List.getElem_mem hi
end Go.Proofs.Ytbldddagddmbgaa
