/-
  law20's Ask AS IT COMES IN, A LIST OF THEM.
-/
import Derived.Test.YtgliefdefklfeaaChMem
import Derived.OpenShut
import Derived.SizedLaws
import Derived.ChangeMaps5
import Derived.ProofKit
import Derived.ChangeSlices
namespace Go.Proofs.Ytgliefdefklfeaa
open Go Go.RowKit Go.Deep Go.ChangeShapes Go.WideShapes Go.ChangeAt

structure Ak where
  S : ByteArray
  T : ByteArray
  V : ByteArray
  M : Int
  N : Int
  a : Option Addr
  cap : Nat
  xs : List ByteArray
  most : Int
def akv (q : Ak) : Array Value := #[.string q.S, .string q.T, .string q.V, .int .u64 q.M, .int .u64 q.N, .slice q.a q.xs.length q.cap, .int .i64 q.most]
/-- What is known of an Ask that came in. -/
def AkW (W : World) (q : Ak) : Prop := q.S.size ≤ 140737488351232 ∧ q.T.size ≤ 140737488351232 ∧ q.V.size ≤ 140737488351232 ∧ (0 ≤ q.M ∧ q.M < 18446744073709551616) ∧ (0 ≤ q.N ∧ q.N < 18446744073709551616) ∧ (-9223372036854775808 ≤ q.most ∧ q.most ≤ 9223372036854775807) ∧
  q.xs.length ≤ 8796093022208 ∧ (∀ x ∈ q.xs, x.size ≤ 140737488351232) ∧ TR W q.a q.xs

/-- Its texts are no longer than what it holds. -/
def AkB (n : Nat) (q : Ak) : Prop := q.S.size ≤ n ∧ q.T.size ≤ n ∧ q.V.size ≤ n

theorem ak_list {α : Type} {l : List α} (h : l.length = 7) : ∃ c0 c1 c2 c3 c4 c5 c6, l = [c0, c1, c2, c3, c4, c5, c6] := by
  match l, h with
  | [c0, c1, c2, c3, c4, c5, c6], _ => exact ⟨c0, c1, c2, c3, c4, c5, c6, rfl⟩
theorem ak_mem {H : Type} {P : Program} {e : TypeId} : ∀ {l : List (DataW H)} {d : DataW H}, d ∈ l → ∀ n ∈ d.weights P e, n ∈ DataW.weightsAll P e l
  | [], _, h, _, _ => by simp at h
  | x :: r, d, h, n, hn => by
    simp only [DataW.weightsAll, List.mem_append]
    rcases List.mem_cons.1 h with rfl | h
    · exact .inl hn
    · exact .inr (ak_mem h n hn)
theorem bulk_mem20 {H : Type} : ∀ {l : List (DataW H)} {d : DataW H}, d ∈ l → Rows.uptoBulk d ≤ Rows.uptoBulkAll l
  | [], _, h => by simp at h
  | x :: r, d, h => by
    rw [Rows.uptoBulkAll]
    rcases List.mem_cons.1 h with rfl | h
    · omega
    · have := bulk_mem20 h
      omega
theorem ak_each {α : Type} {Q : Nat → α → Prop} : ∀ n, (∀ i, i < n → ∃ x, Q i x) → ∃ l : List α, l.length = n ∧ ∀ i x, l[i]? = some x → Q i x
  | 0, _ => ⟨[], rfl, by simp⟩
  | n + 1, h => by
    obtain ⟨l, h1, h2⟩ := ak_each n (fun i hi => h i (by omega))
    obtain ⟨x, hx⟩ := h n (by omega)
    refine ⟨l ++ [x], by simp [h1], fun i y hy => ?_⟩
    by_cases hi : i < l.length
    · rw [List.getElem?_append_left hi] at hy
      exact h2 i y hy
    · have hlt := (List.getElem?_eq_some_iff.1 hy).1
      simp only [List.length_append, List.length_cons, List.length_nil] at hlt
      obtain rfl : i = n := by omega
      rw [List.getElem?_append_right (by omega), h1, Nat.sub_self] at hy
      simp at hy
      subst hy
      exact hx

set_option maxRecDepth 100000 in
theorem open_texts_cells {H : Type} {enc : TypeId × Value → H} {W : World} {fuel : Nat} {v : Value} {x : DataW H × List MemPlace} (hf : DataW.trod enc Try.prog W 0 (fun _ => true) true fuel 26 [v] = some x)
    (hsz : ∀ n ∈ x.1.weights Try.prog 26, n ≤ reachBytes) : ∃ (a : Option Addr) (cap : Nat) (its : List ByteArray), v = .slice a its.length cap ∧ its.length ≤ 8796093022208 ∧ (∀ it ∈ its, it.size ≤ 140737488351232) ∧ TR W a its := by
  rcases DataW.trod_slice Try.underlying26 hf with ⟨hcs, _⟩ | ⟨y, l, c, elems, rest, n, _, hcs, hx, _, hl, hm, he, hel, hsp, _⟩
  · exact ⟨none, 0, [], (List.cons.inj hcs).1, by decide, by intro it h; simp at h, .inl rfl⟩
  · have hv := (List.cons.inj hcs).1
    have hd : x.1 = .slice (elems.map (·.1)) (rest.map (·.1)) := by rw [hx]
    have hw : ∀ n ∈ (DataW.slice (elems.map (·.1)) (rest.map (·.1)) : DataW H).weights Try.prog 26, n ≤ reachBytes := by rw [← hd]; exact hsz
    simp only [DataW.weights, Try.underlying26] at hw
    have hr := hw _ List.mem_cons_self
    rw [show Try.prog.bytesOf 9 = 16 by kernel_rfl] at hr
    have hrl := (hsp rfl).1
    simp only [List.length_map, reachBytes] at hr
    rw [show Try.prog.cellsOf 9 = 1 by kernel_rfl] at hel
    obtain ⟨its, i1, i2⟩ := ak_each (Q := fun i (it : ByteArray) => W.cell? (y.add i) = some (.string it) ∧ it.size ≤ 140737488351232) l (fun i hi => by
      have h1 := hel i hi
      have h2 : elems[i]? = some elems[i] := List.getElem?_eq_getElem (by omega)
      rw [h2, Nat.mul_one] at h1
      obtain ⟨cs, h3, h4⟩ := Option.bind_eq_some_iff.1 h1
      obtain ⟨s, rfl, q1, _⟩ := DataW.trod_string Try.underlying9 h4
      have hs : s.data.toList.length ≤ reachBytes := by
        refine hw _ (List.mem_cons_of_mem _ (List.mem_append_left _ (ak_mem (List.mem_map.2 ⟨elems[i], List.getElem_mem _, rfl⟩) _ ?_)))
        rw [q1]
        simp [DataW.weights]
      rw [Array.length_toList] at hs
      exact ⟨s, cell_of_cells?_one h3, Nat.le_trans (show s.size ≤ reachBytes from hs) (by decide)⟩)
    refine ⟨some y, c, its, by rw [hv, i1], by omega, ?_, ?_⟩
    · intro it hit
      obtain ⟨i, hi⟩ := List.getElem?_of_mem hit
      exact (i2 i it hi).2
    · rcases Nat.eq_zero_or_pos its.length with h0 | h0
      · exact .inl (List.eq_nil_of_length_eq_zero h0)
      · obtain ⟨b, off, spot⟩ := y
        have hspot : spot = none := by simpa [Addr.add] using World.cell?_spot (i2 0 _ (List.getElem?_eq_getElem h0)).1
        subst hspot
        refine .inr ⟨b, off, rfl, fun i it hi => ?_⟩
        have := (i2 i it hi).1
        rw [Go.WideShapes.add_plain] at this
        exact this

set_option maxRecDepth 100000 in
theorem open_ak_cells {H : Type} {enc : TypeId × Value → H} {W : World} {fuel : Nat} {a0 a1 a2 a3 a4 a5 a6 : Value} {x : DataW H × List MemPlace} (hf : DataW.trod enc Try.prog W 0 (fun _ => true) true fuel 28 [a0, a1, a2, a3, a4, a5, a6] = some x)
    (hsz : ∀ n ∈ x.1.weights Try.prog 28, n ≤ reachBytes) : ∃ q : Ak, #[a0, a1, a2, a3, a4, a5, a6] = akv q ∧ AkW W q ∧ AkB (Rows.uptoBulk x.1) q := by
  obtain ⟨xs, n, _, hx, _, hlen, hfs⟩ := DataW.trod_struct Try.underlying28 hf
  obtain ⟨y0, y1, y2, y3, y4, y5, y6, rfl⟩ := ak_list hlen
  have cs : Try.prog.cellsOf 9 = 1 := by kernel_rfl
  have cu : Try.prog.cellsOf 25 = 1 := by kernel_rfl
  have cl : Try.prog.cellsOf 26 = 1 := by kernel_rfl
  have ci : Try.prog.cellsOf 3 = 1 := by kernel_rfl
  have f0 : DataW.trod enc Try.prog W 0 (fun _ => true) true n 9 [a0] = some y0 := by simpa [cs] using hfs 0 _ rfl
  have f1 : DataW.trod enc Try.prog W 0 (fun _ => true) true n 9 [a1] = some y1 := by simpa [cs] using hfs 1 _ rfl
  have f2 : DataW.trod enc Try.prog W 0 (fun _ => true) true n 9 [a2] = some y2 := by simpa [cs] using hfs 2 _ rfl
  have f3 : DataW.trod enc Try.prog W 0 (fun _ => true) true n 25 [a3] = some y3 := by simpa [cu, cs] using hfs 3 _ rfl
  have f4 : DataW.trod enc Try.prog W 0 (fun _ => true) true n 25 [a4] = some y4 := by simpa [cu, cs] using hfs 4 _ rfl
  have f5 : DataW.trod enc Try.prog W 0 (fun _ => true) true n 26 [a5] = some y5 := by simpa [cl, cs, cu] using hfs 5 _ rfl
  have f6 : DataW.trod enc Try.prog W 0 (fun _ => true) true n 3 [a6] = some y6 := by simpa [ci, cl, cs, cu] using hfs 6 _ rfl
  have hd : x.1 = .agg [y0.1, y1.1, y2.1, y3.1, y4.1, y5.1, y6.1] := by rw [hx]; rfl
  have hw : ∀ (j : Nat) (t : TypeId) (e : DataW H), [9, 9, 9, 25, 25, 26, 3][j]? = some t → [y0.1, y1.1, y2.1, y3.1, y4.1, y5.1, y6.1][j]? = some e → ∀ n ∈ e.weights Try.prog t, n ≤ reachBytes := by
    intro j t e ht he n hn
    refine hsz n ?_
    rw [hd]
    simp only [DataW.weights, Try.underlying28]
    exact DataW.weights_mem_each ht he n hn
  have str : ∀ (j : Nat) (v : Value) (y : DataW H × List MemPlace), [9, 9, 9, 25, 25, 26, 3][j]? = some 9 → [y0.1, y1.1, y2.1, y3.1, y4.1, y5.1, y6.1][j]? = some y.1 → DataW.trod enc Try.prog W 0 (fun _ => true) true n 9 [v] = some y → ∃ s : ByteArray, v = .string s ∧ s.size ≤ 140737488351232 ∧ s.size ≤ Rows.uptoBulk y.1 := by
    intro j v y ht he f
    obtain ⟨s, e, q, _⟩ := DataW.trod_string Try.underlying9 f
    have hs : s.data.toList.length ≤ reachBytes := by
      refine hw j _ _ ht he _ ?_
      rw [q]
      simp [DataW.weights]
    rw [Array.length_toList] at hs
    refine ⟨s, (List.cons.inj e).1, Nat.le_trans (show s.size ≤ reachBytes from hs) (by decide), ?_⟩
    rw [q, Rows.uptoBulk, Array.length_toList]
    exact Nat.le_succ _
  obtain ⟨S, e0, b0, k0⟩ := str 0 a0 y0 rfl rfl f0
  obtain ⟨T, e1, b1, k1⟩ := str 1 a1 y1 rfl rfl f1
  obtain ⟨V, e2, b2, k2⟩ := str 2 a2 y2 rfl rfl f2
  obtain ⟨M, e3, _, w3⟩ := DataW.trod_int Try.underlying25 f3
  obtain ⟨N, e4, _, w4⟩ := DataW.trod_int Try.underlying25 f4
  obtain ⟨a, cap, its, e5, l5, s5, r5⟩ := open_texts_cells f5 (hw 5 _ _ rfl rfl)
  obtain ⟨m, e6, _, w6⟩ := DataW.trod_int Try.underlying3 f6
  have b3 : 0 ≤ M ∧ M < 18446744073709551616 := by have := bounds_u64 w3; omega
  have b4 : 0 ≤ N ∧ N < 18446744073709551616 := by have := bounds_u64 w4; omega
  have b6 : -9223372036854775808 ≤ m ∧ m ≤ 9223372036854775807 := by have := bounds_i64 w6; omega
  refine ⟨⟨S, T, V, M, N, a, cap, its, m⟩, ?_, ⟨b0, b1, b2, b3, b4, b6, l5, s5, r5⟩, ?_⟩
  rotate_left
  · rw [hd]
    simp only [Rows.uptoBulk, Rows.uptoBulkAll]
    exact ⟨Nat.le_trans k0 (by omega), Nat.le_trans k1 (by omega), Nat.le_trans k2 (by omega)⟩
  rw [e0, e1, e2, (List.cons.inj e3).1, (List.cons.inj e4).1, e5, (List.cons.inj e6).1]
  rfl

/-- An Ask's cells at a place. -/
def KCells (w : World) (b o : Nat) (q : Ak) : Prop := ∀ k v, (akv q)[k]? = some v → w.cell? ⟨b, o + k, none⟩ = some v
/-- A list of Asks that can be read. -/
def LK20 (w : World) (a : Option Addr) (qs : List Ak) : Prop := qs = [] ∨ ∃ b off, a = some ⟨b, off, none⟩ ∧ ∀ i q, qs[i]? = some q → KCells w b (off + i * 7) q

set_option maxRecDepth 100000 in
theorem open_asks20 {H : Type} {enc : TypeId × Value → H} {W : World} {a : Option Addr} {len cap : Nat} {d : DataW H} {p : List MemPlace} (h : DataW.Trod enc Try.prog W 0 (fun _ => true) true 22 (.slice a len cap) d p)
    (hsz : ∀ n ∈ d.weights Try.prog 22, n ≤ reachBytes) : ∃ qs : List Ak, qs.length = len ∧ LK20 W a qs ∧ (∀ q ∈ qs, AkW W q) ∧ len ≤ 2199023255552 ∧ (∀ q ∈ qs, AkB (Rows.uptoBulk d) q) := by
  obtain ⟨fuel, hf⟩ := h
  rcases DataW.trod_slice Try.underlying22 hf with ⟨hcs, _⟩ | ⟨x, l, c, elems, rest, n, _, hcs, hx, _, hl, hm, he, hel, hsp, _⟩
  · simp [Value.cells] at hcs
    obtain ⟨rfl, rfl, rfl⟩ := hcs
    exact ⟨[], rfl, .inl rfl, by intro it h; simp at h, by omega, by intro it h; simp at h⟩
  · simp [Value.cells] at hcs
    obtain ⟨rfl, rfl, rfl⟩ := hcs
    have hd : d = .slice (elems.map (·.1)) (rest.map (·.1)) := (Prod.mk.inj hx).1
    have hw : ∀ n ∈ (DataW.slice (elems.map (·.1)) (rest.map (·.1)) : DataW H).weights Try.prog 22, n ≤ reachBytes := by rw [← hd]; exact hsz
    simp only [DataW.weights, Try.underlying22] at hw
    have hr := hw _ List.mem_cons_self
    rw [show Try.prog.bytesOf 28 = 96 by kernel_rfl] at hr
    have hrl := (hsp rfl).1
    simp only [List.length_map, reachBytes] at hr
    rw [show Try.prog.cellsOf 28 = 7 by kernel_rfl] at hel
    obtain ⟨its, i1, i2⟩ := ak_each (Q := fun i (it : Ak) => (∀ k v, (akv it)[k]? = some v → W.cell? ((x.add (i * 7)).add k) = some v) ∧ AkW W it ∧ AkB (Rows.uptoBulk d) it) len (fun i hi => by
      have h1 := hel i hi
      have h2 : elems[i]? = some elems[i] := List.getElem?_eq_getElem (by omega)
      rw [h2] at h1
      obtain ⟨cs, h3, h4⟩ := Option.bind_eq_some_iff.1 h1
      obtain ⟨_, h5, h6⟩ := World.cells?_some h3
      obtain ⟨v0, v1, v2, v3, v4, v5, v6, rfl⟩ := ak_list h5
      obtain ⟨q, e, hA, hK⟩ := open_ak_cells h4 (fun m hm => hw m (List.mem_cons_of_mem _ (List.mem_append_left _ (ak_mem (List.mem_map.2 ⟨elems[i], List.getElem_mem _, rfl⟩) m hm))))
      have hle : Rows.uptoBulk elems[i].1 ≤ Rows.uptoBulk d := by
        rw [hd, Rows.uptoBulk]
        have := bulk_mem20 (show elems[i].1 ∈ elems.map (·.1) from List.mem_map.2 ⟨elems[i], List.getElem_mem _, rfl⟩)
        omega
      refine ⟨q, fun k v hk => ?_, hA, Nat.le_trans hK.1 hle, Nat.le_trans hK.2.1 hle, Nat.le_trans hK.2.2 hle⟩
      rw [← e] at hk
      have hk7 : k < 7 := by
        have := (Array.getElem?_eq_some_iff.1 hk).1
        simpa using this
      have hk' : [v0, v1, v2, v3, v4, v5, v6][k]? = some v := by simpa using hk
      have e6 := h6 k (by simpa using hk7)
      rw [e6]
      exact hk')
    refine ⟨its, i1, ?_, ?_, by omega, ?_⟩
    · rcases Nat.eq_zero_or_pos its.length with h0 | h0
      · exact .inl (List.eq_nil_of_length_eq_zero h0)
      · obtain ⟨b, off, spot⟩ := x
        have hspot : spot = none := by simpa [Addr.add] using World.cell?_spot ((i2 0 _ (List.getElem?_eq_getElem h0)).1 0 _ rfl)
        subst hspot
        refine .inr ⟨b, off, rfl, fun i it hi k v hk => ?_⟩
        have q := (i2 i it hi).1 k v hk
        simp only [Go.WideShapes.add_plain] at q
        exact q
    · intro it hit
      obtain ⟨i, hi⟩ := List.getElem?_of_mem hit
      exact (i2 i it hi).2.1
    · intro it hit
      obtain ⟨i, hi⟩ := List.getElem?_of_mem hit
      exact (i2 i it hi).2.2
theorem KCells.flat {w : World} {b o : Nat} {q : Ak} (h : KCells w b o q) : w.cell? ⟨b, o, none⟩ = some (.string q.S) ∧ w.cell? ⟨b, o + 1, none⟩ = some (.string q.T) ∧ w.cell? ⟨b, o + 2, none⟩ = some (.string q.V) ∧ w.cell? ⟨b, o + 3, none⟩ = some (.int .u64 q.M) ∧ w.cell? ⟨b, o + 4, none⟩ = some (.int .u64 q.N) ∧ w.cell? ⟨b, o + 5, none⟩ = some (.slice q.a q.xs.length q.cap) ∧ w.cell? ⟨b, o + 6, none⟩ = some (.int .i64 q.most) :=
  ⟨h 0 _ rfl, h 1 _ rfl, h 2 _ rfl, h 3 _ rfl, h 4 _ rfl, h 5 _ rfl, h 6 _ rfl⟩
theorem LK20.below {w w' : World} {a : Option Addr} {qs : List Ak} (h : LK20 w a qs) (k : Below w.heap.size w w') : LK20 w' a qs := by
  rcases h with h | ⟨b, off, e, h⟩
  · exact .inl h
  · refine .inr ⟨b, off, e, fun i q hi j v hj => ?_⟩
    have c := h i q hi j v hj
    rw [k.cell (cell_lt c)]
    exact c
def Ak.no : Ak := ⟨⟨#[]⟩, ⟨#[]⟩, ⟨#[]⟩, 0, 0, none, 0, [], 0⟩
theorem LK20.at {w : World} {a : Option Addr} {qs : List Ak} (h : LK20 w a qs) (i : Nat) (hi : i < qs.length) : ∃ b off, a = some ⟨b, off, none⟩ ∧ KCells w b (off + i * 7) (qs.getD i Ak.no) := by
  rcases h with rfl | ⟨b, off, rfl, h⟩
  · cases hi
  · exact ⟨b, off, rfl, h i _ (by simp [List.getD, List.getElem?_eq_getElem hi])⟩
theorem ak_getD {qs : List Ak} {i : Nat} (h : i < qs.length) : qs.getD i Ak.no ∈ qs := by
  rw [List.getD_eq_getElem?_getD, List.getElem?_eq_getElem h]; exact List.getElem_mem h
theorem ak_getD_size {xs : List ByteArray} (h : ∀ x ∈ xs, x.size ≤ 140737488351232) (i : Nat) : (xs.getD i ByteArray.empty).size ≤ 140737488355328 := by
  by_cases hi : i < xs.length
  · have := h _ (show xs.getD i ByteArray.empty ∈ xs by rw [List.getD_eq_getElem?_getD, List.getElem?_eq_getElem hi]; exact List.getElem_mem hi)
    omega
  · rw [show xs.getD i ByteArray.empty = ByteArray.empty by simp [List.getD, List.getElem?_eq_none (show xs.length ≤ i by omega)]]
    exact Nat.zero_le _
end Go.Proofs.Ytgliefdefklfeaa
