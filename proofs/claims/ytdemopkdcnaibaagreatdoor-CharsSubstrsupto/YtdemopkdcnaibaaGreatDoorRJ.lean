/-
  Texts put together: OpenAsk20, ChSub, FTab, GBulk.
-/
import Derived.Test.YtdemopkdcnaibaaGreatDoorRI
import Derived.OpenShut
import Derived.SizedLaws
import Derived.ChangeMaps5
import Derived.ProofKit
import Derived.ChangeSlices
import Derived.Deep.RegionHeld3
import Derived.Deep.CutRange
import Derived.Test.YtdemopkdcnaibaaGreatDoorTrailW
import Derived.Lib.LaidTab
import Derived.Test.YtdemopkdcnaibaaGreatDoorRows
namespace Go.Proofs.YtdemopkdcnaibaaGreatDoor
open Go Go.RowKit Go.Deep Go.ChangeShapes Go.WideShapes Go.ChangeAt

structure Ak where
  S : ByteArray
  T : ByteArray
  V : ByteArray
  M : Int
  N : Int
  a : Option Addr
  cap : Nat
  xs : List ByteArray
  most : Int
def akv (q : Ak) : Array Value := #[.string q.S, .string q.T, .string q.V, .int .u64 q.M, .int .u64 q.N, .slice q.a q.xs.length q.cap, .int .i64 q.most]
/-- What is known of an Ask that came in. -/
def AkW (W : World) (q : Ak) : Prop := q.S.size ≤ 140737488351232 ∧ q.T.size ≤ 140737488351232 ∧ q.V.size ≤ 140737488351232 ∧ (0 ≤ q.M ∧ q.M < 18446744073709551616) ∧ (0 ≤ q.N ∧ q.N < 18446744073709551616) ∧ (-9223372036854775808 ≤ q.most ∧ q.most ≤ 9223372036854775807) ∧
  q.xs.length ≤ 8796093022208 ∧ (∀ x ∈ q.xs, x.size ≤ 140737488351232) ∧ TR W q.a q.xs

/-- Its texts are no longer than what it holds. -/
def AkB (n : Nat) (q : Ak) : Prop := q.S.size ≤ n ∧ q.T.size ≤ n ∧ q.V.size ≤ n

theorem ak_list {α : Type} {l : List α} (h : l.length = 7) : ∃ c0 c1 c2 c3 c4 c5 c6, l = [c0, c1, c2, c3, c4, c5, c6] := by
  match l, h with
  | [c0, c1, c2, c3, c4, c5, c6], _ => exact ⟨c0, c1, c2, c3, c4, c5, c6, rfl⟩
theorem ak_mem {H : Type} {P : Program} {e : TypeId} : ∀ {l : List (DataW H)} {d : DataW H}, d ∈ l → ∀ n ∈ d.weights P e, n ∈ DataW.weightsAll P e l
  | [], _, h, _, _ => by simp at h
  | x :: r, d, h, n, hn => by
    simp only [DataW.weightsAll, List.mem_append]
    rcases List.mem_cons.1 h with rfl | h
    · exact .inl hn
    · exact .inr (ak_mem h n hn)
theorem bulk_mem20 {H : Type} : ∀ {l : List (DataW H)} {d : DataW H}, d ∈ l → Rows.uptoBulk d ≤ Rows.uptoBulkAll l
  | [], _, h => by simp at h
  | x :: r, d, h => by
    rw [Rows.uptoBulkAll]
    rcases List.mem_cons.1 h with rfl | h
    · omega
    · have := bulk_mem20 h
      omega
theorem ak_each {α : Type} {Q : Nat → α → Prop} : ∀ n, (∀ i, i < n → ∃ x, Q i x) → ∃ l : List α, l.length = n ∧ ∀ i x, l[i]? = some x → Q i x
  | 0, _ => ⟨[], rfl, by simp⟩
  | n + 1, h => by
    obtain ⟨l, h1, h2⟩ := ak_each n (fun i hi => h i (by omega))
    obtain ⟨x, hx⟩ := h n (by omega)
    refine ⟨l ++ [x], by simp [h1], fun i y hy => ?_⟩
    by_cases hi : i < l.length
    · rw [List.getElem?_append_left hi] at hy
      exact h2 i y hy
    · have hlt := (List.getElem?_eq_some_iff.1 hy).1
      simp only [List.length_append, List.length_cons, List.length_nil] at hlt
      obtain rfl : i = n := by omega
      rw [List.getElem?_append_right (by omega), h1, Nat.sub_self] at hy
      simp at hy
      subst hy
      exact hx

set_option maxRecDepth 100000 in
theorem open_texts_cells {H : Type} {enc : TypeId × Value → H} {W : World} {fuel : Nat} {v : Value} {x : DataW H × List MemPlace} (hf : DataW.trod enc Tryz.prog W 0 (fun _ => true) true fuel 50 [v] = some x)
    (hsz : ∀ n ∈ x.1.weights Tryz.prog 50, n ≤ reachBytes) : ∃ (a : Option Addr) (cap : Nat) (its : List ByteArray), v = .slice a its.length cap ∧ its.length ≤ 8796093022208 ∧ (∀ it ∈ its, it.size ≤ 140737488351232) ∧ TR W a its := by
  rcases DataW.trod_slice Tryz.underlying50 hf with ⟨hcs, _⟩ | ⟨y, l, c, elems, rest, n, _, hcs, hx, _, hl, hm, he, hel, hsp, _⟩
  · exact ⟨none, 0, [], (List.cons.inj hcs).1, by decide, by intro it h; simp at h, .inl rfl⟩
  · have hv := (List.cons.inj hcs).1
    have hd : x.1 = .slice (elems.map (·.1)) (rest.map (·.1)) := by rw [hx]
    have hw : ∀ n ∈ (DataW.slice (elems.map (·.1)) (rest.map (·.1)) : DataW H).weights Tryz.prog 50, n ≤ reachBytes := by rw [← hd]; exact hsz
    simp only [DataW.weights, Tryz.underlying50] at hw
    have hr := hw _ List.mem_cons_self
    rw [show Tryz.prog.bytesOf 9 = 16 by kernel_rfl] at hr
    have hrl := (hsp rfl).1
    simp only [List.length_map, reachBytes] at hr
    rw [show Tryz.prog.cellsOf 9 = 1 by kernel_rfl] at hel
    obtain ⟨its, i1, i2⟩ := ak_each (Q := fun i (it : ByteArray) => W.cell? (y.add i) = some (.string it) ∧ it.size ≤ 140737488351232) l (fun i hi => by
      have h1 := hel i hi
      have h2 : elems[i]? = some elems[i] := List.getElem?_eq_getElem (by omega)
      rw [h2, Nat.mul_one] at h1
      obtain ⟨cs, h3, h4⟩ := Option.bind_eq_some_iff.1 h1
      obtain ⟨s, rfl, q1, _⟩ := DataW.trod_string Tryz.underlying9 h4
      have hs : s.data.toList.length ≤ reachBytes := by
        refine hw _ (List.mem_cons_of_mem _ (List.mem_append_left _ (ak_mem (List.mem_map.2 ⟨elems[i], List.getElem_mem _, rfl⟩) _ ?_)))
        rw [q1]
        simp [DataW.weights]
      rw [Array.length_toList] at hs
      exact ⟨s, cell_of_cells?_one h3, Nat.le_trans (show s.size ≤ reachBytes from hs) (by decide)⟩)
    refine ⟨some y, c, its, by rw [hv, i1], by omega, ?_, ?_⟩
    · intro it hit
      obtain ⟨i, hi⟩ := List.getElem?_of_mem hit
      exact (i2 i it hi).2
    · rcases Nat.eq_zero_or_pos its.length with h0 | h0
      · exact .inl (List.eq_nil_of_length_eq_zero h0)
      · obtain ⟨b, off, spot⟩ := y
        have hspot : spot = none := by simpa [Addr.add] using World.cell?_spot (i2 0 _ (List.getElem?_eq_getElem h0)).1
        subst hspot
        refine .inr ⟨b, off, rfl, fun i it hi => ?_⟩
        have := (i2 i it hi).1
        rw [Go.WideShapes.add_plain] at this
        exact this

set_option maxRecDepth 100000 in
theorem open_ak_cells {H : Type} {enc : TypeId × Value → H} {W : World} {fuel : Nat} {a0 a1 a2 a3 a4 a5 a6 : Value} {x : DataW H × List MemPlace} (hf : DataW.trod enc Tryz.prog W 0 (fun _ => true) true fuel 52 [a0, a1, a2, a3, a4, a5, a6] = some x)
    (hsz : ∀ n ∈ x.1.weights Tryz.prog 52, n ≤ reachBytes) : ∃ q : Ak, #[a0, a1, a2, a3, a4, a5, a6] = akv q ∧ AkW W q ∧ AkB (Rows.uptoBulk x.1) q := by
  obtain ⟨xs, n, _, hx, _, hlen, hfs⟩ := DataW.trod_struct Tryz.underlying52 hf
  obtain ⟨y0, y1, y2, y3, y4, y5, y6, rfl⟩ := ak_list hlen
  have cs : Tryz.prog.cellsOf 9 = 1 := by kernel_rfl
  have cu : Tryz.prog.cellsOf 24 = 1 := by kernel_rfl
  have cl : Tryz.prog.cellsOf 50 = 1 := by kernel_rfl
  have ci : Tryz.prog.cellsOf 3 = 1 := by kernel_rfl
  have f0 : DataW.trod enc Tryz.prog W 0 (fun _ => true) true n 9 [a0] = some y0 := by simpa [cs] using hfs 0 _ rfl
  have f1 : DataW.trod enc Tryz.prog W 0 (fun _ => true) true n 9 [a1] = some y1 := by simpa [cs] using hfs 1 _ rfl
  have f2 : DataW.trod enc Tryz.prog W 0 (fun _ => true) true n 9 [a2] = some y2 := by simpa [cs] using hfs 2 _ rfl
  have f3 : DataW.trod enc Tryz.prog W 0 (fun _ => true) true n 24 [a3] = some y3 := by simpa [cu, cs] using hfs 3 _ rfl
  have f4 : DataW.trod enc Tryz.prog W 0 (fun _ => true) true n 24 [a4] = some y4 := by simpa [cu, cs] using hfs 4 _ rfl
  have f5 : DataW.trod enc Tryz.prog W 0 (fun _ => true) true n 50 [a5] = some y5 := by simpa [cl, cs, cu] using hfs 5 _ rfl
  have f6 : DataW.trod enc Tryz.prog W 0 (fun _ => true) true n 3 [a6] = some y6 := by simpa [ci, cl, cs, cu] using hfs 6 _ rfl
  have hd : x.1 = .agg [y0.1, y1.1, y2.1, y3.1, y4.1, y5.1, y6.1] := by rw [hx]; rfl
  have hw : ∀ (j : Nat) (t : TypeId) (e : DataW H), [9, 9, 9, 24, 24, 50, 3][j]? = some t → [y0.1, y1.1, y2.1, y3.1, y4.1, y5.1, y6.1][j]? = some e → ∀ n ∈ e.weights Tryz.prog t, n ≤ reachBytes := by
    intro j t e ht he n hn
    refine hsz n ?_
    rw [hd]
    simp only [DataW.weights, Tryz.underlying52]
    exact DataW.weights_mem_each ht he n hn
  have str : ∀ (j : Nat) (v : Value) (y : DataW H × List MemPlace), [9, 9, 9, 24, 24, 50, 3][j]? = some 9 → [y0.1, y1.1, y2.1, y3.1, y4.1, y5.1, y6.1][j]? = some y.1 → DataW.trod enc Tryz.prog W 0 (fun _ => true) true n 9 [v] = some y → ∃ s : ByteArray, v = .string s ∧ s.size ≤ 140737488351232 ∧ s.size ≤ Rows.uptoBulk y.1 := by
    intro j v y ht he f
    obtain ⟨s, e, q, _⟩ := DataW.trod_string Tryz.underlying9 f
    have hs : s.data.toList.length ≤ reachBytes := by
      refine hw j _ _ ht he _ ?_
      rw [q]
      simp [DataW.weights]
    rw [Array.length_toList] at hs
    refine ⟨s, (List.cons.inj e).1, Nat.le_trans (show s.size ≤ reachBytes from hs) (by decide), ?_⟩
    rw [q, Rows.uptoBulk, Array.length_toList]
    exact Nat.le_succ _
  obtain ⟨S, e0, b0, k0⟩ := str 0 a0 y0 rfl rfl f0
  obtain ⟨T, e1, b1, k1⟩ := str 1 a1 y1 rfl rfl f1
  obtain ⟨V, e2, b2, k2⟩ := str 2 a2 y2 rfl rfl f2
  obtain ⟨M, e3, _, w3⟩ := DataW.trod_int Tryz.underlying24 f3
  obtain ⟨N, e4, _, w4⟩ := DataW.trod_int Tryz.underlying24 f4
  obtain ⟨a, cap, its, e5, l5, s5, r5⟩ := open_texts_cells f5 (hw 5 _ _ rfl rfl)
  obtain ⟨m, e6, _, w6⟩ := DataW.trod_int Tryz.underlying3 f6
  have b3 : 0 ≤ M ∧ M < 18446744073709551616 := by have := bounds_u64 w3; omega
  have b4 : 0 ≤ N ∧ N < 18446744073709551616 := by have := bounds_u64 w4; omega
  have b6 : -9223372036854775808 ≤ m ∧ m ≤ 9223372036854775807 := by have := bounds_i64 w6; omega
  refine ⟨⟨S, T, V, M, N, a, cap, its, m⟩, ?_, ⟨b0, b1, b2, b3, b4, b6, l5, s5, r5⟩, ?_⟩
  rotate_left
  · rw [hd]
    simp only [Rows.uptoBulk, Rows.uptoBulkAll]
    exact ⟨Nat.le_trans k0 (by omega), Nat.le_trans k1 (by omega), Nat.le_trans k2 (by omega)⟩
  rw [e0, e1, e2, (List.cons.inj e3).1, (List.cons.inj e4).1, e5, (List.cons.inj e6).1]
  rfl

/-- An Ask's cells at a place. -/
def KCells (w : World) (b o : Nat) (q : Ak) : Prop := ∀ k v, (akv q)[k]? = some v → w.cell? ⟨b, o + k, none⟩ = some v
/-- A list of Asks that can be read. -/
def LK20 (w : World) (a : Option Addr) (qs : List Ak) : Prop := qs = [] ∨ ∃ b off, a = some ⟨b, off, none⟩ ∧ ∀ i q, qs[i]? = some q → KCells w b (off + i * 7) q

set_option maxRecDepth 100000 in
theorem open_asks20 {H : Type} {enc : TypeId × Value → H} {W : World} {a : Option Addr} {len cap : Nat} {d : DataW H} {p : List MemPlace} (h : DataW.Trod enc Tryz.prog W 0 (fun _ => true) true 47 (.slice a len cap) d p)
    (hsz : ∀ n ∈ d.weights Tryz.prog 47, n ≤ reachBytes) : ∃ qs : List Ak, qs.length = len ∧ LK20 W a qs ∧ (∀ q ∈ qs, AkW W q) ∧ len ≤ 2199023255552 ∧ (∀ q ∈ qs, AkB (Rows.uptoBulk d) q) := by
  obtain ⟨fuel, hf⟩ := h
  rcases DataW.trod_slice Tryz.underlying47 hf with ⟨hcs, _⟩ | ⟨x, l, c, elems, rest, n, _, hcs, hx, _, hl, hm, he, hel, hsp, _⟩
  · simp [Value.cells] at hcs
    obtain ⟨rfl, rfl, rfl⟩ := hcs
    exact ⟨[], rfl, .inl rfl, by intro it h; simp at h, by omega, by intro it h; simp at h⟩
  · simp [Value.cells] at hcs
    obtain ⟨rfl, rfl, rfl⟩ := hcs
    have hd : d = .slice (elems.map (·.1)) (rest.map (·.1)) := (Prod.mk.inj hx).1
    have hw : ∀ n ∈ (DataW.slice (elems.map (·.1)) (rest.map (·.1)) : DataW H).weights Tryz.prog 47, n ≤ reachBytes := by rw [← hd]; exact hsz
    simp only [DataW.weights, Tryz.underlying47] at hw
    have hr := hw _ List.mem_cons_self
    rw [show Tryz.prog.bytesOf 52 = 96 by kernel_rfl] at hr
    have hrl := (hsp rfl).1
    simp only [List.length_map, reachBytes] at hr
    rw [show Tryz.prog.cellsOf 52 = 7 by kernel_rfl] at hel
    obtain ⟨its, i1, i2⟩ := ak_each (Q := fun i (it : Ak) => (∀ k v, (akv it)[k]? = some v → W.cell? ((x.add (i * 7)).add k) = some v) ∧ AkW W it ∧ AkB (Rows.uptoBulk d) it) len (fun i hi => by
      have h1 := hel i hi
      have h2 : elems[i]? = some elems[i] := List.getElem?_eq_getElem (by omega)
      rw [h2] at h1
      obtain ⟨cs, h3, h4⟩ := Option.bind_eq_some_iff.1 h1
      obtain ⟨_, h5, h6⟩ := World.cells?_some h3
      obtain ⟨v0, v1, v2, v3, v4, v5, v6, rfl⟩ := ak_list h5
      obtain ⟨q, e, hA, hK⟩ := open_ak_cells h4 (fun m hm => hw m (List.mem_cons_of_mem _ (List.mem_append_left _ (ak_mem (List.mem_map.2 ⟨elems[i], List.getElem_mem _, rfl⟩) m hm))))
      have hle : Rows.uptoBulk elems[i].1 ≤ Rows.uptoBulk d := by
        rw [hd, Rows.uptoBulk]
        have := bulk_mem20 (show elems[i].1 ∈ elems.map (·.1) from List.mem_map.2 ⟨elems[i], List.getElem_mem _, rfl⟩)
        omega
      refine ⟨q, fun k v hk => ?_, hA, Nat.le_trans hK.1 hle, Nat.le_trans hK.2.1 hle, Nat.le_trans hK.2.2 hle⟩
      rw [← e] at hk
      have hk7 : k < 7 := by
        have := (Array.getElem?_eq_some_iff.1 hk).1
        simpa using this
      have hk' : [v0, v1, v2, v3, v4, v5, v6][k]? = some v := by simpa using hk
      have e6 := h6 k (by simpa using hk7)
      rw [e6]
      exact hk')
    refine ⟨its, i1, ?_, ?_, by omega, ?_⟩
    · rcases Nat.eq_zero_or_pos its.length with h0 | h0
      · exact .inl (List.eq_nil_of_length_eq_zero h0)
      · obtain ⟨b, off, spot⟩ := x
        have hspot : spot = none := by simpa [Addr.add] using World.cell?_spot ((i2 0 _ (List.getElem?_eq_getElem h0)).1 0 _ rfl)
        subst hspot
        refine .inr ⟨b, off, rfl, fun i it hi k v hk => ?_⟩
        have q := (i2 i it hi).1 k v hk
        simp only [Go.WideShapes.add_plain] at q
        exact q
    · intro it hit
      obtain ⟨i, hi⟩ := List.getElem?_of_mem hit
      exact (i2 i it hi).2.1
    · intro it hit
      obtain ⟨i, hi⟩ := List.getElem?_of_mem hit
      exact (i2 i it hi).2.2
theorem KCells.flat {w : World} {b o : Nat} {q : Ak} (h : KCells w b o q) : w.cell? ⟨b, o, none⟩ = some (.string q.S) ∧ w.cell? ⟨b, o + 1, none⟩ = some (.string q.T) ∧ w.cell? ⟨b, o + 2, none⟩ = some (.string q.V) ∧ w.cell? ⟨b, o + 3, none⟩ = some (.int .u64 q.M) ∧ w.cell? ⟨b, o + 4, none⟩ = some (.int .u64 q.N) ∧ w.cell? ⟨b, o + 5, none⟩ = some (.slice q.a q.xs.length q.cap) ∧ w.cell? ⟨b, o + 6, none⟩ = some (.int .i64 q.most) :=
  ⟨h 0 _ rfl, h 1 _ rfl, h 2 _ rfl, h 3 _ rfl, h 4 _ rfl, h 5 _ rfl, h 6 _ rfl⟩
theorem LK20.below {w w' : World} {a : Option Addr} {qs : List Ak} (h : LK20 w a qs) (k : Below w.heap.size w w') : LK20 w' a qs := by
  rcases h with h | ⟨b, off, e, h⟩
  · exact .inl h
  · refine .inr ⟨b, off, e, fun i q hi j v hj => ?_⟩
    have c := h i q hi j v hj
    rw [k.cell (cell_lt c)]
    exact c
def Ak.no : Ak := ⟨⟨#[]⟩, ⟨#[]⟩, ⟨#[]⟩, 0, 0, none, 0, [], 0⟩
theorem LK20.at {w : World} {a : Option Addr} {qs : List Ak} (h : LK20 w a qs) (i : Nat) (hi : i < qs.length) : ∃ b off, a = some ⟨b, off, none⟩ ∧ KCells w b (off + i * 7) (qs.getD i Ak.no) := by
  rcases h with rfl | ⟨b, off, rfl, h⟩
  · cases hi
  · exact ⟨b, off, rfl, h i _ (by simp [List.getD, List.getElem?_eq_getElem hi])⟩
theorem ak_getD {qs : List Ak} {i : Nat} (h : i < qs.length) : qs.getD i Ak.no ∈ qs := by
  rw [List.getD_eq_getElem?_getD, List.getElem?_eq_getElem h]; exact List.getElem_mem h
theorem ak_getD_size {xs : List ByteArray} (h : ∀ x ∈ xs, x.size ≤ 140737488351232) (i : Nat) : (xs.getD i ByteArray.empty).size ≤ 140737488355328 := by
  by_cases hi : i < xs.length
  · have := h _ (show xs.getD i ByteArray.empty ∈ xs by rw [List.getD_eq_getElem?_getD, List.getElem?_eq_getElem hi]; exact List.getElem_mem hi)
    omega
  · rw [show xs.getD i ByteArray.empty = ByteArray.empty by simp [List.getD, List.getElem?_eq_none (show xs.length ≤ i by omega)]]
    exact Nat.zero_le _
end Go.Proofs.YtdemopkdcnaibaaGreatDoor

namespace Go.Proofs.YtdemopkdcnaibaaGreatDoor
open Go Go.RowKit Go.Deep

namespace Ie
theorem un_4 : un 4616189618054758400 = 4503599627370496 * 2 ^ 1024 := un_lit (by decide) (by decide)
theorem iw_4 : Iw 4 4616189618054758400 := .inl ⟨by omega, by decide, by decide, by
  rw [un_4, show 1074 = 50 + 1024 by rfl, Nm.two_add, show (4503599627370496 : Int) = 4 * 2 ^ 50 by decide, Int.mul_assoc]⟩
theorem iw_2 : Iw 2 4611686018427387904 := .inl ⟨by omega, by decide, by decide, by
  rw [un_2, show 1074 = 51 + 1023 by rfl, Nm.two_add, show (4503599627370496 : Int) = 2 * 2 ^ 51 by decide, Int.mul_assoc]⟩
end Ie
namespace Ch
theorem hello4 : ct ⟨#[104, 101, 108, 108, 111]⟩ (max 1 4) (((⟨#[104, 101, 108, 108, 111]⟩ : ByteArray).size : Int) + 1) = ⟨#[108, 111]⟩ := by decide +kernel
theorem hello2 : ct ⟨#[104, 101, 108, 108, 111]⟩ (max 1 2) (min (2 + 3) (((⟨#[104, 101, 108, 108, 111]⟩ : ByteArray).size : Int) + 1)) = ⟨#[101, 108, 108]⟩ := by decide +kernel
end Ch

set_option maxRecDepth 100000 in
set_option maxHeartbeats 4000000 in
theorem substrs_law (a : Option Addr) (cap : Nat) (qs : List Ak) (w : World) (hT : Tab w) (hq : LK20 w a qs) (hz : ∀ q ∈ qs, AkB 1048576 q) (hu : ∀ q ∈ qs, AkW w q) (hn : qs.length ≤ 2199023255552) :
    Calls Tryz.prog 7 #[.slice a qs.length cap] w fun e w' => e = .returned (.bool true) ∧ Below w.heap.size w w' := by
  have TB : Hid (∀ wx, Below w.heap.size w wx → Tab wx) := fun wx b => hT.below b
  have F0 : Hid (Calls Tryz.prog 19 #[.string ⟨#[104, 101, 108, 108, 111]⟩, .int .u64 4616189618054758400] w fun e w' => e = .returned (.string ⟨#[108, 111]⟩) ∧ Below w.heap.size w w') := by
    have h := cfrom_any ⟨#[104, 101, 108, 108, 111]⟩ 4616189618054758400 4616189618054758400 w hT (by omega) (by omega) (Ie.iw_4.wis _) (by omega) (by omega) (by decide)
    rw [Ch.pcs_rest Ie.iw_4 (by decide), Ch.hello4] at h
    exact h
  have S0 : Hid (∀ wx, Below w.heap.size w wx → Calls Tryz.prog 20 #[.string ⟨#[104, 101, 108, 108, 111]⟩, .int .u64 4611686018427387904, .int .u64 4613937818241073152] wx fun e w' => e = .returned (.string ⟨#[101, 108, 108]⟩) ∧ Below wx.heap.size wx w') := fun wx b => by
    obtain ⟨G, hG⟩ := Ie.iw_ex (m := 2 + 3) (by omega) (by omega)
    obtain ⟨g0, g1, -⟩ := hG.parts
    have h := csubstr_any ⟨#[104, 101, 108, 108, 111]⟩ 4611686018427387904 4611686018427387904 4613937818241073152 4613937818241073152 G wx (TB.out wx b) (by omega) (by omega) (Ie.iw_2.wis _) (by omega) (by omega) (by omega) (by omega) (Ie.iw_3.wis _) (by omega) (by omega) (Ie.iw_2.sum Ie.iw_3 hG) g0 g1 (by decide)
    rw [Ch.pcs_two Ie.iw_2 hG, Ch.hello2] at h
    exact h
  have HQ := hid hq
  have HZ := hid hz
  have HU := hid hu
  have HN := hid hn
  clear hq hz hn hT hu
  go_enter Tryz.func7, Tryz.ntmps7
  go_wp2_with fail
  refine F0.out.mono ?_
  rintro e w1 ⟨rfl, hb⟩
  have B1 := hid hb
  clear hb F0
  go_wp2_with fail
  refine (S0.out w1 B1.out).mono ?_
  rintro e w2 ⟨rfl, hb⟩
  have B2 := hid (below_on B1.out hb)
  clear hb S0 B1
  go_wp2_with fail
  go_loopg [3] qs.length (fun m iv wr => ∃ k : Nat, k + m = qs.length ∧ iv = .int .i64 (k : Int) ∧ Hid (Below w.heap.size w wr))
  case atStart => exact ⟨0, by omega, rfl, B2.out⟩
  case round =>
    obtain ⟨k, hk, rfl, J⟩ := hrel
    clear B2
    by_cases kl : k < qs.length
    · have kli : (k : Int) < (qs.length : Int) := by omega
      have kb : (k : Int) ≤ 2199023255552 := by have := HN.out; omega
      obtain ⟨b, off, rfl, hc⟩ := (HQ.out.below J.out).at k kl
      obtain ⟨d0, d1, d2, d3, d4, d5, d6⟩ := hc.flat
      obtain ⟨z0, z1, -⟩ := HZ.out _ (ak_getD kl)
      obtain ⟨-, -, -, ⟨M0, M1⟩, ⟨N0, N1⟩, -⟩ := HU.out _ (ak_getD kl)
      clear hc
      generalize (qs.getD k Ak.no).S = s at *
      generalize (qs.getD k Ak.no).T = T at *
      generalize (qs.getD k Ak.no).V = V at *
      generalize (qs.getD k Ak.no).M = M at *
      generalize (qs.getD k Ak.no).N = N at *
      generalize (qs.getD k Ak.no).a = la at *
      generalize (qs.getD k Ak.no).xs.length = ln at *
      generalize (qs.getD k Ak.no).cap = lc at *
      generalize (qs.getD k Ak.no).most = mo at *
      have A1 := alloc_b wr (.cells #[.string s, .string T, .string V, .int .u64 M, .int .u64 N, .slice la ln lc, .int .i64 mo] 52)
      have BW := below_on J.out A1
      have HB := heap_alloc_new wr (.cells #[.string s, .string T, .string V, .int .u64 M, .int .u64 N, .slice la ln lc, .int .i64 mo] 52)
      have CS : Hid (∀ wx, Below (wr.alloc (.cells #[.string s, .string T, .string V, .int .u64 M, .int .u64 N, .slice la ln lc, .int .i64 mo] 52)).heap.size (wr.alloc (.cells #[.string s, .string T, .string V, .int .u64 M, .int .u64 N, .slice la ln lc, .int .i64 mo] 52)) wx → wx.cell? ⟨wr.heap.size, 0, none⟩ = some (.string s) ∧ wx.cell? ⟨wr.heap.size, 3, none⟩ = some (.int .u64 M) ∧ wx.cell? ⟨wr.heap.size, 4, none⟩ = some (.int .u64 N)) := fun wx bx => by
        have hlt : wr.heap.size < (wr.alloc (.cells #[.string s, .string T, .string V, .int .u64 M, .int .u64 N, .slice la ln lc, .int .i64 mo] 52)).heap.size := by rw [World.size_alloc]; omega
        refine ⟨?_, ?_, ?_⟩
        · rw [bx.cell hlt, cell_of_row _ _ _ _ _ _ HB]; rfl
        · rw [bx.cell hlt, cell_of_row _ _ _ _ _ _ HB]; rfl
        · rw [bx.cell hlt, cell_of_row _ _ _ _ _ _ HB]; rfl
      have BA := hid BW
      clear BW A1 HB
      go_upto_region 7 with fail
      clear d0 d1 d2 d3 d4 d5 d6
      generalize wr.alloc (.cells #[.string s, .string T, .string V, .int .u64 M, .int .u64 N, .slice la ln lc, .int .i64 mo] 52) = wA at *
      generalize wr.heap.size = bx at *
      have SS0 := hid (Below.refl wA.heap.size wA)
      have SSD : Hid (Below wA.heap.size wA wA.drew) := ⟨rfl, rfl, rfl, Nat.le_refl _, fun _ _ => rfl⟩
      have TA : Hid (∀ wx, Below wA.heap.size wA wx → Tab wx) := fun wx b2 => TB.out _ (below_on BA.out b2)
      obtain ⟨x, hx⟩ := Ie.wis_ex M (Ie.nrup (Ie.un (Ie.ab M))) M0 M1
      obtain ⟨y, hy⟩ := Ie.wis_ex N (Ie.nrup (Ie.un (Ie.ab N))) N0 N1
      obtain ⟨r, hr⟩ := Ie.adr_ex x y
      have xb := Ie.wis_bd M0 M1 hx
      have yb := Ie.wis_bd N0 N1 hy
      have rb := Ie.adr_bd xb yb hr
      have P1 := hid (fun wx (bb : Below wA.heap.size wA wx) => csubstr_any s M x N y r wx (TA.out _ bb) M0 M1 hx xb.1 xb.2 N0 N1 hy yb.1 yb.2 hr rb.1 rb.2 (by omega))
      have P2 := hid (fun wx (_ : Below wA.heap.size wA wx) => rsubstr20_any s M x N y r wx M0 M1 hx xb.1 xb.2 N0 N1 hy yb.1 yb.2 hr rb.1 rb.2 (by omega))
      have P3 := hid (fun wx (bb : Below wA.heap.size wA wx) => cfrom_any s M x wx (TA.out _ bb) M0 M1 hx xb.1 xb.2 (by omega))
      have P4 := hid (fun wx (_ : Below wA.heap.size wA wx) => rfrom20_any s M x wx M0 M1 hx xb.1 xb.2 (by omega))
      rw [Ch.rsb_pcs (by omega) (Ie.adr_nan hr)] at P1
      rw [Ch.rfr_pcs (by omega)] at P3
      generalize Ch.rsb s x r = t1 at *
      generalize Ch.rfr s x = t2 at *
      obtain ⟨r0, r1, r2⟩ := CS.out _ SS0.out
      clear z0 z1 J hx hy hr xb yb rb M0 M1 N0 N1 TA
      go_region_held3 (fun w' => w'.cell? ⟨bx, 0, none⟩ = some (.string s) ∧ w'.cell? ⟨bx, 3, none⟩ = some (.int .u64 M) ∧ w'.cell? ⟨bx, 4, none⟩ = some (.int .u64 N)) (first | (with_reducible exact CS.out _ U4.out) | (with_reducible exact CS.out _ U3.out) | (with_reducible exact CS.out _ U2.out) | (with_reducible exact CS.out _ U1.out) | (with_reducible exact CS.out _ SSD.out)) (first
        | (go_at_call 20; (with_reducible refine (P1.out _ SSD.out).mono ?_); rintro e v1 ⟨rfl, hB⟩; have U1 := hid (below_on SSD.out hB); clear hB)
        | (go_at_call 21; (with_reducible refine (P2.out _ U1.out).mono ?_); rintro e v2 ⟨rfl, hB⟩; have U2 := hid (below_on U1.out hB); clear hB)
        | (go_at_call 19; (with_reducible refine (P3.out _ U2.out).mono ?_); rintro e v3 ⟨rfl, hB⟩; have U3 := hid (below_on U2.out hB); clear hB)
        | (go_at_call 22; (with_reducible refine (P4.out _ U3.out).mono ?_); rintro e v4 ⟨rfl, hB⟩; have U4 := hid (below_on U3.out hB); clear hB))
      all_goals
        have FB := hid (below_on BA.out U4.out)
        go_wp2_with fail
        go_roundg (qs.length - (k + 1))
        case measure => omega
        case rel => exact ⟨k + 1, by omega, by go_num, FB⟩
    · have kli : ¬ (k : Int) < (qs.length : Int) := by omega
      go_wp2_with fail
      go_ret
      exact ⟨rfl, J.out⟩
theorem substrs_len (a : Option Addr) (len cap : Nat) (qs : List Ak) (w : World) (n : Nat) (hT : Tab w) (e : qs.length = len) (hq : LK20 w a qs) (hz : ∀ q ∈ qs, AkB n q) (hu : ∀ q ∈ qs, AkW w q) (hb : n ≤ 1048576) (hn : len ≤ 2199023255552) :
    Calls Tryz.prog 7 #[.slice a len cap] w fun e w' => e = .returned (.bool true) ∧ Below w.heap.size w w' := by
  subst e
  exact substrs_law a cap qs w hT hq (fun q h => ⟨Nat.le_trans (hz q h).1 hb, Nat.le_trans (hz q h).2.1 hb, Nat.le_trans (hz q h).2.2 hb⟩) hu hn
end Go.Proofs.YtdemopkdcnaibaaGreatDoor

namespace Go.Proofs.YtdemopkdcnaibaaGreatDoor
open Go Go.RowKit Go.Deep

theorem tab_laid : (Rows.laid_math_bits_deBruijn64tab : DataW Unit) = Lib.tabData .u8 (List.map Int.ofNat Lib.deBruijn64tab) := by kernel_rfl

theorem tab_of {W : World} {rest : List (String × DataW Unit)} (h : laidMet Tryz.prog (("math/bits.deBruijn64tab", Rows.laid_math_bits_deBruijn64tab) :: rest) W) : Tab W := by
  rw [tab_laid] at h
  have ht := Lib.tabIs_of_head (g := 0) (t := 141) (e := 5) (n := 64) (k := .u8) (zs := List.map Int.ofNat Lib.deBruijn64tab) (by kernel_rfl) (by kernel_rfl) Tryz.underlying141 Tryz.underlying5 (by kernel_rfl) (by kernel_rfl) h
  intro j hj
  have hl : (List.map Int.ofNat Lib.deBruijn64tab).length = Lib.deBruijn64tab.length := by simp
  rw [ht.cell (g := 0) (by kernel_rfl) j (by omega)]
  simp [List.getD, hj]

end Go.Proofs.YtdemopkdcnaibaaGreatDoor

namespace Go.Proofs.YtdemopkdcnaibaaGreatDoor

theorem bulk_pos {H : Type} (d : DataW H) : 1 ≤ Rows.uptoBulk d := by
  rcases d with l | _ | _ | _ | _ | _ | _ | _
  · cases l <;> simp [Rows.uptoBulk]
  all_goals simp [Rows.uptoBulk]

theorem bulk_all {H : Type} : ∀ l : List (DataW H), l.length ≤ Rows.uptoBulkAll l
  | [] => Nat.zero_le _
  | d :: r => by
    have h1 := bulk_pos d
    have h2 := bulk_all r
    simp only [Rows.uptoBulkAll, List.length_cons]
    omega

theorem bulk_slice {H : Type} (es sp : List (DataW H)) : es.length ≤ Rows.uptoBulk (.slice es sp) := by
  have := bulk_all es
  simp only [Rows.uptoBulk]
  omega
end Go.Proofs.YtdemopkdcnaibaaGreatDoor
