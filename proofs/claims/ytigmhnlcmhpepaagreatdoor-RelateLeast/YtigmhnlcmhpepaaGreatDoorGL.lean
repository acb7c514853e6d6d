/-
  Texts put together: GBulk, OpenValR, OpenOps18.
-/
import Derived.Test.YtigmhnlcmhpepaaGreatDoorRows
import Derived.Test.YtigmhnlcmhpepaaGreatDoorReU
import Derived.SizedLaws
import Derived.ProofKit
import Derived.Test.YtigmhnlcmhpepaaGreatDoorGM
namespace Go.Proofs.YtigmhnlcmhpepaaGreatDoor

theorem bulk_pos {H : Type} (d : DataW H) : 1 ≤ Rows.uptoBulk d := by
  rcases d with l | _ | _ | _ | _ | _ | _ | _
  · cases l <;> simp [Rows.uptoBulk]
  all_goals simp [Rows.uptoBulk]

theorem bulk_all {H : Type} : ∀ l : List (DataW H), l.length ≤ Rows.uptoBulkAll l
  | [] => Nat.zero_le _
  | d :: r => by
    have h1 := bulk_pos d
    have h2 := bulk_all r
    simp only [Rows.uptoBulkAll, List.length_cons]
    omega

theorem bulk_slice {H : Type} (es sp : List (DataW H)) : es.length ≤ Rows.uptoBulk (.slice es sp) := by
  have := bulk_all es
  simp only [Rows.uptoBulk]
  omega
end Go.Proofs.YtigmhnlcmhpepaaGreatDoor

namespace Go.Proofs.YtigmhnlcmhpepaaGreatDoor
open Go Go.RowKit Go.Deep Go.ChangeShapes Go.WideShapes Go.ChangeAt

namespace Va
structure Vl where
  k : Int
  n : Int
  s : List Int
end Va
def VlW (a : Va.Vl) : Prop := (∀ x ∈ a.s, 0 ≤ x ∧ x < 256) ∧ (0 ≤ a.n ∧ a.n < 18446744073709551616) ∧ a.s.length ≤ 140737488351232
def VCells (w : World) (b o : Nat) (a : Va.Vl) : Prop := w.cell? ⟨b, o, none⟩ = some (.int .i64 a.k) ∧ w.cell? ⟨b, o + 1, none⟩ = some (.int .u64 a.n) ∧ w.cell? ⟨b, o + 2, none⟩ = some (.string (strOfNums a.s))
def LV (w : World) (p : Option Addr) (A : List Va.Vl) : Prop := A = [] ∨ ∃ b off, p = some ⟨b, off, none⟩ ∧ ∀ i a, A[i]? = some a → VCells w b (off + i * 3) a
theorem vcell_below {B : Nat} {w w' : World} {a : Addr} {v : Value} (h : w.cell? a = some v) (k : Below B w w') (hb : a.block < B) : w'.cell? a = some v := by
  rw [← h]; exact k.cell hb
theorem VCells.below {w w' : World} {b o : Nat} {a : Va.Vl} (h : VCells w b o a) (k : Below w.heap.size w w') : VCells w' b o a := by
  obtain ⟨c0, c1, c2⟩ := h
  exact ⟨vcell_below c0 k (cell_lt c0), vcell_below c1 k (cell_lt c1), vcell_below c2 k (cell_lt c2)⟩
theorem LV.below {w w' : World} {p : Option Addr} {A : List Va.Vl} (h : LV w p A) (k : Below w.heap.size w w') : LV w' p A := by
  rcases h with h | ⟨b, off, e, h⟩
  · exact .inl h
  · exact .inr ⟨b, off, e, fun i a hi => (h i a hi).below k⟩

theorem vbulk_mem {H : Type} : ∀ {l : List (DataW H)} {d : DataW H}, d ∈ l → Rows.uptoBulk d ≤ Rows.uptoBulkAll l
  | [], _, h => by simp at h
  | x :: r, d, h => by
    simp only [Rows.uptoBulkAll]
    rcases List.mem_cons.1 h with rfl | h
    · omega
    · have := vbulk_mem h
      omega

theorem vall_mem {H : Type} {P : Program} {e : TypeId} : ∀ {l : List (DataW H)} {d : DataW H}, d ∈ l → ∀ n ∈ d.weights P e, n ∈ DataW.weightsAll P e l
  | [], _, h, _, _ => by simp at h
  | x :: r, d, h, n, hn => by
    simp only [DataW.weightsAll, List.mem_append]
    rcases List.mem_cons.1 h with rfl | h
    · exact .inl hn
    · exact .inr (vall_mem h n hn)

/-- What can be told of each place can be told of a list. -/
theorem vlist_of_each {α : Type} {Q : Nat → α → Prop} : ∀ n, (∀ i, i < n → ∃ x, Q i x) → ∃ l : List α, l.length = n ∧ ∀ i x, l[i]? = some x → Q i x
  | 0, _ => ⟨[], rfl, by simp⟩
  | n + 1, h => by
    obtain ⟨l, h1, h2⟩ := vlist_of_each n (fun i hi => h i (by omega))
    obtain ⟨x, hx⟩ := h n (by omega)
    refine ⟨l ++ [x], by simp [h1], fun i y hy => ?_⟩
    by_cases hi : i < l.length
    · rw [List.getElem?_append_left hi] at hy
      exact h2 i y hy
    · have hlt := (List.getElem?_eq_some_iff.1 hy).1
      simp only [List.length_append, List.length_cons, List.length_nil] at hlt
      obtain rfl : i = n := by omega
      rw [List.getElem?_append_right (by omega), h1, Nat.sub_self] at hy
      simp at hy
      subst hy
      exact hx

theorem vlist3 {α : Type} {l : List α} (h : l.length = 3) : ∃ c0 c1 c2, l = [c0, c1, c2] := by
  match l, h with
  | [c0, c1, c2], _ => exact ⟨c0, c1, c2, rfl⟩

theorem open_val_cells {H : Type} {enc : TypeId × Value → H} {W : World} {fuel : Nat} {a0 a1 a2 : Value} {x : DataW H × List MemPlace} (hf : DataW.trod enc Tryz.prog W 0 (fun _ => true) true fuel 24 [a0, a1, a2] = some x)
    (hsz : ∀ n ∈ x.1.weights Tryz.prog 24, n ≤ reachBytes) :
    ∃ q : Va.Vl, (a0 = .int .i64 q.k ∧ a1 = .int .u64 q.n ∧ a2 = .string (strOfNums q.s)) ∧ VlW q ∧ q.s.length ≤ Rows.uptoBulk x.1 := by
  obtain ⟨xs, n, _, hx, _, hlen, hfs⟩ := DataW.trod_struct Tryz.underlying24 hf
  obtain ⟨y0, y1, y2, rfl⟩ := vlist3 hlen
  have c4 : Tryz.prog.cellsOf 3 = 1 := by kernel_rfl
  have c6 : Tryz.prog.cellsOf 22 = 1 := by kernel_rfl
  have cs : Tryz.prog.cellsOf 9 = 1 := by kernel_rfl
  have f0 : DataW.trod enc Tryz.prog W 0 (fun _ => true) true n 3 [a0] = some y0 := by simpa [c4] using hfs 0 _ rfl
  have f1 : DataW.trod enc Tryz.prog W 0 (fun _ => true) true n 22 [a1] = some y1 := by simpa [c6] using hfs 1 _ rfl
  have f2 : DataW.trod enc Tryz.prog W 0 (fun _ => true) true n 9 [a2] = some y2 := by simpa [cs] using hfs 2 _ rfl
  have hd : x.1 = .agg [y0.1, y1.1, y2.1] := by rw [hx]; rfl
  obtain ⟨bx, e0, _, w0⟩ := DataW.trod_int Tryz.underlying3 f0
  obtain ⟨v, e1, _, w1⟩ := DataW.trod_int Tryz.underlying22 f1
  obtain ⟨s, e2, q2, _⟩ := DataW.trod_string Tryz.underlying9 f2
  have hs : s.data.toList.length ≤ reachBytes := by
    refine hsz _ ?_
    rw [hd]
    simp only [DataW.weights, Tryz.underlying24]
    refine DataW.weights_mem_each (ts := [3, 22, 9]) (ds := [y0.1, y1.1, y2.1]) (j := 2) (t := 9) (d := y2.1) rfl rfl _ ?_
    rw [q2]
    simp [DataW.weights]
  have hb : s.data.toList.length ≤ Rows.uptoBulk x.1 := by
    rw [hd, q2]
    simp only [Rows.uptoBulk, Rows.uptoBulkAll]
    simp
    omega
  have b1 := bounds_u64 w1
  refine ⟨⟨bx, v, s.data.toList.map (fun b => (b.toNat : Int))⟩, ⟨(List.cons.inj e0).1, (List.cons.inj e1).1, ?_⟩, ⟨fun x hx => (Str.self s).mem hx, ⟨b1.1, Int.lt_of_le_of_lt b1.2 (by decide)⟩, ?_⟩, ?_⟩
  · rw [(List.cons.inj e2).1, ← str_of (Str.self s)]
  · rw [List.length_map]; exact Nat.le_trans hs (by decide)
  · rw [List.length_map]; exact hb

theorem varray3 {α : Type} {cs : Array α} (h : cs.size = 3) : ∃ c0 c1 c2, cs = #[c0, c1, c2] := by
  obtain ⟨l⟩ := cs
  match l, h with
  | [c0, c1, c2], _ => exact ⟨c0, c1, c2, rfl⟩

set_option maxRecDepth 100000 in
theorem open_val {H : Type} {enc : TypeId × Value → H} {W : World} {base : Nat} {v : Value} {d : DataW H} {p : List MemPlace} (hv : Value.okWide Tryz.prog W .any base 24 v) (h : DataW.Trod enc Tryz.prog W 0 (fun _ => true) true 24 v d p)
    (hsz : ∀ n ∈ d.weights Tryz.prog 24, n ≤ reachBytes) :
    ∃ q : Va.Vl, v = .agg #[.int .i64 q.k, .int .u64 q.n, .string (strOfNums q.s)] ∧ VlW q ∧ q.s.length ≤ Rows.uptoBulk d := by
  obtain ⟨cs, rfl, hs7⟩ := okWide_struct Tryz.underlying24 hv
  obtain ⟨a0, a1, a2, rfl⟩ := varray3 (hs7.trans (show Tryz.prog.cellsOf 24 = 3 by kernel_rfl))
  obtain ⟨fuel, hf⟩ := h
  have hf' : DataW.trod enc Tryz.prog W 0 (fun _ => true) true fuel 24 [a0, a1, a2] = some (d, p) := by simpa [Value.cells] using hf
  obtain ⟨q, ⟨e0, e1, e2⟩, h1, h3⟩ := open_val_cells (x := (d, p)) hf' hsz
  rw [e0, e1, e2]
  exact ⟨q, rfl, h1, h3⟩

set_option maxRecDepth 100000 in
theorem open_vals {H : Type} {enc : TypeId × Value → H} {W : World} {a : Option Addr} {len cap : Nat} {d : DataW H} {p : List MemPlace} (h : DataW.Trod enc Tryz.prog W 0 (fun _ => true) true 38 (.slice a len cap) d p)
    (hsz : ∀ n ∈ d.weights Tryz.prog 38, n ≤ reachBytes) : ∃ ps : List Va.Vl, ps.length = len ∧ LV W a ps ∧ (∀ q ∈ ps, VlW q) ∧ (∀ q ∈ ps, q.s.length ≤ Rows.uptoBulk d) ∧ len ≤ cap ∧ len ≤ 4398046511104 ∧ len ≤ Rows.uptoBulk d ∧ (a = none → cap = 0) ∧ cap ≤ 4398046511104 := by
  obtain ⟨fuel, hf⟩ := h
  rcases DataW.trod_slice Tryz.underlying38 hf with ⟨hcs, _⟩ | ⟨x, l, c, elems, rest, n, _, hcs, hx, _, hl, hm, he, hel, hsp, _⟩
  · simp [Value.cells] at hcs
    obtain ⟨rfl, rfl, rfl⟩ := hcs
    exact ⟨[], rfl, .inl rfl, by intro it h; simp at h, by intro it h; simp at h, by omega, by omega, by omega, fun _ => rfl, by omega⟩
  · simp [Value.cells] at hcs
    obtain ⟨rfl, rfl, rfl⟩ := hcs
    have hd : d = .slice (elems.map (·.1)) (rest.map (·.1)) := (Prod.mk.inj hx).1
    have hw : ∀ n ∈ (DataW.slice (elems.map (·.1)) (rest.map (·.1)) : DataW H).weights Tryz.prog 38, n ≤ reachBytes := by rw [← hd]; exact hsz
    simp only [DataW.weights, Tryz.underlying38] at hw
    have hr := hw _ List.mem_cons_self
    rw [show Tryz.prog.bytesOf 24 = 32 by kernel_rfl] at hr
    have hrl := (hsp rfl).1
    simp only [List.length_map, reachBytes] at hr
    have hbl : len ≤ Rows.uptoBulk d := by
      rw [hd]
      refine Nat.le_trans ?_ (bulk_slice _ _)
      rw [List.length_map]; omega
    rw [show Tryz.prog.cellsOf 24 = 3 by kernel_rfl] at hel
    obtain ⟨its, i1, i2⟩ := vlist_of_each (Q := fun i (it : Va.Vl) => (W.cell? (x.add (i * 3)) = some (.int .i64 it.k) ∧ W.cell? ((x.add (i * 3)).add 1) = some (.int .u64 it.n) ∧ W.cell? ((x.add (i * 3)).add 2) = some (.string (strOfNums it.s))) ∧ VlW it ∧ it.s.length ≤ Rows.uptoBulk d) len (fun i hi => by
      have h1 := hel i hi
      have h2 : elems[i]? = some elems[i] := List.getElem?_eq_getElem (by omega)
      rw [h2] at h1
      obtain ⟨cs, h3, h4⟩ := Option.bind_eq_some_iff.1 h1
      obtain ⟨_, h5, h6⟩ := World.cells?_some h3
      obtain ⟨v0, v1, v2, rfl⟩ := vlist3 h5
      have e0 := h6 0 (by omega)
      have e1 := h6 1 (by omega)
      have e2 := h6 2 (by omega)
      have h8 : (x.add (i * 3)).add 0 = x.add (i * 3) := by simp [Addr.add]
      rw [h8] at e0
      obtain ⟨q, ⟨q0, q1, q2⟩, hA, hC⟩ := open_val_cells h4 (fun m hm => hw m (List.mem_cons_of_mem _ (List.mem_append_left _ (vall_mem (List.mem_map.2 ⟨elems[i], List.getElem_mem _, rfl⟩) m hm))))
      subst q0 q1 q2
      refine ⟨q, ⟨e0, e1, e2⟩, hA, Nat.le_trans hC ?_⟩
      have := vbulk_mem (l := elems.map (·.1)) (d := elems[i].1) (List.mem_map.2 ⟨elems[i], List.getElem_mem _, rfl⟩)
      rw [hd]
      simp only [Rows.uptoBulk]
      omega)
    refine ⟨its, i1, ?_, ?_, ?_, by omega, by omega, hbl, fun q => by simp at q, by omega⟩
    · rcases Nat.eq_zero_or_pos its.length with h0 | h0
      · exact .inl (List.eq_nil_of_length_eq_zero h0)
      · obtain ⟨b, off, spot⟩ := x
        have hspot : spot = none := by simpa [Addr.add] using World.cell?_spot (i2 0 _ (List.getElem?_eq_getElem h0)).1.1
        subst hspot
        refine .inr ⟨b, off, rfl, fun i it hi => ?_⟩
        obtain ⟨⟨q0, q1, q2⟩, _⟩ := i2 i it hi
        simp only [Go.WideShapes.add_plain] at q0 q1 q2
        exact ⟨q0, q1, q2⟩
    · intro it hit
      obtain ⟨i, hi⟩ := List.getElem?_of_mem hit
      exact (i2 i it hi).2.1
    · intro it hit
      obtain ⟨i, hi⟩ := List.getElem?_of_mem hit
      exact (i2 i it hi).2.2
def LS (w : World) (a : Option Addr) (its : List ByteArray) : Prop := its = [] ∨ ∃ b off, a = some ⟨b, off, none⟩ ∧ ∀ i it, its[i]? = some it → w.cell? ⟨b, off + i, none⟩ = some (.string it)
theorem LS.below {w w' : World} {p : Option Addr} {A : List ByteArray} (h : LS w p A) (k : Below w.heap.size w w') : LS w' p A := by
  rcases h with h | ⟨b, off, e, h⟩
  · exact .inl h
  · exact .inr ⟨b, off, e, fun i a hi => vcell_below (h i a hi) k (cell_lt (h i a hi))⟩

/-- The same in relate's words. -/
theorem lv_re {w : World} {p : Option Addr} {A : List Va.Vl} (h : LV w p A) : Re.LV w p (A.map fun q => ⟨q.k, q.n, strOfNums q.s⟩) := by
  rcases h with rfl | ⟨b, off, e, h⟩
  · exact .inl rfl
  · refine .inr ⟨b, off, e, fun i a hi => ?_⟩
    rw [List.getElem?_map] at hi
    obtain ⟨q, hq, rfl⟩ := Option.map_eq_some_iff.1 hi
    exact h i q hq
end Go.Proofs.YtigmhnlcmhpepaaGreatDoor

namespace Go.Proofs.YtigmhnlcmhpepaaGreatDoor
open Go Go.RowKit Go.Deep Go.ChangeShapes Go.WideShapes Go.ChangeAt

theorem list7o {α : Type} {l : List α} (h : l.length = 7) : ∃ c0 c1 c2 c3 c4 c5 c6, l = [c0, c1, c2, c3, c4, c5, c6] := by
  match l, h with
  | [c0, c1, c2, c3, c4, c5, c6], _ => exact ⟨c0, c1, c2, c3, c4, c5, c6, rfl⟩
theorem list11o {α : Type} {l : List α} (h : l.length = 11) : ∃ c0 c1 c2 c3 c4 c5 c6 c7 c8 c9 c10, l = [c0, c1, c2, c3, c4, c5, c6, c7, c8, c9, c10] := by
  match l, h with
  | [c0, c1, c2, c3, c4, c5, c6, c7, c8, c9, c10], _ => exact ⟨c0, c1, c2, c3, c4, c5, c6, c7, c8, c9, c10, rfl⟩

theorem vl_size {q : Va.Vl} (h : VlW q) : (strOfNums q.s).size ≤ 140737488355328 := by
  rw [(Str.of_nums h.1).size]
  exact Nat.le_trans h.2.2 (by omega)

set_option maxRecDepth 100000 in
theorem open_op18 {H : Type} {enc : TypeId × Value → H} {W : World} {fuel : Nat} {a0 a1 a2 a3 a4 a5 a6 a7 a8 a9 a10 : Value} {y : DataW H × List MemPlace} (hf : DataW.trod enc Tryz.prog W 0 (fun _ => true) true fuel 41 [a0, a1, a2, a3, a4, a5, a6, a7, a8, a9, a10] = some y)
    (hsz : ∀ n ∈ y.1.weights Tryz.prog 41, n ≤ reachBytes) :
    ∃ o : Re.Op, [a0, a1, a2, a3, a4, a5, a6, a7, a8, a9, a10] = [.int .i64 o.kind, .int .i64 o.n, .int .i64 o.a.k, .int .u64 o.a.n, .string o.a.s, .int .i64 o.b.k, .int .u64 o.b.n, .string o.b.s, .string o.c, .slice o.lp o.ll o.lc, .int .i64 o.w] ∧ Re.OpW o := by
  obtain ⟨xs, n, _, hx, _, hlen, hfs⟩ := DataW.trod_struct Tryz.underlying41 hf
  obtain ⟨y0, y1, y2, y3, y4, y5, y6, rfl⟩ := list7o hlen
  have ci : Tryz.prog.cellsOf 3 = 1 := by kernel_rfl
  have cv : Tryz.prog.cellsOf 24 = 3 := by kernel_rfl
  have cs : Tryz.prog.cellsOf 9 = 1 := by kernel_rfl
  have cl : Tryz.prog.cellsOf 38 = 1 := by kernel_rfl
  have f0 : DataW.trod enc Tryz.prog W 0 (fun _ => true) true n 3 [a0] = some y0 := by simpa [ci, cv, cs, cl] using hfs 0 _ rfl
  have f1 : DataW.trod enc Tryz.prog W 0 (fun _ => true) true n 3 [a1] = some y1 := by simpa [ci, cv, cs, cl] using hfs 1 _ rfl
  have f2 : DataW.trod enc Tryz.prog W 0 (fun _ => true) true n 24 [a2, a3, a4] = some y2 := by simpa [ci, cv, cs, cl] using hfs 2 _ rfl
  have f3 : DataW.trod enc Tryz.prog W 0 (fun _ => true) true n 24 [a5, a6, a7] = some y3 := by simpa [ci, cv, cs, cl] using hfs 3 _ rfl
  have f4 : DataW.trod enc Tryz.prog W 0 (fun _ => true) true n 9 [a8] = some y4 := by simpa [ci, cv, cs, cl] using hfs 4 _ rfl
  have f5 : DataW.trod enc Tryz.prog W 0 (fun _ => true) true n 38 [a9] = some y5 := by simpa [ci, cv, cs, cl] using hfs 5 _ rfl
  have f6 : DataW.trod enc Tryz.prog W 0 (fun _ => true) true n 3 [a10] = some y6 := by simpa [ci, cv, cs, cl] using hfs 6 _ rfl
  have hd : y.1 = .agg [y0.1, y1.1, y2.1, y3.1, y4.1, y5.1, y6.1] := by rw [hx]; rfl
  have hm : ∀ (j : Nat) (t : TypeId) (d : DataW H), [3, 3, 24, 24, 9, 38, 3][j]? = some t → [y0.1, y1.1, y2.1, y3.1, y4.1, y5.1, y6.1][j]? = some d → ∀ m ∈ d.weights Tryz.prog t, m ≤ reachBytes := by
    intro j t d h1 h2 m hmem
    refine hsz m ?_
    rw [hd]
    simp only [DataW.weights, Tryz.underlying41]
    exact DataW.weights_mem_each (ts := [3, 3, 24, 24, 9, 38, 3]) (ds := [y0.1, y1.1, y2.1, y3.1, y4.1, y5.1, y6.1]) (j := j) (t := t) (d := d) h1 h2 _ hmem
  obtain ⟨K, e0, _, _⟩ := DataW.trod_int Tryz.underlying3 f0
  obtain ⟨N, e1, _, _⟩ := DataW.trod_int Tryz.underlying3 f1
  obtain ⟨p, ⟨q0, q1, q2⟩, pw, _⟩ := open_val_cells f2 (hm 2 _ _ rfl rfl)
  obtain ⟨r, ⟨r0, r1, r2⟩, rw', _⟩ := open_val_cells f3 (hm 3 _ _ rfl rfl)
  obtain ⟨s, e4, z4, _⟩ := DataW.trod_string Tryz.underlying9 f4
  obtain ⟨V, e6, _, _⟩ := DataW.trod_int Tryz.underlying3 f6
  have hs : s.data.toList.length ≤ reachBytes := hm 4 _ _ rfl rfl _ (by rw [z4]; simp [DataW.weights])
  have hs' : s.size ≤ 140737488355328 := by
    have e : s.size = s.data.toList.length := by simp
    rw [e]
    exact Nat.le_trans hs (by decide)
  have L : ∃ (lp : Option Addr) (ll lc : Nat), a9 = .slice lp ll lc ∧ ll ≤ 4398046511104 := by
    rcases DataW.trod_slice Tryz.underlying38 f5 with ⟨hcs, _⟩ | ⟨x, l, c, elems, rest, m, _, hcs, hx5, _, hl, _, he, _, hsp, _⟩
    · exact ⟨none, 0, 0, (List.cons.inj hcs).1, by omega⟩
    · refine ⟨some x, l, c, (List.cons.inj hcs).1, ?_⟩
      have hw := hm 5 _ _ rfl rfl
      rw [show y5.1 = .slice (elems.map (·.1)) (rest.map (·.1)) by rw [hx5]] at hw
      simp only [DataW.weights, Tryz.underlying38] at hw
      have hr := hw _ List.mem_cons_self
      rw [show Tryz.prog.bytesOf 24 = 32 by kernel_rfl] at hr
      have hrl := (hsp rfl).1
      simp only [List.length_map, reachBytes] at hr
      omega
  obtain ⟨lp, ll, lc, e9, hll⟩ := L
  refine ⟨⟨K, N, ⟨p.k, p.n, strOfNums p.s⟩, ⟨r.k, r.n, strOfNums r.s⟩, s, lp, ll, lc, V⟩, ?_, pw.2.1, vl_size pw, vl_size rw', hs', hll⟩
  rw [(List.cons.inj e0).1, (List.cons.inj e1).1, q0, q1, q2, r0, r1, r2, (List.cons.inj e4).1, e9, (List.cons.inj e6).1]

set_option maxRecDepth 100000 in
theorem open_ops18 {H : Type} {enc : TypeId × Value → H} {W : World} {a : Option Addr} {len cap : Nat} {d : DataW H} {p : List MemPlace} (h : DataW.Trod enc Tryz.prog W 0 (fun _ => true) true 34 (.slice a len cap) d p)
    (hsz : ∀ n ∈ d.weights Tryz.prog 34, n ≤ reachBytes) : ∃ its : List Re.Op, its.length = len ∧ Re.LO W a its ∧ (∀ o ∈ its, Re.OpW o) ∧ len ≤ cap ∧ cap ≤ 4398046511104 := by
  obtain ⟨fuel, hf⟩ := h
  rcases DataW.trod_slice Tryz.underlying34 hf with ⟨hcs, _⟩ | ⟨x, l, c, elems, rest, n, _, hcs, hx, _, hl, hm, he, hel, hsp, _⟩
  · simp [Value.cells] at hcs
    obtain ⟨rfl, rfl, rfl⟩ := hcs
    exact ⟨[], rfl, .inl rfl, by intro it h; simp at h, Nat.le_refl _, by omega⟩
  · simp [Value.cells] at hcs
    obtain ⟨rfl, rfl, rfl⟩ := hcs
    have hd : d = .slice (elems.map (·.1)) (rest.map (·.1)) := (Prod.mk.inj hx).1
    have hw : ∀ n ∈ (DataW.slice (elems.map (·.1)) (rest.map (·.1)) : DataW H).weights Tryz.prog 34, n ≤ reachBytes := by rw [← hd]; exact hsz
    simp only [DataW.weights, Tryz.underlying34] at hw
    have hr := hw _ List.mem_cons_self
    rw [show Tryz.prog.bytesOf 41 = 128 by kernel_rfl] at hr
    have hrl := (hsp rfl).1
    simp only [List.length_map, reachBytes] at hr
    have hcap : cap ≤ 4398046511104 := by omega
    rw [show Tryz.prog.cellsOf 41 = 11 by kernel_rfl] at hel
    obtain ⟨its, i1, i2⟩ := vlist_of_each (Q := fun i (o : Re.Op) => (∀ (j : Nat) (v : Value), [.int .i64 o.kind, .int .i64 o.n, .int .i64 o.a.k, .int .u64 o.a.n, .string o.a.s, .int .i64 o.b.k, .int .u64 o.b.n, .string o.b.s, .string o.c, .slice o.lp o.ll o.lc, .int .i64 o.w][j]? = some v → W.cell? ((x.add (i * 11)).add j) = some v) ∧ Re.OpW o) len (fun i hi => by
      have h1 := hel i hi
      have h2 : elems[i]? = some elems[i] := List.getElem?_eq_getElem (by omega)
      rw [h2] at h1
      obtain ⟨cs, h3, h4⟩ := Option.bind_eq_some_iff.1 h1
      obtain ⟨_, h5, h6⟩ := World.cells?_some h3
      obtain ⟨v0, v1, v2, v3, v4, v5, v6, v7, v8, v9, v10, rfl⟩ := list11o h5
      obtain ⟨o, q, hA⟩ := open_op18 h4 (fun m hm => hw m (List.mem_cons_of_mem _ (List.mem_append_left _ (vall_mem (List.mem_map.2 ⟨elems[i], List.getElem_mem _, rfl⟩) m hm))))
      refine ⟨o, fun j v hv => ?_, hA⟩
      rw [← q] at hv
      have jl := (List.getElem?_eq_some_iff.1 hv).1
      simp only [List.length_cons, List.length_nil] at jl
      have e := h6 j (by omega)
      rw [e]; exact hv)
    refine ⟨its, i1, ?_, ?_, hl, hcap⟩
    · rcases Nat.eq_zero_or_pos its.length with h0 | h0
      · exact .inl (List.eq_nil_of_length_eq_zero h0)
      · obtain ⟨b, off, spot⟩ := x
        have hspot : spot = none := by
          have z := (i2 0 _ (List.getElem?_eq_getElem h0)).1 0 _ rfl
          simpa [Addr.add] using World.cell?_spot z
        subst hspot
        refine .inr ⟨b, off, rfl, fun i o hi j v hv => ?_⟩
        have z := (i2 i o hi).1 j v hv
        simp only [Go.WideShapes.add_plain] at z
        exact z
    · intro it hit
      obtain ⟨i, hi⟩ := List.getElem?_of_mem hit
      exact (i2 i it hi).2
end Go.Proofs.YtigmhnlcmhpepaaGreatDoor
