/-
  Texts put together: GBulk, OpenPieces, OpenOps13.
-/
import Derived.Test.YtaadooippelcfaaDoorRows
import Derived.Test.YtaadooippelcfaaDoorDList
import Derived.SizedLaws
import Derived.ProofKit
import Derived.OpenShut
import Derived.ChangeMaps5
import Derived.ChangeSlices
namespace Go.Proofs.YtaadooippelcfaaDoor

theorem bulk_pos {H : Type} (d : DataW H) : 1 ≤ Rows.uptoBulk d := by
  rcases d with l | _ | _ | _ | _ | _ | _ | _
  · cases l <;> simp [Rows.uptoBulk]
  all_goals simp [Rows.uptoBulk]

theorem bulk_all {H : Type} : ∀ l : List (DataW H), l.length ≤ Rows.uptoBulkAll l
  | [] => Nat.zero_le _
  | d :: r => by
    have h1 := bulk_pos d
    have h2 := bulk_all r
    simp only [Rows.uptoBulkAll, List.length_cons]
    omega

theorem bulk_slice {H : Type} (es sp : List (DataW H)) : es.length ≤ Rows.uptoBulk (.slice es sp) := by
  have := bulk_all es
  simp only [Rows.uptoBulk]
  omega
end Go.Proofs.YtaadooippelcfaaDoor

namespace Go.Proofs.YtaadooippelcfaaDoor
open Go Go.RowKit Go.Deep Go.ChangeShapes Go.WideShapes Go.ChangeAt

theorem bulk_mem {H : Type} : ∀ {l : List (DataW H)} {d : DataW H}, d ∈ l → Rows.uptoBulk d ≤ Rows.uptoBulkAll l
  | [], _, h => by simp at h
  | x :: r, d, h => by
    simp only [Rows.uptoBulkAll]
    rcases List.mem_cons.1 h with rfl | h
    · omega
    · have := bulk_mem h
      omega

theorem pall_mem {H : Type} {P : Program} {e : TypeId} : ∀ {l : List (DataW H)} {d : DataW H}, d ∈ l → ∀ n ∈ d.weights P e, n ∈ DataW.weightsAll P e l
  | [], _, h, _, _ => by simp at h
  | x :: r, d, h, n, hn => by
    simp only [DataW.weightsAll, List.mem_append]
    rcases List.mem_cons.1 h with rfl | h
    · exact .inl hn
    · exact .inr (pall_mem h n hn)

/-- What can be told of each place can be told of a list. -/
theorem plist_of_each {α : Type} {Q : Nat → α → Prop} : ∀ n, (∀ i, i < n → ∃ x, Q i x) → ∃ l : List α, l.length = n ∧ ∀ i x, l[i]? = some x → Q i x
  | 0, _ => ⟨[], rfl, by simp⟩
  | n + 1, h => by
    obtain ⟨l, h1, h2⟩ := plist_of_each n (fun i hi => h i (by omega))
    obtain ⟨x, hx⟩ := h n (by omega)
    refine ⟨l ++ [x], by simp [h1], fun i y hy => ?_⟩
    by_cases hi : i < l.length
    · rw [List.getElem?_append_left hi] at hy
      exact h2 i y hy
    · have hlt := (List.getElem?_eq_some_iff.1 hy).1
      simp only [List.length_append, List.length_cons, List.length_nil] at hlt
      obtain rfl : i = n := by omega
      rw [List.getElem?_append_right (by omega), h1, Nat.sub_self] at hy
      simp at hy
      subst hy
      exact hx

theorem list7 {α : Type} {l : List α} (h : l.length = 7) : ∃ c0 c1 c2 c3 c4 c5 c6, l = [c0, c1, c2, c3, c4, c5, c6] := by
  match l, h with
  | [c0, c1, c2, c3, c4, c5, c6], _ => exact ⟨c0, c1, c2, c3, c4, c5, c6, rfl⟩

theorem open_piece_cells {H : Type} {enc : TypeId × Value → H} {W : World} {fuel : Nat} {a0 a1 a2 a3 a4 a5 a6 : Value} {x : DataW H × List MemPlace} (hf : DataW.trod enc Tryd.prog W 0 (fun _ => true) true fuel 25 [a0, a1, a2, a3, a4, a5, a6] = some x)
    (hsz : ∀ n ∈ x.1.weights Tryd.prog 25, n ≤ reachBytes) :
    ∃ p : Dr.Pc, (a0 = .string (strOfNums p.t) ∧ a1 = .int .u8 p.v ∧ a2 = .int .i64 p.fl ∧ a3 = .int .i64 p.wk ∧ a4 = .int .i64 p.wd ∧ a5 = .int .i64 p.pk ∧ a6 = .int .i64 p.pr) ∧ PcW p ∧ p.t.length ≤ 140737488351232 ∧ p.t.length ≤ Rows.uptoBulk x.1 := by
  obtain ⟨xs, n, _, hx, _, hlen, hfs⟩ := DataW.trod_struct Tryd.underlying25 hf
  obtain ⟨y0, y1, y2, y3, y4, y5, y6, rfl⟩ := list7 hlen
  have c3 : Tryd.prog.cellsOf 3 = 1 := by kernel_rfl
  have c5 : Tryd.prog.cellsOf 5 = 1 := by kernel_rfl
  have cs : Tryd.prog.cellsOf 9 = 1 := by kernel_rfl
  have f0 : DataW.trod enc Tryd.prog W 0 (fun _ => true) true n 9 [a0] = some y0 := by simpa [cs] using hfs 0 _ rfl
  have f1 : DataW.trod enc Tryd.prog W 0 (fun _ => true) true n 5 [a1] = some y1 := by simpa [c5] using hfs 1 _ rfl
  have f2 : DataW.trod enc Tryd.prog W 0 (fun _ => true) true n 3 [a2] = some y2 := by simpa [c3] using hfs 2 _ rfl
  have f3 : DataW.trod enc Tryd.prog W 0 (fun _ => true) true n 3 [a3] = some y3 := by simpa [c3] using hfs 3 _ rfl
  have f4 : DataW.trod enc Tryd.prog W 0 (fun _ => true) true n 3 [a4] = some y4 := by simpa [c3] using hfs 4 _ rfl
  have f5 : DataW.trod enc Tryd.prog W 0 (fun _ => true) true n 3 [a5] = some y5 := by simpa [c3] using hfs 5 _ rfl
  have f6 : DataW.trod enc Tryd.prog W 0 (fun _ => true) true n 3 [a6] = some y6 := by simpa [c3] using hfs 6 _ rfl
  have hd : x.1 = .agg [y0.1, y1.1, y2.1, y3.1, y4.1, y5.1, y6.1] := by rw [hx]; rfl
  obtain ⟨s, e0, q0, _⟩ := DataW.trod_string Tryd.underlying9 f0
  obtain ⟨v, e1, _, w1⟩ := DataW.trod_int Tryd.underlying5 f1
  obtain ⟨fl, e2, _, _⟩ := DataW.trod_int Tryd.underlying3 f2
  obtain ⟨wk, e3, _, _⟩ := DataW.trod_int Tryd.underlying3 f3
  obtain ⟨wd, e4, _, _⟩ := DataW.trod_int Tryd.underlying3 f4
  obtain ⟨pk, e5, _, _⟩ := DataW.trod_int Tryd.underlying3 f5
  obtain ⟨pr, e6, _, _⟩ := DataW.trod_int Tryd.underlying3 f6
  have hs : s.data.toList.length ≤ reachBytes := by
    refine hsz _ ?_
    rw [hd]
    simp only [DataW.weights, Tryd.underlying25]
    refine DataW.weights_mem_each (ts := [9, 5, 3, 3, 3, 3, 3]) (ds := [y0.1, y1.1, y2.1, y3.1, y4.1, y5.1, y6.1]) (j := 0) (t := 9) (d := y0.1) rfl rfl _ ?_
    rw [q0]
    simp [DataW.weights]
  have hb : s.data.toList.length ≤ Rows.uptoBulk x.1 := by
    rw [hd, q0]
    simp only [Rows.uptoBulk, Rows.uptoBulkAll]
    simp
    omega
  have b1 := bounds_u8 w1
  refine ⟨⟨s.data.toList.map (fun b => (b.toNat : Int)), v, fl, wk, wd, pk, pr⟩, ⟨?_, (List.cons.inj e1).1, (List.cons.inj e2).1, (List.cons.inj e3).1, (List.cons.inj e4).1, (List.cons.inj e5).1, (List.cons.inj e6).1⟩, ⟨fun x hx => (Str.self s).mem hx, b1.1, Int.lt_of_le_of_lt b1.2 (by decide)⟩, ?_, ?_⟩
  · rw [(List.cons.inj e0).1, ← str_of (Str.self s)]
  · rw [List.length_map]; exact Nat.le_trans hs (by decide)
  · rw [List.length_map]; exact hb

theorem array7 {α : Type} {cs : Array α} (h : cs.size = 7) : ∃ c0 c1 c2 c3 c4 c5 c6, cs = #[c0, c1, c2, c3, c4, c5, c6] := by
  obtain ⟨l⟩ := cs
  match l, h with
  | [c0, c1, c2, c3, c4, c5, c6], _ => exact ⟨c0, c1, c2, c3, c4, c5, c6, rfl⟩

set_option maxRecDepth 100000 in
theorem open_piece {H : Type} {enc : TypeId × Value → H} {W : World} {base : Nat} {v : Value} {d : DataW H} {p : List MemPlace} (hv : Value.okWide Tryd.prog W .any base 25 v) (h : DataW.Trod enc Tryd.prog W 0 (fun _ => true) true 25 v d p)
    (hsz : ∀ n ∈ d.weights Tryd.prog 25, n ≤ reachBytes) :
    ∃ q : Dr.Pc, v = .agg #[.string (strOfNums q.t), .int .u8 q.v, .int .i64 q.fl, .int .i64 q.wk, .int .i64 q.wd, .int .i64 q.pk, .int .i64 q.pr] ∧ PcW q ∧ q.t.length ≤ 140737488351232 ∧ q.t.length ≤ Rows.uptoBulk d := by
  obtain ⟨cs, rfl, hs7⟩ := okWide_struct Tryd.underlying25 hv
  obtain ⟨a0, a1, a2, a3, a4, a5, a6, rfl⟩ := array7 (hs7.trans (show Tryd.prog.cellsOf 25 = 7 by kernel_rfl))
  obtain ⟨fuel, hf⟩ := h
  have hf' : DataW.trod enc Tryd.prog W 0 (fun _ => true) true fuel 25 [a0, a1, a2, a3, a4, a5, a6] = some (d, p) := by simpa [Value.cells] using hf
  obtain ⟨q, ⟨e0, e1, e2, e3, e4, e5, e6⟩, h1, h2, h3⟩ := open_piece_cells (x := (d, p)) hf' hsz
  rw [e0, e1, e2, e3, e4, e5, e6]
  exact ⟨q, rfl, h1, h2, h3⟩

set_option maxRecDepth 100000 in
theorem open_pieces {H : Type} {enc : TypeId × Value → H} {W : World} {a : Option Addr} {len cap : Nat} {d : DataW H} {p : List MemPlace} (h : DataW.Trod enc Tryd.prog W 0 (fun _ => true) true 26 (.slice a len cap) d p)
    (hsz : ∀ n ∈ d.weights Tryd.prog 26, n ≤ reachBytes) : ∃ ps : List Dr.Pc, ps.length = len ∧ LP W a ps ∧ (∀ q ∈ ps, PcW q) ∧ (∀ q ∈ ps, q.t.length ≤ 140737488351232 ∧ q.t.length ≤ Rows.uptoBulk d) ∧ len ≤ 2199023255552 ∧ len ≤ Rows.uptoBulk d := by
  obtain ⟨fuel, hf⟩ := h
  rcases DataW.trod_slice Tryd.underlying26 hf with ⟨hcs, _⟩ | ⟨x, l, c, elems, rest, n, _, hcs, hx, _, hl, hm, he, hel, hsp, _⟩
  · simp [Value.cells] at hcs
    obtain ⟨rfl, rfl, rfl⟩ := hcs
    exact ⟨[], rfl, .inl rfl, by intro it h; simp at h, by intro it h; simp at h, by omega, by omega⟩
  · simp [Value.cells] at hcs
    obtain ⟨rfl, rfl, rfl⟩ := hcs
    have hd : d = .slice (elems.map (·.1)) (rest.map (·.1)) := (Prod.mk.inj hx).1
    have hw : ∀ n ∈ (DataW.slice (elems.map (·.1)) (rest.map (·.1)) : DataW H).weights Tryd.prog 26, n ≤ reachBytes := by rw [← hd]; exact hsz
    simp only [DataW.weights, Tryd.underlying26] at hw
    have hr := hw _ List.mem_cons_self
    rw [show Tryd.prog.bytesOf 25 = 64 by kernel_rfl] at hr
    have hrl := (hsp rfl).1
    simp only [List.length_map, reachBytes] at hr
    have hbl : len ≤ Rows.uptoBulk d := by
      rw [hd]
      refine Nat.le_trans ?_ (bulk_slice _ _)
      rw [List.length_map]; omega
    rw [show Tryd.prog.cellsOf 25 = 7 by kernel_rfl] at hel
    obtain ⟨its, i1, i2⟩ := plist_of_each (Q := fun i (it : Dr.Pc) => (W.cell? (x.add (i * 7)) = some (.string (strOfNums it.t)) ∧ W.cell? ((x.add (i * 7)).add 1) = some (.int .u8 it.v) ∧ W.cell? ((x.add (i * 7)).add 2) = some (.int .i64 it.fl) ∧ W.cell? ((x.add (i * 7)).add 3) = some (.int .i64 it.wk) ∧ W.cell? ((x.add (i * 7)).add 4) = some (.int .i64 it.wd) ∧ W.cell? ((x.add (i * 7)).add 5) = some (.int .i64 it.pk) ∧ W.cell? ((x.add (i * 7)).add 6) = some (.int .i64 it.pr)) ∧ PcW it ∧ it.t.length ≤ 140737488351232 ∧ it.t.length ≤ Rows.uptoBulk d) len (fun i hi => by
      have h1 := hel i hi
      have h2 : elems[i]? = some elems[i] := List.getElem?_eq_getElem (by omega)
      rw [h2] at h1
      obtain ⟨cs, h3, h4⟩ := Option.bind_eq_some_iff.1 h1
      obtain ⟨_, h5, h6⟩ := World.cells?_some h3
      obtain ⟨v0, v1, v2, v3, v4, v5, v6, rfl⟩ := list7 h5
      have e0 := h6 0 (by omega)
      have e1 := h6 1 (by omega)
      have e2 := h6 2 (by omega)
      have e3 := h6 3 (by omega)
      have e4 := h6 4 (by omega)
      have e5 := h6 5 (by omega)
      have e6 := h6 6 (by omega)
      have h8 : (x.add (i * 7)).add 0 = x.add (i * 7) := by simp [Addr.add]
      rw [h8] at e0
      obtain ⟨q, ⟨q0, q1, q2, q3, q4, q5, q6⟩, hA, hB, hC⟩ := open_piece_cells h4 (fun m hm => hw m (List.mem_cons_of_mem _ (List.mem_append_left _ (pall_mem (List.mem_map.2 ⟨elems[i], List.getElem_mem _, rfl⟩) m hm))))
      subst q0 q1 q2 q3 q4 q5 q6
      refine ⟨q, ⟨e0, e1, e2, e3, e4, e5, e6⟩, hA, hB, Nat.le_trans hC ?_⟩
      have := bulk_mem (l := elems.map (·.1)) (d := elems[i].1) (List.mem_map.2 ⟨elems[i], List.getElem_mem _, rfl⟩)
      rw [hd]
      simp only [Rows.uptoBulk]
      omega)
    refine ⟨its, i1, ?_, ?_, ?_, by omega, hbl⟩
    · rcases Nat.eq_zero_or_pos its.length with h0 | h0
      · exact .inl (List.eq_nil_of_length_eq_zero h0)
      · obtain ⟨b, off, spot⟩ := x
        have hspot : spot = none := by simpa [Addr.add] using World.cell?_spot (i2 0 _ (List.getElem?_eq_getElem h0)).1.1
        subst hspot
        refine .inr ⟨b, off, rfl, fun i it hi => ?_⟩
        obtain ⟨⟨q0, q1, q2, q3, q4, q5, q6⟩, _⟩ := i2 i it hi
        simp only [Go.WideShapes.add_plain] at q0 q1 q2 q3 q4 q5 q6
        exact ⟨q0, q1, q2, q3, q4, q5, q6⟩
    · intro it hit
      obtain ⟨i, hi⟩ := List.getElem?_of_mem hit
      exact (i2 i it hi).2.1
    · intro it hit
      obtain ⟨i, hi⟩ := List.getElem?_of_mem hit
      exact (i2 i it hi).2.2
end Go.Proofs.YtaadooippelcfaaDoor

namespace Go.Proofs.YtaadooippelcfaaDoor
open Go Go.RowKit Go.Deep Go.ChangeShapes Go.WideShapes Go.ChangeAt

/-- A call that was read. -/
structure O13 where
  K : Int
  S : ByteArray
  p : Dr.Pc
  a : Option Addr
  cap : Nat
  ps : List Dr.Pc
  W : Int
  R : Int
def o13v (q : O13) : Array Value := #[.int .i64 q.K, .string q.S, .string (strOfNums q.p.t), .int .u8 q.p.v, .int .i64 q.p.fl, .int .i64 q.p.wk, .int .i64 q.p.wd, .int .i64 q.p.pk, .int .i64 q.p.pr, .slice q.a q.ps.length q.cap, .int .i64 q.W, .int .i64 q.R]
/-- What is known of a call that came in, whose bulk is at most n. -/
structure O13W (w : World) (n : Nat) (q : O13) : Prop where
  s : q.S.size ≤ n
  p : PcW q.p
  pl : q.p.t.length ≤ n
  lp : LP w q.a q.ps
  pw : ∀ x ∈ q.ps, PcW x
  pt : ∀ x ∈ q.ps, x.t.length ≤ n
  ln : q.ps.length ≤ n
  wb : -9223372036854775808 ≤ q.W ∧ q.W ≤ 9223372036854775807
  rb : -9223372036854775808 ≤ q.R ∧ q.R ≤ 9223372036854775807
theorem O13W.up {w : World} {n m : Nat} {q : O13} (h : O13W w n q) (hm : n ≤ m) : O13W w m q :=
  ⟨Nat.le_trans h.s hm, h.p, Nat.le_trans h.pl hm, h.lp, h.pw, fun x hx => Nat.le_trans (h.pt x hx) hm, Nat.le_trans h.ln hm, h.wb, h.rb⟩

theorem o13_6 {α : Type} {l : List α} (h : l.length = 6) : ∃ c0 c1 c2 c3 c4 c5, l = [c0, c1, c2, c3, c4, c5] := by
  match l, h with
  | [c0, c1, c2, c3, c4, c5], _ => exact ⟨c0, c1, c2, c3, c4, c5, rfl⟩
theorem o13_12 {α : Type} {l : List α} (h : l.length = 12) : ∃ a0 a1 a2 a3 a4 a5 a6 a7 a8 a9 a10 a11, l = [a0, a1, a2, a3, a4, a5, a6, a7, a8, a9, a10, a11] := by
  match l, h with
  | [a0, a1, a2, a3, a4, a5, a6, a7, a8, a9, a10, a11], _ => exact ⟨a0, a1, a2, a3, a4, a5, a6, a7, a8, a9, a10, a11, rfl⟩

set_option maxRecDepth 100000 in
theorem open_pieces_cells {H : Type} {enc : TypeId × Value → H} {W : World} {fuel : Nat} {v : Value} {x : DataW H × List MemPlace} (hf : DataW.trod enc Tryd.prog W 0 (fun _ => true) true fuel 26 [v] = some x)
    (hsz : ∀ n ∈ x.1.weights Tryd.prog 26, n ≤ reachBytes) : ∃ (a : Option Addr) (cap : Nat) (ps : List Dr.Pc), v = .slice a ps.length cap ∧ LP W a ps ∧ (∀ q ∈ ps, PcW q) ∧ (∀ q ∈ ps, q.t.length ≤ Rows.uptoBulk x.1) ∧ ps.length ≤ Rows.uptoBulk x.1 := by
  have key : ∀ a len cap, v = .slice a len cap → ∃ (a : Option Addr) (cap : Nat) (ps : List Dr.Pc), v = .slice a ps.length cap ∧ LP W a ps ∧ (∀ q ∈ ps, PcW q) ∧ (∀ q ∈ ps, q.t.length ≤ Rows.uptoBulk x.1) ∧ ps.length ≤ Rows.uptoBulk x.1 := by
    intro a len cap hv
    subst hv
    obtain ⟨d, p⟩ := x
    obtain ⟨ps, rfl, h1, h2, h3, _, h5⟩ := open_pieces (d := d) (p := p) ⟨fuel, by simpa [Value.cells] using hf⟩ hsz
    exact ⟨a, cap, ps, rfl, h1, h2, fun q hq => (h3 q hq).2, h5⟩
  rcases DataW.trod_slice Tryd.underlying26 hf with ⟨hcs, _⟩ | ⟨y, l, c, elems, rest, n, _, hcs, _⟩
  · exact key _ _ _ (List.cons.inj hcs).1
  · exact key _ _ _ (List.cons.inj hcs).1

set_option maxRecDepth 100000 in
theorem open_o13_cells {H : Type} {enc : TypeId × Value → H} {W : World} {fuel : Nat} {a0 a1 a2 a3 a4 a5 a6 a7 a8 a9 a10 a11 : Value} {x : DataW H × List MemPlace} (hf : DataW.trod enc Tryd.prog W 0 (fun _ => true) true fuel 28 [a0, a1, a2, a3, a4, a5, a6, a7, a8, a9, a10, a11] = some x)
    (hsz : ∀ n ∈ x.1.weights Tryd.prog 28, n ≤ reachBytes) : ∃ q : O13, #[a0, a1, a2, a3, a4, a5, a6, a7, a8, a9, a10, a11] = o13v q ∧ O13W W (Rows.uptoBulk x.1) q := by
  obtain ⟨xs, n, _, hx, _, hlen, hfs⟩ := DataW.trod_struct Tryd.underlying28 hf
  obtain ⟨y0, y1, y2, y3, y4, y5, rfl⟩ := o13_6 hlen
  have cs : Tryd.prog.cellsOf 9 = 1 := by kernel_rfl
  have cp : Tryd.prog.cellsOf 25 = 7 := by kernel_rfl
  have cl : Tryd.prog.cellsOf 26 = 1 := by kernel_rfl
  have ci : Tryd.prog.cellsOf 3 = 1 := by kernel_rfl
  have f0 : DataW.trod enc Tryd.prog W 0 (fun _ => true) true n 3 [a0] = some y0 := by simpa [cs, cp, cl, ci] using hfs 0 _ rfl
  have f1 : DataW.trod enc Tryd.prog W 0 (fun _ => true) true n 9 [a1] = some y1 := by simpa [cs, cp, cl, ci] using hfs 1 _ rfl
  have f2 : DataW.trod enc Tryd.prog W 0 (fun _ => true) true n 25 [a2, a3, a4, a5, a6, a7, a8] = some y2 := by simpa [cs, cp, cl, ci] using hfs 2 _ rfl
  have f3 : DataW.trod enc Tryd.prog W 0 (fun _ => true) true n 26 [a9] = some y3 := by simpa [cs, cp, cl, ci] using hfs 3 _ rfl
  have f4 : DataW.trod enc Tryd.prog W 0 (fun _ => true) true n 3 [a10] = some y4 := by simpa [cs, cp, cl, ci] using hfs 4 _ rfl
  have f5 : DataW.trod enc Tryd.prog W 0 (fun _ => true) true n 3 [a11] = some y5 := by simpa [cs, cp, cl, ci] using hfs 5 _ rfl
  have hd : x.1 = .agg [y0.1, y1.1, y2.1, y3.1, y4.1, y5.1] := by rw [hx]; rfl
  have hw : ∀ (j : Nat) (t : TypeId) (e : DataW H), [3, 9, 25, 26, 3, 3][j]? = some t → [y0.1, y1.1, y2.1, y3.1, y4.1, y5.1][j]? = some e → ∀ n ∈ e.weights Tryd.prog t, n ≤ reachBytes := by
    intro j t e ht he n hn
    refine hsz n ?_
    rw [hd]
    simp only [DataW.weights, Tryd.underlying28]
    exact DataW.weights_mem_each ht he n hn
  obtain ⟨K, e0, _, _⟩ := DataW.trod_int Tryd.underlying3 f0
  obtain ⟨S, e1, q1, _⟩ := DataW.trod_string Tryd.underlying9 f1
  obtain ⟨p, ⟨d0, d1, d2, d3, d4, d5, d6⟩, P1, _, P3⟩ := open_piece_cells f2 (hw 2 _ _ rfl rfl)
  obtain ⟨a, cap, ps, e9, L1, L2, L3, L4⟩ := open_pieces_cells f3 (hw 3 _ _ rfl rfl)
  obtain ⟨WW, e10, _, w4⟩ := DataW.trod_int Tryd.underlying3 f4
  obtain ⟨RR, e11, _, w5⟩ := DataW.trod_int Tryd.underlying3 f5
  have b4 : -9223372036854775808 ≤ WW ∧ WW ≤ 9223372036854775807 := by have := bounds_i64 w4; omega
  have b5 : -9223372036854775808 ≤ RR ∧ RR ≤ 9223372036854775807 := by have := bounds_i64 w5; omega
  have sb : S.size ≤ Rows.uptoBulk y1.1 := by
    rw [q1, Rows.uptoBulk, Array.length_toList]
    exact Nat.le_succ _
  have tot : Rows.uptoBulk y1.1 ≤ Rows.uptoBulk x.1 ∧ Rows.uptoBulk y2.1 ≤ Rows.uptoBulk x.1 ∧ Rows.uptoBulk y3.1 ≤ Rows.uptoBulk x.1 := by
    rw [hd]
    simp only [Rows.uptoBulk, Rows.uptoBulkAll]
    omega
  refine ⟨⟨K, S, p, a, cap, ps, WW, RR⟩, ?_, ⟨Nat.le_trans sb tot.1, P1, Nat.le_trans P3 tot.2.1, L1, L2, fun q hq => Nat.le_trans (L3 q hq) tot.2.2, Nat.le_trans L4 tot.2.2, b4, b5⟩⟩
  rw [(List.cons.inj e0).1, (List.cons.inj e1).1, d0, d1, d2, d3, d4, d5, d6, e9, (List.cons.inj e10).1, (List.cons.inj e11).1]
  rfl

/-- A call's cells at a place. -/
def O13C (w : World) (b o : Nat) (q : O13) : Prop := ∀ k v, (o13v q)[k]? = some v → w.cell? ⟨b, o + k, none⟩ = some v
/-- A list of calls that can be read. -/
def L13 (w : World) (a : Option Addr) (qs : List O13) : Prop := qs = [] ∨ ∃ b off, a = some ⟨b, off, none⟩ ∧ ∀ i q, qs[i]? = some q → O13C w b (off + i * 12) q

set_option maxRecDepth 100000 in
theorem open_ops13 {H : Type} {enc : TypeId × Value → H} {W : World} {a : Option Addr} {len cap : Nat} {d : DataW H} {p : List MemPlace} (h : DataW.Trod enc Tryd.prog W 0 (fun _ => true) true 22 (.slice a len cap) d p)
    (hsz : ∀ n ∈ d.weights Tryd.prog 22, n ≤ reachBytes) : ∃ qs : List O13, qs.length = len ∧ L13 W a qs ∧ (∀ q ∈ qs, O13W W (Rows.uptoBulk d) q) ∧ len ≤ 2199023255552 := by
  obtain ⟨fuel, hf⟩ := h
  rcases DataW.trod_slice Tryd.underlying22 hf with ⟨hcs, _⟩ | ⟨x, l, c, elems, rest, n, _, hcs, hx, _, hl, hm, he, hel, hsp, _⟩
  · simp [Value.cells] at hcs
    obtain ⟨rfl, rfl, rfl⟩ := hcs
    exact ⟨[], rfl, .inl rfl, by intro it h; simp at h, by omega⟩
  · simp [Value.cells] at hcs
    obtain ⟨rfl, rfl, rfl⟩ := hcs
    have hd : d = .slice (elems.map (·.1)) (rest.map (·.1)) := (Prod.mk.inj hx).1
    have hw : ∀ n ∈ (DataW.slice (elems.map (·.1)) (rest.map (·.1)) : DataW H).weights Tryd.prog 22, n ≤ reachBytes := by rw [← hd]; exact hsz
    simp only [DataW.weights, Tryd.underlying22] at hw
    have hr := hw _ List.mem_cons_self
    rw [show Tryd.prog.bytesOf 28 = 128 by kernel_rfl] at hr
    have hrl := (hsp rfl).1
    simp only [List.length_map, reachBytes] at hr
    rw [show Tryd.prog.cellsOf 28 = 12 by kernel_rfl] at hel
    obtain ⟨its, i1, i2⟩ := plist_of_each (Q := fun i (it : O13) => (∀ k v, (o13v it)[k]? = some v → W.cell? ((x.add (i * 12)).add k) = some v) ∧ O13W W (Rows.uptoBulk d) it) len (fun i hi => by
      have h1 := hel i hi
      have h2 : elems[i]? = some elems[i] := List.getElem?_eq_getElem (by omega)
      rw [h2] at h1
      obtain ⟨cs, h3, h4⟩ := Option.bind_eq_some_iff.1 h1
      obtain ⟨_, h5, h6⟩ := World.cells?_some h3
      obtain ⟨v0, v1, v2, v3, v4, v5, v6, v7, v8, v9, v10, v11, rfl⟩ := o13_12 h5
      obtain ⟨q, e, hA⟩ := open_o13_cells h4 (fun m hm => hw m (List.mem_cons_of_mem _ (List.mem_append_left _ (pall_mem (List.mem_map.2 ⟨elems[i], List.getElem_mem _, rfl⟩) m hm))))
      have hle : Rows.uptoBulk elems[i].1 ≤ Rows.uptoBulk d := by
        rw [hd, Rows.uptoBulk]
        have := bulk_mem (show elems[i].1 ∈ elems.map (·.1) from List.mem_map.2 ⟨elems[i], List.getElem_mem _, rfl⟩)
        omega
      refine ⟨q, fun k v hk => ?_, hA.up hle⟩
      rw [← e] at hk
      have hk7 : k < 12 := by
        have := (Array.getElem?_eq_some_iff.1 hk).1
        simpa using this
      have hk' : [v0, v1, v2, v3, v4, v5, v6, v7, v8, v9, v10, v11][k]? = some v := by simpa using hk
      have e6 := h6 k (by simpa using hk7)
      rw [e6]
      exact hk')
    refine ⟨its, i1, ?_, ?_, by omega⟩
    · rcases Nat.eq_zero_or_pos its.length with h0 | h0
      · exact .inl (List.eq_nil_of_length_eq_zero h0)
      · obtain ⟨b, off, spot⟩ := x
        have hspot : spot = none := by simpa [Addr.add] using World.cell?_spot ((i2 0 _ (List.getElem?_eq_getElem h0)).1 0 _ rfl)
        subst hspot
        refine .inr ⟨b, off, rfl, fun i it hi k v hk => ?_⟩
        have q := (i2 i it hi).1 k v hk
        simp only [Go.WideShapes.add_plain] at q
        exact q
    · intro it hit
      obtain ⟨i, hi⟩ := List.getElem?_of_mem hit
      exact (i2 i it hi).2
theorem L13.below {w w' : World} {a : Option Addr} {qs : List O13} (h : L13 w a qs) (k : Below w.heap.size w w') : L13 w' a qs := by
  rcases h with h | ⟨b, off, e, h⟩
  · exact .inl h
  · refine .inr ⟨b, off, e, fun i q hi j v hj => ?_⟩
    have c := h i q hi j v hj
    rw [k.cell (cell_lt c)]
    exact c
theorem L13.at {w : World} {a : Option Addr} {qs : List O13} (h : L13 w a qs) {i : Nat} {q : O13} (hi : qs[i]? = some q) : ∃ b off, a = some ⟨b, off, none⟩ ∧ O13C w b (off + i * 12) q := by
  rcases h with rfl | ⟨b, off, rfl, h⟩
  · simp at hi
  · exact ⟨b, off, rfl, h i q hi⟩
theorem O13C.flat {w : World} {b o : Nat} {q : O13} (h : O13C w b o q) : w.cell? ⟨b, o, none⟩ = some (.int .i64 q.K) ∧ w.cell? ⟨b, o + 1, none⟩ = some (.string q.S) ∧ w.cell? ⟨b, o + 2, none⟩ = some (.string (strOfNums q.p.t)) ∧ w.cell? ⟨b, o + 3, none⟩ = some (.int .u8 q.p.v) ∧ w.cell? ⟨b, o + 4, none⟩ = some (.int .i64 q.p.fl) ∧ w.cell? ⟨b, o + 5, none⟩ = some (.int .i64 q.p.wk) ∧ w.cell? ⟨b, o + 6, none⟩ = some (.int .i64 q.p.wd) ∧ w.cell? ⟨b, o + 7, none⟩ = some (.int .i64 q.p.pk) ∧ w.cell? ⟨b, o + 8, none⟩ = some (.int .i64 q.p.pr) ∧ w.cell? ⟨b, o + 9, none⟩ = some (.slice q.a q.ps.length q.cap) ∧ w.cell? ⟨b, o + 10, none⟩ = some (.int .i64 q.W) ∧ w.cell? ⟨b, o + 11, none⟩ = some (.int .i64 q.R) :=
  ⟨h 0 _ rfl, h 1 _ rfl, h 2 _ rfl, h 3 _ rfl, h 4 _ rfl, h 5 _ rfl, h 6 _ rfl, h 7 _ rfl, h 8 _ rfl, h 9 _ rfl, h 10 _ rfl, h 11 _ rfl⟩
theorem O13W.below {w w' : World} {n : Nat} {q : O13} (h : O13W w n q) (k : Below w.heap.size w w') : O13W w' n q := ⟨h.s, h.p, h.pl, h.lp.below k, h.pw, h.pt, h.ln, h.wb, h.rb⟩
end Go.Proofs.YtaadooippelcfaaDoor
