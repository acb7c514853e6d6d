/-
  Texts put together: OpenOps4, ELaw, FTab.
-/
import Derived.Test.YtbmbijadnojfaaaGreatDoorRI
import Derived.Test.YtbmbijadnojfaaaGreatDoorRB
import Derived.Deep.RegionHeld3
import Derived.Deep.CutRange
import Derived.Deep.CutBlock
import Derived.Test.YtbmbijadnojfaaaGreatDoorTrailW
import Derived.Lib.LaidTab
namespace Go.Proofs.YtbmbijadnojfaaaGreatDoor
open Go.RowKit Go.Deep Go.ChangeShapes Go.WideShapes Go.ChangeAt

/-- A call that was read. -/
structure E4 where
  K : Int
  X : Int
  Y : Int
  I : Int
  pn : Bool
  pc : Int
  pm : Int
  px : Int
  neg : Bool
  p1 : Option Addr
  n1 : Nat
  c1 : Nat
  z1 : List Int
  p2 : Option Addr
  n2 : Nat
  c2 : Nat
  z2 : List Int
  ex : Int
  more : Bool

/-- Its cells stand there. -/
def E4.Cells (w : World) (b o : Nat) (it : E4) : Prop :=
  w.cell? ⟨b, o, none⟩ = some (.int .i64 it.K) ∧ w.cell? ⟨b, o + 1, none⟩ = some (.int .u64 it.X) ∧ w.cell? ⟨b, o + 2, none⟩ = some (.int .u64 it.Y) ∧ w.cell? ⟨b, o + 3, none⟩ = some (.int .i64 it.I) ∧ w.cell? ⟨b, o + 4, none⟩ = some (.bool it.pn) ∧ w.cell? ⟨b, o + 5, none⟩ = some (.int .i64 it.pc) ∧ w.cell? ⟨b, o + 6, none⟩ = some (.int .u64 it.pm) ∧ w.cell? ⟨b, o + 7, none⟩ = some (.int .i64 it.px) ∧ w.cell? ⟨b, o + 8, none⟩ = some (.bool it.neg) ∧ w.cell? ⟨b, o + 9, none⟩ = some (.slice it.p1 it.n1 it.c1) ∧ w.cell? ⟨b, o + 10, none⟩ = some (.slice it.p2 it.n2 it.c2) ∧ w.cell? ⟨b, o + 11, none⟩ = some (.int .i64 it.ex) ∧ w.cell? ⟨b, o + 12, none⟩ = some (.bool it.more)

def E4.Bd (w : World) (it : E4) : Prop := (0 ≤ it.X ∧ it.X < 18446744073709551616) ∧ (0 ≤ it.Y ∧ it.Y < 18446744073709551616) ∧ (-9223372036854775808 ≤ it.I ∧ it.I ≤ 9223372036854775807) ∧ (0 ≤ it.pm ∧ it.pm < 18446744073709551616) ∧ Arg w it.p1 it.n1 it.c1 it.z1 ∧ Arg w it.p2 it.n2 it.c2 it.z2

def E4.Holds (w : World) (a : Option Addr) (its : List E4) : Prop := its = [] ∨ ∃ b off, a = some ⟨b, off, none⟩ ∧ ∀ i it, its[i]? = some it → E4.Cells w b (off + i * 13) it

theorem list13o {α : Type} {l : List α} (h : l.length = 13) : ∃ a0 a1 a2 a3 a4 a5 a6 a7 a8 a9 a10 a11 a12, l = [a0, a1, a2, a3, a4, a5, a6, a7, a8, a9, a10, a11, a12] := by
  match l, h with
  | [a0, a1, a2, a3, a4, a5, a6, a7, a8, a9, a10, a11, a12], _ => exact ⟨a0, a1, a2, a3, a4, a5, a6, a7, a8, a9, a10, a11, a12, rfl⟩
theorem list10o {α : Type} {l : List α} (h : l.length = 10) : ∃ a0 a1 a2 a3 a4 a5 a6 a7 a8 a9, l = [a0, a1, a2, a3, a4, a5, a6, a7, a8, a9] := by
  match l, h with
  | [a0, a1, a2, a3, a4, a5, a6, a7, a8, a9], _ => exact ⟨a0, a1, a2, a3, a4, a5, a6, a7, a8, a9, rfl⟩
theorem list4o {α : Type} {l : List α} (h : l.length = 4) : ∃ a0 a1 a2 a3, l = [a0, a1, a2, a3] := by
  match l, h with
  | [a0, a1, a2, a3], _ => exact ⟨a0, a1, a2, a3, rfl⟩

theorem open_op4 {H : Type} {enc : TypeId × Value → H} {W : World} {fuel : Nat} {a0 a1 a2 a3 a4 a5 a6 a7 a8 a9 a10 a11 a12 : Value} {y : DataW H × List MemPlace} (hf : DataW.trod enc Tryz.prog W 0 (fun _ => true) true fuel 29 [a0, a1, a2, a3, a4, a5, a6, a7, a8, a9, a10, a11, a12] = some y)
    (hsz : ∀ n ∈ y.1.weights Tryz.prog 29, n ≤ reachBytes) : ∃ it : E4, a0 = .int .i64 it.K ∧ a1 = .int .u64 it.X ∧ a2 = .int .u64 it.Y ∧ a3 = .int .i64 it.I ∧ a4 = .bool it.pn ∧ a5 = .int .i64 it.pc ∧ a6 = .int .u64 it.pm ∧ a7 = .int .i64 it.px ∧ a8 = .bool it.neg ∧ a9 = .slice it.p1 it.n1 it.c1 ∧ a10 = .slice it.p2 it.n2 it.c2 ∧ a11 = .int .i64 it.ex ∧ a12 = .bool it.more ∧ it.Bd W := by
  obtain ⟨xs, n, _, hx, _, hlen, hfs⟩ := DataW.trod_struct Tryz.underlying29 hf
  obtain ⟨y0, y1, y2, y3, y4, y5, y6, y7, y8, y9, rfl⟩ := list10o hlen
  have ci : Tryz.prog.cellsOf 3 = 1 := by kernel_rfl
  have cl : Tryz.prog.cellsOf 2 = 1 := by kernel_rfl
  have cu : Tryz.prog.cellsOf 24 = 1 := by kernel_rfl
  have cb : Tryz.prog.cellsOf 4 = 1 := by kernel_rfl
  have cs : Tryz.prog.cellsOf 27 = 1 := by kernel_rfl
  have cp : Tryz.prog.cellsOf 26 = 4 := by kernel_rfl
  have f0 : DataW.trod enc Tryz.prog W 0 (fun _ => true) true n 3 [a0] = some y0 := by simpa [ci, cl, cu, cb, cs, cp] using hfs 0 _ rfl
  have f1 : DataW.trod enc Tryz.prog W 0 (fun _ => true) true n 24 [a1] = some y1 := by simpa [ci, cl, cu, cb, cs, cp] using hfs 1 _ rfl
  have f2 : DataW.trod enc Tryz.prog W 0 (fun _ => true) true n 24 [a2] = some y2 := by simpa [ci, cl, cu, cb, cs, cp] using hfs 2 _ rfl
  have f3 : DataW.trod enc Tryz.prog W 0 (fun _ => true) true n 2 [a3] = some y3 := by simpa [ci, cl, cu, cb, cs, cp] using hfs 3 _ rfl
  have f4 : DataW.trod enc Tryz.prog W 0 (fun _ => true) true n 26 [a4, a5, a6, a7] = some y4 := by simpa [ci, cl, cu, cb, cs, cp] using hfs 4 _ rfl
  have f5 : DataW.trod enc Tryz.prog W 0 (fun _ => true) true n 4 [a8] = some y5 := by simpa [ci, cl, cu, cb, cs, cp] using hfs 5 _ rfl
  have f6 : DataW.trod enc Tryz.prog W 0 (fun _ => true) true n 27 [a9] = some y6 := by simpa [ci, cl, cu, cb, cs, cp] using hfs 6 _ rfl
  have f7 : DataW.trod enc Tryz.prog W 0 (fun _ => true) true n 27 [a10] = some y7 := by simpa [ci, cl, cu, cb, cs, cp] using hfs 7 _ rfl
  have f8 : DataW.trod enc Tryz.prog W 0 (fun _ => true) true n 3 [a11] = some y8 := by simpa [ci, cl, cu, cb, cs, cp] using hfs 8 _ rfl
  have f9 : DataW.trod enc Tryz.prog W 0 (fun _ => true) true n 4 [a12] = some y9 := by simpa [ci, cl, cu, cb, cs, cp] using hfs 9 _ rfl
  have hd : y.1 = .agg [y0.1, y1.1, y2.1, y3.1, y4.1, y5.1, y6.1, y7.1, y8.1, y9.1] := by rw [hx]; rfl
  have hw : ∀ (j : Nat) (t : TypeId) (e : DataW H), [3, 24, 24, 2, 26, 4, 27, 27, 3, 4][j]? = some t → [y0.1, y1.1, y2.1, y3.1, y4.1, y5.1, y6.1, y7.1, y8.1, y9.1][j]? = some e → ∀ n ∈ e.weights Tryz.prog t, n ≤ reachBytes := by
    intro j t e ht he n hn
    refine hsz n ?_
    rw [hd]
    simp only [DataW.weights, Tryz.underlying29]
    exact DataW.weights_mem_each ht he n hn
  obtain ⟨K, e0, _, w0⟩ := DataW.trod_int Tryz.underlying3 f0
  obtain ⟨X, e1, _, w1⟩ := DataW.trod_int Tryz.underlying24 f1
  obtain ⟨Y, e2, _, w2⟩ := DataW.trod_int Tryz.underlying24 f2
  obtain ⟨I, e3, _, w3⟩ := DataW.trod_int Tryz.underlying2 f3
  obtain ⟨ng, e5, _⟩ := DataW.trod_bool Tryz.underlying4 f5
  obtain ⟨p1, n1, c1, z1, q9, A1, _⟩ := open_list f6 (hw 6 _ _ rfl rfl)
  obtain ⟨p2, n2, c2, z2, q10, A2, _⟩ := open_list f7 (hw 7 _ _ rfl rfl)
  obtain ⟨ex, e8, _, w8⟩ := DataW.trod_int Tryz.underlying3 f8
  obtain ⟨mo, e9, _⟩ := DataW.trod_bool Tryz.underlying4 f9
  obtain ⟨xs2, n2', _, hx2, _, hlen2, hfs2⟩ := DataW.trod_struct Tryz.underlying26 f4
  obtain ⟨s0, s1, s2, s3, rfl⟩ := list4o hlen2
  have g0 : DataW.trod enc Tryz.prog W 0 (fun _ => true) true n2' 4 [a4] = some s0 := by simpa [ci, cl, cu, cb, cs, cp] using hfs2 0 _ rfl
  have g1 : DataW.trod enc Tryz.prog W 0 (fun _ => true) true n2' 3 [a5] = some s1 := by simpa [ci, cl, cu, cb, cs, cp] using hfs2 1 _ rfl
  have g2 : DataW.trod enc Tryz.prog W 0 (fun _ => true) true n2' 24 [a6] = some s2 := by simpa [ci, cl, cu, cb, cs, cp] using hfs2 2 _ rfl
  have g3 : DataW.trod enc Tryz.prog W 0 (fun _ => true) true n2' 3 [a7] = some s3 := by simpa [ci, cl, cu, cb, cs, cp] using hfs2 3 _ rfl
  obtain ⟨pn, d0, _⟩ := DataW.trod_bool Tryz.underlying4 g0
  obtain ⟨pc, d1, _, v1⟩ := DataW.trod_int Tryz.underlying3 g1
  obtain ⟨pm, d2, _, v2⟩ := DataW.trod_int Tryz.underlying24 g2
  obtain ⟨px, d3, _, v3⟩ := DataW.trod_int Tryz.underlying3 g3
  have b1 := bounds_u64 w1
  have b2 := bounds_u64 w2
  have b3 := bounds_i64 w3
  have b4 := bounds_u64 v2
  have bX : 0 ≤ X ∧ X < 18446744073709551616 := by omega
  have bY : 0 ≤ Y ∧ Y < 18446744073709551616 := by omega
  have bI : -9223372036854775808 ≤ I ∧ I ≤ 9223372036854775807 := by omega
  have bm : 0 ≤ pm ∧ pm < 18446744073709551616 := by omega
  exact ⟨⟨K, X, Y, I, pn, pc, pm, px, ng, p1, n1, c1, z1, p2, n2, c2, z2, ex, mo⟩, (List.cons.inj e0).1, (List.cons.inj e1).1, (List.cons.inj e2).1, (List.cons.inj e3).1, (List.cons.inj d0).1, (List.cons.inj d1).1, (List.cons.inj d2).1, (List.cons.inj d3).1, (List.cons.inj e5).1, q9, q10, (List.cons.inj e8).1, (List.cons.inj e9).1, bX, bY, bI, bm, A1, A2⟩

theorem open_ops4 {H : Type} {enc : TypeId × Value → H} {W : World} {a : Option Addr} {len cap : Nat} {d : DataW H} {p : List MemPlace} (h : DataW.Trod enc Tryz.prog W 0 (fun _ => true) true 22 (.slice a len cap) d p)
    (hsz : ∀ n ∈ d.weights Tryz.prog 22, n ≤ reachBytes) : ∃ its : List E4, its.length = len ∧ len ≤ cap ∧ cap ≤ 17592186044416 ∧ E4.Holds W a its ∧ ∀ it ∈ its, E4.Bd W it := by
  obtain ⟨fuel, hf⟩ := h
  rcases DataW.trod_slice Tryz.underlying22 hf with ⟨hcs, _⟩ | ⟨x, l, c, elems, rest, n, _, hcs, hx, _, hl, hm, he, hel, hsp, _⟩
  · simp [Value.cells] at hcs
    obtain ⟨rfl, rfl, rfl⟩ := hcs
    exact ⟨[], rfl, Nat.le_refl _, by omega, .inl rfl, by intro it h; simp at h⟩
  · simp [Value.cells] at hcs
    obtain ⟨rfl, rfl, rfl⟩ := hcs
    have hd : d = .slice (elems.map (·.1)) (rest.map (·.1)) := (Prod.mk.inj hx).1
    have hw : ∀ n ∈ (DataW.slice (elems.map (·.1)) (rest.map (·.1)) : DataW H).weights Tryz.prog 22, n ≤ reachBytes := by rw [← hd]; exact hsz
    simp only [DataW.weights, Tryz.underlying22] at hw
    have hr := hw _ List.mem_cons_self
    rw [show Tryz.prog.bytesOf 29 = 136 by kernel_rfl] at hr
    have hrl := (hsp rfl).1
    simp only [List.length_map, reachBytes] at hr
    have hcap : cap ≤ 17592186044416 := by omega
    rw [show Tryz.prog.cellsOf 29 = 13 by kernel_rfl] at hel
    obtain ⟨its, i1, i2⟩ := list_of_each (Q := fun i (it : E4) => (W.cell? (x.add (i * 13)) = some (.int .i64 it.K) ∧ W.cell? ((x.add (i * 13)).add 1) = some (.int .u64 it.X) ∧ W.cell? ((x.add (i * 13)).add 2) = some (.int .u64 it.Y) ∧ W.cell? ((x.add (i * 13)).add 3) = some (.int .i64 it.I) ∧ W.cell? ((x.add (i * 13)).add 4) = some (.bool it.pn) ∧ W.cell? ((x.add (i * 13)).add 5) = some (.int .i64 it.pc) ∧ W.cell? ((x.add (i * 13)).add 6) = some (.int .u64 it.pm) ∧ W.cell? ((x.add (i * 13)).add 7) = some (.int .i64 it.px) ∧ W.cell? ((x.add (i * 13)).add 8) = some (.bool it.neg) ∧ W.cell? ((x.add (i * 13)).add 9) = some (.slice it.p1 it.n1 it.c1) ∧ W.cell? ((x.add (i * 13)).add 10) = some (.slice it.p2 it.n2 it.c2) ∧ W.cell? ((x.add (i * 13)).add 11) = some (.int .i64 it.ex) ∧ W.cell? ((x.add (i * 13)).add 12) = some (.bool it.more)) ∧ it.Bd W) len (fun i hi => by
      have h1 := hel i hi
      have h2 : elems[i]? = some elems[i] := List.getElem?_eq_getElem (by omega)
      rw [h2] at h1
      obtain ⟨cs, h3, h4⟩ := Option.bind_eq_some_iff.1 h1
      obtain ⟨_, h5, h6⟩ := World.cells?_some h3
      obtain ⟨v0, v1, v2, v3, v4, v5, v6, v7, v8, v9, v10, v11, v12, rfl⟩ := list13o h5
      have e0 := h6 0 (by omega)
      have e1 := h6 1 (by omega)
      have e2 := h6 2 (by omega)
      have e3 := h6 3 (by omega)
      have e4 := h6 4 (by omega)
      have e5 := h6 5 (by omega)
      have e6 := h6 6 (by omega)
      have e7 := h6 7 (by omega)
      have e8 := h6 8 (by omega)
      have e9 := h6 9 (by omega)
      have e10 := h6 10 (by omega)
      have e11 := h6 11 (by omega)
      have e12 := h6 12 (by omega)
      have h8 : (x.add (i * 13)).add 0 = x.add (i * 13) := by simp [Addr.add]
      rw [h8] at e0
      obtain ⟨it, q0, q1, q2, q3, q4, q5, q6, q7, q8, q9, q10, q11, q12, hA⟩ := open_op4 h4 (fun n hn => hw n (List.mem_cons_of_mem _ (List.mem_append_left _ (all_mem (List.mem_map.2 ⟨_, List.getElem_mem (by omega), rfl⟩) n hn))))
      subst q0
      subst q1
      subst q2
      subst q3
      subst q4
      subst q5
      subst q6
      subst q7
      subst q8
      subst q9
      subst q10
      subst q11
      subst q12
      exact ⟨it, ⟨e0, e1, e2, e3, e4, e5, e6, e7, e8, e9, e10, e11, e12⟩, hA⟩)
    refine ⟨its, i1, hl, hcap, ?_, ?_⟩
    · rcases Nat.eq_zero_or_pos its.length with h0 | h0
      · exact .inl (List.eq_nil_of_length_eq_zero h0)
      · obtain ⟨b, off, spot⟩ := x
        have hspot : spot = none := by simpa [Addr.add] using World.cell?_spot (i2 0 _ (List.getElem?_eq_getElem h0)).1.1
        subst hspot
        refine .inr ⟨b, off, rfl, fun i it hi => ?_⟩
        obtain ⟨⟨q0, q1, q2, q3, q4, q5, q6, q7, q8, q9, q10, q11, q12⟩, _⟩ := i2 i it hi
        rw [Go.WideShapes.add_plain] at q0 q1 q2 q3 q4 q5 q6 q7 q8 q9 q10 q11 q12
        rw [Go.WideShapes.add_plain] at q1 q2 q3 q4 q5 q6 q7 q8 q9 q10 q11 q12
        exact ⟨q0, q1, q2, q3, q4, q5, q6, q7, q8, q9, q10, q11, q12⟩
    · intro it hit
      obtain ⟨i, hi⟩ := List.getElem?_of_mem hit
      exact (i2 i it hi).2
end Go.Proofs.YtbmbijadnojfaaaGreatDoor

/-
  THE WALK OF IeeeExact (made by mkelaw.py).
-/
namespace Go.Proofs.YtbmbijadnojfaaaGreatDoor
open Go Go.RowKit Go.Deep

/-- A box that holds these cells. -/
def Bx (w : World) (g : Nat) (t : Nat) (cs : Array Value) : Prop := w.heap[g]? = some (.cells cs t (0, 0))
theorem Bx.lt {w : World} {g t : Nat} {cs : Array Value} (h : Bx w g t cs) : g < w.heap.size := by
  rcases Nat.lt_or_ge g w.heap.size with c | c
  · exact c
  · simp [Bx, Array.getElem?_eq_none c] at h
theorem Bx.on {w w' : World} {g t : Nat} {cs : Array Value} (h : Bx w g t cs) (hB : Below w.heap.size w w') : Bx w' g t cs := by
  rw [Bx, hB.block g h.lt]; exact h
theorem Bx.set {w : World} {g t o : Nat} {cs : Array Value} (h : Bx w g t cs) (v : Value) : Bx (w.setCell ⟨g, o, none⟩ v) g t (cs.setIfInBounds o v) := by
  simp only [Bx] at *
  simp [World.setCell, Array.getElem?_modify, h]
theorem Bx.far {w : World} {g g' t o : Nat} {cs : Array Value} (h : Bx w g t cs) (ne : g' ≠ g) (v : Value) : Bx (w.setCell ⟨g', o, none⟩ v) g t cs := by
  simp only [Bx] at *
  simp [World.setCell, Array.getElem?_modify, ne, h]
theorem Bx.c13 {w : World} {g t : Nat} {v0 v1 v2 v3 v4 v5 v6 v7 v8 v9 v10 v11 v12 : Value} (h : Bx w g t #[v0, v1, v2, v3, v4, v5, v6, v7, v8, v9, v10, v11, v12]) : (w.cell? ⟨g, 0, none⟩ = some (v0) ∧ w.cell? ⟨g, 1, none⟩ = some (v1) ∧ w.cell? ⟨g, 2, none⟩ = some (v2) ∧ w.cell? ⟨g, 3, none⟩ = some (v3) ∧ w.cell? ⟨g, 4, none⟩ = some (v4) ∧ w.cell? ⟨g, 5, none⟩ = some (v5) ∧ w.cell? ⟨g, 6, none⟩ = some (v6) ∧ w.cell? ⟨g, 7, none⟩ = some (v7) ∧ w.cell? ⟨g, 8, none⟩ = some (v8) ∧ w.cell? ⟨g, 9, none⟩ = some (v9) ∧ w.cell? ⟨g, 10, none⟩ = some (v10) ∧ w.cell? ⟨g, 11, none⟩ = some (v11) ∧ w.cell? ⟨g, 12, none⟩ = some (v12)) ∧ ∀ o, w.frozen? ⟨g, o, none⟩ = false := by
  simp only [Bx] at h
  refine ⟨⟨?_, ?_, ?_, ?_, ?_, ?_, ?_, ?_, ?_, ?_, ?_, ?_, ?_⟩, fun o => ?_⟩ <;> simp [World.cell?, World.frozen?, h]
theorem Bx.c10 {w : World} {g t : Nat} {v0 v1 v2 v3 v4 v5 v6 v7 v8 v9 : Value} (h : Bx w g t #[v0, v1, v2, v3, v4, v5, v6, v7, v8, v9]) : (w.cell? ⟨g, 0, none⟩ = some (v0) ∧ w.cell? ⟨g, 1, none⟩ = some (v1) ∧ w.cell? ⟨g, 2, none⟩ = some (v2) ∧ w.cell? ⟨g, 3, none⟩ = some (v3) ∧ w.cell? ⟨g, 4, none⟩ = some (v4) ∧ w.cell? ⟨g, 5, none⟩ = some (v5) ∧ w.cell? ⟨g, 6, none⟩ = some (v6) ∧ w.cell? ⟨g, 7, none⟩ = some (v7) ∧ w.cell? ⟨g, 8, none⟩ = some (v8) ∧ w.cell? ⟨g, 9, none⟩ = some (v9)) := by
  simp only [Bx] at h
  refine ⟨?_, ?_, ?_, ?_, ?_, ?_, ?_, ?_, ?_, ?_⟩ <;> simp [World.cell?, h]
theorem Arg.setF {w : World} {p : Option Addr} {n cap : Nat} {zs : List Int} (h : Arg w p n cap zs) {g o : Nat} (hp : 0 < zs.length → ∀ a, p = some a → a.block ≠ g) (v : Value) : Arg (w.setCell ⟨g, o, none⟩ v) p n cap zs := by
  obtain ⟨h1, h2, h3, h4, h5⟩ := h
  refine ⟨h1, h2, h3, ?_, h5⟩
  rcases h4 with c | ⟨b, off, hp', hc⟩
  · exact .inl c
  · refine .inr ⟨b, off, hp', fun i hi => ?_⟩
    have ne : g ≠ b := fun e => hp (by omega) _ hp' e.symm
    have := hc i hi
    rw [World.cell?] at this ⊢
    simp only [World.setCell, Array.getElem?_modify]
    rw [if_neg ne]
    exact this
theorem alloc_b2 (w : World) (A : Obj) : Below w.heap.size w (w.alloc A) := Below.alloc (w := w) (Below.refl w.heap.size w) (Nat.le_refl _) A
theorem own_arg {w : World} {g n : Nat} {zs : List Int} (h : Own w g zs) (hl : zs.length = n) (hn : n ≤ 17592186044416) (hz : Nm.Limbs zs) : Arg w (some ⟨g, 0, none⟩) n n zs := ⟨hl, Nat.le_refl _, by omega, h.lies, hz⟩

set_option maxRecDepth 100000 in
set_option maxHeartbeats 8000000 in
theorem ieeeExact_law (a : Option Addr) (len cap : Nat) (its : List E4) (w : World) (hl : its.length = len) (hc : len ≤ cap) (hm : cap ≤ 17592186044416) (hh : E4.Holds w a its) (hb : ∀ it ∈ its, E4.Bd w it) (hT : Tab w) :
    Calls Tryz.prog 3 #[.slice a len cap] w fun e w' => e = .returned (.bool true) ∧ Below w.heap.size w w' := by
  have AW := hid (awake_any w hT)
  have GT : Hid (∀ i, i < len → ∃ (b off : Nat) (it : E4), a = some ⟨b, off, none⟩ ∧ (∀ wx : World, Below w.heap.size w wx → E4.Cells wx b (off + i * 13) it ∧ Arg wx it.p1 it.n1 it.c1 it.z1 ∧ Arg wx it.p2 it.n2 it.c2 it.z2) ∧ (∀ wx : World, Below w.heap.size w wx → EBth it.K it.X it.Y it.I it.pn it.pc it.pm it.px it.neg it.p1 it.p2 it.n1 it.n2 it.c1 it.c2 it.ex it.more wx it.z1 it.z2)) := by
    intro i hi
    have he : its[i]? = some its[i] := List.getElem?_eq_getElem (by omega)
    rcases hh with c | ⟨b, off, e, h⟩
    · rw [c] at hl; simp at hl; omega
    · have hc2 := h i _ he
      obtain ⟨b1, b2, b3, b4, b5, b6⟩ := hb _ (List.getElem_mem (show i < its.length by omega))
      refine ⟨b, off, its[i], e, fun wx hB => ⟨?_, b5.below hB (Nat.le_refl _), b6.below hB (Nat.le_refl _)⟩, fun wx hB => both_any _ _ _ _ _ _ _ _ _ _ _ _ _ _ _ _ _ wx _ _ (hT.below hB) b1.1 b1.2 b2.1 b2.2 b3.1 b3.2 b4.1 b4.2 (b5.below hB (Nat.le_refl _)) (b6.below hB (Nat.le_refl _))⟩
      obtain ⟨q0, q1, q2, q3, q4, q5, q6, q7, q8, q9, q10, q11, q12⟩ := hc2
      refine ⟨?_, ?_, ?_, ?_, ?_, ?_, ?_, ?_, ?_, ?_, ?_, ?_, ?_⟩
      · rw [hB.cell (p := ⟨b, off + i * 13, none⟩) (cell_lt q0)]; exact q0
      · rw [hB.cell (p := ⟨b, off + i * 13 + 1, none⟩) (cell_lt q1)]; exact q1
      · rw [hB.cell (p := ⟨b, off + i * 13 + 2, none⟩) (cell_lt q2)]; exact q2
      · rw [hB.cell (p := ⟨b, off + i * 13 + 3, none⟩) (cell_lt q3)]; exact q3
      · rw [hB.cell (p := ⟨b, off + i * 13 + 4, none⟩) (cell_lt q4)]; exact q4
      · rw [hB.cell (p := ⟨b, off + i * 13 + 5, none⟩) (cell_lt q5)]; exact q5
      · rw [hB.cell (p := ⟨b, off + i * 13 + 6, none⟩) (cell_lt q6)]; exact q6
      · rw [hB.cell (p := ⟨b, off + i * 13 + 7, none⟩) (cell_lt q7)]; exact q7
      · rw [hB.cell (p := ⟨b, off + i * 13 + 8, none⟩) (cell_lt q8)]; exact q8
      · rw [hB.cell (p := ⟨b, off + i * 13 + 9, none⟩) (cell_lt q9)]; exact q9
      · rw [hB.cell (p := ⟨b, off + i * 13 + 10, none⟩) (cell_lt q10)]; exact q10
      · rw [hB.cell (p := ⟨b, off + i * 13 + 11, none⟩) (cell_lt q11)]; exact q11
      · rw [hB.cell (p := ⟨b, off + i * 13 + 12, none⟩) (cell_lt q12)]; exact q12
  have lb : (len : Int) ≤ 17592186044416 := by omega
  clear hh hb hT hl
  go_enter Tryz.func3, Tryz.ntmps3
  go_wp2_with fail
  refine AW.out.mono ?_
  rintro e w1 ⟨rfl, B1⟩
  have HB1 := hid B1
  clear B1 AW
  go_wp2_with fail
  go_loopg [3, 4, 5] len (fun j i _ _ wr => ∃ k : Nat, k + j = len ∧ i = .int .i64 (k : Int) ∧ Hid (Below w.heap.size w wr))
  case atStart => exact ⟨0, by omega, rfl, HB1.out⟩
  case round =>
    obtain ⟨k, hk, rfl, In⟩ := hrel
    cases gk with
    | zero =>
      have hki : ¬ (k : Int) < (len : Int) := by omega
      go_wp2_with fail
      go_ret
      exact ⟨rfl, In.out⟩
    | succ u9 =>
      have hki : (k : Int) < (len : Int) := by omega
      obtain ⟨bl, off, it, ha, hcell, hboth⟩ := GT.out k (by omega)
      subst ha
      obtain ⟨Q, one, WA, AS⟩ := hboth wr In.out
      obtain ⟨cells, A1, A2⟩ := hcell wr In.out
      obtain ⟨K, X, Y, I, pn, pc, pm, px, neg, p1, n1, c1, z1, p2, n2, c2, z2, ex, more⟩ := it
      simp only at *
      obtain ⟨q0, q1, q2, q3, q4, q5, q6, q7, q8, q9, q10, q11, q12⟩ := cells
      simp only at q0 q1 q2 q3 q4 q5 q6 q7 q8 q9 q10 q11 q12
      have HW := hid WA
      have HAS := hid AS
      have ONE := hid one
      have HA1 := hid A1
      have HA2 := hid A2
      clear WA AS one A1 A2 hcell hboth GT
      simp only [opOf] at HW HAS
      go_upto_region 7 with fail
      have X1 := hid (show Bx (wr.alloc (.cells #[.int .i64 K, .int .u64 X, .int .u64 Y, .int .i64 I, .bool pn, .int .i64 pc, .int .u64 pm, .int .i64 px, .bool neg, .slice p1 n1 c1, .slice p2 n2 c2, .int .i64 ex, .bool more] 29)) wr.heap.size 29 #[.int .i64 K, .int .u64 X, .int .u64 Y, .int .i64 I, .bool pn, .int .i64 pc, .int .u64 pm, .int .i64 px, .bool neg, .slice p1 n1 c1, .slice p2 n2 c2, .int .i64 ex, .bool more] from heap_alloc_new wr _)
      have B1 := alloc_b2 wr (.cells #[.int .i64 K, .int .u64 X, .int .u64 Y, .int .i64 I, .bool pn, .int .i64 pc, .int .u64 pm, .int .i64 px, .bool neg, .slice p1 n1 c1, .slice p2 n2 c2, .int .i64 ex, .bool more] 29)
      have W1 := hid (HW.out _ B1)
      have HB1b := hid B1
      have g1l : Hid (wr.heap.size < (wr.alloc (.cells #[.int .i64 K, .int .u64 X, .int .u64 Y, .int .i64 I, .bool pn, .int .i64 pc, .int .u64 pm, .int .i64 px, .bool neg, .slice p1 n1 c1, .slice p2 n2 c2, .int .i64 ex, .bool more] 29)).heap.size) := X1.out.lt
      clear B1 HW
      generalize wr.alloc (.cells #[.int .i64 K, .int .u64 X, .int .u64 Y, .int .i64 I, .bool pn, .int .i64 pc, .int .u64 pm, .int .i64 px, .bool neg, .slice p1 n1 c1, .slice p2 n2 c2, .int .i64 ex, .bool more] 29) = wA at *
      obtain ⟨g1, hg1⟩ : ∃ g1, wr.heap.size = g1 := ⟨_, rfl⟩
      rw [hg1] at X1 g1l
      obtain ⟨⟨r0, r1, r2, r3, r4, r5, r6, r7, r8, r9, r10, r11, r12⟩, -⟩ := X1.out.c13
      simp only [hg1]
      go_wp2_with fail
      refine W1.out.mono ?_
      rintro r w2 ⟨⟨u, i, j, b, ng, c, m, x, e, zs⟩, pl, cl, rfl, hQ, AL, PL, B2⟩
      simp only [ansV, ansOf] at *
      have HQ := hid hQ
      obtain ⟨ll, hll⟩ : ∃ ll, zs.length = ll := ⟨_, rfl⟩
      rw [hll] at AL
      simp only [hll]
      go_upto_region 8 with fail
      have B3 := alloc_b2 w2 (.cells #[.int .u64 u, .int .i64 i, .int .i64 j, .bool b, .bool ng, .int .i64 c, .int .u64 m, .int .i64 x, .slice pl ll cl, .int .i64 e] 31)
      have X3 : Bx (w2.alloc (.cells #[.int .u64 u, .int .i64 i, .int .i64 j, .bool b, .bool ng, .int .i64 c, .int .u64 m, .int .i64 x, .slice pl ll cl, .int .i64 e] 31)) w2.heap.size 31 #[.int .u64 u, .int .i64 i, .int .i64 j, .bool b, .bool ng, .int .i64 c, .int .u64 m, .int .i64 x, .slice pl ll cl, .int .i64 e] := heap_alloc_new w2 _
      have X1c := (X1.out.on B2).on B3
      have ALc := AL.below B3 (Nat.le_refl _)
      have BC := HB1b.out.trans ((B2.trans (B3.mono B2.size)).mono HB1b.out.size)
      rw [hg1] at BC
      have g12 : g1 < w2.heap.size := Nat.lt_of_lt_of_le g1l.out B2.size
      have PLc : ∀ a', pl = some a' → a'.block ≠ g1 := fun a' h => by have := PL a' h; have := g1l.out; omega
      have A1c := HA1.out.below (by rw [hg1]; exact BC) (Nat.le_refl _)
      have A2c := HA2.out.below (by rw [hg1]; exact BC) (Nat.le_refl _)
      have P1c : 0 < z1.length → ∀ a', p1 = some a' → a'.block < g1 := fun h a' ha => by rw [← hg1]; exact HA1.out.2.2.2.1.lt h a' ha
      have P2c : 0 < z2.length → ∀ a', p2 = some a' → a'.block < g1 := fun h a' ha => by rw [← hg1]; exact HA2.out.2.2.2.1.lt h a' ha
      have lim1 := HA1.out.2.2.2.2
      have lim2 := HA2.out.2.2.2.2
      have len1 : z1.length = n1 := HA1.out.1
      have len2 : z2.length = n2 := HA2.out.1
      have cap1 : n1 ≤ 17592186044416 := by have := HA1.out.2.1; have := HA1.out.2.2.1; omega
      have cap2 : n2 ≤ 17592186044416 := by have := HA2.out.2.1; have := HA2.out.2.2.1; omega
      have CP1 := hid (copied_any p1 n1 c1 z1 _ A1c)
      have HALL := hid (And.intro X1c (And.intro X3 (And.intro ALc (And.intro A2c BC))))
      have HLIM := hid (And.intro lim1 (And.intro lim2 (And.intro len1 (And.intro len2 (And.intro cap1 cap2)))))
      have HPL := hid (And.intro PLc P2c)
      have HG12 := hid g12
      obtain ⟨⟨r0, r1, r2, r3, r4, r5, r6, r7, r8, r9, r10, r11, r12⟩, rf⟩ := X1c.c13
      clear B2 B3 X3 X1c ALc BC A1c A2c P1c P2c lim1 lim2 len1 len2 cap1 cap2 PL AL hQ W1 X1 HB1b g1l HA1 HA2 PLc q0 q1 q2 q3 q4 q5 q6 q7 q8 q9 q10 q11 q12 hll g12
      generalize w2.alloc (.cells #[.int .u64 u, .int .i64 i, .int .i64 j, .bool b, .bool ng, .int .i64 c, .int .u64 m, .int .i64 x, .slice pl ll cl, .int .i64 e] 31) = w3 at *
      generalize hg2 : w2.heap.size = g2 at *
      clear hg2
      have rf9 := rf 9
      have rf10 := rf 10
      go_wp2_with fail
      refine CP1.out.mono ?_
      rintro r w4 ⟨rfl, OW4, B4, S4⟩
      obtain ⟨h1, hh1⟩ : ∃ h1, w3.heap.size = h1 := ⟨_, rfl⟩
      rw [hh1] at OW4
      have g1h : g1 < h1 := by rw [← hh1]; exact HALL.out.1.lt
      have g2h : g2 < h1 := by rw [← hh1]; exact HALL.out.2.1.lt
      have X4 := HALL.out.1.on B4
      have Y4 := HALL.out.2.1.on B4
      have AL4 := HALL.out.2.2.1.below B4 (Nat.le_refl _)
      have A24 := HALL.out.2.2.2.1.below B4 (Nat.le_refl _)
      have BC4 := HALL.out.2.2.2.2.trans (B4.mono (by have := HALL.out.2.2.2.2.size; omega))
      have AO4 := own_arg OW4 HLIM.out.2.2.1 HLIM.out.2.2.2.2.1 HLIM.out.1
      have X5 := hid (X4.set (o := 9) (.slice (some ⟨h1, 0, none⟩) n1 n1))
      simp only [Array.setIfInBounds] at X5
      have Y5 := hid (Y4.far (g' := g1) (o := 9) (by have := HG12.out; omega) (.slice (some ⟨h1, 0, none⟩) n1 n1))
      have AL5 := hid (AL4.setF (g := g1) (o := 9) (fun _ => HPL.out.1) (.slice (some ⟨h1, 0, none⟩) n1 n1))
      have A25 := hid (A24.setF (g := g1) (o := 9) (fun h a' ha => by have := HPL.out.2 h a' ha; omega) (.slice (some ⟨h1, 0, none⟩) n1 n1))
      have AO5 := hid (AO4.setF (g := g1) (o := 9) (fun _ a' ha => by cases ha; show h1 ≠ g1; omega) (.slice (some ⟨h1, 0, none⟩) n1 n1))
      have BC5 := hid (BC4.setCell (p := ⟨g1, 9, none⟩) (by rw [← hg1]; exact Nat.le_refl _) (.slice (some ⟨h1, 0, none⟩) n1 n1))
      obtain ⟨⟨s0, s1, s2, s3, s4, s5, s6, s7, s8, s9, s10, s11, s12⟩, sf⟩ := X4.c13
      have sf9 := sf 9
      clear B4 X4 Y4 AL4 A24 BC4 AO4 OW4 S4 HALL CP1 rf rf9 rf10 sf r0 r1 r2 r3 r4 r5 r6 r7 r8 r9 r10 r11 r12
      simp only [hh1]
      go_upto_region 9 with fail
      clear s0 s1 s2 s3 s4 s5 s6 s7 s8 s9 s10 s11 s12 sf9
      generalize w4.setCell ⟨g1, 9, none⟩ (.slice (some ⟨h1, 0, none⟩) n1 n1) = w5 at *
      have CP2 := hid (copied_any p2 n2 c2 z2 w5 A25.out)
      obtain ⟨⟨r0, r1, r2, r3, r4, r5, r6, r7, r8, r9, r10, r11, r12⟩, rf⟩ := X5.out.c13
      have rf9 := rf 9
      have rf10 := rf 10
      go_wp2_with fail
      refine CP2.out.mono ?_
      rintro r w6 ⟨rfl, OW6, B6, S6⟩
      obtain ⟨h2, hh2⟩ : ∃ h2, w5.heap.size = h2 := ⟨_, rfl⟩
      rw [hh2] at OW6
      have X6 := X5.out.on B6
      have Y6 := Y5.out.on B6
      have AL6 := AL5.out.below B6 (Nat.le_refl _)
      have AN6 := AO5.out.below B6 (Nat.le_refl _)
      have BC6 := BC5.out.trans (B6.mono (by have := BC5.out.size; omega))
      have g1h2 : g1 < h2 := by rw [← hh2]; exact X5.out.lt
      have AO6 := own_arg OW6 HLIM.out.2.2.2.1 HLIM.out.2.2.2.2.2 HLIM.out.2.1
      have X7 := hid (X6.set (o := 10) (.slice (some ⟨h2, 0, none⟩) n2 n2))
      simp only [Array.setIfInBounds] at X7
      have Y7 := hid (Y6.far (g' := g1) (o := 10) (by have := HG12.out; omega) (.slice (some ⟨h2, 0, none⟩) n2 n2))
      have AL7 := hid (AL6.setF (g := g1) (o := 10) (fun _ => HPL.out.1) (.slice (some ⟨h2, 0, none⟩) n2 n2))
      have AN7 := hid (AN6.setF (g := g1) (o := 10) (fun _ a' ha => by cases ha; show h1 ≠ g1; omega) (.slice (some ⟨h2, 0, none⟩) n2 n2))
      have AO7 := hid (AO6.setF (g := g1) (o := 10) (fun _ a' ha => by cases ha; show h2 ≠ g1; omega) (.slice (some ⟨h2, 0, none⟩) n2 n2))
      have BC7 := hid (BC6.setCell (p := ⟨g1, 10, none⟩) (by rw [← hg1]; exact Nat.le_refl _) (.slice (some ⟨h2, 0, none⟩) n2 n2))
      obtain ⟨⟨s0, s1, s2, s3, s4, s5, s6, s7, s8, s9, s10, s11, s12⟩, sf⟩ := X6.c13
      have sf10 := sf 10
      clear B6 X6 Y6 AL6 AN6 BC6 AO6 OW6 S6 CP2 rf rf9 rf10 sf r0 r1 r2 r3 r4 r5 r6 r7 r8 r9 r10 r11 r12 X5 Y5 AL5 A25 AO5 BC5
      simp only [hh2]
      go_upto_region 10 with fail
      clear s0 s1 s2 s3 s4 s5 s6 s7 s8 s9 s10 s11 s12 sf10
      generalize w6.setCell ⟨g1, 10, none⟩ (.slice (some ⟨h2, 0, none⟩) n2 n2) = w7 at *
      obtain ⟨SS, hSS⟩ : ∃ SS : World → Prop, SS = fun wx => Bx wx g1 29 #[.int .i64 K, .int .u64 X, .int .u64 Y, .int .i64 I, .bool pn, .int .i64 pc, .int .u64 pm, .int .i64 px, .bool neg, .slice (some ⟨h1, 0, none⟩) n1 n1, .slice (some ⟨h2, 0, none⟩) n2 n2, .int .i64 ex, .bool more] ∧ Bx wx g2 31 #[.int .u64 u, .int .i64 i, .int .i64 j, .bool b, .bool ng, .int .i64 c, .int .u64 m, .int .i64 x, .slice pl ll cl, .int .i64 e] ∧ Arg wx (some ⟨h1, 0, none⟩) n1 n1 z1 ∧ Arg wx (some ⟨h2, 0, none⟩) n2 n2 z2 ∧ Arg wx pl ll cl zs ∧ Below wr.heap.size wr wx := ⟨_, rfl⟩
      have S7 : Hid (SS w7) := by rw [hSS]; exact ⟨X7.out, Y7.out, AN7.out, AO7.out, AL7.out, by rw [hg1]; exact BC7.out⟩
      have KS : Hid (∀ wx w' : World, SS wx → Below wx.heap.size wx w' → SS w') := by
        intro wx w' h hB
        rw [hSS] at h ⊢
        exact ⟨h.1.on hB, h.2.1.on hB, h.2.2.1.below hB (Nat.le_refl _), h.2.2.2.1.below hB (Nat.le_refl _), h.2.2.2.2.1.below hB (Nat.le_refl _), h.2.2.2.2.2.trans (hB.mono h.2.2.2.2.2.size)⟩
      have CS : Hid (∀ wx : World, SS wx → (wx.cell? ⟨g1, 0, none⟩ = some (.int .i64 K) ∧ wx.cell? ⟨g1, 1, none⟩ = some (.int .u64 X) ∧ wx.cell? ⟨g1, 2, none⟩ = some (.int .u64 Y) ∧ wx.cell? ⟨g1, 3, none⟩ = some (.int .i64 I) ∧ wx.cell? ⟨g1, 4, none⟩ = some (.bool pn) ∧ wx.cell? ⟨g1, 5, none⟩ = some (.int .i64 pc) ∧ wx.cell? ⟨g1, 6, none⟩ = some (.int .u64 pm) ∧ wx.cell? ⟨g1, 7, none⟩ = some (.int .i64 px) ∧ wx.cell? ⟨g1, 8, none⟩ = some (.bool neg) ∧ wx.cell? ⟨g1, 9, none⟩ = some (.slice (some ⟨h1, 0, none⟩) n1 n1) ∧ wx.cell? ⟨g1, 10, none⟩ = some (.slice (some ⟨h2, 0, none⟩) n2 n2) ∧ wx.cell? ⟨g1, 11, none⟩ = some (.int .i64 ex) ∧ wx.cell? ⟨g1, 12, none⟩ = some (.bool more)) ∧ (wx.cell? ⟨g2, 0, none⟩ = some (.int .u64 u) ∧ wx.cell? ⟨g2, 1, none⟩ = some (.int .i64 i) ∧ wx.cell? ⟨g2, 2, none⟩ = some (.int .i64 j) ∧ wx.cell? ⟨g2, 3, none⟩ = some (.bool b) ∧ wx.cell? ⟨g2, 4, none⟩ = some (.bool ng) ∧ wx.cell? ⟨g2, 5, none⟩ = some (.int .i64 c) ∧ wx.cell? ⟨g2, 6, none⟩ = some (.int .u64 m) ∧ wx.cell? ⟨g2, 7, none⟩ = some (.int .i64 x) ∧ wx.cell? ⟨g2, 8, none⟩ = some (.slice pl ll cl) ∧ wx.cell? ⟨g2, 9, none⟩ = some (.int .i64 e))) := by
        intro wx h
        rw [hSS] at h
        exact ⟨h.1.c13.1, h.2.1.c10⟩
      have BS : Hid (∀ wx : World, SS wx → Below wr.heap.size wr wx) := by
        intro wx h
        rw [hSS] at h
        exact h.2.2.2.2.2
      have AK : Hid (∀ wx : World, SS wx → Calls Tryz.prog 8 #[.agg #[.int .i64 K, .int .u64 X, .int .u64 Y, .int .i64 I, .bool pn, .int .i64 pc, .int .u64 pm, .int .i64 px, .bool neg, .slice (some ⟨h1, 0, none⟩) n1 n1, .slice (some ⟨h2, 0, none⟩) n2 n2, .int .i64 ex, .bool more]] wx fun r w' => ∃ pl' cl', r = .returned (.agg #[.int .u64 u, .int .i64 i, .int .i64 j, .bool b, .bool ng, .int .i64 c, .int .u64 m, .int .i64 x, .slice pl' ll cl', .int .i64 e]) ∧ Arg w' pl' ll cl' zs ∧ Below wx.heap.size wx w') := by
        intro wx h
        rw [hSS] at h
        refine (HAS.out wx _ _ _ _ h.2.2.2.2.2 h.2.2.1 h.2.2.2.1).mono ?_
        rintro r w' ⟨a', pl', cl', rfl, hQ', AL', -, hB⟩
        obtain rfl := ONE.out a' _ hQ' HQ.out
        simp only at AL' ⊢
        have e : zs.length = ll := AL7.out.1
        rw [e] at AL' ⊢
        exact ⟨pl', cl', rfl, AL', hB⟩
      have LK : Hid (∀ (wx : World) (pl' : Option Addr) (cl' : Nat), SS wx → Arg wx pl' ll cl' zs → Calls Tryz.prog 7 #[.agg #[.int .u64 u, .int .i64 i, .int .i64 j, .bool b, .bool ng, .int .i64 c, .int .u64 m, .int .i64 x, .slice pl' ll cl', .int .i64 e], .agg #[.int .u64 u, .int .i64 i, .int .i64 j, .bool b, .bool ng, .int .i64 c, .int .u64 m, .int .i64 x, .slice pl ll cl, .int .i64 e]] wx fun r w' => r = .returned (.bool true) ∧ Below wx.heap.size wx w') := by
        intro wx pl' cl' h hA
        rw [hSS] at h
        have := alike_same u i j b ng c m x e pl' pl ll ll cl' cl zs wx hA h.2.2.2.2.1
        simp only [ansOf] at this
        exact this
      clear hSS X7 Y7 AL7 AN7 AO7 BC7 HAS ONE HQ HLIM HPL HG12
      have T1 := hid (KS.out _ _ S7.out (show Below w7.heap.size w7 w7.drew from ⟨rfl, rfl, rfl, Nat.le_refl _, fun _ _ => rfl⟩))
      obtain ⟨⟨r0, r1, r2, r3, r4, r5, r6, r7, r8, r9, r10, r11, r12⟩, ⟨t0, t1, t2, t3, t4, t5, t6, t7, t8, t9⟩⟩ := CS.out _ S7.out
      go_region_held3 (fun w' => (w'.cell? ⟨g1, 0, none⟩ = some (.int .i64 K) ∧ w'.cell? ⟨g1, 1, none⟩ = some (.int .u64 X) ∧ w'.cell? ⟨g1, 2, none⟩ = some (.int .u64 Y) ∧ w'.cell? ⟨g1, 3, none⟩ = some (.int .i64 I) ∧ w'.cell? ⟨g1, 4, none⟩ = some (.bool pn) ∧ w'.cell? ⟨g1, 5, none⟩ = some (.int .i64 pc) ∧ w'.cell? ⟨g1, 6, none⟩ = some (.int .u64 pm) ∧ w'.cell? ⟨g1, 7, none⟩ = some (.int .i64 px) ∧ w'.cell? ⟨g1, 8, none⟩ = some (.bool neg) ∧ w'.cell? ⟨g1, 9, none⟩ = some (.slice (some ⟨h1, 0, none⟩) n1 n1) ∧ w'.cell? ⟨g1, 10, none⟩ = some (.slice (some ⟨h2, 0, none⟩) n2 n2) ∧ w'.cell? ⟨g1, 11, none⟩ = some (.int .i64 ex) ∧ w'.cell? ⟨g1, 12, none⟩ = some (.bool more)) ∧ (w'.cell? ⟨g2, 0, none⟩ = some (.int .u64 u) ∧ w'.cell? ⟨g2, 1, none⟩ = some (.int .i64 i) ∧ w'.cell? ⟨g2, 2, none⟩ = some (.int .i64 j) ∧ w'.cell? ⟨g2, 3, none⟩ = some (.bool b) ∧ w'.cell? ⟨g2, 4, none⟩ = some (.bool ng) ∧ w'.cell? ⟨g2, 5, none⟩ = some (.int .i64 c) ∧ w'.cell? ⟨g2, 6, none⟩ = some (.int .u64 m) ∧ w'.cell? ⟨g2, 7, none⟩ = some (.int .i64 x) ∧ w'.cell? ⟨g2, 8, none⟩ = some (.slice pl ll cl) ∧ w'.cell? ⟨g2, 9, none⟩ = some (.int .i64 e))) (first | (with_reducible exact CS.out _ T3.out) | (with_reducible exact CS.out _ T2.out) | (with_reducible exact CS.out _ T1.out)) (first
        | (go_at_call 8; refine (AK.out _ T1.out).mono ?_; rintro r w8 ⟨pl', cl', rfl, hA, hB⟩; have T2 := hid (KS.out _ _ T1.out hB); have L2 := hid (LK.out w8 pl' cl' T2.out hA); clear hB hA)
        | (go_at_call 7; refine L2.out.mono ?_; rintro r w9 ⟨rfl, hB⟩; have T3 := hid (KS.out _ _ T2.out hB); clear hB))
      all_goals
        have FB := hid (In.out.trans ((BS.out _ T3.out).mono In.out.size))
        go_wp2_with fail
        go_roundg u9
        case measure => omega
        case rel => exact ⟨k + 1, by omega, by go_num, FB.out⟩
end Go.Proofs.YtbmbijadnojfaaaGreatDoor

namespace Go.Proofs.YtbmbijadnojfaaaGreatDoor
open Go Go.RowKit Go.Deep

theorem tab_laid : (Rows.laid_math_bits_deBruijn64tab : DataW Unit) = Lib.tabData .u8 (List.map Int.ofNat Lib.deBruijn64tab) := by kernel_rfl

theorem tab_of {W : World} {rest : List (String × DataW Unit)} (h : laidMet Tryz.prog (("math/bits.deBruijn64tab", Rows.laid_math_bits_deBruijn64tab) :: rest) W) : Tab W := by
  rw [tab_laid] at h
  have ht := Lib.tabIs_of_head (g := 0) (t := 86) (e := 5) (n := 64) (k := .u8) (zs := List.map Int.ofNat Lib.deBruijn64tab) (by kernel_rfl) (by kernel_rfl) Tryz.underlying86 Tryz.underlying5 (by kernel_rfl) (by kernel_rfl) h
  intro j hj
  have hl : (List.map Int.ofNat Lib.deBruijn64tab).length = Lib.deBruijn64tab.length := by simp
  rw [ht.cell (g := 0) (by kernel_rfl) j (by omega)]
  simp [List.getD, hj]

end Go.Proofs.YtbmbijadnojfaaaGreatDoor
