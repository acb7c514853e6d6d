/-
  Texts put together: OpenList, OpenOps1, NAlike.
-/
import Derived.Test.YtffkopijfelacaaDoorMem
import Derived.SizedLaws
import Derived.ProofKit
import Derived.Test.YtffkopijfelacaaDoorRF
namespace Go.Proofs.YtffkopijfelacaaDoor
open Go.RowKit Go.Deep Go.ChangeShapes Go.WideShapes Go.ChangeAt

/-- A list of limbs that was read, wherever it stands. -/
theorem open_list {H : Type} {enc : TypeId × Value → H} {W : World} {fuel : Nat} {c : Value} {y : DataW H × List MemPlace} (hf : DataW.trod enc Tryd.prog W 0 (fun _ => true) true fuel 24 [c] = some y)
    (hsz : ∀ n ∈ y.1.weights Tryd.prog 24, n ≤ reachBytes) : ∃ p n cap zs, c = .slice p n cap ∧ Arg W p n cap zs ∧ cap ≤ 17592186043904 := by
  rcases open_ints Tryd.underlying24 Tryd.underlying25 (by kernel_rfl) hf with ⟨hcs, _⟩ | ⟨x, l, cp, zs, hcs, _, hl, hm, hz, hx, hcell, hwz⟩
  · simp only [List.cons.injEq, and_true] at hcs
    exact ⟨none, 0, 0, [], hcs, ⟨rfl, Nat.le_refl _, by omega, Lies.nil _ _, Nm.Limbs.nil⟩, by omega⟩
  · simp only [List.cons.injEq, and_true] at hcs
    have hz' : zs.length = cp := by simpa using hz
    have hr := hsz (((lits (H := H) .u64 (zs.take l)).length + (lits (H := H) .u64 (zs.drop l)).length) * Tryd.prog.bytesOf 25) (by rw [hx]; simp [DataW.weights, Tryd.underlying24])
    rw [show Tryd.prog.bytesOf 25 = 8 by kernel_rfl] at hr
    simp only [lits, List.length_map, List.length_take, List.length_drop, reachBytes] at hr
    have hb : cp ≤ 17592186043904 := by omega
    exact ⟨some x, l, cp, _, hcs, arg_open hl hz' hb hcell hwz, hb⟩

theorem all_mem {H : Type} {P : Program} {e : TypeId} : ∀ {l : List (DataW H)} {d : DataW H}, d ∈ l → ∀ n ∈ d.weights P e, n ∈ DataW.weightsAll P e l
  | [], _, h, _, _ => by simp at h
  | x :: r, d, h, n, hn => by
    simp only [DataW.weightsAll, List.mem_append]
    rcases List.mem_cons.1 h with rfl | h
    · exact .inl hn
    · exact .inr (all_mem h n hn)

/-- What can be told of each place can be told of a list. -/
theorem list_of_each {α : Type} {Q : Nat → α → Prop} : ∀ n, (∀ i, i < n → ∃ x, Q i x) → ∃ l : List α, l.length = n ∧ ∀ i x, l[i]? = some x → Q i x
  | 0, _ => ⟨[], rfl, by simp⟩
  | n + 1, h => by
    obtain ⟨l, h1, h2⟩ := list_of_each n (fun i hi => h i (by omega))
    obtain ⟨x, hx⟩ := h n (by omega)
    refine ⟨l ++ [x], by simp [h1], fun i y hy => ?_⟩
    by_cases hi : i < l.length
    · rw [List.getElem?_append_left hi] at hy
      exact h2 i y hy
    · have hlt := (List.getElem?_eq_some_iff.1 hy).1
      simp only [List.length_append, List.length_cons, List.length_nil] at hlt
      obtain rfl : i = n := by omega
      rw [List.getElem?_append_right (by omega), h1, Nat.sub_self] at hy
      simp at hy
      subst hy
      exact hx
end Go.Proofs.YtffkopijfelacaaDoor

namespace Go.Proofs.YtffkopijfelacaaDoor
open Go.RowKit Go.Deep Go.ChangeShapes Go.WideShapes Go.ChangeAt

/-- A call that was read. -/
structure E1 where
  K : Int
  M : Int
  C : Int
  N : Int
  p1 : Option Addr
  n1 : Nat
  c1 : Nat
  z1 : List Int
  p2 : Option Addr
  n2 : Nat
  c2 : Nat
  z2 : List Int

/-- Its cells stand there. -/
def E1.Cells (w : World) (b o : Nat) (it : E1) : Prop :=
  w.cell? ⟨b, o, none⟩ = some (.int .i64 it.K) ∧ w.cell? ⟨b, o + 1, none⟩ = some (.slice it.p1 it.n1 it.c1) ∧ w.cell? ⟨b, o + 2, none⟩ = some (.slice it.p2 it.n2 it.c2) ∧ w.cell? ⟨b, o + 3, none⟩ = some (.int .u64 it.M) ∧ w.cell? ⟨b, o + 4, none⟩ = some (.int .u64 it.C) ∧ w.cell? ⟨b, o + 5, none⟩ = some (.int .i64 it.N)

def E1.Bd (w : World) (it : E1) : Prop := (0 ≤ it.M ∧ it.M < 18446744073709551616) ∧ (0 ≤ it.C ∧ it.C < 18446744073709551616) ∧ it.N ≤ 9223372036854775807 ∧ Arg w it.p1 it.n1 it.c1 it.z1 ∧ Arg w it.p2 it.n2 it.c2 it.z2

def E1.Holds (w : World) (a : Option Addr) (its : List E1) : Prop := its = [] ∨ ∃ b off, a = some ⟨b, off, none⟩ ∧ ∀ i it, its[i]? = some it → E1.Cells w b (off + i * 6) it

theorem list6o {α : Type} {l : List α} (h : l.length = 6) : ∃ a0 a1 a2 a3 a4 a5, l = [a0, a1, a2, a3, a4, a5] := by
  match l, h with
  | [a0, a1, a2, a3, a4, a5], _ => exact ⟨a0, a1, a2, a3, a4, a5, rfl⟩

theorem open_op1 {H : Type} {enc : TypeId × Value → H} {W : World} {fuel : Nat} {a0 a1 a2 a3 a4 a5 : Value} {y : DataW H × List MemPlace} (hf : DataW.trod enc Tryd.prog W 0 (fun _ => true) true fuel 27 [a0, a1, a2, a3, a4, a5] = some y)
    (hsz : ∀ n ∈ y.1.weights Tryd.prog 27, n ≤ reachBytes) : ∃ it : E1, a0 = .int .i64 it.K ∧ a1 = .slice it.p1 it.n1 it.c1 ∧ a2 = .slice it.p2 it.n2 it.c2 ∧ a3 = .int .u64 it.M ∧ a4 = .int .u64 it.C ∧ a5 = .int .i64 it.N ∧ it.Bd W := by
  obtain ⟨xs, n, _, hx, _, hlen, hfs⟩ := DataW.trod_struct Tryd.underlying27 hf
  obtain ⟨y0, y1, y2, y3, y4, y5, rfl⟩ := list6o hlen
  have ci : Tryd.prog.cellsOf 3 = 1 := by kernel_rfl
  have cu : Tryd.prog.cellsOf 25 = 1 := by kernel_rfl
  have cs : Tryd.prog.cellsOf 24 = 1 := by kernel_rfl
  have f0 : DataW.trod enc Tryd.prog W 0 (fun _ => true) true n 3 [a0] = some y0 := by simpa [ci, cu, cs] using hfs 0 _ rfl
  have f1 : DataW.trod enc Tryd.prog W 0 (fun _ => true) true n 24 [a1] = some y1 := by simpa [ci, cu, cs] using hfs 1 _ rfl
  have f2 : DataW.trod enc Tryd.prog W 0 (fun _ => true) true n 24 [a2] = some y2 := by simpa [ci, cu, cs] using hfs 2 _ rfl
  have f3 : DataW.trod enc Tryd.prog W 0 (fun _ => true) true n 25 [a3] = some y3 := by simpa [ci, cu, cs] using hfs 3 _ rfl
  have f4 : DataW.trod enc Tryd.prog W 0 (fun _ => true) true n 25 [a4] = some y4 := by simpa [ci, cu, cs] using hfs 4 _ rfl
  have f5 : DataW.trod enc Tryd.prog W 0 (fun _ => true) true n 3 [a5] = some y5 := by simpa [ci, cu, cs] using hfs 5 _ rfl
  have hd : y.1 = .agg [y0.1, y1.1, y2.1, y3.1, y4.1, y5.1] := by rw [hx]; rfl
  have hw : ∀ (j : Nat) (t : TypeId) (e : DataW H), [3, 24, 24, 25, 25, 3][j]? = some t → [y0.1, y1.1, y2.1, y3.1, y4.1, y5.1][j]? = some e → ∀ n ∈ e.weights Tryd.prog t, n ≤ reachBytes := by
    intro j t e ht he n hn
    refine hsz n ?_
    rw [hd]
    simp only [DataW.weights, Tryd.underlying27]
    exact DataW.weights_mem_each ht he n hn
  obtain ⟨K, e0, _, w0⟩ := DataW.trod_int Tryd.underlying3 f0
  obtain ⟨p1, n1, c1, z1, q1, A1, _⟩ := open_list f1 (hw 1 _ _ rfl rfl)
  obtain ⟨p2, n2, c2, z2, q2, A2, _⟩ := open_list f2 (hw 2 _ _ rfl rfl)
  obtain ⟨M, e3, _, w3⟩ := DataW.trod_int Tryd.underlying25 f3
  obtain ⟨C, e4, _, w4⟩ := DataW.trod_int Tryd.underlying25 f4
  obtain ⟨N, e5, _, w5⟩ := DataW.trod_int Tryd.underlying3 f5
  have b3 := bounds_u64 w3
  have b4 := bounds_u64 w4
  have b5 := bounds_i64 w5
  have bM : 0 ≤ M ∧ M < 18446744073709551616 := by omega
  have bC : 0 ≤ C ∧ C < 18446744073709551616 := by omega
  have bN : N ≤ 9223372036854775807 := by omega
  exact ⟨⟨K, M, C, N, p1, n1, c1, z1, p2, n2, c2, z2⟩, (List.cons.inj e0).1, q1, q2, (List.cons.inj e3).1, (List.cons.inj e4).1, (List.cons.inj e5).1, bM, bC, bN, A1, A2⟩

theorem open_ops1 {H : Type} {enc : TypeId × Value → H} {W : World} {a : Option Addr} {len cap : Nat} {d : DataW H} {p : List MemPlace} (h : DataW.Trod enc Tryd.prog W 0 (fun _ => true) true 22 (.slice a len cap) d p)
    (hsz : ∀ n ∈ d.weights Tryd.prog 22, n ≤ reachBytes) : ∃ its : List E1, its.length = len ∧ len ≤ cap ∧ cap ≤ 17592186044416 ∧ E1.Holds W a its ∧ ∀ it ∈ its, E1.Bd W it := by
  obtain ⟨fuel, hf⟩ := h
  rcases DataW.trod_slice Tryd.underlying22 hf with ⟨hcs, _⟩ | ⟨x, l, c, elems, rest, n, _, hcs, hx, _, hl, hm, he, hel, hsp, _⟩
  · simp [Value.cells] at hcs
    obtain ⟨rfl, rfl, rfl⟩ := hcs
    exact ⟨[], rfl, Nat.le_refl _, by omega, .inl rfl, by intro it h; simp at h⟩
  · simp [Value.cells] at hcs
    obtain ⟨rfl, rfl, rfl⟩ := hcs
    have hd : d = .slice (elems.map (·.1)) (rest.map (·.1)) := (Prod.mk.inj hx).1
    have hw : ∀ n ∈ (DataW.slice (elems.map (·.1)) (rest.map (·.1)) : DataW H).weights Tryd.prog 22, n ≤ reachBytes := by rw [← hd]; exact hsz
    simp only [DataW.weights, Tryd.underlying22] at hw
    have hr := hw _ List.mem_cons_self
    rw [show Tryd.prog.bytesOf 27 = 80 by kernel_rfl] at hr
    have hrl := (hsp rfl).1
    simp only [List.length_map, reachBytes] at hr
    have hcap : cap ≤ 17592186044416 := by omega
    rw [show Tryd.prog.cellsOf 27 = 6 by kernel_rfl] at hel
    obtain ⟨its, i1, i2⟩ := list_of_each (Q := fun i (it : E1) => (W.cell? (x.add (i * 6)) = some (.int .i64 it.K) ∧ W.cell? ((x.add (i * 6)).add 1) = some (.slice it.p1 it.n1 it.c1) ∧ W.cell? ((x.add (i * 6)).add 2) = some (.slice it.p2 it.n2 it.c2) ∧ W.cell? ((x.add (i * 6)).add 3) = some (.int .u64 it.M) ∧ W.cell? ((x.add (i * 6)).add 4) = some (.int .u64 it.C) ∧ W.cell? ((x.add (i * 6)).add 5) = some (.int .i64 it.N)) ∧ it.Bd W) len (fun i hi => by
      have h1 := hel i hi
      have h2 : elems[i]? = some elems[i] := List.getElem?_eq_getElem (by omega)
      rw [h2] at h1
      obtain ⟨cs, h3, h4⟩ := Option.bind_eq_some_iff.1 h1
      obtain ⟨_, h5, h6⟩ := World.cells?_some h3
      obtain ⟨v0, v1, v2, v3, v4, v5, rfl⟩ := list6o h5
      have e0 := h6 0 (by omega)
      have e1 := h6 1 (by omega)
      have e2 := h6 2 (by omega)
      have e3 := h6 3 (by omega)
      have e4 := h6 4 (by omega)
      have e5 := h6 5 (by omega)
      have h8 : (x.add (i * 6)).add 0 = x.add (i * 6) := by simp [Addr.add]
      rw [h8] at e0
      obtain ⟨it, q0, q1, q2, q3, q4, q5, hA⟩ := open_op1 h4 (fun n hn => hw n (List.mem_cons_of_mem _ (List.mem_append_left _ (all_mem (List.mem_map.2 ⟨_, List.getElem_mem (by omega), rfl⟩) n hn))))
      subst q0
      subst q1
      subst q2
      subst q3
      subst q4
      subst q5
      exact ⟨it, ⟨e0, e1, e2, e3, e4, e5⟩, hA⟩)
    refine ⟨its, i1, hl, hcap, ?_, ?_⟩
    · rcases Nat.eq_zero_or_pos its.length with h0 | h0
      · exact .inl (List.eq_nil_of_length_eq_zero h0)
      · obtain ⟨b, off, spot⟩ := x
        have hspot : spot = none := by simpa [Addr.add] using World.cell?_spot (i2 0 _ (List.getElem?_eq_getElem h0)).1.1
        subst hspot
        refine .inr ⟨b, off, rfl, fun i it hi => ?_⟩
        obtain ⟨⟨q0, q1, q2, q3, q4, q5⟩, _⟩ := i2 i it hi
        rw [Go.WideShapes.add_plain] at q0 q1 q2 q3 q4 q5
        rw [Go.WideShapes.add_plain] at q1 q2 q3 q4 q5
        exact ⟨q0, q1, q2, q3, q4, q5⟩
    · intro it hit
      obtain ⟨i, hi⟩ := List.getElem?_of_mem hit
      exact (i2 i it hi).2
end Go.Proofs.YtffkopijfelacaaDoor

/-
  NatExact: alike.
-/
namespace Go.Proofs.YtffkopijfelacaaDoor
open Go Go.RowKit Go.Deep

set_option maxRecDepth 100000 in
set_option maxHeartbeats 8000000 in
theorem alike_same1 (u i : Int) (b : Bool) (e : Int) (p q : Option Addr) (n k cap cap' : Nat) (zs : List Int) (w : World) (A : Arg w p n cap zs) (B : Arg w q k cap' zs) :
    Calls Tryd.prog 7 #[ansOf1 (.slice p n cap) u i b e, ansOf1 (.slice q k cap') u i b e] w fun r w' => r = .returned (.bool true) ∧ Below w.heap.size w w' := by
  simp only [ansOf1]
  have SA : Hid (∀ wx, Below w.heap.size w wx → Calls Tryd.prog 27 #[.slice p n cap, .slice q k cap'] wx fun e w' => e = .returned (.bool true) ∧ Below w.heap.size w w') := by
    intro wx hB
    refine (refSame_any p q n cap k cap' zs zs wx (A.below hB (Nat.le_refl _)) (B.below hB (Nat.le_refl _))).mono ?_
    rintro r w' ⟨rfl, h⟩
    exact ⟨by simp, hB.trans (h.mono hB.size)⟩
  clear A B
  go_enter Tryd.func7, Tryd.ntmps7
  go_wp2_with fail
  refine (SA.out _ (alloc2_belowN w _ _)).mono ?_
  rintro r w' ⟨rfl, hB⟩
  have HB := hid hB
  clear hB SA
  go_wp2_with fail
  go_ret
  exact ⟨rfl, HB.out⟩
end Go.Proofs.YtffkopijfelacaaDoor
