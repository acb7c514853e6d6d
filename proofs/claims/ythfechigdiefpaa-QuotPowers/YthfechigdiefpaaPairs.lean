/-
  Texts put together: OpenList, OpenPairs.
-/
import Derived.Test.YthfechigdiefpaaMem
import Derived.SizedLaws
import Derived.ProofKit
namespace Go.Proofs.Ythfechigdiefpaa
open Go.RowKit Go.Deep Go.ChangeShapes Go.WideShapes Go.ChangeAt

/-- A list of limbs that was read, wherever it stands. -/
theorem open_list {H : Type} {enc : TypeId × Value → H} {W : World} {fuel : Nat} {c : Value} {y : DataW H × List MemPlace} (hf : DataW.trod enc Try.prog W 0 (fun _ => true) true fuel 24 [c] = some y)
    (hsz : ∀ n ∈ y.1.weights Try.prog 24, n ≤ reachBytes) : ∃ p n cap zs, c = .slice p n cap ∧ Arg W p n cap zs ∧ cap ≤ 17592186043904 := by
  rcases open_ints Try.underlying24 Try.underlying26 (by kernel_rfl) hf with ⟨hcs, _⟩ | ⟨x, l, cp, zs, hcs, _, hl, hm, hz, hx, hcell, hwz⟩
  · simp only [List.cons.injEq, and_true] at hcs
    exact ⟨none, 0, 0, [], hcs, ⟨rfl, Nat.le_refl _, by omega, Lies.nil _ _, Nm.Limbs.nil⟩, by omega⟩
  · simp only [List.cons.injEq, and_true] at hcs
    have hz' : zs.length = cp := by simpa using hz
    have hr := hsz (((lits (H := H) .u64 (zs.take l)).length + (lits (H := H) .u64 (zs.drop l)).length) * Try.prog.bytesOf 26) (by rw [hx]; simp [DataW.weights, Try.underlying24])
    rw [show Try.prog.bytesOf 26 = 8 by kernel_rfl] at hr
    simp only [lits, List.length_map, List.length_take, List.length_drop, reachBytes] at hr
    have hb : cp ≤ 17592186043904 := by omega
    exact ⟨some x, l, cp, _, hcs, arg_open hl hz' hb hcell hwz, hb⟩

theorem all_mem {H : Type} {P : Program} {e : TypeId} : ∀ {l : List (DataW H)} {d : DataW H}, d ∈ l → ∀ n ∈ d.weights P e, n ∈ DataW.weightsAll P e l
  | [], _, h, _, _ => by simp at h
  | x :: r, d, h, n, hn => by
    simp only [DataW.weightsAll, List.mem_append]
    rcases List.mem_cons.1 h with rfl | h
    · exact .inl hn
    · exact .inr (all_mem h n hn)

/-- What can be told of each place can be told of a list. -/
theorem list_of_each {α : Type} {Q : Nat → α → Prop} : ∀ n, (∀ i, i < n → ∃ x, Q i x) → ∃ l : List α, l.length = n ∧ ∀ i x, l[i]? = some x → Q i x
  | 0, _ => ⟨[], rfl, by simp⟩
  | n + 1, h => by
    obtain ⟨l, h1, h2⟩ := list_of_each n (fun i hi => h i (by omega))
    obtain ⟨x, hx⟩ := h n (by omega)
    refine ⟨l ++ [x], by simp [h1], fun i y hy => ?_⟩
    by_cases hi : i < l.length
    · rw [List.getElem?_append_left hi] at hy
      exact h2 i y hy
    · have hlt := (List.getElem?_eq_some_iff.1 hy).1
      simp only [List.length_append, List.length_cons, List.length_nil] at hlt
      obtain rfl : i = n := by omega
      rw [List.getElem?_append_right (by omega), h1, Nat.sub_self] at hy
      simp at hy
      subst hy
      exact hx
end Go.Proofs.Ythfechigdiefpaa

namespace Go.Proofs.Ythfechigdiefpaa
open Go.RowKit Go.Deep Go.ChangeShapes Go.WideShapes Go.ChangeAt

/-- A pair that was read. -/
structure PIt where
  p1 : Option Addr
  n1 : Nat
  c1 : Nat
  z1 : List Int
  p2 : Option Addr
  n2 : Nat
  c2 : Nat
  z2 : List Int
  N : Int

/-- Its three cells stand there. -/
def PCells (w : World) (b o : Nat) (it : PIt) : Prop :=
  w.cell? ⟨b, o, none⟩ = some (.slice it.p1 it.n1 it.c1) ∧ w.cell? ⟨b, o + 1, none⟩ = some (.slice it.p2 it.n2 it.c2) ∧ w.cell? ⟨b, o + 2, none⟩ = some (.int .i64 it.N)

def PArg (w : World) (it : PIt) : Prop := Arg w it.p1 it.n1 it.c1 it.z1 ∧ Arg w it.p2 it.n2 it.c2 it.z2 ∧ (-9223372036854775808 ≤ it.N ∧ it.N ≤ 9223372036854775807)

def PHolds (w : World) (a : Option Addr) (its : List PIt) : Prop := its = [] ∨ ∃ b off, a = some ⟨b, off, none⟩ ∧ ∀ i it, its[i]? = some it → PCells w b (off + i * 3) it

theorem list3 {α : Type} {l : List α} (h : l.length = 3) : ∃ c0 c1 c2, l = [c0, c1, c2] := by
  match l, h with
  | [c0, c1, c2], _ => exact ⟨c0, c1, c2, rfl⟩

theorem open_pair {H : Type} {enc : TypeId × Value → H} {W : World} {fuel : Nat} {a0 a1 a2 : Value} {y : DataW H × List MemPlace} (hf : DataW.trod enc Try.prog W 0 (fun _ => true) true fuel 28 [a0, a1, a2] = some y)
    (hsz : ∀ n ∈ y.1.weights Try.prog 28, n ≤ reachBytes) : ∃ it : PIt, a0 = .slice it.p1 it.n1 it.c1 ∧ a1 = .slice it.p2 it.n2 it.c2 ∧ a2 = .int .i64 it.N ∧ PArg W it := by
  obtain ⟨xs, n, _, hx, _, hlen, hfs⟩ := DataW.trod_struct Try.underlying28 hf
  obtain ⟨y0, y1, y2, rfl⟩ := list3 hlen
  have c3 : Try.prog.cellsOf 3 = 1 := by kernel_rfl
  have cs : Try.prog.cellsOf 24 = 1 := by kernel_rfl
  have f0 : DataW.trod enc Try.prog W 0 (fun _ => true) true n 24 [a0] = some y0 := by simpa [cs] using hfs 0 _ rfl
  have f1 : DataW.trod enc Try.prog W 0 (fun _ => true) true n 24 [a1] = some y1 := by simpa [cs] using hfs 1 _ rfl
  have f2 : DataW.trod enc Try.prog W 0 (fun _ => true) true n 3 [a2] = some y2 := by simpa [c3] using hfs 2 _ rfl
  have hd : y.1 = .agg [y0.1, y1.1, y2.1] := by rw [hx]; rfl
  have hw : ∀ (j : Nat) (t : TypeId) (e : DataW H), [24, 24, 3][j]? = some t → [y0.1, y1.1, y2.1][j]? = some e → ∀ n ∈ e.weights Try.prog t, n ≤ reachBytes := by
    intro j t e ht he n hn
    refine hsz n ?_
    rw [hd]
    simp only [DataW.weights, Try.underlying28]
    exact DataW.weights_mem_each ht he n hn
  obtain ⟨N, e2, _, w2⟩ := DataW.trod_int Try.underlying3 f2
  obtain ⟨p1, n1, c1, z1, rfl, A1, _⟩ := open_list f0 (hw 0 _ _ rfl rfl)
  obtain ⟨p2, n2, c2, z2, rfl, A2, _⟩ := open_list f1 (hw 1 _ _ rfl rfl)
  have b2 := bounds_i64 w2
  exact ⟨⟨p1, n1, c1, z1, p2, n2, c2, z2, N⟩, rfl, rfl, (List.cons.inj e2).1, A1, A2, by show _ ∧ _; omega⟩

theorem open_pairs {H : Type} {enc : TypeId × Value → H} {W : World} {a : Option Addr} {len cap : Nat} {d : DataW H} {p : List MemPlace} (h : DataW.Trod enc Try.prog W 0 (fun _ => true) true 22 (.slice a len cap) d p)
    (hsz : ∀ n ∈ d.weights Try.prog 22, n ≤ reachBytes) : ∃ its : List PIt, its.length = len ∧ len ≤ cap ∧ cap ≤ 17592186044416 ∧ PHolds W a its ∧ ∀ it ∈ its, PArg W it := by
  obtain ⟨fuel, hf⟩ := h
  rcases DataW.trod_slice Try.underlying22 hf with ⟨hcs, _⟩ | ⟨x, l, c, elems, rest, n, _, hcs, hx, _, hl, hm, he, hel, hsp, _⟩
  · simp [Value.cells] at hcs
    obtain ⟨rfl, rfl, rfl⟩ := hcs
    exact ⟨[], rfl, Nat.le_refl _, by omega, .inl rfl, by intro it h; simp at h⟩
  · simp [Value.cells] at hcs
    obtain ⟨rfl, rfl, rfl⟩ := hcs
    have hd : d = .slice (elems.map (·.1)) (rest.map (·.1)) := (Prod.mk.inj hx).1
    have hw : ∀ n ∈ (DataW.slice (elems.map (·.1)) (rest.map (·.1)) : DataW H).weights Try.prog 22, n ≤ reachBytes := by rw [← hd]; exact hsz
    simp only [DataW.weights, Try.underlying22] at hw
    have hr := hw _ List.mem_cons_self
    rw [show Try.prog.bytesOf 28 = 56 by kernel_rfl] at hr
    have hrl := (hsp rfl).1
    simp only [List.length_map, reachBytes] at hr
    have hcap : cap ≤ 17592186044416 := by omega
    rw [show Try.prog.cellsOf 28 = 3 by kernel_rfl] at hel
    obtain ⟨its, i1, i2⟩ := list_of_each (Q := fun i (it : PIt) => (W.cell? (x.add (i * 3)) = some (.slice it.p1 it.n1 it.c1) ∧ W.cell? ((x.add (i * 3)).add 1) = some (.slice it.p2 it.n2 it.c2) ∧ W.cell? ((x.add (i * 3)).add 2) = some (.int .i64 it.N)) ∧ PArg W it) len (fun i hi => by
      have h1 := hel i hi
      have h2 : elems[i]? = some elems[i] := List.getElem?_eq_getElem (by omega)
      rw [h2] at h1
      obtain ⟨cs, h3, h4⟩ := Option.bind_eq_some_iff.1 h1
      obtain ⟨_, h5, h6⟩ := World.cells?_some h3
      obtain ⟨v0, v1, v2, rfl⟩ := list3 h5
      have e0 := h6 0 (by omega)
      have e1 := h6 1 (by omega)
      have e2 := h6 2 (by omega)
      have h8 : (x.add (i * 3)).add 0 = x.add (i * 3) := by simp [Addr.add]
      rw [h8] at e0
      obtain ⟨it, q0, q1, q2, hA⟩ := open_pair h4 (fun n hn => hw n (List.mem_cons_of_mem _ (List.mem_append_left _ (all_mem (List.mem_map.2 ⟨_, List.getElem_mem (by omega), rfl⟩) n hn))))
      subst q0
      subst q1
      subst q2
      exact ⟨it, ⟨e0, e1, e2⟩, hA⟩)
    refine ⟨its, i1, hl, hcap, ?_, ?_⟩
    · rcases Nat.eq_zero_or_pos its.length with h0 | h0
      · exact .inl (List.eq_nil_of_length_eq_zero h0)
      · obtain ⟨b, off, spot⟩ := x
        have hspot : spot = none := by simpa [Addr.add] using World.cell?_spot (i2 0 _ (List.getElem?_eq_getElem h0)).1.1
        subst hspot
        refine .inr ⟨b, off, rfl, fun i it hi => ?_⟩
        obtain ⟨⟨q0, q1, q2⟩, _⟩ := i2 i it hi
        rw [Go.WideShapes.add_plain] at q0 q1 q2
        rw [Go.WideShapes.add_plain] at q1 q2
        exact ⟨q0, q1, q2⟩
    · intro it hit
      obtain ⟨i, hi⟩ := List.getElem?_of_mem hit
      exact (i2 i it hi).2
end Go.Proofs.Ythfechigdiefpaa
