/-
  A LIST OF Decs AS IT COMES IN: the three fields of each, read.
-/
import Derived.Test.YtjghlpkjbfaoiaaDoorOpenDec
namespace Go.Proofs.YtjghlpkjbfaoiaaDoor
open Go.RowKit Go.Deep Go.ChangeShapes Go.WideShapes Go.ChangeAt

theorem all_mem {H : Type} {P : Program} {e : TypeId} : ∀ {l : List (DataW H)} {d : DataW H}, d ∈ l → ∀ n ∈ d.weights P e, n ∈ DataW.weightsAll P e l
  | [], _, h, _, _ => by simp at h
  | x :: r, d, h, n, hn => by
    simp only [DataW.weightsAll, List.mem_append]
    rcases List.mem_cons.1 h with rfl | h
    · exact .inl hn
    · exact .inr (all_mem h n hn)

/-- What can be told of each place can be told of a list. -/
theorem list_of_each {α : Type} {Q : Nat → α → Prop} : ∀ n, (∀ i, i < n → ∃ x, Q i x) → ∃ l : List α, l.length = n ∧ ∀ i x, l[i]? = some x → Q i x
  | 0, _ => ⟨[], rfl, by simp⟩
  | n + 1, h => by
    obtain ⟨l, h1, h2⟩ := list_of_each n (fun i hi => h i (by omega))
    obtain ⟨x, hx⟩ := h n (by omega)
    refine ⟨l ++ [x], by simp [h1], fun i y hy => ?_⟩
    by_cases hi : i < l.length
    · rw [List.getElem?_append_left hi] at hy
      exact h2 i y hy
    · have hlt := (List.getElem?_eq_some_iff.1 hy).1
      simp only [List.length_append, List.length_cons, List.length_nil] at hlt
      obtain rfl : i = n := by omega
      rw [List.getElem?_append_right (by omega), h1, Nat.sub_self] at hy
      simp at hy
      subst hy
      exact hx

/-- A Dec that was read. -/
structure Dc where
  n : Bool
  s : ByteArray
  e : Int

def Dc.Cells (w : World) (b o : Nat) (it : Dc) : Prop :=
  w.cell? ⟨b, o, none⟩ = some (.bool it.n) ∧ w.cell? ⟨b, o + 1, none⟩ = some (.string it.s) ∧ w.cell? ⟨b, o + 2, none⟩ = some (.int .i64 it.e)
def Dc.Bd (it : Dc) : Prop := it.s.size ≤ 140737488351232 ∧ (-9223372036854775808 ≤ it.e ∧ it.e ≤ 9223372036854775807)
def Dc.Holds (w : World) (a : Option Addr) (its : List Dc) : Prop := its = [] ∨ ∃ b off, a = some ⟨b, off, none⟩ ∧ ∀ i it, its[i]? = some it → Dc.Cells w b (off + i * 3) it

set_option maxRecDepth 100000 in
theorem open_decs {H : Type} {enc : TypeId × Value → H} {W : World} {a : Option Addr} {len cap : Nat} {d : DataW H} {p : List MemPlace} (h : DataW.Trod enc Tryd.prog W 0 (fun _ => true) true 26 (.slice a len cap) d p)
    (hsz : ∀ n ∈ d.weights Tryd.prog 26, n ≤ reachBytes) : ∃ its : List Dc, its.length = len ∧ len ≤ cap ∧ cap ≤ 17592186044416 ∧ Dc.Holds W a its ∧ ∀ it ∈ its, Dc.Bd it := by
  obtain ⟨fuel, hf⟩ := h
  rcases DataW.trod_slice Tryd.underlying26 hf with ⟨hcs, _⟩ | ⟨x, l, c, elems, rest, n, _, hcs, hx, _, hl, hm, he, hel, hsp, _⟩
  · simp [Value.cells] at hcs
    obtain ⟨rfl, rfl, rfl⟩ := hcs
    exact ⟨[], rfl, Nat.le_refl _, by omega, .inl rfl, by intro it h; simp at h⟩
  · simp [Value.cells] at hcs
    obtain ⟨rfl, rfl, rfl⟩ := hcs
    have hd : d = .slice (elems.map (·.1)) (rest.map (·.1)) := (Prod.mk.inj hx).1
    have hw : ∀ n ∈ (DataW.slice (elems.map (·.1)) (rest.map (·.1)) : DataW H).weights Tryd.prog 26, n ≤ reachBytes := by rw [← hd]; exact hsz
    simp only [DataW.weights, Tryd.underlying26] at hw
    have hr := hw _ List.mem_cons_self
    rw [show Tryd.prog.bytesOf 29 = 32 by kernel_rfl] at hr
    have hrl := (hsp rfl).1
    simp only [List.length_map, reachBytes] at hr
    have hcap : cap ≤ 17592186044416 := by omega
    rw [show Tryd.prog.cellsOf 29 = 3 by kernel_rfl] at hel
    obtain ⟨its, i1, i2⟩ := list_of_each (Q := fun i (it : Dc) => (W.cell? (x.add (i * 3)) = some (.bool it.n) ∧ W.cell? ((x.add (i * 3)).add 1) = some (.string it.s) ∧ W.cell? ((x.add (i * 3)).add 2) = some (.int .i64 it.e)) ∧ it.Bd) len (fun i hi => by
      have h1 := hel i hi
      have h2 : elems[i]? = some elems[i] := List.getElem?_eq_getElem (by omega)
      rw [h2] at h1
      obtain ⟨cs, h3, h4⟩ := Option.bind_eq_some_iff.1 h1
      obtain ⟨_, h5, h6⟩ := World.cells?_some h3
      obtain ⟨v0, v1, v2, rfl⟩ := list3 h5
      have e0 := h6 0 (by omega)
      have e1 := h6 1 (by omega)
      have e2 := h6 2 (by omega)
      have h8 : (x.add (i * 3)).add 0 = x.add (i * 3) := by simp [Addr.add]
      rw [h8] at e0
      obtain ⟨ng, s, e, q0, q1, q2, hA, hE⟩ := open_dec_cells h4 (fun m hm => hw m (List.mem_cons_of_mem _ (List.mem_append_left _ (all_mem (List.mem_map.2 ⟨elems[i], List.getElem_mem _, rfl⟩) m hm))))
      subst q0
      subst q1
      subst q2
      exact ⟨⟨ng, s, e⟩, ⟨e0, e1, e2⟩, hA, hE⟩)
    refine ⟨its, i1, hl, hcap, ?_, ?_⟩
    · rcases Nat.eq_zero_or_pos its.length with h0 | h0
      · exact .inl (List.eq_nil_of_length_eq_zero h0)
      · obtain ⟨b, off, spot⟩ := x
        have hspot : spot = none := by simpa [Addr.add] using World.cell?_spot (i2 0 _ (List.getElem?_eq_getElem h0)).1.1
        subst hspot
        refine .inr ⟨b, off, rfl, fun i it hi => ?_⟩
        obtain ⟨⟨q0, q1, q2⟩, _⟩ := i2 i it hi
        rw [Go.WideShapes.add_plain] at q0 q1 q2
        rw [Go.WideShapes.add_plain] at q1 q2
        exact ⟨q0, q1, q2⟩
    · intro it hit
      obtain ⟨i, hi⟩ := List.getElem?_of_mem hit
      exact (i2 i it hi).2
end Go.Proofs.YtjghlpkjbfaoiaaDoor
