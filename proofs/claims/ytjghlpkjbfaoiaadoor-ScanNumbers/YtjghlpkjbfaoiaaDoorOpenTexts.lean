/-
  A LIST OF STRINGS AS IT COMES IN.
-/
import Derived.Test.YtjghlpkjbfaoiaaDoorOpenDecs
namespace Go.Proofs.YtjghlpkjbfaoiaaDoor
open Go.RowKit Go.Deep Go.ChangeShapes Go.WideShapes Go.ChangeAt

def Tx.Holds (w : World) (a : Option Addr) (its : List ByteArray) : Prop := its = [] ∨ ∃ b off, a = some ⟨b, off, none⟩ ∧ ∀ i it, its[i]? = some it → w.cell? ⟨b, off + i, none⟩ = some (.string it)
def Tx.Bd (it : ByteArray) : Prop := it.size ≤ 140737488351232

set_option maxRecDepth 100000 in
theorem open_texts {H : Type} {enc : TypeId × Value → H} {W : World} {a : Option Addr} {len cap : Nat} {d : DataW H} {p : List MemPlace} (h : DataW.Trod enc Tryd.prog W 0 (fun _ => true) true 22 (.slice a len cap) d p)
    (hsz : ∀ n ∈ d.weights Tryd.prog 22, n ≤ reachBytes) : ∃ its : List ByteArray, its.length = len ∧ len ≤ cap ∧ cap ≤ 17592186044416 ∧ Tx.Holds W a its ∧ ∀ it ∈ its, Tx.Bd it := by
  obtain ⟨fuel, hf⟩ := h
  rcases DataW.trod_slice Tryd.underlying22 hf with ⟨hcs, _⟩ | ⟨x, l, c, elems, rest, n, _, hcs, hx, _, hl, hm, he, hel, hsp, _⟩
  · simp [Value.cells] at hcs
    obtain ⟨rfl, rfl, rfl⟩ := hcs
    exact ⟨[], rfl, Nat.le_refl _, by omega, .inl rfl, by intro it h; simp at h⟩
  · simp [Value.cells] at hcs
    obtain ⟨rfl, rfl, rfl⟩ := hcs
    have hd : d = .slice (elems.map (·.1)) (rest.map (·.1)) := (Prod.mk.inj hx).1
    have hw : ∀ n ∈ (DataW.slice (elems.map (·.1)) (rest.map (·.1)) : DataW H).weights Tryd.prog 22, n ≤ reachBytes := by rw [← hd]; exact hsz
    simp only [DataW.weights, Tryd.underlying22] at hw
    have hr := hw _ List.mem_cons_self
    rw [show Tryd.prog.bytesOf 9 = 16 by kernel_rfl] at hr
    have hrl := (hsp rfl).1
    simp only [List.length_map, reachBytes] at hr
    have hcap : cap ≤ 17592186044416 := by omega
    rw [show Tryd.prog.cellsOf 9 = 1 by kernel_rfl] at hel
    obtain ⟨its, i1, i2⟩ := list_of_each (Q := fun i (it : ByteArray) => W.cell? (x.add i) = some (.string it) ∧ Tx.Bd it) len (fun i hi => by
      have h1 := hel i hi
      have h2 : elems[i]? = some elems[i] := List.getElem?_eq_getElem (by omega)
      rw [h2, Nat.mul_one] at h1
      obtain ⟨cs, h3, h4⟩ := Option.bind_eq_some_iff.1 h1
      obtain ⟨s, rfl, q1, _⟩ := DataW.trod_string Tryd.underlying9 h4
      have hs : s.data.toList.length ≤ reachBytes := by
        refine hw _ (List.mem_cons_of_mem _ (List.mem_append_left _ (all_mem (List.mem_map.2 ⟨elems[i], List.getElem_mem _, rfl⟩) _ ?_)))
        rw [q1]
        simp [DataW.weights]
      rw [Array.length_toList] at hs
      exact ⟨s, cell_of_cells?_one h3, Nat.le_trans (show s.size ≤ reachBytes from hs) (by decide)⟩)
    refine ⟨its, i1, hl, hcap, ?_, ?_⟩
    · rcases Nat.eq_zero_or_pos its.length with h0 | h0
      · exact .inl (List.eq_nil_of_length_eq_zero h0)
      · obtain ⟨b, off, spot⟩ := x
        have hspot : spot = none := by simpa [Addr.add] using World.cell?_spot (i2 0 _ (List.getElem?_eq_getElem h0)).1
        subst hspot
        refine .inr ⟨b, off, rfl, fun i it hi => ?_⟩
        have := (i2 i it hi).1
        rw [Go.WideShapes.add_plain] at this
        exact this
    · intro it hit
      obtain ⟨i, hi⟩ := List.getElem?_of_mem hit
      exact (i2 i it hi).2
end Go.Proofs.YtjghlpkjbfaoiaaDoor
