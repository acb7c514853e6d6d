/-
  A LIST OF STRINGS AS IT COMES IN, with its bulk.
-/
import Derived.Test.YtaadooippelcfaaDoorGC
import Derived.Test.YtaadooippelcfaaDoorGB
namespace Go.Proofs.YtaadooippelcfaaDoor
open Go Go.RowKit Go.Deep Go.ChangeShapes Go.WideShapes Go.ChangeAt

set_option maxRecDepth 100000 in
theorem open_tx {H : Type} {enc : TypeId × Value → H} {W : World} {a : Option Addr} {len cap : Nat} {d : DataW H} {p : List MemPlace} (h : DataW.Trod enc Tryd.prog W 0 (fun _ => true) true 32 (.slice a len cap) d p)
    (_hsz : ∀ n ∈ d.weights Tryd.prog 32, n ≤ reachBytes) : ∃ its : List ByteArray, its.length = len ∧ Dm.TL W a its ∧ (∀ it ∈ its, it.size ≤ Rows.uptoBulk d) ∧ len ≤ Rows.uptoBulk d := by
  obtain ⟨fuel, hf⟩ := h
  rcases DataW.trod_slice Tryd.underlying32 hf with ⟨hcs, _⟩ | ⟨x, l, c, elems, rest, n, _, hcs, hx, _, hl, hm, he, hel, hsp, _⟩
  · simp [Value.cells] at hcs
    obtain ⟨rfl, rfl, rfl⟩ := hcs
    exact ⟨[], rfl, by intro i s h; simp at h, by intro it h; simp at h, by omega⟩
  · simp [Value.cells] at hcs
    obtain ⟨rfl, rfl, rfl⟩ := hcs
    have hd : d = .slice (elems.map (·.1)) (rest.map (·.1)) := (Prod.mk.inj hx).1
    have hbl : len ≤ Rows.uptoBulk d := by
      rw [hd]
      refine Nat.le_trans ?_ (bulk_slice _ _)
      rw [List.length_map]; omega
    rw [show Tryd.prog.cellsOf 9 = 1 by kernel_rfl] at hel
    obtain ⟨its, i1, i2⟩ := plist_of_each (Q := fun i (it : ByteArray) => W.cell? (x.add i) = some (.string it) ∧ it.size ≤ Rows.uptoBulk d) len (fun i hi => by
      have h1 := hel i hi
      have h2 : elems[i]? = some elems[i] := List.getElem?_eq_getElem (by omega)
      rw [h2, Nat.mul_one] at h1
      obtain ⟨cs, h3, h4⟩ := Option.bind_eq_some_iff.1 h1
      obtain ⟨s, rfl, q1, _⟩ := DataW.trod_string Tryd.underlying9 h4
      refine ⟨s, cell_of_cells?_one h3, ?_⟩
      have hb : s.data.toList.length ≤ Rows.uptoBulk elems[i].1 := by
        rw [q1]
        simp only [Rows.uptoBulk]
        simp
      have := bulk_mem (l := elems.map (·.1)) (d := elems[i].1) (List.mem_map.2 ⟨elems[i], List.getElem_mem _, rfl⟩)
      rw [hd]
      simp only [Rows.uptoBulk]
      rw [Array.length_toList] at hb
      have e : s.size = s.data.size := rfl
      omega)
    refine ⟨its, i1, fun i it hi => ?_, fun it hit => ?_, hbl⟩
    · obtain ⟨b, off, spot⟩ := x
      have il := (List.getElem?_eq_some_iff.1 hi).1
      have hspot : spot = none := by simpa [Addr.add] using World.cell?_spot (i2 0 _ (List.getElem?_eq_getElem (by omega))).1
      subst hspot
      have := (i2 i it hi).1
      rw [Go.WideShapes.add_plain] at this
      exact ⟨b, off, rfl, this⟩
    · obtain ⟨i, hi⟩ := List.getElem?_of_mem hit
      exact (i2 i it hi).2
end Go.Proofs.YtaadooippelcfaaDoor
