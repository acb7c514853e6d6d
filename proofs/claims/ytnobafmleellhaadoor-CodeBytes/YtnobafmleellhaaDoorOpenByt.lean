/-
  BYTES AS THEY COME IN.
-/
import Derived.Test.YtnobafmleellhaaDoorOpenCode
import Derived.Test.YtnobafmleellhaaDoorCdRb
namespace Go.Proofs.YtnobafmleellhaaDoor
open Go Go.RowKit Go.Deep Go.ChangeShapes Go.WideShapes Go.ChangeAt

set_option maxRecDepth 100000 in
theorem open_byt {H : Type} {enc : TypeId × Value → H} {W : World} {base : Nat} {v : Value} {d : DataW H} {p : List MemPlace} (hv : Value.okWide Tryd.prog W .any base 32 v) (h : DataW.Trod enc Tryd.prog W 0 (fun _ => true) true 32 v d p) :
    ∃ (a : Option Addr) (ca : Nat) (B : Ch.L8), v = .slice a B.length ca ∧ Cd.BR W a B ∧ (B = [] ∨ ∀ b off, a = some ⟨b, off, none⟩ → b < W.heap.size) ∧ B.length ≤ 9223372036854775807 ∧ B.length ≤ ca := by
  obtain ⟨a0, n0, c0, rfl⟩ := okWide_slice Tryd.underlying32 hv
  obtain ⟨fuel, hf⟩ := h
  have hf' : DataW.trod enc Tryd.prog W 0 (fun _ => true) true fuel 32 [.slice a0 n0 c0] = some (d, p) := by simpa [Value.cells] using hf
  rcases DataW.trod_slice Tryd.underlying32 hf' with ⟨hcs, _⟩ | ⟨x, l, c, elems, rest, m, _, hcs, hx5, _, hl, hm, he, hel, hsp, _⟩
  · exact ⟨none, 0, [], by rw [(List.cons.inj hcs).1]; rfl, fun i x hi => by simp at hi, .inl rfl, by simp, by simp⟩
  · rw [show Tryd.prog.cellsOf 5 = 1 by kernel_rfl] at hel
    obtain ⟨its, i1, i2⟩ := olist_of_each (Q := fun i (o : UInt8) => W.cell? (x.add i) = some (.int .u8 (o.toNat : Int))) l (fun i hi => by
      have h1 := hel i hi
      have h2 : elems[i]? = some elems[i] := List.getElem?_eq_getElem (by omega)
      rw [h2, Nat.mul_one] at h1
      obtain ⟨cs, h3, h4⟩ := Option.bind_eq_some_iff.1 h1
      obtain ⟨z, e, _, wz⟩ := DataW.trod_int Tryd.underlying5 h4
      have bz := bounds_u8 wz
      refine ⟨UInt8.ofNat z.toNat, ?_⟩
      rw [UInt8.toNat_ofNat_of_lt' (by show z.toNat < 256; omega), Int.toNat_of_nonneg bz.1]
      subst e
      exact cell_of_cells?_one h3)
    have hm' : c ≤ 9223372036854775807 := hm
    refine ⟨some x, c, its, by rw [(List.cons.inj hcs).1, i1], fun i o hi => ?_, ?_, by omega, by omega⟩
    · obtain ⟨b, off, spot⟩ := x
      have hspot : spot = none := by
        have h0 : 0 < its.length := by have := (List.getElem?_eq_some_iff.1 hi).1; omega
        simpa [Addr.add] using World.cell?_spot (i2 0 _ (List.getElem?_eq_getElem h0))
      subst hspot
      have z := i2 i o hi
      rw [Go.WideShapes.add_plain] at z
      exact ⟨b, off, rfl, z⟩
    · rcases Nat.eq_zero_or_pos its.length with h0 | h0
      · exact .inl (List.eq_nil_of_length_eq_zero h0)
      · refine .inr fun b off e => ?_
        cases e
        have z := i2 0 _ (List.getElem?_eq_getElem h0)
        rw [Go.WideShapes.add_plain] at z
        exact cell_lt z
end Go.Proofs.YtnobafmleellhaaDoor
