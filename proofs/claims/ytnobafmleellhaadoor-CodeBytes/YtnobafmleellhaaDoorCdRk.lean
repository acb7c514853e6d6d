/-
  abacuslaw26: CodeBack: what Decode tells of what Encode wrote; bytes laid out anew.
-/
import Derived.Test.YtnobafmleellhaaDoorCdRj
import Derived.Test.YtnobafmleellhaaDoorCdU
namespace Go.Proofs.YtnobafmleellhaaDoor
open Go Go.RowKit Go.Deep Go.Shelf

namespace Cd
def ebb (c : UInt8) : List Value := [.int .u8 (c.toNat : Int)]
theorem ebb_len (c : UInt8) : (ebb c).length = 1 := rfl
theorem ebb_one (c : UInt8) : ∀ v ∈ ebb c, v.oneCell' = true := fun v hv => by
  simp only [ebb, List.mem_cons, List.not_mem_nil, or_false] at hv
  rw [hv]; rfl
theorem Ow_cat {α : Type} {enc : α → List Value} {k bytes base : Nat} (hk : ∀ x, (enc x).length = k) (h1 : ∀ x, ∀ v ∈ enc x, v.oneCell' = true) (k0 : 0 < k) (t e : TypeId) (i : TypeInfo) (z : Value) (ht : Tryd.prog.underlying t = some (.slice e)) (hi : Tryd.prog.info? e = some i) (hz : i.zero = some z) (hs : i.size = k) (hy : i.bytes = bytes) (zc : z.cells.size = k)
    {w : World} {mv : Value} {D E : List α} (ho : Re.Ow enc e k base w mv D) (x : Addr) (c : Nat) (hsrc : ∀ j u, (Re.fl enc E)[j]? = some u → w.cell? (x.add j) = some u) (hn : (D.length + E.length) * bytes ≤ 140737488351232) (hm : D.length + E.length ≤ 140737488351232) (hb : base ≤ w.heap.size) :
    ∃ mv' w', (Builtin.append_ #[t, t] t #[mv, .slice (some x) E.length c]).run Tryd.prog w = .ok mv' w' ∧ Re.Ow enc e k base w' mv' (D ++ E) ∧ Below base w w' := by
  have one : ∀ u ∈ Re.fl enc E, u.oneCell' = true := fun u hu => by
    obtain ⟨y, _, hy⟩ := List.mem_flatMap.1 hu
    exact h1 y u hy
  obtain ⟨v', w', hr', e1, e2, _⟩ := run_append_own (P := Tryd.prog) w base t t e i z k bytes ht hi hz hs hy zc k0 mv D.length (Re.fl enc D) ho x E.length c (Re.fl enc E) (Re.fl_len hk E) hsrc one (by simp only [maxLen]; omega) (by omega) hb
  refine ⟨v', w', hr', ?_, ?_⟩
  · have q : Re.fl enc D ++ Re.fl enc E = Re.fl enc (D ++ E) := by simp [Re.fl]
    rw [q] at e1
    rw [Re.Ow, List.length_append]; exact e1
  · refine ⟨e2.os, e2.tape, e2.output, e2.size, fun j hj => e2.block j (by omega) ?_⟩
    intro hk'
    have := (ho.lt j hk'.symm).1
    omega
theorem BR.cells {w : World} {b off : Nat} {B : Ch.L8} (h : BR w (some ⟨b, off, none⟩) B) : ∀ j u, (Re.fl ebb B)[j]? = some u → w.cell? ((⟨b, off, none⟩ : Addr).add j) = some u := by
  refine fl_each (enc := ebb) (k := 1) ebb_len (by omega) (fun i a ha r v hv => ?_)
  obtain ⟨b', off', e, c⟩ := h i a ha
  cases e
  have rl : r < 1 := (List.getElem?_eq_some_iff.1 hv).1
  obtain rfl : r = 0 := by omega
  rw [Nat.mul_one]
  cases hv
  exact c
theorem BR.of_ow {w : World} {base : Nat} {p : Option Addr} {n c : Nat} {D : Ch.L8} (h : Re.Ow ebb 5 1 base w (.slice p n c) D) : n = D.length ∧ BR w p D ∧ (p = none ∨ ∃ b off, p = some ⟨b, off, none⟩) ∧ (∀ b off, p = some ⟨b, off, none⟩ → b < w.heap.size) ∧ D.length ≤ c := by
  rcases h.shape with ⟨cap, e, rfl⟩ | ⟨g, cap, e, _, hg, hc, _⟩
  · cases e; exact ⟨rfl, fun i x hx => by simp at hx, .inl rfl, (fun b off e => by cases e), Nat.zero_le _⟩
  · cases e
    refine ⟨rfl, fun i x hx => ⟨g, 0, rfl, ?_⟩, .inr ⟨g, 0, rfl⟩, (fun b off e => by cases e; exact hg), hc⟩
    have := h.cell ebb_len hx 0 (by omega) _ rfl
    rw [Nat.zero_add]; simpa using this
theorem BR.of_b8 {w : World} {base : Nat} {mv : Value} {E : Ch.L8} (h : B8 base w mv E) (hE : 1 ≤ E.length) : ∃ g cap, mv = .slice (some ⟨g, 0, none⟩) E.length cap ∧ base ≤ g ∧ g < w.heap.size ∧ E.length ≤ cap ∧ BR w (some ⟨g, 0, none⟩) E := by
  rcases h.2 with ⟨_, h0⟩ | ⟨g, cap, cur, rfl, hb, hg, hc, hm, _⟩
  · omega
  · refine ⟨g, cap, rfl, hb, ?_, hc, fun i c hi => ⟨g, 0, rfl, ?_⟩⟩
    · rcases Nat.lt_or_ge g w.heap.size with hl | hl
      · exact hl
      · simp [Array.getElem?_eq_none hl] at hg
    · have hi' := (List.getElem?_eq_some_iff.1 hi).1
      have := World.ownsRow.cells h (g := g) rfl i (.int .u8 (c.toNat : Int)) (by simp [Lib.byteCells, hi])
      rwa [Go.WideShapes.add_plain] at this
theorem BR.take {w : World} {p : Option Addr} {B : Ch.L8} (h : BR w p B) (k : Nat) : BR w p (B.take k) := fun i c hc => by
  rw [List.getElem?_take] at hc
  split at hc
  · exact h i c hc
  · cases hc
/-- What is told of all the bytes, of their beginnings, with a byte more. -/
theorem dec_all {E : Ch.L8} {l : List In} {nums : List Int} {strs : List ByteArray} (h : Reads dcd0 E (nums, strs, l)) (hl : l.length ≤ 131072) : (fin E).f = none ∧ dl E = l ∧ dn E = nums ∧ dt E = strs := by
  have e := h.ok [] []
  simp only [List.nil_append, List.append_nil, List.length_nil, Nat.zero_add] at e
  refine ⟨?_, ?_, ?_, ?_⟩
  · unfold fin; rw [e, if_neg (by simp)]
  · unfold dl; rw [e]; show l.take 131073 = l; exact List.take_of_length_le (by omega)
  · unfold dn; rw [e]
  · unfold dt; rw [e]
theorem dec_cut {E : Ch.L8} {v : List Int × List ByteArray × List In} (h : Reads dcd0 E v) {k : Nat} (hk : k < E.length) : (fin (E.take k)).f = some k := by
  have e := h.cut [] k hk
  simp only [List.nil_append, List.length_nil, Nat.zero_add] at e
  unfold fin
  split
  · rw [rf_stuck (by rw [e]; rfl)]; exact e
  · exact e
theorem dec_more {E : Ch.L8} {v : List Int × List ByteArray × List In} (h : Reads dcd0 E v) (c : UInt8) : (fin (E ++ [c])).f = some E.length := by
  have e := h.ok [] [c]
  simp only [List.nil_append, List.length_nil, Nat.zero_add] at e
  unfold fin
  rw [e, if_pos (by simp)]
  rfl
end Cd
end Go.Proofs.YtnobafmleellhaaDoor
