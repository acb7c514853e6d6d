/-
  Rows of bytes made of texts, in a seat without numeral's raise.
-/
import Derived.Test.YtjkefcikepnbpaaGreatDoorNDv
import Derived.Test.YtjkefcikepnbpaaGreatDoorVStr
import Derived.OwnWalk
namespace Go.Proofs.YtjkefcikepnbpaaGreatDoor
open Go Go.RowKit Go.Deep

/-- A block of bytes of our own; a mark may stand behind its end. -/
def OwnL (w : World) (g : Nat) (zs : List Int) : Prop := ∃ lo hi, w.heap[g]? = some (.cells (zs.map (Value.int .u8)).toArray 5 (lo, hi)) ∧ zs.length ≤ lo

theorem OwnL.cell {w : World} {g : Nat} {zs : List Int} (h : OwnL w g zs) (i : Nat) (hi : i < zs.length) : w.cell? ⟨g, i, none⟩ = some (.int .u8 (zs.getD i 0)) := by
  obtain ⟨lo, k, h, _⟩ := h
  simp [World.cell?, h, List.getD, hi]

theorem OwnL.free {w : World} {g : Nat} {zs : List Int} (h : OwnL w g zs) (i : Nat) (hi : i < zs.length) : w.frozen? ⟨g, i, none⟩ = false := by
  obtain ⟨lo, k, h, hl⟩ := h
  simp [World.frozen?, h]
  omega

theorem OwnL.lt {w : World} {g : Nat} {zs : List Int} (h : OwnL w g zs) : g < w.heap.size := by
  obtain ⟨lo, k, h, _⟩ := h
  rcases Nat.lt_or_ge g w.heap.size with hl | hl
  · exact hl
  · simp [Array.getElem?_eq_none hl] at h

theorem OwnL.set {w : World} {g : Nat} {zs : List Int} (h : OwnL w g zs) (i : Nat) (s : Int) : OwnL (w.setCell ⟨g, i, none⟩ (.int .u8 s)) g (zs.set i s) := by
  have hl := h.lt
  obtain ⟨lo, k, h, hz⟩ := h
  exact ⟨lo, k, by simp [World.setCell, Array.getElem?_modify, h, List.map_set], by simpa using hz⟩

theorem OwnL.below {w w' : World} {B g : Nat} {zs : List Int} (h : OwnL w g zs) (hb : Below B w w') (hg : g < B) : OwnL w' g zs := by
  obtain ⟨lo, k, h, hz⟩ := h
  exact ⟨lo, k, by rw [hb.block g hg, h], hz⟩

theorem bytes_ownL {s : ByteArray} {xs : List Int} (hs : Str s xs) (w : World) (cap : Nat) : OwnL (w.drew.alloc (.cells (bytesRow s cap) 5 ((bytesRow s cap).size, (bytesRow s cap).size + 1))) w.heap.size (xs ++ List.replicate (cap - xs.length) 0) := by
  have e : bytesRow s cap = ((xs ++ List.replicate (cap - xs.length) 0).map (Value.int .u8)).toArray := by
    unfold bytesRow
    rw [hs.size]
    apply Array.toList_inj.1
    rw [← hs]
    simp
  refine ⟨(bytesRow s cap).size, (bytesRow s cap).size + 1, ?_, ?_⟩
  · show (w.heap.push _)[w.heap.size]? = _
    rw [Array.getElem?_push, if_pos rfl, ← e]
  · rw [e]
    simp

theorem own_strL {g k cap : Nat} {W : World} {fs : List Int} (o : OwnL W g fs) (hl : k ≤ fs.length) (hd : Digs (fs.take k)) :
    ∃ s, Str s (fs.take k) ∧ (convert 38 9 (.slice (some ⟨g, 0, none⟩) k cap)).run Tryz.prog W = .ok (.string s) W := by
  have hlen : (fs.take k).length = k := by simp; omega
  refine ⟨strOfNums (fs.take k), Str.of_nums (fun x hx => by have := hd x hx; omega), run_convert_bytes_arg (P := Tryz.prog) W 38 5 Tryz.underlying38 Tryz.underlying5 g 0 k cap (fs.take k) hlen (fun i hi => ?_) 9 Tryz.underlying9⟩
  rw [Nat.zero_add, o.cell i (by omega)]
  simp [List.getD, hi]

/-- []byte(s): the block, its cells, and the run. -/
theorem bytes_madeL {s : ByteArray} {xs : List Int} (hs : Str s xs) (w : World) :
    ∃ (cap : Nat) (es : List Int) (w1 : World), (convert 9 38 (.string s)).run Tryz.prog w = .ok (.slice (some ⟨w.heap.size, 0, none⟩) s.size cap) w1 ∧ OwnL w1 w.heap.size es ∧ es.take xs.length = xs ∧ xs.length ≤ es.length ∧ Below w.heap.size w w1 := by
  have CV := run_bytes_of_string (P := Tryz.prog) w 9 38 5 s Tryz.underlying9 Tryz.underlying38 Tryz.underlying5
  obtain ⟨cap, hcap⟩ : ∃ cap, grownCap w s.size 0 5 = cap := ⟨_, rfl⟩
  rw [hcap] at CV
  refine ⟨cap, xs ++ List.replicate (cap - xs.length) 0, _, CV, bytes_ownL hs w cap, ?_, by simp, (below_drewN (Below.refl _ _) 1).alloc (Nat.le_refl _) _⟩
  rw [List.take_append_of_le_length (by omega), List.take_length]
end Go.Proofs.YtjkefcikepnbpaaGreatDoor
