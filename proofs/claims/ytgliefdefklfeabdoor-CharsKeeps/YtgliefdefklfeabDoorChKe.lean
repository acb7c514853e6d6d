/-
  law20: CharsKeeps.
-/
import Derived.Test.YtgliefdefklfeabDoorChKd
import Derived.Test.YtgliefdefklfeabDoorChD
import Derived.Test.YtgliefdefklfeabDoorOpenAsk20
namespace Go.Proofs.YtgliefdefklfeabDoor
open Go Go.RowKit Go.Deep Go.Shelf

namespace Ch
theorem closedKeep : sp ⟨#[97, 44, 98]⟩ ⟨#[44]⟩ = [⟨#[97]⟩, ⟨#[98]⟩] := by decide +kernel
def spare : ByteArray := ⟨#[115, 112, 97, 114, 101]⟩
def ex (xs : List ByteArray) (t : Nat) : ByteArray := if t < xs.length then xs.getD t ByteArray.empty else spare
end Ch
theorem tr_alloc2 (wx : World) (ys : List ByteArray) : TR (wx.alloc (.cells (ys.map Value.string).toArray 9)) (some ⟨wx.heap.size, 0, none⟩) ys := .inr ⟨_, 0, rfl, fun i x hi => by
  have := heap_alloc_new wx (.cells (ys.map Value.string).toArray 9)
  rw [cell_of_row _ _ _ _ _ _ this, Nat.zero_add]
  simp [hi]⟩
/-- full, its first j laid. -/
def Fu (B : Nat) (W : World) (gf M j : Nat) (xs : List ByteArray) : Prop := ∃ D, Lo B W (some ⟨gf, 0, none⟩) M D ∧ D.length = M ∧ ∀ t, t < j → D[t]? = some (Ch.ex xs t)
theorem Fu.on {B gf M j : Nat} {W W' : World} {xs : List ByteArray} (h : Fu B W gf M j xs) (b : Below W.heap.size W W') : Fu B W' gf M j xs := by
  obtain ⟨D, l, r⟩ := h
  exact ⟨D, l.below b, r⟩
theorem Fu.new (W : World) (M : Nat) (xs : List ByteArray) (hM : M ≤ 4294967296) : Fu W.heap.size (W.alloc (.cells (Array.replicate M (.string ByteArray.empty)) 9)) W.heap.size M 0 xs := by
  refine ⟨List.replicate M ByteArray.empty, ?_, by simp, fun t ht => absurd ht (Nat.not_lt_zero _)⟩
  have q := World.ownsRow_lit (base := W.heap.size) (e := 9) (size := 1) W (Array.replicate M (.string ByteArray.empty)) M (Nat.le_refl _) (by simp only [maxLen]; omega) (by simp)
  rw [Lo, TO, List.length_replicate, List.map_replicate]
  rw [Array.toList_replicate] at q
  exact q
/-- One more laid: first the spare word, then the list's own. -/
theorem Fu.put {B gf M j : Nat} {W : World} {xs : List ByteArray} (h : Fu B W gf M j xs) (hj : j < M) (x : ByteArray) :
    (∃ v, W.cell? ⟨gf, j, none⟩ = some (.string v)) ∧ W.frozen? ⟨gf, j, none⟩ = false ∧ Fu B (W.setCell ⟨gf, j, none⟩ (.string x)) gf M j xs ∧ (x = Ch.ex xs j → Fu B (W.setCell ⟨gf, j, none⟩ (.string x)) gf M (j + 1) xs) ∧ Below B W (W.setCell ⟨gf, j, none⟩ (.string x)) := by
  obtain ⟨D, l, dl, dm⟩ := h
  obtain ⟨fz, ls, gb⟩ := l.set j x
  have lt := l.lt
  refine ⟨⟨_, l.cell (List.getElem?_eq_getElem (show j < D.length by omega))⟩, fz, ⟨_, ls, by rw [List.length_set]; exact dl, fun t ht => ?_⟩, fun e => ⟨_, ls, by rw [List.length_set]; exact dl, fun t ht => ?_⟩, gb_below gb (by omega) (fun b e => by cases e; exact lt.1)⟩
  · rw [List.getElem?_set_ne (by omega)]
    exact dm t ht
  · by_cases z : j = t
    · subst z
      rw [List.getElem?_set_self (by omega), e]
    · rw [List.getElem?_set_ne z]
      exact dm t (by omega)
theorem Fu.tr {B gf M j : Nat} {W : World} {xs : List ByteArray} (h : Fu B W gf M j xs) (hj : xs.length ≤ j) : TR W (some ⟨gf, 0, none⟩) xs := by
  obtain ⟨D, l, dl, dm⟩ := h
  refine .inr ⟨gf, 0, rfl, fun i x hi => ?_⟩
  have il : i < xs.length := (List.getElem?_eq_some_iff.1 hi).1
  rw [Nat.zero_add]
  refine l.cell ?_
  rw [dm i (by omega), Ch.ex, if_pos il, List.getD_eq_getElem?_getD, hi]
  rfl
theorem Fu.cell {B gf M j t : Nat} {W : World} {xs : List ByteArray} (h : Fu B W gf M j xs) (ht : t < j) : W.cell? ⟨gf, t, none⟩ = some (.string (Ch.ex xs t)) := by
  obtain ⟨D, l, dl, dm⟩ := h
  exact l.cell (dm t ht)
/-- Every second list is as the one ahead of it. -/
def Pr (T : List Tl) : Prop := ∀ m a b, T[2 * m]? = some a → T[2 * m + 1]? = some b → a.2.2 = b.2.2
theorem Pr.six {T : List Tl} {k : Nat} (h : Pr T) (hk : T.length = 6 * k) {a b c d e f : Tl} (h1 : a.2.2 = b.2.2) (h2 : c.2.2 = d.2.2) (h3 : e.2.2 = f.2.2) : Pr (T ++ [a, b, c, d, e, f]) := by
  intro m x y hx hy
  by_cases l : 2 * m + 1 < T.length
  · rw [List.getElem?_append_left (by omega)] at hx hy
    exact h m x y hx hy
  · rw [List.getElem?_append_right (by omega)] at hx hy
    obtain ⟨r, hr⟩ : ∃ r, 2 * m - T.length = 2 * r := ⟨m - 3 * k, by omega⟩
    rw [hr] at hx
    rw [show 2 * m + 1 - T.length = 2 * r + 1 by omega] at hy
    rcases Nat.lt_or_ge r 3 with c3 | c3
    · have : r = 0 ∨ r = 1 ∨ r = 2 := by omega
      rcases this with rfl | rfl | rfl <;> simp at hx hy <;> subst hx <;> subst hy <;> assumption
    · rw [List.getElem?_eq_none (by simp; omega)] at hx
      cases hx
end Go.Proofs.YtgliefdefklfeabDoor
