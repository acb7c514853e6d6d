/-
  products and Dot of package gather.
-/
import Derived.Test.YtkmadibfiikleaaDoorGP
import Derived.Test.YtkmadibfiikleaaDoorGNew
import Derived.Test.YtkmadibfiikleaaDoorGOver
namespace Go.Proofs.YtkmadibfiikleaaDoor
open Go.RowKit Go.Deep

namespace Ga
/-- The products of two lists, pair by pair, are added. -/
def St.dots (s : St) : List (Int × Int) → St
  | [] => s
  | p :: r => (s.mul p.1 p.2).dots r
theorem dots_append (s : St) : ∀ (a b : List (Int × Int)), s.dots (a ++ b) = (s.dots a).dots b
  | [], b => rfl
  | p :: r, b => by rw [List.cons_append, St.dots, St.dots, dots_append]
theorem dots_succ (s : St) (xs ys : List Int) (j : Nat) (hx : j < xs.length) (hy : j < ys.length) : s.dots ((xs.zip ys).take (j + 1)) = (s.dots ((xs.zip ys).take j)).mul (xs.getD j 0) (ys.getD j 0) := by
  have hj : j < (xs.zip ys).length := by rw [List.length_zip]; omega
  rw [List.take_add_one, dots_append, List.getElem?_eq_getElem hj]
  simp [St.dots, List.getD, List.getElem?_eq_getElem hx, List.getElem?_eq_getElem hy]
end Ga

theorem Arg.elem' {w : World} {p : Option Addr} {n cap : Nat} {zs : List Int} (h : Arg w p n cap zs) (j : Nat) (hj : j < n) :
    ∃ b off x, p = some ⟨b, off, none⟩ ∧ w.cell? ⟨b, off + j, none⟩ = some (.int .u64 x) ∧ zs.getD j 0 = x ∧ 0 ≤ x ∧ x < 18446744073709551616 := by
  obtain ⟨hn, -, -, hL, hm⟩ := h
  rcases hL with rfl | ⟨b, off, rfl, hc⟩
  · simp at hn; omega
  · have := hm.at j
    exact ⟨b, off, _, rfl, hc j (by omega), rfl, this.1, this.2⟩

set_option maxRecDepth 100000 in
theorem products_any (p q : Option Addr) (n cap cap' : Nat) (xs ys : List Int) (w : World) (ha : Arg w p n cap xs) (hb : Arg w q n cap' ys) :
    Calls Tryd.prog 18 #[.slice p n cap, .slice q n cap'] w fun e w' => e = .returned (.pointer (some ⟨w.heap.size, 0, none⟩)) ∧ AccAt w' w.heap.size (Ga.none.dots (xs.zip ys)) ∧ Below w.heap.size w w' := by
  have nb : n ≤ 140737488355328 := by have := ha.2.1; have := ha.2.2.1; omega
  have NW := hid (new_any w)
  have HA := hid (fun (wx : World) (h : Below w.heap.size w wx) => ha.below h (Nat.le_refl _))
  have HB := hid (fun (wx : World) (h : Below w.heap.size w wx) => hb.below h (Nat.le_refl _))
  have lx := hid ha.1
  have ly := hid hb.1
  obtain ⟨g, hg⟩ : ∃ g, w.heap.size = g := ⟨_, rfl⟩
  rw [hg] at NW
  clear ha hb
  go_enter Tryd.func18, Tryd.ntmps18
  go_wp2_with fail
  refine NW.out.mono ?_
  rintro e w1 ⟨rfl, hA, hB⟩
  have R0 : Hid (AccAt w1 g (Ga.none.dots ((xs.zip ys).take 0)) ∧ Below w.heap.size w w1) := ⟨hA, by rw [hg]; exact hB⟩
  clear hA hB NW
  go_wp2_with fail
  go_loopw [11] (fun i wr => ∃ j : Nat, i = .int .i64 j ∧ j ≤ n ∧ Hid (AccAt wr g (Ga.none.dots ((xs.zip ys).take j)) ∧ Below w.heap.size w wr)) (fun i _ => n - (intOf i).toNat)
  case atStart => exact ⟨0, rfl, Nat.zero_le _, R0⟩
  case round =>
    clear R0
    obtain ⟨j, rfl, hj, R⟩ := hrel
    by_cases hlt : j < n
    · obtain ⟨b, off, x, rfl, hx, X, x0, x1⟩ := (HA.out _ R.out.2).elem' j hlt
      obtain ⟨b', off', y, rfl, hy, Y, y0, y1⟩ := (HB.out _ R.out.2).elem' j hlt
      have AD := addProduct_all g _ _ R.out.1 x y x0 x1 y0 y1
      rw [← X, ← Y, ← Ga.dots_succ Ga.none xs ys j (by rw [lx.out]; exact hlt) (by rw [ly.out]; exact hlt), X, Y] at AD
      have AD := hid AD
      have E : Hid (∀ w7, AccAt w7 g (Ga.none.dots ((xs.zip ys).take (j + 1))) → Only g wr w7 → AccAt w7 g (Ga.none.dots ((xs.zip ys).take (j + 1))) ∧ Below w.heap.size w w7) := fun w7 h7 o7 => ⟨h7, R.out.2.trans (o7.below (by omega) R.out.2.size)⟩
      have hlt' : (j : Int) < (n : Int) := by omega
      clear R X Y
      go_wp2_with fail
      refine AD.out.mono ?_
      rintro e w7 ⟨rfl, h7, o7⟩
      have R1 := hid (E.out w7 h7 o7)
      clear h7 o7 AD E hx hy
      go_wp2_with fail
      go_roundw
      case rel => exact ⟨j + 1, by go_num, by omega, R1⟩
      case measure => simp [intOf]; omega
    · have hjn : j = n := by omega
      subst hjn
      rw [List.take_of_length_le (by rw [List.length_zip, lx.out, ly.out]; omega)] at R
      have R2 : Hid (AccAt wr g (Ga.none.dots (xs.zip ys)) ∧ Below g w wr) := ⟨R.out.1, by rw [← hg]; exact R.out.2⟩
      clear R
      go_wp2_with fail
      go_ret
      rw [hg]
      exact ⟨rfl, R2.out⟩

set_option maxRecDepth 100000 in
theorem dot_any (p q : Option Addr) (n cap cap' : Nat) (xs ys : List Int) (w : World) (ha : Arg w p n cap xs) (hb : Arg w q n cap' ys) (hT : Tab w) :
    Calls Tryd.prog 7 #[.slice p n cap, .slice q n cap'] w fun e w' => ∃ r, e = .returned (.tuple #[.int .u64 r, .int .i64 0]) ∧ Hid ((Ga.none.dots (xs.zip ys)).Is 1 r) ∧ Below w.heap.size w w' := by
  have GA := hid (products_any p q n cap cap' xs ys w ha hb)
  have HT := hid hT
  clear ha hb hT
  go_enter Tryd.func7, Tryd.ntmps7
  go_wp2_with fail
  refine GA.out.mono ?_
  rintro e w1 ⟨rfl, hA, hB⟩
  have V := hid (value_any _ _ w1 hA (HT.out.below hB))
  have HB := hid hB
  clear hA hB
  go_wp2_with fail
  refine V.out.mono ?_
  rintro e w2 ⟨r, rfl, E, hB⟩
  have HB2 := hid (HB.out.trans (hB.mono HB.out.size))
  clear hB
  go_wp2_with fail
  go_ret2
  exact ⟨r, rfl, E, HB2.out⟩
end Go.Proofs.YtkmadibfiikleaaDoor
