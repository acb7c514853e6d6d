/-
  tree: deepest.
-/
import Derived.Test.YthachcidfnjbaaaTrD
namespace Go.Proofs.Ythachcidfnjbaaa
open Go Go.RowKit Go.Deep

namespace Tr
theorem dp_snoc (l : List (Int × Int)) (a : Int × Int) : dp (l ++ [a]) = max (dp l) a.2 := by simp [dp, List.foldl_append]
theorem dp_take {l : List (Int × Int)} {j : Nat} {a : Int × Int} (h : l[j]? = some a) : dp (l.take (j + 1)) = max (dp (l.take j)) a.2 := by
  rw [List.take_add_one, h]
  exact dp_snoc _ _
theorem dp_nonneg (l : List (Int × Int)) : 0 ≤ dp l := by
  have : ∀ (l : List (Int × Int)) (d : Int), d ≤ l.foldl (fun d a => max d a.2) d := by
    intro l
    induction l with
    | nil => intro d; exact Int.le_refl _
    | cons a l ih => intro d; exact Int.le_trans (Int.le_max_left _ _) (ih _)
  exact this l 0
end Tr

set_option maxRecDepth 100000 in
set_option maxHeartbeats 400000 in
theorem tdeep_any (g o cap : Nat) (A : List (Int × Int)) (w : World) (h : ∀ i a, A[i]? = some a → w.cell? ⟨g, (o + i) * 2, none⟩ = some (.int .i64 a.1) ∧ w.cell? ⟨g, (o + i) * 2 + 1, none⟩ = some (.int .i64 a.2)) (hl : A.length ≤ 10000) :
    Calls Try.prog 21 #[.slice (some ⟨g, o * 2, none⟩) A.length cap] w fun e w' => e = .returned (.int .i64 (Tr.dp A)) ∧ Below w.heap.size w w' := by
  obtain ⟨L, hL⟩ : ∃ L, A.length = L := ⟨_, rfl⟩
  have H : Hid (∀ j, j < L → ∃ a, A[j]? = some a ∧ w.cell? ⟨g, (o + j) * 2, none⟩ = some (.int .i64 a.1) ∧ w.cell? ⟨g, (o + j) * 2 + 1, none⟩ = some (.int .i64 a.2)) := fun j hj => ⟨_, List.getElem?_eq_getElem (by omega), h j _ (List.getElem?_eq_getElem (by omega))⟩
  have hli : (L : Int) ≤ 10000 := by omega
  rw [hL]
  clear h hl
  go_enter Try.func21, Try.ntmps21
  go_wp2_with fail
  go_loopg [3, 8] L (fun m dv iv wr => ∃ k : Nat, k + m = L ∧ iv = .int .i64 (k : Int) ∧ dv = .int .i64 (Tr.dp (A.take k)) ∧ Hid (Below w.heap.size w wr))
  case atStart => exact ⟨0, by omega, rfl, rfl, Below.refl _ _⟩
  case round =>
    obtain ⟨k, hk, rfl, rfl, hB⟩ := hrel
    by_cases kl : k < L
    · have kli : (k : Int) < (L : Int) := by omega
      obtain ⟨a, ha, c0, c1⟩ := H.out k kl
      have e := Tr.dp_take ha
      have e0 : wr.cell? ⟨g, (o + k) * 2, none⟩ = some (.int .i64 a.1) := by rw [hB.out.cell (cell_lt c0)]; exact c0
      have e1 : wr.cell? ⟨g, (o + k) * 2 + 1, none⟩ = some (.int .i64 a.2) := by rw [hB.out.cell (cell_lt c1)]; exact c1
      rw [show (o + k) * 2 = o * 2 + k * 2 by omega] at e0 e1
      have HB2 := hid (below_on hB.out (alloc_b wr (.cells #[.int .i64 a.1, .int .i64 a.2] 50)))
      generalize Tr.dp (A.take k) = d at *
      generalize hd2 : Tr.dp (A.take (k + 1)) = d2 at *
      have HD := hid hd2
      clear c0 c1 ha hd2
      by_cases hc : a.2 ≤ d
      · have E2 : Hid (d = d2) := by rw [Hid]; omega
        have hc2 : ¬ d < a.2 := by omega
        clear e
        go_wp2_with fail
        go_roundg (L - (k + 1))
        case measure => omega
        case rel => exact ⟨k + 1, by omega, by go_num, by rw [HD.out, ← E2.out], HB2⟩
      · have E2 : Hid (a.2 = d2) := by rw [Hid]; omega
        have hc2 : d < a.2 := by omega
        clear e
        go_wp2_with fail
        go_roundg (L - (k + 1))
        case measure => omega
        case rel => exact ⟨k + 1, by omega, by go_num, by rw [HD.out, ← E2.out], HB2⟩
    · obtain rfl : k = L := by omega
      have kli : ¬ (k : Int) < (k : Int) := by omega
      have E2 : Hid (A.take k = A) := List.take_of_length_le (by omega)
      go_wp2_with fail
      go_ret
      refine ⟨?_, hB.out⟩
      show Ending.returned (.int .i64 (Tr.dp (A.take k))) = Ending.returned (.int .i64 (Tr.dp A))
      rw [E2.out]
end Go.Proofs.Ythachcidfnjbaaa
