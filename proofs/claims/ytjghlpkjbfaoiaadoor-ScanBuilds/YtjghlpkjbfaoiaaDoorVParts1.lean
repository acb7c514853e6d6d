/-
  law08 (ScanBuilds): number.
-/
import Derived.Test.YtjghlpkjbfaoiaaDoorVParts0
import Derived.Test.YtjghlpkjbfaoiaaDoorVBackN
import Derived.Deep.RegionHeld3
namespace Go.Proofs.YtjghlpkjbfaoiaaDoor
open Go Go.RowKit Go.Deep

theorem dl_len2 : ∀ (k u : Nat), u < 10 ^ (k + 1) → (Sc.dl u).length ≤ k + 1
  | 0, u, h => by rw [Sc.dl_small (by simpa using h)]; simp
  | k + 1, u, h => by
    by_cases c : u < 10
    · rw [Sc.dl_small c]; simp
    · rw [Sc.dl_big c, List.length_append]
      have := dl_len2 k (u / 10) (by rw [Nat.pow_succ] at h; omega)
      simp; omega

/-- One byte, made a string. -/
theorem cv_one (w : World) (x : Int) (g : Nat) (h : w.cell? ⟨g, 0, none⟩ = some (.int .u8 x)) : (convert 37 9 (.slice (some ⟨g, 0, none⟩) 1 1)).run Tryd.prog w = .ok (.string (strOfNums [x])) w :=
  run_convert_bytes_arg (P := Tryd.prog) w 37 5 Tryd.underlying37 Tryd.underlying5 g 0 1 1 [x] rfl (fun i hi => by
    obtain rfl : i = 0 := by omega
    exact h) 9 Tryd.underlying9
theorem cell_new (w : World) (x : Int) : (w.alloc (.cells #[.int .u8 x] 5)).cell? ⟨w.heap.size, 0, none⟩ = some (.int .u8 x) := (OwnB.alloc w [x]).cell 0 (by simp)
theorem str_one {x : Int} (h0 : 0 ≤ x) (h1 : x < 256) : Str (strOfNums [x]) [x] := Str.of_nums (fun y hy => by simp at hy; omega)

set_option maxRecDepth 100000 in
set_option maxHeartbeats 2000000 in
theorem lnumber_any (u : Nat) : ∀ w : World, u ≤ 9223372036854775807 → Calls Tryd.prog 36 #[.int .i64 (u : Int)] w fun e w' => (∃ s, e = .returned (.string s) ∧ Str s (Sc.dl u)) ∧ Below w.heap.size w w' := by
  induction u using Nat.strongRecOn with
  | _ u ih =>
    intro w hu
    by_cases h : u < 10
    · have hi : (u : Int) < 10 := by omega
      have CV := cv_one _ _ _ (cell_new w (48 + (u : Int)))
      have F : Hid (Str (strOfNums [48 + (u : Int)]) (Sc.dl u)) := by show Str _ _; rw [Sc.dl_small h]; exact str_one (by omega) (by omega)
      have D : Hid (Below w.heap.size w (w.alloc (.cells #[.int .u8 (48 + (u : Int))] 5))) := alloc_b _ _
      clear ih
      go_enter Tryd.func36, Tryd.ntmps36
      go_wp2_with fail
      go_ret
      exact ⟨⟨_, rfl, F.out⟩, D.out⟩
    · have hi : ¬ (u : Int) < 10 := by omega
      obtain ⟨q, hq⟩ : ∃ q, u / 10 = q := ⟨_, rfl⟩
      obtain ⟨r, hr⟩ : ∃ r, u % 10 = r := ⟨_, rfl⟩
      have IH := hid (fun wx => ih q (by omega) wx (by omega))
      have E : Hid (Sc.dl u = Sc.dl q ++ [48 + (r : Int)]) := by show _ = _; rw [Sc.dl_big h, hq, hr]
      have LQ := dl_len2 18 q (by omega)
      have t1 : Int.tdiv (u : Int) 10 = (q : Int) := by rw [Int.tdiv_eq_ediv_of_nonneg (by omega)]; omega
      have t2 : Int.tmod (u : Int) 10 = (r : Int) := by rw [Int.tmod_eq_emod_of_nonneg (by omega)]; omega
      have t3 : (r : Int) < 10 := by omega
      have t4 : IntKind.i64.wrap (48 + (r : Int)) = 48 + (r : Int) := by rw [IntKind.wrap_i64]; omega
      have t5 : IntKind.u8.wrap (48 + (r : Int)) = 48 + (r : Int) := by rw [IntKind.wrap_u8]; omega
      have t6 : IntKind.i64.wrap (q : Int) = (q : Int) := by rw [IntKind.wrap_i64]; omega
      have t7 : IntKind.i64.wrap (r : Int) = (r : Int) := by rw [IntKind.wrap_i64]; omega
      have S1 : (strOfNums [48 + (r : Int)]).size = 1 := (str_one (x := 48 + (r : Int)) (by omega) (by omega)).size
      have F : Hid (∀ s, Str s (Sc.dl q) → Str (s ++ strOfNums [48 + (r : Int)]) (Sc.dl u)) := fun s hs => by rw [E.out]; exact hs.append (str_one (by omega) (by omega))
      have CA := fun wx => cv_one _ _ _ (cell_new wx (48 + (r : Int)))
      have CB : (convert 37 9 (.slice (some ⟨w.heap.size, 0, none⟩) 1 1)).run Tryd.prog (w.alloc (.cells #[.int .u8 (48 + (r : Int))] 5)).drew = .ok (.string (strOfNums [48 + (r : Int)])) (w.alloc (.cells #[.int .u8 (48 + (r : Int))] 5)).drew := cv_one _ _ _ (cell_new w.drew (48 + (r : Int)))
      have B0 : Hid (Below w.heap.size w w.drew) := below_drewN (Below.refl _ _) 1
      have K1 : Hid (∀ wn, Below (w.alloc (.cells #[.int .u8 (48 + (r : Int))] 5)).drew.heap.size (w.alloc (.cells #[.int .u8 (48 + (r : Int))] 5)).drew wn → (convert 37 9 (.slice (some ⟨w.heap.size, 0, none⟩) 1 1)).run Tryd.prog wn = .ok (.string (strOfNums [48 + (r : Int)])) wn ∧ Below w.heap.size w wn) := fun wn h => by
        have c : (w.alloc (.cells #[.int .u8 (48 + (r : Int))] 5)).drew.cell? ⟨w.heap.size, 0, none⟩ = some (.int .u8 (48 + (r : Int))) := cell_new w (48 + (r : Int))
        refine ⟨cv_one wn _ _ ?_, below_on (show Below w.heap.size w (w.alloc (.cells #[.int .u8 (48 + (r : Int))] 5)).drew from below_drewN (alloc_b _ _) 1) h⟩
        rw [← c]
        exact h.cell (p := ⟨w.heap.size, 0, none⟩) (cell_lt c)
      have K2 : Hid (∀ wn, Below w.drew.heap.size w.drew wn → Below w.heap.size w (wn.alloc (.cells #[.int .u8 (48 + (r : Int))] 5))) := fun wn h => below_on (below_on B0.out h) (alloc_b _ _)
      clear ih hq hr h hu E
      go_enter Tryd.func36, Tryd.ntmps36
      go_upto_region 3 with fail
      go_region_with (go_at_call 36; with_reducible refine (IH.out _).mono ?_; rintro e wn ⟨⟨s, rfl, hs⟩, hB⟩; have HS := hid hs; have hsz := hs.size; first | (obtain ⟨c2, d2⟩ := K1.out _ hB; have D2 := hid d2; clear d2 hs hB) | (have D2 := hid (K2.out _ hB); clear hs hB))
      all_goals (go_wp2_with fail; go_ret; exact ⟨⟨_, rfl, F.out _ HS.out⟩, D2.out⟩)
end Go.Proofs.YtjghlpkjbfaoiaaDoor
