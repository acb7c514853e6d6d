/-
  chars: Join, Cat, Index; the blanks.
-/
import Derived.Test.YtiggmgagcogakaaDoorChA
namespace Go.Proofs.YtiggmgagcogakaaDoor
open Go Go.RowKit Go.Deep Go.Shelf

set_option maxRecDepth 100000 in
theorem cindex_any (s t : ByteArray) (w : World) (h : ML w) (hs : s.size < 4294967281) :
    Calls Tryd.prog 34 #[.string s, .string t] w fun e w' => e = .returned (.int .i64 (Lib.index s.data.toList t.data.toList + 1)) ∧ w' = w := by
  have I := hid (sindex_any s t w h hs)
  have g1 := Lib.index_ge s.data.toList t.data.toList
  have g2 := Lib.index_le s.data.toList t.data.toList
  rw [Ch.size_len] at g2
  clear h
  generalize Lib.index s.data.toList t.data.toList = k at *
  have g3 : k ≤ 4294967281 := by omega
  clear g2 hs
  go_enter Tryd.func34, Tryd.ntmps34
  go_wp2_with fail
  refine I.out.mono ?_
  rintro e w1 ⟨rfl, hw⟩
  subst hw
  go_wp2_with fail
  go_ret
  exact ⟨rfl, rfl⟩

theorem bl_cases (c : UInt8) : ((c.toNat : Int) = 32 ∧ Ch.bl c = true) ∨ (((c.toNat : Int) == 32) = false ∧ ¬ (9 : Int) ≤ (c.toNat : Int) ∧ Ch.bl c = false) ∨ (((c.toNat : Int) == 32) = false ∧ (9 : Int) ≤ (c.toNat : Int) ∧ (c.toNat : Int) ≤ 13 ∧ Ch.bl c = true) ∨ (((c.toNat : Int) == 32) = false ∧ (9 : Int) ≤ (c.toNat : Int) ∧ ¬ (c.toNat : Int) ≤ 13 ∧ Ch.bl c = false) := by
  unfold Ch.bl
  by_cases h1 : c.toNat = 32
  · exact .inl ⟨by omega, by simp [h1]⟩
  · by_cases h2 : 9 ≤ c.toNat
    · by_cases h3 : c.toNat ≤ 13
      · exact .inr (.inr (.inl ⟨by simp; omega, by omega, by omega, by simp [h2, h3]⟩))
      · exact .inr (.inr (.inr ⟨by simp; omega, by omega, by omega, by simp [h1, h3]⟩))
    · exact .inr (.inl ⟨by simp; omega, by omega, by simp [h1, h2]⟩)
set_option maxRecDepth 100000 in
theorem sblank_any (c : UInt8) (w : World) : Calls Tryd.prog 6 #[.int .u8 (c.toNat : Int)] w fun e w' => e = .returned (.bool (Ch.bl c)) ∧ w' = w := by
  have b0 : (0 : Int) ≤ (c.toNat : Int) := by omega
  have b1 : (c.toNat : Int) < 256 := by have := c.toNat_lt; omega
  have B := bl_cases c
  generalize (c.toNat : Int) = n at *
  generalize Ch.bl c = r at *
  rcases B with ⟨h1, rfl⟩ | ⟨h1, h2, rfl⟩ | ⟨h1, h2, h3, rfl⟩ | ⟨h1, h2, h3, rfl⟩
  all_goals
    go_enter Tryd.func6, Tryd.ntmps6
    go_wp2_with fail
    go_ret
    exact ⟨rfl, rfl⟩
end Go.Proofs.YtiggmgagcogakaaDoor
