import Derived.Test.YtpnjafacoeinnaaDoorIDec
import Derived.Test.YtpnjafacoeinnaaDoorIRoom
import Derived.Deep.RegionWith
/-
  ieee: joined, Encode, over what Decode tells (made by mkenc.py).
-/
namespace Go.Proofs.YtpnjafacoeinnaaDoor
open Go Go.RowKit Go.Deep

namespace Ie
theorem sg_back (d : Int) (h0 : 0 ≤ d) (h1 : d < 18446744073709551616) : sg (decide (9223372036854775808 ≤ d)) (d % 9223372036854775808) = d := by
  by_cases h : 9223372036854775808 ≤ d
  · rw [decide_eq_true h, sg, if_pos rfl]; omega
  · rw [decide_eq_false h, sg, if_neg (by decide)]; omega
theorem fin_or (y : Int) (h0 : 0 ≤ y) (h1 : y < 4503599627370496) : bits .or .u64 y 9218868437227405312 = y + 9218868437227405312 := Ib.field_or y 2047 h0 h1 (by omega) (by omega)
end Ie

set_option maxRecDepth 100000 in
set_option maxHeartbeats 4000000 in
theorem joined_dec (d : Int) (w : World) (h0 : 0 ≤ d) (h1 : d < 18446744073709551616) :
    Calls Tryd.prog 24 #[partsOf (decide (9223372036854775808 ≤ d)) (Ie.cls d) (Ie.dm d) (Ie.de d)] w fun e w' => e = .returned (.int .u64 d) ∧ Below w.heap.size w w' := by
  obtain ⟨neg, hneg⟩ : ∃ neg, decide (9223372036854775808 ≤ d) = neg := ⟨_, rfl⟩
  have SB := Ie.sg_back d h0 h1
  rw [hneg] at SB ⊢
  obtain ⟨f, hf⟩ : ∃ f, Ie.fld d = f := ⟨_, rfl⟩
  obtain ⟨y, hy⟩ : ∃ y, d % 4503599627370496 = y := ⟨_, rfl⟩
  obtain ⟨fb0, fb1⟩ := Ie.fld_bd d
  rw [hf] at fb0 fb1
  have y0 : 0 ≤ y := by omega
  have y1 : y < 4503599627370496 := by omega
  have hr : d % 9223372036854775808 = f * 4503599627370496 + y := by rw [← hf, ← hy, Ie.fld]; omega
  rw [hr] at SB
  have SG : Hid (∀ (wx : World) (x : Int), x = f * 4503599627370496 + y → Calls Tryd.prog 25 #[.bool neg, .int .u64 x] wx fun e w' => e = .returned (.int .u64 d) ∧ w' = wx) := by
    intro wx x hx
    have := signed_any neg x wx (by omega) (by omega)
    rw [hx, SB] at this
    rw [hx]
    exact this
  have F1 := Ib.frac_and y y0 (by omega)
  have F2 := Ib.frac_and (4503599627370496 + y) (by omega) (by omega)
  have e2 : (4503599627370496 + y) % 4503599627370496 = y := by omega
  have e1 : y % 4503599627370496 = y := by omega
  rw [e2] at F2
  rw [e1] at F1
  have F0 := Ib.frac_and 0 (by omega) (by omega)
  rw [show (0 : Int) % 4503599627370496 = 0 by rfl] at F0
  have A1 := Ib.field_and f fb0 (by omega)
  rw [show f % 2048 = f by omega] at A1
  have A2 : bits .and .u64 (f - 1075 + 1074 + 1) 2047 = f := by rw [show f - 1075 + 1074 + 1 = f by omega]; exact A1
  have O1 := Ib.field_or y f y0 y1 fb0 (by omega)
  have O2 := Ie.fin_or y y0 y1
  have O3 := Ie.fin_or 0 (by omega) (by omega)
  have WF : IntKind.u64.wrap (f * 4503599627370496) = f * 4503599627370496 := by rw [IntKind.wrap_u64]; omega
  have CD : (Ie.cls d = 0 ∧ Ie.dm d = 0 ∧ Ie.de d = 0 ∧ f = 0 ∧ y = 0) ∨ (Ie.cls d = 1 ∧ Ie.dm d = y ∧ Ie.de d = -1074 ∧ f = 0) ∨ (Ie.cls d = 2 ∧ Ie.dm d = 4503599627370496 + y ∧ Ie.de d = f - 1075) ∨ (Ie.cls d = 3 ∧ Ie.dm d = 0 ∧ Ie.de d = 0 ∧ f = 2047 ∧ y = 0) ∨ (Ie.cls d = 4 ∧ Ie.dm d = y ∧ Ie.de d = 0 ∧ f = 2047) := by
    have hc : Ie.cls d = if f = 0 then (if y = 0 then 0 else 1) else if f = 2047 then (if y = 0 then 3 else 4) else 2 := by rw [Ie.cls, hf, hy]
    have hm : Ie.dm d = if Ie.cls d = 2 then 4503599627370496 + y else if Ie.cls d = 1 ∨ Ie.cls d = 4 then y else 0 := by rw [Ie.dm, hy]
    have he : Ie.de d = if Ie.cls d = 2 then f - 1075 else if Ie.cls d = 1 then -1074 else 0 := by rw [Ie.de, hf]
    by_cases a : f = 0
    · by_cases b : y = 0
      · rw [if_pos a, if_pos b] at hc
        left; rw [hm, he, hc]; exact ⟨rfl, rfl, rfl, a, b⟩
      · rw [if_pos a, if_neg b] at hc
        right; left; rw [hm, he, hc]; exact ⟨rfl, rfl, rfl, a⟩
    · by_cases a2 : f = 2047
      · by_cases b : y = 0
        · rw [if_neg a, if_pos a2, if_pos b] at hc
          right; right; right; left; rw [hm, he, hc]; exact ⟨rfl, rfl, rfl, a2, b⟩
        · rw [if_neg a, if_pos a2, if_neg b] at hc
          right; right; right; right; rw [hm, he, hc]; exact ⟨rfl, rfl, rfl, a2⟩
      · rw [if_neg a, if_neg a2] at hc
        right; right; left; rw [hm, he, hc]; exact ⟨rfl, rfl, rfl⟩
  clear hf hy hr SB e1 e2 hneg
  simp only [partsOf]
  rcases CD with ⟨c, m, x, hf, hy⟩ | ⟨c, m, x, hf⟩ | ⟨c, m, x⟩ | ⟨c, m, x, hf, hy⟩ | ⟨c, m, x, hf⟩ <;> rw [c, m, x] <;> clear c m x
  · go_enter Tryd.func24, Tryd.ntmps24
    go_wp2_with fail
    refine (SG.out _ _ (by omega)).mono ?_
    rintro e w' ⟨rfl, rfl⟩
    go_wp2_with fail
    go_ret
    exact ⟨rfl, alloc_below _ _⟩
  · go_enter Tryd.func24, Tryd.ntmps24
    go_wp2_with fail
    refine (SG.out _ _ (by omega)).mono ?_
    rintro e w' ⟨rfl, rfl⟩
    go_wp2_with fail
    go_ret
    exact ⟨rfl, alloc_below _ _⟩
  · go_enter Tryd.func24, Tryd.ntmps24
    go_wp2_with fail
    refine (SG.out _ _ (by omega)).mono ?_
    rintro e w' ⟨rfl, rfl⟩
    go_wp2_with fail
    go_ret
    exact ⟨rfl, alloc_below _ _⟩
  · go_enter Tryd.func24, Tryd.ntmps24
    go_wp2_with fail
    refine (SG.out _ _ (by omega)).mono ?_
    rintro e w' ⟨rfl, rfl⟩
    go_wp2_with fail
    go_ret
    exact ⟨rfl, alloc_below _ _⟩
  · go_enter Tryd.func24, Tryd.ntmps24
    go_wp2_with fail
    refine (SG.out _ _ (by omega)).mono ?_
    rintro e w' ⟨rfl, rfl⟩
    go_wp2_with fail
    go_ret
    exact ⟨rfl, alloc_below _ _⟩
end Go.Proofs.YtpnjafacoeinnaaDoor
