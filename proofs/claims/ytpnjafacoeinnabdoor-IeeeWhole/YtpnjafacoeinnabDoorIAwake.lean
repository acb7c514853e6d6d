import Derived.Test.YtpnjafacoeinnabDoorIRatio
import Derived.Test.YtpnjafacoeinnabDoorIDec
import Derived.Test.YtpnjafacoeinnabDoorIUp
/-
  awake.
-/
namespace Go.Proofs.YtpnjafacoeinnabDoor
open Go Go.RowKit Go.Deep

theorem Ie.third (x : Int) (h : Ie.Rnd 1 3 0 false x) : x = 4599676419421066581 := by
  have e1 : Ie.man 4599676419421066581 = 6004799503160661 := by decide
  have e2 : Ie.ex 4599676419421066581 = 1020 := by decide
  have e3 : Ie.man 4599676419421066580 = 6004799503160660 := by decide
  have e4 : Ie.ex 4599676419421066580 = 1020 := by decide
  have h2 : Ie.Rnd 1 3 0 false 4599676419421066581 := by
    refine Ie.Rnd.of (a := 1075) (b := 0) (by omega) ?_
    have p := Nm.two_pos 1020
    have q : (2 : Int) ^ 1075 = 36028797018963968 * 2 ^ 1020 := by
      rw [show 1075 = 55 + 1020 by rfl, Nm.two_add]
      congr 1
    refine ⟨⟨by omega, by omega⟩, fun _ => .inl ?_, fun _ => .inl ?_⟩
    · rw [show (4599676419421066581 : Int) - 1 = 4599676419421066580 by rfl, Ie.md, e3, e4, q, Int.pow_zero]
      generalize (2 : Int) ^ 1020 = z at p
      omega
    · rw [Ie.md, e1, e2, q, Int.pow_zero]
      generalize (2 : Int) ^ 1020 = z at p
      omega
  exact h.one (by omega) (by omega) h2 (a := 0) (a' := 0) (by omega) rfl

theorem arg_lit {w : World} {g : Nat} {x : Int} (h : w.heap[g]? = some (.cells #[.int .u64 x] 30 (0, 0))) (h0 : 0 ≤ x) (h1 : x < 18446744073709551616) : Arg w (some ⟨g, 0, none⟩) 1 1 [x] := by
  refine ⟨rfl, Nat.le_refl _, by omega, .inr ⟨g, 0, rfl, fun i hi => ?_⟩, Nm.Limbs.mk h0 h1 Nm.Limbs.nil⟩
  obtain rfl : i = 0 := by simpa using hi
  simp [World.cell?, h]

set_option maxRecDepth 100000 in
set_option maxHeartbeats 4000000 in
theorem awake_any (w : World) (hT : Tab w) :
    Calls Tryd.prog 6 #[] w fun e w' => e = .returned (.bool true) ∧ Below w.heap.size w w' := by
  have A1 : Hid (∀ g1 g2 : Obj, g1 = .cells #[.int .u64 1] 30 → g2 = .cells #[.int .u64 3] 30 → Calls Tryd.prog 10 #[.bool true, .slice (some ⟨w.heap.size, 0, none⟩) 1 1, .slice (some ⟨w.heap.size + 1, 0, none⟩) 1 1, .int .i64 0] ((w.alloc g1).alloc g2) fun r w' => r = .returned (.tuple #[.int .u64 13823048456275842389, .int .i64 0]) ∧ Below w.heap.size w w') := by
    intro g1 g2 e1 e2
    subst e1 e2
    have hb := twice_alloc w (.cells #[.int .u64 1] 30) (.cells #[.int .u64 3] 30)
    refine (roundRatio_any true _ _ 1 1 1 1 [1] [3] _ (arg_lit (heap_alloc2_old w _ _) (by omega) (by omega)) (arg_lit (heap_alloc2_new w _ _) (by omega) (by omega)) (hT.below hb) (by decide) (by decide) 1 3 0 rfl rfl (by omega)).mono ?_
    rintro e w1 ⟨x, rfl, R, hB⟩
    obtain rfl := Ie.third x R
    exact ⟨rfl, hb.trans (hB.mono hb.size)⟩
  have D1 : Hid (∀ wx : World, Calls Tryd.prog 23 #[.int .u64 4609434218613702656] wx fun e w' => e = .returned (.agg #[.bool false, .int .i64 2, .int .u64 6755399441055744, .int .i64 (-52)]) ∧ Below wx.heap.size wx w') := by
    intro wx
    exact decode_any 4609434218613702656 wx (by omega) (by omega)
  have U1 : Hid (∀ wx : World, Calls Tryd.prog 24 #[.int .u64 1] wx fun e w' => e = .returned (.int .u64 2) ∧ w' = wx) := by
    intro wx
    exact up_any 1 wx (by omega) (by omega)
  clear hT
  go_enter Tryd.func6, Tryd.ntmps6
  go_wp2_with fail
  refine (A1.out _ _ rfl rfl).mono ?_
  rintro e w1 ⟨rfl, hB1⟩
  have HB1 := hid hB1
  clear hB1 A1
  go_wp2_with fail
  refine (D1.out w1).mono ?_
  rintro e w2 ⟨rfl, hB2⟩
  have HB2 := hid (HB1.out.trans (hB2.mono HB1.out.size))
  clear hB2 D1 HB1
  go_wp2_with fail
  refine (U1.out _).mono ?_
  rintro e w3 ⟨rfl, rfl⟩
  go_wp2_with fail
  go_ret
  exact ⟨rfl, Below.alloc HB2.out HB2.out.size _⟩
end Go.Proofs.YtpnjafacoeinnabDoor
