/-
  abacuslaw26: CodeHeights, where a code is refused.
-/
import Derived.Test.YtnobafmleellhaaDoorCdY
namespace Go.Proofs.YtnobafmleellhaaDoor
open Go Go.RowKit Go.Deep Go.Shelf

set_option maxRecDepth 100000 in
set_option maxHeartbeats 8000000 in
theorem heights_err (l : List Cd.In) (nums : List Int) (strs : List ByteArray) (p q r : Option Addr) (cap c2 c3 : Nat) (w : World) (hT : Tab10 w) (hL : Cd.LI w p l) (hQ : Cd.NI w q nums) (hR : TR w r strs) (hU : Cd.U64 nums) (hZ : ∀ s ∈ strs, s.size ≤ 9223372036854775807) (hn : l.length ≤ 9223372036854775807) (hN : nums.length ≤ 9223372036854775807) (hS : strs.length ≤ 9223372036854775807)
    (he : (Cd.hts l nums.length strs.length).2.2 = 260) :
    Calls Tryd.prog 5 #[.agg #[.slice p l.length cap, .slice q nums.length c2, .slice r strs.length c3]] w fun e w' => e = .returned (.bool true) ∧ Below w.heap.size w w' := by
  have B1 := hid (alloc_b w (.cells #[.slice p l.length cap, .slice q nums.length c2, .slice r strs.length c3] 31))
  have X1 := hid (Bx.new w 31 #[.slice p l.length cap, .slice q nums.length c2, .slice r strs.length c3])
  have AW : Hid (∀ W, Below w.heap.size w W → _) := fun W hW => caw_any W (ctab10_below hT hW)
  have PL := Cd.hts_place he
  obtain ⟨a, ha⟩ : ∃ a, (Cd.hts l nums.length strs.length).2.1 = a := ⟨_, rfl⟩
  have HE : Hid (∀ W, Below w.heap.size w W → Calls Tryd.prog 12 #[.agg #[.slice p l.length cap, .slice q nums.length c2, .slice r strs.length c3]] W fun e w' => e = .returned (.tuple #[.slice none 0 0, .int .i64 (a : Int), .int .i64 260]) ∧ Below W.heap.size W w') := fun W hW => by
    refine (chts_any l p q r cap nums.length c2 strs.length c3 W (hL.on hW) hn hN hS).mono ?_
    rintro e w' ⟨v, rfl, hB, ⟨z, _⟩ | ⟨_, rfl⟩⟩
    · rw [he] at z; exact absurd z (by show ¬ (260 : Int) = 0; decide)
    · rw [he, ha]; exact ⟨rfl, hB⟩
  have hc := Cd.chk_no he
  rw [ha] at hc
  have CH : Hid (∀ W, Below w.heap.size w W → Calls Tryd.prog 17 #[.agg #[.slice p l.length cap, .slice q nums.length c2, .slice r strs.length c3]] W fun e w' => e = .returned (.tuple #[.int .i64 0, .int .i64 (a : Int), .int .i64 260]) ∧ Below W.heap.size W w') := fun W hW => by
    have := cchk_any l p q r cap nums.length c2 strs.length c3 W (hL.on hW) hn hN hS
    rw [hc] at this
    exact this
  have EN : Hid (∀ W, Below w.heap.size w W → Calls Tryd.prog 13 #[.agg #[.slice p l.length cap, .slice q nums.length c2, .slice r strs.length c3]] W fun e w' => e = .returned (.tuple #[.slice none 0 0, .int .i64 260]) ∧ Below W.heap.size W w') := fun W hW => by
    have := cenc_any l nums strs p q r cap c2 c3 W (hL.on hW) (hQ.on hW) (hR.below hW (Nat.le_refl _)) hU hZ hn hN hS
    rw [hc] at this
    refine this.mono ?_
    rintro e w' ⟨v, err, rfl, hB, ⟨_, rfl, rfl⟩ | ⟨z, _⟩ | ⟨z, _⟩⟩
    · exact ⟨rfl, hB⟩
    · exact absurd z (by show ¬ (260 : Int) = 0; decide)
    · exact absurd z (by show ¬ (260 : Int) = 0; decide)
  have LS : Hid (∀ W, Below w.heap.size w W → Calls Tryd.prog 18 #[.agg #[.slice p l.length cap, .slice q nums.length c2, .slice r strs.length c3]] W fun e w' => e = .returned (.tuple #[.string ⟨#[]⟩, .int .i64 260]) ∧ Below W.heap.size W w') := fun W hW => by
    have := clist_any l nums strs p q r cap c2 c3 W (ctab10_below hT hW) (hL.on hW) (hQ.on hW) (hR.below hW (Nat.le_refl _)) hU hZ hn hN hS
    rw [hc] at this
    refine this.mono ?_
    rintro e w' ⟨v, err, rfl, hB, ⟨_, rfl, rfl⟩ | ⟨z, _⟩ | ⟨z, _⟩⟩
    · exact ⟨rfl, hB⟩
    · exact absurd z (by show ¬ (260 : Int) = 0; decide)
    · exact absurd z (by show ¬ (260 : Int) = 0; decide)
  have hni : (l.length : Int) ≤ 9223372036854775807 := by omega
  rw [ha] at PL
  clear hc ha he hL hQ hR hU hZ hn hN hS hT
  generalize nums.length = N at *
  generalize strs.length = S at *
  generalize l.length = n at *
  go_enter Tryd.func5, Tryd.ntmps5
  go_upto_region 1 with fail
  generalize w.alloc (.cells #[.slice p n cap, .slice q N c2, .slice r S c3] 31) = w1 at *
  go_upto_region 3 with (go_at_call 9; with_reducible refine (AW.out _ B1.out).mono ?_; rintro e w2 ⟨rfl, hB⟩; have B2 := hid (below_on B1.out hB); have X2 := hid (X1.out.on hB); obtain ⟨k0, k1, k2⟩ := bx3 X2.out; clear hB AW B1 X1)
  go_upto_region 5 with (go_at_call 12; with_reducible refine (HE.out _ B2.out).mono ?_; rintro e w3 ⟨rfl, hB⟩; have B3 := hid (below_on B2.out hB); have X3 := hid (X2.out.on hB); clear k0 k1 k2; obtain ⟨k0, k1, k2⟩ := bx3 X3.out; clear hB HE B2 X2)
  go_upto_region 6 with (go_at_call 17; with_reducible refine (CH.out _ B3.out).mono ?_; rintro e w4 ⟨rfl, hB⟩; have B4 := hid (below_on B3.out hB); have X4 := hid (X3.out.on hB); clear k0 k1 k2; obtain ⟨k0, k1, k2⟩ := bx3 X4.out; clear hB CH B3 X3)
  go_upto_region 7 with (go_at_call 13; with_reducible refine (EN.out _ B4.out).mono ?_; rintro e w5 ⟨rfl, hB⟩; have B5 := hid (below_on B4.out hB); have X5 := hid (X4.out.on hB); clear k0 k1 k2; obtain ⟨k0, k1, k2⟩ := bx3 X5.out; clear hB EN B4 X4)
  go_upto_region 8 with (go_at_call 18; with_reducible refine (LS.out _ B5.out).mono ?_; rintro e w6 ⟨rfl, hB⟩; have B6 := hid (below_on B5.out hB); clear hB LS B5 X5 k0 k1 k2)
  rcases PL with ⟨n1, a1⟩ | ⟨n1, rfl⟩
  · have i1 : (n : Int) ≤ 131072 := by omega
    have i2 : (a : Int) ≤ (n : Int) := by omega
    have i3 : (0 : Int) ≤ (a : Int) := by omega
    clear n1 a1
    go_wp2_with fail
    go_ret
    exact ⟨rfl, B6.out⟩
  · have i1 : ¬ (n : Int) ≤ 131072 := by omega
    have i2 : (131072 : Int) < (n : Int) := by omega
    clear n1
    go_wp2_with fail
    all_goals
      go_ret
      exact ⟨rfl, B6.out⟩
end Go.Proofs.YtnobafmleellhaaDoor
