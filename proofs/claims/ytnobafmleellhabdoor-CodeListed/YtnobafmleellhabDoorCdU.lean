/-
  abacuslaw26: awake.
-/
import Derived.Test.YtnobafmleellhabDoorCdT
namespace Go.Proofs.YtnobafmleellhabDoor
open Go Go.RowKit Go.Deep Go.Shelf

namespace Cd
def awO : List In := [⟨3, 9, 0⟩, ⟨1, 0, 0⟩, ⟨24, 1, 0⟩]
def awN : List Int := [4607182418800017408]
theorem aw_ef : ef ⟨24, 1, 0⟩ = (2, 1, true) := by rfl
theorem aw_chk : chk awO 1 0 = (2, 0, 0) := by rfl
theorem aw_enc : enc awO awN [] = [65, 66, 67, 49, 1, 0, 0, 0, 0, 0, 0, 240, 63, 0, 3, 3, 9, 1, 0, 24, 1] := by
  have n0 : num 0 = [0] := num_lt (by omega)
  have n1 : num 1 = [1] := num_lt (by omega)
  have n3 : num 3 = [3] := num_lt (by omega)
  have n9 : num 9 = [9] := num_lt (by omega)
  have e : enc awO awN [] = [65, 66, 67, 49] ++ (num 1 ++ (dbl 4607182418800017408 ++ [])) ++ (num 0 ++ []) ++ (num 3 ++ ((3 :: (num 9 ++ [])) ++ ((1 :: (num 0 ++ [])) ++ ((24 :: (num 1 ++ [])) ++ [])))) := by rfl
  rw [e, n0, n1, n3, n9]
  rfl
theorem itoa_d (n : Nat) (h : n < 10) : Lib.itoa (n : Int) = [UInt8.ofNat (48 + n)] := by
  unfold Lib.itoa
  rw [if_neg (by omega), Int.toNat_natCast, Lib.decDigits, dif_pos h]
theorem aw_lst : lst awO awN [] = [48, 58, 32, 118, 97, 114, 32, 57, 10, 49, 58, 32, 110, 117, 109, 32, 48, 32, 51, 102, 102, 48, 48, 48, 48, 48, 48, 48, 48, 48, 48, 48, 48, 48, 10, 50, 58, 32, 98, 105, 110, 32, 49, 10] := by
  have d0 : Lib.itoa 0 = [48] := itoa_d 0 (by omega)
  have d1 : Lib.itoa 1 = [49] := itoa_d 1 (by omega)
  have d2 : Lib.itoa 2 = [50] := itoa_d 2 (by omega)
  have d9 : Lib.itoa 9 = [57] := itoa_d 9 (by omega)
  have e : lst awO awN [] = (Lib.itoa 0 ++ [58, 32] ++ [118, 97, 114] ++ ((32 :: Lib.itoa 9) ++ []) ++ [] ++ [10]) ++ ((Lib.itoa 1 ++ [58, 32] ++ [110, 117, 109] ++ ((32 :: Lib.itoa 0) ++ []) ++ (32 :: hex16 4607182418800017408) ++ [10]) ++ ((Lib.itoa 2 ++ [58, 32] ++ [98, 105, 110] ++ ((32 :: Lib.itoa 1) ++ []) ++ [] ++ [10]) ++ [])) := by rfl
  rw [e, d0, d1, d2, d9]
  rfl
end Cd
set_option maxRecDepth 100000 in
set_option maxHeartbeats 4000000 in
theorem caw_any (w : World) (hT : Tab10 w) : Calls Tryd.prog 5 #[] w fun e w' => e = .returned (.bool true) ∧ Below w.heap.size w w' := by
  have T10 : Hid (∀ W, Below w.heap.size w W → Tab10 W) := fun W hW => ctab10_below hT hW
  have EF := hid (fun W => cEffect_any ⟨24, 1, 0⟩ W)
  rw [Cd.aw_ef] at EF
  have CH : Hid (∀ W p q, Cd.LI W p Cd.awO → Calls Tryd.prog 6 #[.agg #[.slice p 3 3, .slice q 1 1, .slice none 0 0]] W fun e w' => e = .returned (.tuple #[.int .i64 2, .int .i64 0, .int .i64 0]) ∧ Below W.heap.size W w') := fun W p q hL => by
    have := cchk_any Cd.awO p q none 3 1 1 0 0 W hL (by decide) (by decide) (by decide)
    rw [Cd.aw_chk] at this
    exact this
  have EN : Hid (∀ W p q, Cd.LI W p Cd.awO → Cd.NI W q Cd.awN → Calls Tryd.prog 11 #[.agg #[.slice p 3 3, .slice q 1 1, .slice none 0 0]] W fun e w' => ∃ v, e = .returned (.tuple #[v, .int .i64 0]) ∧ (convert 42 9 v).run Tryd.prog w' = .ok (.string ⟨#[65, 66, 67, 49, 1, 0, 0, 0, 0, 0, 0, 240, 63, 0, 3, 3, 9, 1, 0, 24, 1]⟩) w' ∧ Below W.heap.size W w') := fun W p q hL hN => by
    have := cenc_any Cd.awO Cd.awN [] p q none 3 1 0 W hL hN (TR.nil _ _) (fun x hx => by simp only [Cd.awN, List.mem_cons, List.not_mem_nil, or_false] at hx; omega) (fun s hs => by cases hs) (by decide) (by decide) (by decide)
    rw [show (Cd.chk Cd.awO Cd.awN.length ([] : List ByteArray).length) = (2, 0, 0) from Cd.aw_chk, Cd.aw_enc] at this
    refine this.mono ?_
    rintro e w' ⟨v, err, rfl, hB, ⟨h, _⟩ | ⟨_, h, _⟩ | ⟨_, _, rfl, hv⟩⟩
    · exact absurd h (by decide)
    · exact absurd h (by decide)
    · exact ⟨v, rfl, hv.conv, hB⟩
  have LI : Hid (∀ W p q, Tab10 W → Cd.LI W p Cd.awO → Cd.NI W q Cd.awN → Calls Tryd.prog 12 #[.agg #[.slice p 3 3, .slice q 1 1, .slice none 0 0]] W fun e w' => e = .returned (.tuple #[.string ⟨#[48, 58, 32, 118, 97, 114, 32, 57, 10, 49, 58, 32, 110, 117, 109, 32, 48, 32, 51, 102, 102, 48, 48, 48, 48, 48, 48, 48, 48, 48, 48, 48, 48, 48, 10, 50, 58, 32, 98, 105, 110, 32, 49, 10]⟩, .int .i64 0]) ∧ Below W.heap.size W w') := fun W p q hT hL hN => by
    have := clist_any Cd.awO Cd.awN [] p q none 3 1 0 W hT hL hN (TR.nil _ _) (fun x hx => by simp only [Cd.awN, List.mem_cons, List.not_mem_nil, or_false] at hx; omega) (fun s hs => by cases hs) (by decide) (by decide) (by decide)
    rw [show (Cd.chk Cd.awO Cd.awN.length ([] : List ByteArray).length) = (2, 0, 0) from Cd.aw_chk, Cd.aw_lst] at this
    refine this.mono ?_
    rintro e w' ⟨v, err, rfl, hB, ⟨h, _⟩ | ⟨_, h, _⟩ | ⟨_, _, rfl, rfl⟩⟩
    · exact absurd h (by decide)
    · exact absurd h (by decide)
    · exact ⟨rfl, hB⟩
  clear hT
  obtain ⟨y1, y2, y3⟩ := bx_three w #[.int .i64 3, .int .i64 9, .int .i64 0, .int .i64 1, .int .i64 0, .int .i64 0, .int .i64 24, .int .i64 1, .int .i64 0] #[.int .u64 4607182418800017408] #[.slice (some ⟨w.heap.size, 0, none⟩) 3 3, .slice (some ⟨w.heap.size + 1, 0, none⟩) 1 1, .slice none 0 0] 28 50 26
  have L1 : Hid (Cd.LI _ (some ⟨w.heap.size, 0, none⟩) Cd.awO) := Cd.LI.row (D := Cd.awO) y1 (fun _ _ h => h)
  have N1 : Hid (Cd.NI _ (some ⟨w.heap.size + 1, 0, none⟩) Cd.awN) := fun i x hx => by
    match i, hx with
    | 0, hx =>
      simp only [Cd.awN, List.getElem?_cons_zero, Option.some.injEq] at hx
      subst hx
      exact ⟨_, _, rfl, y2.cell 0 _ rfl⟩
    | i + 1, hx => simp [Cd.awN] at hx
  have X1 := hid y3
  have B1 := hid (cd_b3 w (.cells #[.int .i64 3, .int .i64 9, .int .i64 0, .int .i64 1, .int .i64 0, .int .i64 0, .int .i64 24, .int .i64 1, .int .i64 0] 28) (.cells #[.int .u64 4607182418800017408] 50) (.cells #[.slice (some ⟨w.heap.size, 0, none⟩) 3 3, .slice (some ⟨w.heap.size + 1, 0, none⟩) 1 1, .slice none 0 0] 26))
  have c6 := y1.cell 6 _ rfl
  have c7 := y1.cell 7 _ rfl
  have c8 := y1.cell 8 _ rfl
  obtain ⟨k0, k1, k2⟩ := bx3 y3
  clear y1 y2 y3
  go_enter Tryd.func5, Tryd.ntmps5
  go_upto_region 2 with fail
  generalize ((w.alloc (.cells #[.int .i64 3, .int .i64 9, .int .i64 0, .int .i64 1, .int .i64 0, .int .i64 0, .int .i64 24, .int .i64 1, .int .i64 0] 28)).alloc (.cells #[.int .u64 4607182418800017408] 50)).alloc (.cells #[.slice (some ⟨w.heap.size, 0, none⟩) 3 3, .slice (some ⟨w.heap.size + 1, 0, none⟩) 1 1, .slice none 0 0] 26) = w1 at *
  go_upto_region 5 with (go_at_call 7; with_reducible refine (EF.out _).mono ?_; rintro e w2 ⟨rfl, hB⟩; have B2 := hid (below_on B1.out hB); have X2 := hid (X1.out.on hB); have L2 := hid (L1.out.on hB); have N2 := hid (N1.out.on hB); clear k0 k1 k2 c6 c7 c8; obtain ⟨k0, k1, k2⟩ := bx3 X2.out; clear hB EF B1 X1 L1 N1)
  go_upto_region 8 with (go_at_call 6; with_reducible refine (CH.out _ _ _ L2.out).mono ?_; rintro e w3 ⟨rfl, hB⟩; have B3 := hid (below_on B2.out hB); have X3 := hid (X2.out.on hB); have L3 := hid (L2.out.on hB); have N3 := hid (N2.out.on hB); clear k0 k1 k2; obtain ⟨k0, k1, k2⟩ := bx3 X3.out; clear hB CH B2 X2 L2 N2)
  go_upto_region 11 with (go_at_call 11; with_reducible refine (EN.out _ _ _ L3.out N3.out).mono ?_; rintro e w4 ⟨v, rfl, cv, hB⟩; have B4 := hid (below_on B3.out hB); have X4 := hid (X3.out.on hB); have L4 := hid (L3.out.on hB); have N4 := hid (N3.out.on hB); clear k0 k1 k2; obtain ⟨k0, k1, k2⟩ := bx3 X4.out; clear hB EN B3 X3 L3 N3)
  clear cv
  go_wp2_with (go_at_call 12; with_reducible refine (LI.out _ _ _ (T10.out _ B4.out) L4.out N4.out).mono ?_; rintro e w5 ⟨rfl, hB⟩; have B5 := hid (below_on B4.out hB); clear hB LI)
  go_ret
  exact ⟨rfl, B5.out⟩
end Go.Proofs.YtnobafmleellhabDoor
