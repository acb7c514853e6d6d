/-
  abacuslaw14: WholeLong.
-/
import Derived.Test.YtbldddagddmbgaaJTexts
namespace Go.Proofs.Ytbldddagddmbgaa
open Go Go.RowKit Go.Deep Go.Shelf

theorem SB.u3 {w0 wk : World} {bx : Nat} {V F W P : Int} (h : SB w0 bx V F W P wk) (hb : w0.heap.size ≤ bx) (v : Int) : SB w0 bx V F W v (wk.setCell ⟨bx, 3, none⟩ (.int .i64 v)) :=
  ⟨h.bel.setCell (p := ⟨bx, 3, none⟩) hb _, set1 h.box rfl⟩

set_option maxRecDepth 100000 in
set_option maxHeartbeats 4000000 in
theorem long_law (w : World) : Calls Try.prog 4 #[] w fun e w' => e = .returned (.bool true) ∧ Below w.heap.size w w' := by
  obtain ⟨A, hA⟩ : ∃ A, A = Wh.rep 97 16777216 := ⟨_, rfl⟩
  have yA : Wh.By A := by rw [hA]; exact Wh.By.rep (by omega)
  have lA : A.length = 16777216 := by rw [hA, Wh.rep_len]; rfl
  have R := hid (fun W' => row_any 97 16777216 W' (by omega))
  rw [← hA] at R
  clear hA
  have S1 := hid (fun W' => tspec_any 115 W')
  have yx : Wh.By [120] := by intro x hx; simp at hx; omega
  have AX := rstr_app yA yx
  have yB : Wh.By (A ++ [120]) := yA.app yx
  have lB : (A ++ [120]).length = 16777217 := by rw [List.length_append, lA]; rfl
  have T1 : Hid (∀ W', Calls Try.prog 9 #[.agg #[.int .u8 115, .int .i64 0, .int .i64 0, .int .i64 (-1)], .string (strOfNums A)] W' fun e w' => e = .returned (.tuple #[.string (strOfNums A), .int .i64 0]) ∧ Below W'.heap.size W' w') := by
    intro W'
    refine (text_any 115 0 0 (-1) A W' (by omega) (by omega) yA (by omega)).mono ?_
    rintro e w' ⟨rfl, b⟩
    have e0 : Wh.texE 115 0 0 (-1) A = 0 := by
      rw [Wh.texE, if_pos rfl, Wh.padE, if_pos (Wh.chk_of (by omega)), Wh.cut, if_pos rfl, if_neg (by rw [lA]; simp)]
    rw [Wh.tex, e0, if_pos rfl, Wh.padT_zero, Wh.cut, if_pos rfl, List.nil_append]
    exact ⟨rfl, b⟩
  have T2 : Hid (∀ W', Calls Try.prog 9 #[.agg #[.int .u8 115, .int .i64 0, .int .i64 0, .int .i64 (-1)], .string (strOfNums (A ++ [120]))] W' fun e w' => e = .returned (.tuple #[.string ⟨#[]⟩, .int .i64 3]) ∧ Below W'.heap.size W' w') := by
    intro W'
    refine (text_any 115 0 0 (-1) (A ++ [120]) W' (by omega) (by omega) yB (by omega)).mono ?_
    rintro e w' ⟨rfl, b⟩
    have e0 : Wh.texE 115 0 0 (-1) (A ++ [120]) = 3 := by
      rw [Wh.texE, if_pos rfl, Wh.padE, if_pos (Wh.chk_of (by omega)), Wh.cut, if_pos rfl, if_pos (by rw [lB]; simp)]
    rw [Wh.tex, e0, if_neg (by decide)]
    exact ⟨rfl, b⟩
  have P1 : Hid (∀ W', Calls Try.prog 10 #[.agg #[.int .u8 115, .int .i64 0, .int .i64 0, .int .i64 (-1)], .string ⟨#[120]⟩, .string (strOfNums A), .bool true] W' fun e w' => e = .returned (.tuple #[.string ⟨#[]⟩, .int .i64 3]) ∧ Below W'.heap.size W' w') := by
    intro W'
    refine (pad_any 115 0 0 (-1) [120] A true W' yx yA (by simp) (by omega)).mono ?_
    rintro e w' ⟨rfl, b⟩
    have e0 : Wh.padE 0 0 (-1) [120] A = 3 := by
      rw [Wh.padE, if_pos (Wh.chk_of (by omega)), if_pos (by rw [lA]; simp)]
    rw [Wh.pad, e0, if_neg (by decide)]
    exact ⟨rfl, b⟩
  have T3 : Hid (∀ W', Calls Try.prog 9 #[.agg #[.int .u8 115, .int .i64 0, .int .i64 0, .int .i64 4096], .string (strOfNums (A ++ [120]))] W' fun e w' => e = .returned (.tuple #[.string (strOfNums (A.take 4096)), .int .i64 0]) ∧ Below W'.heap.size W' w') := by
    intro W'
    refine (text_any 115 0 0 4096 (A ++ [120]) W' (by omega) (by omega) yB (by omega)).mono ?_
    rintro e w' ⟨rfl, b⟩
    have ec : Wh.cut 4096 (A ++ [120]) = A.take 4096 := by
      rw [Wh.cut, if_neg (by omega), List.take_append_of_le_length (by rw [lA]; decide)]; rfl
    have e0 : Wh.texE 115 0 0 4096 (A ++ [120]) = 0 := by
      rw [Wh.texE, if_pos rfl, Wh.padE, if_pos (Wh.chk_of (by omega)), ec, if_neg (by rw [List.length_take, lA]; simp)]
    rw [Wh.tex, e0, if_pos rfl, Wh.padT_zero, ec, List.nil_append]
    exact ⟨rfl, b⟩
  have X := ext_take yA 4096
  have sA : (strOfNums A).size = 16777216 := by rw [strOfNums_size, lA]
  rw [show strOfNums [120] = ⟨#[120]⟩ from rfl] at AX
  clear yA lA yx yB lB
  generalize strOfNums (A ++ [120]) = sB at *
  generalize strOfNums (A.take 4096) = sC at *
  generalize strOfNums A = sa at *
  go_enter Try.func4, Try.ntmps4
  go_wp2_with fail
  with_reducible refine (R.out _).mono ?_
  rintro e w1 ⟨rfl, b1⟩
  have B1 := hid b1
  clear b1 R
  go_wp2_with fail
  with_reducible refine (S1.out _).mono ?_
  rintro e w2 ⟨rfl, b2⟩
  have B2 := hid (below_on B1.out b2)
  have N0 := SB.new w2 115 0 0 (-1)
  have Z0 : Hid (SB w w2.heap.size 115 0 0 (-1) (w2.alloc (.cells #[.int .u8 115, .int .i64 0, .int .i64 0, .int .i64 (-1)] 25))) := ⟨below_on B2.out N0.bel, N0.box⟩
  have wl : Hid (w.heap.size ≤ w2.heap.size) := B2.out.size
  clear b2 S1 B1 B2 N0
  go_upto_region 3 with fail
  generalize (w2.alloc (.cells #[.int .u8 115, .int .i64 0, .int .i64 0, .int .i64 (-1)] 25)) = wS at *
  generalize w2.heap.size = bx at *
  obtain ⟨c0, c1, c2, c3⟩ := Z0.out.flat
  go_wp2_with fail
  with_reducible refine (T1.out _).mono ?_
  rintro e w3 ⟨rfl, b3⟩
  have Z1 := hid (Z0.out.on b3)
  clear b3 T1 Z0 c0 c1 c2 c3
  obtain ⟨c0, c1, c2, c3⟩ := Z1.out.flat
  go_wp2_with fail
  with_reducible refine (T2.out _).mono ?_
  rintro e w4 ⟨rfl, b4⟩
  have Z2 := hid (Z1.out.on b4)
  clear b4 T2 Z1 c0 c1 c2 c3
  obtain ⟨c0, c1, c2, c3⟩ := Z2.out.flat
  go_wp2_with fail
  with_reducible refine (P1.out _).mono ?_
  rintro e w5 ⟨rfl, b5⟩
  have Z3 := hid (Z2.out.on b5)
  clear b5 P1 Z2 c0 c1 c2 c3
  obtain ⟨c0, c1, c2, c3⟩ := Z3.out.flat
  obtain ⟨f0, f1, f2, f3⟩ := Z3.out.tfree
  have Z4 := hid (Z3.out.u3 wl.out 4096)
  go_upto_region 13 with fail
  clear c0 c1 c2 c3 f0 f1 f2 f3 Z3
  generalize (w5.setCell ⟨bx, 3, none⟩ (.int .i64 4096)) = wE at *
  obtain ⟨c0, c1, c2, c3⟩ := Z4.out.flat
  go_wp2_with fail
  with_reducible refine (T3.out _).mono ?_
  rintro e w6 ⟨rfl, b6⟩
  have Z5 := hid (Z4.out.on b6)
  clear b6 T3 Z4 c0 c1 c2 c3
  go_wp2_with fail
  go_ret
  exact ⟨rfl, Z5.out.bel⟩
end Go.Proofs.Ytbldddagddmbgaa
