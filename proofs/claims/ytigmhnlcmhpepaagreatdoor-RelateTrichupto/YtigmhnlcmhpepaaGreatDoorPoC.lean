/-
  point: powered, general, written.
-/
import Derived.Test.YtigmhnlcmhpepaaGreatDoorWAZ
namespace Go.Proofs.YtigmhnlcmhpepaaGreatDoor
open Go Go.RowKit Go.Deep Go.Shelf

theorem ext_tail {xs : List Int} (hx : Wh.By xs) (k : Nat) : (strOfNums xs).extract k xs.length = strOfNums (xs.drop k) := by
  have q := (Str.of_nums hx).extract k xs.length
  have e : (xs.drop k).take (xs.length - k) = xs.drop k := List.take_of_length_le (by rw [List.length_drop]; omega)
  rw [e] at q
  exact str_is q
theorem ext_head {xs : List Int} (hx : Wh.By xs) (k : Nat) : (strOfNums xs).extract 0 k = strOfNums (xs.take k) := by
  have q := (Str.of_nums hx).extract 0 k
  rw [List.drop_zero, Nat.sub_zero] at q
  exact str_is q

set_option maxRecDepth 100000 in
set_option maxHeartbeats 4000000 in
theorem ppowered_any (V d n : Int) (w : World) (hT : Tab w) (v0 : 0 ≤ V) (v1 : V < 256) (h0 : 0 ≤ d) (h1 : d < 18446744073709551616) (hf : Ie.fnt d = true) (n0 : 0 ≤ n) (n1 : n ≤ 4199) :
    Calls Tryz.prog 155 #[.int .u8 V, .int .u64 d, .int .i64 n] w fun e w' => e = .returned (NumV ((Fx.gS d (n + 1)).take 1) ((Fx.gS d (n + 1)).drop 1) (Po.ex V (Fx.gK d (n + 1)))) ∧ Below w.heap.size w w' := by
  have B := hid (NB.new w)
  have PL := hid (fgx_any d (n + 1) _ (hT.below (NB.new w).bel) h0 h1)
  have K := Po.fgF hf (n := n + 1) (by omega) (by omega)
  have XP := hid (fun wx => pexp_any V (Fx.gK d (n + 1)) wx v0 v1 (by have := K.lo; omega) (by have := K.hi; omega))
  have BY := Po.digs_by K.s
  have X1 := hid (ext_head BY 1)
  have X2 := hid (ext_tail BY 1)
  have LN := K.len
  obtain ⟨L, hL⟩ : ∃ L, (Fx.gS d (n + 1)).length = L := ⟨_, rfl⟩
  have SZ : (strOfNums (Fx.gS d (n + 1))).size = L := by rw [strOfNums_size, hL]
  rw [hL] at X2 LN
  have l1 : (1 : Int) ≤ (L : Int) := by omega
  have l2 : (L : Int) ≤ 4200 := by omega
  clear hT h0 h1 hf v0 v1 K BY LN hL
  generalize Fx.gS d (n + 1) = S at *
  generalize Fx.gK d (n + 1) = k at *
  generalize Fx.rf d (n + 1) 1 = r at *
  generalize Po.ex V k = E at *
  generalize S.take 1 = S1 at *
  generalize S.drop 1 = S2 at *
  generalize hs : strOfNums S = s at *
  clear hs
  go_enter Tryz.func155, Tryz.ntmps155
  go_wp2_with fail
  refine PL.out.mono ?_
  rintro e w1 ⟨rfl, b1⟩
  have B1 := hid (B.out.on b1)
  clear b1 B PL
  have FIN : Hid (∀ wk, NB w w.heap.size [] [] [] wk → NB w w.heap.size S1 S2 E (((wk.setCell ⟨w.heap.size, 0, none⟩ (.string (s.extract 0 1))).setCell ⟨w.heap.size, 1, none⟩ (.string (s.extract 1 L))).setCell ⟨w.heap.size, 2, none⟩ (.string (strOfNums E)))) := by
    intro wk h
    rw [X1.out, X2.out]
    exact h.put S1 S2 E
  have CL : Hid (∀ wk, NB w w.heap.size [] [] [] wk → (wk.cell? ⟨w.heap.size, 0, none⟩ = some (.string (strOfNums [])) ∧ wk.cell? ⟨w.heap.size, 1, none⟩ = some (.string (strOfNums [])) ∧ wk.cell? ⟨w.heap.size, 2, none⟩ = some (.string (strOfNums []))) ∧ (wk.frozen? ⟨w.heap.size, 0, none⟩ = false ∧ wk.frozen? ⟨w.heap.size, 1, none⟩ = false ∧ wk.frozen? ⟨w.heap.size, 2, none⟩ = false)) := fun wk h => h.box.cells
  go_upto_region 2 with fail
  have T1 := hid B1.out.drew
  obtain ⟨⟨c0, c1, c2⟩, f0, f1, f2⟩ := CL.out _ T1.out
  go_region_with (go_at_call 183; with_reducible refine (XP.out _).mono ?_; rintro e w2 ⟨rfl, b2⟩; have T2 := hid (T1.out.on b2); obtain ⟨⟨g0, g1, g2⟩, i0, i1, i2⟩ := CL.out _ T2.out; clear b2)
  all_goals (
    have T3 := hid (FIN.out _ T2.out)
    go_wp2_with fail
    (try simp only [Exit.inBlock, Exit.then])
    refine bodyPost_ret (results_cell_row rfl _ _ w.heap.size 233 _ (0, 0) _ rfl T3.out.box Tryz.underlying233 rfl (by kernel_rfl)) rfl ?_
    exact ⟨rfl, T3.out.bel⟩)

set_option maxRecDepth 100000 in
set_option maxHeartbeats 4000000 in
theorem pgeneral_any (V d n : Int) (w : World) (hT : Tab w) (v0 : 0 ≤ V) (v1 : V < 256) (h0 : 0 ≤ d) (h1 : d < 18446744073709551616) (hf : Ie.fnt d = true) (n0 : 1 ≤ n) (n1 : n ≤ 4096) :
    Calls Tryz.prog 156 #[.int .u8 V, .int .u64 d, .int .i64 n] w fun e w' => e = .returned (if -4 ≤ Fx.gK d n ∧ Fx.gK d n < n then NumV (Fx.pA d (n - 1 - Fx.gK d n)) (Fx.pB d (n - 1 - Fx.gK d n)) [] else NumV ((Fx.gS d n).take 1) ((Fx.gS d n).drop 1) (Po.ex V (Fx.gK d n))) ∧ Below w.heap.size w w' := by
  have B := hid (NB.new w)
  have PL := hid (fgx_any d n _ (hT.below (NB.new w).bel) h0 h1)
  have K := Po.fgF hf (n := n) (by omega) (by omega)
  obtain ⟨k, hk⟩ : ∃ k, Fx.gK d n = k := ⟨_, rfl⟩
  have k0 := K.lo
  have k1 := K.hi
  rw [hk] at k0 k1 PL
  have TB : Hid (∀ wk, Below w.heap.size w wk → Tab wk) := fun wk h => hT.below h
  have PW : Hid (∀ wk, Tab wk → Calls Tryz.prog 155 #[.int .u8 V, .int .u64 d, .int .i64 (n - 1)] wk fun e w' => e = .returned (NumV ((Fx.gS d n).take 1) ((Fx.gS d n).drop 1) (Po.ex V (Fx.gK d n))) ∧ Below wk.heap.size wk w') := by
    intro wk h
    have q := ppowered_any V d (n - 1) wk h v0 v1 h0 h1 hf (by omega) (by omega)
    rw [show n - 1 + 1 = n by omega] at q
    exact q
  have PA : Hid (∀ wk, Tab wk → Calls Tryz.prog 154 #[.int .u64 d, .int .i64 (n - 1 - k)] wk fun e w' => e = .returned (NumV (Fx.pA d (n - 1 - k)) (Fx.pB d (n - 1 - k)) []) ∧ Below wk.heap.size wk w') := fun wk h => pplaced_any d (n - 1 - k) wk h h0 h1
  rw [hk] at PW ⊢
  have FIN : Hid (∀ wk x y z, NB w w.heap.size [] [] [] wk → NB w w.heap.size x y z (((wk.setCell ⟨w.heap.size, 0, none⟩ (.string (strOfNums x))).setCell ⟨w.heap.size, 1, none⟩ (.string (strOfNums y))).setCell ⟨w.heap.size, 2, none⟩ (.string (strOfNums z)))) := fun wk x y z h => h.put x y z
  clear hT h0 h1 hf v0 v1 K hk
  generalize Fx.pA d (n - 1 - k) = A at *
  generalize Fx.pB d (n - 1 - k) = C at *
  generalize (Fx.gS d n).take 1 = S1 at *
  generalize (Fx.gS d n).drop 1 = S2 at *
  generalize Fx.gS d n = S at *
  generalize Fx.rf d n 1 = r at *
  generalize Po.ex V k = E at *
  by_cases g : -4 ≤ k ∧ k < n
  · rw [if_pos g]
    obtain ⟨g1, g2⟩ := g
    unfold NumV at PA
    go_enter Tryz.func156, Tryz.ntmps156
    go_wp2_with fail
    refine PL.out.mono ?_
    rintro e w1 ⟨rfl, b1⟩
    have B1 := hid (B.out.on b1)
    have T1 := hid (TB.out _ B1.out.bel)
    clear b1 B PL
    go_wp2_with fail
    refine (PA.out _ T1.out).mono ?_
    rintro e w2 ⟨rfl, b2⟩
    have B2 := hid (B1.out.on b2)
    have B3 := hid (FIN.out _ A C [] B2.out)
    obtain ⟨⟨c0, c1, c2⟩, f0, f1, f2⟩ := B2.out.box.cells
    clear b2 B1 T1 TB PA PW
    go_wp2_with fail
    (try simp only [Exit.inBlock, Exit.then])
    refine bodyPost_ret (results_cell_row rfl _ _ w.heap.size 233 _ (0, 0) _ rfl B3.out.box Tryz.underlying233 rfl (by kernel_rfl)) rfl ?_
    exact ⟨rfl, B3.out.bel⟩
  · rw [if_neg g]
    unfold NumV at PW
    by_cases g1 : -4 ≤ k
    · have g2 : ¬ k < n := by omega
      clear g
      go_enter Tryz.func156, Tryz.ntmps156
      go_wp2_with fail
      refine PL.out.mono ?_
      rintro e w1 ⟨rfl, b1⟩
      have B1 := hid (B.out.on b1)
      have T1 := hid (TB.out _ B1.out.bel)
      clear b1 B PL
      go_wp2_with fail
      refine (PW.out _ T1.out).mono ?_
      rintro e w2 ⟨rfl, b2⟩
      have B2 := hid (B1.out.on b2)
      have B3 := hid (FIN.out _ S1 S2 E B2.out)
      obtain ⟨⟨c0, c1, c2⟩, f0, f1, f2⟩ := B2.out.box.cells
      clear b2 B1 T1 TB PA PW
      go_wp2_with fail
      (try simp only [Exit.inBlock, Exit.then])
      refine bodyPost_ret (results_cell_row rfl _ _ w.heap.size 233 _ (0, 0) _ rfl B3.out.box Tryz.underlying233 rfl (by kernel_rfl)) rfl ?_
      exact ⟨rfl, B3.out.bel⟩
    · clear g
      go_enter Tryz.func156, Tryz.ntmps156
      go_wp2_with fail
      refine PL.out.mono ?_
      rintro e w1 ⟨rfl, b1⟩
      have B1 := hid (B.out.on b1)
      have T1 := hid (TB.out _ B1.out.bel)
      clear b1 B PL
      go_wp2_with fail
      refine (PW.out _ T1.out).mono ?_
      rintro e w2 ⟨rfl, b2⟩
      have B2 := hid (B1.out.on b2)
      have B3 := hid (FIN.out _ S1 S2 E B2.out)
      obtain ⟨⟨c0, c1, c2⟩, f0, f1, f2⟩ := B2.out.box.cells
      clear b2 B1 T1 TB PA PW
      go_wp2_with fail
      (try simp only [Exit.inBlock, Exit.then])
      refine bodyPost_ret (results_cell_row rfl _ _ w.heap.size 233 _ (0, 0) _ rfl B3.out.box Tryz.underlying233 rfl (by kernel_rfl)) rfl ?_
      exact ⟨rfl, B3.out.bel⟩

set_option maxRecDepth 100000 in
set_option maxHeartbeats 4000000 in
theorem pwritten_any (a b p : List Int) (h : Bool) (w : World) (ha : Wh.By a) (hb : Wh.By b) (hp : Wh.By p) (la : a.length ≤ 10000) (lb : b.length ≤ 10000) (lp : p.length ≤ 10000) :
    Calls Tryz.prog 157 #[NumV a b p, .bool h] w fun e w' => e = .returned (.string (strOfNums (Po.wrt a b p h))) ∧ Below w.heap.size w w' := by
  have B := hid (alloc_b w (.cells #[.string (strOfNums a), .string (strOfNums b), .string (strOfNums p)] 233))
  have sa : (strOfNums a).size = a.length := strOfNums_size a
  have sb : (strOfNums b).size = b.length := strOfNums_size b
  have sp : (strOfNums p).size = p.length := strOfNums_size p
  have SA := Str.of_nums ha
  have SB := Str.of_nums hb
  have SP := Str.of_nums hp
  have na : ((strOfNums a).size : Int) ≤ 10000 := by rw [sa]; omega
  have nb : ((strOfNums b).size : Int) ≤ 10000 := by rw [sb]; omega
  have np : ((strOfNums p).size : Int) ≤ 10000 := by rw [sp]; omega
  have EI := isEmpty_nums b
  have EJ := toList_nums b
  unfold NumV
  by_cases hc : b = [] ∧ h = false
  · have E : Hid (strOfNums a ++ strOfNums p = strOfNums (Po.wrt a b p h)) := by
      rw [Hid, Po.wrt, if_pos hc]; exact str_is (SA.app SP)
    obtain ⟨h1, h2⟩ := hc
    subst h1
    subst h2
    rw [show (([] : List Int).isEmpty) = true from rfl] at EI EJ
    clear SA SB SP sa sb sp la lb lp ha hb hp
    generalize strOfNums a = A at *
    generalize strOfNums p = P at *
    generalize Po.wrt a [] p false = R at *
    go_enter Tryz.func157, Tryz.ntmps157
    go_wp2_with fail
    go_ret
    exact ⟨ret_str E.out, B.out⟩
  · have E : Hid (strOfNums a ++ ⟨#[46]⟩ ++ strOfNums b ++ strOfNums p = strOfNums (Po.wrt a b p h)) := by
      rw [Hid, Po.wrt, if_neg hc]
      have q : Str (strOfNums a ++ ⟨#[46]⟩ ++ strOfNums b ++ strOfNums p) (a ++ [46] ++ b ++ p) := ((SA.app (show Str ⟨#[46]⟩ [46] from rfl)).app SB).app SP
      rw [str_is q]
      simp
    cases h with
    | true =>
      clear SA SB SP sa sb sp la lb lp ha hb hp hc
      generalize strOfNums a = A at *
      generalize strOfNums p = P at *
      generalize Po.wrt a b p true = R at *
      generalize b.isEmpty = be at *
      generalize strOfNums b = C at *
      cases be with
      | true =>
        go_enter Tryz.func157, Tryz.ntmps157
        go_wp2_with fail
        go_ret
        exact ⟨ret_str E.out, B.out⟩
      | false =>
        go_enter Tryz.func157, Tryz.ntmps157
        go_wp2_with fail
        go_ret
        exact ⟨ret_str E.out, B.out⟩
    | false =>
      have hbe : b.isEmpty = false := by
        cases b with
        | nil => exact absurd ⟨rfl, rfl⟩ hc
        | cons _ _ => rfl
      rw [hbe] at EI EJ
      clear SA SB SP sa sb sp la lb lp ha hb hp hc hbe
      generalize strOfNums a = A at *
      generalize strOfNums p = P at *
      generalize Po.wrt a b p false = R at *
      generalize strOfNums b = C at *
      go_enter Tryz.func157, Tryz.ntmps157
      go_wp2_with fail
      go_ret
      exact ⟨ret_str E.out, B.out⟩
end Go.Proofs.YtigmhnlcmhpepaaGreatDoor
