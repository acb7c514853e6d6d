/-
  Texts put together: PoB, PoC, PoD, PoPadN, PoE, VDl, VMade, VMade2.
-/
import Derived.Test.YtaoaniigbooihaaGreatDoorRF
import Derived.Test.YtaoaniigbooihaaGreatDoorFRow3
import Derived.Laws.Concat
import Derived.Test.YtaoaniigbooihaaGreatDoorVOrd
import Derived.Lib.ItoaNum
namespace Go.Proofs.YtaoaniigbooihaaGreatDoor
open Go Go.RowKit Go.Deep Go.Shelf

/-- Three texts in a box that may be written. -/
def N3 (w : World) (b : Nat) (v0 v1 v2 : Value) : Prop := w.heap[b]? = some (.cells #[v0, v1, v2] 98 (0, 0))
theorem N3.new (w : World) (v0 v1 v2 : Value) : N3 (w.alloc (.cells #[v0, v1, v2] 98)) w.heap.size v0 v1 v2 := heap_alloc_new w _
theorem N3.lt {w : World} {b : Nat} {v0 v1 v2 : Value} (h : N3 w b v0 v1 v2) : b < w.heap.size := by
  rcases Nat.lt_or_ge b w.heap.size with hl | hl
  · exact hl
  · simp [N3, Array.getElem?_eq_none hl] at h
theorem N3.below {w w' : World} {b : Nat} {v0 v1 v2 : Value} (h : N3 w b v0 v1 v2) (hB : Below w.heap.size w w') : N3 w' b v0 v1 v2 := by
  rw [N3, hB.block b h.lt]; exact h
theorem N3.cells {w : World} {b : Nat} {v0 v1 v2 : Value} (h : N3 w b v0 v1 v2) :
    (w.cell? ⟨b, 0, none⟩ = some v0 ∧ w.cell? ⟨b, 1, none⟩ = some v1 ∧ w.cell? ⟨b, 2, none⟩ = some v2) ∧
    (w.frozen? ⟨b, 0, none⟩ = false ∧ w.frozen? ⟨b, 1, none⟩ = false ∧ w.frozen? ⟨b, 2, none⟩ = false) := by
  simp only [N3] at h
  refine ⟨⟨?_, ?_, ?_⟩, ⟨?_, ?_, ?_⟩⟩ <;> simp [World.cell?, World.frozen?, h]
theorem N3.put {w : World} {b : Nat} {v0 v1 v2 : Value} (h : N3 w b v0 v1 v2) (u0 u1 u2 : Value) :
    N3 (((w.setCell ⟨b, 0, none⟩ u0).setCell ⟨b, 1, none⟩ u1).setCell ⟨b, 2, none⟩ u2) b u0 u1 u2 := by
  have h0 := fset1 (o := 0) (v := u0) (c' := #[u0, v1, v2]) h (by simp [Array.setIfInBounds])
  have h1 := fset1 (o := 1) (v := u1) (c' := #[u0, u1, v2]) h0 (by simp [Array.setIfInBounds])
  exact fset1 (o := 2) (v := u2) (c' := #[u0, u1, u2]) h1 (by simp [Array.setIfInBounds])
theorem N3.put1 {w : World} {b : Nat} {v0 v1 v2 : Value} (h : N3 w b v0 v1 v2) (u1 : Value) :
    N3 (w.setCell ⟨b, 1, none⟩ u1) b v0 u1 v2 := fset1 (o := 1) (v := u1) (c' := #[v0, u1, v2]) h (by simp [Array.setIfInBounds])
/-- A number's box, all else as it was. -/
structure NB (w0 : World) (b : Nat) (x y z : List Int) (wk : World) : Prop where
  bel : Below w0.heap.size w0 wk
  box : N3 wk b (.string (strOfNums x)) (.string (strOfNums y)) (.string (strOfNums z))
  lo : w0.heap.size ≤ b
theorem NB.on {w0 wk w' : World} {b : Nat} {x y z : List Int} (h : NB w0 b x y z wk) (k : Below wk.heap.size wk w') : NB w0 b x y z w' := ⟨below_on h.bel k, h.box.below k, h.lo⟩
theorem NB.drew {w0 wk : World} {b : Nat} {x y z : List Int} (h : NB w0 b x y z wk) : NB w0 b x y z wk.drew := ⟨h.bel.drew, h.box, h.lo⟩
theorem NB.put {w0 wk : World} {b : Nat} {x y z : List Int} (h : NB w0 b x y z wk) (x' y' z' : List Int) :
    NB w0 b x' y' z' (((wk.setCell ⟨b, 0, none⟩ (.string (strOfNums x'))).setCell ⟨b, 1, none⟩ (.string (strOfNums y'))).setCell ⟨b, 2, none⟩ (.string (strOfNums z'))) :=
  ⟨fset3_below h.bel h.lo, h.box.put _ _ _, h.lo⟩
theorem NB.put1 {w0 wk : World} {b : Nat} {x y z : List Int} (h : NB w0 b x y z wk) (y' : List Int) :
    NB w0 b x y' z (wk.setCell ⟨b, 1, none⟩ (.string (strOfNums y'))) :=
  ⟨h.bel.setCell (p := ⟨b, 1, none⟩) h.lo _, h.box.put1 _, h.lo⟩
theorem NB.new (w : World) : NB w w.heap.size [] [] [] (w.alloc (.cells #[.string ⟨#[]⟩, .string ⟨#[]⟩, .string ⟨#[]⟩] 98)) := ⟨alloc_b w _, N3.new w _ _ _, Nat.le_refl _⟩

/-- Places and Figures, their texts as lists. -/
theorem plx_any (d n : Int) (w : World) (hT : Tab w) (h0 : 0 ≤ d) (h1 : d < 18446744073709551616) :
    Calls Tryz.prog 23 #[.int .u64 d, .int .i64 n] w fun e w' => e = .returned (.tuple #[.string (strOfNums (Fx.pA d n)), .string (strOfNums (Fx.pB d n)), .int .i64 (Fx.rf d n 0)]) ∧ Below w.heap.size w w' := by
  refine (places_any d n w hT h0 h1).mono ?_
  rintro e w' ⟨s, t, rfl, hs, ht, hB⟩
  rw [str_is hs, str_is ht]
  exact ⟨rfl, hB⟩
theorem fgx_any (d n : Int) (w : World) (hT : Tab w) (h0 : 0 ≤ d) (h1 : d < 18446744073709551616) :
    Calls Tryz.prog 25 #[.int .u64 d, .int .i64 n] w fun e w' => e = .returned (.tuple #[.string (strOfNums (Fx.gS d n)), .int .i64 (Fx.gK d n), .int .i64 (Fx.rf d n 1)]) ∧ Below w.heap.size w w' := by
  refine (figures_any d n w hT h0 h1).mono ?_
  rintro e w' ⟨s, rfl, hs, hB⟩
  rw [str_is hs]
  exact ⟨rfl, hB⟩

/-- What the texts of a number are told as. -/
def NumV (x y z : List Int) : Value := .agg #[.string (strOfNums x), .string (strOfNums y), .string (strOfNums z)]

set_option maxRecDepth 100000 in
set_option maxHeartbeats 2000000 in
theorem pexp_any (V k : Int) (w : World) (v0 : 0 ≤ V) (v1 : V < 256) (k0 : -400 ≤ k) (k1 : k ≤ 400) :
    Calls Tryz.prog 96 #[.int .u8 V, .int .i64 k] w fun e w' => e = .returned (.string (strOfNums (Po.ex V k))) ∧ Below w.heap.size w w' := by
  have CP := hid (fun wx => pcap_any V wx v0 v1)
  obtain ⟨m, hm⟩ : ∃ m, max k (-k) = m := ⟨_, rfl⟩
  have m0 : 0 ≤ m := by omega
  have m1 : m ≤ 400 := by omega
  have SG : Hid (∀ W' : World, Calls Tryz.prog 123 #[.agg #[.int .u8 100, .int .i64 2, .int .i64 0, .int .i64 2], .bool (decide (k < 0)), .slice (some ⟨W'.heap.size, 0, none⟩) 1 1] (W'.alloc (.cells #[.int .u64 m] 26)) fun e w' => e = .returned (.tuple #[.string (strOfNums (Po.xd k)), .int .i64 0]) ∧ Below W'.heap.size W' w') := by
    intro W'
    have hA : Arg (W'.alloc (.cells #[.int .u64 m] 26)) (some ⟨W'.heap.size, 0, none⟩) 1 1 [m] := by
      have o : Own (W'.alloc (.cells #[.int .u64 m] 26)) W'.heap.size [m] := heap_alloc_new W' _
      exact ⟨rfl, by omega, by omega, o.lies, limb_one ⟨m0, by omega⟩⟩
    refine (wsigned_any 100 2 0 2 (decide (k < 0)) _ 1 1 [m] _ (by omega) (by omega) hA).mono ?_
    rintro e w' ⟨rfl, b⟩
    have hv : Nm.val [m] = m := by simp [Nm.val]
    have ts : Nm.tsize [m] ≤ 1 := by have := Nm.tsize_le [m]; simpa using this
    have hE : Wh.sigE 100 2 0 2 (Nm.tsize [m]) = 0 := by
      rw [Wh.sigE, if_pos (by omega), if_pos (by decide), if_neg (by omega)]
    refine ⟨?_, below_on (alloc_b W' _) b⟩
    rw [hE, Wh.sig, hE, if_pos rfl, hv, Wh.sigT, Wh.padT_zero]
    have e1 : Wh.sgn 2 (decide (k < 0) && decide (m ≠ 0)) ++ Wh.fil 2 (Wh.dig 10 false m) = Po.xd k := by
      unfold Po.xd
      rw [hm]
      by_cases c : k < 0
      · rw [decide_eq_true c, decide_eq_true (show m ≠ 0 by omega), if_pos c]; rfl
      · rw [decide_eq_false c, if_neg c]; rfl
    rw [e1]
  have hs1 : (w.alloc (.cells #[.int .u8 100, .int .i64 2, .int .i64 0, .int .i64 2] 25)).heap.size = w.heap.size + 1 := Array.size_push ..
  have SG1 : Hid (Calls Tryz.prog 123 #[.agg #[.int .u8 100, .int .i64 2, .int .i64 0, .int .i64 2], .bool (decide (k < 0)), .slice (some ⟨w.heap.size + 1, 0, none⟩) 1 1] ((w.alloc (.cells #[.int .u8 100, .int .i64 2, .int .i64 0, .int .i64 2] 25)).alloc (.cells #[.int .u64 m] 26)) fun e w' => e = .returned (.tuple #[.string (strOfNums (Po.xd k)), .int .i64 0]) ∧ Below w.heap.size w w') := by
    have q := SG.out (w.alloc (.cells #[.int .u8 100, .int .i64 2, .int .i64 0, .int .i64 2] 25))
    refine Calls.mono (by rw [hs1] at q; exact q) ?_
    rintro e w' ⟨rfl, b⟩
    rw [← hs1] at b
    exact ⟨rfl, below_on (alloc_b w _) b⟩
  clear hs1 SG
  have XL := Po.xd_len (k := k) (by omega) (by omega)
  have xs : (strOfNums (Po.xd k)).size = (Po.xd k).length := strOfNums_size _
  have xl : ((strOfNums (Po.xd k)).size : Int) ≤ 4 := by rw [xs]; omega
  have E : Hid ((Po.cap V = true → (⟨#[69]⟩ : ByteArray) ++ strOfNums (Po.xd k) = strOfNums (Po.ex V k)) ∧ (Po.cap V = false → (⟨#[101]⟩ : ByteArray) ++ strOfNums (Po.xd k) = strOfNums (Po.ex V k))) := by
    have X := Str.of_nums (Po.xd_by k)
    constructor
    · intro c
      have q : Str ((⟨#[69]⟩ : ByteArray) ++ strOfNums (Po.xd k)) ([69] ++ Po.xd k) := Str.app rfl X
      rw [str_is q, Po.ex, if_pos c]; rfl
    · intro c
      have q : Str ((⟨#[101]⟩ : ByteArray) ++ strOfNums (Po.xd k)) ([101] ++ Po.xd k) := Str.app rfl X
      rw [str_is q, Po.ex, if_neg (by rw [c]; decide)]; rfl
  clear XL xs v0 v1
  generalize Po.cap V = b at *
  generalize Po.xd k = X at *
  generalize Po.ex V k = R at *
  generalize hs : strOfNums X = s at *
  clear hs
  cases b with
  | true =>
    have E2 := hid (E.out.1 rfl)
    clear E
    go_enter Tryz.func96, Tryz.ntmps96
    go_wp2_with (go_at_call 81; refine (CP.out _).mono ?_; rintro e w' ⟨rfl, hw⟩; rw [hw]; clear hw w')
    with_reducible refine SG1.out.mono ?_
    rintro e w1 ⟨rfl, b1⟩
    have B1 := hid b1
    clear b1
    go_wp2_with fail
    go_ret
    exact ⟨ret_str E2.out, B1.out⟩
  | false =>
    have E2 := hid (E.out.2 rfl)
    clear E
    go_enter Tryz.func96, Tryz.ntmps96
    go_wp2_with (go_at_call 81; refine (CP.out _).mono ?_; rintro e w' ⟨rfl, hw⟩; rw [hw]; clear hw w')
    with_reducible refine SG1.out.mono ?_
    rintro e w1 ⟨rfl, b1⟩
    have B1 := hid b1
    clear b1
    go_wp2_with fail
    go_ret
    exact ⟨ret_str E2.out, B1.out⟩

set_option maxRecDepth 100000 in
set_option maxHeartbeats 2000000 in
theorem pplaced_any (d n : Int) (w : World) (hT : Tab w) (h0 : 0 ≤ d) (h1 : d < 18446744073709551616) :
    Calls Tryz.prog 60 #[.int .u64 d, .int .i64 n] w fun e w' => e = .returned (NumV (Fx.pA d n) (Fx.pB d n) []) ∧ Below w.heap.size w w' := by
  have B := hid (NB.new w)
  have PL := hid (plx_any d n _ (hT.below (NB.new w).bel) h0 h1)
  generalize Fx.pA d n = A at *
  generalize Fx.pB d n = C at *
  generalize Fx.rf d n 0 = r at *
  clear hT h0 h1
  go_enter Tryz.func60, Tryz.ntmps60
  go_wp2_with fail
  refine PL.out.mono ?_
  rintro e w1 ⟨rfl, b1⟩
  have B1 := hid (B.out.on b1)
  have B2 := hid (B1.out.put A C [])
  obtain ⟨⟨c0, c1, c2⟩, f0, f1, f2⟩ := B1.out.box.cells
  clear b1 B PL
  go_wp2_with fail
  (try simp only [Exit.inBlock, Exit.then])
  refine bodyPost_ret (results_cell_row rfl _ _ w.heap.size 98 _ (0, 0) _ rfl B2.out.box Tryz.underlying98 rfl (by kernel_rfl)) rfl ?_
  exact ⟨rfl, B2.out.bel⟩
end Go.Proofs.YtaoaniigbooihaaGreatDoor

namespace Go.Proofs.YtaoaniigbooihaaGreatDoor
open Go Go.RowKit Go.Deep Go.Shelf

theorem ext_tail {xs : List Int} (hx : Wh.By xs) (k : Nat) : (strOfNums xs).extract k xs.length = strOfNums (xs.drop k) := by
  have q := (Str.of_nums hx).extract k xs.length
  have e : (xs.drop k).take (xs.length - k) = xs.drop k := List.take_of_length_le (by rw [List.length_drop]; omega)
  rw [e] at q
  exact str_is q
theorem ext_head {xs : List Int} (hx : Wh.By xs) (k : Nat) : (strOfNums xs).extract 0 k = strOfNums (xs.take k) := by
  have q := (Str.of_nums hx).extract 0 k
  rw [List.drop_zero, Nat.sub_zero] at q
  exact str_is q

set_option maxRecDepth 100000 in
set_option maxHeartbeats 4000000 in
theorem ppowered_any (V d n : Int) (w : World) (hT : Tab w) (v0 : 0 ≤ V) (v1 : V < 256) (h0 : 0 ≤ d) (h1 : d < 18446744073709551616) (hf : Ie.fnt d = true) (n0 : 0 ≤ n) (n1 : n ≤ 4199) :
    Calls Tryz.prog 61 #[.int .u8 V, .int .u64 d, .int .i64 n] w fun e w' => e = .returned (NumV ((Fx.gS d (n + 1)).take 1) ((Fx.gS d (n + 1)).drop 1) (Po.ex V (Fx.gK d (n + 1)))) ∧ Below w.heap.size w w' := by
  have B := hid (NB.new w)
  have PL := hid (fgx_any d (n + 1) _ (hT.below (NB.new w).bel) h0 h1)
  have K := Po.fgF hf (n := n + 1) (by omega) (by omega)
  have XP := hid (fun wx => pexp_any V (Fx.gK d (n + 1)) wx v0 v1 (by have := K.lo; omega) (by have := K.hi; omega))
  have BY := Po.digs_by K.s
  have X1 := hid (ext_head BY 1)
  have X2 := hid (ext_tail BY 1)
  have LN := K.len
  obtain ⟨L, hL⟩ : ∃ L, (Fx.gS d (n + 1)).length = L := ⟨_, rfl⟩
  have SZ : (strOfNums (Fx.gS d (n + 1))).size = L := by rw [strOfNums_size, hL]
  rw [hL] at X2 LN
  have l1 : (1 : Int) ≤ (L : Int) := by omega
  have l2 : (L : Int) ≤ 4200 := by omega
  clear hT h0 h1 hf v0 v1 K BY LN hL
  generalize Fx.gS d (n + 1) = S at *
  generalize Fx.gK d (n + 1) = k at *
  generalize Fx.rf d (n + 1) 1 = r at *
  generalize Po.ex V k = E at *
  generalize S.take 1 = S1 at *
  generalize S.drop 1 = S2 at *
  generalize hs : strOfNums S = s at *
  clear hs
  go_enter Tryz.func61, Tryz.ntmps61
  go_wp2_with fail
  refine PL.out.mono ?_
  rintro e w1 ⟨rfl, b1⟩
  have B1 := hid (B.out.on b1)
  clear b1 B PL
  have FIN : Hid (∀ wk, NB w w.heap.size [] [] [] wk → NB w w.heap.size S1 S2 E (((wk.setCell ⟨w.heap.size, 0, none⟩ (.string (s.extract 0 1))).setCell ⟨w.heap.size, 1, none⟩ (.string (s.extract 1 L))).setCell ⟨w.heap.size, 2, none⟩ (.string (strOfNums E)))) := by
    intro wk h
    rw [X1.out, X2.out]
    exact h.put S1 S2 E
  have CL : Hid (∀ wk, NB w w.heap.size [] [] [] wk → (wk.cell? ⟨w.heap.size, 0, none⟩ = some (.string (strOfNums [])) ∧ wk.cell? ⟨w.heap.size, 1, none⟩ = some (.string (strOfNums [])) ∧ wk.cell? ⟨w.heap.size, 2, none⟩ = some (.string (strOfNums []))) ∧ (wk.frozen? ⟨w.heap.size, 0, none⟩ = false ∧ wk.frozen? ⟨w.heap.size, 1, none⟩ = false ∧ wk.frozen? ⟨w.heap.size, 2, none⟩ = false)) := fun wk h => h.box.cells
  go_upto_region 2 with fail
  have T1 := hid B1.out.drew
  obtain ⟨⟨c0, c1, c2⟩, f0, f1, f2⟩ := CL.out _ T1.out
  go_region_with (go_at_call 96; with_reducible refine (XP.out _).mono ?_; rintro e w2 ⟨rfl, b2⟩; have T2 := hid (T1.out.on b2); obtain ⟨⟨g0, g1, g2⟩, i0, i1, i2⟩ := CL.out _ T2.out; clear b2)
  all_goals (
    have T3 := hid (FIN.out _ T2.out)
    go_wp2_with fail
    (try simp only [Exit.inBlock, Exit.then])
    refine bodyPost_ret (results_cell_row rfl _ _ w.heap.size 98 _ (0, 0) _ rfl T3.out.box Tryz.underlying98 rfl (by kernel_rfl)) rfl ?_
    exact ⟨rfl, T3.out.bel⟩)

set_option maxRecDepth 100000 in
set_option maxHeartbeats 4000000 in
theorem pgeneral_any (V d n : Int) (w : World) (hT : Tab w) (v0 : 0 ≤ V) (v1 : V < 256) (h0 : 0 ≤ d) (h1 : d < 18446744073709551616) (hf : Ie.fnt d = true) (n0 : 1 ≤ n) (n1 : n ≤ 4096) :
    Calls Tryz.prog 62 #[.int .u8 V, .int .u64 d, .int .i64 n] w fun e w' => e = .returned (if -4 ≤ Fx.gK d n ∧ Fx.gK d n < n then NumV (Fx.pA d (n - 1 - Fx.gK d n)) (Fx.pB d (n - 1 - Fx.gK d n)) [] else NumV ((Fx.gS d n).take 1) ((Fx.gS d n).drop 1) (Po.ex V (Fx.gK d n))) ∧ Below w.heap.size w w' := by
  have B := hid (NB.new w)
  have PL := hid (fgx_any d n _ (hT.below (NB.new w).bel) h0 h1)
  have K := Po.fgF hf (n := n) (by omega) (by omega)
  obtain ⟨k, hk⟩ : ∃ k, Fx.gK d n = k := ⟨_, rfl⟩
  have k0 := K.lo
  have k1 := K.hi
  rw [hk] at k0 k1 PL
  have TB : Hid (∀ wk, Below w.heap.size w wk → Tab wk) := fun wk h => hT.below h
  have PW : Hid (∀ wk, Tab wk → Calls Tryz.prog 61 #[.int .u8 V, .int .u64 d, .int .i64 (n - 1)] wk fun e w' => e = .returned (NumV ((Fx.gS d n).take 1) ((Fx.gS d n).drop 1) (Po.ex V (Fx.gK d n))) ∧ Below wk.heap.size wk w') := by
    intro wk h
    have q := ppowered_any V d (n - 1) wk h v0 v1 h0 h1 hf (by omega) (by omega)
    rw [show n - 1 + 1 = n by omega] at q
    exact q
  have PA : Hid (∀ wk, Tab wk → Calls Tryz.prog 60 #[.int .u64 d, .int .i64 (n - 1 - k)] wk fun e w' => e = .returned (NumV (Fx.pA d (n - 1 - k)) (Fx.pB d (n - 1 - k)) []) ∧ Below wk.heap.size wk w') := fun wk h => pplaced_any d (n - 1 - k) wk h h0 h1
  rw [hk] at PW ⊢
  have FIN : Hid (∀ wk x y z, NB w w.heap.size [] [] [] wk → NB w w.heap.size x y z (((wk.setCell ⟨w.heap.size, 0, none⟩ (.string (strOfNums x))).setCell ⟨w.heap.size, 1, none⟩ (.string (strOfNums y))).setCell ⟨w.heap.size, 2, none⟩ (.string (strOfNums z)))) := fun wk x y z h => h.put x y z
  clear hT h0 h1 hf v0 v1 K hk
  generalize Fx.pA d (n - 1 - k) = A at *
  generalize Fx.pB d (n - 1 - k) = C at *
  generalize (Fx.gS d n).take 1 = S1 at *
  generalize (Fx.gS d n).drop 1 = S2 at *
  generalize Fx.gS d n = S at *
  generalize Fx.rf d n 1 = r at *
  generalize Po.ex V k = E at *
  by_cases g : -4 ≤ k ∧ k < n
  · rw [if_pos g]
    obtain ⟨g1, g2⟩ := g
    unfold NumV at PA
    go_enter Tryz.func62, Tryz.ntmps62
    go_wp2_with fail
    refine PL.out.mono ?_
    rintro e w1 ⟨rfl, b1⟩
    have B1 := hid (B.out.on b1)
    have T1 := hid (TB.out _ B1.out.bel)
    clear b1 B PL
    go_wp2_with fail
    refine (PA.out _ T1.out).mono ?_
    rintro e w2 ⟨rfl, b2⟩
    have B2 := hid (B1.out.on b2)
    have B3 := hid (FIN.out _ A C [] B2.out)
    obtain ⟨⟨c0, c1, c2⟩, f0, f1, f2⟩ := B2.out.box.cells
    clear b2 B1 T1 TB PA PW
    go_wp2_with fail
    (try simp only [Exit.inBlock, Exit.then])
    refine bodyPost_ret (results_cell_row rfl _ _ w.heap.size 98 _ (0, 0) _ rfl B3.out.box Tryz.underlying98 rfl (by kernel_rfl)) rfl ?_
    exact ⟨rfl, B3.out.bel⟩
  · rw [if_neg g]
    unfold NumV at PW
    by_cases g1 : -4 ≤ k
    · have g2 : ¬ k < n := by omega
      clear g
      go_enter Tryz.func62, Tryz.ntmps62
      go_wp2_with fail
      refine PL.out.mono ?_
      rintro e w1 ⟨rfl, b1⟩
      have B1 := hid (B.out.on b1)
      have T1 := hid (TB.out _ B1.out.bel)
      clear b1 B PL
      go_wp2_with fail
      refine (PW.out _ T1.out).mono ?_
      rintro e w2 ⟨rfl, b2⟩
      have B2 := hid (B1.out.on b2)
      have B3 := hid (FIN.out _ S1 S2 E B2.out)
      obtain ⟨⟨c0, c1, c2⟩, f0, f1, f2⟩ := B2.out.box.cells
      clear b2 B1 T1 TB PA PW
      go_wp2_with fail
      (try simp only [Exit.inBlock, Exit.then])
      refine bodyPost_ret (results_cell_row rfl _ _ w.heap.size 98 _ (0, 0) _ rfl B3.out.box Tryz.underlying98 rfl (by kernel_rfl)) rfl ?_
      exact ⟨rfl, B3.out.bel⟩
    · clear g
      go_enter Tryz.func62, Tryz.ntmps62
      go_wp2_with fail
      refine PL.out.mono ?_
      rintro e w1 ⟨rfl, b1⟩
      have B1 := hid (B.out.on b1)
      have T1 := hid (TB.out _ B1.out.bel)
      clear b1 B PL
      go_wp2_with fail
      refine (PW.out _ T1.out).mono ?_
      rintro e w2 ⟨rfl, b2⟩
      have B2 := hid (B1.out.on b2)
      have B3 := hid (FIN.out _ S1 S2 E B2.out)
      obtain ⟨⟨c0, c1, c2⟩, f0, f1, f2⟩ := B2.out.box.cells
      clear b2 B1 T1 TB PA PW
      go_wp2_with fail
      (try simp only [Exit.inBlock, Exit.then])
      refine bodyPost_ret (results_cell_row rfl _ _ w.heap.size 98 _ (0, 0) _ rfl B3.out.box Tryz.underlying98 rfl (by kernel_rfl)) rfl ?_
      exact ⟨rfl, B3.out.bel⟩

set_option maxRecDepth 100000 in
set_option maxHeartbeats 4000000 in
theorem pwritten_any (a b p : List Int) (h : Bool) (w : World) (ha : Wh.By a) (hb : Wh.By b) (hp : Wh.By p) (la : a.length ≤ 10000) (lb : b.length ≤ 10000) (lp : p.length ≤ 10000) :
    Calls Tryz.prog 64 #[NumV a b p, .bool h] w fun e w' => e = .returned (.string (strOfNums (Po.wrt a b p h))) ∧ Below w.heap.size w w' := by
  have B := hid (alloc_b w (.cells #[.string (strOfNums a), .string (strOfNums b), .string (strOfNums p)] 98))
  have sa : (strOfNums a).size = a.length := strOfNums_size a
  have sb : (strOfNums b).size = b.length := strOfNums_size b
  have sp : (strOfNums p).size = p.length := strOfNums_size p
  have SA := Str.of_nums ha
  have SB := Str.of_nums hb
  have SP := Str.of_nums hp
  have na : ((strOfNums a).size : Int) ≤ 10000 := by rw [sa]; omega
  have nb : ((strOfNums b).size : Int) ≤ 10000 := by rw [sb]; omega
  have np : ((strOfNums p).size : Int) ≤ 10000 := by rw [sp]; omega
  have EI := isEmpty_nums b
  have EJ := toList_nums b
  unfold NumV
  by_cases hc : b = [] ∧ h = false
  · have E : Hid (strOfNums a ++ strOfNums p = strOfNums (Po.wrt a b p h)) := by
      rw [Hid, Po.wrt, if_pos hc]; exact str_is (SA.app SP)
    obtain ⟨h1, h2⟩ := hc
    subst h1
    subst h2
    rw [show (([] : List Int).isEmpty) = true from rfl] at EI EJ
    clear SA SB SP sa sb sp la lb lp ha hb hp
    generalize strOfNums a = A at *
    generalize strOfNums p = P at *
    generalize Po.wrt a [] p false = R at *
    go_enter Tryz.func64, Tryz.ntmps64
    go_wp2_with fail
    go_ret
    exact ⟨ret_str E.out, B.out⟩
  · have E : Hid (strOfNums a ++ ⟨#[46]⟩ ++ strOfNums b ++ strOfNums p = strOfNums (Po.wrt a b p h)) := by
      rw [Hid, Po.wrt, if_neg hc]
      have q : Str (strOfNums a ++ ⟨#[46]⟩ ++ strOfNums b ++ strOfNums p) (a ++ [46] ++ b ++ p) := ((SA.app (show Str ⟨#[46]⟩ [46] from rfl)).app SB).app SP
      rw [str_is q]
      simp
    cases h with
    | true =>
      clear SA SB SP sa sb sp la lb lp ha hb hp hc
      generalize strOfNums a = A at *
      generalize strOfNums p = P at *
      generalize Po.wrt a b p true = R at *
      generalize b.isEmpty = be at *
      generalize strOfNums b = C at *
      cases be with
      | true =>
        go_enter Tryz.func64, Tryz.ntmps64
        go_wp2_with fail
        go_ret
        exact ⟨ret_str E.out, B.out⟩
      | false =>
        go_enter Tryz.func64, Tryz.ntmps64
        go_wp2_with fail
        go_ret
        exact ⟨ret_str E.out, B.out⟩
    | false =>
      have hbe : b.isEmpty = false := by
        cases b with
        | nil => exact absurd ⟨rfl, rfl⟩ hc
        | cons _ _ => rfl
      rw [hbe] at EI EJ
      clear SA SB SP sa sb sp la lb lp ha hb hp hc hbe
      generalize strOfNums a = A at *
      generalize strOfNums p = P at *
      generalize Po.wrt a b p false = R at *
      generalize strOfNums b = C at *
      go_enter Tryz.func64, Tryz.ntmps64
      go_wp2_with fail
      go_ret
      exact ⟨ret_str E.out, B.out⟩
end Go.Proofs.YtaoaniigbooihaaGreatDoor

namespace Go.Proofs.YtaoaniigbooihaaGreatDoor
open Go Go.RowKit Go.Deep Go.Shelf

theorem S4.far {w : World} {b c o : Nat} {v v0 v1 v2 v3 : Value} (h : S4 w b v0 v1 v2 v3) (hc : c ≠ b) : S4 (w.setCell ⟨c, o, none⟩ v) b v0 v1 v2 v3 := by
  simp only [S4] at *
  simp only [World.setCell, Array.getElem?_modify]
  rw [if_neg hc]; exact h
/-- A Spec's box and a number's behind it. -/
structure BD (w0 : World) (V F W P : Int) (x y z : List Int) (wk : World) : Prop where
  bel : Below w0.heap.size w0 wk
  spec : S4 wk w0.heap.size (.int .u8 V) (.int .i64 F) (.int .i64 W) (.int .i64 P)
  num : N3 wk (w0.heap.size + 1) (.string (strOfNums x)) (.string (strOfNums y)) (.string (strOfNums z))
theorem BD.new (w : World) (V F W P : Int) : BD w V F W P [] [] [] ((w.alloc (.cells #[.int .u8 V, .int .i64 F, .int .i64 W, .int .i64 P] 25)).alloc (.cells #[.string ⟨#[]⟩, .string ⟨#[]⟩, .string ⟨#[]⟩] 98)) :=
  ⟨below_on (alloc_b _ _) (alloc_b _ _), heap_alloc2_old _ _ _, heap_alloc2_new _ _ _⟩
theorem BD.on {w0 wk w' : World} {V F W P : Int} {x y z : List Int} (h : BD w0 V F W P x y z wk) (k : Below wk.heap.size wk w') : BD w0 V F W P x y z w' := ⟨below_on h.bel k, h.spec.below k, h.num.below k⟩
theorem BD.drew {w0 wk : World} {V F W P : Int} {x y z : List Int} (h : BD w0 V F W P x y z wk) : BD w0 V F W P x y z wk.drew := ⟨h.bel.drew, h.spec, h.num⟩
theorem BD.put {w0 wk : World} {V F W P : Int} {x y z : List Int} (h : BD w0 V F W P x y z wk) (x' y' z' : List Int) :
    BD w0 V F W P x' y' z' (((wk.setCell ⟨w0.heap.size + 1, 0, none⟩ (.string (strOfNums x'))).setCell ⟨w0.heap.size + 1, 1, none⟩ (.string (strOfNums y'))).setCell ⟨w0.heap.size + 1, 2, none⟩ (.string (strOfNums z'))) :=
  ⟨fset3_below h.bel (Nat.le_succ _), ((h.spec.far (by omega)).far (by omega)).far (by omega), h.num.put _ _ _⟩
theorem BD.put1 {w0 wk : World} {V F W P : Int} {x y z : List Int} (h : BD w0 V F W P x y z wk) (y' : List Int) :
    BD w0 V F W P x y' z (wk.setCell ⟨w0.heap.size + 1, 1, none⟩ (.string (strOfNums y'))) :=
  ⟨h.bel.setCell (p := ⟨w0.heap.size + 1, 1, none⟩) (Nat.le_succ _) _, h.spec.far (by omega), h.num.put1 _⟩
theorem BD.flat {w0 wk : World} {V F W P : Int} {x y z : List Int} (h : BD w0 V F W P x y z wk) :
    (wk.cell? ⟨w0.heap.size, 0, none⟩ = some (.int .u8 V) ∧ wk.cell? ⟨w0.heap.size, 1, none⟩ = some (.int .i64 F) ∧ wk.cell? ⟨w0.heap.size, 2, none⟩ = some (.int .i64 W) ∧ wk.cell? ⟨w0.heap.size, 3, none⟩ = some (.int .i64 P)) ∧
    (wk.cell? ⟨w0.heap.size + 1, 0, none⟩ = some (.string (strOfNums x)) ∧ wk.cell? ⟨w0.heap.size + 1, 1, none⟩ = some (.string (strOfNums y)) ∧ wk.cell? ⟨w0.heap.size + 1, 2, none⟩ = some (.string (strOfNums z))) := ⟨h.spec.cells.1, h.num.cells.1⟩
theorem BD.cells {w0 wk : World} {V F W P : Int} {x y z : List Int} (h : BD w0 V F W P x y z wk) :
    ((wk.cell? ⟨w0.heap.size, 0, none⟩ = some (.int .u8 V) ∧ wk.cell? ⟨w0.heap.size, 1, none⟩ = some (.int .i64 F) ∧ wk.cell? ⟨w0.heap.size, 2, none⟩ = some (.int .i64 W) ∧ wk.cell? ⟨w0.heap.size, 3, none⟩ = some (.int .i64 P))) ∧
    (wk.cell? ⟨w0.heap.size + 1, 0, none⟩ = some (.string (strOfNums x)) ∧ wk.cell? ⟨w0.heap.size + 1, 1, none⟩ = some (.string (strOfNums y)) ∧ wk.cell? ⟨w0.heap.size + 1, 2, none⟩ = some (.string (strOfNums z))) ∧
    (wk.frozen? ⟨w0.heap.size + 1, 0, none⟩ = false ∧ wk.frozen? ⟨w0.heap.size + 1, 1, none⟩ = false ∧ wk.frozen? ⟨w0.heap.size + 1, 2, none⟩ = false) := ⟨h.spec.cells.1, h.num.cells.1, h.num.cells.2⟩

/-- strings.TrimRight at one '0', as a list. -/
theorem ptrim_any (xs : List Int) (w : World) (hx : Wh.By xs) (hl : xs.length ≤ 100000) :
    Calls Tryz.prog 63 #[.string (strOfNums xs), .string ⟨#[48]⟩] w fun e w' => e = .returned (.string (strOfNums (Po.sp xs))) ∧ w' = w := by
  refine (frtrim0_any (strOfNums xs) xs w (Str.of_nums hx) (by omega)).mono ?_
  rintro e w' ⟨⟨s', k, rfl, h1, h2, h3, h4⟩, rfl⟩
  exact ⟨by rw [str_is h1, Po.sp_of h2 h3 h4], rfl⟩

set_option maxRecDepth 100000 in
set_option maxHeartbeats 4000000 in
theorem pbody_f (V F W P d : Int) (w : World) (hT : Tab w) (_v0 : 0 ≤ V) (_v1 : V < 256) (hV : V = 102 ∨ V = 70) (f0 : 0 ≤ F) (f1 : F ≤ 31) (p0 : -1 ≤ P) (p1 : P ≤ 4096) (h0 : 0 ≤ d) (h1 : d < 18446744073709551616) (hf : Ie.fnt d = true) :
    Calls Tryz.prog 33 #[.agg #[.int .u8 V, .int .i64 F, .int .i64 W, .int .i64 P], .int .u64 d] w fun e w' => e = .returned (.string (strOfNums (Po.bdF (Wh.bit F 8) d (Po.pr P)))) ∧ Below w.heap.size w w' := by
  obtain ⟨q0, q1⟩ := Po.pr_bd p0 p1
  have K := Po.plF hf q0 (by omega)
  have PA : Hid (∀ wk, Tab wk → Calls Tryz.prog 60 #[.int .u64 d, .int .i64 (Po.pr P)] wk fun e w' => e = .returned (NumV (Fx.pA d (Po.pr P)) (Fx.pB d (Po.pr P)) []) ∧ Below wk.heap.size wk w') := fun wk h => pplaced_any d (Po.pr P) wk h h0 h1
  have WR : Hid (∀ wk, Calls Tryz.prog 64 #[NumV (Fx.pA d (Po.pr P)) (Fx.pB d (Po.pr P)) [], .bool (Wh.bit F 8)] wk fun e w' => e = .returned (.string (strOfNums (Po.bdF (Wh.bit F 8) d (Po.pr P)))) ∧ Below wk.heap.size wk w') := fun wk => pwritten_any _ _ _ _ wk (Po.digs_by K.a) (Po.digs_by K.b) Wh.By.nil (by have := K.la; omega) (by have := K.lb; omega) (by simp)
  have B := hid (BD.new w V F W P)
  have TT := hid (hT.below (BD.new w V F W P).bel)
  have HS : Hid (∀ wk, Calls Tryz.prog 59 #[.agg #[.int .u8 V, .int .i64 F, .int .i64 W, .int .i64 P], .int .i64 8] wk fun e w' => e = .returned (.bool (Wh.bit F 8)) ∧ Below wk.heap.size wk w') := by
    intro wk
    have q := phas_any V F W P 8 wk
    rw [Po.hb_is f0 f1 (by omega)] at q
    exact q
  unfold NumV at PA WR
  have PR : Hid (Po.pr P = if P = -1 then 6 else P) := rfl
  clear hT h0 h1 hf K f0 f1
  generalize Po.bdF (Wh.bit F 8) d (Po.pr P) = R at *
  generalize Fx.pA d (Po.pr P) = x at *
  generalize Fx.pB d (Po.pr P) = y at *
  generalize Wh.bit F 8 = hh at *
  generalize Po.pr P = pp at *
  rcases hV with rfl | rfl
  · by_cases hP : P = -1
    · have e6 : pp = 6 := by rw [PR.out, if_pos hP]
      subst e6
      subst hP
      clear PR
      go_enter Tryz.func33, Tryz.ntmps33
      go_wp2_with fail
      with_reducible refine (PA.out _ TT.out).mono ?_
      rintro e w1 ⟨rfl, b1⟩
      have B1 := hid (B.out.on b1)
      have B2 := hid (B1.out.put x y [])
      obtain ⟨⟨s0, s1, s2, s3⟩, ⟨c0, c1, c2⟩, g0, g1, g2⟩ := B1.out.cells
      clear b1 B PA TT
      go_upto_region 15 with fail
      have T1 := hid B2.out.drew
      go_region_held3 (fun wx => (wx.cell? ⟨w.heap.size, 0, none⟩ = some (.int .u8 102) ∧ wx.cell? ⟨w.heap.size, 1, none⟩ = some (.int .i64 F) ∧ wx.cell? ⟨w.heap.size, 2, none⟩ = some (.int .i64 W) ∧ wx.cell? ⟨w.heap.size, 3, none⟩ = some (.int .i64 (-1))) ∧ (wx.cell? ⟨w.heap.size + 1, 0, none⟩ = some (.string (strOfNums x)) ∧ wx.cell? ⟨w.heap.size + 1, 1, none⟩ = some (.string (strOfNums y)) ∧ wx.cell? ⟨w.heap.size + 1, 2, none⟩ = some (.string (strOfNums [])))) (first | (with_reducible exact T3.out.flat) | (with_reducible exact T2.out.flat) | (with_reducible exact T1.out.flat)) (first
        | (go_at_call 59; with_reducible refine (HS.out _).mono ?_; rintro e wa ⟨rfl, hB⟩; have T2 := hid (T1.out.on hB); clear hB)
        | (go_at_call 64; with_reducible refine (WR.out _).mono ?_; rintro e wb ⟨rfl, hB⟩; have T3 := hid (T2.out.on hB); clear hB))
      go_wp2_with fail
      go_ret
      exact ⟨rfl, T3.out.bel⟩
    · have e6 : P = pp := by rw [PR.out, if_neg hP]
      have hne : (pp == -1) = false := by rw [← e6]; simpa using hP
      subst e6
      clear PR hP
      go_enter Tryz.func33, Tryz.ntmps33
      go_wp2_with fail
      with_reducible refine (PA.out _ TT.out).mono ?_
      rintro e w1 ⟨rfl, b1⟩
      have B1 := hid (B.out.on b1)
      have B2 := hid (B1.out.put x y [])
      obtain ⟨⟨s0, s1, s2, s3⟩, ⟨c0, c1, c2⟩, g0, g1, g2⟩ := B1.out.cells
      clear b1 B PA TT
      go_upto_region 15 with fail
      have T1 := hid B2.out.drew
      go_region_held3 (fun wx => (wx.cell? ⟨w.heap.size, 0, none⟩ = some (.int .u8 102) ∧ wx.cell? ⟨w.heap.size, 1, none⟩ = some (.int .i64 F) ∧ wx.cell? ⟨w.heap.size, 2, none⟩ = some (.int .i64 W) ∧ wx.cell? ⟨w.heap.size, 3, none⟩ = some (.int .i64 P)) ∧ (wx.cell? ⟨w.heap.size + 1, 0, none⟩ = some (.string (strOfNums x)) ∧ wx.cell? ⟨w.heap.size + 1, 1, none⟩ = some (.string (strOfNums y)) ∧ wx.cell? ⟨w.heap.size + 1, 2, none⟩ = some (.string (strOfNums [])))) (first | (with_reducible exact T3.out.flat) | (with_reducible exact T2.out.flat) | (with_reducible exact T1.out.flat)) (first
        | (go_at_call 59; with_reducible refine (HS.out _).mono ?_; rintro e wa ⟨rfl, hB⟩; have T2 := hid (T1.out.on hB); clear hB)
        | (go_at_call 64; with_reducible refine (WR.out _).mono ?_; rintro e wb ⟨rfl, hB⟩; have T3 := hid (T2.out.on hB); clear hB))
      go_wp2_with fail
      go_ret
      exact ⟨rfl, T3.out.bel⟩
  · by_cases hP : P = -1
    · have e6 : pp = 6 := by rw [PR.out, if_pos hP]
      subst e6
      subst hP
      clear PR
      go_enter Tryz.func33, Tryz.ntmps33
      go_wp2_with fail
      with_reducible refine (PA.out _ TT.out).mono ?_
      rintro e w1 ⟨rfl, b1⟩
      have B1 := hid (B.out.on b1)
      have B2 := hid (B1.out.put x y [])
      obtain ⟨⟨s0, s1, s2, s3⟩, ⟨c0, c1, c2⟩, g0, g1, g2⟩ := B1.out.cells
      clear b1 B PA TT
      go_upto_region 15 with fail
      have T1 := hid B2.out.drew
      go_region_held3 (fun wx => (wx.cell? ⟨w.heap.size, 0, none⟩ = some (.int .u8 70) ∧ wx.cell? ⟨w.heap.size, 1, none⟩ = some (.int .i64 F) ∧ wx.cell? ⟨w.heap.size, 2, none⟩ = some (.int .i64 W) ∧ wx.cell? ⟨w.heap.size, 3, none⟩ = some (.int .i64 (-1))) ∧ (wx.cell? ⟨w.heap.size + 1, 0, none⟩ = some (.string (strOfNums x)) ∧ wx.cell? ⟨w.heap.size + 1, 1, none⟩ = some (.string (strOfNums y)) ∧ wx.cell? ⟨w.heap.size + 1, 2, none⟩ = some (.string (strOfNums [])))) (first | (with_reducible exact T3.out.flat) | (with_reducible exact T2.out.flat) | (with_reducible exact T1.out.flat)) (first
        | (go_at_call 59; with_reducible refine (HS.out _).mono ?_; rintro e wa ⟨rfl, hB⟩; have T2 := hid (T1.out.on hB); clear hB)
        | (go_at_call 64; with_reducible refine (WR.out _).mono ?_; rintro e wb ⟨rfl, hB⟩; have T3 := hid (T2.out.on hB); clear hB))
      go_wp2_with fail
      go_ret
      exact ⟨rfl, T3.out.bel⟩
    · have e6 : P = pp := by rw [PR.out, if_neg hP]
      have hne : (pp == -1) = false := by rw [← e6]; simpa using hP
      subst e6
      clear PR hP
      go_enter Tryz.func33, Tryz.ntmps33
      go_wp2_with fail
      with_reducible refine (PA.out _ TT.out).mono ?_
      rintro e w1 ⟨rfl, b1⟩
      have B1 := hid (B.out.on b1)
      have B2 := hid (B1.out.put x y [])
      obtain ⟨⟨s0, s1, s2, s3⟩, ⟨c0, c1, c2⟩, g0, g1, g2⟩ := B1.out.cells
      clear b1 B PA TT
      go_upto_region 15 with fail
      have T1 := hid B2.out.drew
      go_region_held3 (fun wx => (wx.cell? ⟨w.heap.size, 0, none⟩ = some (.int .u8 70) ∧ wx.cell? ⟨w.heap.size, 1, none⟩ = some (.int .i64 F) ∧ wx.cell? ⟨w.heap.size, 2, none⟩ = some (.int .i64 W) ∧ wx.cell? ⟨w.heap.size, 3, none⟩ = some (.int .i64 P)) ∧ (wx.cell? ⟨w.heap.size + 1, 0, none⟩ = some (.string (strOfNums x)) ∧ wx.cell? ⟨w.heap.size + 1, 1, none⟩ = some (.string (strOfNums y)) ∧ wx.cell? ⟨w.heap.size + 1, 2, none⟩ = some (.string (strOfNums [])))) (first | (with_reducible exact T3.out.flat) | (with_reducible exact T2.out.flat) | (with_reducible exact T1.out.flat)) (first
        | (go_at_call 59; with_reducible refine (HS.out _).mono ?_; rintro e wa ⟨rfl, hB⟩; have T2 := hid (T1.out.on hB); clear hB)
        | (go_at_call 64; with_reducible refine (WR.out _).mono ?_; rintro e wb ⟨rfl, hB⟩; have T3 := hid (T2.out.on hB); clear hB))
      go_wp2_with fail
      go_ret
      exact ⟨rfl, T3.out.bel⟩
set_option maxRecDepth 100000 in
set_option maxHeartbeats 4000000 in
theorem pbody_e (V F W P d : Int) (w : World) (hT : Tab w) (v0 : 0 ≤ V) (v1 : V < 256) (hV : V = 101 ∨ V = 69) (f0 : 0 ≤ F) (f1 : F ≤ 31) (p0 : -1 ≤ P) (p1 : P ≤ 4096) (h0 : 0 ≤ d) (h1 : d < 18446744073709551616) (hf : Ie.fnt d = true) :
    Calls Tryz.prog 33 #[.agg #[.int .u8 V, .int .i64 F, .int .i64 W, .int .i64 P], .int .u64 d] w fun e w' => e = .returned (.string (strOfNums (Po.bdE V (Wh.bit F 8) d (Po.pr P)))) ∧ Below w.heap.size w w' := by
  obtain ⟨q0, q1⟩ := Po.pr_bd p0 p1
  have K := Po.fgF hf (n := Po.pr P + 1) (by omega) (by omega)
  have PA : Hid (∀ wk, Tab wk → Calls Tryz.prog 61 #[.int .u8 V, .int .u64 d, .int .i64 (Po.pr P)] wk fun e w' => e = .returned (NumV ((Fx.gS d (Po.pr P + 1)).take 1) ((Fx.gS d (Po.pr P + 1)).drop 1) (Po.ex V (Fx.gK d (Po.pr P + 1)))) ∧ Below wk.heap.size wk w') := fun wk h => ppowered_any V d (Po.pr P) wk h v0 v1 h0 h1 hf q0 (by omega)
  have WR : Hid (∀ wk, Calls Tryz.prog 64 #[NumV ((Fx.gS d (Po.pr P + 1)).take 1) ((Fx.gS d (Po.pr P + 1)).drop 1) (Po.ex V (Fx.gK d (Po.pr P + 1))), .bool (Wh.bit F 8)] wk fun e w' => e = .returned (.string (strOfNums (Po.bdE V (Wh.bit F 8) d (Po.pr P)))) ∧ Below wk.heap.size wk w') := fun wk => pwritten_any _ _ _ _ wk (Po.digs_by (Po.digs_take K.s _)) (Po.digs_by (Po.digs_drop K.s _)) (Po.ex_by _ _) (by rw [List.length_take]; omega) (by have := K.len; rw [List.length_drop]; omega) (by have := Po.ex_len (V := V) (k := Fx.gK d (Po.pr P + 1)) (by have := K.lo; omega) (by have := K.hi; omega); omega)
  have B := hid (BD.new w V F W P)
  have TT := hid (hT.below (BD.new w V F W P).bel)
  have HS : Hid (∀ wk, Calls Tryz.prog 59 #[.agg #[.int .u8 V, .int .i64 F, .int .i64 W, .int .i64 P], .int .i64 8] wk fun e w' => e = .returned (.bool (Wh.bit F 8)) ∧ Below wk.heap.size wk w') := by
    intro wk
    have q := phas_any V F W P 8 wk
    rw [Po.hb_is f0 f1 (by omega)] at q
    exact q
  unfold NumV at PA WR
  have PR : Hid (Po.pr P = if P = -1 then 6 else P) := rfl
  clear hT h0 h1 hf K f0 f1
  generalize Po.bdE V (Wh.bit F 8) d (Po.pr P) = R at *
  generalize (Fx.gS d (Po.pr P + 1)).take 1 = x at *
  generalize (Fx.gS d (Po.pr P + 1)).drop 1 = y at *
  generalize Po.ex V (Fx.gK d (Po.pr P + 1)) = z at *
  generalize Wh.bit F 8 = hh at *
  generalize Po.pr P = pp at *
  rcases hV with rfl | rfl
  · by_cases hP : P = -1
    · have e6 : pp = 6 := by rw [PR.out, if_pos hP]
      subst e6
      subst hP
      clear PR
      go_enter Tryz.func33, Tryz.ntmps33
      go_wp2_with fail
      with_reducible refine (PA.out _ TT.out).mono ?_
      rintro e w1 ⟨rfl, b1⟩
      have B1 := hid (B.out.on b1)
      have B2 := hid (B1.out.put x y z)
      obtain ⟨⟨s0, s1, s2, s3⟩, ⟨c0, c1, c2⟩, g0, g1, g2⟩ := B1.out.cells
      clear b1 B PA TT
      go_upto_region 15 with fail
      have T1 := hid B2.out.drew
      go_region_held3 (fun wx => (wx.cell? ⟨w.heap.size, 0, none⟩ = some (.int .u8 101) ∧ wx.cell? ⟨w.heap.size, 1, none⟩ = some (.int .i64 F) ∧ wx.cell? ⟨w.heap.size, 2, none⟩ = some (.int .i64 W) ∧ wx.cell? ⟨w.heap.size, 3, none⟩ = some (.int .i64 (-1))) ∧ (wx.cell? ⟨w.heap.size + 1, 0, none⟩ = some (.string (strOfNums x)) ∧ wx.cell? ⟨w.heap.size + 1, 1, none⟩ = some (.string (strOfNums y)) ∧ wx.cell? ⟨w.heap.size + 1, 2, none⟩ = some (.string (strOfNums z)))) (first | (with_reducible exact T3.out.flat) | (with_reducible exact T2.out.flat) | (with_reducible exact T1.out.flat)) (first
        | (go_at_call 59; with_reducible refine (HS.out _).mono ?_; rintro e wa ⟨rfl, hB⟩; have T2 := hid (T1.out.on hB); clear hB)
        | (go_at_call 64; with_reducible refine (WR.out _).mono ?_; rintro e wb ⟨rfl, hB⟩; have T3 := hid (T2.out.on hB); clear hB))
      go_wp2_with fail
      go_ret
      exact ⟨rfl, T3.out.bel⟩
    · have e6 : P = pp := by rw [PR.out, if_neg hP]
      have hne : (pp == -1) = false := by rw [← e6]; simpa using hP
      subst e6
      clear PR hP
      go_enter Tryz.func33, Tryz.ntmps33
      go_wp2_with fail
      with_reducible refine (PA.out _ TT.out).mono ?_
      rintro e w1 ⟨rfl, b1⟩
      have B1 := hid (B.out.on b1)
      have B2 := hid (B1.out.put x y z)
      obtain ⟨⟨s0, s1, s2, s3⟩, ⟨c0, c1, c2⟩, g0, g1, g2⟩ := B1.out.cells
      clear b1 B PA TT
      go_upto_region 15 with fail
      have T1 := hid B2.out.drew
      go_region_held3 (fun wx => (wx.cell? ⟨w.heap.size, 0, none⟩ = some (.int .u8 101) ∧ wx.cell? ⟨w.heap.size, 1, none⟩ = some (.int .i64 F) ∧ wx.cell? ⟨w.heap.size, 2, none⟩ = some (.int .i64 W) ∧ wx.cell? ⟨w.heap.size, 3, none⟩ = some (.int .i64 P)) ∧ (wx.cell? ⟨w.heap.size + 1, 0, none⟩ = some (.string (strOfNums x)) ∧ wx.cell? ⟨w.heap.size + 1, 1, none⟩ = some (.string (strOfNums y)) ∧ wx.cell? ⟨w.heap.size + 1, 2, none⟩ = some (.string (strOfNums z)))) (first | (with_reducible exact T3.out.flat) | (with_reducible exact T2.out.flat) | (with_reducible exact T1.out.flat)) (first
        | (go_at_call 59; with_reducible refine (HS.out _).mono ?_; rintro e wa ⟨rfl, hB⟩; have T2 := hid (T1.out.on hB); clear hB)
        | (go_at_call 64; with_reducible refine (WR.out _).mono ?_; rintro e wb ⟨rfl, hB⟩; have T3 := hid (T2.out.on hB); clear hB))
      go_wp2_with fail
      go_ret
      exact ⟨rfl, T3.out.bel⟩
  · by_cases hP : P = -1
    · have e6 : pp = 6 := by rw [PR.out, if_pos hP]
      subst e6
      subst hP
      clear PR
      go_enter Tryz.func33, Tryz.ntmps33
      go_wp2_with fail
      with_reducible refine (PA.out _ TT.out).mono ?_
      rintro e w1 ⟨rfl, b1⟩
      have B1 := hid (B.out.on b1)
      have B2 := hid (B1.out.put x y z)
      obtain ⟨⟨s0, s1, s2, s3⟩, ⟨c0, c1, c2⟩, g0, g1, g2⟩ := B1.out.cells
      clear b1 B PA TT
      go_upto_region 15 with fail
      have T1 := hid B2.out.drew
      go_region_held3 (fun wx => (wx.cell? ⟨w.heap.size, 0, none⟩ = some (.int .u8 69) ∧ wx.cell? ⟨w.heap.size, 1, none⟩ = some (.int .i64 F) ∧ wx.cell? ⟨w.heap.size, 2, none⟩ = some (.int .i64 W) ∧ wx.cell? ⟨w.heap.size, 3, none⟩ = some (.int .i64 (-1))) ∧ (wx.cell? ⟨w.heap.size + 1, 0, none⟩ = some (.string (strOfNums x)) ∧ wx.cell? ⟨w.heap.size + 1, 1, none⟩ = some (.string (strOfNums y)) ∧ wx.cell? ⟨w.heap.size + 1, 2, none⟩ = some (.string (strOfNums z)))) (first | (with_reducible exact T3.out.flat) | (with_reducible exact T2.out.flat) | (with_reducible exact T1.out.flat)) (first
        | (go_at_call 59; with_reducible refine (HS.out _).mono ?_; rintro e wa ⟨rfl, hB⟩; have T2 := hid (T1.out.on hB); clear hB)
        | (go_at_call 64; with_reducible refine (WR.out _).mono ?_; rintro e wb ⟨rfl, hB⟩; have T3 := hid (T2.out.on hB); clear hB))
      go_wp2_with fail
      go_ret
      exact ⟨rfl, T3.out.bel⟩
    · have e6 : P = pp := by rw [PR.out, if_neg hP]
      have hne : (pp == -1) = false := by rw [← e6]; simpa using hP
      subst e6
      clear PR hP
      go_enter Tryz.func33, Tryz.ntmps33
      go_wp2_with fail
      with_reducible refine (PA.out _ TT.out).mono ?_
      rintro e w1 ⟨rfl, b1⟩
      have B1 := hid (B.out.on b1)
      have B2 := hid (B1.out.put x y z)
      obtain ⟨⟨s0, s1, s2, s3⟩, ⟨c0, c1, c2⟩, g0, g1, g2⟩ := B1.out.cells
      clear b1 B PA TT
      go_upto_region 15 with fail
      have T1 := hid B2.out.drew
      go_region_held3 (fun wx => (wx.cell? ⟨w.heap.size, 0, none⟩ = some (.int .u8 69) ∧ wx.cell? ⟨w.heap.size, 1, none⟩ = some (.int .i64 F) ∧ wx.cell? ⟨w.heap.size, 2, none⟩ = some (.int .i64 W) ∧ wx.cell? ⟨w.heap.size, 3, none⟩ = some (.int .i64 P)) ∧ (wx.cell? ⟨w.heap.size + 1, 0, none⟩ = some (.string (strOfNums x)) ∧ wx.cell? ⟨w.heap.size + 1, 1, none⟩ = some (.string (strOfNums y)) ∧ wx.cell? ⟨w.heap.size + 1, 2, none⟩ = some (.string (strOfNums z)))) (first | (with_reducible exact T3.out.flat) | (with_reducible exact T2.out.flat) | (with_reducible exact T1.out.flat)) (first
        | (go_at_call 59; with_reducible refine (HS.out _).mono ?_; rintro e wa ⟨rfl, hB⟩; have T2 := hid (T1.out.on hB); clear hB)
        | (go_at_call 64; with_reducible refine (WR.out _).mono ?_; rintro e wb ⟨rfl, hB⟩; have T3 := hid (T2.out.on hB); clear hB))
      go_wp2_with fail
      go_ret
      exact ⟨rfl, T3.out.bel⟩
set_option maxRecDepth 100000 in
set_option maxHeartbeats 4000000 in
theorem pbody_g (V F W P d : Int) (w : World) (hT : Tab w) (v0 : 0 ≤ V) (v1 : V < 256) (hV : V ≠ 102 ∧ V ≠ 70 ∧ V ≠ 101 ∧ V ≠ 69) (f0 : 0 ≤ F) (f1 : F ≤ 31) (p0 : -1 ≤ P) (p1 : P ≤ 4096) (h0 : 0 ≤ d) (h1 : d < 18446744073709551616) (hf : Ie.fnt d = true) :
    Calls Tryz.prog 33 #[.agg #[.int .u8 V, .int .i64 F, .int .i64 W, .int .i64 P], .int .u64 d] w fun e w' => e = .returned (.string (strOfNums (Po.bdG V (Wh.bit F 8) d (max (Po.pr P) 1)))) ∧ Below w.heap.size w w' := by
  obtain ⟨q0, q1⟩ := Po.pr_bd p0 p1
  have key : ∃ x y z : List Int, Hid (∀ wk, Tab wk → Calls Tryz.prog 62 #[.int .u8 V, .int .u64 d, .int .i64 (max (Po.pr P) 1)] wk fun e w' => e = .returned (NumV x y z) ∧ Below wk.heap.size wk w') ∧
      Hid (∀ wk, Calls Tryz.prog 64 #[NumV x (Po.st (Wh.bit F 8) y) z, .bool (Wh.bit F 8)] wk fun e w' => e = .returned (.string (strOfNums (Po.bdG V (Wh.bit F 8) d (max (Po.pr P) 1)))) ∧ Below wk.heap.size wk w') ∧ Wh.By y ∧ y.length ≤ 10000 := by
    have K := Po.fgF hf (n := max (Po.pr P) 1) (by omega) (by omega)
    have GN : ∀ wk, Tab wk → _ := fun wk h => pgeneral_any V d (max (Po.pr P) 1) wk h v0 v1 h0 h1 hf (by omega) (by omega)
    by_cases g : -4 ≤ Fx.gK d (max (Po.pr P) 1) ∧ Fx.gK d (max (Po.pr P) 1) < max (Po.pr P) 1
    · have J := Po.plF hf (n := max (Po.pr P) 1 - 1 - Fx.gK d (max (Po.pr P) 1)) (by omega) (by omega)
      simp only [if_pos g] at GN
      refine ⟨_, _, _, GN, fun wk => ?_, Po.digs_by J.b, by have := J.lb; omega⟩
      have q := pwritten_any (Fx.pA d (max (Po.pr P) 1 - 1 - Fx.gK d (max (Po.pr P) 1))) (Po.st (Wh.bit F 8) (Fx.pB d (max (Po.pr P) 1 - 1 - Fx.gK d (max (Po.pr P) 1)))) [] (Wh.bit F 8) wk (Po.digs_by J.a) (Po.digs_by (Po.digs_st _ J.b)) Wh.By.nil (by have := J.la; omega) (by have := J.lb; have := Po.st_len (Wh.bit F 8) (Fx.pB d (max (Po.pr P) 1 - 1 - Fx.gK d (max (Po.pr P) 1))); omega) (by simp)
      unfold Po.bdG
      rw [if_pos g]
      exact q
    · simp only [if_neg g] at GN
      have ln := K.len
      refine ⟨_, _, _, GN, fun wk => ?_, Po.digs_by (Po.digs_drop K.s _), by rw [List.length_drop]; omega⟩
      have q := pwritten_any ((Fx.gS d (max (Po.pr P) 1)).take 1) (Po.st (Wh.bit F 8) ((Fx.gS d (max (Po.pr P) 1)).drop 1)) (Po.ex V (Fx.gK d (max (Po.pr P) 1))) (Wh.bit F 8) wk (Po.digs_by (Po.digs_take K.s _)) (Po.digs_by (Po.digs_st _ (Po.digs_drop K.s _))) (Po.ex_by _ _) (by rw [List.length_take]; omega) (by have := Po.st_len (Wh.bit F 8) ((Fx.gS d (max (Po.pr P) 1)).drop 1); rw [List.length_drop] at this; omega) (by have := Po.ex_len (V := V) (k := Fx.gK d (max (Po.pr P) 1)) (by have := K.lo; omega) (by have := K.hi; omega); omega)
      unfold Po.bdG
      rw [if_neg g]
      exact q
  obtain ⟨x, y, z, PA, WR, yb, yl⟩ := key
  have TR := hid (fun wk => ptrim_any y wk yb (by omega))
  have B := hid (BD.new w V F W P)
  have TT := hid (hT.below (BD.new w V F W P).bel)
  have HS : Hid (∀ wk, Calls Tryz.prog 59 #[.agg #[.int .u8 V, .int .i64 F, .int .i64 W, .int .i64 P], .int .i64 8] wk fun e w' => e = .returned (.bool (Wh.bit F 8)) ∧ Below wk.heap.size wk w') := by
    intro wk
    have q := phas_any V F W P 8 wk
    rw [Po.hb_is f0 f1 (by omega)] at q
    exact q
  unfold NumV at PA WR
  have PR : Hid (Po.pr P = if P = -1 then 6 else P) := rfl
  have n1 : (V == 102) = false := by simpa using hV.1
  have n2 : (V == 70) = false := by simpa using hV.2.1
  have n3 : (V == 101) = false := by simpa using hV.2.2.1
  have n4 : (V == 69) = false := by simpa using hV.2.2.2
  clear hT h0 h1 hf f0 f1 v0 v1 yb yl hV
  generalize Po.bdG V (Wh.bit F 8) d (max (Po.pr P) 1) = R at *
  have E1 : Hid (Wh.bit F 8 = true → Po.st (Wh.bit F 8) y = y) := fun h => by unfold Po.st; rw [if_pos h]
  have E2 : Hid (Wh.bit F 8 = false → Po.st (Wh.bit F 8) y = Po.sp y) := fun h => by unfold Po.st; rw [if_neg (by rw [h]; decide)]
  generalize Wh.bit F 8 = hh at *
  generalize Po.st hh y = ys at *
  generalize Po.sp y = y2 at *
  obtain ⟨mm, hmm⟩ : ∃ mm, max (Po.pr P) 1 = mm := ⟨_, rfl⟩
  rw [hmm] at PA
  cases hh with
  | true =>
    have e := E1.out rfl
    subst e
    clear E1 E2
    by_cases hP : P = -1
    · have e6 : mm = 6 := by rw [← hmm, PR.out, if_pos hP]; decide
      subst e6
      subst hP
      clear PR hmm
      have m61 : max (6 : Int) 1 = 6 := by decide
      go_enter Tryz.func33, Tryz.ntmps33
      go_wp2_with fail
      with_reducible refine (PA.out _ TT.out).mono ?_
      rintro e w1 ⟨rfl, b1⟩
      have B1 := hid (B.out.on b1)
      have B2 := hid (B1.out.put x ys z)
      obtain ⟨⟨s0, s1, s2, s3⟩, ⟨c0, c1, c2⟩, g0, g1, g2⟩ := B1.out.cells
      clear b1 B PA TT
      go_upto_region 7 with fail
      generalize ((w1.setCell ⟨w.heap.size + 1, 0, none⟩ (.string (strOfNums x))).setCell ⟨w.heap.size + 1, 1, none⟩ (.string (strOfNums ys))).setCell ⟨w.heap.size + 1, 2, none⟩ (.string (strOfNums z)) = w2 at *
      clear s0 s1 s2 s3 c0 c1 c2 g0 g1 g2 B1
      obtain ⟨⟨s0, s1, s2, s3⟩, ⟨c0, c1, c2⟩, g0, g1, g2⟩ := B2.out.cells
      go_wp2_with fail
      with_reducible refine (HS.out _).mono ?_
      rintro e w3 ⟨rfl, b3⟩
      have B3 := hid (B2.out.on b3)
      clear s0 s1 s2 s3 c0 c1 c2 g0 g1 g2 B2 b3
      obtain ⟨⟨s0, s1, s2, s3⟩, ⟨c0, c1, c2⟩, g0, g1, g2⟩ := B3.out.cells
      go_upto_region 15 with fail
      have T1 := hid B3.out.drew
      go_region_held3 (fun wx => (wx.cell? ⟨w.heap.size, 0, none⟩ = some (.int .u8 V) ∧ wx.cell? ⟨w.heap.size, 1, none⟩ = some (.int .i64 F) ∧ wx.cell? ⟨w.heap.size, 2, none⟩ = some (.int .i64 W) ∧ wx.cell? ⟨w.heap.size, 3, none⟩ = some (.int .i64 (-1))) ∧ (wx.cell? ⟨w.heap.size + 1, 0, none⟩ = some (.string (strOfNums x)) ∧ wx.cell? ⟨w.heap.size + 1, 1, none⟩ = some (.string (strOfNums ys)) ∧ wx.cell? ⟨w.heap.size + 1, 2, none⟩ = some (.string (strOfNums z)))) (first | (with_reducible exact T3.out.flat) | (with_reducible exact T2.out.flat) | (with_reducible exact T1.out.flat)) (first
        | (go_at_call 59; with_reducible refine (HS.out _).mono ?_; rintro e wa ⟨rfl, hB⟩; have T2 := hid (T1.out.on hB); clear hB)
        | (go_at_call 64; with_reducible refine (WR.out _).mono ?_; rintro e wb ⟨rfl, hB⟩; have T3 := hid (T2.out.on hB); clear hB))
      go_wp2_with fail
      go_ret
      exact ⟨rfl, T3.out.bel⟩
    · have e6 : max P 1 = mm := by rw [← hmm, PR.out, if_neg hP]
      have hne : (P == -1) = false := by simpa using hP
      clear PR hP hmm
      go_enter Tryz.func33, Tryz.ntmps33
      go_wp2_with fail
      with_reducible refine (PA.out _ TT.out).mono ?_
      rintro e w1 ⟨rfl, b1⟩
      have B1 := hid (B.out.on b1)
      have B2 := hid (B1.out.put x ys z)
      obtain ⟨⟨s0, s1, s2, s3⟩, ⟨c0, c1, c2⟩, g0, g1, g2⟩ := B1.out.cells
      clear b1 B PA TT
      go_upto_region 7 with fail
      generalize ((w1.setCell ⟨w.heap.size + 1, 0, none⟩ (.string (strOfNums x))).setCell ⟨w.heap.size + 1, 1, none⟩ (.string (strOfNums ys))).setCell ⟨w.heap.size + 1, 2, none⟩ (.string (strOfNums z)) = w2 at *
      clear s0 s1 s2 s3 c0 c1 c2 g0 g1 g2 B1
      obtain ⟨⟨s0, s1, s2, s3⟩, ⟨c0, c1, c2⟩, g0, g1, g2⟩ := B2.out.cells
      go_wp2_with fail
      with_reducible refine (HS.out _).mono ?_
      rintro e w3 ⟨rfl, b3⟩
      have B3 := hid (B2.out.on b3)
      clear s0 s1 s2 s3 c0 c1 c2 g0 g1 g2 B2 b3
      obtain ⟨⟨s0, s1, s2, s3⟩, ⟨c0, c1, c2⟩, g0, g1, g2⟩ := B3.out.cells
      go_upto_region 15 with fail
      have T1 := hid B3.out.drew
      go_region_held3 (fun wx => (wx.cell? ⟨w.heap.size, 0, none⟩ = some (.int .u8 V) ∧ wx.cell? ⟨w.heap.size, 1, none⟩ = some (.int .i64 F) ∧ wx.cell? ⟨w.heap.size, 2, none⟩ = some (.int .i64 W) ∧ wx.cell? ⟨w.heap.size, 3, none⟩ = some (.int .i64 P)) ∧ (wx.cell? ⟨w.heap.size + 1, 0, none⟩ = some (.string (strOfNums x)) ∧ wx.cell? ⟨w.heap.size + 1, 1, none⟩ = some (.string (strOfNums ys)) ∧ wx.cell? ⟨w.heap.size + 1, 2, none⟩ = some (.string (strOfNums z)))) (first | (with_reducible exact T3.out.flat) | (with_reducible exact T2.out.flat) | (with_reducible exact T1.out.flat)) (first
        | (go_at_call 59; with_reducible refine (HS.out _).mono ?_; rintro e wa ⟨rfl, hB⟩; have T2 := hid (T1.out.on hB); clear hB)
        | (go_at_call 64; with_reducible refine (WR.out _).mono ?_; rintro e wb ⟨rfl, hB⟩; have T3 := hid (T2.out.on hB); clear hB))
      go_wp2_with fail
      go_ret
      exact ⟨rfl, T3.out.bel⟩
  | false =>
    have e := E2.out rfl
    subst e
    clear E1 E2
    by_cases hP : P = -1
    · have e6 : mm = 6 := by rw [← hmm, PR.out, if_pos hP]; decide
      subst e6
      subst hP
      clear PR hmm
      have m61 : max (6 : Int) 1 = 6 := by decide
      go_enter Tryz.func33, Tryz.ntmps33
      go_wp2_with fail
      with_reducible refine (PA.out _ TT.out).mono ?_
      rintro e w1 ⟨rfl, b1⟩
      have B1 := hid (B.out.on b1)
      have B2 := hid (B1.out.put x y z)
      obtain ⟨⟨s0, s1, s2, s3⟩, ⟨c0, c1, c2⟩, g0, g1, g2⟩ := B1.out.cells
      clear b1 B PA TT
      go_upto_region 7 with fail
      generalize ((w1.setCell ⟨w.heap.size + 1, 0, none⟩ (.string (strOfNums x))).setCell ⟨w.heap.size + 1, 1, none⟩ (.string (strOfNums y))).setCell ⟨w.heap.size + 1, 2, none⟩ (.string (strOfNums z)) = w2 at *
      clear s0 s1 s2 s3 c0 c1 c2 g0 g1 g2 B1
      obtain ⟨⟨s0, s1, s2, s3⟩, ⟨c0, c1, c2⟩, g0, g1, g2⟩ := B2.out.cells
      go_wp2_with fail
      with_reducible refine (HS.out _).mono ?_
      rintro e w3 ⟨rfl, b3⟩
      have B3 := hid (B2.out.on b3)
      clear s0 s1 s2 s3 c0 c1 c2 g0 g1 g2 B2 b3
      obtain ⟨⟨s0, s1, s2, s3⟩, ⟨c0, c1, c2⟩, g0, g1, g2⟩ := B3.out.cells
      go_wp2_with fail
      with_reducible refine (TR.out _).mono ?_
      rintro e w4 ⟨rfl, hw4⟩
      rw [hw4]
      clear hw4 w4
      have B4 := hid (B3.out.put1 ys)
      go_upto_region 15 with fail
      have T1 := hid B4.out.drew
      go_region_held3 (fun wx => (wx.cell? ⟨w.heap.size, 0, none⟩ = some (.int .u8 V) ∧ wx.cell? ⟨w.heap.size, 1, none⟩ = some (.int .i64 F) ∧ wx.cell? ⟨w.heap.size, 2, none⟩ = some (.int .i64 W) ∧ wx.cell? ⟨w.heap.size, 3, none⟩ = some (.int .i64 (-1))) ∧ (wx.cell? ⟨w.heap.size + 1, 0, none⟩ = some (.string (strOfNums x)) ∧ wx.cell? ⟨w.heap.size + 1, 1, none⟩ = some (.string (strOfNums ys)) ∧ wx.cell? ⟨w.heap.size + 1, 2, none⟩ = some (.string (strOfNums z)))) (first | (with_reducible exact T3.out.flat) | (with_reducible exact T2.out.flat) | (with_reducible exact T1.out.flat)) (first
        | (go_at_call 59; with_reducible refine (HS.out _).mono ?_; rintro e wa ⟨rfl, hB⟩; have T2 := hid (T1.out.on hB); clear hB)
        | (go_at_call 64; with_reducible refine (WR.out _).mono ?_; rintro e wb ⟨rfl, hB⟩; have T3 := hid (T2.out.on hB); clear hB))
      go_wp2_with fail
      go_ret
      exact ⟨rfl, T3.out.bel⟩
    · have e6 : max P 1 = mm := by rw [← hmm, PR.out, if_neg hP]
      have hne : (P == -1) = false := by simpa using hP
      clear PR hP hmm
      go_enter Tryz.func33, Tryz.ntmps33
      go_wp2_with fail
      with_reducible refine (PA.out _ TT.out).mono ?_
      rintro e w1 ⟨rfl, b1⟩
      have B1 := hid (B.out.on b1)
      have B2 := hid (B1.out.put x y z)
      obtain ⟨⟨s0, s1, s2, s3⟩, ⟨c0, c1, c2⟩, g0, g1, g2⟩ := B1.out.cells
      clear b1 B PA TT
      go_upto_region 7 with fail
      generalize ((w1.setCell ⟨w.heap.size + 1, 0, none⟩ (.string (strOfNums x))).setCell ⟨w.heap.size + 1, 1, none⟩ (.string (strOfNums y))).setCell ⟨w.heap.size + 1, 2, none⟩ (.string (strOfNums z)) = w2 at *
      clear s0 s1 s2 s3 c0 c1 c2 g0 g1 g2 B1
      obtain ⟨⟨s0, s1, s2, s3⟩, ⟨c0, c1, c2⟩, g0, g1, g2⟩ := B2.out.cells
      go_wp2_with fail
      with_reducible refine (HS.out _).mono ?_
      rintro e w3 ⟨rfl, b3⟩
      have B3 := hid (B2.out.on b3)
      clear s0 s1 s2 s3 c0 c1 c2 g0 g1 g2 B2 b3
      obtain ⟨⟨s0, s1, s2, s3⟩, ⟨c0, c1, c2⟩, g0, g1, g2⟩ := B3.out.cells
      go_wp2_with fail
      with_reducible refine (TR.out _).mono ?_
      rintro e w4 ⟨rfl, hw4⟩
      rw [hw4]
      clear hw4 w4
      have B4 := hid (B3.out.put1 ys)
      go_upto_region 15 with fail
      have T1 := hid B4.out.drew
      go_region_held3 (fun wx => (wx.cell? ⟨w.heap.size, 0, none⟩ = some (.int .u8 V) ∧ wx.cell? ⟨w.heap.size, 1, none⟩ = some (.int .i64 F) ∧ wx.cell? ⟨w.heap.size, 2, none⟩ = some (.int .i64 W) ∧ wx.cell? ⟨w.heap.size, 3, none⟩ = some (.int .i64 P)) ∧ (wx.cell? ⟨w.heap.size + 1, 0, none⟩ = some (.string (strOfNums x)) ∧ wx.cell? ⟨w.heap.size + 1, 1, none⟩ = some (.string (strOfNums ys)) ∧ wx.cell? ⟨w.heap.size + 1, 2, none⟩ = some (.string (strOfNums z)))) (first | (with_reducible exact T3.out.flat) | (with_reducible exact T2.out.flat) | (with_reducible exact T1.out.flat)) (first
        | (go_at_call 59; with_reducible refine (HS.out _).mono ?_; rintro e wa ⟨rfl, hB⟩; have T2 := hid (T1.out.on hB); clear hB)
        | (go_at_call 64; with_reducible refine (WR.out _).mono ?_; rintro e wb ⟨rfl, hB⟩; have T3 := hid (T2.out.on hB); clear hB))
      go_wp2_with fail
      go_ret
      exact ⟨rfl, T3.out.bel⟩

theorem pbody_any (V F W P d : Int) (w : World) (hT : Tab w) (v0 : 0 ≤ V) (v1 : V < 256) (f0 : 0 ≤ F) (f1 : F ≤ 31) (p0 : -1 ≤ P) (p1 : P ≤ 4096) (h0 : 0 ≤ d) (h1 : d < 18446744073709551616) (hf : Ie.fnt d = true) :
    Calls Tryz.prog 33 #[.agg #[.int .u8 V, .int .i64 F, .int .i64 W, .int .i64 P], .int .u64 d] w fun e w' => e = .returned (.string (strOfNums (Po.bd V (Wh.bit F 8) P d))) ∧ Below w.heap.size w w' := by
  unfold Po.bd
  by_cases c1 : V = 102 ∨ V = 70
  · rw [if_pos c1]; exact pbody_f V F W P d w hT v0 v1 c1 f0 f1 p0 p1 h0 h1 hf
  · rw [if_neg c1]
    by_cases c2 : V = 101 ∨ V = 69
    · rw [if_pos c2]; exact pbody_e V F W P d w hT v0 v1 c2 f0 f1 p0 p1 h0 h1 hf
    · rw [if_neg c2]; exact pbody_g V F W P d w hT v0 v1 (by omega) f0 f1 p0 p1 h0 h1 hf
end Go.Proofs.YtaoaniigbooihaaGreatDoor

namespace Go.Proofs.YtaoaniigbooihaaGreatDoor
open Go Go.RowKit Go.Deep
namespace Po

/-- What is padded. -/
noncomputable def tb (V F P d : Int) : List Int := if Ie.fnt d = true then bd V (Wh.bit F 8) P d else nm (cap V) (Ie.cls d)
theorem ren_pad {V F W P d : Int} (h : renE V F W P = 0) : ren V F W P d = Wh.padT F W (Ie.fnt d) (Wh.sgn F (ng d)) (tb V F P d) := by
  unfold ren tb
  rw [if_pos h]
  by_cases c : Ie.fnt d = true
  · rw [if_pos c, if_pos c, c]
  · rw [if_neg c, if_neg c, show Ie.fnt d = false by simpa using c]
theorem renE_ok {V F W P : Int} (h : renE V F W P = 0) : okV V = true ∧ Wh.chk F W P = 0 := by
  unfold renE at h
  split at h
  · next c => exact ⟨c, h⟩
  · omega
theorem renE_zero {V F W P : Int} (h : renE V F W P = 0) : renE V F 0 P = 0 := by
  obtain ⟨a, b⟩ := renE_ok h
  obtain ⟨f, w, p⟩ := Wh.chk_ok b
  unfold renE
  rw [if_pos a]
  exact Wh.chk_of ⟨f, by omega, p⟩
theorem cls_of {d : Int} (h : Ie.fnt d = false) : Ie.cls d = 3 ∨ Ie.cls d = 4 := by
  unfold Ie.fnt at h
  rw [decide_eq_false_iff_not] at h
  unfold Ie.cls at *
  split at h
  · split at h <;> omega
  · split at h
    · rename_i a b
      rw [if_neg a, if_pos b]
      split <;> omega
    · omega
theorem sgn_bit {F G : Int} (b : Bool) (h2 : Wh.bit F 2 = Wh.bit G 2) (h4 : Wh.bit F 4 = Wh.bit G 4) : Wh.sgn F b = Wh.sgn G b := by unfold Wh.sgn; rw [h2, h4]
theorem tb_bit {V F G P d : Int} (h : Wh.bit F 8 = Wh.bit G 8) : tb V F P d = tb V G P d := by unfold tb; rw [h]

/-- Digits ahead, whatever follows. -/
theorem wrt_head {a b p : List Int} {h : Bool} (ha : Digs a) (hne : a ≠ []) : ∃ x ys, wrt a b p h = x :: ys ∧ 48 ≤ x ∧ x ≤ 57 := by
  match a, hne with
  | x :: l, _ =>
    unfold wrt
    have := ha x (by simp)
    split
    · exact ⟨x, l ++ p, rfl, this⟩
    · exact ⟨x, l ++ 46 :: (b ++ p), rfl, this⟩
theorem take1 {xs : List Int} (h : 1 ≤ xs.length) : xs.take 1 ≠ [] := by
  intro c
  have : (xs.take 1).length = 0 := by rw [c]; rfl
  rw [List.length_take] at this
  omega
theorem bd_head {V P d : Int} (h : Bool) (hf : Ie.fnt d = true) (p0 : -1 ≤ P) (p1 : P ≤ 4096) : ∃ x ys, bd V h P d = x :: ys ∧ 48 ≤ x ∧ x ≤ 57 := by
  obtain ⟨q0, q1⟩ := pr_bd p0 p1
  unfold bd
  split
  · have k := plF hf q0 (by omega)
    exact wrt_head k.a k.ane
  · split
    · have k := fgF hf (n := pr P + 1) (by omega) (by omega)
      exact wrt_head (digs_take k.s _) (take1 (by have := k.len; omega))
    · have k := fgF hf (n := max (pr P) 1) (by omega) (by omega)
      unfold bdG
      split
      · rename_i g
        have j := plF hf (n := max (pr P) 1 - 1 - Fx.gK d (max (pr P) 1)) (by omega) (by omega)
        exact wrt_head j.a j.ane
      · exact wrt_head (digs_take k.s _) (take1 (by have := k.len; omega))
theorem nm_head {c : Bool} {k : Int} (h : k = 3 ∨ k = 4) : ∃ x ys, nm c k = x :: ys ∧ 48 ≤ x ∧ x ≤ 122 := by
  unfold nm
  rcases h with rfl | rfl
  · rw [if_pos rfl]; cases c
    · exact ⟨_, _, if_neg Bool.false_ne_true, by omega, by omega⟩
    · exact ⟨_, _, if_pos rfl, by omega, by omega⟩
  · rw [if_neg (by decide), if_pos rfl]; cases c
    · exact ⟨_, _, if_neg Bool.false_ne_true, by omega, by omega⟩
    · exact ⟨_, _, if_pos rfl, by omega, by omega⟩
theorem tb_head {V F P d : Int} (p0 : -1 ≤ P) (p1 : P ≤ 4096) : ∃ x ys, tb V F P d = x :: ys ∧ 48 ≤ x ∧ x ≤ 122 := by
  unfold tb
  split
  · next c =>
    obtain ⟨x, ys, e, a, b⟩ := bd_head (V := V) (Wh.bit F 8) c p0 p1
    exact ⟨x, ys, e, a, by omega⟩
  · next c => exact nm_head (cls_of (by simpa using c))
theorem tb_ok {V F P d : Int} (p0 : -1 ≤ P) (p1 : P ≤ 4096) : Wh.By (tb V F P d) ∧ (tb V F P d).length ≤ 20000 := by
  unfold tb
  split
  · next c => exact bd_ok _ c p0 p1
  · exact ⟨nm_by _ _, by have := nm_len (cap V) (Ie.cls d); omega⟩
theorem ren_len {V F W P d : Int} : (ren V F W P d).length ≤ 30000 ∧ Wh.By (ren V F W P d) := by
  by_cases h : renE V F W P = 0
  · obtain ⟨-, b⟩ := renE_ok h
    obtain ⟨f, w, p⟩ := Wh.chk_ok b
    have k := tb_ok (V := V) (F := F) (d := d) p.1 p.2
    have s := Wh.sgn_len F (ng d)
    rw [ren_pad h]
    refine ⟨?_, Wh.padT_by (Wh.sgn_by _ _) k.1⟩
    rw [Wh.padT_len]
    omega
  · unfold ren
    rw [if_neg h]
    exact ⟨by simp, Wh.By.nil⟩

/-- Small letters. -/
def low (x : Int) : Int := if 65 ≤ x ∧ x ≤ 90 then x + 32 else x
theorem low_id {x : Int} (h : ¬ (65 ≤ x ∧ x ≤ 90)) : low x = x := if_neg h
theorem map_id {xs : List Int} (h : ∀ x ∈ xs, ¬ (65 ≤ x ∧ x ≤ 90)) : xs.map low = xs := by
  induction xs with
  | nil => rfl
  | cons x l ih => rw [List.map_cons, low_id (h x (by simp)), ih (fun y hy => h y (by simp [hy]))]
theorem map_digs {xs : List Int} (h : Digs xs) : xs.map low = xs := map_id (fun x hx => by have := h x hx; omega)
theorem map_rep {c n : Int} (h : c = 32 ∨ c = 48) : (Wh.rep c n).map low = Wh.rep c n := map_id (fun x hx => by
  rw [Wh.rep, List.mem_replicate] at hx; omega)
theorem map_sgn (F : Int) (b : Bool) : (Wh.sgn F b).map low = Wh.sgn F b := map_id (fun x hx => by
  unfold Wh.sgn at hx
  split at hx
  · simp at hx; omega
  · split at hx
    · simp at hx; omega
    · split at hx
      · simp at hx; omega
      · simp at hx)
theorem xd_small {k : Int} (h0 : -400 ≤ k) (h1 : k ≤ 400) : ∀ x ∈ xd k, 43 ≤ x ∧ x ≤ 57 := by
  rw [xd_is h0 h1]
  intro x hx
  rcases List.mem_cons.1 hx with rfl | q
  · split <;> omega
  · have := Fx.tx_digs _ _ x q; omega
theorem map_ex {V v k : Int} (hV : cap V = true) (hv : cap v = false) (h0 : -400 ≤ k) (h1 : k ≤ 400) : (ex V k).map low = ex v k := by
  unfold ex
  rw [hV, hv, if_pos rfl, if_neg Bool.false_ne_true, List.map_cons, map_id (fun x hx => by have := xd_small h0 h1 x hx; omega)]
  rfl
theorem map_wrt {a b p q : List Int} {h : Bool} (ha : Digs a) (hb : Digs b) (hp : p.map low = q) : (wrt a b p h).map low = wrt a b q h := by
  unfold wrt
  split
  · rw [List.map_append, map_digs ha, hp]
  · rw [List.map_append, List.map_cons, List.map_append, map_digs ha, map_digs hb, hp]
    rfl
theorem map_bd {V P d : Int} (h : Bool) (hf : Ie.fnt d = true) (p0 : -1 ≤ P) (p1 : P ≤ 4096) (hV : V = 69 ∨ V = 70 ∨ V = 71) : (bd V h P d).map low = bd (V + 32) h P d := by
  obtain ⟨q0, q1⟩ := pr_bd p0 p1
  have cV : cap V = true := by unfold cap; rw [decide_eq_true_iff]; omega
  have cv : cap (V + 32) = false := by unfold cap; rw [decide_eq_false_iff_not]; omega
  unfold bd
  by_cases hF : V = 102 ∨ V = 70
  · rw [if_pos hF, if_pos (show V + 32 = 102 ∨ V + 32 = 70 by omega)]
    have k := plF hf q0 (by omega)
    exact map_wrt k.a k.b rfl
  · rw [if_neg hF, if_neg (show ¬ (V + 32 = 102 ∨ V + 32 = 70) by omega)]
    by_cases hE : V = 101 ∨ V = 69
    · rw [if_pos hE, if_pos (show V + 32 = 101 ∨ V + 32 = 69 by omega)]
      have k := fgF hf (n := pr P + 1) (by omega) (by omega)
      exact map_wrt (digs_take k.s _) (digs_drop k.s _) (map_ex cV cv (by have := k.lo; omega) (by have := k.hi; omega))
    · rw [if_neg hE, if_neg (show ¬ (V + 32 = 101 ∨ V + 32 = 69) by omega)]
      have k := fgF hf (n := max (pr P) 1) (by omega) (by omega)
      unfold bdG
      by_cases g : -4 ≤ Fx.gK d (max (pr P) 1) ∧ Fx.gK d (max (pr P) 1) < max (pr P) 1
      · rw [if_pos g, if_pos g]
        have j := plF hf (n := max (pr P) 1 - 1 - Fx.gK d (max (pr P) 1)) (by omega) (by omega)
        exact map_wrt j.a (digs_st h j.b) rfl
      · rw [if_neg g, if_neg g]
        exact map_wrt (digs_take k.s _) (digs_st h (digs_drop k.s _)) (map_ex cV cv (by have := k.lo; omega) (by have := k.hi; omega))
theorem map_tb {V F P d : Int} (p0 : -1 ≤ P) (p1 : P ≤ 4096) (hV : V = 69 ∨ V = 70 ∨ V = 71) : (tb V F P d).map low = tb (V + 32) F P d := by
  have cV : cap V = true := by unfold cap; rw [decide_eq_true_iff]; omega
  have cv : cap (V + 32) = false := by unfold cap; rw [decide_eq_false_iff_not]; omega
  unfold tb
  by_cases c : Ie.fnt d = true
  · rw [if_pos c, if_pos c]; exact map_bd _ c p0 p1 hV
  · rw [if_neg c, if_neg c, cV, cv]
    rcases cls_of (show Ie.fnt d = false by simpa using c) with e | e <;> rw [e] <;> rfl
theorem map_pad {F W : Int} {z : Bool} {h b c : List Int} (hh : h.map low = h) (hb : b.map low = c) : (Wh.padT F W z h b).map low = Wh.padT F W z h c := by
  have l : (b.length : Int) = c.length := by rw [← hb, List.length_map]
  unfold Wh.padT
  rw [l]
  split
  · rw [List.map_append, List.map_append, hh, hb, map_rep (.inl rfl)]
  · split
    · rw [List.map_append, List.map_append, hh, hb, map_rep (.inr rfl)]
    · rw [List.map_append, List.map_append, hh, hb, map_rep (.inl rfl)]
theorem map_ren {V F W P d : Int} (hV : V = 69 ∨ V = 70 ∨ V = 71) : (ren V F W P d).map low = ren (V + 32) F W P d := by
  have oV : okV V = true := by unfold okV; rw [decide_eq_true_iff]; omega
  have ov : okV (V + 32) = true := by unfold okV; rw [decide_eq_true_iff]; omega
  have e : renE V F W P = renE (V + 32) F W P := by unfold renE; rw [if_pos oV, if_pos ov]
  by_cases h : renE V F W P = 0
  · obtain ⟨-, b⟩ := renE_ok h
    obtain ⟨f, w, p⟩ := Wh.chk_ok b
    rw [ren_pad h, ren_pad (by rw [← e]; exact h)]
    exact map_pad (map_sgn _ _) (map_tb p.1 p.2 hV)
  · unfold ren
    rw [if_neg h, if_neg (by rw [← e]; exact h)]
    rfl
/-- No small letter. -/
def NoS (xs : List Int) : Prop := ∀ x ∈ xs, ¬ (97 ≤ x ∧ x ≤ 122)
theorem NoS.app {a b : List Int} (h : NoS a) (k : NoS b) : NoS (a ++ b) := by
  intro x hx
  rcases List.mem_append.1 hx with q | q
  · exact h x q
  · exact k x q
theorem NoS.digs {a : List Int} (h : Digs a) : NoS a := fun x hx => by have := h x hx; omega
theorem NoS.cons {c : Int} {a : List Int} (h0 : ¬ (97 ≤ c ∧ c ≤ 122)) (h : NoS a) : NoS (c :: a) := by
  intro x hx
  rcases List.mem_cons.1 hx with q | q
  · rw [q]; exact h0
  · exact h x q
theorem NoS.nil : NoS [] := by intro x h; simp at h
theorem nos_rep {c n : Int} (h : c = 32 ∨ c = 48) : NoS (Wh.rep c n) := fun x hx => by rw [Wh.rep, List.mem_replicate] at hx; omega
theorem nos_sgn (F : Int) (b : Bool) : NoS (Wh.sgn F b) := fun x hx => by
  unfold Wh.sgn at hx
  split at hx
  · simp at hx; omega
  · split at hx
    · simp at hx; omega
    · split at hx
      · simp at hx; omega
      · simp at hx
theorem nos_ex {V k : Int} (hV : cap V = true) (h0 : -400 ≤ k) (h1 : k ≤ 400) : NoS (ex V k) := by
  unfold ex
  rw [hV, if_pos rfl]
  exact NoS.cons (by omega) (fun x hx => by have := xd_small h0 h1 x hx; omega)
theorem nos_wrt {a b p : List Int} {h : Bool} (ha : Digs a) (hb : Digs b) (hp : NoS p) : NoS (wrt a b p h) := by
  unfold wrt
  split
  · exact (NoS.digs ha).app hp
  · exact (NoS.digs ha).app (NoS.cons (by omega) ((NoS.digs hb).app hp))
theorem nos_bd {V P d : Int} (h : Bool) (hf : Ie.fnt d = true) (p0 : -1 ≤ P) (p1 : P ≤ 4096) (hV : V = 69 ∨ V = 70 ∨ V = 71) : NoS (bd V h P d) := by
  obtain ⟨q0, q1⟩ := pr_bd p0 p1
  have cV : cap V = true := by unfold cap; rw [decide_eq_true_iff]; omega
  unfold bd
  split
  · have k := plF hf q0 (by omega)
    exact nos_wrt k.a k.b NoS.nil
  · split
    · have k := fgF hf (n := pr P + 1) (by omega) (by omega)
      exact nos_wrt (digs_take k.s _) (digs_drop k.s _) (nos_ex cV (by have := k.lo; omega) (by have := k.hi; omega))
    · have k := fgF hf (n := max (pr P) 1) (by omega) (by omega)
      unfold bdG
      split
      · rename_i g
        have j := plF hf (n := max (pr P) 1 - 1 - Fx.gK d (max (pr P) 1)) (by omega) (by omega)
        exact nos_wrt j.a (digs_st h j.b) NoS.nil
      · exact nos_wrt (digs_take k.s _) (digs_st h (digs_drop k.s _)) (nos_ex cV (by have := k.lo; omega) (by have := k.hi; omega))
theorem nos_tb {V F P d : Int} (p0 : -1 ≤ P) (p1 : P ≤ 4096) (hV : V = 69 ∨ V = 70 ∨ V = 71) : NoS (tb V F P d) := by
  have cV : cap V = true := by unfold cap; rw [decide_eq_true_iff]; omega
  unfold tb
  by_cases c : Ie.fnt d = true
  · rw [if_pos c]; exact nos_bd _ c p0 p1 hV
  · rw [if_neg c, cV]
    rcases cls_of (show Ie.fnt d = false by simpa using c) with e | e <;> rw [e] <;> (intro x hx; simp [nm] at hx; omega)
theorem nos_ren {V F W P d : Int} (hV : V = 69 ∨ V = 70 ∨ V = 71) : NoS (ren V F W P d) := by
  by_cases h : renE V F W P = 0
  · obtain ⟨-, b⟩ := renE_ok h
    obtain ⟨f, w, p⟩ := Wh.chk_ok b
    rw [ren_pad h]
    have k := nos_tb (V := V) (F := F) (d := d) p.1 p.2 hV
    unfold Wh.padT
    split
    · exact ((nos_sgn _ _).app k).app (nos_rep (.inl rfl))
    · split
      · exact ((nos_sgn _ _).app (nos_rep (.inr rfl))).app k
      · exact ((nos_rep (.inl rfl)).app (nos_sgn _ _)).app k
  · unfold ren
    rw [if_neg h]
    exact NoS.nil
end Po
end Go.Proofs.YtaoaniigbooihaaGreatDoor

namespace Go.Proofs.YtaoaniigbooihaaGreatDoor
open Go Go.RowKit Go.Deep Go.Shelf

def SpcTold (V F W P d : Int) (w : World) (e : Ending) (w' : World) : Prop := e = .returned (.tuple #[.string (strOfNums (Po.spc V F W P d)), .bool (Po.spb F W P d), .int .i64 (Wh.chk F W P)]) ∧ Below w.heap.size w w'
def RenTold (V F W P d : Int) (w : World) (e : Ending) (w' : World) : Prop := e = .returned (.tuple #[.string (strOfNums (Po.ren V F W P d)), .int .i64 (Po.renE V F W P)]) ∧ Below w.heap.size w w'

theorem pad_small {F W P : Int} {z : Bool} {h b : List Int} (hl : h.length + b.length ≤ 16777216) : Wh.padE F W P h b = Wh.chk F W P ∧ Wh.pad F W P z h b = (if Wh.chk F W P = 0 then Wh.padT F W z h b else []) := by
  have e : Wh.padE F W P h b = Wh.chk F W P := by
    unfold Wh.padE
    by_cases c : Wh.chk F W P = 0
    · rw [if_pos c, if_neg (by omega), c]
    · rw [if_neg c]
  exact ⟨e, by rw [Wh.pad, e]⟩

set_option maxRecDepth 100000 in
set_option maxHeartbeats 4000000 in
theorem special_any (V F W P d : Int) (w : World) (v0 : 0 ≤ V) (v1 : V < 256) (h0 : 0 ≤ d) (h1 : d < 18446744073709551616) :
    Calls Tryz.prog 27 #[.agg #[.int .u8 V, .int .i64 F, .int .i64 W, .int .i64 P], .int .u64 d] w fun e w' => SpcTold V F W P d w e w' := by
  have B0 := hid (SB.new w V F W P)
  have SG := hid (fun wk => psign_any V F W P d wk h0 h1)
  have NM := hid (fun wk => pname_any V d wk v0 v1 h0 h1)
  have FN := hid (fun wk => pfin_any d wk h0 h1)
  have sb := Po.sx_by F (Po.ng d)
  have nb := Po.nm_by (Po.cap V) (Ie.cls d)
  have nl := Po.nm_len (Po.cap V) (Ie.cls d)
  have PA : Hid (∀ wk, Calls Tryz.prog 31 #[.agg #[.int .u8 V, .int .i64 F, .int .i64 W, .int .i64 P], .string (strOfNums (Po.sx F (Po.ng d))), .string (strOfNums (Po.nm (Po.cap V) (Ie.cls d))), .bool false] wk fun e w' => e = .returned (.tuple #[.string (strOfNums (if Wh.chk F W P = 0 then Wh.padT F W false (Po.sx F (Po.ng d)) (Po.nm (Po.cap V) (Ie.cls d)) else [])), .int .i64 (Wh.chk F W P)]) ∧ Below wk.heap.size wk w') := by
    intro wk
    refine (pad_any V F W P _ _ false wk sb.1 nb (by omega) (by omega)).mono ?_
    rintro e w' ⟨rfl, k⟩
    obtain ⟨e1, e2⟩ := pad_small (F := F) (W := W) (P := P) (z := false) (h := Po.sx F (Po.ng d)) (b := Po.nm (Po.cap V) (Ie.cls d)) (by omega)
    exact ⟨by rw [e1, e2], k⟩
  have G1 : Hid (∀ w' , Wh.chk F W P ≠ 0 → Below w.heap.size w w' → SpcTold V F W P d w (.returned (.tuple #[.string ⟨#[]⟩, .bool false, .int .i64 (Wh.chk F W P)])) w') := by
    intro w' h k
    refine ⟨?_, k⟩
    rw [Po.spc, if_neg (fun q => h q.1), Po.spb, decide_eq_false h]
    rfl
  have G2 : Hid (∀ w' , Wh.chk F W P = 0 → Ie.fnt d = true → Below w.heap.size w w' → SpcTold V F W P d w (.returned (.tuple #[.string ⟨#[]⟩, .bool false, .int .i64 0])) w') := by
    intro w' h f k
    refine ⟨?_, k⟩
    rw [Po.spc, if_neg (fun q => by rw [f] at q; exact Bool.false_ne_true q.2.symm), Po.spb, f, h]
    rfl
  have G3 : Hid (∀ w' , Wh.chk F W P = 0 → Ie.fnt d = false → Below w.heap.size w w' → SpcTold V F W P d w (.returned (.tuple #[.string (strOfNums (if Wh.chk F W P = 0 then Wh.padT F W false (Po.sx F (Po.ng d)) (Po.nm (Po.cap V) (Ie.cls d)) else [])), .bool true, .int .i64 0])) w') := by
    intro w' h f k
    refine ⟨?_, k⟩
    obtain ⟨⟨f0, f1⟩, -, -⟩ := Wh.chk_ok h
    rw [if_pos h, Po.spc, if_pos ⟨h, f⟩, Po.spb, f, h, Po.sx_is _ f0 f1]
    rfl
  generalize (if Wh.chk F W P = 0 then Wh.padT F W false (Po.sx F (Po.ng d)) (Po.nm (Po.cap V) (Ie.cls d)) else []) = T at *
  generalize Po.sx F (Po.ng d) = SX at *
  generalize Po.nm (Po.cap V) (Ie.cls d) = NX at *
  clear v0 v1 h0 h1 sb nb nl
  generalize Wh.chk F W P = E at *
  generalize Ie.fnt d = fd at *
  go_enter Tryz.func27, Tryz.ntmps27
  go_upto_region 1 with fail
  have T1 := hid B0.out.drew
  go_region_held3 (fun wx => wx.cell? ⟨w.heap.size, 0, none⟩ = some (.int .u8 V) ∧ wx.cell? ⟨w.heap.size, 1, none⟩ = some (.int .i64 F) ∧ wx.cell? ⟨w.heap.size, 2, none⟩ = some (.int .i64 W) ∧ wx.cell? ⟨w.heap.size, 3, none⟩ = some (.int .i64 P)) (first | (with_reducible exact T4.out.flat) | (with_reducible exact T3.out.flat) | (with_reducible exact T2.out.flat) | (with_reducible exact T1.out.flat)) (first
    | (go_at_call 32; with_reducible refine (SG.out _).mono ?_; rintro e wa ⟨rfl, hB⟩; have T2 := hid (T1.out.on hB); clear hB)
    | (go_at_call 46; with_reducible refine (NM.out _).mono ?_; rintro e wb ⟨rfl, hB⟩; have T3 := hid (T2.out.on hB); clear hB)
    | (go_at_call 31; with_reducible refine (PA.out _).mono ?_; rintro e wc ⟨rfl, hB⟩; have T4 := hid (T3.out.on hB); clear hB))
  by_cases hE : E = 0
  · subst hE
    cases fd with
    | true =>
      have R := hid (G2.out wc rfl rfl T4.out.bel)
      clear G1 G2 G3
      go_wp2_with (go_at_call 47; refine (FN.out _).mono ?_; rintro e w' ⟨rfl, hw⟩; rw [hw]; clear hw w')
      go_ret3
      exact R.out
    | false =>
      have R := hid (G3.out wc rfl rfl T4.out.bel)
      clear G1 G2 G3
      go_wp2_with (go_at_call 47; refine (FN.out _).mono ?_; rintro e w' ⟨rfl, hw⟩; rw [hw]; clear hw w')
      go_ret3
      exact R.out
  · have hne : (E == 0) = false := by simpa using hE
    have hne2 : (E != 0) = true := by simpa using hE
    have R := hid (G1.out wc hE T4.out.bel)
    clear G1 G2 G3 hE
    go_wp2_with fail
    go_ret3
    exact R.out

set_option maxRecDepth 100000 in
set_option maxHeartbeats 4000000 in
theorem render_any (V F W P d : Int) (w : World) (hT : Tab w) (v0 : 0 ≤ V) (v1 : V < 256) (h0 : 0 ≤ d) (h1 : d < 18446744073709551616) :
    Calls Tryz.prog 12 #[.agg #[.int .u8 V, .int .i64 F, .int .i64 W, .int .i64 P], .int .u64 d] w fun e w' => RenTold V F W P d w e w' := by
  have B0 := hid (SB.new w V F W P)
  have IX := hid (fun w => Any.strings_IndexByte idxLays ⟨#[101, 69, 102, 70, 103, 71]⟩ V w)
  have OK := ok_ix V v0 v1
  obtain ⟨ix, hix⟩ : ∃ ix, Lib.indexByte (⟨#[101, 69, 102, 70, 103, 71]⟩ : ByteArray).data.toList V.toNat.toUInt8 = ix := ⟨_, rfl⟩
  rw [hix] at IX OK
  clear hix
  by_cases hV : Po.okV V = true
  · rw [hV] at OK
    have ix0 : ¬ ix < 0 := by simpa using OK
    have hR : Po.renE V F W P = Wh.chk F W P := by rw [Po.renE, if_pos hV]
    have SP := hid (fun wk => special_any V F W P d wk v0 v1 h0 h1)
    by_cases hc : Wh.chk F W P = 0
    · obtain ⟨⟨f0, f1⟩, -, ⟨p0, p1⟩⟩ := Wh.chk_ok hc
      by_cases hf : Ie.fnt d = true
      · have sp1 : Po.spb F W P d = false := by rw [Po.spb, hf]; simp
        have SG : Hid (∀ wk, Calls Tryz.prog 32 #[.agg #[.int .u8 V, .int .i64 F, .int .i64 W, .int .i64 P], .int .u64 d] wk fun e w' => e = .returned (.string (strOfNums (Wh.sgn F (Po.ng d)))) ∧ Below wk.heap.size wk w') := by
          intro wk
          have q := psign_any V F W P d wk h0 h1
          rw [Po.sx_is _ f0 f1] at q
          exact q
        have TB : Hid (∀ wk, Below w.heap.size w wk → Tab wk) := fun wk k => hT.below k
        have BO := hid (fun wk (k : Tab wk) => pbody_any V F W P d wk k v0 v1 f0 f1 p0 p1 h0 h1 hf)
        obtain ⟨bb, bl⟩ := Po.bd_ok (V := V) (P := P) (d := d) (Wh.bit F 8) hf p0 p1
        have sl := Wh.sgn_len F (Po.ng d)
        have PA : Hid (∀ wk, Calls Tryz.prog 31 #[.agg #[.int .u8 V, .int .i64 F, .int .i64 W, .int .i64 P], .string (strOfNums (Wh.sgn F (Po.ng d))), .string (strOfNums (Po.bd V (Wh.bit F 8) P d)), .bool true] wk fun e w' => e = .returned (.tuple #[.string (strOfNums (Po.ren V F W P d)), .int .i64 0]) ∧ Below wk.heap.size wk w') := by
          intro wk
          refine (pad_any V F W P _ _ true wk (Wh.sgn_by _ _) bb (by omega) (by omega)).mono ?_
          rintro e w' ⟨rfl, k⟩
          obtain ⟨e1, e2⟩ := pad_small (F := F) (W := W) (P := P) (z := true) (h := Wh.sgn F (Po.ng d)) (b := Po.bd V (Wh.bit F 8) P d) (by omega)
          refine ⟨?_, k⟩
          rw [e1, e2, hc, if_pos rfl, Po.ren, hR, if_pos hc, if_pos hf]
        have G : Hid (∀ w', Below w.heap.size w w' → RenTold V F W P d w (.returned (.tuple #[.string (strOfNums (Po.ren V F W P d)), .int .i64 0])) w') := fun w' k => ⟨by rw [hR, hc], k⟩
        unfold SpcTold at SP
        rw [sp1, hc] at SP
        clear hT v0 v1 h0 h1 hV OK hR hc hf f0 f1 p0 p1 bb bl sl sp1
        generalize Po.spc V F W P d = SC at *
        generalize Po.ren V F W P d = RN at *
        generalize Po.bd V (Wh.bit F 8) P d = BD' at *
        generalize Wh.sgn F (Po.ng d) = SN at *
        go_enter Tryz.func12, Tryz.ntmps12
        go_wp2_with (go_at_call 30; refine (IX.out _).mono ?_; rintro e w2 ⟨rfl, rfl⟩)
        with_reducible refine (SP.out _).mono ?_
        rintro e w1 ⟨rfl, b1⟩
        have B1 := hid (B0.out.on b1)
        clear b1 B0 SP IX
        obtain ⟨c0, c1, c2, c3⟩ := B1.out.flat
        go_upto_region 6 with fail
        clear c0 c1 c2 c3
        have T1 := hid B1.out.drew
        go_region_held3 (fun wx => wx.cell? ⟨w.heap.size, 0, none⟩ = some (.int .u8 V) ∧ wx.cell? ⟨w.heap.size, 1, none⟩ = some (.int .i64 F) ∧ wx.cell? ⟨w.heap.size, 2, none⟩ = some (.int .i64 W) ∧ wx.cell? ⟨w.heap.size, 3, none⟩ = some (.int .i64 P)) (first | (with_reducible exact T4.out.flat) | (with_reducible exact T3.out.flat) | (with_reducible exact T2.out.flat) | (with_reducible exact T1.out.flat)) (first
          | (go_at_call 32; with_reducible refine (SG.out _).mono ?_; rintro e wa ⟨rfl, hB⟩; have T2 := hid (T1.out.on hB); have K2 := hid (TB.out _ T2.out.bel); clear hB)
          | (go_at_call 33; with_reducible refine (BO.out _ K2.out).mono ?_; rintro e wb ⟨rfl, hB⟩; have T3 := hid (T2.out.on hB); clear hB)
          | (go_at_call 31; with_reducible refine (PA.out _).mono ?_; rintro e wc ⟨rfl, hB⟩; have T4 := hid (T3.out.on hB); clear hB))
        go_wp2_with fail
        go_ret2
        exact G.out _ T4.out.bel
      · have hf' : Ie.fnt d = false := by simpa using hf
        have sp1 : Po.spb F W P d = true := by rw [Po.spb, hf', hc]; rfl
        have sp2 : Po.spc V F W P d = Po.ren V F W P d := by rw [Po.spc, if_pos ⟨hc, hf'⟩, Po.ren, hR, if_pos hc, if_neg hf]
        have G : Hid (∀ w', Below w.heap.size w w' → RenTold V F W P d w (.returned (.tuple #[.string (strOfNums (Po.ren V F W P d)), .int .i64 0])) w') := fun w' k => ⟨by rw [hR, hc], k⟩
        unfold SpcTold at SP
        rw [sp1, sp2, hc] at SP
        clear hT v0 v1 h0 h1 hV OK hR hc hf hf' f0 f1 p0 p1 sp1 sp2
        generalize Po.ren V F W P d = RN at *
        go_enter Tryz.func12, Tryz.ntmps12
        go_wp2_with (go_at_call 30; refine (IX.out _).mono ?_; rintro e w2 ⟨rfl, rfl⟩)
        with_reducible refine (SP.out _).mono ?_
        rintro e w1 ⟨rfl, b1⟩
        have R := hid (G.out _ (B0.out.on b1).bel)
        clear b1 B0 SP IX G
        go_wp2_with fail
        go_ret2
        exact R.out
    · have sp1 : Po.spb F W P d = false := by rw [Po.spb, decide_eq_false hc]; rfl
      have sp2 : Po.spc V F W P d = Po.ren V F W P d := by rw [Po.spc, if_neg (fun q => hc q.1), Po.ren, hR, if_neg hc]
      have G : Hid (∀ w', Below w.heap.size w w' → RenTold V F W P d w (.returned (.tuple #[.string (strOfNums (Po.ren V F W P d)), .int .i64 (Wh.chk F W P)])) w') := fun w' k => ⟨by rw [hR], k⟩
      unfold SpcTold at SP
      rw [sp1, sp2] at SP
      have hne : (Wh.chk F W P == 0) = false := by simpa using hc
      have hne2 : (Wh.chk F W P != 0) = true := by simpa using hc
      clear hT v0 v1 h0 h1 hV OK hR hc sp1 sp2
      generalize Po.ren V F W P d = RN at *
      generalize Wh.chk F W P = E at *
      go_enter Tryz.func12, Tryz.ntmps12
      go_wp2_with (go_at_call 30; refine (IX.out _).mono ?_; rintro e w2 ⟨rfl, rfl⟩)
      with_reducible refine (SP.out _).mono ?_
      rintro e w1 ⟨rfl, b1⟩
      have R := hid (G.out _ (B0.out.on b1).bel)
      clear b1 B0 SP IX G
      go_wp2_with fail
      go_ret2
      exact R.out
  · have hV' : Po.okV V = false := by simpa using hV
    rw [hV'] at OK
    have ix0 : ix < 0 := by simpa using OK
    have hR : Po.renE V F W P = 140 := by rw [Po.renE, if_neg hV]
    have G : Hid (∀ w', Below w.heap.size w w' → RenTold V F W P d w (.returned (.tuple #[.string ⟨#[]⟩, .int .i64 140])) w') := fun w' k => ⟨by rw [Po.ren, hR, if_neg (by decide)]; rfl, k⟩
    have R := hid (G.out _ B0.out.bel)
    clear hT v0 v1 h0 h1 hV hV' OK hR G
    go_enter Tryz.func12, Tryz.ntmps12
    go_wp2_with (go_at_call 30; refine (IX.out _).mono ?_; rintro e w2 ⟨rfl, rfl⟩)
    go_ret2
    exact R.out
end Go.Proofs.YtaoaniigbooihaaGreatDoor

namespace Go.Proofs.YtaoaniigbooihaaGreatDoor
namespace Sc

/-- A number's digits, as bytes. -/
def dl (u : Nat) : List Int := (Lib.decDigits u).map fun b => (b.toNat : Int)
theorem dl_small {u : Nat} (h : u < 10) : dl u = [48 + (u : Int)] := by
  unfold dl
  rw [Lib.decDigits_one h]
  simp only [List.map_cons, List.map_nil]
  rw [UInt8.toNat_ofNat_of_lt' (by show 48 + u < 256; omega)]
  simp
theorem dl_big {u : Nat} (h : ¬ u < 10) : dl u = dl (u / 10) ++ [48 + ((u % 10 : Nat) : Int)] := by
  unfold dl
  rw [Lib.decDigits, dif_neg h, List.map_append]
  simp only [List.map_cons, List.map_nil]
  rw [UInt8.toNat_ofNat_of_lt' (by show 48 + u % 10 < 256; omega)]
  simp
theorem dl_is (u : Nat) : (∀ x ∈ dl u, dg x = true) ∧ dl u ≠ [] ∧ cap (dl u) = min (u : Int) 1000000000000000 := by
  induction u using Nat.strongRecOn with
  | _ u ih =>
    by_cases h : u < 10
    · rw [dl_small h]
      refine ⟨fun x hx => ?_, by simp, ?_⟩
      · rw [List.mem_singleton] at hx; subst hx; rw [dg_iff]; omega
      · have := cap_snoc [] (48 + (u : Int))
        rw [List.nil_append, cap_nil] at this
        rw [this]; omega
    · obtain ⟨h1, h2, h3⟩ := ih (u / 10) (by omega)
      rw [dl_big h]
      refine ⟨fun x hx => ?_, by simp, ?_⟩
      · rw [List.mem_append, List.mem_singleton] at hx
        rcases hx with hx | hx
        · exact h1 x hx
        · subst hx; rw [dg_iff]; omega
      · rw [cap_snoc, h3]; omega

theorem run_app {p : Int → Bool} (hp : p 0 = false) {as' bs cs : List Int} (h1 : ∀ x ∈ bs, p x = true) (h2 : p (pk cs 0) = false) : run p (as' ++ bs ++ cs) as'.length = bs.length := by
  apply run_is hp
  · intro j hj
    rw [pk_append, if_pos (by simp; omega), pk_append, if_neg (by omega), show as'.length + j - as'.length = j by omega]
    apply h1
    simp [pk, List.getD, hj]
  · rw [pk_append, if_neg (by simp), show as'.length + bs.length - (as' ++ bs).length = 0 by simp]
    exact h2
theorem take_app {as' bs cs : List Int} : ((as' ++ bs ++ cs).drop as'.length).take bs.length = bs := by
  rw [List.append_assoc, List.drop_left, List.take_left]

/-- Digits that are there, all digits. -/
def Dig (ds : List Int) : Prop := ds ≠ [] ∧ ∀ x ∈ ds, dg x = true
theorem Dig.pk0 {ds : List Int} (h : Dig ds) : dg (pk ds 0) = true := by
  obtain ⟨h1, h2⟩ := h
  cases ds with
  | nil => exact absurd rfl h1
  | cons x l => exact h2 x (by simp)

end Sc
end Go.Proofs.YtaoaniigbooihaaGreatDoor

namespace Go.Proofs.YtaoaniigbooihaaGreatDoor
namespace Sc

def sgT (n : Int) : List Int := if n = 1 then [43] else if n = 2 then [45] else []
theorem pk_at (U V : List Int) (i : Nat) : pk (U ++ V) (U.length + i) = pk V i := by rw [pk_append, if_neg (by omega), Nat.add_sub_cancel_left]
theorem pk_at0 (U V : List Int) : pk (U ++ V) U.length = pk V 0 := pk_at U V 0
theorem pk_or (A B : List Int) : pk (A ++ B) 0 = if A = [] then pk B 0 else pk A 0 := by
  cases A with
  | nil => rfl
  | cons x l => rfl
theorem pk_dig {A : List Int} (h : ∀ x ∈ A, dg x = true) (h0 : A ≠ []) : dg (pk A 0) = true := Dig.pk0 ⟨h0, h⟩

/-- The sign at the head. -/
theorem sg_made (P V : List Int) (n : Int) (h : ¬ (pk V 0 = 43 ∨ pk V 0 = 45)) : sg (P ++ sgT n ++ V) P.length = (sgT n).length ∧ (pk (P ++ sgT n ++ V) P.length = 45 ↔ n = 2) := by
  rw [List.append_assoc]
  unfold sg
  rw [pk_at0]
  unfold sgT
  by_cases h1 : n = 1
  · subst h1
    exact ⟨rfl, ⟨fun c => by have : (43 : Int) = 45 := c; omega, fun c => by omega⟩⟩
  · rw [if_neg h1]
    by_cases h2 : n = 2
    · subst h2
      exact ⟨rfl, ⟨fun _ => rfl, fun _ => rfl⟩⟩
    · rw [if_neg h2, List.nil_append, if_neg h]
      exact ⟨rfl, ⟨fun c => absurd (.inr c) h, fun c => absurd c h2⟩⟩

/-- The exponent's part, and its worth. -/
def exL (el : Option Int) (m : Int) (E : Nat) : List Int := match el with | some c => c :: (sgT m ++ dl E) | none => []
def exS (el : Option Int) (m : Int) (E : Nat) : Int := match el with | some _ => if m = 2 then - min (E : Int) 1000000000000000 else min (E : Int) 1000000000000000 | none => 0

/-- The parts of a literal behind P, and what follows. -/
theorem made_lit (P A B tail : List Int) (n m : Int) (pt : Bool) (el : Option Int) (E : Nat) (hA : ∀ x ∈ A, dg x = true) (hB : ∀ x ∈ B, dg x = true) (hne : A.length + (if pt = true then B.length else 0) ≠ 0)
    (hel : ∀ c, el = some c → c = 101 ∨ c = 69) (ht : dg (pk tail 0) = false ∧ pk tail 0 ≠ 46 ∧ isE (pk tail 0) = false ∧ pk tail 0 ≠ 43 ∧ pk tail 0 ≠ 45) :
    some? (P ++ sgT n ++ A ++ ((if pt = true then 46 :: B else []) ++ (exL el m E ++ tail))) P.length ∧
    lit (P ++ sgT n ++ A ++ ((if pt = true then 46 :: B else []) ++ (exL el m E ++ tail))) P.length =
      ⟨decide (n = 2), A, if pt = true then B else [], exS el m E,
        (P ++ sgT n ++ A ++ ((if pt = true then 46 :: B else []) ++ exL el m E)).length⟩ := by
  obtain ⟨ex, hex⟩ : ∃ ex : List Int, ex = exL el m E := ⟨_, rfl⟩
  obtain ⟨dot, hdot⟩ : ∃ dot : List Int, dot = (if pt = true then 46 :: B else []) := ⟨_, rfl⟩
  rw [← hex, ← hdot]
  -- the first byte of the exponent's part and what follows
  have x0 : dg (pk (ex ++ tail) 0) = false ∧ pk (ex ++ tail) 0 ≠ 46 ∧ pk (ex ++ tail) 0 ≠ 43 ∧ pk (ex ++ tail) 0 ≠ 45 := by
    cases el with
    | none => rw [hex]; exact ⟨ht.1, ht.2.1, ht.2.2.2.1, ht.2.2.2.2⟩
    | some c =>
      rw [hex]
      have := hel c rfl
      show dg c = false ∧ c ≠ 46 ∧ c ≠ 43 ∧ c ≠ 45
      refine ⟨?_, by omega, by omega, by omega⟩
      rw [dg_not]; omega
  have d0 : dg (pk (dot ++ (ex ++ tail)) 0) = false ∧ pk (dot ++ (ex ++ tail)) 0 ≠ 43 ∧ pk (dot ++ (ex ++ tail)) 0 ≠ 45 ∧ (pk (dot ++ (ex ++ tail)) 0 = 46 ↔ pt = true) := by
    cases pt with
    | false => rw [hdot]; exact ⟨x0.1, x0.2.2.1, x0.2.2.2, ⟨fun c => absurd c x0.2.1, fun c => by simp at c⟩⟩
    | true => rw [hdot]; exact ⟨rfl, by show (46 : Int) ≠ 43; omega, by show (46 : Int) ≠ 45; omega, ⟨fun _ => rfl, fun _ => rfl⟩⟩
  obtain ⟨R, hR⟩ : ∃ R, R = dot ++ (ex ++ tail) := ⟨_, rfl⟩
  rw [← hR] at d0 ⊢
  have a0 : ¬ (pk (A ++ R) 0 = 43 ∨ pk (A ++ R) 0 = 45) := by
    rw [pk_or]
    split
    · intro c; rcases c with c | c; exact d0.2.1 c; exact d0.2.2.1 c
    · next c => have := dg_iff.1 (pk_dig hA c); omega
  obtain ⟨s1, s2⟩ := sg_made P (A ++ R) n a0
  rw [← List.append_assoc] at s1 s2
  obtain ⟨xs, hxs⟩ : ∃ xs, xs = P ++ sgT n ++ A ++ R := ⟨_, rfl⟩
  rw [← hxs] at s1 s2 ⊢
  have e1 : p1 xs P.length = (P ++ sgT n).length := by unfold p1; rw [s1, List.length_append]
  have r1 : run dg xs (P ++ sgT n).length = A.length := by rw [hxs]; exact run_app dg0 hA d0.1
  have e2 : p2 xs P.length = (P ++ sgT n ++ A).length := by unfold p2; rw [e1, r1]; exact List.length_append.symm
  have ah : (xs.drop (p1 xs P.length)).take (run dg xs (p1 xs P.length)) = A := by rw [e1, r1, hxs]; exact take_app
  have k2 : pk xs (p2 xs P.length) = pk R 0 := by rw [e2, hxs, pk_at0]
  -- the point
  have pnt : bn xs P.length = (if pt = true then B.length else 0) ∧ p3 xs P.length = (P ++ sgT n ++ A ++ dot).length ∧ (xs.drop (p2 xs P.length + 1)).take (bn xs P.length) = (if pt = true then B else []) := by
    cases pt with
    | false =>
      have c : ¬ pk xs (p2 xs P.length) = 46 := by rw [k2]; intro c; exact absurd (d0.2.2.2.1 c) (by simp)
      refine ⟨by unfold bn; rw [if_neg c]; rfl, by unfold p3; rw [if_neg c, e2, hdot]; simp, ?_⟩
      have : bn xs P.length = 0 := by unfold bn; rw [if_neg c]
      rw [this]; rfl
    | true =>
      have c : pk xs (p2 xs P.length) = 46 := by rw [k2]; exact d0.2.2.2.2 rfl
      have hd : dot = 46 :: B := by rw [hdot]; rfl
      have hx2 : xs = (P ++ sgT n ++ A ++ [46]) ++ B ++ (ex ++ tail) := by rw [hxs, hR, hd]; simp
      have l2 : p2 xs P.length + 1 = (P ++ sgT n ++ A ++ [46]).length := by rw [e2]; simp; omega
      have r2 : run dg xs (p2 xs P.length + 1) = B.length := by rw [l2, hx2]; exact run_app dg0 hB x0.1
      have b2 : bn xs P.length = B.length := by unfold bn; rw [if_pos c, r2]
      refine ⟨b2, ?_, ?_⟩
      · unfold p3; rw [if_pos c, r2, e2, hd]; simp; omega
      · rw [b2, l2, hx2]; exact take_app
  obtain ⟨b1, b2, b3⟩ := pnt
  have hsome : some? xs P.length := by unfold some?; rw [e1, r1, b1]; exact hne
  refine ⟨hsome, ?_⟩
  have ng : decide (pk xs P.length = 45) = decide (n = 2) := decide_eq_decide.2 s2
  have hx3 : xs = (P ++ sgT n ++ A ++ dot) ++ (ex ++ tail) := by rw [hxs, hR]; simp
  have k3 : ∀ i, pk xs (p3 xs P.length + i) = pk (ex ++ tail) i := fun i => by rw [b2, hx3]; exact pk_at _ _ i
  have k30 : pk xs (p3 xs P.length) = pk (ex ++ tail) 0 := k3 0
  cases el with
  | none =>
    have hE : hasE xs (p3 xs P.length) = false := by
      unfold hasE; rw [k30, hex]; show (isE (pk tail 0) && _) = false; rw [ht.2.2.1, Bool.false_and]
    unfold lit
    rw [ah, ng, b3, hE, b2, hex]
    simp [exL, exS]
  | some c =>
    have hc := hel c rfl
    have hex' : ex = c :: (sgT m ++ dl E) := hex
    obtain ⟨k1, k2', k3'⟩ := dl_is E
    have dp := dg_iff.1 (pk_dig k1 k2')
    have hx4 : xs = (P ++ sgT n ++ A ++ dot ++ [c]) ++ sgT m ++ (dl E ++ tail) := by rw [hx3, hex']; simp
    have l4 : p3 xs P.length + 1 = (P ++ sgT n ++ A ++ dot ++ [c]).length := by rw [b2]; simp; omega
    obtain ⟨t1, t2⟩ := sg_made (P ++ sgT n ++ A ++ dot ++ [c]) (dl E ++ tail) m (by rw [pk_or, if_neg k2']; omega)
    rw [← hx4, ← l4] at t1 t2
    have e4 : p4 xs (p3 xs P.length) = (P ++ sgT n ++ A ++ dot ++ [c] ++ sgT m).length := by unfold p4; rw [t1, l4, ← List.length_append]
    have hx5 : xs = (P ++ sgT n ++ A ++ dot ++ [c] ++ sgT m) ++ dl E ++ tail := by rw [hx4]; simp
    have r4 : run dg xs (p4 xs (p3 xs P.length)) = (dl E).length := by rw [e4, hx5]; exact run_app dg0 k1 ht.1
    have tk : (xs.drop (p4 xs (p3 xs P.length))).take (run dg xs (p4 xs (p3 xs P.length))) = dl E := by rw [r4, e4, hx5]; exact take_app
    have hE : hasE xs (p3 xs P.length) = true := by
      unfold hasE
      rw [k30, hex']
      have h1 : isE (pk (c :: (sgT m ++ dl E) ++ tail) 0) = true := by show isE c = true; simp [isE]; exact hc
      rw [h1, Bool.true_and, e4, hx5, List.append_assoc _ (dl E), pk_at0, pk_or, if_neg k2']
      exact pk_dig k1 k2'
    unfold lit
    rw [ah, ng, b3, hE, tk, k3', if_pos rfl, if_pos rfl, r4, e4]
    congr 1
    · by_cases hm : m = 2
      · rw [if_pos (t2.2 hm)]; simp [exS, hm]
      · rw [if_neg (fun h => hm (t2.1 h))]; simp [exS, hm]
    · rw [hex']; simp; omega
end Sc
end Go.Proofs.YtaoaniigbooihaaGreatDoor

namespace Go.Proofs.YtaoaniigbooihaaGreatDoor
namespace Sc

/-- The literal's own text. -/
def mtx (n : Int) (A B : List Int) (pt : Bool) (el : Option Int) (m : Int) (E : Nat) : List Int := sgT n ++ A ++ ((if pt = true then 46 :: B else []) ++ exL el m E)
def TailOk (tail : List Int) : Prop := dg (pk tail 0) = false ∧ pk tail 0 ≠ 46 ∧ isE (pk tail 0) = false ∧ pk tail 0 ≠ 43 ∧ pk tail 0 ≠ 45

theorem mtx_head (n : Int) (A B : List Int) (pt : Bool) (el : Option Int) (m : Int) (E : Nat) (tail : List Int) (hA : ∀ x ∈ A, dg x = true) (hne : A.length + (if pt = true then B.length else 0) ≠ 0) : bl (pk (mtx n A B pt el m E ++ tail) 0) = false := by
  rw [bl_not]
  unfold mtx
  by_cases h1 : n = 1
  · subst h1; show ¬ ((43 : Int) = 32 ∨ 9 ≤ (43 : Int) ∧ (43 : Int) ≤ 13); decide
  · by_cases h2 : n = 2
    · subst h2; show ¬ ((45 : Int) = 32 ∨ 9 ≤ (45 : Int) ∧ (45 : Int) ≤ 13); decide
    · have s0 : sgT n = [] := by unfold sgT; rw [if_neg h1, if_neg h2]
      rw [s0]
      cases A with
      | nil =>
        cases pt with
        | false => simp at hne
        | true => show ¬ ((46 : Int) = 32 ∨ 9 ≤ (46 : Int) ∧ (46 : Int) ≤ 13); decide
      | cons x l =>
        have := dg_iff.1 (hA x (by simp))
        show ¬ (x = 32 ∨ 9 ≤ x ∧ x ≤ 13)
        omega

theorem made_run (P A B tail : List Int) (n m : Int) (pt : Bool) (el : Option Int) (E : Nat) (hP : ∀ x ∈ P, bl x = true) (hA : ∀ x ∈ A, dg x = true) (hne : A.length + (if pt = true then B.length else 0) ≠ 0) : run bl (P ++ mtx n A B pt el m E ++ tail) 0 = P.length := by
  have := run_app bl0 (as' := []) (bs := P) (cs := mtx n A B pt el m E ++ tail) hP (mtx_head n A B pt el m E tail hA hne)
  rw [List.nil_append, ← List.append_assoc] at this
  exact this

theorem made_at (P A B tail : List Int) (n m : Int) (pt : Bool) (el : Option Int) (E : Nat) (hA : ∀ x ∈ A, dg x = true) (hB : ∀ x ∈ B, dg x = true) (hne : A.length + (if pt = true then B.length else 0) ≠ 0)
    (hel : ∀ c, el = some c → c = 101 ∨ c = 69) (ht : TailOk tail) : some? (P ++ mtx n A B pt el m E ++ tail) P.length ∧
    (lit (P ++ mtx n A B pt el m E ++ tail) P.length).d = nrm (decide (n = 2)) (A ++ (if pt = true then B else [])) (exS el m E - ((if pt = true then B else []).length : Int)) ∧
    (lit (P ++ mtx n A B pt el m E ++ tail) P.length).en = (P ++ mtx n A B pt el m E).length := by
  have e : P ++ mtx n A B pt el m E ++ tail = P ++ sgT n ++ A ++ ((if pt = true then 46 :: B else []) ++ (exL el m E ++ tail)) := by unfold mtx; simp only [List.append_assoc]
  obtain ⟨h1, h2⟩ := made_lit P A B tail n m pt el E hA hB hne hel ht
  rw [e, h2]
  refine ⟨h1, rfl, ?_⟩
  show (P ++ sgT n ++ A ++ ((if pt = true then 46 :: B else []) ++ exL el m E)).length = _
  unfold mtx
  simp only [List.append_assoc]

theorem made_ab (P A B tail : List Int) (n m : Int) (pt : Bool) (el : Option Int) (E : Nat) (hA : ∀ x ∈ A, dg x = true) (hB : ∀ x ∈ B, dg x = true) (hne : A.length + (if pt = true then B.length else 0) ≠ 0)
    (hel : ∀ c, el = some c → c = 101 ∨ c = 69) (ht : TailOk tail) : (lit (P ++ mtx n A B pt el m E ++ tail) P.length).ah.length + (lit (P ++ mtx n A B pt el m E ++ tail) P.length).bh.length ≤ A.length + B.length := by
  have e : P ++ mtx n A B pt el m E ++ tail = P ++ sgT n ++ A ++ ((if pt = true then 46 :: B else []) ++ (exL el m E ++ tail)) := by unfold mtx; simp only [List.append_assoc]
  obtain ⟨h1, h2⟩ := made_lit P A B tail n m pt el E hA hB hne hel ht
  rw [e, h2]
  show A.length + (if pt = true then B else []).length ≤ _
  split <;> simp

theorem mtx_len (n : Int) (A B : List Int) (pt : Bool) (el : Option Int) (m : Int) (E : Nat) (hd : (dl E).length ≤ 20) : (mtx n A B pt el m E).length ≤ A.length + B.length + 30 := by
  have h1 : ∀ k : Int, (sgT k).length ≤ 1 := fun k => by unfold sgT; split; (simp); split <;> simp
  have h2 : (exL el m E).length ≤ 22 := by
    have := h1 m
    cases el with
    | none => simp [exL]
    | some c => simp [exL]; omega
  have h3 : (if pt = true then 46 :: B else [] : List Int).length ≤ B.length + 1 := by split <;> simp
  have := h1 n
  unfold mtx
  simp only [List.length_append]
  omega

theorem made_num (P A B tail : List Int) (n m : Int) (pt : Bool) (el : Option Int) (E : Nat) (hP : ∀ x ∈ P, bl x = true) (hA : ∀ x ∈ A, dg x = true) (hB : ∀ x ∈ B, dg x = true) (hne : A.length + (if pt = true then B.length else 0) ≠ 0)
    (hel : ∀ c, el = some c → c = 101 ∨ c = 69) (ht : TailOk tail) :
    num (P ++ mtx n A B pt el m E ++ tail) = (nrm (decide (n = 2)) (A ++ (if pt = true then B else [])) (exS el m E - ((if pt = true then B else []).length : Int)), (P ++ mtx n A B pt el m E).length) := by
  obtain ⟨h1, h2, h3⟩ := made_at P A B tail n m pt el E hA hB hne hel ht
  unfold num
  rw [made_run P A B tail n m pt el E hP hA hne, if_pos h1, h2, h3]

theorem made_whl (P A B tail : List Int) (n m : Int) (pt : Bool) (el : Option Int) (E : Nat) (hP : ∀ x ∈ P, bl x = true) (hA : ∀ x ∈ A, dg x = true) (hB : ∀ x ∈ B, dg x = true) (hne : A.length + (if pt = true then B.length else 0) ≠ 0)
    (hel : ∀ c, el = some c → c = 101 ∨ c = 69) (ht : TailOk tail) (hb : ∀ x ∈ tail, bl x = true) :
    whl (P ++ mtx n A B pt el m E ++ tail) = (nrm (decide (n = 2)) (A ++ (if pt = true then B else [])) (exS el m E - ((if pt = true then B else []).length : Int)), true) := by
  obtain ⟨h1, h2, h3⟩ := made_at P A B tail n m pt el E hA hB hne hel ht
  have r : run bl (P ++ mtx n A B pt el m E ++ tail) (P ++ mtx n A B pt el m E).length = tail.length := by
    have := run_app bl0 (as' := P ++ mtx n A B pt el m E) (bs := tail) (cs := []) hb rfl
    rw [List.append_nil] at this
    exact this
  unfold whl
  rw [made_run P A B tail n m pt el E hP hA hne, if_pos ⟨h1, by rw [h3, r]; exact List.length_append.symm⟩, h2]

/-- A row of blanks may follow. -/
theorem TailOk.blanks {P : List Int} (h : ∀ x ∈ P, bl x = true) : TailOk P := by
  cases P with
  | nil => exact ⟨rfl, by decide, rfl, by decide, by decide⟩
  | cons x l =>
    have hx : bl x = true := h x (by simp)
    have : x = 32 ∨ (9 ≤ x ∧ x ≤ 13) := by simpa [bl] using hx
    refine ⟨?_, ?_, ?_, ?_, ?_⟩
    · show dg x = false; rw [dg_not]; omega
    · show x ≠ 46; omega
    · show isE x = false; simp [isE]; omega
    · show x ≠ 43; omega
    · show x ≠ 45; omega

/-- What built hands to Norm is a Dec. -/
theorem made_dec (A F : List Int) (e : Int) (hA : ∀ x ∈ A, dg x = true) (hF : ∀ x ∈ F, dg x = true) (h0 : A.length + F.length ≠ 0) (hl : A.length + F.length ≤ 281474976710655) (e0 : -1000000000000000 ≤ e) (e1 : e ≤ 1000000000000000) : IsDec (A ++ F) (e - (F.length : Int)) := by
  refine ⟨fun c => h0 (by rw [← List.length_append, c]; rfl), by omega, by omega, fun x hx => ?_, fun _ => ?_⟩
  · rcases List.mem_append.1 hx with h | h
    · exact hA x h
    · exact hF x h
  · have := tz_le (A ++ F)
    rw [List.length_append] at this
    omega
end Sc
end Go.Proofs.YtaoaniigbooihaaGreatDoor
