/-
  abacuslaw18: ahead, RelateTexts.
-/
import Derived.Test.YthpecfncndclfaaGreatDoorReTot
import Derived.Deep.LoopGhost
namespace Go.Proofs.YthpecfncndclfaaGreatDoor
open Go Go.RowKit Go.Deep Go.Shelf

namespace Re
theorem lex_cons (x y : Int) (a b : List Int) : Sc.lex (x :: a) (y :: b) = if x < y then -1 else if y < x then 1 else Sc.lex a b := rfl
theorem drop_at {xs : List Int} {i : Nat} (h : i < xs.length) : xs.drop i = xs.getD i 0 :: xs.drop (i + 1) := by
  rw [List.drop_eq_getElem_cons h, List.getD_eq_getElem?_getD, List.getElem?_eq_getElem h]
  rfl
end Re

set_option maxRecDepth 100000 in
set_option maxHeartbeats 4000000 in
theorem lahead_any (s t : ByteArray) (w : World) (hs : s.size ≤ 140737488355328) (htz : t.size ≤ 140737488355328) :
    Calls Tryz.prog 15 #[.string s, .string t] w fun e w' => e = .returned (.bool (decide (Sc.lex (Re.bl s) (Re.bl t) = -1))) ∧ Below w.heap.size w w' := by
  have SS := Str.self s
  have ST := Str.self t
  have zs := SS.size
  have zt := ST.size
  change s.size = (Re.bl s).length at zs
  change t.size = (Re.bl t).length at zt
  have AS := hid (fun (j : Nat) => SS.at j)
  have AT := hid (fun (j : Nat) => ST.at j)
  have BS := hid (fun (j : Nat) => SS.atb j)
  have BT := hid (fun (j : Nat) => ST.atb j)
  change Hid (∀ j (h : j < s.size), ((s[j]'h).toNat : Int) = (Re.bl s).getD j 0) at AS
  change Hid (∀ j (h : j < t.size), ((t[j]'h).toNat : Int) = (Re.bl t).getD j 0) at AT
  change Hid (∀ j, 0 ≤ (Re.bl s).getD j 0 ∧ (Re.bl s).getD j 0 < 256) at BS
  change Hid (∀ j, 0 ≤ (Re.bl t).getD j 0 ∧ (Re.bl t).getD j 0 < 256) at BT
  generalize Re.bl s = xs at *
  generalize Re.bl t = ys at *
  have lx : (xs.length : Int) ≤ 140737488355328 := by omega
  have ly : (ys.length : Int) ≤ 140737488355328 := by omega
  have HX := hid hs
  have HY := hid htz
  clear SS ST hs htz
  go_enter Tryz.func15, Tryz.ntmps15
  go_wp2_with fail
  go_loopg [5] ys.length (fun m iv wr => ∃ i : Nat, i + m = ys.length ∧ i ≤ xs.length ∧ iv = .int .i64 (i : Int) ∧ Hid (Sc.lex xs ys = Sc.lex (xs.drop i) (ys.drop i) ∧ Below w.heap.size w wr))
  case atStart => exact ⟨0, by omega, by omega, rfl, rfl, Below.refl _ _⟩
  case round =>
    obtain ⟨i, hi, hix, rfl, I⟩ := hrel
    by_cases hl : i < ys.length
    · have hli : (i : Int) < (ys.length : Int) := by omega
      have dy := Re.drop_at hl
      have hy : ∀ h : i < t.size, ((t[i]'h).toNat : Int) = ys.getD i 0 := fun h => AT.out i h
      have yb := BT.out i
      generalize ys.getD i 0 = y at *
      by_cases hx : i < xs.length
      · have hxi : ¬ (xs.length : Int) ≤ (i : Int) := by omega
        have dx := Re.drop_at hx
        have hxx : ∀ h : i < s.size, ((s[i]'h).toNat : Int) = xs.getD i 0 := fun h => AS.out i h
        have xb := BS.out i
        generalize xs.getD i 0 = x at *
        have E : Hid (Sc.lex xs ys = if x < y then -1 else if y < x then 1 else Sc.lex (xs.drop (i + 1)) (ys.drop (i + 1))) := by rw [Hid, I.out.1, dx, dy, Re.lex_cons]
        have sx : i < s.size := by omega
        have sy : i < t.size := by omega
        have Q := hid (fun q => below_drewN I.out.2 q)
        rcases Int.lt_trichotomy x y with c | c | c
        · have R : Hid (decide (Sc.lex xs ys = -1) = true) := by rw [Hid, E.out, if_pos c]; decide
          clear E dx dy I
          go_wp2_with fail
          go_quiet (fail)
          go_wp2_with fail
          go_ret
          exact ⟨by rw [R.out]; rfl, Q.out _⟩
        · subst c
          have I2 : Hid (Sc.lex xs ys = Sc.lex (xs.drop (i + 1)) (ys.drop (i + 1))) := by rw [Hid, E.out, if_neg (by omega), if_neg (by omega)]
          have cc : ¬ x < x := by omega
          clear E dx dy I
          go_wp2_with fail
          go_quiet (fail)
          have B2 := hid (Q.out nq)
          generalize wr.drewN nq = wr2 at *
          go_wp2_with fail
          go_quiet (fail)
          have B3 := hid (below_drewN B2.out nq)
          generalize wr2.drewN nq = wr3 at *
          go_wp2_with fail
          go_roundg (ys.length - (i + 1))
          case measure => omega
          case rel => exact ⟨i + 1, by omega, by omega, by go_num, I2.out, B3.out⟩
        · have R : Hid (decide (Sc.lex xs ys = -1) = false) := by rw [Hid, E.out, if_neg (by omega), if_pos c]; decide
          have cc : ¬ x < y := by omega
          clear E dx dy I
          go_wp2_with fail
          go_quiet (fail)
          have B2 := hid (Q.out nq)
          generalize wr.drewN nq = wr2 at *
          go_wp2_with fail
          go_quiet (fail)
          go_wp2_with fail
          go_ret
          exact ⟨by rw [R.out]; rfl, below_drewN B2.out _⟩
      · have hxi : (xs.length : Int) ≤ (i : Int) := by omega
        have R : Hid (decide (Sc.lex xs ys = -1) = true) := by
          rw [Hid, I.out.1, dy, List.drop_of_length_le (by omega)]
          rfl
        have Q := hid (fun q => below_drewN I.out.2 q)
        clear dy I
        go_wp2_with fail
        go_quiet (fail)
        go_wp2_with fail
        go_ret
        exact ⟨by rw [R.out]; rfl, Q.out _⟩
    · have hli : ¬ (i : Int) < (ys.length : Int) := by omega
      have R : Hid (decide (Sc.lex xs ys = -1) = false) := by
        rw [Hid, I.out.1, List.drop_of_length_le (l := ys) (by omega)]
        cases xs.drop i <;> rfl
      have B := hid I.out.2
      clear I
      go_wp2_with fail
      go_ret
      exact ⟨by rw [R.out]; rfl, B.out⟩
set_option maxRecDepth 100000 in
set_option maxHeartbeats 4000000 in
/-- RelateTexts: P18.1, P18.2. -/
theorem rtexts_law (a b c : ByteArray) (d : Int) (w : World) (ht : Tab10 w) (ha : a.size ≤ 140737488355328) (hb : b.size ≤ 140737488355328) (d0 : 0 ≤ d) (d1 : d < 18446744073709551616) :
    Calls Tryz.prog 5 #[.string a, .string b, .string c, .int .u64 d] w fun e w' => e = .returned (.bool true) ∧ Below w.heap.size w w' := by
  have AW := hid (rawake_any w ht)
  have HAB := hid (fun W => lahead_any a b W ha hb)
  have HBA := hid (fun W => lahead_any b a W hb ha)
  have SA := hid (fun W => rstr_any a W)
  have SB := hid (fun W => rstr_any b W)
  have ND := hid (fun W => rnum_any d W)
  have CP : Hid (∀ W, Calls Tryz.prog 11 #[.agg #[.int .i64 2, .int .u64 0, .string a], .agg #[.int .i64 2, .int .u64 0, .string b], .string c] W fun e w' => e = .returned (.tuple #[.int .i64 (Sc.lex (Re.bl a) (Re.bl b)), .int .i64 0]) ∧ Below W.heap.size W w') := fun W => compareS_any 2 0 a 2 0 b c a b W (.inl rfl) (fun W _ => rwritten_text 2 0 a c W (.inl rfl)) (fun W _ => rwritten_text 2 0 b c W (.inl rfl))
  have OAB : Hid (∀ W, Calls Tryz.prog 17 #[.agg #[.int .i64 2, .int .u64 0, .string a], .agg #[.int .i64 2, .int .u64 0, .string b]] W fun e w' => e = .returned (.int .i64 (Sc.lex (Re.bl a) (Re.bl b))) ∧ Below W.heap.size W w') := fun W => order_any 2 0 a 2 0 b W (by omega) (by omega) (by omega) (by omega)
  have ODA : Hid (∀ W, Calls Tryz.prog 17 #[.agg #[.int .i64 1, .int .u64 d, .string ⟨#[]⟩], .agg #[.int .i64 2, .int .u64 0, .string a]] W fun e w' => e = .returned (.int .i64 (-1)) ∧ Below W.heap.size W w') := fun W => order_any 1 d ⟨#[]⟩ 2 0 a W d0 d1 (by omega) (by omega)
  have OAZ : Hid (∀ W, Calls Tryz.prog 17 #[.agg #[.int .i64 2, .int .u64 0, .string a], .agg #[.int .i64 0, .int .u64 0, .string ⟨#[]⟩]] W fun e w' => e = .returned (.int .i64 1) ∧ Below W.heap.size W w') := fun W => order_any 2 0 a 0 0 ⟨#[]⟩ W (by omega) (by omega) (by omega) (by omega)
  rw [Sc.lex_anti (Re.bl a) (Re.bl b)] at HBA
  have hx := Sc.lex_b (Re.bl a) (Re.bl b)
  generalize Sc.lex (Re.bl a) (Re.bl b) = X at *
  clear ht ha hb d0 d1
  rcases hx with rfl | rfl | rfl
  · go_enter Tryz.func5, Tryz.ntmps5
    go_wp2_with fail
    refine AW.out.mono ?_
    rintro e w1 ⟨rfl, b1⟩
    have B1 := hid (b1)
    clear b1
    go_wp2_with fail
    refine (HAB.out _).mono ?_
    rintro e w2 ⟨rfl, b2⟩
    have B2 := hid (below_on B1.out b2)
    clear b2 B1
    go_wp2_with fail
    refine (SA.out _).mono ?_
    rintro e w3 ⟨rfl, b3⟩
    have B3 := hid (below_on B2.out b3)
    clear b3 B2
    go_wp2_with fail
    refine (SB.out _).mono ?_
    rintro e w4 ⟨rfl, b4⟩
    have B4 := hid (below_on B3.out b4)
    clear b4 B3
    go_wp2_with fail
    refine (CP.out _).mono ?_
    rintro e w5 ⟨rfl, b5⟩
    have B5 := hid (below_on B4.out b5)
    clear b5 B4
    go_wp2_with fail
    refine (SA.out _).mono ?_
    rintro e w6 ⟨rfl, b6⟩
    have B6 := hid (below_on B5.out b6)
    clear b6 B5
    go_wp2_with fail
    refine (SB.out _).mono ?_
    rintro e w7 ⟨rfl, b7⟩
    have B7 := hid (below_on B6.out b7)
    clear b7 B6
    go_wp2_with fail
    refine (OAB.out _).mono ?_
    rintro e w8 ⟨rfl, b8⟩
    have B8 := hid (below_on B7.out b8)
    clear b8 B7
    go_wp2_with fail
    refine (ND.out _).mono ?_
    rintro e w9 ⟨rfl, b9⟩
    have B9 := hid (below_on B8.out b9)
    clear b9 B8
    go_wp2_with fail
    refine (SA.out _).mono ?_
    rintro e w10 ⟨rfl, b10⟩
    have B10 := hid (below_on B9.out b10)
    clear b10 B9
    go_wp2_with fail
    refine (ODA.out _).mono ?_
    rintro e w11 ⟨rfl, b11⟩
    have B11 := hid (below_on B10.out b11)
    clear b11 B10
    go_wp2_with fail
    refine (SA.out _).mono ?_
    rintro e w12 ⟨rfl, b12⟩
    have B12 := hid (below_on B11.out b12)
    clear b12 B11
    go_wp2_with fail
    refine (OAZ.out _).mono ?_
    rintro e w13 ⟨rfl, b13⟩
    have B13 := hid (below_on B12.out b13)
    clear b13 B12
    go_wp2_with fail
    go_ret
    exact ⟨rfl, B13.out⟩
  · go_enter Tryz.func5, Tryz.ntmps5
    go_wp2_with fail
    refine AW.out.mono ?_
    rintro e w1 ⟨rfl, b1⟩
    have B1 := hid (b1)
    clear b1
    go_wp2_with fail
    refine (HAB.out _).mono ?_
    rintro e w2 ⟨rfl, b2⟩
    have B2 := hid (below_on B1.out b2)
    clear b2 B1
    go_wp2_with fail
    refine (HBA.out _).mono ?_
    rintro e w3 ⟨rfl, b3⟩
    have B3 := hid (below_on B2.out b3)
    clear b3 B2
    go_wp2_with fail
    refine (SA.out _).mono ?_
    rintro e w4 ⟨rfl, b4⟩
    have B4 := hid (below_on B3.out b4)
    clear b4 B3
    go_wp2_with fail
    refine (SB.out _).mono ?_
    rintro e w5 ⟨rfl, b5⟩
    have B5 := hid (below_on B4.out b5)
    clear b5 B4
    go_wp2_with fail
    refine (CP.out _).mono ?_
    rintro e w6 ⟨rfl, b6⟩
    have B6 := hid (below_on B5.out b6)
    clear b6 B5
    go_wp2_with fail
    refine (SA.out _).mono ?_
    rintro e w7 ⟨rfl, b7⟩
    have B7 := hid (below_on B6.out b7)
    clear b7 B6
    go_wp2_with fail
    refine (SB.out _).mono ?_
    rintro e w8 ⟨rfl, b8⟩
    have B8 := hid (below_on B7.out b8)
    clear b8 B7
    go_wp2_with fail
    refine (OAB.out _).mono ?_
    rintro e w9 ⟨rfl, b9⟩
    have B9 := hid (below_on B8.out b9)
    clear b9 B8
    go_wp2_with fail
    refine (ND.out _).mono ?_
    rintro e w10 ⟨rfl, b10⟩
    have B10 := hid (below_on B9.out b10)
    clear b10 B9
    go_wp2_with fail
    refine (SA.out _).mono ?_
    rintro e w11 ⟨rfl, b11⟩
    have B11 := hid (below_on B10.out b11)
    clear b11 B10
    go_wp2_with fail
    refine (ODA.out _).mono ?_
    rintro e w12 ⟨rfl, b12⟩
    have B12 := hid (below_on B11.out b12)
    clear b12 B11
    go_wp2_with fail
    refine (SA.out _).mono ?_
    rintro e w13 ⟨rfl, b13⟩
    have B13 := hid (below_on B12.out b13)
    clear b13 B12
    go_wp2_with fail
    refine (OAZ.out _).mono ?_
    rintro e w14 ⟨rfl, b14⟩
    have B14 := hid (below_on B13.out b14)
    clear b14 B13
    go_wp2_with fail
    go_ret
    exact ⟨rfl, B14.out⟩
  · go_enter Tryz.func5, Tryz.ntmps5
    go_wp2_with fail
    refine AW.out.mono ?_
    rintro e w1 ⟨rfl, b1⟩
    have B1 := hid (b1)
    clear b1
    go_wp2_with fail
    refine (HAB.out _).mono ?_
    rintro e w2 ⟨rfl, b2⟩
    have B2 := hid (below_on B1.out b2)
    clear b2 B1
    go_wp2_with fail
    refine (HBA.out _).mono ?_
    rintro e w3 ⟨rfl, b3⟩
    have B3 := hid (below_on B2.out b3)
    clear b3 B2
    go_wp2_with fail
    refine (SA.out _).mono ?_
    rintro e w4 ⟨rfl, b4⟩
    have B4 := hid (below_on B3.out b4)
    clear b4 B3
    go_wp2_with fail
    refine (SB.out _).mono ?_
    rintro e w5 ⟨rfl, b5⟩
    have B5 := hid (below_on B4.out b5)
    clear b5 B4
    go_wp2_with fail
    refine (CP.out _).mono ?_
    rintro e w6 ⟨rfl, b6⟩
    have B6 := hid (below_on B5.out b6)
    clear b6 B5
    go_wp2_with fail
    refine (SA.out _).mono ?_
    rintro e w7 ⟨rfl, b7⟩
    have B7 := hid (below_on B6.out b7)
    clear b7 B6
    go_wp2_with fail
    refine (SB.out _).mono ?_
    rintro e w8 ⟨rfl, b8⟩
    have B8 := hid (below_on B7.out b8)
    clear b8 B7
    go_wp2_with fail
    refine (OAB.out _).mono ?_
    rintro e w9 ⟨rfl, b9⟩
    have B9 := hid (below_on B8.out b9)
    clear b9 B8
    go_wp2_with fail
    refine (ND.out _).mono ?_
    rintro e w10 ⟨rfl, b10⟩
    have B10 := hid (below_on B9.out b10)
    clear b10 B9
    go_wp2_with fail
    refine (SA.out _).mono ?_
    rintro e w11 ⟨rfl, b11⟩
    have B11 := hid (below_on B10.out b11)
    clear b11 B10
    go_wp2_with fail
    refine (ODA.out _).mono ?_
    rintro e w12 ⟨rfl, b12⟩
    have B12 := hid (below_on B11.out b12)
    clear b12 B11
    go_wp2_with fail
    refine (SA.out _).mono ?_
    rintro e w13 ⟨rfl, b13⟩
    have B13 := hid (below_on B12.out b13)
    clear b13 B12
    go_wp2_with fail
    refine (OAZ.out _).mono ?_
    rintro e w14 ⟨rfl, b14⟩
    have B14 := hid (below_on B13.out b14)
    clear b14 B13
    go_wp2_with fail
    go_ret
    exact ⟨rfl, B14.out⟩
end Go.Proofs.YthpecfncndclfaaGreatDoor
