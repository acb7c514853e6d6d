/-
  abacusref14: Has, Raw, among, Bad, Pad (mkjref.py).
-/
import Derived.Test.YtbldddagddmbgaaJPad
import Derived.Test.YtbldddagddmbgaaJRun
import Derived.Laws.Concat
namespace Go.Proofs.Ytbldddagddmbgaa
open Go Go.RowKit Go.Deep Go.Shelf

set_option maxRecDepth 100000 in
theorem rhas_any (F k : Int) (w : World) (h0 : 0 ≤ F) (h1 : F ≤ 31) (hk : k = 1 ∨ k = 2 ∨ k = 4 ∨ k = 8 ∨ k = 16) :
    Calls Try.prog 25 #[.int .i64 F, .int .i64 k] w fun e w' => e = .returned (.bool (Wh.bit F k)) ∧ w' = w := by
  have e1 : F.tdiv k = F / k := by rw [Int.tdiv_eq_ediv_of_nonneg h0]
  have e2 : (F / k).tmod 2 = F / k % 2 := by rw [Int.tmod_eq_emod_of_nonneg (Int.ediv_nonneg h0 (by omega))]
  have b1 : 0 ≤ F / k := Int.ediv_nonneg h0 (by omega)
  have b2 : F / k ≤ 31 := by rcases hk with rfl | rfl | rfl | rfl | rfl <;> omega
  have E : (F / k % 2 == 1) = Wh.bit F k := by
    unfold Wh.bit
    by_cases h : F / k % 2 = 1
    · rw [decide_eq_true h]; simpa using h
    · rw [decide_eq_false h]; simpa using h
  have k0 : k ≠ 0 := by omega
  have k1 : k ≠ -1 := by omega
  have kb : 1 ≤ k := by omega
  have kc : k ≤ 16 := by omega
  clear hk
  go_enter Try.func25, Try.ntmps25
  go_wp2_with fail
  go_ret
  exact ⟨by rw [← E]; rfl, rfl⟩

set_option maxRecDepth 100000 in
theorem raw_any (V F W P : Int) (w : World) :
    Calls Try.prog 24 #[.agg #[.int .u8 V, .int .i64 F, .int .i64 W, .int .i64 P]] w fun e w' => e = .returned (.int .i64 (Wh.chk F W P)) ∧ Below w.heap.size w w' := by
  have B := hid (SB.new w V F W P)
  obtain ⟨c0, c1, c2, c3⟩ := B.out.flat
  by_cases h : F < 0 ∨ 31 < F ∨ W < 0 ∨ P < -1
  · rw [show Wh.chk F W P = 1 from if_pos h]
    by_cases h1 : F < 0
    · clear h
      go_enter Try.func24, Try.ntmps24
      go_wp2_with fail
      go_ret
      exact ⟨rfl, B.out.bel⟩
    · by_cases h2 : 31 < F
      · clear h
        go_enter Try.func24, Try.ntmps24
        go_wp2_with fail
        go_ret
        exact ⟨rfl, B.out.bel⟩
      · by_cases h3 : W < 0
        · clear h
          go_enter Try.func24, Try.ntmps24
          go_wp2_with fail
          go_ret
          exact ⟨rfl, B.out.bel⟩
        · have h4 : P < -1 := by omega
          clear h
          go_enter Try.func24, Try.ntmps24
          go_wp2_with fail
          go_ret
          exact ⟨rfl, B.out.bel⟩
  · have h1 : ¬ F < 0 := by omega
    have h2 : ¬ 31 < F := by omega
    have h3 : ¬ W < 0 := by omega
    have h4 : ¬ P < -1 := by omega
    by_cases k : 4096 < W ∨ 4096 < P
    · rw [show Wh.chk F W P = 6 by rw [Wh.chk, if_neg h, if_pos k]]
      by_cases k1 : 4096 < W
      · clear h k
        go_enter Try.func24, Try.ntmps24
        go_wp2_with fail
        go_ret
        exact ⟨rfl, B.out.bel⟩
      · have k2 : 4096 < P := by omega
        clear h k
        go_enter Try.func24, Try.ntmps24
        go_wp2_with fail
        go_ret
        exact ⟨rfl, B.out.bel⟩
    · rw [show Wh.chk F W P = 0 by rw [Wh.chk, if_neg h, if_neg k]]
      have k1 : ¬ 4096 < W := by omega
      have k2 : ¬ 4096 < P := by omega
      clear h k
      go_enter Try.func24, Try.ntmps24
      go_wp2_with fail
      go_ret
      exact ⟨rfl, B.out.bel⟩

set_option maxRecDepth 100000 in
set_option maxHeartbeats 1000000 in
theorem among_any (c : Int) (xs : List Int) (w : World) (hx : Wh.By xs) (hl : xs.length ≤ 100) :
    Calls Try.prog 32 #[.int .u8 c, .string (strOfNums xs)] w fun e w' => e = .returned (.bool (decide (c ∈ xs))) ∧ Below w.heap.size w w' := by
  have sx : (strOfNums xs).size = xs.length := strOfNums_size xs
  have l2 : (xs.length : Int) ≤ 100 := by omega
  have IX : ∀ (j : Nat) h, (((strOfNums xs)[j]'h).toNat : Int) = xs.getD j 0 := fun j h => (Str.of_nums hx).at j h
  have B := hid (Below.refl w.heap.size w)
  go_enter Try.func32, Try.ntmps32
  go_wp2_with fail
  go_loopg [5] xs.length (fun m i wr => ∃ j : Nat, j + m = xs.length ∧ i = .int .i64 (j : Int) ∧ Hid (Below w.heap.size w wr ∧ ∀ k, k < j → xs.getD k 0 ≠ c))
  case atStart => exact ⟨0, by omega, rfl, B.out, fun k hk => by omega⟩
  case round =>
    obtain ⟨j, hj, rfl, I⟩ := hrel
    by_cases jl : j < xs.length
    · have jli : (j : Int) < (xs.length : Int) := by omega
      have IXJ := IX j
      clear IX
      by_cases h : xs.getD j 0 = c
      · have e : decide (c ∈ xs) = true := decide_eq_true (by
          rw [← h, List.getD_eq_getElem?_getD, List.getElem?_eq_getElem jl]
          exact List.getElem_mem jl)
        rw [h] at IXJ
        have I1 := hid I.out.1
        clear I h
        go_wp2_with fail
        go_ret
        exact ⟨by first | rfl | (rw [e]; rfl), I1.out⟩
      · have F : Hid (Below w.heap.size w wr ∧ ∀ k, k < j + 1 → xs.getD k 0 ≠ c) := ⟨I.out.1, fun k hk => by
          rcases Nat.lt_or_ge k j with q | q
          · exact I.out.2 k q
          · rw [show k = j by omega]; exact h⟩
        have h2 : (xs.getD j 0 == c) = false := by simpa using h
        clear I h
        generalize xs.getD j 0 = x at *
        go_wp2_with fail
        go_roundg (xs.length - (j + 1))
        case measure => omega
        case rel => exact ⟨j + 1, by omega, by go_num, F.out⟩
    · have jli : ¬ (j : Int) < (xs.length : Int) := by omega
      have e : decide (c ∈ xs) = false := decide_eq_false (fun q => by
        obtain ⟨k, hk, rfl⟩ := List.getElem_of_mem q
        have := I.out.2 k (by omega)
        rw [List.getD_eq_getElem?_getD, List.getElem?_eq_getElem hk] at this
        exact this rfl)
      have I1 := hid I.out.1
      clear I IX
      go_wp2_with fail
      go_ret
      exact ⟨by first | rfl | (rw [e]; rfl), I1.out⟩

set_option maxRecDepth 100000 in
theorem bad_any (V F W P : Int) (xs : List Int) (w : World) (hx : Wh.By xs) (hl : xs.length ≤ 100) :
    Calls Try.prog 23 #[.agg #[.int .u8 V, .int .i64 F, .int .i64 W, .int .i64 P], .string (strOfNums xs)] w fun e w' => e = .returned (.int .i64 (if V ∈ xs then Wh.chk F W P else 140)) ∧ Below w.heap.size w w' := by
  have B := hid (SB.new w V F W P)
  obtain ⟨c0, c1, c2, c3⟩ := B.out.flat
  have AM := hid (fun W' => among_any V xs W' hx hl)
  have RA := hid (fun W' => raw_any V F W P W')
  by_cases h : V ∈ xs
  · rw [if_pos h]
    rw [decide_eq_true h] at AM
    generalize Wh.chk F W P = E at *
    clear h hx hl
    go_enter Try.func23, Try.ntmps23
    go_wp2_with fail
    with_reducible refine (AM.out _).mono ?_
    rintro e w1 ⟨rfl, b1⟩
    have B1 := hid (B.out.on b1)
    clear b1 AM B c0 c1 c2 c3
    obtain ⟨c0, c1, c2, c3⟩ := B1.out.flat
    go_wp2_with fail
    with_reducible refine (RA.out _).mono ?_
    rintro e w2 ⟨rfl, b2⟩
    have B2 := hid (B1.out.on b2)
    clear b2 RA B1 c0 c1 c2 c3
    go_wp2_with fail
    go_ret
    exact ⟨rfl, B2.out.bel⟩
  · rw [if_neg h]
    rw [decide_eq_false h] at AM
    clear h hx hl RA
    go_enter Try.func23, Try.ntmps23
    go_wp2_with fail
    with_reducible refine (AM.out _).mono ?_
    rintro e w1 ⟨rfl, b1⟩
    have B1 := hid (B.out.on b1)
    clear b1 AM B c0 c1 c2 c3
    go_wp2_with fail
    go_ret
    exact ⟨rfl, B1.out.bel⟩

theorem rstr_app {a b : List Int} (ha : Wh.By a) (hb : Wh.By b) : strOfNums a ++ strOfNums b = strOfNums (a ++ b) := by
  have k : Str (strOfNums a ++ strOfNums b) (a ++ b) := by
    have h1 := Str.of_nums ha
    have h2 := Str.of_nums hb
    unfold Str at *
    conv => rhs; rw [← h1, ← h2, ← List.map_append]
    simp
  exact str_is k

set_option maxRecDepth 100000 in
set_option maxHeartbeats 4000000 in
theorem rpad_any (V F W P : Int) (h b : List Int) (z : Bool) (w : World) (hh : Wh.By h) (hb : Wh.By b) (lh : h.length ≤ 140737488355328) (lb : b.length ≤ 140737488355328) :
    Calls Try.prog 14 #[.agg #[.int .u8 V, .int .i64 F, .int .i64 W, .int .i64 P], .string (strOfNums h), .string (strOfNums b), .bool z] w fun e w' => PadTold F W P z h b w e w' := by
  have B0 := hid (SB.new w V F W P)
  have CK := hid (fun W' => raw_any V F W P W')
  have l2 : (h.length : Int) ≤ 140737488355328 := by omega
  have l3 : (b.length : Int) ≤ 140737488355328 := by omega
  have sh : (strOfNums h).size = h.length := strOfNums_size h
  have sb : (strOfNums b).size = b.length := strOfNums_size b
  by_cases hc : Wh.chk F W P = 0
  · obtain ⟨⟨f0, f1⟩, ⟨wl, wu⟩, ⟨p0, p1⟩⟩ := Wh.chk_ok hc
    rw [hc] at CK
    by_cases hl : 16777216 < h.length + b.length
    · have hE : Wh.padE F W P h b = 3 := by rw [Wh.padE, if_pos hc, if_pos hl]
      have G : Hid (∀ w', Below w.heap.size w w' → PadTold F W P z h b w (.returned (.tuple #[.string ⟨#[]⟩, .int .i64 3])) w') := fun w' k => ⟨by rw [Wh.pad, hE, if_neg (by decide)]; rfl, k⟩
      have l1 : (16777216 : Int) < (h.length : Int) + (b.length : Int) := by omega
      clear hh hb lh lb hc hl hE f0 f1 p0 p1
      go_enter Try.func14, Try.ntmps14
      go_wp2_with fail
      with_reducible refine (CK.out _).mono ?_
      rintro e w1 ⟨rfl, b1⟩
      have B1 := hid (B0.out.on b1)
      clear b1 CK B0
      go_wp2_with fail
      go_ret2
      exact G.out _ B1.out.bel
    · have hE : Wh.padE F W P h b = 0 := by rw [Wh.padE, if_pos hc, if_neg hl]
      have hP : Wh.pad F W P z h b = Wh.padT F W z h b := by rw [Wh.pad, hE, if_pos rfl]
      have l1 : ¬ (16777216 : Int) < (h.length : Int) + (b.length : Int) := by omega
      have m1 : W - (h.length : Int) - (b.length : Int) = W - ((h.length : Int) + (b.length : Int)) := by omega
      have R1 := hid (fun W' => row_any 32 (W - ((h.length : Int) + (b.length : Int))) W' (by omega))
      have R2 := hid (fun W' => row_any 48 (W - ((h.length : Int) + (b.length : Int))) W' (by omega))
      have yr1 : Wh.By (Wh.rep 32 (W - ((h.length : Int) + (b.length : Int)))) := Wh.By.rep (by omega)
      have yr2 : Wh.By (Wh.rep 48 (W - ((h.length : Int) + (b.length : Int)))) := Wh.By.rep (by omega)
      have s1 : ((strOfNums (Wh.rep 32 (W - ((h.length : Int) + (b.length : Int))))).size : Int) ≤ 4096 := by rw [strOfNums_size, Wh.rep_len]; omega
      have s2 : ((strOfNums (Wh.rep 48 (W - ((h.length : Int) + (b.length : Int))))).size : Int) ≤ 4096 := by rw [strOfNums_size, Wh.rep_len]; omega
      have H1 := hid (fun W' => rhas_any F 1 W' f0 f1 (by omega))
      have H2 := hid (fun W' => rhas_any F 16 W' f0 f1 (by omega))
      have G : Hid (∀ T w', Wh.padT F W z h b = T → Below w.heap.size w w' → PadTold F W P z h b w (.returned (.tuple #[.string (strOfNums T), .int .i64 0])) w') := fun T w' e k => ⟨by rw [hE, hP, e], k⟩
      have n2 : (h.length : Int) ≤ 16777216 := by omega
      have n3 : (b.length : Int) ≤ 16777216 := by omega
      clear lh lb hc hl hE hP l2 l3
      cases hb1 : Wh.bit F 1 with
      | true =>
        have G1 := hid (fun w' => G.out (h ++ b ++ Wh.rep 32 (W - ((h.length : Int) + (b.length : Int)))) w' (by rw [Wh.padT, if_pos hb1, m1]))
        have A1 := rstr_app hh hb
        have A2 := rstr_app (hh.app hb) yr1
        have z1 : ((strOfNums (h ++ b)).size : Int) ≤ 33558528 := by
          rw [← A1, ByteArray.size_append]
          omega
        clear hh hb yr1 yr2 G m1 f0 f1 p0 p1
        generalize strOfNums (h ++ b ++ Wh.rep 32 (W - ((h.length : Int) + (b.length : Int)))) = TT at *
        generalize strOfNums (h ++ b) = TM at *
        generalize strOfNums (Wh.rep 32 (W - ((h.length : Int) + (b.length : Int)))) = TR at *
        generalize strOfNums h = TH at *
        generalize strOfNums b = TB at *
        go_enter Try.func14, Try.ntmps14
        go_wp2_with fail
        with_reducible refine (CK.out _).mono ?_
        rintro e w1 ⟨rfl, b1⟩
        have B1 := hid (B0.out.on b1)
        clear b1 CK B0
        obtain ⟨c0, c1, c2, c3⟩ := B1.out.flat
        go_wp2_with fail
        with_reducible refine (H1.out _).mono ?_
        rintro e w2 ⟨rfl, e2⟩
        rw [e2, hb1]
        clear e2 w2
        go_wp2_with fail
        with_reducible refine (R1.out _).mono ?_
        rintro e w4 ⟨rfl, b4⟩
        have B4 := hid (B1.out.on b4)
        clear b4 B1 R1 R2 c0 c1 c2 c3
        go_wp2_with fail
        go_ret2
        exact G1.out _ B4.out.bel
      | false =>
        cases hb2 : Wh.bit F 16 with
        | true =>
          cases z with
          | true =>
            have G1 := hid (fun w' => G.out (h ++ Wh.rep 48 (W - ((h.length : Int) + (b.length : Int))) ++ b) w' (by rw [Wh.padT, hb1, if_neg Bool.false_ne_true, if_pos ⟨hb2, rfl⟩, m1]))
            have A1 := rstr_app hh yr2
            have A2 := rstr_app (hh.app yr2) hb
            have z1 : ((strOfNums (h ++ Wh.rep 48 (W - ((h.length : Int) + (b.length : Int))))).size : Int) ≤ 33558528 := by
              rw [← A1, ByteArray.size_append]
              omega
            clear hh hb yr1 yr2 G m1 f0 f1 p0 p1
            generalize strOfNums (h ++ Wh.rep 48 (W - ((h.length : Int) + (b.length : Int))) ++ b) = TT at *
            generalize strOfNums (h ++ Wh.rep 48 (W - ((h.length : Int) + (b.length : Int)))) = TM at *
            generalize strOfNums (Wh.rep 48 (W - ((h.length : Int) + (b.length : Int)))) = TR at *
            generalize strOfNums h = TH at *
            generalize strOfNums b = TB at *
            go_enter Try.func14, Try.ntmps14
            go_wp2_with fail
            with_reducible refine (CK.out _).mono ?_
            rintro e w1 ⟨rfl, b1⟩
            have B1 := hid (B0.out.on b1)
            clear b1 CK B0
            obtain ⟨c0, c1, c2, c3⟩ := B1.out.flat
            go_wp2_with fail
            with_reducible refine (H1.out _).mono ?_
            rintro e w2 ⟨rfl, e2⟩
            rw [e2, hb1]
            clear e2 w2
            go_wp2_with fail
            with_reducible refine (H2.out _).mono ?_
            rintro e w3 ⟨rfl, e3⟩
            rw [e3, hb2]
            clear e3 w3
            go_wp2_with fail
            with_reducible refine (R2.out _).mono ?_
            rintro e w4 ⟨rfl, b4⟩
            have B4 := hid (B1.out.on b4)
            clear b4 B1 R1 R2 c0 c1 c2 c3
            go_wp2_with fail
            go_ret2
            exact G1.out _ B4.out.bel
          | false =>
            have G1 := hid (fun w' => G.out (Wh.rep 32 (W - ((h.length : Int) + (b.length : Int))) ++ h ++ b) w' (by rw [Wh.padT, hb1, if_neg Bool.false_ne_true, if_neg (fun q => Bool.false_ne_true q.2), m1]))
            have A1 := rstr_app yr1 hh
            have A2 := rstr_app (yr1.app hh) hb
            have z1 : ((strOfNums (Wh.rep 32 (W - ((h.length : Int) + (b.length : Int))) ++ h)).size : Int) ≤ 33558528 := by
              rw [← A1, ByteArray.size_append]
              omega
            clear hh hb yr1 yr2 G m1 f0 f1 p0 p1
            generalize strOfNums (Wh.rep 32 (W - ((h.length : Int) + (b.length : Int))) ++ h ++ b) = TT at *
            generalize strOfNums (Wh.rep 32 (W - ((h.length : Int) + (b.length : Int))) ++ h) = TM at *
            generalize strOfNums (Wh.rep 32 (W - ((h.length : Int) + (b.length : Int)))) = TR at *
            generalize strOfNums h = TH at *
            generalize strOfNums b = TB at *
            go_enter Try.func14, Try.ntmps14
            go_wp2_with fail
            with_reducible refine (CK.out _).mono ?_
            rintro e w1 ⟨rfl, b1⟩
            have B1 := hid (B0.out.on b1)
            clear b1 CK B0
            obtain ⟨c0, c1, c2, c3⟩ := B1.out.flat
            go_wp2_with fail
            with_reducible refine (H1.out _).mono ?_
            rintro e w2 ⟨rfl, e2⟩
            rw [e2, hb1]
            clear e2 w2
            go_wp2_with fail
            with_reducible refine (H2.out _).mono ?_
            rintro e w3 ⟨rfl, e3⟩
            rw [e3, hb2]
            clear e3 w3
            go_wp2_with fail
            with_reducible refine (R1.out _).mono ?_
            rintro e w4 ⟨rfl, b4⟩
            have B4 := hid (B1.out.on b4)
            clear b4 B1 R1 R2 c0 c1 c2 c3
            go_wp2_with fail
            go_ret2
            exact G1.out _ B4.out.bel
        | false =>
          have G1 := hid (fun w' => G.out (Wh.rep 32 (W - ((h.length : Int) + (b.length : Int))) ++ h ++ b) w' (by rw [Wh.padT, hb1, if_neg Bool.false_ne_true, hb2, if_neg (fun q => Bool.false_ne_true q.1), m1]))
          have A1 := rstr_app yr1 hh
          have A2 := rstr_app (yr1.app hh) hb
          have z1 : ((strOfNums (Wh.rep 32 (W - ((h.length : Int) + (b.length : Int))) ++ h)).size : Int) ≤ 33558528 := by
            rw [← A1, ByteArray.size_append]
            omega
          clear hh hb yr1 yr2 G m1 f0 f1 p0 p1
          generalize strOfNums (Wh.rep 32 (W - ((h.length : Int) + (b.length : Int))) ++ h ++ b) = TT at *
          generalize strOfNums (Wh.rep 32 (W - ((h.length : Int) + (b.length : Int))) ++ h) = TM at *
          generalize strOfNums (Wh.rep 32 (W - ((h.length : Int) + (b.length : Int)))) = TR at *
          generalize strOfNums h = TH at *
          generalize strOfNums b = TB at *
          go_enter Try.func14, Try.ntmps14
          go_wp2_with fail
          with_reducible refine (CK.out _).mono ?_
          rintro e w1 ⟨rfl, b1⟩
          have B1 := hid (B0.out.on b1)
          clear b1 CK B0
          obtain ⟨c0, c1, c2, c3⟩ := B1.out.flat
          go_wp2_with fail
          with_reducible refine (H1.out _).mono ?_
          rintro e w2 ⟨rfl, e2⟩
          rw [e2, hb1]
          clear e2 w2
          go_wp2_with fail
          with_reducible refine (H2.out _).mono ?_
          rintro e w3 ⟨rfl, e3⟩
          rw [e3, hb2]
          clear e3 w3
          go_wp2_with fail
          with_reducible refine (R1.out _).mono ?_
          rintro e w4 ⟨rfl, b4⟩
          have B4 := hid (B1.out.on b4)
          clear b4 B1 R1 R2 c0 c1 c2 c3
          go_wp2_with fail
          go_ret2
          exact G1.out _ B4.out.bel
  · have hE : Wh.padE F W P h b = Wh.chk F W P := by rw [Wh.padE, if_neg hc]
    have G : Hid (∀ w', Below w.heap.size w w' → PadTold F W P z h b w (.returned (.tuple #[.string ⟨#[]⟩, .int .i64 (Wh.chk F W P)])) w') := fun w' k => ⟨by rw [Wh.pad, hE, if_neg hc]; rfl, k⟩
    have hne : (Wh.chk F W P == 0) = false := by simpa using hc
    clear hh hb lh lb hc hE
    generalize Wh.chk F W P = E at *
    go_enter Try.func14, Try.ntmps14
    go_wp2_with fail
    with_reducible refine (CK.out _).mono ?_
    rintro e w1 ⟨rfl, b1⟩
    have B1 := hid (B0.out.on b1)
    clear b1 CK
    go_wp2_with fail
    go_ret2
    exact G.out _ B1.out.bel
end Go.Proofs.Ytbldddagddmbgaa
