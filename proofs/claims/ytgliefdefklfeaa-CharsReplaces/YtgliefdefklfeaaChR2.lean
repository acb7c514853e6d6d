/-
  chars: Replace.
-/
import Derived.Test.YtgliefdefklfeaaChR
namespace Go.Proofs.Ytgliefdefklfeaa
open Go Go.RowKit Go.Deep Go.Shelf

namespace Ch
theorem rz_nil (new : L8) (k : Nat) : rk [] new (k + 1) [] = new ++ rk [] new k [] := by
  simp only [rk, if_true]; rfl
theorem rz_cons (new : L8) (k : Nat) (c : UInt8) (r : L8) : rk [] new (k + 1) (c :: r) = new ++ c :: rk [] new k r := by
  simp only [rk, if_true]; rfl
theorem rk_zero (old new s : L8) : rk old new 0 s = s := by
  by_cases h : old = []
  · rw [rk, if_pos h]; rfl
  · rw [rk, if_neg h]; rfl
end Ch

set_option maxRecDepth 100000 in
theorem ctoolong_any (K N E : Nat) (w : World) (hK : K ≤ 1073741824) (hN : N ≤ 1073741825) (hE : E ≤ 140737488355328) :
    Calls Try.prog 27 #[.int .i64 (K : Int), .int .i64 (N : Int), .int .i64 (E : Int)] w fun e w' => e = .returned (.bool (decide (16777216 < K + N * E))) ∧ w' = w := by
  have hKi : (K : Int) ≤ 1073741824 := by omega
  have hNi : (N : Int) ≤ 1073741825 := by omega
  have hEi : (E : Int) ≤ 140737488355328 := by omega
  by_cases k : 16777216 < K
  · have ki : (16777216 : Int) < (K : Int) := by omega
    rw [decide_eq_true (show 16777216 < K + N * E by omega)]
    clear hK hN hE k
    go_enter Try.func27, Try.ntmps27
    go_wp2_with fail
    go_ret
    exact ⟨rfl, rfl⟩
  · have ki : ¬ (16777216 : Int) < (K : Int) := by omega
    by_cases n : 0 < N
    · have ni : (0 : Int) < (N : Int) := by omega
      have nz : ((N : Int) == 0) = false := by simp; omega
      have qe : ((16777216 : Int) - (K : Int)) / (N : Int) = (((16777216 - K) / N : Nat) : Int) := by
        rw [Int.natCast_ediv]
        congr 1
        omega
      have qd : Int.tdiv ((16777216 : Int) - (K : Int)) (N : Int) = (((16777216 - K) / N : Nat) : Int) := by rw [Int.tdiv_eq_ediv_of_nonneg (by omega), qe]
      have qb : (16777216 - K) / N ≤ 16777216 := Nat.le_trans (Nat.div_le_self _ _) (by omega)
      have A : decide (16777216 < K + N * E) = decide ((16777216 - K) / N < E) := by
        rw [decide_eq_decide, Nat.div_lt_iff_lt_mul n, Nat.mul_comm E N]
        omega
      rw [A]
      clear A hK hN hE k
      generalize (16777216 - K) / N = q at *
      have qb0 : (q : Int) ≤ 16777216 := by omega
      by_cases c : q < E
      · have ci : (q : Int) < (E : Int) := by omega
        rw [decide_eq_true c]
        go_enter Try.func27, Try.ntmps27
        go_wp2_with fail
        go_ret
        exact ⟨rfl, rfl⟩
      · have ci : ¬ (q : Int) < (E : Int) := by omega
        rw [decide_eq_false c]
        go_enter Try.func27, Try.ntmps27
        go_wp2_with fail
        go_ret
        exact ⟨rfl, rfl⟩
    · have ni : ¬ (0 : Int) < (N : Int) := by omega
      obtain rfl : N = 0 := by omega
      rw [decide_eq_false (show ¬ 16777216 < K + 0 * E by omega)]
      clear hK hN hE k n
      go_enter Try.func27, Try.ntmps27
      go_wp2_with fail
      go_ret
      exact ⟨rfl, rfl⟩

set_option maxRecDepth 100000 in
set_option maxHeartbeats 4000000 in
theorem creplace_ne (s old new : ByteArray) (most : Int) (w : World) (h : ML w) (hs : s.size ≤ 1073741824) (hn : new.size ≤ 140737488355328) (ho : old.size ≤ 140737488355328) (hO : old.size ≠ 0) (m0 : -9223372036854775808 ≤ most) (m1 : most ≤ 9223372036854775807) :
    Calls Try.prog 16 #[.string s, .string old, .string new, .int .i64 most] w (RpTold s.data.toList old.data.toList new.data.toList most w) := by
  have hsi : (s.size : Int) ≤ 1073741824 := by omega
  have hni : (new.size : Int) ≤ 140737488355328 := by omega
  have PL : Hid (Calls Try.prog 26 #[.string s, .string old] w fun e w' => e = .returned (.int .i64 (Ch.cn s.data.toList old.data.toList : Int)) ∧ w' = w) := cplaces_any s old w h (by omega)
  have MW : Hid (∀ w', Below w.heap.size w w' → ML w') := fun w' b => h.b b
  have hsl := Ch.size_len s
  have hnl := Ch.size_len new
  have hle := Ch.rn_le s.data.toList old.data.toList most
  have hcl := Ch.cn_le s.data.toList old.data.toList
  have hri := Ch.rk_int old.data.toList new.data.toList (Ch.rn s.data.toList old.data.toList most) s.data.toList hle
  have hro := Ch.cn_room old.data.toList (Ch.rn s.data.toList old.data.toList most) s.data.toList hle
  have hol := Ch.size_len old
  have hON : Hid (old.data.toList ≠ []) := fun q => hO ((Ch.emp_iff old).1 q)
  obtain ⟨o1, o2, o3⟩ := Ch.toList_ne' hO
  have hoi : (old.size : Int) ≤ 140737488355328 := by omega
  rw [hol] at hro
  have hmin : 0 ≤ most → min (Ch.cn s.data.toList old.data.toList : Int) most = (Ch.rn s.data.toList old.data.toList most : Int) := fun q => by
    rw [Ch.rn, if_neg (by omega)]
    omega
  have hmax : ¬ 0 ≤ most → (Ch.cn s.data.toList old.data.toList : Int) = (Ch.rn s.data.toList old.data.toList most : Int) := fun q => by rw [Ch.rn, if_pos (by omega)]
  have F3 : Hid (¬ (Ch.rk old.data.toList new.data.toList (Ch.rn s.data.toList old.data.toList most) s.data.toList).length ≤ 16777216 → ∀ w', Below w.heap.size w w' → RpTold s.data.toList old.data.toList new.data.toList most w (.returned (.tuple #[.string ⟨#[]⟩, .int .i64 0, .int .i64 3])) w') := fun q w' b =>
    ⟨by rw [Ch.rT, Ch.rC, Ch.rE, if_neg q, if_neg q, if_neg q]; rfl, b⟩
  have F0 : Hid ((Ch.rk old.data.toList new.data.toList (Ch.rn s.data.toList old.data.toList most) s.data.toList).length ≤ 16777216 → ∀ w', Below w.heap.size w w' → RpTold s.data.toList old.data.toList new.data.toList most w (.returned (.tuple #[.string (Ch.tx (Ch.rk old.data.toList new.data.toList (Ch.rn s.data.toList old.data.toList most) s.data.toList)), .int .i64 (Ch.rn s.data.toList old.data.toList most : Int), .int .i64 0])) w') := fun q w' b =>
    ⟨by rw [Ch.rT, Ch.rC, Ch.rE, if_pos q, if_pos q, if_pos q], b⟩
  have T0 := hid hle
  have GR : Hid (∀ n : Nat, n ≤ 16777216 → Calls Try.prog 23 #[.pointer (some ⟨w.heap.size, 0, none⟩), .int .i64 (n : Int)] (w.alloc (.cells #[.pointer none, .slice none 0 0] 46)) fun e w' => e = .returned (.tuple #[]) ∧ CB w w.heap.size [] w') := fun n hq => CB.grow (w0 := w) _ (Below.refl _ _) (by omega)
  have B0 := hid (Below.refl w.heap.size w)
  rw [hsl, hnl, hol] at hri
  rw [hsl] at hro hcl
  clear h hle
  generalize hT : Ch.rk old.data.toList new.data.toList (Ch.rn s.data.toList old.data.toList most) s.data.toList = T at *
  have HT := hid hT
  clear hT
  generalize hNN : Ch.rn s.data.toList old.data.toList most = N at *
  clear hNN
  generalize hCC : Ch.cn s.data.toList old.data.toList = C at *
  have HC := hid hCC
  clear hCC
  have hKN : ∃ K : Nat, K + N * old.size = s.size ∧ T.length = K + N * new.size := by
    refine ⟨s.size - N * old.size, by omega, ?_⟩
    have e1 : ((N * new.size : Nat) : Int) = (N : Int) * (new.size : Int) := by push_cast; rfl
    have e2 : ((N * old.size : Nat) : Int) = (N : Int) * (old.size : Int) := by push_cast; rfl
    rw [Int.mul_sub, ← e1, ← e2] at hri
    omega
  obtain ⟨K, hK1, hK2⟩ := hKN
  have hKb : K ≤ 1073741824 := by omega
  have hNb : (N : Int) ≤ 1073741825 := by omega
  have hCb : (C : Int) ≤ 1073741825 := by omega
  have TLO : Hid (∀ wx, Calls Try.prog 27 #[.int .i64 (K : Int), .int .i64 (N : Int), .int .i64 (new.size : Int)] wx fun e w' => e = .returned (.bool (decide (16777216 < K + N * new.size))) ∧ w' = wx) := fun wx => ctoolong_any K N new.size wx (by omega) (by omega) hn
  have hKi : (K : Int) ≤ 1073741824 := by omega
  have hPOi : (N : Int) * (old.size : Int) = ((N * old.size : Nat) : Int) := by push_cast; rfl
  have hsub : (s.size : Int) - ((N * old.size : Nat) : Int) = (K : Int) := by omega
  have hPOb : ((N * old.size : Nat) : Int) ≤ 1073741824 := by omega
  generalize N * old.size = PO at *
  have hPNi : (N : Int) * (new.size : Int) = ((N * new.size : Nat) : Int) := by push_cast; rfl
  have TL : Hid (T.length = T.length) := rfl
  generalize hTL : T.length = RL at *
  have HTL := hid hTL
  clear hTL TL hri hro hcl hsl hnl hs hn
  rw [← hK2] at TLO
  generalize hPN : N * new.size = PN at *
  clear hPN
  by_cases big : RL ≤ 16777216
  · have bigi : ¬ (16777216 : Int) < (RL : Int) := by omega
    have hsum : (K : Int) + (PN : Int) = (RL : Int) := by omega
    have pnb : (PN : Int) ≤ 16777216 := by omega
    clear hK1 hK2
    rw [decide_eq_false (show ¬ 16777216 < RL by omega)] at TLO
    have F := hid (F0.out big)
    have G := hid (GR.out RL big)
    have BIG := hid big
    clear F0 F3 GR big
    by_cases q : 0 ≤ most
    · have HM := hmin q
      clear hmin hmax
      go_enter Try.func16, Try.ntmps16
      go_wp2_with fail
      refine PL.out.mono ?_
      rintro e w9 ⟨rfl, hw⟩
      subst hw
      go_wp2_with fail
      refine (TLO.out _).mono ?_
      rintro e w1 ⟨rfl, hw⟩
      subst hw
      go_wp2_with fail
      refine G.out.mono ?_
      rintro e w2 ⟨rfl, hC⟩
      have S0 : Hid (RS w1 w1.heap.size old.data.toList new.data.toList T N s w2) := ⟨[], hC, by rw [HT.out]; rfl, by rw [HC.out]; exact T0.out⟩
      clear hC G PL
      go_wp2_with fail
      go_loopg [0, 43] N (fun m sv iv wr => ∃ (cur : ByteArray) (j : Nat), j + m = N ∧ sv = .string cur ∧ iv = .int .i64 (j : Int) ∧ cur.size ≤ s.size ∧ Hid (RS w1 w1.heap.size old.data.toList new.data.toList T m cur wr))
      case atStart => exact ⟨s, 0, by omega, rfl, rfl, Nat.le_refl _, S0.out⟩
      case round =>
        obtain ⟨cur, j, hj, rfl, rfl, hcs, J⟩ := hrel
        clear S0
        by_cases jl : j < N
        · have jli : (j : Int) < (N : Int) := by omega
          obtain ⟨m', hm'⟩ : ∃ m', gk = m' + 1 := ⟨gk - 1, by omega⟩
          subst hm'
          obtain ⟨acc, hCB, hac, hcn⟩ := J.out
          obtain ⟨i, h1, h2, h3, h4⟩ := Ch.rk_hit (new := new.data.toList) hON.out hcn
          rw [Ch.size_len, Ch.size_len] at h2
          have hii : (i : Int) + (old.size : Int) ≤ (cur.size : Int) := by omega
          have hib : (i : Int) ≤ (cur.size : Int) := by omega
          have hcb : (cur.size : Int) ≤ 1073741824 := by omega
          have e1 : (cur.extract 0 i).data.toList = cur.data.toList.take i := by rw [Lib.extract_data]; simp
          have e2 : (cur.extract (i + old.size) cur.size).data.toList = cur.data.toList.drop (i + old.data.toList.length) := by rw [Lib.extract_to_end, Ch.size_len]
          have e3 : (cur.extract (i + old.size) cur.size).size ≤ s.size := by rw [ByteArray.size_extract]; omega
          have IX := hid (sindex_any cur old wr (MW.out _ hCB.bel) (by omega))
          rw [h1] at IX
          rw [h4, ← List.append_assoc, ← List.append_assoc] at hac
          have hl := HTL.out
          rw [← hac, List.length_append, List.length_append, List.length_append] at hl
          have L1 : (cur.extract 0 i).size = (cur.data.toList.take i).length := by rw [← Ch.size_len, e1]
          have L2 := Ch.size_len new
          have BG := BIG.out
          have W1 := hid (hCB.write (cur.extract 0 i) (by omega))
          have W2 : Hid (∀ wx, CB w1 w1.heap.size (acc ++ (cur.extract 0 i).data.toList) wx → Calls Try.prog 24 #[.pointer (some ⟨w1.heap.size, 0, none⟩), .string new] wx fun e w' => e = .returned (.tuple #[.int .i64 new.size, .nilIface]) ∧ CB w1 w1.heap.size (acc ++ (cur.extract 0 i).data.toList ++ new.data.toList) w') := fun wx hC => hC.write new (by rw [List.length_append, e1]; omega)
          have FN : Hid (∀ wx, CB w1 w1.heap.size (acc ++ (cur.extract 0 i).data.toList ++ new.data.toList) wx → RS w1 w1.heap.size old.data.toList new.data.toList T m' (cur.extract (i + old.size) cur.size) wx) := fun wx hC => ⟨_, hC, by rw [e1, e2]; exact hac, by rw [e2]; exact h3⟩
          clear J hCB hac hcn h1 h2 h3 h4 e1 e2 hl L1 L2 BG
          go_wp2_with fail
          refine IX.out.mono ?_
          rintro e w3 ⟨rfl, hw⟩
          rw [hw]
          clear IX
          go_wp2_with fail
          refine W1.out.mono ?_
          rintro e w4 ⟨rfl, hC⟩
          have W3 := hid (W2.out _ hC)
          clear hC W1 W2
          go_wp2_with fail
          refine W3.out.mono ?_
          rintro e w5 ⟨rfl, hC⟩
          have J5 := hid (FN.out _ hC)
          clear hC W3 FN
          go_wp2_with fail
          go_roundg m'
          case measure => omega
          case rel => exact ⟨cur.extract (i + old.size) cur.size, j + 1, by omega, rfl, by go_num, e3, J5⟩
        · have jli : ¬ (j : Int) < (N : Int) := by omega
          obtain rfl : gk = 0 := by omega
          obtain ⟨acc, hCB, hac, -⟩ := J.out
          rw [Ch.rk_zero] at hac
          have hl := HTL.out
          rw [← hac, List.length_append, Ch.size_len] at hl
          have W1 := hid (hCB.write cur (by have := BIG.out; omega))
          rw [hac] at W1
          clear J hCB hac hl
          go_wp2_with fail
          refine W1.out.mono ?_
          rintro e w3 ⟨rfl, hC⟩
          have ST := hid hC.str
          clear hC W1
          go_wp2_with fail
          refine ST.out.mono ?_
          rintro e w4 ⟨rfl, hB⟩
          have FF := hid (F.out _ hB)
          clear hB ST
          generalize Ch.tx T = TX at *
          go_wp2_with fail
          go_ret3
          exact FF.out
    · have HM := hmax q
      clear hmin hmax
      go_enter Try.func16, Try.ntmps16
      go_wp2_with fail
      refine PL.out.mono ?_
      rintro e w9 ⟨rfl, hw⟩
      subst hw
      go_wp2_with fail
      refine (TLO.out _).mono ?_
      rintro e w1 ⟨rfl, hw⟩
      subst hw
      go_wp2_with fail
      refine G.out.mono ?_
      rintro e w2 ⟨rfl, hC⟩
      have S0 : Hid (RS w1 w1.heap.size old.data.toList new.data.toList T N s w2) := ⟨[], hC, by rw [HT.out]; rfl, by rw [HC.out]; exact T0.out⟩
      clear hC G PL
      go_wp2_with fail
      go_loopg [0, 43] N (fun m sv iv wr => ∃ (cur : ByteArray) (j : Nat), j + m = N ∧ sv = .string cur ∧ iv = .int .i64 (j : Int) ∧ cur.size ≤ s.size ∧ Hid (RS w1 w1.heap.size old.data.toList new.data.toList T m cur wr))
      case atStart => exact ⟨s, 0, by omega, rfl, rfl, Nat.le_refl _, S0.out⟩
      case round =>
        obtain ⟨cur, j, hj, rfl, rfl, hcs, J⟩ := hrel
        clear S0
        by_cases jl : j < N
        · have jli : (j : Int) < (N : Int) := by omega
          obtain ⟨m', hm'⟩ : ∃ m', gk = m' + 1 := ⟨gk - 1, by omega⟩
          subst hm'
          obtain ⟨acc, hCB, hac, hcn⟩ := J.out
          obtain ⟨i, h1, h2, h3, h4⟩ := Ch.rk_hit (new := new.data.toList) hON.out hcn
          rw [Ch.size_len, Ch.size_len] at h2
          have hii : (i : Int) + (old.size : Int) ≤ (cur.size : Int) := by omega
          have hib : (i : Int) ≤ (cur.size : Int) := by omega
          have hcb : (cur.size : Int) ≤ 1073741824 := by omega
          have e1 : (cur.extract 0 i).data.toList = cur.data.toList.take i := by rw [Lib.extract_data]; simp
          have e2 : (cur.extract (i + old.size) cur.size).data.toList = cur.data.toList.drop (i + old.data.toList.length) := by rw [Lib.extract_to_end, Ch.size_len]
          have e3 : (cur.extract (i + old.size) cur.size).size ≤ s.size := by rw [ByteArray.size_extract]; omega
          have IX := hid (sindex_any cur old wr (MW.out _ hCB.bel) (by omega))
          rw [h1] at IX
          rw [h4, ← List.append_assoc, ← List.append_assoc] at hac
          have hl := HTL.out
          rw [← hac, List.length_append, List.length_append, List.length_append] at hl
          have L1 : (cur.extract 0 i).size = (cur.data.toList.take i).length := by rw [← Ch.size_len, e1]
          have L2 := Ch.size_len new
          have BG := BIG.out
          have W1 := hid (hCB.write (cur.extract 0 i) (by omega))
          have W2 : Hid (∀ wx, CB w1 w1.heap.size (acc ++ (cur.extract 0 i).data.toList) wx → Calls Try.prog 24 #[.pointer (some ⟨w1.heap.size, 0, none⟩), .string new] wx fun e w' => e = .returned (.tuple #[.int .i64 new.size, .nilIface]) ∧ CB w1 w1.heap.size (acc ++ (cur.extract 0 i).data.toList ++ new.data.toList) w') := fun wx hC => hC.write new (by rw [List.length_append, e1]; omega)
          have FN : Hid (∀ wx, CB w1 w1.heap.size (acc ++ (cur.extract 0 i).data.toList ++ new.data.toList) wx → RS w1 w1.heap.size old.data.toList new.data.toList T m' (cur.extract (i + old.size) cur.size) wx) := fun wx hC => ⟨_, hC, by rw [e1, e2]; exact hac, by rw [e2]; exact h3⟩
          clear J hCB hac hcn h1 h2 h3 h4 e1 e2 hl L1 L2 BG
          go_wp2_with fail
          refine IX.out.mono ?_
          rintro e w3 ⟨rfl, hw⟩
          rw [hw]
          clear IX
          go_wp2_with fail
          refine W1.out.mono ?_
          rintro e w4 ⟨rfl, hC⟩
          have W3 := hid (W2.out _ hC)
          clear hC W1 W2
          go_wp2_with fail
          refine W3.out.mono ?_
          rintro e w5 ⟨rfl, hC⟩
          have J5 := hid (FN.out _ hC)
          clear hC W3 FN
          go_wp2_with fail
          go_roundg m'
          case measure => omega
          case rel => exact ⟨cur.extract (i + old.size) cur.size, j + 1, by omega, rfl, by go_num, e3, J5⟩
        · have jli : ¬ (j : Int) < (N : Int) := by omega
          obtain rfl : gk = 0 := by omega
          obtain ⟨acc, hCB, hac, -⟩ := J.out
          rw [Ch.rk_zero] at hac
          have hl := HTL.out
          rw [← hac, List.length_append, Ch.size_len] at hl
          have W1 := hid (hCB.write cur (by have := BIG.out; omega))
          rw [hac] at W1
          clear J hCB hac hl
          go_wp2_with fail
          refine W1.out.mono ?_
          rintro e w3 ⟨rfl, hC⟩
          have ST := hid hC.str
          clear hC W1
          go_wp2_with fail
          refine ST.out.mono ?_
          rintro e w4 ⟨rfl, hB⟩
          have FF := hid (F.out _ hB)
          clear hB ST
          generalize Ch.tx T = TX at *
          go_wp2_with fail
          go_ret3
          exact FF.out
  · have bigi : (16777216 : Int) < (RL : Int) := by omega
    rw [decide_eq_true (show 16777216 < RL by omega)] at TLO
    clear hK1 hK2
    have F := hid (F3.out big w B0.out)
    clear F0 F3 GR big
    by_cases q : 0 ≤ most
    · have HM := hmin q
      clear hmin hmax
      go_enter Try.func16, Try.ntmps16
      go_wp2_with fail
      refine PL.out.mono ?_
      rintro e w1 ⟨rfl, hw⟩
      subst hw
      go_wp2_with fail
      refine (TLO.out _).mono ?_
      rintro e w2 ⟨rfl, hw⟩
      subst hw
      go_wp2_with fail
      go_ret3
      exact F.out
    · have HM := hmax q
      clear hmin hmax
      go_enter Try.func16, Try.ntmps16
      go_wp2_with fail
      refine PL.out.mono ?_
      rintro e w1 ⟨rfl, hw⟩
      subst hw
      go_wp2_with fail
      refine (TLO.out _).mono ?_
      rintro e w2 ⟨rfl, hw⟩
      subst hw
      go_wp2_with fail
      go_ret3
      exact F.out

set_option maxRecDepth 100000 in
set_option maxHeartbeats 4000000 in
theorem creplace_e (s new : ByteArray) (most : Int) (w : World) (h : ML w) (hs : s.size ≤ 1073741824) (hn : new.size ≤ 140737488355328) (m0 : -9223372036854775808 ≤ most) (m1 : most ≤ 9223372036854775807) :
    Calls Try.prog 16 #[.string s, .string ⟨#[]⟩, .string new, .int .i64 most] w (RpTold s.data.toList [] new.data.toList most w) := by
  have hsi : (s.size : Int) ≤ 1073741824 := by omega
  have hni : (new.size : Int) ≤ 140737488355328 := by omega
  have PL : Hid (Calls Try.prog 26 #[.string s, .string ⟨#[]⟩] w fun e w' => e = .returned (.int .i64 (Ch.cn s.data.toList [] : Int)) ∧ w' = w) := cplaces_any s ⟨#[]⟩ w h (by omega)
  have MW : Hid (∀ w', Below w.heap.size w w' → ML w') := fun w' b => h.b b
  have hsl := Ch.size_len s
  have hnl := Ch.size_len new
  have hle := Ch.rn_le s.data.toList [] most
  have hcl := Ch.cn_le s.data.toList []
  have hri := Ch.rk_int [] new.data.toList (Ch.rn s.data.toList [] most) s.data.toList hle
  have hro := Ch.cn_room [] (Ch.rn s.data.toList [] most) s.data.toList hle
  have hO0 : ([] : Ch.L8).length = 0 := rfl
  have hmin : 0 ≤ most → min (Ch.cn s.data.toList [] : Int) most = (Ch.rn s.data.toList [] most : Int) := fun q => by
    rw [Ch.rn, if_neg (by omega)]
    omega
  have hmax : ¬ 0 ≤ most → (Ch.cn s.data.toList [] : Int) = (Ch.rn s.data.toList [] most : Int) := fun q => by rw [Ch.rn, if_pos (by omega)]
  have F3 : Hid (¬ (Ch.rk [] new.data.toList (Ch.rn s.data.toList [] most) s.data.toList).length ≤ 16777216 → ∀ w', Below w.heap.size w w' → RpTold s.data.toList [] new.data.toList most w (.returned (.tuple #[.string ⟨#[]⟩, .int .i64 0, .int .i64 3])) w') := fun q w' b =>
    ⟨by rw [Ch.rT, Ch.rC, Ch.rE, if_neg q, if_neg q, if_neg q]; rfl, b⟩
  have F0 : Hid ((Ch.rk [] new.data.toList (Ch.rn s.data.toList [] most) s.data.toList).length ≤ 16777216 → ∀ w', Below w.heap.size w w' → RpTold s.data.toList [] new.data.toList most w (.returned (.tuple #[.string (Ch.tx (Ch.rk [] new.data.toList (Ch.rn s.data.toList [] most) s.data.toList)), .int .i64 (Ch.rn s.data.toList [] most : Int), .int .i64 0])) w') := fun q w' b =>
    ⟨by rw [Ch.rT, Ch.rC, Ch.rE, if_pos q, if_pos q, if_pos q], b⟩
  have T0 := hid hle
  have GR : Hid (∀ n : Nat, n ≤ 16777216 → Calls Try.prog 23 #[.pointer (some ⟨w.heap.size, 0, none⟩), .int .i64 (n : Int)] (w.alloc (.cells #[.pointer none, .slice none 0 0] 46)) fun e w' => e = .returned (.tuple #[]) ∧ CB w w.heap.size [] w') := fun n hq => CB.grow (w0 := w) _ (Below.refl _ _) (by omega)
  have B0 := hid (Below.refl w.heap.size w)
  rw [hsl, hnl, hO0] at hri
  rw [hsl] at hro hcl
  clear h hle
  generalize hT : Ch.rk [] new.data.toList (Ch.rn s.data.toList [] most) s.data.toList = T at *
  have HT := hid hT
  clear hT
  generalize hNN : Ch.rn s.data.toList [] most = N at *
  clear hNN
  generalize hCC : Ch.cn s.data.toList [] = C at *
  have HC := hid hCC
  clear hCC
  have hKN : ∃ K : Nat, K + N * 0 = s.size ∧ T.length = K + N * new.size := by
    refine ⟨s.size - N * 0, by omega, ?_⟩
    have e1 : ((N * new.size : Nat) : Int) = (N : Int) * (new.size : Int) := by push_cast; rfl
    rw [Int.natCast_zero, Int.sub_zero, ← e1] at hri
    omega
  obtain ⟨K, hK1, hK2⟩ := hKN
  have hKb : K ≤ 1073741824 := by omega
  have hNb : (N : Int) ≤ 1073741825 := by omega
  have hCb : (C : Int) ≤ 1073741825 := by omega
  have TLO : Hid (∀ wx, Calls Try.prog 27 #[.int .i64 (K : Int), .int .i64 (N : Int), .int .i64 (new.size : Int)] wx fun e w' => e = .returned (.bool (decide (16777216 < K + N * new.size))) ∧ w' = wx) := fun wx => ctoolong_any K N new.size wx (by omega) (by omega) hn
  have hKi : (K : Int) ≤ 1073741824 := by omega
  obtain rfl : K = s.size := by omega
  have hPNi : (N : Int) * (new.size : Int) = ((N * new.size : Nat) : Int) := by push_cast; rfl
  have TL : Hid (T.length = T.length) := rfl
  generalize hTL : T.length = RL at *
  have HTL := hid hTL
  clear hTL TL hri hro hcl hsl hnl hs hn
  rw [← hK2] at TLO
  generalize hPN : N * new.size = PN at *
  clear hPN
  by_cases big : RL ≤ 16777216
  · have bigi : ¬ (16777216 : Int) < (RL : Int) := by omega
    have hsum : (s.size : Int) + (PN : Int) = (RL : Int) := by omega
    have pnb : (PN : Int) ≤ 16777216 := by omega
    clear hK1 hK2
    rw [decide_eq_false (show ¬ 16777216 < RL by omega)] at TLO
    have F := hid (F0.out big)
    have G := hid (GR.out RL big)
    have BIG := hid big
    clear F0 F3 GR big
    by_cases q : 0 ≤ most
    · have HM := hmin q
      clear hmin hmax
      go_enter Try.func16, Try.ntmps16
      go_wp2_with fail
      refine PL.out.mono ?_
      rintro e w9 ⟨rfl, hw⟩
      subst hw
      go_wp2_with fail
      refine (TLO.out _).mono ?_
      rintro e w1 ⟨rfl, hw⟩
      subst hw
      go_wp2_with fail
      refine G.out.mono ?_
      rintro e w2 ⟨rfl, hC⟩
      have S0 : Hid (RS w1 w1.heap.size [] new.data.toList T N s w2) := ⟨[], hC, by rw [HT.out]; rfl, by rw [HC.out]; exact T0.out⟩
      clear hC G PL
      go_wp2_with fail
      go_loopg [0, 43] N (fun m sv iv wr => ∃ (cur : ByteArray) (j : Nat), j + m = N ∧ sv = .string cur ∧ iv = .int .i64 (j : Int) ∧ cur.size ≤ s.size ∧ Hid (RS w1 w1.heap.size [] new.data.toList T m cur wr))
      case atStart => exact ⟨s, 0, by omega, rfl, rfl, Nat.le_refl _, S0.out⟩
      case round =>
        obtain ⟨cur, j, hj, rfl, rfl, hcs, J⟩ := hrel
        clear S0
        by_cases jl : j < N
        · have jli : (j : Int) < (N : Int) := by omega
          obtain ⟨m', hm'⟩ : ∃ m', gk = m' + 1 := ⟨gk - 1, by omega⟩
          subst hm'
          obtain ⟨acc, hCB, hac, hcn⟩ := J.out
          have hcb : (cur.size : Int) ≤ 1073741824 := by omega
          have IX : Hid (Calls Try.prog 17 #[.string cur, .string ⟨#[]⟩] wr fun e w' => e = .returned (.int .i64 0) ∧ w' = wr) := by
            refine (sindex_any cur ⟨#[]⟩ wr (MW.out _ hCB.bel) (by omega)).mono ?_
            rintro e w' ⟨rfl, hw⟩
            exact ⟨by rw [show (⟨#[]⟩ : ByteArray).data.toList = [] from rfl, Lib.index_empty], hw⟩
          have BG := BIG.out
          have z0 : (cur.extract 0 0) = ⟨#[]⟩ := by rw [Ch.tx_ext]; rfl
          have z1 : (cur.extract 0 cur.size) = cur := by rw [Ch.tx_ext, List.drop_zero, Nat.sub_zero, ← Ch.size_len, List.take_length, Ch.tx_self]
          have W1 := hid (hCB.write ⟨#[]⟩ (by
            have hl := HTL.out
            rw [← hac, List.length_append] at hl
            show acc.length + 0 ≤ _
            omega))
          rw [show (⟨#[]⟩ : ByteArray).data.toList = [] from rfl, List.append_nil] at W1
          by_cases c0 : cur.size = 0
          · obtain rfl := Ch.size_zero' c0
            rw [show (⟨#[]⟩ : ByteArray).data.toList = [] from rfl, Ch.rz_nil, ← List.append_assoc] at hac
            have hl := HTL.out
            rw [← hac, List.length_append, List.length_append] at hl
            have L2 := Ch.size_len new
            have W2 : Hid (∀ wx, CB w1 w1.heap.size acc wx → Calls Try.prog 24 #[.pointer (some ⟨w1.heap.size, 0, none⟩), .string new] wx fun e w' => e = .returned (.tuple #[.int .i64 new.size, .nilIface]) ∧ CB w1 w1.heap.size (acc ++ new.data.toList) w') := fun wx hC => hC.write new (by omega)
            have FN : Hid (∀ wx, CB w1 w1.heap.size (acc ++ new.data.toList) wx → RS w1 w1.heap.size [] new.data.toList T m' ⟨#[]⟩ wx) := fun wx hC => ⟨_, hC, hac, by rw [show (⟨#[]⟩ : ByteArray).data.toList = [] from rfl] at hcn ⊢; omega⟩
            clear J hCB hac hcn hl L2 BG z0 z1
            go_wp2_with fail
            refine IX.out.mono ?_
            rintro e w3 ⟨rfl, hw⟩
            rw [hw]
            clear IX
            go_wp2_with fail
            refine W1.out.mono ?_
            rintro e w4 ⟨rfl, hC⟩
            have W3 := hid (W2.out _ hC)
            clear hC W1 W2
            go_wp2_with fail
            refine W3.out.mono ?_
            rintro e w5 ⟨rfl, hC⟩
            have J5 := hid (FN.out _ hC)
            clear hC W3 FN
            go_wp2_with fail
            go_roundg m'
            case measure => omega
            case rel => exact ⟨⟨#[]⟩, j + 1, by omega, rfl, by go_num, by exact Nat.zero_le _, J5⟩
          · obtain ⟨n1, n2, n3⟩ := Ch.toList_ne' c0
            obtain ⟨c, r, hcr⟩ : ∃ c r, cur.data.toList = c :: r := by
              cases hx : cur.data.toList with
              | nil => exact absurd ((Ch.emp_iff cur).1 hx) c0
              | cons c r => exact ⟨c, r, rfl⟩
            have c1 : (1 : Int) ≤ (cur.size : Int) := by omega
            have c1' : 1 ≤ cur.size := by omega
            have CB0 : ∀ h : 0 < cur.size, ((cur[0]'h).toNat : Int) = (c.toNat : Int) := fun h => by
              have := Lib.data_getElem? cur 0 h
              rw [hcr] at this
              rw [← Option.some.inj this]
            have e2 : (cur.extract 1 cur.size).data.toList = r := by rw [Lib.extract_to_end, hcr]; rfl
            have e3 : (cur.extract 1 cur.size).size ≤ s.size := by rw [ByteArray.size_extract]; omega
            rw [hcr, Ch.rz_cons] at hac
            have hac2 : acc ++ new.data.toList ++ [c] ++ Ch.rk [] new.data.toList m' r = T := by rw [← hac]; simp
            have hl := HTL.out
            rw [← hac2, List.length_append, List.length_append, List.length_append] at hl
            have L2 := Ch.size_len new
            have lc : [c].length = 1 := rfl
            have W2 : Hid (∀ wx, CB w1 w1.heap.size acc wx → Calls Try.prog 24 #[.pointer (some ⟨w1.heap.size, 0, none⟩), .string new] wx fun e w' => e = .returned (.tuple #[.int .i64 new.size, .nilIface]) ∧ CB w1 w1.heap.size (acc ++ new.data.toList) w') := fun wx hC => hC.write new (by omega)
            have W3 : Hid (∀ wx, CB w1 w1.heap.size (acc ++ new.data.toList) wx → Calls Try.prog 28 #[.pointer (some ⟨w1.heap.size, 0, none⟩), .int .u8 (c.toNat : Int)] wx fun e w' => e = .returned .nilIface ∧ CB w1 w1.heap.size (acc ++ new.data.toList ++ [c]) w') := fun wx hC => hC.byte c (by rw [List.length_append]; omega)
            have FN : Hid (∀ wx, CB w1 w1.heap.size (acc ++ new.data.toList ++ [c]) wx → RS w1 w1.heap.size [] new.data.toList T m' (cur.extract 1 cur.size) wx) := fun wx hC => ⟨_, hC, by rw [e2]; exact hac2, by
              rw [hcr, Ch.cn, if_pos rfl] at hcn
              rw [e2, Ch.cn, if_pos rfl]
              simp at hcn
              omega⟩
            clear J hCB hac hac2 hcn hl L2 BG z0 e2 hcr lc c0
            go_wp2_with fail
            refine IX.out.mono ?_
            rintro e w3 ⟨rfl, hw⟩
            rw [hw]
            clear IX
            go_wp2_with fail
            refine W1.out.mono ?_
            rintro e w4 ⟨rfl, hC⟩
            have W4 := hid (W2.out _ hC)
            clear hC W1 W2
            go_wp2_with fail
            refine W4.out.mono ?_
            rintro e w5 ⟨rfl, hC⟩
            have W5 := hid (W3.out _ hC)
            clear hC W3 W4
            go_wp2_with fail
            refine W5.out.mono ?_
            rintro e w6 ⟨rfl, hC⟩
            have J5 := hid (FN.out _ hC)
            clear hC W5 FN
            go_wp2_with fail
            go_roundg m'
            case measure => omega
            case rel => exact ⟨cur.extract 1 cur.size, j + 1, by omega, rfl, by go_num, e3, J5⟩
        · have jli : ¬ (j : Int) < (N : Int) := by omega
          obtain rfl : gk = 0 := by omega
          obtain ⟨acc, hCB, hac, -⟩ := J.out
          rw [Ch.rk_zero] at hac
          have hl := HTL.out
          rw [← hac, List.length_append, Ch.size_len] at hl
          have W1 := hid (hCB.write cur (by have := BIG.out; omega))
          rw [hac] at W1
          clear J hCB hac hl
          go_wp2_with fail
          refine W1.out.mono ?_
          rintro e w3 ⟨rfl, hC⟩
          have ST := hid hC.str
          clear hC W1
          go_wp2_with fail
          refine ST.out.mono ?_
          rintro e w4 ⟨rfl, hB⟩
          have FF := hid (F.out _ hB)
          clear hB ST
          generalize Ch.tx T = TX at *
          go_wp2_with fail
          go_ret3
          exact FF.out
    · have HM := hmax q
      clear hmin hmax
      go_enter Try.func16, Try.ntmps16
      go_wp2_with fail
      refine PL.out.mono ?_
      rintro e w9 ⟨rfl, hw⟩
      subst hw
      go_wp2_with fail
      refine (TLO.out _).mono ?_
      rintro e w1 ⟨rfl, hw⟩
      subst hw
      go_wp2_with fail
      refine G.out.mono ?_
      rintro e w2 ⟨rfl, hC⟩
      have S0 : Hid (RS w1 w1.heap.size [] new.data.toList T N s w2) := ⟨[], hC, by rw [HT.out]; rfl, by rw [HC.out]; exact T0.out⟩
      clear hC G PL
      go_wp2_with fail
      go_loopg [0, 43] N (fun m sv iv wr => ∃ (cur : ByteArray) (j : Nat), j + m = N ∧ sv = .string cur ∧ iv = .int .i64 (j : Int) ∧ cur.size ≤ s.size ∧ Hid (RS w1 w1.heap.size [] new.data.toList T m cur wr))
      case atStart => exact ⟨s, 0, by omega, rfl, rfl, Nat.le_refl _, S0.out⟩
      case round =>
        obtain ⟨cur, j, hj, rfl, rfl, hcs, J⟩ := hrel
        clear S0
        by_cases jl : j < N
        · have jli : (j : Int) < (N : Int) := by omega
          obtain ⟨m', hm'⟩ : ∃ m', gk = m' + 1 := ⟨gk - 1, by omega⟩
          subst hm'
          obtain ⟨acc, hCB, hac, hcn⟩ := J.out
          have hcb : (cur.size : Int) ≤ 1073741824 := by omega
          have IX : Hid (Calls Try.prog 17 #[.string cur, .string ⟨#[]⟩] wr fun e w' => e = .returned (.int .i64 0) ∧ w' = wr) := by
            refine (sindex_any cur ⟨#[]⟩ wr (MW.out _ hCB.bel) (by omega)).mono ?_
            rintro e w' ⟨rfl, hw⟩
            exact ⟨by rw [show (⟨#[]⟩ : ByteArray).data.toList = [] from rfl, Lib.index_empty], hw⟩
          have BG := BIG.out
          have z0 : (cur.extract 0 0) = ⟨#[]⟩ := by rw [Ch.tx_ext]; rfl
          have z1 : (cur.extract 0 cur.size) = cur := by rw [Ch.tx_ext, List.drop_zero, Nat.sub_zero, ← Ch.size_len, List.take_length, Ch.tx_self]
          have W1 := hid (hCB.write ⟨#[]⟩ (by
            have hl := HTL.out
            rw [← hac, List.length_append] at hl
            show acc.length + 0 ≤ _
            omega))
          rw [show (⟨#[]⟩ : ByteArray).data.toList = [] from rfl, List.append_nil] at W1
          by_cases c0 : cur.size = 0
          · obtain rfl := Ch.size_zero' c0
            rw [show (⟨#[]⟩ : ByteArray).data.toList = [] from rfl, Ch.rz_nil, ← List.append_assoc] at hac
            have hl := HTL.out
            rw [← hac, List.length_append, List.length_append] at hl
            have L2 := Ch.size_len new
            have W2 : Hid (∀ wx, CB w1 w1.heap.size acc wx → Calls Try.prog 24 #[.pointer (some ⟨w1.heap.size, 0, none⟩), .string new] wx fun e w' => e = .returned (.tuple #[.int .i64 new.size, .nilIface]) ∧ CB w1 w1.heap.size (acc ++ new.data.toList) w') := fun wx hC => hC.write new (by omega)
            have FN : Hid (∀ wx, CB w1 w1.heap.size (acc ++ new.data.toList) wx → RS w1 w1.heap.size [] new.data.toList T m' ⟨#[]⟩ wx) := fun wx hC => ⟨_, hC, hac, by rw [show (⟨#[]⟩ : ByteArray).data.toList = [] from rfl] at hcn ⊢; omega⟩
            clear J hCB hac hcn hl L2 BG z0 z1
            go_wp2_with fail
            refine IX.out.mono ?_
            rintro e w3 ⟨rfl, hw⟩
            rw [hw]
            clear IX
            go_wp2_with fail
            refine W1.out.mono ?_
            rintro e w4 ⟨rfl, hC⟩
            have W3 := hid (W2.out _ hC)
            clear hC W1 W2
            go_wp2_with fail
            refine W3.out.mono ?_
            rintro e w5 ⟨rfl, hC⟩
            have J5 := hid (FN.out _ hC)
            clear hC W3 FN
            go_wp2_with fail
            go_roundg m'
            case measure => omega
            case rel => exact ⟨⟨#[]⟩, j + 1, by omega, rfl, by go_num, by exact Nat.zero_le _, J5⟩
          · obtain ⟨n1, n2, n3⟩ := Ch.toList_ne' c0
            obtain ⟨c, r, hcr⟩ : ∃ c r, cur.data.toList = c :: r := by
              cases hx : cur.data.toList with
              | nil => exact absurd ((Ch.emp_iff cur).1 hx) c0
              | cons c r => exact ⟨c, r, rfl⟩
            have c1 : (1 : Int) ≤ (cur.size : Int) := by omega
            have c1' : 1 ≤ cur.size := by omega
            have CB0 : ∀ h : 0 < cur.size, ((cur[0]'h).toNat : Int) = (c.toNat : Int) := fun h => by
              have := Lib.data_getElem? cur 0 h
              rw [hcr] at this
              rw [← Option.some.inj this]
            have e2 : (cur.extract 1 cur.size).data.toList = r := by rw [Lib.extract_to_end, hcr]; rfl
            have e3 : (cur.extract 1 cur.size).size ≤ s.size := by rw [ByteArray.size_extract]; omega
            rw [hcr, Ch.rz_cons] at hac
            have hac2 : acc ++ new.data.toList ++ [c] ++ Ch.rk [] new.data.toList m' r = T := by rw [← hac]; simp
            have hl := HTL.out
            rw [← hac2, List.length_append, List.length_append, List.length_append] at hl
            have L2 := Ch.size_len new
            have lc : [c].length = 1 := rfl
            have W2 : Hid (∀ wx, CB w1 w1.heap.size acc wx → Calls Try.prog 24 #[.pointer (some ⟨w1.heap.size, 0, none⟩), .string new] wx fun e w' => e = .returned (.tuple #[.int .i64 new.size, .nilIface]) ∧ CB w1 w1.heap.size (acc ++ new.data.toList) w') := fun wx hC => hC.write new (by omega)
            have W3 : Hid (∀ wx, CB w1 w1.heap.size (acc ++ new.data.toList) wx → Calls Try.prog 28 #[.pointer (some ⟨w1.heap.size, 0, none⟩), .int .u8 (c.toNat : Int)] wx fun e w' => e = .returned .nilIface ∧ CB w1 w1.heap.size (acc ++ new.data.toList ++ [c]) w') := fun wx hC => hC.byte c (by rw [List.length_append]; omega)
            have FN : Hid (∀ wx, CB w1 w1.heap.size (acc ++ new.data.toList ++ [c]) wx → RS w1 w1.heap.size [] new.data.toList T m' (cur.extract 1 cur.size) wx) := fun wx hC => ⟨_, hC, by rw [e2]; exact hac2, by
              rw [hcr, Ch.cn, if_pos rfl] at hcn
              rw [e2, Ch.cn, if_pos rfl]
              simp at hcn
              omega⟩
            clear J hCB hac hac2 hcn hl L2 BG z0 e2 hcr lc c0
            go_wp2_with fail
            refine IX.out.mono ?_
            rintro e w3 ⟨rfl, hw⟩
            rw [hw]
            clear IX
            go_wp2_with fail
            refine W1.out.mono ?_
            rintro e w4 ⟨rfl, hC⟩
            have W4 := hid (W2.out _ hC)
            clear hC W1 W2
            go_wp2_with fail
            refine W4.out.mono ?_
            rintro e w5 ⟨rfl, hC⟩
            have W5 := hid (W3.out _ hC)
            clear hC W3 W4
            go_wp2_with fail
            refine W5.out.mono ?_
            rintro e w6 ⟨rfl, hC⟩
            have J5 := hid (FN.out _ hC)
            clear hC W5 FN
            go_wp2_with fail
            go_roundg m'
            case measure => omega
            case rel => exact ⟨cur.extract 1 cur.size, j + 1, by omega, rfl, by go_num, e3, J5⟩
        · have jli : ¬ (j : Int) < (N : Int) := by omega
          obtain rfl : gk = 0 := by omega
          obtain ⟨acc, hCB, hac, -⟩ := J.out
          rw [Ch.rk_zero] at hac
          have hl := HTL.out
          rw [← hac, List.length_append, Ch.size_len] at hl
          have W1 := hid (hCB.write cur (by have := BIG.out; omega))
          rw [hac] at W1
          clear J hCB hac hl
          go_wp2_with fail
          refine W1.out.mono ?_
          rintro e w3 ⟨rfl, hC⟩
          have ST := hid hC.str
          clear hC W1
          go_wp2_with fail
          refine ST.out.mono ?_
          rintro e w4 ⟨rfl, hB⟩
          have FF := hid (F.out _ hB)
          clear hB ST
          generalize Ch.tx T = TX at *
          go_wp2_with fail
          go_ret3
          exact FF.out
  · have bigi : (16777216 : Int) < (RL : Int) := by omega
    rw [decide_eq_true (show 16777216 < RL by omega)] at TLO
    clear hK1 hK2
    have F := hid (F3.out big w B0.out)
    clear F0 F3 GR big
    by_cases q : 0 ≤ most
    · have HM := hmin q
      clear hmin hmax
      go_enter Try.func16, Try.ntmps16
      go_wp2_with fail
      refine PL.out.mono ?_
      rintro e w1 ⟨rfl, hw⟩
      subst hw
      go_wp2_with fail
      refine (TLO.out _).mono ?_
      rintro e w2 ⟨rfl, hw⟩
      subst hw
      go_wp2_with fail
      go_ret3
      exact F.out
    · have HM := hmax q
      clear hmin hmax
      go_enter Try.func16, Try.ntmps16
      go_wp2_with fail
      refine PL.out.mono ?_
      rintro e w1 ⟨rfl, hw⟩
      subst hw
      go_wp2_with fail
      refine (TLO.out _).mono ?_
      rintro e w2 ⟨rfl, hw⟩
      subst hw
      go_wp2_with fail
      go_ret3
      exact F.out

theorem creplace_gen (s old new : ByteArray) (most : Int) (w : World) (h : ML w) (hs : s.size ≤ 1073741824) (hn : new.size ≤ 140737488355328) (ho : old.size ≤ 140737488355328) (_hmn : Ch.rn s.data.toList old.data.toList most * new.size ≤ 16777217 * 137438953472) (m0 : -9223372036854775808 ≤ most) (m1 : most ≤ 9223372036854775807) :
    Calls Try.prog 16 #[.string s, .string old, .string new, .int .i64 most] w (RpTold s.data.toList old.data.toList new.data.toList most w) := by
  by_cases h0 : old.size = 0
  · obtain rfl := Ch.size_zero' h0
    exact creplace_e s new most w h hs hn m0 m1
  · exact creplace_ne s old new most w h hs hn ho h0 m0 m1
theorem creplace_all (s old new : ByteArray) (most : Int) (w : World) (h : ML w) (hs : s.size ≤ 1073741824) (hn : new.size ≤ 140737488355328) (ho : old.size ≤ 140737488355328) (m0 : -9223372036854775808 ≤ most) (m1 : most ≤ 9223372036854775807) :
    Calls Try.prog 16 #[.string s, .string old, .string new, .int .i64 most] w (RpTold s.data.toList old.data.toList new.data.toList most w) := by
  by_cases h0 : old.size = 0
  · obtain rfl := Ch.size_zero' h0
    exact creplace_e s new most w h hs hn m0 m1
  · exact creplace_ne s old new most w h hs hn ho h0 m0 m1
theorem creplace_any (s old new : ByteArray) (most : Int) (w : World) (h : ML w) (hs : s.size ≤ 16777216) (hn : new.size ≤ 137438953472) (ho : old.size ≤ 140737488355328) (m0 : -9223372036854775808 ≤ most) (m1 : most ≤ 9223372036854775807) :
    Calls Try.prog 16 #[.string s, .string old, .string new, .int .i64 most] w (RpTold s.data.toList old.data.toList new.data.toList most w) := by
  refine creplace_gen s old new most w h (by omega) (by omega) ho ?_ m0 m1
  have h1 := Ch.rn_le s.data.toList old.data.toList most
  have h2 := Ch.cn_le s.data.toList old.data.toList
  rw [Ch.size_len] at h2
  exact Nat.mul_le_mul (by omega) hn
end Go.Proofs.Ytgliefdefklfeaa
