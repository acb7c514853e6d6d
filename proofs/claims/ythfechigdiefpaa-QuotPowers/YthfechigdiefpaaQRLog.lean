/-
  layer 2's reference: Log.
-/
import Derived.Test.YthfechigdiefpaaQLog2
import Derived.Test.YthfechigdiefpaaQTimes2
import Derived.Test.YthfechigdiefpaaQRPow
import Derived.Deep.CutBlock
import Derived.Deep.QuietTactic
import Derived.BigQuiet
namespace Go.Proofs.Ythfechigdiefpaa
open Go.RowKit Go.Deep

theorem top_isT (T : Nat) (p : Option Addr) (n cap : Nat) (zs : List Int) (w : World) (ha : Arg w p n cap zs) (hT : Nm.tsize zs = T) :
    Calls Try.prog 19 #[.slice p n cap] w fun e w' => e = .returned (.int .i64 (T : Int)) ∧ w' = w := by
  rw [← hT]
  exact top_any p n cap zs w ha.1 (by have := ha.2.1; have := ha.2.2.1; omega) ha.2.2.2.1

theorem rlog_big (p : Option Addr) (m cap : Nat) (zs : List Int) (b : Int) (w : World) (ha : Arg w p m cap zs) (tz : 4096 < Nm.tsize zs) :
    Calls Try.prog 31 #[.slice p m cap, .int .u64 b] w fun e w' => e = .returned (.tuple #[.int .i64 0, .int .i64 2]) ∧ w' = w := by
  obtain ⟨N, HN⟩ : ∃ N, Hid (Nm.tsize zs = N) := ⟨_, rfl⟩
  have hN : (4096 : Int) < (N : Int) := by have := HN.out; omega
  have HL := hid (top_isT N p m cap zs w ha HN.out)
  clear ha tz
  go_enter Try.func31, Try.ntmps31
  go_wp2_with fail
  refine HL.out.mono ?_
  rintro e w' ⟨rfl, rfl⟩
  go_wp2_with fail
  go_ret2
  exact ⟨rfl, rfl⟩

theorem rlog_zero (p : Option Addr) (m cap : Nat) (zs : List Int) (b : Int) (w : World) (ha : Arg w p m cap zs) (tz : Nm.tsize zs = 0) :
    Calls Try.prog 31 #[.slice p m cap, .int .u64 b] w fun e w' => e = .returned (.tuple #[.int .i64 0, .int .i64 4]) ∧ w' = w := by
  have HL := hid (top_isT 0 p m cap zs w ha tz)
  clear ha tz
  go_enter Try.func31, Try.ntmps31
  go_wp2_with fail
  refine HL.out.mono ?_
  rintro e w' ⟨rfl, rfl⟩
  go_wp2_with fail
  refine HL.out.mono ?_
  rintro e w' ⟨rfl, rfl⟩
  go_wp2_with fail
  go_ret2
  exact ⟨rfl, rfl⟩

theorem rlog_arg (p : Option Addr) (m cap : Nat) (zs : List Int) (b : Int) (w : World) (ha : Arg w p m cap zs) (tz : Nm.tsize zs ≤ 4096) (t0 : 0 < Nm.tsize zs) (hb : b < 2) :
    Calls Try.prog 31 #[.slice p m cap, .int .u64 b] w fun e w' => e = .returned (.tuple #[.int .i64 0, .int .i64 1]) ∧ w' = w := by
  obtain ⟨N, HN⟩ : ∃ N, Hid (Nm.tsize zs = N) := ⟨_, rfl⟩
  have hN : (N : Int) ≤ 4096 := by have := HN.out; omega
  have hN1 : (0 : Int) < (N : Int) := by have := HN.out; omega
  have hN2 : ((N : Int) == 0) = false := by rw [beq_eq_false_iff_ne]; omega
  have HL := hid (top_isT N p m cap zs w ha HN.out)
  clear ha tz t0
  go_enter Try.func31, Try.ntmps31
  go_wp2_with fail
  refine HL.out.mono ?_
  rintro e w' ⟨rfl, rfl⟩
  go_wp2_with fail
  refine HL.out.mono ?_
  rintro e w' ⟨rfl, rfl⟩
  go_wp2_with fail
  go_ret2
  exact ⟨rfl, rfl⟩

theorem RowIn.pos {w : World} {mv : Value} {e : Option Addr × List Int} {V : Int} (h : RowIn w mv e V) (hV : 1 ≤ V) : 0 < Nm.tsize e.2 := by
  rcases Nat.eq_zero_or_pos (Nm.tsize e.2) with c | c
  · have := (Nm.tsize_le_iff h.2.1 0).1 (by omega)
    rw [h.2.2.2.1] at this
    simp only [Nm.pw] at this
    omega
  · exact c

theorem square_lt {x : Int} {k : Nat} (h0 : 0 ≤ x) (h : x < Nm.pw k) : x * x < Nm.pw (k + k) := by
  rw [Nm.pw_add]
  have h1 : x * x ≤ x * Nm.pw k := Int.mul_le_mul_of_nonneg_left (by omega) h0
  have h2 : x * Nm.pw k < Nm.pw k * Nm.pw k := Int.mul_lt_mul_of_pos_right h (Nm.pw_pos k)
  omega

/-- What is there behind the first loop. -/
def AllIn (base : Nat) (b A : Int) (w0 : World) (mv : Value) (w : World) : Prop := ∃ l, RowsIn base b A mv l w ∧ A < b ^ (2 ^ l.length) ∧ l.length ≤ 18 ∧ Below base w0 w

set_option maxRecDepth 100000 in
set_option maxHeartbeats 4000000 in
theorem rlog_ok (p : Option Addr) (m cap : Nat) (za : List Int) (A b : Int) (w : World) (ha : Arg w p m cap za) (hA : Nm.val za = A) (tz : Nm.tsize za ≤ 4096) (t0 : 0 < Nm.tsize za) (hb0 : 2 ≤ b) (hb1 : b < 18446744073709551616) :
    Calls Try.prog 31 #[.slice p m cap, .int .u64 b] w fun e w' => Told A b w e w' := by
  obtain ⟨N, HN⟩ : ∃ N, Hid (Nm.tsize za = N) := ⟨_, rfl⟩
  have hN : (N : Int) ≤ 4096 := by have := HN.out; omega
  have hN1 : (0 : Int) < (N : Int) := by have := HN.out; omega
  have hN2 : ((N : Int) == 0) = false := by rw [beq_eq_false_iff_ne]; omega
  have HL := hid (top_isT N p m cap za w ha HN.out)
  have hAs : ShutL (A < Nm.pw 4096) := ⟨by rw [← hA]; exact (Nm.tsize_le_iff ha.2.2.2.2 4096).1 tz⟩
  have hAN : Hid (A < Nm.pw N) := by show _ < _; rw [← hA]; exact (Nm.tsize_le_iff ha.2.2.2.2 N).1 (by have := HN.out; omega)
  have hA1 : Hid (1 ≤ A) := by show _ ≤ _; rw [← hA]; exact pos_of_tsize ha.2.2.2.2 t0
  have HV := hid hA
  have HA := hid ha
  have HT := hid tz
  have HB0 := hid hb0
  have lb : Hid (Nm.Limbs [b] ∧ Nm.tsize [b] = 1 ∧ Nm.val [b] = b) := by
    refine ⟨limb_one (by omega), ?_, by simp [Nm.val]⟩
    have h1 := Nm.tsize_le [b]
    have h2 := (Nm.tsize_le_iff (zs := [b]) (limb_one (by omega)) 0)
    simp only [Nm.pw, Nm.val, List.length_cons, List.length_nil] at h1 h2
    omega
  have P0 : Hid (RowIn (w.alloc (.cells #[.int .u64 b] 26)) (.slice none 0 0) (some ⟨w.heap.size, 0, none⟩, [b]) (b ^ (2 ^ 0))) := by
    show RowIn _ _ _ _
    rw [Nat.pow_zero, Int.pow_succ, Int.pow_zero, Int.one_mul]
    have ho := Own.alloc w [b]
    exact ⟨ho.lies, lb.out.1, lb.out.2.1, lb.out.2.2, fun a ha => by cases ha; exact ⟨ho.lt, by simp [Value.ownBlock]⟩⟩
  have D0 : Hid (Below w.heap.size w (w.alloc (.cells #[.int .u64 b] 26))) := (Below.refl _ _).alloc (Nat.le_refl _) _
  clear ha hA tz t0 hb1 lb
  go_enter Try.func31, Try.ntmps31
  go_wp2_with fail
  refine HL.out.mono ?_
  rintro e w' ⟨rfl, rfl⟩
  go_wp2_with fail
  refine HL.out.mono ?_
  rintro e w' ⟨rfl, rfl⟩
  go_upto_block 0 with fail
  go_cut [6, 7] from 22 to 39 (fun s q wx => ∃ mv, s = mv ∧ Hid (AllIn w'.heap.size b A w' mv wx))
  case first =>
    go_wp2_with fail
    go_loopg [6, 7] 20 (fun x c a wr => ∃ (mv : Value) (l : List (Option Addr × List Int)) (r : Option Addr) (us : List Int), a = .slice r (List.length us) (List.length us) ∧ c = mv ∧ Hid (x + l.length = 20) ∧ Hid (us.length ≤ 8192) ∧ Hid (RowsIn w'.heap.size b A mv l wr) ∧ Hid (Below w'.heap.size w' wr) ∧ Hid (RowIn wr mv (r, us) (b ^ (2 ^ l.length))))
    case atStart => exact ⟨.slice none 0 0, [], some ⟨w'.heap.size, 0, none⟩, [b], rfl, rfl, rfl, by show _ ≤ _; simp, ⟨World.ownsRow_nil _ _ _ _, fun i e h => by simp at h⟩, D0.out, P0.out⟩
    case round =>
      clear P0 D0 HL
      obtain ⟨mv, l, r, us, rfl, hmv, GK, LU, RI, D, HR⟩ := hrel
      have hmv := hmv.symm
      subst hmv
      have L18 := hid (RI.out.few HB0.out hAs.out)
      have HAr := hid (HA.out.below D.out (Nat.le_refl _))
      obtain ⟨c, hc0⟩ : ∃ c, cmpI (b ^ (2 ^ l.length)) A = c := ⟨_, rfl⟩
      have HC := hid hc0
      clear hc0
      have CM := hid (order_is c r p _ _ m cap us za wr (HR.out.arg (by have := LU.out; simp only; omega)) HAr.out (by rw [show Nm.val us = b ^ (2 ^ l.length) from HR.out.2.2.2.1, HV.out]; exact HC.out))
      clear HAr
      by_cases hgt : A < b ^ (2 ^ l.length)
      · have hc : c = 1 := by rw [← HC.out]; exact cmpI_gt hgt
        have HG := hid hgt
        subst hc
        clear hgt
        go_wp2_with fail
        refine CM.out.mono ?_
        rintro e w1 ⟨rfl, d1⟩
        have F : Hid (AllIn w'.heap.size b A w' mv w1) := ⟨l, RI.out.below d1, HG.out, L18.out, chain D.out d1 (Nat.le_refl _)⟩
        clear d1
        go_wp2_with fail
        go_meet
        exact ⟨mv, rfl, F⟩
      · have hcle : c ≤ 0 := by
          rw [← HC.out]
          rcases (show b ^ (2 ^ l.length) = A ∨ b ^ (2 ^ l.length) < A by omega) with h | h
          · rw [cmpI_eq h]; omega
          · rw [cmpI_lt h]; omega
        have HLE : Hid (b ^ (2 ^ l.length) ≤ A) := by show _ ≤ _; omega
        clear hgt
        go_wp2_with fail
        refine CM.out.mono ?_
        rintro e w1 ⟨rfl, d1⟩
        have RI1 := RI.out.below d1
        have HR1 := HR.out.below d1
        have D1 := hid (chain D.out d1 (Nat.le_refl _))
        obtain ⟨mv', w2, ap, j1, j2, j3, j4, j5⟩ := pushRow w'.heap.size l.length mv (l.map rowV) (rowV (r, us)) w1 (by have := L18.out; omega) rfl D1.out.size RI1.own
        have AP : Hid ((Builtin.append_ #[60, 60] 60 #[mv, .slice (some ⟨w1.heap.size, 0, none⟩) 1 1]).run Try.prog (w1.alloc (.cells #[.slice r (List.length us) (List.length us)] 24)) = .ok mv' w2) := ap
        have D2 := hid (D1.out.trans j2)
        have HR2 := hid (HR1.pushed j3 j4 j5)
        have RI2 : Hid (RowsIn w'.heap.size b A mv' (l ++ [(r, us)]) w2) := by
          refine ⟨by simpa using j1, fun i e he => ?_⟩
          by_cases hi : i < l.length
          · rw [List.getElem?_append_left hi] at he
            exact ⟨(RI1.row i e he).1.pushed j3 j4 j5, (RI1.row i e he).2⟩
          · have hlt := (List.getElem?_eq_some_iff.1 he).1
            simp only [List.length_append, List.length_cons, List.length_nil] at hlt
            have hi2 : i = l.length := by omega
            subst hi2
            rw [List.getElem?_append_right (by omega), Nat.sub_self] at he
            simp at he
            subst he
            exact ⟨HR1.pushed j3 j4 j5, HLE.out⟩
        have BP := hid (show 0 < b ^ (2 ^ (l.length + 1)) from Int.pow_pos (by have := HB0.out; omega))
        obtain ⟨T, HTT⟩ : ∃ T, Hid (Nm.tsize us = T) := ⟨_, rfl⟩
        have hT1 : (1 : Int) ≤ (T : Int) := by
          have h1 := HR2.out.pos (show 1 ≤ b ^ (2 ^ l.length) by have : 0 < b ^ (2 ^ l.length) := Int.pow_pos (by have := HB0.out; omega); omega)
          have h2 := HTT.out
          simp only at h1
          omega
        have hT4 : (T : Int) ≤ 4096 := by
          have h1 := (Nm.tsize_le_iff HR2.out.2.1 4096).2 (by rw [HR2.out.2.2.2.1]; exact Int.lt_of_le_of_lt HLE.out hAs.out)
          have h2 := HTT.out
          simp only at h1
          omega
        have A2 := hid (HR2.out.arg (by have := LU.out; simp only; omega))
        have TP := hid (top_isT T r _ _ us w2 A2.out HTT.out)
        have TA := hid (top_isT N p m cap za w2 (HA.out.below D2.out (Nat.le_refl _)) HN.out)
        have RF : Hid (AllIn w'.heap.size b A w' mv' w2 ∨ 2 * ((T : Int) - 1) < (N : Int)) := by
          rcases (show (N : Int) ≤ 2 * ((T : Int) - 1) ∨ 2 * ((T : Int) - 1) < (N : Int) by omega) with h | h
          · left
            refine ⟨l ++ [(r, us)], RI2.out, ?_, RI2.out.few HB0.out hAs.out, D2.out⟩
            have h3 := long_mul (k := N) HR2.out.2.1 HR2.out.2.1 (by have := HTT.out; simp only; omega) (by have := HTT.out; simp only; omega) (by have := HTT.out; simp only; omega)
            rw [HR2.out.2.2.2.1, Ln.square] at h3
            rw [List.length_append]
            exact Int.lt_of_lt_of_le hAN.out h3
          · exact .inr h
        have TM := hid (refTimes_any r r _ _ _ _ us us w2 A2.out A2.out (by have := HTT.out; omega) (by have := HTT.out; omega))
        have SB : Hid (b ^ (2 ^ (l.length + 1)) < Nm.pw 8192) := by
          show _ < _
          rw [← Ln.square]
          exact square_lt (k := 4096) (Int.le_of_lt (Int.pow_pos (by have := HB0.out; omega))) (Int.lt_of_le_of_lt HLE.out hAs.out)
        clear ap j1 j2 j3 j4 j5 RI1 HR1 d1 CM RI D HR A2
        by_cases hbr : 2 * ((T : Int) - 1) < (N : Int)
        · clear RF
          go_wp2_with (at_builtin; refine wpList_append_l rfl _ _ rfl AP.out (by rfl) (by rfl) ?_; clear AP)
          refine TP.out.mono ?_
          rintro e w3 ⟨rfl, rfl⟩
          go_wp2_with fail
          refine TA.out.mono ?_
          rintro e w3 ⟨rfl, rfl⟩
          go_wp2_with fail
          refine TM.out.mono ?_
          rintro e w4 ⟨r4, us4, rfl, A4, d4⟩
          rw [show Nm.val us = b ^ (2 ^ l.length) from HR2.out.2.2.2.1, Ln.square] at A4
          have RI4 := hid (RI2.out.below d4)
          have D4 := hid (chain D2.out d4 (Nat.le_refl _))
          have N4 : Hid (RowIn w4 mv' (r4, us4) (b ^ (2 ^ (l.length + 1)))) := A4.row rfl RI2.out.own BP.out
          have LU4 : Hid (us4.length ≤ 8192) := by
            show _ ≤ _
            have h1 := (Nm.tsize_le_iff A4.2.1 8192).2 (by rw [A4.2.2.2.1]; exact SB.out)
            have h2 := A4.2.2.1
            omega
          clear A4 d4 TM TP TA
          go_wp2_with fail
          go_roundg (19 - l.length)
          case measure => have := GK.out; have := L18.out; omega
          case rel => exact ⟨mv', l ++ [(r, us)], r4, us4, rfl, rfl, by show _ = _; have := L18.out; rw [List.length_append]; simp only [List.length_cons, List.length_nil]; omega, LU4.out, RI4.out, D4.out, by rw [List.length_append]; exact N4.out⟩
        · have F : Hid (AllIn w'.heap.size b A w' mv' w2) := by
            rcases RF.out with h | h
            · exact h
            · exact absurd h hbr
          have hbr' : (N : Int) ≤ 2 * ((T : Int) - 1) := by omega
          clear RF hbr
          go_wp2_with (at_builtin; refine wpList_append_l rfl _ _ rfl AP.out (by rfl) (by rfl) ?_; clear AP)
          refine TP.out.mono ?_
          rintro e w3 ⟨rfl, rfl⟩
          go_wp2_with fail
          refine TA.out.mono ?_
          rintro e w3 ⟨rfl, rfl⟩
          go_wp2_with fail
          go_meet
          exact ⟨mv', rfl, F⟩
  case rest =>
    clear P0 D0 HL
    obtain ⟨mv, hmv, F2⟩ := hcut
    have hmv := hmv.symm
    subst hmv
    obtain ⟨l, f1, f2, f3, f4⟩ := F2.out
    obtain ⟨pm, cp, hmv⟩ := f1.shape
    subst hmv
    obtain ⟨k, HK⟩ : ∃ k, Hid (l.length = k) := ⟨_, rfl⟩
    have hk18 : (k : Int) ≤ 18 := by have := HK.out; omega
    have HW0 : Hid (Ln.Way A b 0 k) := by
      rw [HK.out] at f2
      exact Ln.Way.first hA1.out f2
    have d3 : Below wc.heap.size wc (wc.alloc (.cells #[.int .u64 1] 26)) := (Below.refl _ _).alloc (Nat.le_refl _) _
    have RI3 := hid (f1.below d3)
    have D3 := hid (chain f4 d3 (Nat.le_refl _))
    have HA3 : Hid (Ans w'.heap.size (wc.alloc (.cells #[.int .u64 1] 26)) (some ⟨wc.heap.size, 0, none⟩) [1] (b ^ 0)) := by
      have ho := Own.alloc wc [1]
      refine ⟨ho.lies, limb_one (by omega), by decide, ?_, fun a ha => by cases ha; exact f4.size⟩
      rw [Int.pow_zero]
      simp [Nm.val]
    rw [HK.out] at RI3
    rw [HK.out]
    clear F2 f1 f2 f3 f4 d3
    go_wp2_with fail
    go_loopg [8, 9, 10] k (fun j c o i wr => ∃ (n : Nat) (r : Option Addr) (os : List Int), c = .int .i64 (n : Int) ∧ o = .slice r (List.length os) (List.length os) ∧ i = .int .i64 ((j : Int) - 1) ∧ j ≤ k ∧ Hid (RowsIn w'.heap.size b A (.slice pm k cp) l wr) ∧ Hid (Ans w'.heap.size wr r os (b ^ n)) ∧ Hid (Ln.Way A b n j) ∧ Hid (Below w'.heap.size w' wr))
    case atStart => exact ⟨0, _, [1], rfl, rfl, by go_num, Nat.le_refl _, RI3.out, HA3.out, HW0.out, D3.out⟩
    case round =>
      clear RI3 HA3 HW0 D3
      obtain ⟨n, r, os, rfl, rfl, rfl, hj, RI, HR, HW, D⟩ := hrel
      cases gk with
      | zero =>
        have F : Hid (Told A b w' (.returned (.tuple #[.int .i64 (n : Int), .int .i64 0])) wr) := ⟨n, rfl, HW.out.last, D.out⟩
        clear RI HR HW D
        go_wp2_with fail
        go_ret2
        exact F.out
      | succ s =>
        have hs18 : (s : Int) < 18 := by omega
        have hsk : (s : Int) < (k : Int) := by omega
        have hn := exp_small hb0 HW.out.1 hAs.out
        have hbn : ShutL (b ^ n < Nm.pw 4096) := ⟨Int.lt_of_le_of_lt HW.out.1 hAs.out⟩
        obtain ⟨gm, q, us, hpm, hcell, hq, hqA⟩ := RI.out.at (s := s) (by have := HK.out; omega)
        subst hpm
        have lus : Nm.tsize us ≤ 4096 := (Nm.tsize_le_iff hq.2.1 4096).2 (by rw [show Nm.val us = b ^ (2 ^ s) from hq.2.2.2.1]; exact Int.lt_of_le_of_lt hqA hAs.out)
        have AR := hid (HR.out.argT hbn.out)
        have AQ := hid (hq.arg (by have := hq.2.2.1; simp only at this ⊢; omega))
        have AA := hid (HA.out.below D.out (Nat.le_refl _))
        have lq := hid hq.2.2.2.1
        have hlq := hid hq.2.1
        have LQ := hid lus
        obtain ⟨Tn, HTn⟩ : ∃ T, Hid (Nm.tsize os = T) := ⟨_, rfl⟩
        obtain ⟨Tq, HTq⟩ : ∃ T, Hid (Nm.tsize us = T) := ⟨_, rfl⟩
        have hTn4 : (Tn : Int) ≤ 4096 := by have := HR.out.tsT hbn.out; have := HTn.out; omega
        have hTq4 : (Tq : Int) ≤ 4096 := by have := HTq.out; omega
        have hTn1 : (1 : Int) ≤ (Tn : Int) := by
          have h1 := HR.out.tpos (show 1 ≤ b ^ n by have : 0 < b ^ n := Int.pow_pos (by omega); omega)
          have := HTn.out
          omega
        have hTq1 : (1 : Int) ≤ (Tq : Int) := by
          have h1 := hq.pos (show 1 ≤ b ^ (2 ^ s) by have : 0 < b ^ (2 ^ s) := Int.pow_pos (by omega); omega)
          have := HTq.out
          simp only at h1
          omega
        have LM : Hid ((N : Int) ≤ (Tn : Int) + (Tq : Int) - 2 → A < b ^ n * b ^ (2 ^ s)) := by
          intro h
          have h3 := long_mul (k := N) HR.out.2.1 hq.2.1 (by have := HTn.out; omega) (by have := HTq.out; simp only; omega) (by have := HTq.out; have := HTn.out; simp only; omega)
          rw [HR.out.2.2.2.1, hq.2.2.2.1] at h3
          exact Int.lt_of_lt_of_le hAN.out h3
        obtain ⟨PP, HP⟩ : ∃ P : Int, Hid (2 ^ s = P) := ⟨_, rfl⟩
        have hPN : Hid (((2 ^ s : Nat) : Int) = PP) := by show _ = _; rw [← HP.out]; simp
        have hP1 : 1 ≤ PP := by have := Nm.two_pos s; rw [HP.out] at this; omega
        have hP2 : PP ≤ 131072 := by
          have h2 := Nm.two_mono (show s ≤ 17 by omega)
          rw [show (2 : Int) ^ 17 = 131072 by decide, HP.out] at h2
          exact h2
        have q1 : IntKind.i64.wrap (2 ^ s) = PP := by
          rw [HP.out, IntKind.wrap_i64]
          omega
        rw [show ((s + 1 : Nat) : Int) - 1 = (s : Int) by omega]
        clear hq hqA lus
        have T1 : Hid (∀ x, Calls Try.prog 19 #[.slice r (List.length os) (List.length os)] (wr.drewN x) fun e w' => e = .returned (.int .i64 (Tn : Int)) ∧ w' = wr.drewN x) := fun x => top_isT Tn r _ _ os _ (AR.out.drew x) HTn.out
        have T2 : Hid (∀ x, Calls Try.prog 19 #[.slice q (List.length us) (List.length us)] (wr.drewN x) fun e w' => e = .returned (.int .i64 (Tq : Int)) ∧ w' = wr.drewN x) := fun x => top_isT Tq q _ _ us _ (AQ.out.drew x) HTq.out
        have T3 : Hid (∀ x, Calls Try.prog 19 #[.slice p m cap] (wr.drewN x) fun e w' => e = .returned (.int .i64 (N : Int)) ∧ w' = wr.drewN x) := fun x => top_isT N p m cap za _ (AA.out.drew x) HN.out
        by_cases hbr : (N : Int) ≤ (Tn : Int) + (Tq : Int) - 2
        · have HW2 := hid (HW.out.skip (LM.out hbr))
          clear HW LM
          go_wp2_with fail
          go_quiet ((go_at_call 19; first | with_reducible exact Calls.quiet_of_same (T1.out _) | with_reducible exact Calls.quiet_of_same (T2.out _) | with_reducible exact Calls.quiet_of_same (T3.out _)))
          have DB : Hid (Below wr.heap.size wr (wr.drewN nq)) := below_drewN (Below.refl _ _) nq
          generalize wr.drewN nq = wq at *
          have RI5 := hid (RI.out.below DB.out)
          have HR5 := hid (HR.out.below DB.out (Nat.le_refl _))
          have D5 := hid (chain D.out DB.out (Nat.le_refl _))
          clear RI HR D DB hcell
          go_wp2_with fail
          go_roundg s
          case measure => omega
          case rel => exact ⟨n, r, os, rfl, rfl, by go_num, by omega, RI5.out, HR5.out, HW2.out, D5.out⟩
        · have hbr' : (Tn : Int) + (Tq : Int) - 2 < (N : Int) := by omega
          clear LM hbr
          go_wp2_with fail
          go_quiet ((go_at_call 19; first | with_reducible exact Calls.quiet_of_same (T1.out _) | with_reducible exact Calls.quiet_of_same (T2.out _) | with_reducible exact Calls.quiet_of_same (T3.out _)))
          have DB : Hid (Below wr.heap.size wr (wr.drewN nq)) := below_drewN (Below.refl _ _) nq
          have hcell2 : (wr.drewN nq).cell? ⟨gm, s, none⟩ = some (.slice q (List.length us) (List.length us)) := hcell
          have AR2 := hid (AR.out.drew nq)
          have AQ2 := hid (AQ.out.drew nq)
          clear hcell AR AQ AA
          generalize wr.drewN nq = wq at *
          have RI3 := hid (RI.out.below DB.out)
          have HR3 := hid (HR.out.below DB.out (Nat.le_refl _))
          have D3 := hid (chain D.out DB.out (Nat.le_refl _))
          have TM := hid (refTimes_any r q _ _ _ _ os us wq AR2.out AQ2.out (by have := HTn.out; omega) (by have := HTq.out; omega))
          clear RI HR D DB
          go_wp2_with fail
          refine TM.out.mono ?_
          rintro e w4 ⟨r4, us4, rfl, A4, d4⟩
          rw [show Nm.val us = b ^ (2 ^ s) from lq.out, show Nm.val os = b ^ n from HR3.out.2.2.2.1] at A4
          have HX : Hid (Ans w'.heap.size w4 r4 us4 (b ^ n * b ^ (2 ^ s))) := ⟨A4.1, A4.2.1, A4.2.2.1, A4.2.2.2.1, fun a ha => Nat.le_trans D3.out.size (A4.2.2.2.2 a ha)⟩
          have RI4 := hid (RI3.out.below d4)
          have HR4 := hid (HR3.out.below d4 (Nat.le_refl _))
          have D4 := hid (chain D3.out d4 (Nat.le_refl _))
          have HA4 := hid (HA.out.below D4.out (Nat.le_refl _))
          obtain ⟨c, hc0⟩ : ∃ c, cmpI (b ^ n * b ^ (2 ^ s)) A = c := ⟨_, rfl⟩
          have HC := hid hc0
          clear hc0
          have LX : Hid (us4.length ≤ 8192) := by
            show _ ≤ _
            have h1 := (Nm.tsize_le_iff A4.2.1 8192).2 (by
              rw [A4.2.2.2.1, show (8192 : Nat) = 4096 + 4096 from rfl, Nm.pw_add]
              have z1 : 0 < b ^ n := Int.pow_pos (by omega)
              have z2 : b ^ (2 ^ s) < Nm.pw 4096 := by rw [← lq.out]; exact (Nm.tsize_le_iff hlq.out 4096).1 LQ.out
              have z3 : b ^ n * b ^ (2 ^ s) ≤ b ^ n * Nm.pw 4096 := Int.mul_le_mul_of_nonneg_left (Int.le_of_lt z2) (Int.le_of_lt z1)
              have z4 : b ^ n * Nm.pw 4096 < Nm.pw 4096 * Nm.pw 4096 := Int.mul_lt_mul_of_pos_right hbn.out (Nm.pw_pos 4096)
              exact Int.lt_of_le_of_lt z3 z4)
            have h2 := A4.2.2.1
            omega
          have CM := hid (order_is c r4 p _ _ m cap us4 za w4 (A4.arg (by have := LX.out; omega)) HA4.out (by rw [show Nm.val us4 = b ^ n * b ^ (2 ^ s) from A4.2.2.2.1, HV.out]; exact HC.out))
          clear A4 d4 TM RI3 HR3 D3 HA4 hcell2 AR2 AQ2
          by_cases hgt : A < b ^ n * b ^ (2 ^ s)
          · have hc : c = 1 := by rw [← HC.out]; exact cmpI_gt hgt
            have HW2 := hid (HW.out.skip hgt)
            subst hc
            clear hgt HW
            go_wp2_with fail
            refine CM.out.mono ?_
            rintro e w5 ⟨rfl, d5⟩
            have RI5 := hid (RI4.out.below d5)
            have HR5 := hid (HR4.out.below d5 (Nat.le_refl _))
            have D5 := hid (chain D4.out d5 (Nat.le_refl _))
            clear d5 CM RI4 HR4 D4
            go_wp2_with fail
            go_roundg s
            case measure => omega
            case rel => exact ⟨n, r, os, rfl, rfl, by go_num, by omega, RI5.out, HR5.out, HW2.out, D5.out⟩
          · have hcle : c ≤ 0 := by
              rw [← HC.out]
              rcases (show b ^ n * b ^ (2 ^ s) = A ∨ b ^ n * b ^ (2 ^ s) < A by omega) with h | h
              · rw [cmpI_eq h]; omega
              · rw [cmpI_lt h]; omega
            have HW2 := hid (HW.out.take (Int.not_lt.1 hgt))
            have hPP : Hid (((n + 2 ^ s : Nat) : Int) = (n : Int) + PP) := by show _ = _; rw [Int.natCast_add, hPN.out]
            clear hgt HW
            go_wp2_with fail
            refine CM.out.mono ?_
            rintro e w5 ⟨rfl, d5⟩
            have RI5 := hid (RI4.out.below d5)
            have HX5 := hid (HX.out.below d5 (Nat.le_refl _))
            have D5 := hid (chain D4.out d5 (Nat.le_refl _))
            clear d5 CM RI4 HR4 D4
            go_wp2_with fail
            go_roundg s
            case measure => omega
            case rel => exact ⟨n + 2 ^ s, r4, us4, by rw [hPP.out], rfl, by go_num, by omega, RI5.out, by rw [Int.pow_add]; exact HX5.out, HW2.out, D5.out⟩
end Go.Proofs.Ythfechigdiefpaa
