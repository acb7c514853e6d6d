/-
  Texts put together: QLog2, QLogIs, NCountA, NKpE.
-/
import Derived.Test.YtbdilikdenhnkaaDoorQLog
import Derived.Test.YtbdilikdenhnkaaDoorFromW
import Derived.Test.YtbdilikdenhnkaaDoorTrimW
import Derived.Test.YtbdilikdenhnkaaDoorWalk5
import Derived.Test.YtbdilikdenhnkaaDoorNInBase
import Derived.Test.YtbdilikdenhnkaaDoorRA
import Derived.Test.YtbdilikdenhnkaaDoorShA
import Derived.BigQuiet
import Derived.Deep.RegionHeld3
import Derived.Deep.CutRange
import Derived.Deep.CutBlock
namespace Go.Proofs.YtbdilikdenhnkaaDoor
open Go.RowKit Go.Deep

theorem pos_of_tsize {zs : List Int} (hl : Nm.Limbs zs) (h : 0 < Nm.tsize zs) : 1 ≤ Nm.val zs := by
  have h1 := Nm.tsize_le_iff hl 0
  have h2 := (Nm.val_bd zs hl).1
  simp only [Nm.pw] at h1
  omega

/-- The list of rows, as a slice. -/
theorem RowsInQ.shape {base : Nat} {b A : Int} {mv : Value} {l : List (Option Addr × List Int)} {w : World} (h : RowsInQ base b A mv l w) : ∃ pm cp, mv = .slice pm l.length cp := by
  rcases h.own.2 with ⟨rfl, h0⟩ | ⟨gm, cp, cur, rfl, _⟩
  · exact ⟨none, 0, by rw [h0]⟩
  · exact ⟨_, cp, rfl⟩

theorem RowsInQ.at {base : Nat} {b A : Int} {pm : Option Addr} {k cp : Nat} {l : List (Option Addr × List Int)} {w : World} (h : RowsInQ base b A (.slice pm k cp) l w) {s : Nat} (hs : s < l.length) :
    ∃ gm r us, pm = some ⟨gm, 0, none⟩ ∧ w.cell? ⟨gm, s, none⟩ = some (.slice r (List.length us) (List.length us)) ∧ RowIn w (.slice pm k cp) (r, us) (b ^ (2 ^ s)) ∧ b ^ (2 ^ s) ≤ A := by
  have he : l[s]? = some l[s] := List.getElem?_eq_getElem hs
  rcases h.own.2 with ⟨_, h0⟩ | ⟨gm, cp', cur, hv, _⟩
  · omega
  · simp only [Value.slice.injEq] at hv
    obtain ⟨rfl, rfl, rfl⟩ := hv
    refine ⟨gm, (l[s]).1, (l[s]).2, rfl, ?_, h.row s _ he⟩
    have := h.own.cells (g := gm) rfl s (rowV l[s]) (by rw [List.getElem?_map, he]; rfl)
    rw [Go.WideShapes.add_plain, Nat.zero_add] at this
    exact this

theorem log_big (p : Option Addr) (m cap : Nat) (zs : List Int) (b : Int) (w : World) (ha : Arg w p m cap zs) (tz : 4096 < Nm.tsize zs) :
    Calls Tryd.prog 16 #[.slice p m cap, .int .u64 b] w fun e w' => e = .returned (.tuple #[.int .i64 0, .int .i64 2]) ∧ w' = w := by
  obtain ⟨N, HN⟩ : ∃ N, Hid (Nm.tsize zs = N) := ⟨_, rfl⟩
  have hN : (4096 : Int) < (N : Int) := by have := HN.out; omega
  have HL := hid (limbs_isT p m cap zs N w ha HN.out)
  clear ha tz
  go_enter Tryd.func16, Tryd.ntmps16
  go_wp2_with fail
  refine HL.out.mono ?_
  rintro e w' ⟨rfl, rfl⟩
  go_wp2_with fail
  go_ret2
  exact ⟨rfl, rfl⟩

theorem log_zero (p : Option Addr) (m cap : Nat) (zs : List Int) (b : Int) (w : World) (ha : Arg w p m cap zs) (tz : Nm.tsize zs = 0) :
    Calls Tryd.prog 16 #[.slice p m cap, .int .u64 b] w fun e w' => e = .returned (.tuple #[.int .i64 0, .int .i64 4]) ∧ w' = w := by
  have HL := hid (limbs_isT p m cap zs 0 w ha tz)
  clear ha tz
  go_enter Tryd.func16, Tryd.ntmps16
  go_wp2_with fail
  refine HL.out.mono ?_
  rintro e w' ⟨rfl, rfl⟩
  go_wp2_with fail
  refine HL.out.mono ?_
  rintro e w' ⟨rfl, rfl⟩
  go_wp2_with fail
  go_ret2
  exact ⟨rfl, rfl⟩

theorem log_arg (p : Option Addr) (m cap : Nat) (zs : List Int) (b : Int) (w : World) (ha : Arg w p m cap zs) (tz : Nm.tsize zs ≤ 4096) (t0 : 0 < Nm.tsize zs) (hb : b < 2) :
    Calls Tryd.prog 16 #[.slice p m cap, .int .u64 b] w fun e w' => e = .returned (.tuple #[.int .i64 0, .int .i64 1]) ∧ w' = w := by
  obtain ⟨N, HN⟩ : ∃ N, Hid (Nm.tsize zs = N) := ⟨_, rfl⟩
  have hN : (N : Int) ≤ 4096 := by have := HN.out; omega
  have hN1 : (0 : Int) < (N : Int) := by have := HN.out; omega
  have hN2 : ((N : Int) == 0) = false := by rw [beq_eq_false_iff_ne]; omega
  have HL := hid (limbs_isT p m cap zs N w ha HN.out)
  clear ha tz t0
  go_enter Tryd.func16, Tryd.ntmps16
  go_wp2_with fail
  refine HL.out.mono ?_
  rintro e w' ⟨rfl, rfl⟩
  go_wp2_with fail
  refine HL.out.mono ?_
  rintro e w' ⟨rfl, rfl⟩
  go_wp2_with fail
  go_ret2
  exact ⟨rfl, rfl⟩

/-- What both tell of a logarithm. -/
def Told (A b : Int) (w : World) (e : Ending) (w' : World) : Prop := ∃ n : Nat, e = .returned (.tuple #[.int .i64 (n : Int), .int .i64 0]) ∧ Ln.IsLog A b n ∧ Below w.heap.size w w'

theorem exp_small {A b : Int} {n : Nat} (hb : 2 ≤ b) (h : b ^ n ≤ A) (hA : A < Nm.pw 4096) : (n : Int) ≤ 262143 := by
  have := Ln.small hb h (by rw [← pw_bigQ]; exact hA)
  omega

set_option maxRecDepth 100000 in
set_option maxHeartbeats 4000000 in
theorem log_ok (p : Option Addr) (m cap : Nat) (za : List Int) (A b : Int) (w : World) (ha : Arg w p m cap za) (hA : Nm.val za = A) (tz : Nm.tsize za ≤ 4096) (t0 : 0 < Nm.tsize za) (hb0 : 2 ≤ b) (hb1 : b < 18446744073709551616) :
    Calls Tryd.prog 16 #[.slice p m cap, .int .u64 b] w fun e w' => Told A b w e w' := by
  obtain ⟨N, HN⟩ : ∃ N, Hid (Nm.tsize za = N) := ⟨_, rfl⟩
  have hN : (N : Int) ≤ 4096 := by have := HN.out; omega
  have hN1 : (0 : Int) < (N : Int) := by have := HN.out; omega
  have hN2 : ((N : Int) == 0) = false := by rw [beq_eq_false_iff_ne]; omega
  have HL := hid (limbs_isT p m cap za N w ha HN.out)
  have hAs : ShutLQ (A < Nm.pw 4096) := ⟨by rw [← hA]; exact (Nm.tsize_le_iff ha.2.2.2.2 4096).1 tz⟩
  have hA1 : Hid (1 ≤ A) := by show _ ≤ _; rw [← hA]; exact pos_of_tsize ha.2.2.2.2 t0
  have HV := hid hA
  have HA := hid ha
  have HT := hid tz
  have FU := hid (fromUint_any b w (by omega) hb1)
  have HB1 := hid hb1
  clear ha hA tz t0 hb1
  go_enter Tryd.func16, Tryd.ntmps16
  go_wp2_with fail
  refine HL.out.mono ?_
  rintro e w' ⟨rfl, rfl⟩
  go_wp2_with fail
  refine HL.out.mono ?_
  rintro e w' ⟨rfl, rfl⟩
  go_wp2_with fail
  refine FU.out.mono ?_
  rintro e w1 ⟨r1, os1, rfl, A1, d1⟩
  have SQ := hid (squares_any r1 p m cap os1 za b A _ w1 A1 hb0 HB1.out (HA.out.below d1 (Nat.le_refl _)) HV.out HT.out)
  have D1 := hid d1
  clear A1 d1 FU HL
  go_wp2_with fail
  refine SQ.out.mono ?_
  rintro e w2 ⟨mv, l, rfl, F2⟩
  obtain ⟨pm, cp, hmv⟩ := F2.out.1.shape
  subst hmv
  obtain ⟨k, HK⟩ : ∃ k, Hid (l.length = k) := ⟨_, rfl⟩
  have hk18 : (k : Int) ≤ 18 := by have := HK.out; have := F2.out.2.2.1; omega
  have RI := hid F2.out.1
  have HW0 : Hid (Ln.Way A b 0 k) := by
    have h := F2.out.2.1
    rw [HK.out] at h
    exact Ln.Way.first hA1.out h
  have D2 := hid (chain D1.out F2.out.2.2.2 (Nat.le_refl _))
  rw [HK.out] at RI
  rw [HK.out]
  clear F2 SQ D1
  have F1 := hid (fromUint_any 1 w2 (by omega) (by omega))
  go_wp2_with fail
  refine F1.out.mono ?_
  rintro e w3 ⟨r3, os3, rfl, A3, d3⟩
  have RI3 := hid (RI.out.below d3)
  have D3 := hid (chain D2.out d3 (Nat.le_refl _))
  have HA3 : Hid (Ans w'.heap.size w3 r3 os3 (b ^ 0)) := by
    rw [Int.pow_zero]
    exact ⟨A3.1, A3.2.1, A3.2.2.1, A3.2.2.2.1, fun a ha => ⟨Nat.le_trans D2.out.size (A3.2.2.2.2 a ha).1, (A3.2.2.2.2 a ha).2⟩⟩
  clear A3 d3 F1 RI D2
  go_wp2_with fail
  go_loopg [7, 8, 9] k (fun j c o i wr => ∃ (n : Nat) (r : Option Addr) (os : List Int), c = .int .i64 (n : Int) ∧ o = .slice r (List.length os) (List.length os) ∧ i = .int .i64 ((j : Int) - 1) ∧ j ≤ k ∧ Hid (RowsInQ w1.heap.size b A (.slice pm k cp) l wr) ∧ Hid (Ans w'.heap.size wr r os (b ^ n)) ∧ Hid (Ln.Way A b n j) ∧ Hid (Below w'.heap.size w' wr))
  case atStart => exact ⟨0, r3, os3, rfl, rfl, by go_num, Nat.le_refl _, RI3.out, HA3.out, HW0.out, D3.out⟩
  case round =>
    clear RI3 HA3 HW0 D3
    obtain ⟨n, r, os, rfl, rfl, rfl, hj, RI, HR, HW, D⟩ := hrel
    cases gk with
    | zero =>
      have F : Hid (Told A b w' (.returned (.tuple #[.int .i64 (n : Int), .int .i64 0])) wr) := ⟨n, rfl, HW.out.last, D.out⟩
      clear RI HR HW D
      go_wp2_with fail
      go_ret2
      exact F.out
    | succ s =>
      have hs18 : (s : Int) < 18 := by omega
      have hn := exp_small hb0 HW.out.1 hAs.out
      have hbn : ShutLQ (b ^ n < Nm.pw 4096) := ⟨Int.lt_of_le_of_lt HW.out.1 hAs.out⟩
      obtain ⟨gm, q, us, hpm, hcell, hq, hqA⟩ := RI.out.at (s := s) (by have := HK.out; omega)
      subst hpm
      have hgm : gm < wr.heap.size := by
        rcases Nat.lt_or_ge gm wr.heap.size with h | h
        · exact h
        · simp only [World.cell?, Array.getElem?_eq_none h] at hcell
          exact absurd hcell (by simp)
      have lus : Nm.tsize us ≤ 4096 := (Nm.tsize_le_iff hq.2.1 4096).2 (by rw [show Nm.val us = b ^ (2 ^ s) from hq.2.2.2.1]; exact Int.lt_of_le_of_lt hqA hAs.out)
      have MU := hid (mul_gives r q _ _ _ _ os us (b ^ n * b ^ (2 ^ s)) wr (HR.out.argT hbn.out) (hq.arg (by have := hq.2.2.1; simp only at this ⊢; omega)) (HR.out.tsT hbn.out) lus (by rw [show Nm.val us = b ^ (2 ^ s) from hq.2.2.2.1, show Nm.val os = b ^ n from HR.out.2.2.2.1]))
      obtain ⟨PP, HP⟩ : ∃ P : Int, Hid (2 ^ s = P) := ⟨_, rfl⟩
      have hPN : Hid (((2 ^ s : Nat) : Int) = PP) := by show _ = _; rw [← HP.out]; simp
      have hP1 : 1 ≤ PP := by have := Nm.two_pos s; rw [HP.out] at this; omega
      have hP2 : PP ≤ 131072 := by
        have h2 := Nm.two_mono (show s ≤ 17 by omega)
        rw [show (2 : Int) ^ 17 = 131072 by decide, HP.out] at h2
        exact h2
      have q1 : IntKind.i64.wrap (2 ^ s) = PP := by
        rw [HP.out, IntKind.wrap_i64]
        omega
      rw [show ((s + 1 : Nat) : Int) - 1 = (s : Int) by omega]
      clear hq hqA lus
      go_wp2_with fail
      refine MU.out.mono ?_
      rintro e w4 ⟨h | h, d4⟩
      · obtain ⟨h1, r4, us4, rfl, A4⟩ := h
        have HA4 := hid (HA.out.below (chain D.out d4 (Nat.le_refl _)) (Nat.le_refl _))
        have HX : Hid (Ans w'.heap.size w4 r4 us4 (b ^ n * b ^ (2 ^ s))) := ⟨A4.1, A4.2.1, A4.2.2.1, A4.2.2.2.1, fun a ha => ⟨Nat.le_trans D.out.size (A4.2.2.2.2 a ha).1, (A4.2.2.2.2 a ha).2⟩⟩
        obtain ⟨c, hc0⟩ : ∃ c, cmpI (b ^ n * b ^ (2 ^ s)) A = c := ⟨_, rfl⟩
        have HC := hid hc0
        clear hc0
        have CM := hid (cmp_is c r4 p _ _ m cap us4 za w4 (A4.argT h1) HA4.out (by rw [show Nm.val us4 = b ^ n * b ^ (2 ^ s) from A4.2.2.2.1, HV.out]; exact HC.out))
        have RI4 := hid (RI.out.below d4)
        have HR4 := hid (HR.out.below d4 (Nat.le_refl _))
        have D4 := hid (chain D.out d4 (Nat.le_refl _))
        clear h1 A4 d4 MU RI HR D HA4 hcell
        by_cases hgt : A < b ^ n * b ^ (2 ^ s)
        · have hc : c = 1 := by rw [← HC.out]; exact cmpI_gt hgt
          have HW2 := hid (HW.out.skip hgt)
          subst hc
          clear hgt HW
          go_wp2_with fail
          refine CM.out.mono ?_
          rintro e w5 ⟨rfl, d5⟩
          have RI5 := hid (RI4.out.below d5)
          have HR5 := hid (HR4.out.below d5 (Nat.le_refl _))
          have D5 := hid (chain D4.out d5 (Nat.le_refl _))
          clear d5 CM RI4 HR4 D4
          go_wp2_with fail
          go_roundg s
          case measure => omega
          case rel => exact ⟨n, r, os, rfl, rfl, by go_num, by omega, RI5.out, HR5.out, HW2.out, D5.out⟩
        · have hcle : c ≤ 0 := by
            rw [← HC.out]
            rcases (show b ^ n * b ^ (2 ^ s) = A ∨ b ^ n * b ^ (2 ^ s) < A by omega) with h | h
            · rw [cmpI_eq h]; omega
            · rw [cmpI_lt h]; omega
          have HW2 := hid (HW.out.take (Int.not_lt.1 hgt))
          have hPP : Hid (((n + 2 ^ s : Nat) : Int) = (n : Int) + PP) := by show _ = _; rw [Int.natCast_add, hPN.out]
          clear hgt HW
          go_wp2_with fail
          refine CM.out.mono ?_
          rintro e w5 ⟨rfl, d5⟩
          have RI5 := hid (RI4.out.below d5)
          have HX5 := hid (HX.out.below d5 (Nat.le_refl _))
          have D5 := hid (chain D4.out d5 (Nat.le_refl _))
          clear d5 CM RI4 HR4 D4
          go_wp2_with fail
          go_roundg s
          case measure => omega
          case rel => exact ⟨n + 2 ^ s, r4, us4, by rw [hPP.out], rfl, by go_num, by omega, RI5.out, by rw [Int.pow_add]; exact HX5.out, HW2.out, D5.out⟩
      · obtain ⟨h1, rfl⟩ := h
        have HW2 := hid (HW.out.skip (Int.lt_of_lt_of_le hAs.out h1))
        have RI4 := hid (RI.out.below d4)
        have HR4 := hid (HR.out.below d4 (Nat.le_refl _))
        have D4 := hid (chain D.out d4 (Nat.le_refl _))
        clear h1 d4 MU RI HR D HW hcell
        go_wp2_with fail
        go_roundg s
        case measure => omega
        case rel => exact ⟨n, r, os, rfl, rfl, by go_num, by omega, RI4.out, HR4.out, HW2.out, D4.out⟩
end Go.Proofs.YtbdilikdenhnkaaDoor

namespace Go.Proofs.YtbdilikdenhnkaaDoor
open Go.RowKit Go.Deep

/-- What is told of a logarithm: the number and the error. -/
inductive LogIs (zs : List Int) (b : Int) : Int → Int → Prop
  | big : 4096 < Nm.tsize zs → LogIs zs b 0 2
  | zero : Nm.tsize zs = 0 → LogIs zs b 0 4
  | arg : Nm.tsize zs ≤ 4096 → 0 < Nm.tsize zs → b < 2 → LogIs zs b 0 1
  | ok (n : Nat) : Nm.tsize zs ≤ 4096 → 0 < Nm.tsize zs → 2 ≤ b → Ln.IsLog (Nm.val zs) b n → LogIs zs b (n : Int) 0

theorem LogIs.one {zs : List Int} {b n e n' e' : Int} (h : LogIs zs b n e) (k : LogIs zs b n' e') : n = n' ∧ e = e' := by
  cases h <;> cases k <;> first | exact ⟨rfl, rfl⟩ | omega | skip
  rename_i m h1 h2 h3 h4 m' k1 k2 k3 k4
  exact ⟨by rw [Ln.unique h3 h4 k4], rfl⟩

/-- Both fit the results' type. -/
theorem LogIs.small {zs : List Int} {b n e : Int} (hl : Nm.Limbs zs) (h : LogIs zs b n e) : 0 ≤ n ∧ n ≤ 262143 := by
  cases h with
  | big _ => omega
  | zero _ => omega
  | arg _ _ _ => omega
  | ok m h1 h2 h3 h4 =>
    have := exp_small h3 h4.1 ((Nm.tsize_le_iff hl 4096).1 h1)
    omega

def LogSays (zs : List Int) (b : Int) (w : World) (e : Ending) (w' : World) : Prop := ∃ n E, e = .returned (.tuple #[.int .i64 n, .int .i64 E]) ∧ LogIs zs b n E ∧ Below w.heap.size w w'

theorem log_says (p : Option Addr) (m cap : Nat) (zs : List Int) (b : Int) (w : World) (ha : Arg w p m cap zs) (hb1 : b < 18446744073709551616) :
    Calls Tryd.prog 16 #[.slice p m cap, .int .u64 b] w fun e w' => LogSays zs b w e w' := by
  by_cases h1 : 4096 < Nm.tsize zs
  · refine (log_big p m cap zs b w ha h1).mono ?_
    rintro e w' ⟨rfl, rfl⟩
    exact ⟨_, _, rfl, .big h1, Below.refl _ _⟩
  by_cases h2 : Nm.tsize zs = 0
  · refine (log_zero p m cap zs b w ha h2).mono ?_
    rintro e w' ⟨rfl, rfl⟩
    exact ⟨_, _, rfl, .zero h2, Below.refl _ _⟩
  by_cases h3 : b < 2
  · refine (log_arg p m cap zs b w ha (by omega) (by omega) h3).mono ?_
    rintro e w' ⟨rfl, rfl⟩
    exact ⟨_, _, rfl, .arg (by omega) (by omega) h3, Below.refl _ _⟩
  · refine (log_ok p m cap zs _ b w ha rfl (by omega) (by omega) (by omega) hb1).mono ?_
    rintro e w' ⟨n, rfl, k, d⟩
    exact ⟨_, _, rfl, .ok n (by omega) (by omega) (by omega) k, d⟩

end Go.Proofs.YtbdilikdenhnkaaDoor

namespace Go.Proofs.YtbdilikdenhnkaaDoor
open Go.RowKit Go.Deep

/-- What is told of a number of digits. -/
inductive CountIs (zs : List Int) : Int → Int → Prop
  | big : 4096 < Nm.tsize zs → CountIs zs 0 2
  | zero : Nm.tsize zs = 0 → CountIs zs 1 0
  | ok (n : Nat) : Nm.tsize zs ≤ 4096 → 0 < Nm.tsize zs → Ln.IsLog (Nm.val zs) 10 n → CountIs zs ((n : Int) + 1) 0

theorem count_says (p : Option Addr) (m cap : Nat) (zs : List Int) (w : World) (ha : Arg w p m cap zs) :
    Calls Tryd.prog 9 #[.slice p m cap] w fun e w' => ∃ n E, e = .returned (.tuple #[.int .i64 n, .int .i64 E]) ∧ CountIs zs n E ∧ Below w.heap.size w w' := by
  have LG := hid (log_says p m cap zs 10 w ha (by omega))
  have HL := hid ha.2.2.2.2
  clear ha
  go_enter Tryd.func9, Tryd.ntmps9
  go_wp2_with fail
  refine LG.out.mono ?_
  rintro e w' ⟨n, E, rfl, h, d⟩
  have D := hid d
  have S := hid (h.small HL.out)
  clear d LG HL
  cases h with
  | big h =>
    have F := hid h
    clear h S
    go_wp2_with fail
    go_ret2
    exact ⟨_, _, rfl, .big F.out, D.out⟩
  | zero h =>
    have F := hid h
    clear h S
    go_wp2_with fail
    go_ret2
    exact ⟨_, _, rfl, .zero F.out, D.out⟩
  | arg _ _ h => exact absurd h (by omega)
  | ok n h1 h2 h3 h4 =>
    have F : Hid (CountIs zs ((n : Int) + 1) 0) := .ok n h1 h2 h4
    have hn : (n : Int) ≤ 262143 := S.out.2
    clear h1 h2 h3 h4 S
    go_wp2_with fail
    go_ret2
    exact ⟨_, _, rfl, F.out, D.out⟩

end Go.Proofs.YtbdilikdenhnkaaDoor

namespace Go.Proofs.YtbdilikdenhnkaaDoor
open Go Go.RowKit Go.Deep

theorem digits_any (p : Option Addr) (n cap : Nat) (za : List Int) (w : World) (ha : Arg w p n cap za) :
    Calls Tryd.prog 8 #[.slice p n cap] w fun e w' => ∃ s xs E, e = .returned (.tuple #[.string s, .int .i64 E]) ∧ Str s xs ∧ InIs za 10 false xs E ∧ Below w.heap.size w w' := by
  have IB := hid (inBase_any p n cap za 10 false w ha (by omega) (by omega))
  clear ha
  go_enter Tryd.func8, Tryd.ntmps8
  go_wp2_with fail
  refine IB.out.mono ?_
  rintro e w' ⟨s, xs, E, rfl, h⟩
  have H := hid h
  clear h IB
  go_wp2_with fail
  go_ret2
  exact ⟨s, xs, E, rfl, H.out⟩

/-- Longer memory. -/
def Fu (w : World) (g n : Nat) (zs ys : List Int) (u : Nat) : Prop := Own w g ys ∧ ys.length = n + 9 ∧ ys.take n = zs ∧ ∀ v, n ≤ v → v < u → ys.getD v 0 = 77 + (v : Int)
theorem Fu.arg {w : World} {g n u : Nat} {zs ys : List Int} (h : Fu w g n zs ys u) (hl : Nm.Limbs zs) (hn : n + 9 ≤ 17592186044000) : Arg w (some ⟨g, 0, none⟩) n (n + 9) zs := by
  have e : zs.length = n := by rw [← h.2.2.1, List.length_take, h.2.1]; omega
  exact ⟨e, by omega, hn, by rw [← h.2.2.1]; exact h.1.lies.take n, hl⟩
theorem Fu.at {w : World} {g n u : Nat} {zs ys : List Int} (h : Fu w g n zs ys u) {i : Nat} (hi : i < n) : ys.getD i 0 = zs.getD i 0 := by
  rw [← h.2.2.1, List.getD, List.getD, List.getElem?_take_of_lt hi]

set_option maxRecDepth 100000 in
set_option maxHeartbeats 16000000 in
theorem kept_any (p : Option Addr) (n cap : Nat) (zs : List Int) (base : Int) (w : World) (ha : Arg w p n cap zs) (hc : cap ≤ 17592186043904) (b0 : -9223372036854775808 ≤ base) (b1 : base ≤ 9223372036854775807) :
    Calls Tryd.prog 5 #[.slice p n cap, .int .i64 base] w fun e w' => e = .returned (.bool true) ∧ Below w.heap.size w w' := by
  obtain ⟨a1, a2, a3, a4, a5⟩ := ha
  obtain ⟨N, hN⟩ : ∃ N, n + 9 = N := ⟨_, rfl⟩
  have nb : (n : Int) ≤ 17592186043904 := by omega
  have wN : IntKind.i64.wrap ((n : Int) + 9) = (N : Int) := by rw [IntKind.wrap_i64]; omega
  have hmk := make64 N (by omega) w
  have hb0 : Below w.heap.size w (w.alloc (.cells (madeCells #[.int .u64 0] N) 32)) := (Below.refl _ _).alloc (Nat.le_refl _) _
  have ho : Own (w.alloc (.cells (madeCells #[.int .u64 0] N) 32)) w.heap.size (List.replicate N 0) := by
    rw [made_zero]; exact Own.alloc w _
  obtain ⟨wc, hcp, ho1, hb1, hz1⟩ := copy64 w.heap.size N (List.replicate N 0) p n cap zs 3 _ (by simp) a1 (by omega) ho (a4.below hb0 (Nat.le_refl _))
  obtain ⟨g, hg⟩ : ∃ g, w.heap.size = g := ⟨_, rfl⟩
  have S0 : Hid (Below g w wc ∧ ∃ ys, Fu wc g n zs ys n) := by
    rw [← hg]
    exact ⟨hb0.trans hb1, _, ho1, by simp; omega, by rw [← a1, List.take_left], fun v h1 h2 => by omega⟩
  have A0 := hid (And.intro a1 (And.intro a4 a5))
  have HN := hid hN
  have HG := hid hg
  have HC : Hid (n + 9 ≤ 17592186044000) := by show _ ≤ _; omega
  have HB := hid (And.intro b0 b1)
  have nN : (n : Int) ≤ (N : Int) := by omega
  have Nb : (N : Int) ≤ 17592186044000 := by omega
  have Nn : n ≤ N := by omega
  rw [hg] at hmk hcp
  generalize w.alloc (.cells (madeCells #[.int .u64 0] N) 32) = w1 at *
  clear hb0 ho ho1 hb1 hz1 a1 a3 a4 a5 hN hg b0 b1
  go_enter Tryd.func5, Tryd.ntmps5
  go_wp2_with fail
  clear hmk hcp
  go_loopg [6] 9 (fun m iv wr => ∃ (u : Nat) (ys : List Int), u + m = N ∧ n ≤ u ∧ iv = .int .i64 (u : Int) ∧ Hid (Below g w wr ∧ Fu wr g n zs ys u))
  case atStart =>
    obtain ⟨s1, ys, s2⟩ := S0.out
    exact ⟨n, ys, by have := HN.out; omega, Nat.le_refl _, rfl, s1, s2⟩
  case round =>
    obtain ⟨u, ys, hu, nu, rfl, J⟩ := hrel
    clear S0
    by_cases ul : u < N
    · have uli : (u : Int) < (N : Int) := by omega
      have w1 : IntKind.i64.wrap (77 + (u : Int)) = 77 + (u : Int) := by rw [IntKind.wrap_i64]; omega
      have w2 : IntKind.u64.wrap (77 + (u : Int)) = 77 + (u : Int) := by rw [Sh.wrap_mod]; omega
      have uy : u < ys.length := by have := J.out.2.2.1; have := HN.out; omega
      obtain ⟨y, hy⟩ : ∃ y, ys.getD u 0 = y := ⟨_, rfl⟩
      have cy := J.out.2.1.cell u uy
      rw [hy] at cy
      have fy := J.out.2.1.free u
      have K7 : Hid (Below g w (wr.setCell ⟨g, u, none⟩ (.int .u64 (77 + (u : Int)))) ∧ Fu (wr.setCell ⟨g, u, none⟩ (.int .u64 (77 + (u : Int)))) g n zs (ys.set u (77 + (u : Int))) (u + 1)) := by
        refine ⟨J.out.1.setCell (p := ⟨g, u, none⟩) (Nat.le_refl _) _, J.out.2.1.set u _, by rw [List.length_set]; exact J.out.2.2.1, ?_, fun v h1 h2 => ?_⟩
        · rw [List.take_set, List.set_eq_of_length_le (by rw [List.length_take]; omega)]
          exact J.out.2.2.2.1
        · by_cases q : v = u
          · subst q
            rw [List.getD, List.getElem?_set_self uy]
            rfl
          · rw [List.getD, List.getElem?_set_ne (fun e => q e.symm)]
            exact J.out.2.2.2.2 v h1 (by omega)
      clear J hy uy
      go_wp2_with fail
      go_roundg (N - (u + 1))
      case measure => omega
      case rel => exact ⟨u + 1, _, by omega, by omega, by go_num, K7.out⟩
    · obtain rfl : u = N := by omega
      have uli : ¬ (u : Int) < (u : Int) := by omega
      have AR : Hid (∀ W, Below wr.heap.size wr W → Arg W (some ⟨g, 0, none⟩) n u zs) := fun W hB => by
        have := (J.out.2.arg A0.out.2.2 HC.out).below hB (Nat.le_refl _)
        rw [HN.out] at this
        exact this
      have K1 := hid (digits_any _ _ _ _ wr (AR.out _ (Below.refl _ _)))
      have K2 := hid (fun W (hB : Below wr.heap.size wr W) => inBase_any _ _ _ _ base true W (AR.out _ hB) HB.out.1 HB.out.2)
      have K3 := hid (fun W (hB : Below wr.heap.size wr W) => count_says _ _ _ _ W (AR.out _ hB))
      clear AR
      go_upto_region 10 with (first | (go_at_call 8; refine K1.out.mono ?_; rintro e w5 ⟨s5, x5, E5, rfl, _, _, b5⟩; have U5 := hid b5; clear b5 K1) | (go_at_call 7; refine (K2.out _ U5.out).mono ?_; rintro e w6 ⟨s6, x6, E6, rfl, _, _, b6⟩; have U6 := hid (U5.out.trans (b6.mono U5.out.size)); clear b6 K2 U5) | (go_at_call 9; refine (K3.out _ U6.out).mono ?_; rintro e w7 ⟨s7, x7, rfl, _, b7⟩; have U7 := hid (U6.out.trans (b7.mono U6.out.size)); clear b7 K3 U6))
      have OW := hid (J.out.2.1.below U7.out J.out.2.1.lt)
      have F7 := hid J.out.2.2
      have BW := hid (J.out.1.trans (U7.out.mono (by have := J.out.2.1.lt; omega)))
      clear J U7
      go_wp2_with fail
      go_loopg [7] u (fun m iv wr => ∃ i : Nat, i + m = u ∧ iv = .int .i64 (i : Int) ∧ Hid (Own wr g ys ∧ Below g w wr))
      case atStart => exact ⟨0, by omega, rfl, OW.out, BW.out⟩
      case round =>
        obtain ⟨i, hi, rfl, I⟩ := hrel
        clear OW BW
        by_cases il : i < u
        · have ili : (i : Int) < (u : Int) := by omega
          have iy : i < ys.length := by have := F7.out.1; have := HN.out; omega
          have cy := I.out.1.cell i iy
          have I9 := hid I.out
          by_cases iln : i < n
          · have ilni : (i : Int) < (n : Int) := by omega
            have nge : ¬ (n : Int) ≤ (i : Int) := by omega
            have ex : ys.getD i 0 = zs.getD i 0 := by rw [← F7.out.2.1, List.getD, List.getD, List.getElem?_take_of_lt iln]
            obtain ⟨x, hx⟩ : ∃ x, zs.getD i 0 = x := ⟨_, rfl⟩
            rw [ex, hx] at cy
            have cx : ∃ b off, p = some ⟨b, off, none⟩ ∧ wr.cell? ⟨b, off + i, none⟩ = some (.int .u64 x) := by
              rcases A0.out.2.1 with z | ⟨b, off, hp, hc⟩
              · have := A0.out.1; rw [z] at this; simp at this; omega
              · have := hc i (by rw [A0.out.1]; exact iln)
                rw [hx] at this
                exact ⟨b, off, hp, by rw [I.out.2.cell (p := ⟨b, off + i, none⟩) (by rw [← HG.out]; exact cell_lt this)]; exact this⟩
            obtain ⟨b, off, rfl, cx⟩ := cx
            clear I ex hx iy
            go_upto_region 13 with fail
            go_quiet (fail)
            all_goals (go_wp2_with fail; go_roundg (u - (i + 1)))
            case measure => omega
            case rel => exact ⟨i + 1, by omega, by go_num, I9.out.1, I9.out.2.os, I9.out.2.tape, I9.out.2.output, I9.out.2.size, I9.out.2.block⟩
          · have ilni : ¬ (i : Int) < (n : Int) := by omega
            have nge : (n : Int) ≤ (i : Int) := by omega
            have ex : ys.getD i 0 = 77 + (i : Int) := F7.out.2.2 i (by omega) il
            obtain ⟨x, hx⟩ : ∃ x, 77 + (i : Int) = x := ⟨_, rfl⟩
            rw [ex, hx] at cy
            have w1 : IntKind.i64.wrap (77 + (i : Int)) = x := by rw [hx, IntKind.wrap_i64]; omega
            have w2 : IntKind.u64.wrap x = x := by rw [Sh.wrap_mod]; omega
            clear I ex hx iy
            go_upto_region 13 with fail
            go_quiet (fail)
            all_goals (go_wp2_with fail; go_roundg (u - (i + 1)))
            case measure => omega
            case rel => exact ⟨i + 1, by omega, by go_num, I9.out.1, I9.out.2.os, I9.out.2.tape, I9.out.2.output, I9.out.2.size, I9.out.2.block⟩
        · obtain rfl : i = u := by omega
          have ili : ¬ (i : Int) < (i : Int) := by omega
          go_wp2_with fail
          go_ret
          exact ⟨rfl, by rw [HG.out]; exact I.out.2⟩
end Go.Proofs.YtbdilikdenhnkaaDoor
