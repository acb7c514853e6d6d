/-
  quot's Log.
-/
import Derived.Test.YthfechigdiefpaaQLog
import Derived.Test.YthfechigdiefpaaFromW
namespace Go.Proofs.Ythfechigdiefpaa
open Go.RowKit Go.Deep

theorem pos_of_tsize {zs : List Int} (hl : Nm.Limbs zs) (h : 0 < Nm.tsize zs) : 1 ≤ Nm.val zs := by
  have h1 := Nm.tsize_le_iff hl 0
  have h2 := (Nm.val_bd zs hl).1
  simp only [Nm.pw] at h1
  omega

/-- The list of rows, as a slice. -/
theorem RowsIn.shape {base : Nat} {b A : Int} {mv : Value} {l : List (Option Addr × List Int)} {w : World} (h : RowsIn base b A mv l w) : ∃ pm cp, mv = .slice pm l.length cp := by
  rcases h.own.2 with ⟨rfl, h0⟩ | ⟨gm, cp, cur, rfl, _⟩
  · exact ⟨none, 0, by rw [h0]⟩
  · exact ⟨_, cp, rfl⟩

theorem RowsIn.at {base : Nat} {b A : Int} {pm : Option Addr} {k cp : Nat} {l : List (Option Addr × List Int)} {w : World} (h : RowsIn base b A (.slice pm k cp) l w) {s : Nat} (hs : s < l.length) :
    ∃ gm r us, pm = some ⟨gm, 0, none⟩ ∧ w.cell? ⟨gm, s, none⟩ = some (.slice r (List.length us) (List.length us)) ∧ RowIn w (.slice pm k cp) (r, us) (b ^ (2 ^ s)) ∧ b ^ (2 ^ s) ≤ A := by
  have he : l[s]? = some l[s] := List.getElem?_eq_getElem hs
  rcases h.own.2 with ⟨_, h0⟩ | ⟨gm, cp', cur, hv, _⟩
  · omega
  · simp only [Value.slice.injEq] at hv
    obtain ⟨rfl, rfl, rfl⟩ := hv
    refine ⟨gm, (l[s]).1, (l[s]).2, rfl, ?_, h.row s _ he⟩
    have := h.own.cells (g := gm) rfl s (rowV l[s]) (by rw [List.getElem?_map, he]; rfl)
    rw [Go.WideShapes.add_plain, Nat.zero_add] at this
    exact this

theorem log_big (p : Option Addr) (m cap : Nat) (zs : List Int) (b : Int) (w : World) (ha : Arg w p m cap zs) (tz : 4096 < Nm.tsize zs) :
    Calls Try.prog 32 #[.slice p m cap, .int .u64 b] w fun e w' => e = .returned (.tuple #[.int .i64 0, .int .i64 2]) ∧ w' = w := by
  obtain ⟨N, HN⟩ : ∃ N, Hid (Nm.tsize zs = N) := ⟨_, rfl⟩
  have hN : (4096 : Int) < (N : Int) := by have := HN.out; omega
  have HL := hid (limbs_isT p m cap zs N w ha HN.out)
  clear ha tz
  go_enter Try.func32, Try.ntmps32
  go_wp2_with fail
  refine HL.out.mono ?_
  rintro e w' ⟨rfl, rfl⟩
  go_wp2_with fail
  go_ret2
  exact ⟨rfl, rfl⟩

theorem log_zero (p : Option Addr) (m cap : Nat) (zs : List Int) (b : Int) (w : World) (ha : Arg w p m cap zs) (tz : Nm.tsize zs = 0) :
    Calls Try.prog 32 #[.slice p m cap, .int .u64 b] w fun e w' => e = .returned (.tuple #[.int .i64 0, .int .i64 4]) ∧ w' = w := by
  have HL := hid (limbs_isT p m cap zs 0 w ha tz)
  clear ha tz
  go_enter Try.func32, Try.ntmps32
  go_wp2_with fail
  refine HL.out.mono ?_
  rintro e w' ⟨rfl, rfl⟩
  go_wp2_with fail
  refine HL.out.mono ?_
  rintro e w' ⟨rfl, rfl⟩
  go_wp2_with fail
  go_ret2
  exact ⟨rfl, rfl⟩

theorem log_arg (p : Option Addr) (m cap : Nat) (zs : List Int) (b : Int) (w : World) (ha : Arg w p m cap zs) (tz : Nm.tsize zs ≤ 4096) (t0 : 0 < Nm.tsize zs) (hb : b < 2) :
    Calls Try.prog 32 #[.slice p m cap, .int .u64 b] w fun e w' => e = .returned (.tuple #[.int .i64 0, .int .i64 1]) ∧ w' = w := by
  obtain ⟨N, HN⟩ : ∃ N, Hid (Nm.tsize zs = N) := ⟨_, rfl⟩
  have hN : (N : Int) ≤ 4096 := by have := HN.out; omega
  have hN1 : (0 : Int) < (N : Int) := by have := HN.out; omega
  have hN2 : ((N : Int) == 0) = false := by rw [beq_eq_false_iff_ne]; omega
  have HL := hid (limbs_isT p m cap zs N w ha HN.out)
  clear ha tz t0
  go_enter Try.func32, Try.ntmps32
  go_wp2_with fail
  refine HL.out.mono ?_
  rintro e w' ⟨rfl, rfl⟩
  go_wp2_with fail
  refine HL.out.mono ?_
  rintro e w' ⟨rfl, rfl⟩
  go_wp2_with fail
  go_ret2
  exact ⟨rfl, rfl⟩

/-- What both tell of a logarithm. -/
def Told (A b : Int) (w : World) (e : Ending) (w' : World) : Prop := ∃ n : Nat, e = .returned (.tuple #[.int .i64 (n : Int), .int .i64 0]) ∧ Ln.IsLog A b n ∧ Below w.heap.size w w'

theorem exp_small {A b : Int} {n : Nat} (hb : 2 ≤ b) (h : b ^ n ≤ A) (hA : A < Nm.pw 4096) : (n : Int) ≤ 262143 := by
  have := Ln.small hb h (by rw [← pw_big]; exact hA)
  omega

set_option maxRecDepth 100000 in
set_option maxHeartbeats 4000000 in
theorem log_ok (p : Option Addr) (m cap : Nat) (za : List Int) (A b : Int) (w : World) (ha : Arg w p m cap za) (hA : Nm.val za = A) (tz : Nm.tsize za ≤ 4096) (t0 : 0 < Nm.tsize za) (hb0 : 2 ≤ b) (hb1 : b < 18446744073709551616) :
    Calls Try.prog 32 #[.slice p m cap, .int .u64 b] w fun e w' => Told A b w e w' := by
  obtain ⟨N, HN⟩ : ∃ N, Hid (Nm.tsize za = N) := ⟨_, rfl⟩
  have hN : (N : Int) ≤ 4096 := by have := HN.out; omega
  have hN1 : (0 : Int) < (N : Int) := by have := HN.out; omega
  have hN2 : ((N : Int) == 0) = false := by rw [beq_eq_false_iff_ne]; omega
  have HL := hid (limbs_isT p m cap za N w ha HN.out)
  have hAs : ShutL (A < Nm.pw 4096) := ⟨by rw [← hA]; exact (Nm.tsize_le_iff ha.2.2.2.2 4096).1 tz⟩
  have hA1 : Hid (1 ≤ A) := by show _ ≤ _; rw [← hA]; exact pos_of_tsize ha.2.2.2.2 t0
  have HV := hid hA
  have HA := hid ha
  have HT := hid tz
  have FU := hid (fromUint_any b w (by omega) hb1)
  have HB1 := hid hb1
  clear ha hA tz t0 hb1
  go_enter Try.func32, Try.ntmps32
  go_wp2_with fail
  refine HL.out.mono ?_
  rintro e w' ⟨rfl, rfl⟩
  go_wp2_with fail
  refine HL.out.mono ?_
  rintro e w' ⟨rfl, rfl⟩
  go_wp2_with fail
  refine FU.out.mono ?_
  rintro e w1 ⟨r1, os1, rfl, A1, d1⟩
  have SQ := hid (squares_any r1 p m cap os1 za b A _ w1 A1 hb0 HB1.out (HA.out.below d1 (Nat.le_refl _)) HV.out HT.out)
  have D1 := hid d1
  clear A1 d1 FU HL
  go_wp2_with fail
  refine SQ.out.mono ?_
  rintro e w2 ⟨mv, l, rfl, F2⟩
  obtain ⟨pm, cp, hmv⟩ := F2.out.1.shape
  subst hmv
  obtain ⟨k, HK⟩ : ∃ k, Hid (l.length = k) := ⟨_, rfl⟩
  have hk18 : (k : Int) ≤ 18 := by have := HK.out; have := F2.out.2.2.1; omega
  have RI := hid F2.out.1
  have HW0 : Hid (Ln.Way A b 0 k) := by
    have h := F2.out.2.1
    rw [HK.out] at h
    exact Ln.Way.first hA1.out h
  have D2 := hid (chain D1.out F2.out.2.2.2 (Nat.le_refl _))
  rw [HK.out] at RI
  rw [HK.out]
  clear F2 SQ D1
  have F1 := hid (fromUint_any 1 w2 (by omega) (by omega))
  go_wp2_with fail
  refine F1.out.mono ?_
  rintro e w3 ⟨r3, os3, rfl, A3, d3⟩
  have RI3 := hid (RI.out.below d3)
  have D3 := hid (chain D2.out d3 (Nat.le_refl _))
  have HA3 : Hid (Ans w'.heap.size w3 r3 os3 (b ^ 0)) := by
    rw [Int.pow_zero]
    exact ⟨A3.1, A3.2.1, A3.2.2.1, A3.2.2.2.1, fun a ha => Nat.le_trans D2.out.size (A3.2.2.2.2 a ha)⟩
  clear A3 d3 F1 RI D2
  go_wp2_with fail
  go_loopg [7, 8, 9] k (fun j c o i wr => ∃ (n : Nat) (r : Option Addr) (os : List Int), c = .int .i64 (n : Int) ∧ o = .slice r (List.length os) (List.length os) ∧ i = .int .i64 ((j : Int) - 1) ∧ j ≤ k ∧ Hid (RowsIn w1.heap.size b A (.slice pm k cp) l wr) ∧ Hid (Ans w'.heap.size wr r os (b ^ n)) ∧ Hid (Ln.Way A b n j) ∧ Hid (Below w'.heap.size w' wr))
  case atStart => exact ⟨0, r3, os3, rfl, rfl, by go_num, Nat.le_refl _, RI3.out, HA3.out, HW0.out, D3.out⟩
  case round =>
    clear RI3 HA3 HW0 D3
    obtain ⟨n, r, os, rfl, rfl, rfl, hj, RI, HR, HW, D⟩ := hrel
    cases gk with
    | zero =>
      have F : Hid (Told A b w' (.returned (.tuple #[.int .i64 (n : Int), .int .i64 0])) wr) := ⟨n, rfl, HW.out.last, D.out⟩
      clear RI HR HW D
      go_wp2_with fail
      go_ret2
      exact F.out
    | succ s =>
      have hs18 : (s : Int) < 18 := by omega
      have hn := exp_small hb0 HW.out.1 hAs.out
      have hbn : ShutL (b ^ n < Nm.pw 4096) := ⟨Int.lt_of_le_of_lt HW.out.1 hAs.out⟩
      obtain ⟨gm, q, us, hpm, hcell, hq, hqA⟩ := RI.out.at (s := s) (by have := HK.out; omega)
      subst hpm
      have hgm : gm < wr.heap.size := by
        rcases Nat.lt_or_ge gm wr.heap.size with h | h
        · exact h
        · simp only [World.cell?, Array.getElem?_eq_none h] at hcell
          exact absurd hcell (by simp)
      have lus : Nm.tsize us ≤ 4096 := (Nm.tsize_le_iff hq.2.1 4096).2 (by rw [show Nm.val us = b ^ (2 ^ s) from hq.2.2.2.1]; exact Int.lt_of_le_of_lt hqA hAs.out)
      have MU := hid (mul_gives r q _ _ _ _ os us (b ^ n * b ^ (2 ^ s)) wr (HR.out.argT hbn.out) (hq.arg (by have := hq.2.2.1; simp only at this ⊢; omega)) (HR.out.tsT hbn.out) lus (by rw [show Nm.val us = b ^ (2 ^ s) from hq.2.2.2.1, show Nm.val os = b ^ n from HR.out.2.2.2.1]))
      obtain ⟨PP, HP⟩ : ∃ P : Int, Hid (2 ^ s = P) := ⟨_, rfl⟩
      have hPN : Hid (((2 ^ s : Nat) : Int) = PP) := by show _ = _; rw [← HP.out]; simp
      have hP1 : 1 ≤ PP := by have := Nm.two_pos s; rw [HP.out] at this; omega
      have hP2 : PP ≤ 131072 := by
        have h2 := Nm.two_mono (show s ≤ 17 by omega)
        rw [show (2 : Int) ^ 17 = 131072 by decide, HP.out] at h2
        exact h2
      have q1 : IntKind.i64.wrap (2 ^ s) = PP := by
        rw [HP.out, IntKind.wrap_i64]
        omega
      rw [show ((s + 1 : Nat) : Int) - 1 = (s : Int) by omega]
      clear hq hqA lus
      go_wp2_with fail
      refine MU.out.mono ?_
      rintro e w4 ⟨h | h, d4⟩
      · obtain ⟨h1, r4, us4, rfl, A4⟩ := h
        have HA4 := hid (HA.out.below (chain D.out d4 (Nat.le_refl _)) (Nat.le_refl _))
        have HX : Hid (Ans w'.heap.size w4 r4 us4 (b ^ n * b ^ (2 ^ s))) := ⟨A4.1, A4.2.1, A4.2.2.1, A4.2.2.2.1, fun a ha => Nat.le_trans D.out.size (A4.2.2.2.2 a ha)⟩
        obtain ⟨c, hc0⟩ : ∃ c, cmpI (b ^ n * b ^ (2 ^ s)) A = c := ⟨_, rfl⟩
        have HC := hid hc0
        clear hc0
        have CM := hid (cmp_is c r4 p _ _ m cap us4 za w4 (A4.argT h1) HA4.out (by rw [show Nm.val us4 = b ^ n * b ^ (2 ^ s) from A4.2.2.2.1, HV.out]; exact HC.out))
        have RI4 := hid (RI.out.below d4)
        have HR4 := hid (HR.out.below d4 (Nat.le_refl _))
        have D4 := hid (chain D.out d4 (Nat.le_refl _))
        clear h1 A4 d4 MU RI HR D HA4 hcell
        by_cases hgt : A < b ^ n * b ^ (2 ^ s)
        · have hc : c = 1 := by rw [← HC.out]; exact cmpI_gt hgt
          have HW2 := hid (HW.out.skip hgt)
          subst hc
          clear hgt HW
          go_wp2_with fail
          refine CM.out.mono ?_
          rintro e w5 ⟨rfl, d5⟩
          have RI5 := hid (RI4.out.below d5)
          have HR5 := hid (HR4.out.below d5 (Nat.le_refl _))
          have D5 := hid (chain D4.out d5 (Nat.le_refl _))
          clear d5 CM RI4 HR4 D4
          go_wp2_with fail
          go_roundg s
          case measure => omega
          case rel => exact ⟨n, r, os, rfl, rfl, by go_num, by omega, RI5.out, HR5.out, HW2.out, D5.out⟩
        · have hcle : c ≤ 0 := by
            rw [← HC.out]
            rcases (show b ^ n * b ^ (2 ^ s) = A ∨ b ^ n * b ^ (2 ^ s) < A by omega) with h | h
            · rw [cmpI_eq h]; omega
            · rw [cmpI_lt h]; omega
          have HW2 := hid (HW.out.take (Int.not_lt.1 hgt))
          have hPP : Hid (((n + 2 ^ s : Nat) : Int) = (n : Int) + PP) := by show _ = _; rw [Int.natCast_add, hPN.out]
          clear hgt HW
          go_wp2_with fail
          refine CM.out.mono ?_
          rintro e w5 ⟨rfl, d5⟩
          have RI5 := hid (RI4.out.below d5)
          have HX5 := hid (HX.out.below d5 (Nat.le_refl _))
          have D5 := hid (chain D4.out d5 (Nat.le_refl _))
          clear d5 CM RI4 HR4 D4
          go_wp2_with fail
          go_roundg s
          case measure => omega
          case rel => exact ⟨n + 2 ^ s, r4, us4, by rw [hPP.out], rfl, by go_num, by omega, RI5.out, by rw [Int.pow_add]; exact HX5.out, HW2.out, D5.out⟩
      · obtain ⟨h1, rfl⟩ := h
        have HW2 := hid (HW.out.skip (Int.lt_of_lt_of_le hAs.out h1))
        have RI4 := hid (RI.out.below d4)
        have HR4 := hid (HR.out.below d4 (Nat.le_refl _))
        have D4 := hid (chain D.out d4 (Nat.le_refl _))
        clear h1 d4 MU RI HR D HW hcell
        go_wp2_with fail
        go_roundg s
        case measure => omega
        case rel => exact ⟨n, r, os, rfl, rfl, by go_num, by omega, RI4.out, HR4.out, HW2.out, D4.out⟩
end Go.Proofs.Ythfechigdiefpaa
