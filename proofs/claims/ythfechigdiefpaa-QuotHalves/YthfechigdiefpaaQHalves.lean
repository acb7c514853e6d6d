/-
  THE WALK OF QuotHalves.
-/
import Derived.Test.YthfechigdiefpaaQNear
import Derived.Test.YthfechigdiefpaaShl
namespace Go.Proofs.Ythfechigdiefpaa
open Go.RowKit Go.Deep

/-- How far A is from N * B. -/
def gapI (A B N : Int) : Int := if A < N * B then N * B - A else A - N * B

set_option maxRecDepth 100000 in
set_option maxHeartbeats 1000000 in
theorem gap_ok (p q r : Option Addr) (n cap m cap' k c : Nat) (za zb zn : List Int) (w : World) (ha : Arg w p n cap za) (hb : Arg w q m cap' zb) (hn : Arg w r k c zn) (tz : Nm.tsize za ≤ 4096) (ty : Nm.tsize zb ≤ 4096) (tn : Nm.tsize zn ≤ 4096) (hs : Nm.val zn * Nm.val zb < Nm.pw 4096) :
    Calls Try.prog 20 #[.slice p n cap, .slice q m cap', .slice r k c] w fun e w' => ∃ t os, e = .returned (.tuple #[.slice t (List.length os) (List.length os), .bool true]) ∧ Ans w.heap.size w' t os (gapI (Nm.val za) (Nm.val zb) (Nm.val zn)) ∧ Below w.heap.size w w' := by
  have M := hid (mul_ok r q k c m cap' zn zb w hn hb tn ty hs)
  have HA := hid ha
  have HS := hid hs
  have HT := hid tz
  clear ha hb hn tz ty tn hs
  go_enter Try.func20, Try.ntmps20
  go_wp2_with fail
  refine M.out.mono ?_
  rintro e w1 ⟨s1, ps, rfl, B1, hb1⟩
  have HB1 := hid B1
  have HA1 := hid (HA.out.below hb1 (Nat.le_refl _))
  have D1 := hid hb1
  clear B1 hb1 M HA
  rcases (show Nm.val za < Nm.val zn * Nm.val zb ∨ ¬ Nm.val za < Nm.val zn * Nm.val zb by omega) with h | h
  · have E : Hid (gapI (Nm.val za) (Nm.val zb) (Nm.val zn) = Nm.val zn * Nm.val zb - Nm.val za) := by show _ = _; rw [gapI, if_pos h]
    have HL := hid h
    clear h
    go_wp2_with fail
    refine (cmp_is (-1) p s1 n cap _ _ za ps _ HA1.out (HB1.out.argS HS.out) (cmpI_lt (by rw [HB1.out.2.2.2.1]; exact HL.out))).mono ?_
    rintro e w2 ⟨rfl, hb2⟩
    have HB2 := hid (HB1.out.below hb2 (Nat.le_refl _))
    have HA2 := hid (HA1.out.below hb2 (Nat.le_refl _))
    have D2 := hid (chain D1.out hb2 (Nat.le_refl _))
    clear hb2
    go_wp2_with fail
    refine (sub_ok s1 p _ _ n cap ps za _ (HB2.out.argS HS.out) HA2.out (HB2.out.ts HS.out) (by rw [HB2.out.2.2.2.1]; have := HL.out; omega)).mono ?_
    rintro e w3 ⟨s2, ds, rfl, B3, hb3⟩
    rw [HB2.out.2.2.2.1, ← E.out] at B3
    have HB3 := hid (B3.up D2.out.size)
    have D3 := hid (chain D2.out hb3 (Nat.le_refl _))
    clear B3 hb3
    go_wp2_with fail
    go_ret2
    exact ⟨s2, ds, rfl, HB3.out, D3.out⟩
  · have E : Hid (gapI (Nm.val za) (Nm.val zb) (Nm.val zn) = Nm.val za - Nm.val zn * Nm.val zb) := by show _ = _; rw [gapI, if_neg h]
    have HL := hid h
    obtain ⟨c1, hc0, HC⟩ : ∃ c : Int, 0 ≤ c ∧ Hid (cmpI (Nm.val za) (Nm.val zn * Nm.val zb) = c) := by
      rcases (show Nm.val za = Nm.val zn * Nm.val zb ∨ Nm.val zn * Nm.val zb < Nm.val za by omega) with h | h
      · exact ⟨0, by omega, cmpI_eq h⟩
      · exact ⟨1, by omega, cmpI_gt h⟩
    clear h
    go_wp2_with fail
    refine (cmp_is c1 p s1 n cap _ _ za ps _ HA1.out (HB1.out.argS HS.out) (by rw [HB1.out.2.2.2.1]; exact HC.out)).mono ?_
    rintro e w2 ⟨rfl, hb2⟩
    have HB2 := hid (HB1.out.below hb2 (Nat.le_refl _))
    have HA2 := hid (HA1.out.below hb2 (Nat.le_refl _))
    have D2 := hid (chain D1.out hb2 (Nat.le_refl _))
    clear hb2
    go_wp2_with fail
    refine (sub_ok p s1 n cap _ _ za ps _ HA2.out (HB2.out.argS HS.out) HT.out (by rw [HB2.out.2.2.2.1]; have := HL.out; omega)).mono ?_
    rintro e w3 ⟨s2, ds, rfl, B3, hb3⟩
    rw [HB2.out.2.2.2.1, ← E.out] at B3
    have HB3 := hid (B3.up D2.out.size)
    have D3 := hid (chain D2.out hb3 (Nat.le_refl _))
    clear B3 hb3
    go_wp2_with fail
    go_ret2
    exact ⟨s2, ds, rfl, HB3.out, D3.out⟩

theorem near_facts {A B P : Int} (hA : 0 ≤ A) (hAP : A < P) (hB : 0 < B) (hBP : B < P) : 0 ≤ nearI A B ∧ nearI A B * B < 2 * P ∧ nearI A B < 2 * P ∧ 0 ≤ gapI A B (nearI A B) ∧ gapI A B (nearI A B) ≤ B ∧ (2 * gapI A B (nearI A B) < B ∨ (2 * gapI A B (nearI A B) = B ∧ nearI A B % 2 = 0)) := by
  obtain ⟨h1, h2, h3, h4, h5, h6, h7, h8⟩ := split_facts hA hAP hB
  obtain ⟨Q, hQ⟩ : ∃ Q, A / B = Q := ⟨_, rfl⟩
  obtain ⟨R, hR⟩ : ∃ R, A % B = R := ⟨_, rfl⟩
  rw [hQ] at h1 h2 h4 h7 h8
  rw [hR] at h1 h3 h5 h6 h8
  rw [nearI, hQ, hR]
  by_cases c : 2 * R < B ∨ (2 * R = B ∧ Q % 2 = 0)
  · rw [if_pos c, gapI]
    rw [if_neg (by omega)]
    generalize Q * B = X at *
    refine ⟨h7, by omega, by omega, by omega, by omega, by omega⟩
  · rw [if_neg c, gapI, Int.add_mul, Int.one_mul]
    by_cases c2 : A < Q * B + B
    · rw [if_pos c2]
      generalize Q * B = X at *
      refine ⟨by omega, by omega, by omega, by omega, by omega, by omega⟩
    · rw [if_neg c2]
      generalize Q * B = X at *
      refine ⟨by omega, by omega, by omega, by omega, by omega, by omega⟩

theorem two_pw_any (k : Nat) : 2 * Nm.pw k < Nm.pw (k + 2) := by
  rw [show k + 2 = k + 1 + 1 from rfl, Nm.pw_succ, Nm.pw_succ]
  have := Nm.pw_pos k
  omega

theorem two_pw : 2 * Nm.pw 4094 < Nm.pw 4096 := two_pw_any 4094

/-- Twice a number that leaves room. -/
theorem shl_twice (p : Option Addr) (zs : List Int) (B : Nat) (d : Int) (w : World) (ha : Ans B w p zs d) (hd : d < Nm.pw 4094) :
    Calls Try.prog 21 #[.slice p (List.length zs) (List.length zs), .int .i64 1] w fun e w' => ∃ r os, e = .returned (.tuple #[.slice r (List.length os) (List.length os), .int .i64 0]) ∧ Ans w.heap.size w' r os (2 * d) ∧ Below w.heap.size w w' := by
  have ts : Nm.tsize zs ≤ 4094 := (Nm.tsize_le_iff ha.2.1 4094).2 (by rw [ha.2.2.2.1]; exact hd)
  have hl := ha.2.2.1
  by_cases hz : Nm.tsize zs = 0
  · refine (shl_zero p _ _ zs 1 w (ha.arg (by omega)) (by omega) hz).mono ?_
    rintro e w' ⟨rfl, rfl⟩
    have hv := (Nm.tsize_zero_iff ha.2.1).1 hz
    rw [ha.2.2.2.1] at hv
    refine ⟨none, [], rfl, ?_, Below.refl _ _⟩
    rw [hv]
    exact ans_none _ _ _ (fun a h => by cases h)
  · obtain ⟨L, l1, _, l3, _⟩ := blen_is (Nm.trim zs) ha.2.1.trim
    rw [Nm.trim_trim] at l3
    refine (shl_ok p _ _ zs 1 1 L w (ha.arg (by omega)) (by omega) rfl (by omega) l1 (by omega)).mono ?_
    rintro e w' ⟨r, os, rfl, A, hb⟩
    rw [ha.2.2.2.1, show d * 2 ^ 1 = 2 * d by omega] at A
    exact ⟨r, os, rfl, A, hb⟩

set_option maxRecDepth 100000 in
set_option maxHeartbeats 4000000 in
theorem halves_any (p q : Option Addr) (n cap m cap' : Nat) (za zb : List Int) (w : World) (ha : Arg w p n cap za) (hb : Arg w q m cap' zb) :
    Calls Try.prog 6 #[.slice p n cap, .slice q m cap'] w fun e w' => e = .returned (.bool true) ∧ Below w.heap.size w w' := by
  have hn := ha.2.1
  have hn' := ha.2.2.1
  have hm := hb.2.1
  have hm' := hb.2.2.1
  have HA := hid ha
  have HB := hid hb
  clear ha hb
  go_enter Try.func6, Try.ntmps6
  go_wp2_with fail
  refine (one_any 3 _ (by omega) (by omega)).mono ?_
  rintro e w1 ⟨r1, rfl, A1, hb1⟩
  have HA1 := hid A1
  have D1 := hid hb1
  clear A1 hb1
  go_wp2_with fail
  refine (one_any 2 _ (by omega) (by omega)).mono ?_
  rintro e w2 ⟨r2, rfl, A2, hb2⟩
  have HA2 := hid A2
  have HA1' := hid (HA1.out.below hb2 (Nat.le_refl _))
  have D2 := hid (chain D1.out hb2 (Nat.le_refl _))
  clear A2 hb2 HA1 D1
  go_wp2_with fail
  refine (near_ok r1 r2 1 1 1 1 [3] [2] _ HA1'.out HA2.out (by simp [Nm.tsize]) (by simp [Nm.tsize]) (by simp [Nm.tsize])).mono ?_
  rintro e w3 ⟨s1, os, rfl, B1, hb3⟩
  rw [show nearI (Nm.val [3]) (Nm.val [2]) = 2 by simp [Nm.val, nearI]] at B1
  have HB1 := hid B1
  have D3 := hid (chain D2.out hb3 (Nat.le_refl _))
  clear B1 hb3 HA1' HA2 D2
  go_wp2_with fail
  refine (one_any 2 _ (by omega) (by omega)).mono ?_
  rintro e w4 ⟨r3, rfl, A3, hb4⟩
  have HA3 := hid A3
  have HB1' := hid (HB1.out.below hb4 (Nat.le_refl _))
  have D4 := hid (chain D3.out hb4 (Nat.le_refl _))
  clear A3 hb4 HB1 D3
  go_wp2_with fail
  refine (alike_one HB1'.out (by omega) (by omega) r3 HA3.out).mono ?_
  rintro e w7 ⟨rfl, hb7⟩
  have D7 := hid (chain D4.out hb7 (Nat.le_refl _))
  have HA7 := hid (HA.out.below D7.out (Nat.le_refl _))
  have HB7 := hid (HB.out.below D7.out (Nat.le_refl _))
  clear hb7 HB1' HA3 D4
  by_cases hbig : 4096 < Nm.tsize za ∨ 4096 < Nm.tsize zb
  · have HG := hid hbig
    clear hbig
    go_wp2_with fail
    refine (near_big p q n cap m cap' za zb _ HA7.out HB7.out HG.out).mono ?_
    rintro e w8 ⟨rfl, rfl⟩
    go_wp2_with fail
    refine (errs_big p q n cap m cap' za zb _ HA7.out HB7.out HG.out).mono ?_
    rintro e w8 ⟨rfl, rfl⟩
    go_wp2_with fail
    go_ret
    exact ⟨rfl, D7.out⟩
  by_cases hzero : Nm.tsize zb = 0
  · have HZ := hid hzero
    have HG : Hid (Nm.tsize za ≤ 4096) := by show _ ≤ _; omega
    clear hbig hzero
    go_wp2_with fail
    refine (near_zero p q n cap m cap' za zb _ HA7.out HB7.out HG.out HZ.out).mono ?_
    rintro e w8 ⟨rfl, hb8⟩
    have D8 := hid (chain D7.out hb8 (Nat.le_refl _))
    have HA8 := hid (HA7.out.below hb8 (Nat.le_refl _))
    have HB8 := hid (HB7.out.below hb8 (Nat.le_refl _))
    clear hb8
    go_wp2_with fail
    refine (errs_zero p q n cap m cap' za zb _ HA8.out HB8.out HG.out HZ.out).mono ?_
    rintro e w8 ⟨rfl, rfl⟩
    go_wp2_with fail
    go_ret
    exact ⟨rfl, D8.out⟩
  · have HG : Hid (Nm.tsize za ≤ 4096) := by show _ ≤ _; omega
    have HG' : Hid (Nm.tsize zb ≤ 4096) := by show _ ≤ _; omega
    have HZ : Hid (0 < Nm.tsize zb) := by show _ < _; omega
    clear hbig hzero
    go_wp2_with fail
    refine (near_ok p q n cap m cap' za zb _ HA7.out HB7.out HG.out HG'.out HZ.out).mono ?_
    rintro e w8 ⟨s2, ns, rfl, B2, hb8⟩
    have D8 := hid (chain D7.out hb8 (Nat.le_refl _))
    have HA8 := hid (HA7.out.below hb8 (Nat.le_refl _))
    have HB8 := hid (HB7.out.below hb8 (Nat.le_refl _))
    have HB2 := hid B2
    clear hb8 B2 HA7 HB7 D7
    go_wp2_with fail
    refine (errs_ok p q n cap m cap' za zb _ HA8.out HB8.out HG.out HG'.out HZ.out).mono ?_
    rintro e w8 ⟨rfl, rfl⟩
    go_wp2_with fail
    refine (top_any p n cap za _ HA8.out.1 (by omega) HA8.out.2.2.2.1).mono ?_
    rintro e w8 ⟨rfl, rfl⟩
    by_cases h1 : 4094 < Nm.tsize za
    · have h1' : (4094 : Int) < (Nm.tsize za : Int) := by omega
      go_wp2_with fail
      go_ret
      exact ⟨rfl, D8.out⟩
    have h1' : (Nm.tsize za : Int) ≤ 4094 := by omega
    go_wp2_with fail
    refine (top_any q m cap' zb _ HB8.out.1 (by omega) HB8.out.2.2.2.1).mono ?_
    rintro e w8 ⟨rfl, rfl⟩
    by_cases h2 : 4094 < Nm.tsize zb
    · have h2' : (4094 : Int) < (Nm.tsize zb : Int) := by omega
      go_wp2_with fail
      go_ret
      exact ⟨rfl, D8.out⟩
    have h2' : (Nm.tsize zb : Int) ≤ 4094 := by omega
    have va := (Nm.val_bd za HA.out.2.2.2.2).1
    have vb : 0 < Nm.val zb := by
      have h1 := Nm.tsize_zero_iff HB.out.2.2.2.2
      have h2 := (Nm.val_bd zb HB.out.2.2.2.2).1
      have := HZ.out
      omega
    have NF := hid (near_facts va ((Nm.tsize_le_iff HA.out.2.2.2.2 4094).1 (by omega)) vb ((Nm.tsize_le_iff HB.out.2.2.2.2 4094).1 (by omega)))
    have hbp : Hid (Nm.val zb < Nm.pw 4094) := (Nm.tsize_le_iff HB.out.2.2.2.2 4094).1 (by omega)
    have TP := hid two_pw
    obtain ⟨N, HN⟩ : ∃ N, Hid (nearI (Nm.val za) (Nm.val zb) = N) := ⟨_, rfl⟩
    rw [HN.out] at NF HB2
    have hN : Hid (N < Nm.pw 4096) := Int.lt_trans NF.out.2.2.1 TP.out
    have hNB : Hid (N * Nm.val zb < Nm.pw 4096) := Int.lt_trans NF.out.2.1 TP.out
    clear va vb h1 h2
    go_wp2_with fail
    refine (gap_ok p q s2 n cap m cap' _ _ za zb ns _ HA8.out HB8.out (HB2.out.argS hN.out) HG.out HG'.out (HB2.out.ts hN.out) (by rw [HB2.out.2.2.2.1]; exact hNB.out)).mono ?_
    rintro e w9 ⟨s3, ds, rfl, B3, hb9⟩
    rw [HB2.out.2.2.2.1] at B3
    obtain ⟨G, HGP⟩ : ∃ G, Hid (gapI (Nm.val za) (Nm.val zb) N = G) := ⟨_, rfl⟩
    rw [HGP.out] at B3 NF
    have HB3 := hid B3
    have D9 := hid (chain D8.out hb9 (Nat.le_refl _))
    have HB9 := hid (HB8.out.below hb9 (Nat.le_refl _))
    have HB2' := hid (HB2.out.below hb9 (Nat.le_refl _))
    clear B3 hb9 HA8 HB8 D8 HB2
    go_wp2_with fail
    refine (shl_twice s3 ds _ G _ HB3.out (Int.lt_of_le_of_lt NF.out.2.2.2.2.1 hbp.out)).mono ?_
    rintro e w10 ⟨s4, us, rfl, B4, hb10⟩
    have HB4 := hid B4
    have D10 := hid (chain D9.out hb10 (Nat.le_refl _))
    have HB10 := hid (HB9.out.below hb10 (Nat.le_refl _))
    have HB2 := hid (HB2'.out.below hb10 (Nat.le_refl _))
    have hT : Hid (2 * G < Nm.pw 4096) := by
      have h1 := NF.out.2.2.2.2.1
      have h2 := hbp.out
      have h3 := TP.out
      show _ < _
      generalize Nm.pw 4094 = x at *
      generalize Nm.pw 4096 = y at *
      omega
    clear B4 hb10 HB9 D9 HB2' HB3
    rcases NF.out.2.2.2.2.2 with c | ⟨c, ce⟩
    · have HC := hid c
      clear c
      go_wp2_with fail
      refine (cmp_is (-1) s4 q _ _ m cap' us zb _ (HB4.out.argS hT.out) HB10.out (cmpI_lt (by rw [HB4.out.2.2.2.1]; exact HC.out))).mono ?_
      rintro e w11 ⟨rfl, hb11⟩
      have D11 := hid (chain D10.out hb11 (Nat.le_refl _))
      clear hb11
      go_wp2_with fail
      go_ret
      exact ⟨rfl, D11.out⟩
    · have HC := hid c
      have HCE := hid ce
      clear c ce
      go_wp2_with fail
      refine (cmp_is 0 s4 q _ _ m cap' us zb _ (HB4.out.argS hT.out) HB10.out (cmpI_eq (by rw [HB4.out.2.2.2.1]; exact HC.out))).mono ?_
      rintro e w11 ⟨rfl, hb11⟩
      have D11 := hid (chain D10.out hb11 (Nat.le_refl _))
      have BI := hid (bit_any s2 _ _ ns 0 0 w11 ((HB2.out.below hb11 (Nat.le_refl _)).argS hN.out) (by omega) rfl)
      rw [HB2.out.2.2.2.1, show N / 2 ^ 0 % 2 = 0 by simp; exact HCE.out] at BI
      clear hb11
      go_wp2_with fail
      refine BI.out.mono ?_
      rintro e w12 ⟨rfl, rfl⟩
      go_wp2_with fail
      go_ret
      exact ⟨rfl, D11.out⟩
end Go.Proofs.Ythfechigdiefpaa
