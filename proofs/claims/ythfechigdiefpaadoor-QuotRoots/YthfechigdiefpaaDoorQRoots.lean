/-
  THE WALKS OF layer 2's roots AND QuotRoots.
-/
import Derived.Test.YthfechigdiefpaaDoorQRootRef
import Derived.Test.YthfechigdiefpaaDoorQSquaresRoot
import Derived.Test.YthfechigdiefpaaDoorOpenPairs
namespace Go.Proofs.YthfechigdiefpaaDoor
open Go.RowKit Go.Deep

theorem alike_none (w : World) : Calls Tryd.prog 11 #[.slice none 0 0, .slice none 0 0] w fun e w' => e = .returned (.bool true) ∧ Below w.heap.size w w' :=
  alike_is true none none 0 0 0 0 [] [] w ⟨rfl, Nat.le_refl _, by omega, Lies.nil _ _, Nm.Limbs.nil⟩ ⟨rfl, Nat.le_refl _, by omega, Lies.nil _ _, Nm.Limbs.nil⟩ rfl

set_option maxRecDepth 100000 in
set_option maxHeartbeats 4000000 in
theorem roots_true (p : Option Addr) (n cap : Nat) (za : List Int) (w : World) (ha : Arg w p n cap za) (hT : Tab w) :
    Calls Tryd.prog 5 #[.slice p n cap] w fun e w' => e = .returned (.bool true) ∧ Below w.heap.size w w' := by
  have HA := hid ha
  have HT := hid hT
  clear ha hT
  by_cases hbig : 256 < Nm.tsize za
  · have HG := hid hbig
    clear hbig
    go_enter Tryd.func5, Tryd.ntmps5
    go_wp2_with fail
    refine (rroot_big p n cap za _ HA.out HG.out).mono ?_
    rintro e w1 ⟨rfl, rfl⟩
    go_wp2_with fail
    refine (root_big p n cap za _ HA.out HG.out).mono ?_
    rintro e w1 ⟨rfl, rfl⟩
    go_wp2_with fail
    refine (alike_none _).mono ?_
    rintro e w2 ⟨rfl, hb2⟩
    have D2 := hid hb2
    clear hb2
    go_wp2_with fail
    go_ret
    exact ⟨rfl, D2.out⟩
  · have HG : Hid (Nm.tsize za ≤ 256) := by show _ ≤ _; omega
    clear hbig
    obtain ⟨A, HV⟩ : ∃ A, Hid (Nm.val za = A) := ⟨_, rfl⟩
    have hA2 : Hid (A < Nm.pw 256) := by show _ < _; rw [← HV.out]; exact (Nm.tsize_le_iff HA.out.2.2.2.2 256).1 HG.out
    go_enter Tryd.func5, Tryd.ntmps5
    go_wp2_with fail
    refine (rroot_ok p n cap za A _ HA.out HG.out HV.out).mono ?_
    rintro e w1 ⟨t, os, R, rfl, B1, HR, hb1⟩
    have HB1 := hid B1
    have D1 := hid hb1
    have HA1 := hid (HA.out.below hb1 (Nat.le_refl _))
    have HT1 := hid (HT.out.below hb1)
    clear B1 hb1
    go_wp2_with fail
    refine (root_ok p n cap za A _ HA1.out HT1.out HG.out HV.out).mono ?_
    rintro e w2 ⟨t2, us, R2, rfl, B2, HR2, hb2⟩
    have hRR : R2 = R := Rn.unique HR2.out.1 HR2.out.2.1 HR2.out.2.2 HR.out.1 HR.out.2.1 HR.out.2.2
    subst hRR
    have HB2 := hid B2
    have HB1' := hid (HB1.out.below hb2 (Nat.le_refl _))
    have D2 := hid (chain D1.out hb2 (Nat.le_refl _))
    have hl : Hid (us.length ≤ 17592186044416) := by
      have h1 := len_of B2 (k := 256) (by
        have h1 := HR2.out.1
        have h2 := HR2.out.2.1
        have h3 := hA2.out
        have h4 : R2 ≤ R2 * R2 := by
          rcases (show R2 = 0 ∨ 1 ≤ R2 by omega) with h | h
          · rw [h]; omega
          · have : R2 * 1 ≤ R2 * R2 := Int.mul_le_mul_of_nonneg_left h h1
            omega
        omega)
      show _ ≤ _
      omega
    clear B2 hb2 HB1 D1 HA1 HT1
    by_cases hd : R2 * R2 = A
    · have hdec : decide (R2 * R2 = A) = true := by simp [hd]
      clear hd
      go_wp2_with fail
      refine (alike_ans HB2.out HB1'.out hl.out).mono ?_
      rintro e w3 ⟨rfl, hb3⟩
      have D3 := hid (chain D2.out hb3 (Nat.le_refl _))
      clear hb3
      go_wp2_with fail
      go_ret
      exact ⟨rfl, D3.out⟩
    · have hdec : decide (R2 * R2 = A) = false := by simp [hd]
      clear hd
      go_wp2_with fail
      refine (alike_ans HB2.out HB1'.out hl.out).mono ?_
      rintro e w3 ⟨rfl, hb3⟩
      have D3 := hid (chain D2.out hb3 (Nat.le_refl _))
      clear hb3
      go_wp2_with fail
      go_ret
      exact ⟨rfl, D3.out⟩

theorem PHolds.low {w w' : World} {a : Option Addr} {its : List PIt} (h : PHolds w a its) (hb : Below w.heap.size w w') : PHolds w' a its := by
  rcases h with rfl | ⟨b, off, rfl, h⟩
  · exact .inl rfl
  · refine .inr ⟨b, off, rfl, fun i it hi => ?_⟩
    obtain ⟨h1, h2, h3⟩ := h i it hi
    exact ⟨by rw [hb.cell (p := ⟨b, off + i * 3, none⟩) (cell_lt h1)]; exact h1, by rw [hb.cell (p := ⟨b, off + i * 3 + 1, none⟩) (cell_lt h2)]; exact h2, by rw [hb.cell (p := ⟨b, off + i * 3 + 2, none⟩) (cell_lt h3)]; exact h3⟩

set_option maxRecDepth 100000 in
set_option maxHeartbeats 4000000 in
theorem quotRoots_any (a : Option Addr) (len cap : Nat) (its : List PIt) (w : World) (hl : its.length = len) (hc : len ≤ cap) (hm : cap ≤ 17592186044416) (hp : PHolds w a its) (hi : ∀ it ∈ its, PArg w it) (hT : Tab w) :
    Calls Tryd.prog 3 #[.slice a len cap] w fun e w' => e = .returned (.bool true) ∧ Below w.heap.size w w' := by
  have HL := hid hl
  have HP := hid hp
  have HI := hid hi
  have HT := hid hT
  clear hl hp hi hT
  go_enter Tryd.func3, Tryd.ntmps3
  go_wp2_with fail
  refine (one_any 16 _ (by omega) (by omega)).mono ?_
  rintro e w1 ⟨r1, rfl, A1, hb1⟩
  have HA1 := hid A1
  have D1 := hid hb1
  have HT1 := hid (HT.out.below hb1)
  clear A1 hb1
  go_wp2_with fail
  refine (roots_true r1 1 1 [16] _ HA1.out HT1.out).mono ?_
  rintro e w2 ⟨rfl, hb2⟩
  have D2 := hid (chain D1.out hb2 (Nat.le_refl _))
  clear hb2 HA1 D1 HT1
  go_wp2_with fail
  refine (one_any 15 _ (by omega) (by omega)).mono ?_
  rintro e w1 ⟨r1, rfl, A1, hb1⟩
  have HA1 := hid A1
  have D1 := hid (chain D2.out hb1 (Nat.le_refl _))
  have HT1 := hid (HT.out.below D1.out)
  clear A1 hb1 D2
  go_wp2_with fail
  refine (roots_true r1 1 1 [15] _ HA1.out HT1.out).mono ?_
  rintro e w3 ⟨rfl, hb3⟩
  have D3 := hid (chain D1.out hb3 (Nat.le_refl _))
  clear hb3 HA1 D1 HT1
  go_wp2_with fail
  go_loopw [3] (fun i wr => ∃ j : Nat, j ≤ len ∧ i = .int .i64 j ∧ Hid (Below w.heap.size w wr)) (fun i _ => len - (intOf i).toNat)
  case atStart => exact ⟨0, Nat.zero_le _, rfl, D3.out⟩
  case round =>
    clear D3
    obtain ⟨j, hj, rfl, D⟩ := hrel
    by_cases hlt : j < len
    · obtain ⟨it, hit⟩ : ∃ it, its[j]? = some it := ⟨_, List.getElem?_eq_getElem (by have := HL.out; omega)⟩
      have hPH := HP.out.low D.out
      have hPA := HI.out it (List.mem_of_getElem? hit)
      rcases hPH with h | ⟨b, off, rfl, h⟩
      · rw [h] at hit
        simp at hit
      · obtain ⟨k1, k2, _⟩ := h j it hit
        obtain ⟨p1, n1, c1, z1, p2, n2, c2, z2, NN⟩ := it
        simp only at k1 k2
        have P1 := hid (hPA.1.below D.out (Nat.le_refl _))
        have P2 := hid (hPA.2.1.below D.out (Nat.le_refl _))
        simp only at P1 P2
        have hjl : (j : Int) < (len : Int) := by omega
        have HTr := hid (HT.out.below D.out)
        clear h hPA hit
        go_wp2_with fail
        refine (roots_true p1 n1 c1 z1 _ P1.out HTr.out).mono ?_
        rintro e w4 ⟨rfl, hb4⟩
        have Q2 := hid (P2.out.below hb4 (Nat.le_refl _))
        have HT4 := hid (HTr.out.below hb4)
        have D4 := hid (chain D.out hb4 (Nat.le_refl _))
        have k2' : w4.cell? ⟨b, off + j * 3 + 1, none⟩ = some (.slice p2 n2 c2) := by
          rw [hb4.cell (p := ⟨b, off + j * 3 + 1, none⟩) (cell_lt k2)]
          exact k2
        clear hb4 k1 k2
        go_wp2_with fail
        refine (roots_true p2 n2 c2 z2 _ Q2.out HT4.out).mono ?_
        rintro e w5 ⟨rfl, hb5⟩
        have D5 := hid (chain D4.out hb5 (Nat.le_refl _))
        clear hb5
        go_wp2_with fail
        go_roundw
        case rel => exact ⟨j + 1, by omega, by go_num, D5.out⟩
        case measure => simp [intOf]; omega
    · go_wp2_with fail
      go_ret
      exact ⟨rfl, D.out⟩
end Go.Proofs.YthfechigdiefpaaDoor
