/-
  THE WALKS OF layer 2's divides AND nears.
-/
import Derived.Test.YthfechigdiefpaaQRef7
import Derived.Test.YthfechigdiefpaaOpenPairs
namespace Go.Proofs.Ythfechigdiefpaa
open Go.RowKit Go.Deep

theorem alike_nil (w : World) : Calls Try.prog 13 #[.slice none 0 0, .slice none 0 0] w fun e w' => e = .returned (.bool true) ∧ Below w.heap.size w w' :=
  alike_is true none none 0 0 0 0 [] [] w ⟨rfl, Nat.le_refl _, by omega, Lies.nil _ _, Nm.Limbs.nil⟩ ⟨rfl, Nat.le_refl _, by omega, Lies.nil _ _, Nm.Limbs.nil⟩ rfl

set_option maxRecDepth 100000 in
set_option maxHeartbeats 4000000 in
theorem divides_true (p q : Option Addr) (n cap m cap' : Nat) (za zb : List Int) (w : World) (ha : Arg w p n cap za) (hb : Arg w q m cap' zb) :
    Calls Try.prog 7 #[.slice p n cap, .slice q m cap'] w fun e w' => e = .returned (.bool true) ∧ Below w.heap.size w w' := by
  have HA := hid ha
  have HB := hid hb
  clear ha hb
  by_cases hbig : 4096 < Nm.tsize za ∨ 4096 < Nm.tsize zb
  · have HG := hid hbig
    clear hbig
    go_enter Try.func7, Try.ntmps7
    go_wp2_with fail
    refine (rdm_big p q n cap m cap' za zb _ HA.out HB.out HG.out).mono ?_
    rintro e w1 ⟨rfl, rfl⟩
    go_wp2_with fail
    refine (divMod_big p q n cap m cap' za zb _ HA.out HB.out HG.out).mono ?_
    rintro e w1 ⟨rfl, rfl⟩
    go_wp2_with fail
    refine (alike_nil _).mono ?_
    rintro e w2 ⟨rfl, hb2⟩
    have D2 := hid hb2
    clear hb2
    go_wp2_with fail
    refine (alike_nil _).mono ?_
    rintro e w3 ⟨rfl, hb3⟩
    have D3 := hid (chain D2.out hb3 (Nat.le_refl _))
    clear hb3
    go_wp2_with fail
    go_ret
    exact ⟨rfl, D3.out⟩
  by_cases hzero : Nm.tsize zb = 0
  · have HZ := hid hzero
    have HG : Hid (Nm.tsize za ≤ 4096) := by show _ ≤ _; omega
    clear hbig hzero
    go_enter Try.func7, Try.ntmps7
    go_wp2_with fail
    refine (rdm_zero p q n cap m cap' za zb _ HA.out HB.out HG.out HZ.out).mono ?_
    rintro e w1 ⟨rfl, rfl⟩
    go_wp2_with fail
    refine (divMod_zero p q n cap m cap' za zb _ HA.out HB.out HG.out HZ.out).mono ?_
    rintro e w2 ⟨rfl, hb2⟩
    have D2 := hid hb2
    clear hb2
    go_wp2_with fail
    refine (alike_nil _).mono ?_
    rintro e w3 ⟨rfl, hb3⟩
    have D3 := hid (chain D2.out hb3 (Nat.le_refl _))
    clear hb3
    go_wp2_with fail
    refine (alike_nil _).mono ?_
    rintro e w4 ⟨rfl, hb4⟩
    have D4 := hid (chain D3.out hb4 (Nat.le_refl _))
    clear hb4
    go_wp2_with fail
    go_ret
    exact ⟨rfl, D4.out⟩
  · have HG : Hid (Nm.tsize za ≤ 4096) := by show _ ≤ _; omega
    have HG' : Hid (Nm.tsize zb ≤ 4096) := by show _ ≤ _; omega
    have HZ : Hid (0 < Nm.tsize zb) := by show _ < _; omega
    have va := (Nm.val_bd za HA.out.2.2.2.2).1
    have vb : 0 < Nm.val zb := by
      have h1 := Nm.tsize_zero_iff HB.out.2.2.2.2
      have h2 := (Nm.val_bd zb HB.out.2.2.2.2).1
      omega
    have SF := hid (split_facts va ((Nm.tsize_le_iff HA.out.2.2.2.2 4096).1 HG.out) vb)
    clear hbig hzero va vb
    go_enter Try.func7, Try.ntmps7
    go_wp2_with fail
    refine (rdm_ok p q n cap m cap' za zb _ HA.out HB.out HG.out HG'.out HZ.out).mono ?_
    rintro e w1 ⟨s1, os, s2, rs, rfl, B1, B2, hb1⟩
    have HB1 := hid B1
    have HB2 := hid B2
    have D1 := hid hb1
    have HA1 := hid (HA.out.below hb1 (Nat.le_refl _))
    have HBB1 := hid (HB.out.below hb1 (Nat.le_refl _))
    clear B1 B2 hb1
    go_wp2_with fail
    refine (divMod_ok p q n cap m cap' za zb _ HA1.out HBB1.out HG.out HG'.out HZ.out).mono ?_
    rintro e w2 ⟨t1, us, t2, vs, rfl, C1, C2, hb2⟩
    have HC1 := hid C1
    have HC2 := hid C2
    have HB1' := hid (HB1.out.below hb2 (Nat.le_refl _))
    have HB2' := hid (HB2.out.below hb2 (Nat.le_refl _))
    have D2 := hid (chain D1.out hb2 (Nat.le_refl _))
    clear C1 C2 hb2 HB1 HB2 D1 HA1 HBB1
    go_wp2_with fail
    refine (alike_ans HC1.out HB1'.out (by have := HC1.out.small SF.out.2.1; omega)).mono ?_
    rintro e w3 ⟨rfl, hb3⟩
    have HC3 := hid (HC2.out.below hb3 (Nat.le_refl _))
    have HB3 := hid (HB2'.out.below hb3 (Nat.le_refl _))
    have D3 := hid (chain D2.out hb3 (Nat.le_refl _))
    clear hb3
    go_wp2_with fail
    refine (alike_ans HC3.out HB3.out (by have := HC3.out.small SF.out.2.2.1; omega)).mono ?_
    rintro e w4 ⟨rfl, hb4⟩
    have D4 := hid (chain D3.out hb4 (Nat.le_refl _))
    clear hb4
    go_wp2_with fail
    go_ret
    exact ⟨rfl, D4.out⟩

theorem near_lt {A B P : Int} (hA : 0 ≤ A) (hAP : A < P) (hB : 0 < B) : nearI A B ≤ P := by
  obtain ⟨h1, h2, h3, h4, h5, h6, h7, h8⟩ := split_facts hA hAP hB
  rw [nearI]
  split <;> omega

set_option maxRecDepth 100000 in
set_option maxHeartbeats 4000000 in
theorem nears_true (p q : Option Addr) (n cap m cap' : Nat) (za zb : List Int) (w : World) (ha : Arg w p n cap za) (hb : Arg w q m cap' zb) :
    Calls Try.prog 9 #[.slice p n cap, .slice q m cap'] w fun e w' => e = .returned (.bool true) ∧ Below w.heap.size w w' := by
  have HA := hid ha
  have HB := hid hb
  clear ha hb
  by_cases hbig : 4096 < Nm.tsize za ∨ 4096 < Nm.tsize zb
  · have HG := hid hbig
    clear hbig
    go_enter Try.func9, Try.ntmps9
    go_wp2_with fail
    refine (rnear_big p q n cap m cap' za zb _ HA.out HB.out HG.out).mono ?_
    rintro e w1 ⟨rfl, rfl⟩
    go_wp2_with fail
    refine (near_big p q n cap m cap' za zb _ HA.out HB.out HG.out).mono ?_
    rintro e w1 ⟨rfl, rfl⟩
    go_wp2_with fail
    refine (alike_nil _).mono ?_
    rintro e w2 ⟨rfl, hb2⟩
    have D2 := hid hb2
    clear hb2
    go_wp2_with fail
    go_ret
    exact ⟨rfl, D2.out⟩
  by_cases hzero : Nm.tsize zb = 0
  · have HZ := hid hzero
    have HG : Hid (Nm.tsize za ≤ 4096) := by show _ ≤ _; omega
    clear hbig hzero
    go_enter Try.func9, Try.ntmps9
    go_wp2_with fail
    refine (rnear_zero p q n cap m cap' za zb _ HA.out HB.out HG.out HZ.out).mono ?_
    rintro e w1 ⟨rfl, rfl⟩
    go_wp2_with fail
    refine (near_zero p q n cap m cap' za zb _ HA.out HB.out HG.out HZ.out).mono ?_
    rintro e w2 ⟨rfl, hb2⟩
    have D2 := hid hb2
    clear hb2
    go_wp2_with fail
    refine (alike_nil _).mono ?_
    rintro e w3 ⟨rfl, hb3⟩
    have D3 := hid (chain D2.out hb3 (Nat.le_refl _))
    clear hb3
    go_wp2_with fail
    go_ret
    exact ⟨rfl, D3.out⟩
  · have HG : Hid (Nm.tsize za ≤ 4096) := by show _ ≤ _; omega
    have HG' : Hid (Nm.tsize zb ≤ 4096) := by show _ ≤ _; omega
    have HZ : Hid (0 < Nm.tsize zb) := by show _ < _; omega
    have va := (Nm.val_bd za HA.out.2.2.2.2).1
    have vb : 0 < Nm.val zb := by
      have h1 := Nm.tsize_zero_iff HB.out.2.2.2.2
      have h2 := (Nm.val_bd zb HB.out.2.2.2.2).1
      omega
    have NL := hid (near_lt va ((Nm.tsize_le_iff HA.out.2.2.2.2 4096).1 HG.out) vb)
    clear hbig hzero va vb
    go_enter Try.func9, Try.ntmps9
    go_wp2_with fail
    refine (rnear_ok p q n cap m cap' za zb _ HA.out HB.out HG.out HG'.out HZ.out).mono ?_
    rintro e w1 ⟨s1, os, rfl, B1, hb1⟩
    have HB1 := hid B1
    have D1 := hid hb1
    have HA1 := hid (HA.out.below hb1 (Nat.le_refl _))
    have HBB1 := hid (HB.out.below hb1 (Nat.le_refl _))
    clear B1 hb1
    go_wp2_with fail
    refine (near_ok p q n cap m cap' za zb _ HA1.out HBB1.out HG.out HG'.out HZ.out).mono ?_
    rintro e w2 ⟨t1, us, rfl, C1, hb2⟩
    have HC1 := hid C1
    have HB1' := hid (HB1.out.below hb2 (Nat.le_refl _))
    have D2 := hid (chain D1.out hb2 (Nat.le_refl _))
    have hul : Hid (us.length ≤ 17592186044416) := by
      have h1 := (Nm.tsize_le_iff C1.2.1 4097).2 (by
        rw [C1.2.2.2.1]
        have h2 := NL.out
        have h3 := Nm.pw_succ 4096
        have h4 := Nm.pw_pos 4096
        rw [show (4096 + 1 : Nat) = 4097 from rfl] at h3
        generalize Nm.pw 4097 = x at *
        generalize Nm.pw 4096 = y at *
        omega)
      have h5 := C1.2.2.1
      show _ ≤ _
      omega
    clear C1 hb2 HB1 D1 HA1 HBB1
    go_wp2_with fail
    refine (alike_ans HC1.out HB1'.out hul.out).mono ?_
    rintro e w3 ⟨rfl, hb3⟩
    have D3 := hid (chain D2.out hb3 (Nat.le_refl _))
    clear hb3
    go_wp2_with fail
    go_ret
    exact ⟨rfl, D3.out⟩

/-- Two naturals of one limb, made for a look. -/
theorem PHolds.below {w w' : World} {a : Option Addr} {its : List PIt} (h : PHolds w a its) (hb : Below w.heap.size w w') : PHolds w' a its := by
  rcases h with rfl | ⟨b, off, rfl, h⟩
  · exact .inl rfl
  · refine .inr ⟨b, off, rfl, fun i it hi => ?_⟩
    obtain ⟨h1, h2, h3⟩ := h i it hi
    exact ⟨by rw [hb.cell (p := ⟨b, off + i * 3, none⟩) (cell_lt h1)]; exact h1, by rw [hb.cell (p := ⟨b, off + i * 3 + 1, none⟩) (cell_lt h2)]; exact h2, by rw [hb.cell (p := ⟨b, off + i * 3 + 2, none⟩) (cell_lt h3)]; exact h3⟩

theorem PArg.below {w w' : World} {it : PIt} (h : PArg w it) (hb : Below w.heap.size w w') : PArg w' it := ⟨h.1.below hb (Nat.le_refl _), h.2.1.below hb (Nat.le_refl _), h.2.2⟩

set_option maxRecDepth 100000 in
set_option maxHeartbeats 4000000 in
theorem quotDivides_any (a : Option Addr) (len cap : Nat) (its : List PIt) (w : World) (hl : its.length = len) (hc : len ≤ cap) (hm : cap ≤ 17592186044416) (hp : PHolds w a its) (hi : ∀ it ∈ its, PArg w it) :
    Calls Try.prog 3 #[.slice a len cap] w fun e w' => e = .returned (.bool true) ∧ Below w.heap.size w w' := by
  have HL := hid hl
  have HP := hid hp
  have HI := hid hi
  clear hl hp hi
  go_enter Try.func3, Try.ntmps3
  go_wp2_with fail
  refine (one_any 17 _ (by omega) (by omega)).mono ?_
  rintro e w1 ⟨r1, rfl, A1, hb1⟩
  have HA1 := hid A1
  have D1 := hid hb1
  clear A1 hb1
  go_wp2_with fail
  refine (one_any 5 _ (by omega) (by omega)).mono ?_
  rintro e w2 ⟨r2, rfl, A2, hb2⟩
  have HA2 := hid A2
  have HA1' := hid (HA1.out.below hb2 (Nat.le_refl _))
  have D2 := hid (chain D1.out hb2 (Nat.le_refl _))
  clear A2 hb2 HA1 D1
  go_wp2_with fail
  refine (divides_true r1 r2 1 1 1 1 [17] [5] _ HA1'.out HA2.out).mono ?_
  rintro e w3 ⟨rfl, hb3⟩
  have D3 := hid (chain D2.out hb3 (Nat.le_refl _))
  clear hb3 HA1' HA2 D2
  go_wp2_with fail
  refine (one_any 11 _ (by omega) (by omega)).mono ?_
  rintro e w1 ⟨r1, rfl, A1, hb1⟩
  have HA1 := hid A1
  have D1 := hid (chain D3.out hb1 (Nat.le_refl _))
  clear A1 hb1 D3
  go_wp2_with fail
  refine (one_any 4 _ (by omega) (by omega)).mono ?_
  rintro e w2 ⟨r2, rfl, A2, hb2⟩
  have HA2 := hid A2
  have HA1' := hid (HA1.out.below hb2 (Nat.le_refl _))
  have D2 := hid (chain D1.out hb2 (Nat.le_refl _))
  clear A2 hb2 HA1 D1
  go_wp2_with fail
  refine (nears_true r1 r2 1 1 1 1 [11] [4] _ HA1'.out HA2.out).mono ?_
  rintro e w3 ⟨rfl, hb3⟩
  have D3 := hid (chain D2.out hb3 (Nat.le_refl _))
  clear hb3 HA1' HA2 D2
  go_wp2_with fail
  refine (one_any 5 _ (by omega) (by omega)).mono ?_
  rintro e w1 ⟨r1, rfl, A1, hb1⟩
  have HA1 := hid A1
  have D1 := hid (chain D3.out hb1 (Nat.le_refl _))
  clear A1 hb1 D3
  go_wp2_with fail
  refine (one_any 2 _ (by omega) (by omega)).mono ?_
  rintro e w2 ⟨r2, rfl, A2, hb2⟩
  have HA2 := hid A2
  have HA1' := hid (HA1.out.below hb2 (Nat.le_refl _))
  have D2 := hid (chain D1.out hb2 (Nat.le_refl _))
  clear A2 hb2 HA1 D1
  go_wp2_with fail
  refine (nears_true r1 r2 1 1 1 1 [5] [2] _ HA1'.out HA2.out).mono ?_
  rintro e w3 ⟨rfl, hb3⟩
  have D3 := hid (chain D2.out hb3 (Nat.le_refl _))
  clear hb3 HA1' HA2 D2
  go_wp2_with fail
  refine (one_any 7 _ (by omega) (by omega)).mono ?_
  rintro e w1 ⟨r1, rfl, A1, hb1⟩
  have HA1 := hid A1
  have D1 := hid (chain D3.out hb1 (Nat.le_refl _))
  clear A1 hb1 D3
  go_wp2_with fail
  refine (one_any 2 _ (by omega) (by omega)).mono ?_
  rintro e w2 ⟨r2, rfl, A2, hb2⟩
  have HA2 := hid A2
  have HA1' := hid (HA1.out.below hb2 (Nat.le_refl _))
  have D2 := hid (chain D1.out hb2 (Nat.le_refl _))
  clear A2 hb2 HA1 D1
  go_wp2_with fail
  refine (nears_true r1 r2 1 1 1 1 [7] [2] _ HA1'.out HA2.out).mono ?_
  rintro e w3 ⟨rfl, hb3⟩
  have D3 := hid (chain D2.out hb3 (Nat.le_refl _))
  clear hb3 HA1' HA2 D2
  go_wp2_with fail
  go_loopw [3] (fun i wr => ∃ j : Nat, j ≤ len ∧ i = .int .i64 j ∧ Hid (Below w.heap.size w wr)) (fun i _ => len - (intOf i).toNat)
  case atStart => exact ⟨0, Nat.zero_le _, rfl, D3.out⟩
  case round =>
    clear D3
    obtain ⟨j, hj, rfl, D⟩ := hrel
    by_cases hlt : j < len
    · obtain ⟨it, hit⟩ : ∃ it, its[j]? = some it := ⟨_, List.getElem?_eq_getElem (by have := HL.out; omega)⟩
      have hPH := HP.out.below D.out
      have hPA := (HI.out it (List.mem_of_getElem? hit)).below D.out
      rcases hPH with h | ⟨b, off, rfl, h⟩
      · rw [h] at hit
        simp at hit
      · obtain ⟨k1, k2, _⟩ := h j it hit
        obtain ⟨p1, n1, c1, z1, p2, n2, c2, z2, NN⟩ := it
        simp only at k1 k2
        have P1 := hid hPA.1
        have P2 := hid hPA.2.1
        simp only at P1 P2
        have hjl : (j : Int) < (len : Int) := by omega
        clear h hPA hit
        go_wp2_with fail
        refine (divides_true p1 p2 n1 c1 n2 c2 z1 z2 _ P1.out P2.out).mono ?_
        rintro e w4 ⟨rfl, hb4⟩
        have Q1 := hid (P1.out.below hb4 (Nat.le_refl _))
        have Q2 := hid (P2.out.below hb4 (Nat.le_refl _))
        have D4 := hid (chain D.out hb4 (Nat.le_refl _))
        clear hb4 k1 k2
        go_wp2_with fail
        refine (divides_true p2 p1 n2 c2 n1 c1 z2 z1 _ Q2.out Q1.out).mono ?_
        rintro e w5 ⟨rfl, hb5⟩
        have R1 := hid (Q1.out.below hb5 (Nat.le_refl _))
        have R2 := hid (Q2.out.below hb5 (Nat.le_refl _))
        have D5 := hid (chain D4.out hb5 (Nat.le_refl _))
        clear hb5
        go_wp2_with fail
        refine (nears_true p1 p2 n1 c1 n2 c2 z1 z2 _ R1.out R2.out).mono ?_
        rintro e w6 ⟨rfl, hb6⟩
        have S1 := hid (R1.out.below hb6 (Nat.le_refl _))
        have S2 := hid (R2.out.below hb6 (Nat.le_refl _))
        have D6 := hid (chain D5.out hb6 (Nat.le_refl _))
        clear hb6
        go_wp2_with fail
        refine (nears_true p2 p1 n2 c2 n1 c1 z2 z1 _ S2.out S1.out).mono ?_
        rintro e w7 ⟨rfl, hb7⟩
        have D7 := hid (chain D6.out hb7 (Nat.le_refl _))
        clear hb7
        go_wp2_with fail
        go_roundw
        case rel => exact ⟨j + 1, by omega, by go_num, D7.out⟩
        case measure => simp [intOf]; omega
    · go_wp2_with fail
      go_ret
      exact ⟨rfl, D.out⟩
end Go.Proofs.Ythfechigdiefpaa
