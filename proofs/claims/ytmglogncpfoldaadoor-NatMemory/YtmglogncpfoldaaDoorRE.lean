/-
  Texts put together: NBoth, NBoth2.
-/
import Derived.Test.YtmglogncpfoldaaDoorRC
import Derived.Test.YtmglogncpfoldaaDoorRD
import Derived.Test.YtmglogncpfoldaaDoorRefSum
/-
  NatExact: every call: both sides tell one answer.
-/
namespace Go.Proofs.YtmglogncpfoldaaDoor
open Go Go.RowKit Go.Deep

theorem bel_eqN {w w' : World} (h : w' = w) : Below w.heap.size w w' := by rw [h]; exact Below.refl _ _

theorem refDivSmall_big (p : Option Addr) (n cap : Nat) (zs : List Int) (d : Int) (w : World) (ha : Arg w p n cap zs) (tz : 4096 < Nm.tsize zs) :
    Calls Tryd.prog 26 #[.slice p n cap, .int .u64 d] w fun e w' => e = .returned (.tuple #[.slice none 0 0, .int .u64 0, .int .i64 2]) ∧ w' = w := by
  have S1 := hid (refBig_is true p n cap zs w ha (by simpa using tz))
  go_enter Tryd.func26, Tryd.ntmps26
  go_wp2_with fail
  refine S1.out.mono ?_
  rintro e w' ⟨rfl, rfl⟩
  go_wp2_with fail
  go_ret3
  exact ⟨rfl, rfl⟩

theorem refDivSmall_zero (p : Option Addr) (n cap : Nat) (zs : List Int) (w : World) (ha : Arg w p n cap zs) (tz : Nm.tsize zs ≤ 4096) :
    Calls Tryd.prog 26 #[.slice p n cap, .int .u64 0] w fun e w' => e = .returned (.tuple #[.slice none 0 0, .int .u64 0, .int .i64 4]) ∧ w' = w := by
  have S1 := hid (refBig_is false p n cap zs w ha (by simp; omega))
  go_enter Tryd.func26, Tryd.ntmps26
  go_wp2_with fail
  refine S1.out.mono ?_
  rintro e w' ⟨rfl, rfl⟩
  go_wp2_with fail
  go_ret3
  exact ⟨rfl, rfl⟩

open Classical in
noncomputable def fe (P : Prop) (E : Int) : Int := if P then E else 0
open Classical in
noncomputable def fv (P : Prop) (T : Int) : Int := if P then 0 else T
open Classical in
noncomputable def trlOf (v : Int) : Int := if h : ∃ t, Nm.Trl v t then ((Classical.choose h : Nat) : Int) else 0

theorem trlOf_is {v : Int} {t : Nat} (h : Nm.Trl v t) : trlOf v = (t : Int) := by
  have hx : ∃ t, Nm.Trl v t := ⟨t, h⟩
  rw [trlOf, dif_pos hx, Nm.Trl.unique (Classical.choose_spec hx) h]

theorem tells_lt {P : Prop} {E T : Int} {w w' : World} {e : Ending} (h : Tells P E T w e w') (hT : ¬ P → T < Nm.pw 4096) :
    ∃ pl os, e = .returned (.tuple #[.slice pl (List.length os) (List.length os), .int .i64 (fe P E)]) ∧ LT w w' pl os (fv P T) ∧ Below w.heap.size w w' := by
  obtain ⟨r, os, f, rfl, h1, hB⟩ := h
  rcases h1 with ⟨hP, rfl, rfl, rfl⟩ | ⟨hP, rfl, hA⟩
  · refine ⟨none, [], ?_, ?_, hB⟩
    · rw [fe, if_pos hP]
    · rw [fv, if_pos hP]; exact lt_nil _ _
  · refine ⟨r, os, ?_, ?_, hB⟩
    · rw [fe, if_neg hP]
    · rw [fv, if_neg hP]
      exact ⟨hA, by have := hA.small (hT hP); omega⟩

theorem sum_tells {w w' : World} {e : Ending} {p q p2 : Option Addr} {n k n2 c c' c2 : Nat} {zA zB : List Int} (h : SumSays w [⟨p, n, c, zA⟩, ⟨q, k, c', zB⟩, ⟨p2, n2, c2, zA⟩] e w') :
    Tells ((4096 < Nm.tsize zA ∨ 4096 < Nm.tsize zB) ∨ Nm.pw 4096 ≤ Nm.val zA + (Nm.val zB + (Nm.val zA + 0))) 2 (Nm.val zA + (Nm.val zB + (Nm.val zA + 0))) w e w' := by
  obtain ⟨h1, hB⟩ := h
  rcases h1 with ⟨h1, rfl⟩ | ⟨⟨h1, h2⟩, r, os, rfl, hA⟩
  · refine Tells.bad ?_ hB
    rcases h1 with ⟨it, hm, ht⟩ | h1
    · simp at hm
      rcases hm with rfl | rfl | rfl
      · exact .inl (.inl ht)
      · exact .inl (.inr ht)
      · exact .inl (.inl ht)
    · exact .inr h1
  · refine Tells.good ?_ hA hB
    have a1 := h1 ⟨p, n, c, zA⟩ (by simp)
    have a2 := h1 ⟨q, k, c', zB⟩ (by simp)
    simp only at a1 a2
    have h3 : Nm.val zA + (Nm.val zB + (Nm.val zA + 0)) < Nm.pw 4096 := h2
    omega

theorem holds3 {w : World} {g t : Nat} {p q p2 : Option Addr} {n k n2 c c' c2 : Nat} {zA zB zC : List Int} (h : w.heap[g]? = some (.cells #[.slice p n c, .slice q k c', .slice p2 n2 c2] t (0, 0))) :
    Holds w (some ⟨g, 0, none⟩) [⟨p, n, c, zA⟩, ⟨q, k, c', zB⟩, ⟨p2, n2, c2, zC⟩] := by
  refine .inr ⟨g, 0, rfl, fun i it hi => ?_⟩
  match i, hi with
  | 0, hi => simp at hi; subst hi; simp [World.cell?, h]
  | 1, hi => simp at hi; subst hi; simp [World.cell?, h]
  | 2, hi => simp at hi; subst hi; simp [World.cell?, h]

/-- Both sides of a call. -/
def NBth (kd : Int) (p q : Option Addr) (n k cap cap' : Nat) (M C N : Int) (w : World) (zA zB : List Int) : Prop :=
  ∃ a : AV1,
    (∀ wx, Below w.heap.size w wx → Calls Tryd.prog 8 #[opOf1 kd (.slice p n cap) (.slice q k cap') M C N] wx fun r w' => NTold a wx r w') ∧
    (∀ wx p' q' c1 c2, Below w.heap.size w wx → Arg wx p' n c1 zA → Arg wx q' k c2 zB → Calls Tryd.prog 9 #[opOf1 kd (.slice p' n c1) (.slice q' k c2) M C N] wx fun r w' => NTold a wx r w')

theorem pw_one : 18446744073709551616 ≤ Nm.pw 4096 := by
  have e : Nm.pw 4096 = 18446744073709551616 * Nm.pw 4095 := Nm.pw_succ 4095
  have := Nm.pw_pos 4095
  omega

theorem mod_le_self {a b : Int} (h : 0 ≤ a) (hb : 0 < b) : a % b ≤ a := by
  rcases Int.lt_or_le a b with c | c
  · rw [Int.emod_eq_of_lt h c]; exact Int.le_refl _
  · exact Int.le_trans (Int.le_of_lt (Int.emod_lt_of_pos a hb)) c

theorem nboth_any (kd : Int) (p q : Option Addr) (n k cap cap' : Nat) (M C N : Int) (w : World) (zA zB : List Int) (hT : Tab w) (m0 : 0 ≤ M) (m1 : M < 18446744073709551616) (c0 : 0 ≤ C) (c1 : C < 18446744073709551616) (n1 : N ≤ 9223372036854775807)
    (aA : Arg w p n cap zA) (aB : Arg w q k cap' zB) : NBth kd p q n k cap cap' M C N w zA zB := by
  have TB : ∀ wx : World, Below w.heap.size w wx → Tab wx := fun wx hB => hT.below hB
  have AA : ∀ wx : World, Below w.heap.size w wx → Arg wx p n cap zA := fun wx hB => aA.below hB (Nat.le_refl _)
  have AB : ∀ wx : World, Below w.heap.size w wx → Arg wx q k cap' zB := fun wx hB => aB.below hB (Nat.le_refl _)
  have vA := Nm.val_bd zA aA.2.2.2.2
  have vB := Nm.val_bd zB aB.2.2.2.2
  have tA : Nm.tsize zA ≤ 4096 → Nm.val zA < Nm.pw 4096 := fun h => (Nm.tsize_le_iff aA.2.2.2.2 4096).1 h
  by_cases ho : kd < 1 ∨ 16 < kd
  · exact ⟨⟨0, 0, 0, false, 0⟩, fun wx _ => nwanted_other kd p q n k cap cap' M C N wx ho, fun wx p' q' c1 c2 _ _ _ => nasked_other kd p' q' n k c1 c2 M C N wx ho⟩
  rcases (show kd = 1 ∨ kd = 2 ∨ kd = 3 ∨ kd = 4 ∨ kd = 5 ∨ kd = 6 ∨ kd = 7 ∨ kd = 8 ∨ kd = 9 ∨ kd = 10 ∨ kd = 11 ∨ kd = 12 ∨ kd = 13 ∨ kd = 14 ∨ kd = 15 ∨ kd = 16 by omega) with rfl | rfl | rfl | rfl | rfl | rfl | rfl | rfl | rfl | rfl | rfl | rfl | rfl | rfl | rfl | rfl
  · have lt : (Nm.trim zA).length ≤ 17592186044000 := by
      have h1 := Nm.trim_length zA
      have h2 := Nm.tsize_le zA
      have h3 := aA.1
      have h4 := aA.2.1
      have h5 := aA.2.2.1
      omega
    refine ⟨⟨Nm.val zA, 0, 0, false, 0⟩, fun wx hB => nwanted1 p q n k cap cap' M C N wx (Nm.val zA) (fun wy hy => ?_), fun wx p' q' c1 c2 hB bA bB => nasked1 p' q' n k c1 c2 M C N wx (Nm.val zA) (fun wy hy => ?_)⟩
    · refine (refTrim_any p n cap zA wy (AA wy (hB.trans (hy.mono hB.size)))).mono ?_
      rintro e w' ⟨r, os, rfl, rfl, A, hw⟩
      exact ⟨r, _, rfl, ⟨A, lt⟩, hw⟩
    · refine (trim_any p' n c1 zA wy (bA.below hy (Nat.le_refl _))).mono ?_
      rintro e w' ⟨r, os, rfl, rfl, A, hw⟩
      exact ⟨r, _, rfl, ⟨A, lt⟩, hw⟩
  · refine ⟨⟨M, 0, 0, false, 0⟩, fun wx hB => nwanted2 p q n k cap cap' M C N wx M (fun wy hy => ?_), fun wx p' q' c1 c2 hB bA bB => nasked2 p' q' n k c1 c2 M C N wx M (fun wy hy => ?_)⟩
    · refine (refFromUint_any M wy m0 m1).mono ?_
      rintro e w' ⟨r, os, rfl, A, hw⟩
      exact ⟨r, os, rfl, ⟨A, by have := A.small (by have := pw_one; omega); omega⟩, hw⟩
    · refine (fromUint_any M wy m0 m1).mono ?_
      rintro e w' ⟨r, os, rfl, A, hw⟩
      exact ⟨r, os, rfl, ⟨A, by have := A.small (by have := pw_one; omega); omega⟩, hw⟩
  · refine ⟨⟨0, toU zA, 0, decide (Nm.tsize zA ≤ 1), 0⟩, fun wx hB => nwanted3 p q n k cap cap' M C N wx _ _ (fun wy hy => ?_), fun wx p' q' c1 c2 hB bA bB => nasked3 p' q' n k c1 c2 M C N wx _ _ (fun wy hy => ?_)⟩
    · refine (refToUint_any p n cap zA wy (AA wy (hB.trans (hy.mono hB.size)))).mono ?_
      rintro e w' ⟨rfl, hw⟩
      exact ⟨rfl, bel_eqN hw⟩
    · refine (toUint_any p' n c1 zA wy (bA.below hy (Nat.le_refl _))).mono ?_
      rintro e w' ⟨rfl, hw⟩
      exact ⟨rfl, bel_eqN hw⟩
  · obtain ⟨L, hL, BL, _, _⟩ := blen_is zA aA.2.2.2.2
    refine ⟨⟨0, 0, (L : Int), false, 0⟩, fun wx hB => nwanted4 p q n k cap cap' M C N wx _ (fun wy hy => ?_), fun wx p' q' c1 c2 hB bA bB => nasked4 p' q' n k c1 c2 M C N wx _ (fun wy hy => ?_)⟩
    · refine (refBitLen_any p n cap zA wy (AA wy (hB.trans (hy.mono hB.size)))).mono ?_
      rintro e w' ⟨⟨L', rfl, BL'⟩, hw⟩
      rw [Nm.BLen.unique vA.1 BL' BL]
      exact ⟨rfl, bel_eqN hw⟩
    · refine (bitLen_n L p' n c1 zA wy (bA.below hy (Nat.le_refl _)) hL).mono ?_
      rintro e w' ⟨rfl, hw⟩
      exact ⟨rfl, bel_eqN hw⟩
  · by_cases hn : N < 0
    · refine ⟨⟨0, 0, 0, false, 0⟩, fun wx hB => nwanted5 p q n k cap cap' M C N wx _ (fun wy hy => ?_), fun wx p' q' c1 c2 hB bA bB => nasked5 p' q' n k c1 c2 M C N wx _ (fun wy hy => ?_)⟩
      · refine (refBit_neg p n cap N wy hn).mono ?_
        rintro e w' ⟨rfl, hw⟩
        exact ⟨rfl, bel_eqN hw⟩
      · refine (bit_neg p' n c1 N wy hn).mono ?_
        rintro e w' ⟨rfl, hw⟩
        exact ⟨rfl, bel_eqN hw⟩
    · refine ⟨⟨0, 0, Nm.val zA / 2 ^ N.toNat % 2, false, 0⟩, fun wx hB => nwanted5 p q n k cap cap' M C N wx _ (fun wy hy => ?_), fun wx p' q' c1 c2 hB bA bB => nasked5 p' q' n k c1 c2 M C N wx _ (fun wy hy => ?_)⟩
      · refine (refBit_any p n cap zA N.toNat N wy (AA wy (hB.trans (hy.mono hB.size))) n1 (by omega)).mono ?_
        rintro e w' ⟨rfl, hw⟩
        exact ⟨rfl, bel_eqN hw⟩
      · refine (bit_any p' n c1 zA N.toNat N wy (bA.below hy (Nat.le_refl _)) n1 (by omega)).mono ?_
        rintro e w' ⟨rfl, hw⟩
        exact ⟨rfl, bel_eqN hw⟩
  · refine ⟨⟨0, 0, trlOf (Nm.val zA), false, 0⟩, fun wx hB => nwanted6 p q n k cap cap' M C N wx _ (fun wy hy => ?_), fun wx p' q' c1 c2 hB bA bB => nasked6 p' q' n k c1 c2 M C N wx _ (fun wy hy => ?_)⟩
    · refine (refTrail_any p n cap zA wy (AA wy (hB.trans (hy.mono hB.size)))).mono ?_
      rintro e w' ⟨⟨t, rfl, h⟩, hw⟩
      rw [trlOf_is h]
      exact ⟨rfl, bel_eqN hw⟩
    · refine (trail_any p' n c1 zA wy (bA.below hy (Nat.le_refl _)) (TB wy (hB.trans (hy.mono hB.size)))).mono ?_
      rintro e w' ⟨t, rfl, h, hw⟩
      rw [trlOf_is h]
      exact ⟨rfl, bel_eqN hw⟩
  · refine ⟨⟨0, 0, cmpI (Nm.val zA) (Nm.val zB), false, 0⟩, fun wx hB => nwanted7 p q n k cap cap' M C N wx _ (fun wy hy => ?_), fun wx p' q' c1 c2 hB bA bB => nasked7 p' q' n k c1 c2 M C N wx _ (fun wy hy => ?_)⟩
    · exact refCmp_any p q n cap k cap' zA zB wy (AA wy (hB.trans (hy.mono hB.size))) (AB wy (hB.trans (hy.mono hB.size)))
    · exact cmp_any p' q' n c1 k c2 zA zB wy (bA.below hy (Nat.le_refl _)) (bB.below hy (Nat.le_refl _))
  · refine ⟨⟨fv (4096 < Nm.tsize zA ∨ 4096 < Nm.tsize zB ∨ Nm.pw 4096 ≤ Nm.val zA + Nm.val zB) (Nm.val zA + Nm.val zB), 0, 0, false, fe (4096 < Nm.tsize zA ∨ 4096 < Nm.tsize zB ∨ Nm.pw 4096 ≤ Nm.val zA + Nm.val zB) 2⟩, fun wx hB => nwanted8 p q n k cap cap' M C N wx _ _ (fun wy hy => ?_), fun wx p' q' c1 c2 hB bA bB => nasked8 p' q' n k c1 c2 M C N wx _ _ (fun wy hy => ?_)⟩
    · exact (refAdd_any p q n cap k cap' zA zB wy (AA wy (hB.trans (hy.mono hB.size))) (AB wy (hB.trans (hy.mono hB.size)))).mono fun e w' h => tells_lt h (by omega)
    · exact (add_tell p' q' n c1 k c2 zA zB wy (bA.below hy (Nat.le_refl _)) (bB.below hy (Nat.le_refl _))).mono fun e w' h => tells_lt h (by omega)
  · refine ⟨⟨fv ((4096 < Nm.tsize zA ∨ 4096 < Nm.tsize zB) ∨ Nm.val zA < Nm.val zB) (Nm.val zA - Nm.val zB), 0, 0, false, fe ((4096 < Nm.tsize zA ∨ 4096 < Nm.tsize zB) ∨ Nm.val zA < Nm.val zB) (subErr zA zB)⟩, fun wx hB => nwanted9 p q n k cap cap' M C N wx _ _ (fun wy hy => ?_), fun wx p' q' c1 c2 hB bA bB => nasked9 p' q' n k c1 c2 M C N wx _ _ (fun wy hy => ?_)⟩
    · exact (refSub_any p q n cap k cap' zA zB wy (AA wy (hB.trans (hy.mono hB.size))) (AB wy (hB.trans (hy.mono hB.size)))).mono fun e w' h => tells_lt h (fun hp => by have := tA (by omega); omega)
    · exact (sub_tell p' q' n c1 k c2 zA zB wy (bA.below hy (Nat.le_refl _)) (bB.below hy (Nat.le_refl _))).mono fun e w' h => tells_lt h (fun hp => by have := tA (by omega); omega)
  · refine ⟨⟨fv (4096 < Nm.tsize zA ∨ 4096 < Nm.tsize zB ∨ Nm.pw 4096 ≤ Nm.val zA * Nm.val zB) (Nm.val zA * Nm.val zB), 0, 0, false, fe (4096 < Nm.tsize zA ∨ 4096 < Nm.tsize zB ∨ Nm.pw 4096 ≤ Nm.val zA * Nm.val zB) 2⟩, fun wx hB => nwanted10 p q n k cap cap' M C N wx _ _ (fun wy hy => ?_), fun wx p' q' c1 c2 hB bA bB => nasked10 p' q' n k c1 c2 M C N wx _ _ (fun wy hy => ?_)⟩
    · exact (refMul_any p q n cap k cap' zA zB wy (AA wy (hB.trans (hy.mono hB.size))) (AB wy (hB.trans (hy.mono hB.size)))).mono fun e w' h => tells_lt h (by omega)
    · exact (mul_tell p' q' n c1 k c2 zA zB wy (bA.below hy (Nat.le_refl _)) (bB.below hy (Nat.le_refl _))).mono fun e w' h => tells_lt h (by omega)
  · refine ⟨⟨fv (4096 < Nm.tsize zA ∨ Nm.pw 4096 ≤ Nm.val zA * M + C) (Nm.val zA * M + C), 0, 0, false, fe (4096 < Nm.tsize zA ∨ Nm.pw 4096 ≤ Nm.val zA * M + C) 2⟩, fun wx hB => nwanted11 p q n k cap cap' M C N wx _ _ (fun wy hy => ?_), fun wx p' q' c1 c2 hB bA bB => nasked11 p' q' n k c1 c2 M C N wx _ _ (fun wy hy => ?_)⟩
    · exact (refMulAdd_any p n cap zA M C wy (AA wy (hB.trans (hy.mono hB.size))) m0 m1 c0 ‹_›).mono fun e w' h => tells_lt h (by omega)
    · exact (mulAdd_tell p' n c1 zA M C wy (bA.below hy (Nat.le_refl _)) m0 m1 c0 ‹_›).mono fun e w' h => tells_lt h (by omega)
  · by_cases tz : 4096 < Nm.tsize zA
    · refine ⟨⟨0, 0, 0, false, 2⟩, fun wx hB => nwanted12 p q n k cap cap' M C N wx _ _ _ (fun wy hy => ?_), fun wx p' q' c1 c2 hB bA bB => nasked12 p' q' n k c1 c2 M C N wx _ _ _ (fun wy hy => ?_)⟩
      · refine (refDivSmall_big p n cap zA M wy (AA wy (hB.trans (hy.mono hB.size))) tz).mono ?_
        rintro e w' ⟨rfl, hw⟩
        exact ⟨none, [], rfl, lt_nil _ _, bel_eqN hw⟩
      · refine (divSmall_big p' n c1 zA M wy (bA.below hy (Nat.le_refl _)) tz).mono ?_
        rintro e w' ⟨rfl, hw⟩
        exact ⟨none, [], rfl, lt_nil _ _, bel_eqN hw⟩
    · by_cases hz : M = 0
      · subst hz
        refine ⟨⟨0, 0, 0, false, 4⟩, fun wx hB => nwanted12 p q n k cap cap' 0 C N wx _ _ _ (fun wy hy => ?_), fun wx p' q' c1 c2 hB bA bB => nasked12 p' q' n k c1 c2 0 C N wx _ _ _ (fun wy hy => ?_)⟩
        · refine (refDivSmall_zero p n cap zA wy (AA wy (hB.trans (hy.mono hB.size))) (by omega)).mono ?_
          rintro e w' ⟨rfl, hw⟩
          exact ⟨none, [], rfl, lt_nil _ _, bel_eqN hw⟩
        · refine (divSmall_zero p' n c1 zA wy (bA.below hy (Nat.le_refl _)) (by omega)).mono ?_
          rintro e w' ⟨rfl, hw⟩
          exact ⟨none, [], rfl, lt_nil _ _, bel_eqN hw⟩
      · have key : ∀ (os : List Int) (rest : Int), 0 ≤ rest ∧ rest < M → Nm.val os * M + rest = Nm.val zA → Nm.val os = Nm.val zA / M ∧ rest = Nm.val zA % M := by
          intro os rest hr he
          have e1 : Nm.val zA = rest + M * Nm.val os := by rw [← he, Int.mul_comm]; omega
          constructor
          · rw [e1, Int.add_mul_ediv_left _ _ (by omega), Int.ediv_eq_zero_of_lt hr.1 hr.2]; omega
          · rw [e1, Int.add_mul_emod_self_left, Int.emod_eq_of_lt hr.1 hr.2]
        have fit : Nm.val zA / M < Nm.pw 4096 := by
          have := tA (by omega)
          have := Int.ediv_le_self M vA.1
          omega
        refine ⟨⟨Nm.val zA / M, Nm.val zA % M, 0, false, 0⟩, fun wx hB => nwanted12 p q n k cap cap' M C N wx _ _ _ (fun wy hy => ?_), fun wx p' q' c1 c2 hB bA bB => nasked12 p' q' n k c1 c2 M C N wx _ _ _ (fun wy hy => ?_)⟩
        · refine (refDivSmall_ok p n cap zA M wy (AA wy (hB.trans (hy.mono hB.size))) (by omega) (by omega) m1).mono ?_
          rintro e w' ⟨r, os, rest, rfl, A, hr, he, hw⟩
          obtain ⟨k1, k2⟩ := key os rest hr he.out
          rw [k1] at A
          rw [← k2]
          exact ⟨r, os, rfl, ⟨A, by have := A.small fit; omega⟩, hw⟩
        · refine (divSmall_ok p' n c1 zA M wy (bA.below hy (Nat.le_refl _)) (by omega) (by omega) m1).mono ?_
          rintro e w' ⟨r, os, rest, rfl, A, hr, he, hw⟩
          obtain ⟨k1, k2⟩ := key os rest hr he.out
          rw [k1] at A
          rw [← k2]
          exact ⟨r, os, rfl, ⟨A, by have := A.small fit; omega⟩, hw⟩
  · refine ⟨⟨fv (shlBad zA N) (Nm.val zA * 2 ^ N.toNat), 0, 0, false, fe (shlBad zA N) (shlErr zA N)⟩, fun wx hB => nwanted13 p q n k cap cap' M C N wx _ _ (fun wy hy => ?_), fun wx p' q' c1 c2 hB bA bB => nasked13 p' q' n k c1 c2 M C N wx _ _ (fun wy hy => ?_)⟩
    · exact (refShl_any p n cap zA N wy (AA wy (hB.trans (hy.mono hB.size))) n1).mono fun e w' h => tells_lt h (fun hp => by unfold shlBad at hp; omega)
    · exact (shl_tell p' n c1 zA N wy (bA.below hy (Nat.le_refl _)) n1).mono fun e w' h => tells_lt h (fun hp => by unfold shlBad at hp; omega)
  · by_cases hb : 4096 < Nm.tsize zA ∨ N < 0
    · refine ⟨⟨0, 0, 0, false, shErr zA⟩, fun wx hB => nwanted14 p q n k cap cap' M C N wx _ _ _ (fun wy hy => ?_), fun wx p' q' c1 c2 hB bA bB => nasked14 p' q' n k c1 c2 M C N wx _ _ _ (fun wy hy => ?_)⟩
      · refine (refShr_any p n cap zA N wy (AA wy (hB.trans (hy.mono hB.size))) n1).mono ?_
        rintro e w' ⟨r, os, B, f, rfl, h | h, hw⟩
        · obtain ⟨-, rfl, rfl, rfl, rfl⟩ := h
          exact ⟨none, [], rfl, lt_nil _ _, hw⟩
        · exact absurd hb h.1
      · refine (shr_tell p' n c1 zA N wy (bA.below hy (Nat.le_refl _)) (TB wy (hB.trans (hy.mono hB.size)))).mono ?_
        rintro e w' ⟨r, os, B, f, rfl, h | h, hw⟩
        · obtain ⟨-, rfl, rfl, rfl, rfl⟩ := h
          exact ⟨none, [], rfl, lt_nil _ _, hw⟩
        · exact absurd hb h.1
    · have fit : Nm.val zA / 2 ^ N.toNat < Nm.pw 4096 := by
        have := tA (by omega)
        have := Int.ediv_le_self (2 ^ N.toNat) vA.1
        omega
      refine ⟨⟨Nm.val zA / 2 ^ N.toNat, 0, 0, decide (Nm.val zA % 2 ^ N.toNat ≠ 0), 0⟩, fun wx hB => nwanted14 p q n k cap cap' M C N wx _ _ _ (fun wy hy => ?_), fun wx p' q' c1 c2 hB bA bB => nasked14 p' q' n k c1 c2 M C N wx _ _ _ (fun wy hy => ?_)⟩
      · refine (refShr_any p n cap zA N wy (AA wy (hB.trans (hy.mono hB.size))) n1).mono ?_
        rintro e w' ⟨r, os, B, f, rfl, h | h, hw⟩
        · exact absurd h.1 hb
        · obtain ⟨-, rfl, rfl, A⟩ := h
          exact ⟨r, os, rfl, ⟨A, by have := A.small fit; omega⟩, hw⟩
      · refine (shr_tell p' n c1 zA N wy (bA.below hy (Nat.le_refl _)) (TB wy (hB.trans (hy.mono hB.size)))).mono ?_
        rintro e w' ⟨r, os, B, f, rfl, h | h, hw⟩
        · exact absurd h.1 hb
        · obtain ⟨-, rfl, rfl, A⟩ := h
          exact ⟨r, os, rfl, ⟨A, by have := A.small fit; omega⟩, hw⟩
  · refine ⟨⟨fv ((4096 < Nm.tsize zA ∨ 4096 < Nm.tsize zB) ∨ Nm.pw 4096 ≤ Nm.val zA + (Nm.val zB + (Nm.val zA + 0))) (Nm.val zA + (Nm.val zB + (Nm.val zA + 0))), 0, 0, false, fe ((4096 < Nm.tsize zA ∨ 4096 < Nm.tsize zB) ∨ Nm.pw 4096 ≤ Nm.val zA + (Nm.val zB + (Nm.val zA + 0))) 2⟩, fun wx hB => nwanted15 p q n k cap cap' M C N wx _ _ (fun wy g hy hg => ?_), fun wx p' q' c1 c2 hB bA bB => nasked15 p' q' n k c1 c2 M C N wx _ _ (fun wy g hy hg => ?_)⟩
    · have hA := AA wy (hB.trans (hy.mono hB.size))
      have hA2 := AB wy (hB.trans (hy.mono hB.size))
      exact (refSum_any (some ⟨g, 0, none⟩) 3 3 [⟨p, n, cap, zA⟩, ⟨q, k, cap', zB⟩, ⟨p, n, cap, zA⟩] wy rfl (Nat.le_refl _) (by omega) (holds3 hg) (fun it h => by
        simp at h
        rcases h with rfl | rfl | rfl
        · exact hA
        · exact hA2
        · exact hA)).mono fun e w' h => tells_lt (sum_tells h) (by omega)
    · have hA := bA.below hy (Nat.le_refl _)
      have hA2 := bB.below hy (Nat.le_refl _)
      exact (sum_any (some ⟨g, 0, none⟩) 3 3 [⟨p', n, c1, zA⟩, ⟨q', k, c2, zB⟩, ⟨p', n, c1, zA⟩] wy rfl (Nat.le_refl _) (by omega) (holds3 hg) (fun it h => by
        simp at h
        rcases h with rfl | rfl | rfl
        · exact hA
        · exact hA2
        · exact hA)).mono fun e w' h => tells_lt (sum_tells h) (by omega)
  · have fit : ¬ (4096 < Nm.tsize zA ∨ N < 0) → Nm.val zA % 2 ^ N.toNat < Nm.pw 4096 := fun h => by
      have := tA (by omega)
      have := mod_le_self vA.1 (Nm.two_pos N.toNat)
      omega
    refine ⟨⟨fv (4096 < Nm.tsize zA ∨ N < 0) (Nm.val zA % 2 ^ N.toNat), 0, 0, false, fe (4096 < Nm.tsize zA ∨ N < 0) (shErr zA)⟩, fun wx hB => nwanted16 p q n k cap cap' M C N wx _ _ (fun wy hy => ?_), fun wx p' q' c1 c2 hB bA bB => nasked16 p' q' n k c1 c2 M C N wx _ _ (fun wy hy => ?_)⟩
    · exact (refLow_any p n cap zA N wy (AA wy (hB.trans (hy.mono hB.size))) n1).mono fun e w' h => tells_lt h fit
    · exact (low_tell p' n c1 zA N wy (bA.below hy (Nat.le_refl _))).mono fun e w' h => tells_lt h fit
end Go.Proofs.YtmglogncpfoldaaDoor

namespace Go.Proofs.YtmglogncpfoldaaDoor
open Go Go.RowKit Go.Deep

/-- Both sides of a call. -/
def NBth2 (kd : Int) (n k : Nat) (M C N : Int) (zA zB : List Int) : Prop :=
  ∃ a : AV1,
    (∀ wx p q cap cap', Arg wx p n cap zA → Arg wx q k cap' zB → Calls Tryd.prog 8 #[opOf1 kd (.slice p n cap) (.slice q k cap') M C N] wx fun r w' => NTold a wx r w') ∧
    (∀ wx p' q' c1 c2, Tab wx → Arg wx p' n c1 zA → Arg wx q' k c2 zB → Calls Tryd.prog 9 #[opOf1 kd (.slice p' n c1) (.slice q' k c2) M C N] wx fun r w' => NTold a wx r w')

theorem nboth2_any (kd : Int) (n k : Nat) (M C N : Int) (zA zB : List Int) (m0 : 0 ≤ M) (m1 : M < 18446744073709551616) (c0 : 0 ≤ C) (c1 : C < 18446744073709551616) (n1 : N ≤ 9223372036854775807)
    (hzA : zA.length = n) (hn : n ≤ 17592186044000) (lA : Nm.Limbs zA) (lB : Nm.Limbs zB) : NBth2 kd n k M C N zA zB := by
  have HL : Hid ((Nm.trim zA).length ≤ 17592186044000) := by
    have h1 := Nm.trim_length zA
    have h2 := Nm.tsize_le zA
    show _ ≤ _
    omega
  clear hn hzA
  have vA := Nm.val_bd zA lA
  have vB := Nm.val_bd zB lB
  have tA : Nm.tsize zA ≤ 4096 → Nm.val zA < Nm.pw 4096 := fun h => (Nm.tsize_le_iff lA 4096).1 h
  by_cases ho : kd < 1 ∨ 16 < kd
  · exact ⟨⟨0, 0, 0, false, 0⟩, fun wx p q cap cap' _ _ => nwanted_other kd p q n k cap cap' M C N wx ho, fun wx p' q' c1 c2 _ _ _ => nasked_other kd p' q' n k c1 c2 M C N wx ho⟩
  rcases (show kd = 1 ∨ kd = 2 ∨ kd = 3 ∨ kd = 4 ∨ kd = 5 ∨ kd = 6 ∨ kd = 7 ∨ kd = 8 ∨ kd = 9 ∨ kd = 10 ∨ kd = 11 ∨ kd = 12 ∨ kd = 13 ∨ kd = 14 ∨ kd = 15 ∨ kd = 16 by omega) with rfl | rfl | rfl | rfl | rfl | rfl | rfl | rfl | rfl | rfl | rfl | rfl | rfl | rfl | rfl | rfl
  · have lt := HL.out
    refine ⟨⟨Nm.val zA, 0, 0, false, 0⟩, fun wx p q cap cap' cA cB => nwanted1 p q n k cap cap' M C N wx (Nm.val zA) (fun wy hy => ?_), fun wx p' q' c1 c2 hT bA bB => nasked1 p' q' n k c1 c2 M C N wx (Nm.val zA) (fun wy hy => ?_)⟩
    · refine (refTrim_any p n cap zA wy (cA.below hy (Nat.le_refl _))).mono ?_
      rintro e w' ⟨r, os, rfl, rfl, A, hw⟩
      exact ⟨r, _, rfl, ⟨A, lt⟩, hw⟩
    · refine (trim_any p' n c1 zA wy (bA.below hy (Nat.le_refl _))).mono ?_
      rintro e w' ⟨r, os, rfl, rfl, A, hw⟩
      exact ⟨r, _, rfl, ⟨A, lt⟩, hw⟩
  · refine ⟨⟨M, 0, 0, false, 0⟩, fun wx p q cap cap' cA cB => nwanted2 p q n k cap cap' M C N wx M (fun wy hy => ?_), fun wx p' q' c1 c2 hT bA bB => nasked2 p' q' n k c1 c2 M C N wx M (fun wy hy => ?_)⟩
    · refine (refFromUint_any M wy m0 m1).mono ?_
      rintro e w' ⟨r, os, rfl, A, hw⟩
      exact ⟨r, os, rfl, ⟨A, by have := A.small (by have := pw_one; omega); omega⟩, hw⟩
    · refine (fromUint_any M wy m0 m1).mono ?_
      rintro e w' ⟨r, os, rfl, A, hw⟩
      exact ⟨r, os, rfl, ⟨A, by have := A.small (by have := pw_one; omega); omega⟩, hw⟩
  · refine ⟨⟨0, toU zA, 0, decide (Nm.tsize zA ≤ 1), 0⟩, fun wx p q cap cap' cA cB => nwanted3 p q n k cap cap' M C N wx _ _ (fun wy hy => ?_), fun wx p' q' c1 c2 hT bA bB => nasked3 p' q' n k c1 c2 M C N wx _ _ (fun wy hy => ?_)⟩
    · refine (refToUint_any p n cap zA wy (cA.below hy (Nat.le_refl _))).mono ?_
      rintro e w' ⟨rfl, hw⟩
      exact ⟨rfl, bel_eqN hw⟩
    · refine (toUint_any p' n c1 zA wy (bA.below hy (Nat.le_refl _))).mono ?_
      rintro e w' ⟨rfl, hw⟩
      exact ⟨rfl, bel_eqN hw⟩
  · obtain ⟨L, hL, BL, _, _⟩ := blen_is zA lA
    refine ⟨⟨0, 0, (L : Int), false, 0⟩, fun wx p q cap cap' cA cB => nwanted4 p q n k cap cap' M C N wx _ (fun wy hy => ?_), fun wx p' q' c1 c2 hT bA bB => nasked4 p' q' n k c1 c2 M C N wx _ (fun wy hy => ?_)⟩
    · refine (refBitLen_any p n cap zA wy (cA.below hy (Nat.le_refl _))).mono ?_
      rintro e w' ⟨⟨L', rfl, BL'⟩, hw⟩
      rw [Nm.BLen.unique vA.1 BL' BL]
      exact ⟨rfl, bel_eqN hw⟩
    · refine (bitLen_n L p' n c1 zA wy (bA.below hy (Nat.le_refl _)) hL).mono ?_
      rintro e w' ⟨rfl, hw⟩
      exact ⟨rfl, bel_eqN hw⟩
  · by_cases hn : N < 0
    · refine ⟨⟨0, 0, 0, false, 0⟩, fun wx p q cap cap' cA cB => nwanted5 p q n k cap cap' M C N wx _ (fun wy hy => ?_), fun wx p' q' c1 c2 hT bA bB => nasked5 p' q' n k c1 c2 M C N wx _ (fun wy hy => ?_)⟩
      · refine (refBit_neg p n cap N wy hn).mono ?_
        rintro e w' ⟨rfl, hw⟩
        exact ⟨rfl, bel_eqN hw⟩
      · refine (bit_neg p' n c1 N wy hn).mono ?_
        rintro e w' ⟨rfl, hw⟩
        exact ⟨rfl, bel_eqN hw⟩
    · refine ⟨⟨0, 0, Nm.val zA / 2 ^ N.toNat % 2, false, 0⟩, fun wx p q cap cap' cA cB => nwanted5 p q n k cap cap' M C N wx _ (fun wy hy => ?_), fun wx p' q' c1 c2 hT bA bB => nasked5 p' q' n k c1 c2 M C N wx _ (fun wy hy => ?_)⟩
      · refine (refBit_any p n cap zA N.toNat N wy (cA.below hy (Nat.le_refl _)) n1 (by omega)).mono ?_
        rintro e w' ⟨rfl, hw⟩
        exact ⟨rfl, bel_eqN hw⟩
      · refine (bit_any p' n c1 zA N.toNat N wy (bA.below hy (Nat.le_refl _)) n1 (by omega)).mono ?_
        rintro e w' ⟨rfl, hw⟩
        exact ⟨rfl, bel_eqN hw⟩
  · refine ⟨⟨0, 0, trlOf (Nm.val zA), false, 0⟩, fun wx p q cap cap' cA cB => nwanted6 p q n k cap cap' M C N wx _ (fun wy hy => ?_), fun wx p' q' c1 c2 hT bA bB => nasked6 p' q' n k c1 c2 M C N wx _ (fun wy hy => ?_)⟩
    · refine (refTrail_any p n cap zA wy (cA.below hy (Nat.le_refl _))).mono ?_
      rintro e w' ⟨⟨t, rfl, h⟩, hw⟩
      rw [trlOf_is h]
      exact ⟨rfl, bel_eqN hw⟩
    · refine (trail_any p' n c1 zA wy (bA.below hy (Nat.le_refl _)) (hT.below hy)).mono ?_
      rintro e w' ⟨t, rfl, h, hw⟩
      rw [trlOf_is h]
      exact ⟨rfl, bel_eqN hw⟩
  · refine ⟨⟨0, 0, cmpI (Nm.val zA) (Nm.val zB), false, 0⟩, fun wx p q cap cap' cA cB => nwanted7 p q n k cap cap' M C N wx _ (fun wy hy => ?_), fun wx p' q' c1 c2 hT bA bB => nasked7 p' q' n k c1 c2 M C N wx _ (fun wy hy => ?_)⟩
    · exact refCmp_any p q n cap k cap' zA zB wy (cA.below hy (Nat.le_refl _)) (cB.below hy (Nat.le_refl _))
    · exact cmp_any p' q' n c1 k c2 zA zB wy (bA.below hy (Nat.le_refl _)) (bB.below hy (Nat.le_refl _))
  · refine ⟨⟨fv (4096 < Nm.tsize zA ∨ 4096 < Nm.tsize zB ∨ Nm.pw 4096 ≤ Nm.val zA + Nm.val zB) (Nm.val zA + Nm.val zB), 0, 0, false, fe (4096 < Nm.tsize zA ∨ 4096 < Nm.tsize zB ∨ Nm.pw 4096 ≤ Nm.val zA + Nm.val zB) 2⟩, fun wx p q cap cap' cA cB => nwanted8 p q n k cap cap' M C N wx _ _ (fun wy hy => ?_), fun wx p' q' c1 c2 hT bA bB => nasked8 p' q' n k c1 c2 M C N wx _ _ (fun wy hy => ?_)⟩
    · exact (refAdd_any p q n cap k cap' zA zB wy (cA.below hy (Nat.le_refl _)) (cB.below hy (Nat.le_refl _))).mono fun e w' h => tells_lt h (by omega)
    · exact (add_tell p' q' n c1 k c2 zA zB wy (bA.below hy (Nat.le_refl _)) (bB.below hy (Nat.le_refl _))).mono fun e w' h => tells_lt h (by omega)
  · refine ⟨⟨fv ((4096 < Nm.tsize zA ∨ 4096 < Nm.tsize zB) ∨ Nm.val zA < Nm.val zB) (Nm.val zA - Nm.val zB), 0, 0, false, fe ((4096 < Nm.tsize zA ∨ 4096 < Nm.tsize zB) ∨ Nm.val zA < Nm.val zB) (subErr zA zB)⟩, fun wx p q cap cap' cA cB => nwanted9 p q n k cap cap' M C N wx _ _ (fun wy hy => ?_), fun wx p' q' c1 c2 hT bA bB => nasked9 p' q' n k c1 c2 M C N wx _ _ (fun wy hy => ?_)⟩
    · exact (refSub_any p q n cap k cap' zA zB wy (cA.below hy (Nat.le_refl _)) (cB.below hy (Nat.le_refl _))).mono fun e w' h => tells_lt h (fun hp => by have := tA (by omega); omega)
    · exact (sub_tell p' q' n c1 k c2 zA zB wy (bA.below hy (Nat.le_refl _)) (bB.below hy (Nat.le_refl _))).mono fun e w' h => tells_lt h (fun hp => by have := tA (by omega); omega)
  · refine ⟨⟨fv (4096 < Nm.tsize zA ∨ 4096 < Nm.tsize zB ∨ Nm.pw 4096 ≤ Nm.val zA * Nm.val zB) (Nm.val zA * Nm.val zB), 0, 0, false, fe (4096 < Nm.tsize zA ∨ 4096 < Nm.tsize zB ∨ Nm.pw 4096 ≤ Nm.val zA * Nm.val zB) 2⟩, fun wx p q cap cap' cA cB => nwanted10 p q n k cap cap' M C N wx _ _ (fun wy hy => ?_), fun wx p' q' c1 c2 hT bA bB => nasked10 p' q' n k c1 c2 M C N wx _ _ (fun wy hy => ?_)⟩
    · exact (refMul_any p q n cap k cap' zA zB wy (cA.below hy (Nat.le_refl _)) (cB.below hy (Nat.le_refl _))).mono fun e w' h => tells_lt h (by omega)
    · exact (mul_tell p' q' n c1 k c2 zA zB wy (bA.below hy (Nat.le_refl _)) (bB.below hy (Nat.le_refl _))).mono fun e w' h => tells_lt h (by omega)
  · refine ⟨⟨fv (4096 < Nm.tsize zA ∨ Nm.pw 4096 ≤ Nm.val zA * M + C) (Nm.val zA * M + C), 0, 0, false, fe (4096 < Nm.tsize zA ∨ Nm.pw 4096 ≤ Nm.val zA * M + C) 2⟩, fun wx p q cap cap' cA cB => nwanted11 p q n k cap cap' M C N wx _ _ (fun wy hy => ?_), fun wx p' q' c1 c2 hT bA bB => nasked11 p' q' n k c1 c2 M C N wx _ _ (fun wy hy => ?_)⟩
    · exact (refMulAdd_any p n cap zA M C wy (cA.below hy (Nat.le_refl _)) m0 m1 c0 ‹_›).mono fun e w' h => tells_lt h (by omega)
    · exact (mulAdd_tell p' n c1 zA M C wy (bA.below hy (Nat.le_refl _)) m0 m1 c0 ‹_›).mono fun e w' h => tells_lt h (by omega)
  · by_cases tz : 4096 < Nm.tsize zA
    · refine ⟨⟨0, 0, 0, false, 2⟩, fun wx p q cap cap' cA cB => nwanted12 p q n k cap cap' M C N wx _ _ _ (fun wy hy => ?_), fun wx p' q' c1 c2 hT bA bB => nasked12 p' q' n k c1 c2 M C N wx _ _ _ (fun wy hy => ?_)⟩
      · refine (refDivSmall_big p n cap zA M wy (cA.below hy (Nat.le_refl _)) tz).mono ?_
        rintro e w' ⟨rfl, hw⟩
        exact ⟨none, [], rfl, lt_nil _ _, bel_eqN hw⟩
      · refine (divSmall_big p' n c1 zA M wy (bA.below hy (Nat.le_refl _)) tz).mono ?_
        rintro e w' ⟨rfl, hw⟩
        exact ⟨none, [], rfl, lt_nil _ _, bel_eqN hw⟩
    · by_cases hz : M = 0
      · subst hz
        refine ⟨⟨0, 0, 0, false, 4⟩, fun wx p q cap cap' cA cB => nwanted12 p q n k cap cap' 0 C N wx _ _ _ (fun wy hy => ?_), fun wx p' q' c1 c2 hT bA bB => nasked12 p' q' n k c1 c2 0 C N wx _ _ _ (fun wy hy => ?_)⟩
        · refine (refDivSmall_zero p n cap zA wy (cA.below hy (Nat.le_refl _)) (by omega)).mono ?_
          rintro e w' ⟨rfl, hw⟩
          exact ⟨none, [], rfl, lt_nil _ _, bel_eqN hw⟩
        · refine (divSmall_zero p' n c1 zA wy (bA.below hy (Nat.le_refl _)) (by omega)).mono ?_
          rintro e w' ⟨rfl, hw⟩
          exact ⟨none, [], rfl, lt_nil _ _, bel_eqN hw⟩
      · have key : ∀ (os : List Int) (rest : Int), 0 ≤ rest ∧ rest < M → Nm.val os * M + rest = Nm.val zA → Nm.val os = Nm.val zA / M ∧ rest = Nm.val zA % M := by
          intro os rest hr he
          have e1 : Nm.val zA = rest + M * Nm.val os := by rw [← he, Int.mul_comm]; omega
          constructor
          · rw [e1, Int.add_mul_ediv_left _ _ (by omega), Int.ediv_eq_zero_of_lt hr.1 hr.2]; omega
          · rw [e1, Int.add_mul_emod_self_left, Int.emod_eq_of_lt hr.1 hr.2]
        have fit : Nm.val zA / M < Nm.pw 4096 := by
          have := tA (by omega)
          have := Int.ediv_le_self M vA.1
          omega
        refine ⟨⟨Nm.val zA / M, Nm.val zA % M, 0, false, 0⟩, fun wx p q cap cap' cA cB => nwanted12 p q n k cap cap' M C N wx _ _ _ (fun wy hy => ?_), fun wx p' q' c1 c2 hT bA bB => nasked12 p' q' n k c1 c2 M C N wx _ _ _ (fun wy hy => ?_)⟩
        · refine (refDivSmall_ok p n cap zA M wy (cA.below hy (Nat.le_refl _)) (by omega) (by omega) m1).mono ?_
          rintro e w' ⟨r, os, rest, rfl, A, hr, he, hw⟩
          obtain ⟨k1, k2⟩ := key os rest hr he.out
          rw [k1] at A
          rw [← k2]
          exact ⟨r, os, rfl, ⟨A, by have := A.small fit; omega⟩, hw⟩
        · refine (divSmall_ok p' n c1 zA M wy (bA.below hy (Nat.le_refl _)) (by omega) (by omega) m1).mono ?_
          rintro e w' ⟨r, os, rest, rfl, A, hr, he, hw⟩
          obtain ⟨k1, k2⟩ := key os rest hr he.out
          rw [k1] at A
          rw [← k2]
          exact ⟨r, os, rfl, ⟨A, by have := A.small fit; omega⟩, hw⟩
  · refine ⟨⟨fv (shlBad zA N) (Nm.val zA * 2 ^ N.toNat), 0, 0, false, fe (shlBad zA N) (shlErr zA N)⟩, fun wx p q cap cap' cA cB => nwanted13 p q n k cap cap' M C N wx _ _ (fun wy hy => ?_), fun wx p' q' c1 c2 hT bA bB => nasked13 p' q' n k c1 c2 M C N wx _ _ (fun wy hy => ?_)⟩
    · exact (refShl_any p n cap zA N wy (cA.below hy (Nat.le_refl _)) n1).mono fun e w' h => tells_lt h (fun hp => by unfold shlBad at hp; omega)
    · exact (shl_tell p' n c1 zA N wy (bA.below hy (Nat.le_refl _)) n1).mono fun e w' h => tells_lt h (fun hp => by unfold shlBad at hp; omega)
  · by_cases hb : 4096 < Nm.tsize zA ∨ N < 0
    · refine ⟨⟨0, 0, 0, false, shErr zA⟩, fun wx p q cap cap' cA cB => nwanted14 p q n k cap cap' M C N wx _ _ _ (fun wy hy => ?_), fun wx p' q' c1 c2 hT bA bB => nasked14 p' q' n k c1 c2 M C N wx _ _ _ (fun wy hy => ?_)⟩
      · refine (refShr_any p n cap zA N wy (cA.below hy (Nat.le_refl _)) n1).mono ?_
        rintro e w' ⟨r, os, B, f, rfl, h | h, hw⟩
        · obtain ⟨-, rfl, rfl, rfl, rfl⟩ := h
          exact ⟨none, [], rfl, lt_nil _ _, hw⟩
        · exact absurd hb h.1
      · refine (shr_tell p' n c1 zA N wy (bA.below hy (Nat.le_refl _)) (hT.below hy)).mono ?_
        rintro e w' ⟨r, os, B, f, rfl, h | h, hw⟩
        · obtain ⟨-, rfl, rfl, rfl, rfl⟩ := h
          exact ⟨none, [], rfl, lt_nil _ _, hw⟩
        · exact absurd hb h.1
    · have fit : Nm.val zA / 2 ^ N.toNat < Nm.pw 4096 := by
        have := tA (by omega)
        have := Int.ediv_le_self (2 ^ N.toNat) vA.1
        omega
      refine ⟨⟨Nm.val zA / 2 ^ N.toNat, 0, 0, decide (Nm.val zA % 2 ^ N.toNat ≠ 0), 0⟩, fun wx p q cap cap' cA cB => nwanted14 p q n k cap cap' M C N wx _ _ _ (fun wy hy => ?_), fun wx p' q' c1 c2 hT bA bB => nasked14 p' q' n k c1 c2 M C N wx _ _ _ (fun wy hy => ?_)⟩
      · refine (refShr_any p n cap zA N wy (cA.below hy (Nat.le_refl _)) n1).mono ?_
        rintro e w' ⟨r, os, B, f, rfl, h | h, hw⟩
        · exact absurd h.1 hb
        · obtain ⟨-, rfl, rfl, A⟩ := h
          exact ⟨r, os, rfl, ⟨A, by have := A.small fit; omega⟩, hw⟩
      · refine (shr_tell p' n c1 zA N wy (bA.below hy (Nat.le_refl _)) (hT.below hy)).mono ?_
        rintro e w' ⟨r, os, B, f, rfl, h | h, hw⟩
        · exact absurd h.1 hb
        · obtain ⟨-, rfl, rfl, A⟩ := h
          exact ⟨r, os, rfl, ⟨A, by have := A.small fit; omega⟩, hw⟩
  · refine ⟨⟨fv ((4096 < Nm.tsize zA ∨ 4096 < Nm.tsize zB) ∨ Nm.pw 4096 ≤ Nm.val zA + (Nm.val zB + (Nm.val zA + 0))) (Nm.val zA + (Nm.val zB + (Nm.val zA + 0))), 0, 0, false, fe ((4096 < Nm.tsize zA ∨ 4096 < Nm.tsize zB) ∨ Nm.pw 4096 ≤ Nm.val zA + (Nm.val zB + (Nm.val zA + 0))) 2⟩, fun wx p q cap cap' cA cB => nwanted15 p q n k cap cap' M C N wx _ _ (fun wy g hy hg => ?_), fun wx p' q' c1 c2 hT bA bB => nasked15 p' q' n k c1 c2 M C N wx _ _ (fun wy g hy hg => ?_)⟩
    · have hA := cA.below hy (Nat.le_refl _)
      have hA2 := cB.below hy (Nat.le_refl _)
      exact (refSum_any (some ⟨g, 0, none⟩) 3 3 [⟨p, n, cap, zA⟩, ⟨q, k, cap', zB⟩, ⟨p, n, cap, zA⟩] wy rfl (Nat.le_refl _) (by omega) (holds3 hg) (fun it h => by
        simp at h
        rcases h with rfl | rfl | rfl
        · exact hA
        · exact hA2
        · exact hA)).mono fun e w' h => tells_lt (sum_tells h) (by omega)
    · have hA := bA.below hy (Nat.le_refl _)
      have hA2 := bB.below hy (Nat.le_refl _)
      exact (sum_any (some ⟨g, 0, none⟩) 3 3 [⟨p', n, c1, zA⟩, ⟨q', k, c2, zB⟩, ⟨p', n, c1, zA⟩] wy rfl (Nat.le_refl _) (by omega) (holds3 hg) (fun it h => by
        simp at h
        rcases h with rfl | rfl | rfl
        · exact hA
        · exact hA2
        · exact hA)).mono fun e w' h => tells_lt (sum_tells h) (by omega)
  · have fit : ¬ (4096 < Nm.tsize zA ∨ N < 0) → Nm.val zA % 2 ^ N.toNat < Nm.pw 4096 := fun h => by
      have := tA (by omega)
      have := mod_le_self vA.1 (Nm.two_pos N.toNat)
      omega
    refine ⟨⟨fv (4096 < Nm.tsize zA ∨ N < 0) (Nm.val zA % 2 ^ N.toNat), 0, 0, false, fe (4096 < Nm.tsize zA ∨ N < 0) (shErr zA)⟩, fun wx p q cap cap' cA cB => nwanted16 p q n k cap cap' M C N wx _ _ (fun wy hy => ?_), fun wx p' q' c1 c2 hT bA bB => nasked16 p' q' n k c1 c2 M C N wx _ _ (fun wy hy => ?_)⟩
    · exact (refLow_any p n cap zA N wy (cA.below hy (Nat.le_refl _)) n1).mono fun e w' h => tells_lt h fit
    · exact (low_tell p' n c1 zA N wy (bA.below hy (Nat.le_refl _))).mono fun e w' h => tells_lt h fit
end Go.Proofs.YtmglogncpfoldaaDoor
