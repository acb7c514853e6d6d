/-
  quot's Near.
-/
import Derived.Test.YthfechigdiefpaaQSplits
import Derived.Test.YthfechigdiefpaaBitW
import Derived.Test.YthfechigdiefpaaSub
namespace Go.Proofs.Ythfechigdiefpaa
open Go.RowKit Go.Deep

/-- The whole number nearest to A / B, of two the even one. -/
def nearI (A B : Int) : Int := if 2 * (A % B) < B ∨ (2 * (A % B) = B ∧ A / B % 2 = 0) then A / B else A / B + 1

theorem near_big (p q : Option Addr) (n cap m cap' : Nat) (zs ys : List Int) (w : World) (ha : Arg w p n cap zs) (hb : Arg w q m cap' ys) (h : 4096 < Nm.tsize zs ∨ 4096 < Nm.tsize ys) :
    Calls Try.prog 18 #[.slice p n cap, .slice q m cap'] w fun e w' => e = .returned (.tuple #[.slice none 0 0, .int .i64 2]) ∧ w' = w := by
  have H := hid (divMod_big p q n cap m cap' zs ys w ha hb h)
  clear h
  go_enter Try.func18, Try.ntmps18
  go_wp2_with fail
  refine H.out.mono ?_
  rintro e w' ⟨rfl, rfl⟩
  go_wp2_with fail
  go_ret2
  exact ⟨rfl, rfl⟩

theorem near_zero (p q : Option Addr) (n cap m cap' : Nat) (zs ys : List Int) (w : World) (ha : Arg w p n cap zs) (hb : Arg w q m cap' ys) (tz : Nm.tsize zs ≤ 4096) (ty : Nm.tsize ys = 0) :
    Calls Try.prog 18 #[.slice p n cap, .slice q m cap'] w fun e w' => e = .returned (.tuple #[.slice none 0 0, .int .i64 4]) ∧ Below w.heap.size w w' := by
  have H := hid (divMod_zero p q n cap m cap' zs ys w ha hb tz ty)
  clear ty
  go_enter Try.func18, Try.ntmps18
  go_wp2_with fail
  refine H.out.mono ?_
  rintro e w' ⟨rfl, hb⟩
  have HB := hid hb
  clear hb
  go_wp2_with fail
  go_ret2
  exact ⟨rfl, HB.out⟩

/-- What DivMod's numbers keep to. -/
theorem split_facts {A B P : Int} (hA : 0 ≤ A) (hAP : A < P) (hB : 0 < B) : A / B * B + A % B = A ∧ A / B < P ∧ A % B < P ∧ A / B * B < P ∧ 0 ≤ A % B ∧ A % B < B ∧ 0 ≤ A / B ∧ (0 < A % B → A / B + 1 < P) := by
  have ed := Int.emod_add_mul_ediv A B
  have e0 := Int.emod_nonneg A (show B ≠ 0 by omega)
  have e1 := Int.emod_lt_of_pos A hB
  have e2 : 0 ≤ A / B := Int.ediv_nonneg hA (by omega)
  have e3 : A / B * 1 ≤ A / B * B := Int.mul_le_mul_of_nonneg_left (by omega) e2
  rw [Int.mul_comm] at ed
  refine ⟨by omega, by omega, by omega, by omega, e0, e1, e2, fun h => by omega⟩

set_option maxRecDepth 100000 in
set_option maxHeartbeats 4000000 in
theorem near_ok (p q : Option Addr) (n cap m cap' : Nat) (za zb : List Int) (w : World) (ha : Arg w p n cap za) (hb : Arg w q m cap' zb) (tz : Nm.tsize za ≤ 4096) (ty : Nm.tsize zb ≤ 4096) (hy : 0 < Nm.tsize zb) :
    Calls Try.prog 18 #[.slice p n cap, .slice q m cap'] w fun e w' => ∃ r os, e = .returned (.tuple #[.slice r (List.length os) (List.length os), .int .i64 0]) ∧ Ans w.heap.size w' r os (nearI (Nm.val za) (Nm.val zb)) ∧ Below w.heap.size w w' := by
  have va := (Nm.val_bd za ha.2.2.2.2).1
  have vb : 0 < Nm.val zb := by
    have h1 := Nm.tsize_zero_iff hb.2.2.2.2
    have h2 := (Nm.val_bd zb hb.2.2.2.2).1
    omega
  have hs : Nm.val za < Nm.pw 4096 := (Nm.tsize_le_iff ha.2.2.2.2 4096).1 tz
  have hs' : Nm.val zb < Nm.pw 4096 := (Nm.tsize_le_iff hb.2.2.2.2 4096).1 ty
  have SF := hid (split_facts va hs vb)
  have DM := hid (divMod_ok p q n cap m cap' za zb w ha hb tz ty hy)
  have HB := hid hb
  have HTY := hid ty
  obtain ⟨A, hA⟩ : ∃ A, Nm.val za = A := ⟨_, rfl⟩
  obtain ⟨B, hB⟩ : ∃ B, Nm.val zb = B := ⟨_, rfl⟩
  rw [hA, hB] at SF DM
  rw [hB] at hs'
  have HS' := hid hs'
  have HVB := hid hB
  rw [hA, hB]
  clear va vb hs hs' ha hb tz ty hy hA hB
  obtain ⟨Q, hQ⟩ : ∃ Q, A / B = Q := ⟨_, rfl⟩
  obtain ⟨R, hR⟩ : ∃ R, A % B = R := ⟨_, rfl⟩
  simp only [Splits, hQ, hR] at DM
  rw [hQ, hR] at SF
  have NI : Hid (nearI A B = if 2 * R < B ∨ (2 * R = B ∧ Q % 2 = 0) then Q else Q + 1) := by show _ = _; rw [nearI, hQ, hR]
  clear hQ hR
  go_enter Try.func18, Try.ntmps18
  go_wp2_with fail
  refine DM.out.mono ?_
  rintro e w1 ⟨s1, os, s2, rs, rfl, B1, B2, hb1⟩
  have HB1 := hid B1
  have HB2 := hid B2
  have D1 := hid hb1
  have HBB := hid (HB.out.below hb1 (Nat.le_refl _))
  clear B1 B2 hb1 DM
  go_wp2_with fail
  refine (sub_ok q s2 m cap' _ _ zb rs _ HBB.out (HB2.out.argS SF.out.2.2.1) HTY.out (by rw [HB2.out.2.2.2.1, HVB.out]; have := SF.out; omega)).mono ?_
  rintro e w2 ⟨s3, ls, rfl, B3, hb2⟩
  rw [HB2.out.2.2.2.1, HVB.out] at B3
  have HB3 := hid B3
  have HB1' := hid (HB1.out.below hb2 (Nat.le_refl _))
  have HB2' := hid (HB2.out.below hb2 (Nat.le_refl _))
  have D2 := hid (chain D1.out hb2 (Nat.le_refl _))
  clear B3 hb2 HB1 HB2 D1 HBB
  have hlk : Hid (B - R < Nm.pw 4096) := by show _ < _; have := SF.out; have := HS'.out; omega
  obtain ⟨c, HC⟩ : ∃ c, Hid (cmpI R (B - R) = c) := ⟨_, rfl⟩
  go_wp2_with fail
  refine (cmp_is c s2 s3 _ _ _ _ rs ls _ (HB2'.out.argS SF.out.2.2.1) (HB3.out.argS hlk.out) (by rw [HB2'.out.2.2.2.1, HB3.out.2.2.2.1]; exact HC.out)).mono ?_
  rintro e w3 ⟨rfl, hb3⟩
  have HB1 := hid (HB1'.out.below hb3 (Nat.le_refl _))
  have D3 := hid (chain D2.out hb3 (Nat.le_refl _))
  clear hb3 HB1' D2 HB2' HB3
  have fin : ∀ (w' : World), Below w.heap.size w w' → Ans w.heap.size w' s1 os Q → nearI A B = Q → ∃ r os', Ending.returned (.tuple #[.slice s1 (List.length os) (List.length os), .int .i64 0]) = .returned (.tuple #[.slice r (List.length os') (List.length os'), .int .i64 0]) ∧ Ans w.heap.size w' r os' (nearI A B) ∧ Below w.heap.size w w' :=
    fun w' hb ha e => ⟨s1, os, rfl, by rw [e]; exact ha, hb⟩
  have FIN := hid fin
  clear fin
  rcases (show R < B - R ∨ (R = B - R) ∨ B - R < R by omega) with h | h | h
  · have hc : c = -1 := by rw [← HC.out]; exact cmpI_lt h
    have E : Hid (nearI A B = Q) := by show _ = _; rw [NI.out, if_pos (.inl (by omega))]
    subst hc
    clear h
    go_wp2_with fail
    go_ret2
    exact FIN.out _ D3.out HB1.out E.out
  · have hc : c = 0 := by rw [← HC.out]; exact cmpI_eq h
    subst hc
    have BI := hid (bit_any s1 _ _ os 0 0 w3 (HB1.out.argS SF.out.2.1) (by omega) rfl)
    rw [HB1.out.2.2.2.1, show Q / 2 ^ 0 % 2 = Q % 2 by simp] at BI
    rcases (show Q % 2 = 0 ∨ Q % 2 = 1 by omega) with hq | hq
    · have E : Hid (nearI A B = Q) := by show _ = _; rw [NI.out, if_pos (.inr ⟨by omega, hq⟩)]
      rw [hq] at BI
      clear h hq
      go_wp2_with fail
      refine BI.out.mono ?_
      rintro e w4 ⟨rfl, rfl⟩
      go_wp2_with fail
      go_ret2
      exact FIN.out _ D3.out HB1.out E.out
    · have E : Hid (nearI A B = Q + 1) := by show _ = _; rw [NI.out, if_neg (by omega)]
      have hR0 : Hid (0 < R) := by show _ < _; have := SF.out; omega
      rw [hq] at BI
      have hb4 : Below w3.heap.size w3 (w3.alloc (.cells #[.int .u64 1] 26)) := (Below.refl _ _).alloc (Nat.le_refl _) _
      have A5 : Hid (Arg (w3.alloc (.cells #[.int .u64 1] 26)) (some ⟨w3.heap.size, 0, none⟩) 1 1 [1]) := ⟨rfl, Nat.le_refl _, by omega, (Own.alloc w3 [1]).lies, limb_one (by omega)⟩
      have HB4 := hid (HB1.out.below hb4 (Nat.le_refl _))
      have D4 := hid (chain D3.out hb4 (Nat.le_refl _))
      clear h hq hb4
      go_wp2_with fail
      refine BI.out.mono ?_
      rintro e w4 ⟨rfl, rfl⟩
      go_wp2_with fail
      refine (add_ok s1 _ _ _ 1 1 os [1] _ (HB4.out.argS SF.out.2.1) A5.out (by rw [HB4.out.2.2.2.1, val_one]; exact SF.out.2.2.2.2.2.2.2 hR0.out)).mono ?_
      rintro e w5 ⟨t, us, rfl, B5, hb5⟩
      rw [HB4.out.2.2.2.1, val_one, ← E.out] at B5
      have HB5 := hid (B5.up D4.out.size)
      have D5 := hid (chain D4.out hb5 (Nat.le_refl _))
      clear B5 hb5
      go_wp2_with fail
      go_ret2
      exact ⟨t, us, rfl, HB5.out, D5.out⟩
  · have hc : c = 1 := by rw [← HC.out]; exact cmpI_gt h
    subst hc
    have E : Hid (nearI A B = Q + 1) := by show _ = _; rw [NI.out, if_neg (by omega)]
    have hR0 : Hid (0 < R) := by show _ < _; have := SF.out; omega
    have hb4 : Below w3.heap.size w3 (w3.alloc (.cells #[.int .u64 1] 26)) := (Below.refl _ _).alloc (Nat.le_refl _) _
    have A5 : Hid (Arg (w3.alloc (.cells #[.int .u64 1] 26)) (some ⟨w3.heap.size, 0, none⟩) 1 1 [1]) := ⟨rfl, Nat.le_refl _, by omega, (Own.alloc w3 [1]).lies, limb_one (by omega)⟩
    have HB4 := hid (HB1.out.below hb4 (Nat.le_refl _))
    have D4 := hid (chain D3.out hb4 (Nat.le_refl _))
    clear h hb4
    go_wp2_with fail
    refine (add_ok s1 _ _ _ 1 1 os [1] _ (HB4.out.argS SF.out.2.1) A5.out (by rw [HB4.out.2.2.2.1, val_one]; exact SF.out.2.2.2.2.2.2.2 hR0.out)).mono ?_
    rintro e w5 ⟨t, us, rfl, B5, hb5⟩
    rw [HB4.out.2.2.2.1, val_one, ← E.out] at B5
    have HB5 := hid (B5.up D4.out.size)
    have D5 := hid (chain D4.out hb5 (Nat.le_refl _))
    clear B5 hb5
    go_wp2_with fail
    go_ret2
    exact ⟨t, us, rfl, HB5.out, D5.out⟩
end Go.Proofs.Ythfechigdiefpaa
