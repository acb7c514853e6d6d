/-
  Texts put together: XFma, XSpecF, QLimbs, TrimW, Walk6, QDivMod, QDivOk, XTimesO, XDivL, XSpecM, XSpecD, XSpec2, XFlag2, XFlag3.
-/
import Derived.Test.YtljpmddjcfkonaaGreatDoorRC
import Derived.Test.YtljpmddjcfkonaaGreatDoorBlenIs
import Derived.Test.YtljpmddjcfkonaaGreatDoorWalk1
import Derived.Test.YtljpmddjcfkonaaGreatDoorBare
import Derived.Test.YtljpmddjcfkonaaGreatDoorRB
import Derived.Test.YtljpmddjcfkonaaGreatDoorFromW
/-
  soft: fma, Fma (made by mkfma.py).
-/
namespace Go.Proofs.YtljpmddjcfkonaaGreatDoor
open Go Go.RowKit Go.Deep

namespace Ie
/-- What fma answers. -/
def FmaIs (a b c r f : Int) : Prop :=
  if isn a = true ∨ isn b = true ∨ isn c = true then r = 9221120237041090560 ∧ f = 0
  else if isi a = true ∨ isi b = true then (if isz a = true ∨ isz b = true then r = 9221120237041090560 ∧ f = 1 else AddIs (sb (ngd a != ngd b) 9218868437227405312) c r f)
  else if isi c = true then r = c ∧ f = 0
  else ∃ neg V e, SumIs (ngd a != ngd b) (dm a * dm b) (de a + de b) (ngd c) (dm c) (de c) neg V e ∧ Res neg V e false r f
end Ie

set_option maxRecDepth 100000 in
set_option maxHeartbeats 8000000 in
theorem fma_fin (a b c : Int) (w : World) (a0 : 0 ≤ a) (a1 : a < 18446744073709551616) (b0 : 0 ≤ b) (b1 : b < 18446744073709551616) (c0 : 0 ≤ c) (c1 : c < 18446744073709551616) (hT : Tab w) (na : Ie.isn a = false) (ia : Ie.isi a = false) (nb : Ie.isn b = false) (ib : Ie.isi b = false) (nc : Ie.isn c = false) (ic : Ie.isi c = false) :
    Calls Tryz.prog 10 #[.int .u64 a, .int .u64 b, .int .u64 c] w fun e w' => Told2 (Ie.FmaIs a b c) w e w' := by
  have fa := Ie.fin_of na ia
  have fb := Ie.fin_of nb ib
  have fc := Ie.fin_of nc ic
  have FI : Hid (∀ (neg : Bool) (V e r f : Int), Ie.SumIs (Ie.ngd a != Ie.ngd b) (Ie.dm a * Ie.dm b) (Ie.de a + Ie.de b) (Ie.ngd c) (Ie.dm c) (Ie.de c) neg V e → Ie.Res neg V e false r f → Ie.FmaIs a b c r f) := by
    intro neg V e r f h1 h2
    rw [Ie.FmaIs, na, nb, ia, ib, nc, ic]
    simp only [Bool.false_eq_true, or_self, if_false]
    exact ⟨neg, V, e, h1, h2⟩
  have NA := hid (fun (wx : World) => nan_any a wx a0 a1)
  rw [na] at NA
  have NB := hid (fun (wx : World) => nan_any b wx b0 b1)
  rw [nb] at NB
  have NC := hid (fun (wx : World) => nan_any c wx c0 c1)
  rw [nc] at NC
  have IA := hid (fun (wx : World) => infinite_any a wx a0 a1)
  rw [ia] at IA
  have IB := hid (fun (wx : World) => infinite_any b wx b0 b1)
  rw [ib] at IB
  have IC := hid (fun (wx : World) => infinite_any c wx c0 c1)
  rw [ic] at IC
  obtain ⟨⟨da0, da1⟩, ⟨ea0, ea1⟩, -, -⟩ := Ie.dec_f a fa
  obtain ⟨⟨db0, db1⟩, ⟨eb0, eb1⟩, -, -⟩ := Ie.dec_f b fb
  obtain ⟨⟨dc0, dc1⟩, ⟨ec0, ec1⟩, -, -⟩ := Ie.dec_f c fc
  have e60 : (2 : Int) ^ 60 = 1152921504606846976 := by decide
  have da2 : Ie.dm a < 2 ^ 60 := by omega
  have db2 : Ie.dm b < 2 ^ 60 := by omega
  have dc2 : Ie.dm c < 2 ^ 60 := by omega
  have e200 := Nm.two_mono (show 60 + 60 ≤ 200 by omega)
  have e201 := Nm.two_mono (show 60 ≤ 200 by omega)
  have pb : Ie.dm a * Ie.dm b < 2 ^ (60 + 60) := by
    have h1 : Ie.dm a * Ie.dm b ≤ Ie.dm a * 2 ^ 60 := Int.mul_le_mul_of_nonneg_left (by omega) da0
    have h2 : Ie.dm a * 2 ^ 60 < 2 ^ 60 * 2 ^ 60 := Int.mul_lt_mul_of_pos_right da2 (Nm.two_pos 60)
    rw [← Nm.two_add] at h2
    omega
  have UA := hid (fun (wx : World) => number_any a wx a0 a1 fa)
  have UB := hid (fun (wx : World) => number_any b wx b0 b1 fb)
  have UC := hid (fun (wx : World) => number_any c wx c0 c1 fc)
  have HT := hid hT
  have RT : Hid (∀ (w2 : World) (pa pb : Option Addr) (oa ob : List Int) (B B' : Nat), Ans B w2 pa oa (Ie.dm a) → Ans B' w2 pb ob (Ie.dm b) → Calls Tryz.prog 34 #[exactOf (Ie.ngd a) pa oa.length oa.length (Ie.de a) false, exactOf (Ie.ngd b) pb ob.length ob.length (Ie.de b) false] w2 fun e w' => ∃ p os, e = .returned (exactOf (Ie.ngd a != Ie.ngd b) p (List.length os) (List.length os) (Ie.de a + Ie.de b) false) ∧ Ans w2.heap.size w' p os (Ie.dm a * Ie.dm b) ∧ Below w2.heap.size w2 w') := by
    intro w2 pa pb oa ob B B' A1 A2
    exact times_xany _ _ _ _ _ _ _ _ _ _ oa ob _ _ _ _ w2 (A1.arg (by have := A1.tl da2 (show 60 ≤ 262144 by omega); omega)) (A2.arg (by have := A2.tl db2 (show 60 ≤ 262144 by omega); omega)) A1.2.2.2.1 A2.2.2.2.1 da2 db2 (by omega) (by omega) (by omega) (by omega)
  have RU : Hid (∀ (w2 : World) (pp pc : Option Addr) (op oc : List Int) (B B' : Nat), Ans B w2 pp op (Ie.dm a * Ie.dm b) → Ans B' w2 pc oc (Ie.dm c) → Calls Tryz.prog 35 #[exactOf (Ie.ngd a != Ie.ngd b) pp op.length op.length (Ie.de a + Ie.de b) false, exactOf (Ie.ngd c) pc oc.length oc.length (Ie.de c) false] w2 fun e w' => PlusTold (Ie.ngd a != Ie.ngd b) (Ie.dm a * Ie.dm b) (Ie.de a + Ie.de b) (Ie.ngd c) (Ie.dm c) (Ie.de c) w2 e w') := by
    intro w2 pp pc op oc B B' A1 A2
    exact xplus_any _ _ _ _ _ _ _ _ _ _ op oc _ _ _ _ w2 (A1.arg (by have := A1.tl pb (show 60 + 60 ≤ 262144 by omega); omega)) (A2.arg (by have := A2.tl dc2 (show 60 ≤ 262144 by omega); omega)) A1.2.2.2.1 A2.2.2.2.1 (by omega) (by omega) (by omega) (by omega) (by omega) (by omega)
  have RO : Hid (∀ (w3 : World) (neg : Bool) (p : Option Addr) (os : List Int) (V e : Int) (B : Nat), Below w.heap.size w w3 → Ans B w3 p os V → Ie.SumIs (Ie.ngd a != Ie.ngd b) (Ie.dm a * Ie.dm b) (Ie.de a + Ie.de b) (Ie.ngd c) (Ie.dm c) (Ie.de c) neg V e → Calls Tryz.prog 36 #[exactOf neg p os.length os.length e false] w3 fun r w' => RoundedTold neg V e false w3 r w') := by
    intro w3 neg p os V e B hB A hS
    have vb := hS.2.2.1.2
    have eb : -10000 ≤ e ∧ e ≤ 10000 := by rcases hS.1 with h | ⟨_, h⟩ <;> omega
    exact rounded_any neg false p _ _ os e V w3 (A.arg (by have := A.tl vb (show 5000 ≤ 262144 by omega); omega)) (HT.out.below hB) A.2.2.2.1 A.len0 vb eb.1 eb.2
  clear fa fb fc na nb nc ia ib ic hT da0 da1 ea0 ea1 db0 db1 eb0 eb1 dc0 dc1 ec0 ec1 e60 da2 db2 dc2 e200 e201 pb HT
  go_enter Tryz.func10, Tryz.ntmps10
  go_wp2_with fail
  refine (NA.out _).mono ?_
  rintro e wz ⟨rfl, hz⟩
  replace hz := hz.symm
  subst hz
  go_wp2_with fail
  refine (NB.out _).mono ?_
  rintro e wz ⟨rfl, hz⟩
  replace hz := hz.symm
  subst hz
  go_wp2_with fail
  refine (NC.out _).mono ?_
  rintro e wz ⟨rfl, hz⟩
  replace hz := hz.symm
  subst hz
  go_wp2_with fail
  refine (IA.out _).mono ?_
  rintro e wz ⟨rfl, hz⟩
  replace hz := hz.symm
  subst hz
  go_wp2_with fail
  refine (IB.out _).mono ?_
  rintro e wz ⟨rfl, hz⟩
  replace hz := hz.symm
  subst hz
  go_wp2_with fail
  refine (IC.out _).mono ?_
  rintro e wz ⟨rfl, hz⟩
  replace hz := hz.symm
  subst hz
  go_wp2_with fail
  refine (UA.out _).mono ?_
  rintro e w1 ⟨pa, oa, rfl, A1, hB1⟩
  have H1 := hid (And.intro A1 hB1)
  clear A1 hB1
  simp only [exactOf]
  go_wp2_with fail
  refine (UB.out _).mono ?_
  rintro e w2 ⟨pb, ob, rfl, A2, hB2⟩
  have A1 := H1.out.1.below hB2 (Nat.le_refl _)
  have Bw := H1.out.2.trans (hB2.mono H1.out.2.size)
  have TM := hid (RT.out w2 pa pb oa ob _ _ A1 A2)
  have HB := hid Bw
  simp only [exactOf] at TM ⊢
  clear A1 A2 hB2 Bw H1 RT
  go_wp2_with fail
  refine TM.out.mono ?_
  rintro e w3 ⟨pp, op, rfl, A3, hB3⟩
  have H3 := hid (And.intro A3 (HB.out.trans (hB3.mono HB.out.size)))
  clear A3 hB3 HB TM
  go_wp2_with fail
  refine (UC.out _).mono ?_
  rintro e w4 ⟨pc, oc, rfl, A4, hB4⟩
  have A3 := H3.out.1.below hB4 (Nat.le_refl _)
  have Bw := H3.out.2.trans (hB4.mono H3.out.2.size)
  have PL := hid (RU.out w4 pp pc op oc _ _ A3 A4)
  have HB := hid Bw
  simp only [exactOf] at PL ⊢
  clear A3 A4 hB4 Bw H3 RU
  go_wp2_with fail
  refine PL.out.mono ?_
  rintro e w5 ⟨neg, p, os, V, x, rfl, A5, hB5, hS⟩
  have Bw := HB.out.trans (hB5.mono HB.out.size)
  have RR := hid (RO.out w5 neg p os V x _ Bw A5 hS)
  have HS := hid hS
  have HC := hid Bw
  simp only [exactOf] at RR ⊢
  clear A5 hB5 hS Bw RO PL HB
  go_wp2_with fail
  refine RR.out.mono ?_
  rintro e w6 ⟨d, t, L, rfl, h1, h2, h3, hB6⟩
  have KK : Hid (Told2 (Ie.FmaIs a b c) w (.returned (.tuple #[.int .u64 (Ie.sg neg d), .int .i64 (Ie.flg V x false (Ie.sg neg d) t L)])) w6) :=
    ⟨_, _, rfl, FI.out neg V x _ _ HS.out ⟨d, t, L, rfl, rfl, h1, h2, h3⟩, HC.out.trans (hB6.mono HC.out.size)⟩
  clear h1 h2 h3 hB6 HS HC RR FI
  go_wp2_with fail
  go_ret2
  exact KK.out

set_option maxRecDepth 100000 in
set_option maxHeartbeats 8000000 in
theorem fma_inf (a b c : Int) (w : World) (a0 : 0 ≤ a) (a1 : a < 18446744073709551616) (b0 : 0 ≤ b) (b1 : b < 18446744073709551616) (c0 : 0 ≤ c) (c1 : c < 18446744073709551616) (hT : Tab w) (na : Ie.isn a = false) (nb : Ie.isn b = false) (nc : Ie.isn c = false) (hi : Ie.isi a = true ∨ Ie.isi b = true) :
    Calls Tryz.prog 10 #[.int .u64 a, .int .u64 b, .int .u64 c] w fun e w' => Told2 (Ie.FmaIs a b c) w e w' := by
  have NA := hid (fun (wx : World) => nan_any a wx a0 a1)
  rw [na] at NA
  have NB := hid (fun (wx : World) => nan_any b wx b0 b1)
  rw [nb] at NB
  have NC := hid (fun (wx : World) => nan_any c wx c0 c1)
  rw [nc] at NC
  have IA := hid (fun (wx : World) => infinite_any a wx a0 a1)
  have IB := hid (fun (wx : World) => infinite_any b wx b0 b1)
  obtain ⟨p, fl, MU, KA⟩ : ∃ (p fl : Int), Hid (∀ wx : World, Below w.heap.size w wx → Calls Tryz.prog 31 #[.int .u64 a, .int .u64 b] wx fun e w' => e = .returned (.tuple #[.int .u64 p, .int .i64 fl]) ∧ Below wx.heap.size wx w') ∧
      Hid ((fl = 1 ∧ Ie.FmaIs a b c p 1) ∨ (fl = 0 ∧ (0 ≤ p ∧ p < 18446744073709551616) ∧ ∀ r f, Ie.AddIs p c r f → Ie.FmaIs a b c r f)) := by
    by_cases hz : Ie.isz a = true ∨ Ie.isz b = true
    · refine ⟨9221120237041090560, 1, fun wx hx => ?_, .inl ⟨rfl, ?_⟩⟩
      · refine (mul_any a b wx a0 a1 b0 b1 (hT.below hx)).mono ?_
        rintro e w' ⟨r, f, rfl, h, hB⟩
        rw [Ie.MulIs, na, nb] at h
        simp only [Bool.false_eq_true, or_self, if_false] at h
        have cond : (Ie.isi a = true ∧ Ie.isz b = true) ∨ (Ie.isz a = true ∧ Ie.isi b = true) := by
          rcases hi with hi | hi
          · rcases hz with hz | hz
            · rw [Ie.not_iz hi] at hz; cases hz
            · exact .inl ⟨hi, hz⟩
          · rcases hz with hz | hz
            · exact .inr ⟨hz, hi⟩
            · rw [Ie.not_iz hi] at hz; cases hz
        rw [if_pos cond] at h
        obtain ⟨rfl, rfl⟩ := h
        exact ⟨rfl, hB⟩
      · rw [Ie.FmaIs, na, nb, nc]
        simp only [Bool.false_eq_true, or_self, if_false]
        rw [if_pos hi, if_pos hz]
        simp
    · refine ⟨Ie.sb (Ie.ngd a != Ie.ngd b) 9218868437227405312, 0, fun wx hx => ?_, .inr ⟨rfl, ?_, fun r f h => ?_⟩⟩
      · refine (mul_any a b wx a0 a1 b0 b1 (hT.below hx)).mono ?_
        rintro e w' ⟨r, f, rfl, h, hB⟩
        rw [Ie.MulIs, na, nb] at h
        simp only [Bool.false_eq_true, or_self, if_false] at h
        have cond : ¬ ((Ie.isi a = true ∧ Ie.isz b = true) ∨ (Ie.isz a = true ∧ Ie.isi b = true)) := by
          rintro (⟨_, g⟩ | ⟨g, _⟩)
          · exact hz (.inr g)
          · exact hz (.inl g)
        rw [if_neg cond, if_pos hi] at h
        obtain ⟨rfl, rfl⟩ := h
        exact ⟨rfl, hB⟩
      · cases Ie.ngd a != Ie.ngd b <;> simp only [Ie.sb, Bool.false_eq_true, if_true, if_false] <;> omega
      · rw [Ie.FmaIs, na, nb, nc]
        simp only [Bool.false_eq_true, or_self, if_false]
        rw [if_pos hi, if_neg hz]
        exact h
  have AD := hid (fun (wx : World) (hx : Below w.heap.size w wx) (p0 : 0 ≤ p) (p1 : p < 18446744073709551616) => add_any p c wx p0 p1 c0 c1 (hT.below hx))
  rcases KA.out with ⟨rfl, KB⟩ | ⟨rfl, ⟨p0, p1⟩, KB⟩
  · have KC := hid KB
    clear KA KB
    cases ia : Ie.isi a
    · have ib : Ie.isi b = true := by
        rcases hi with h | h
        · rw [ia] at h; cases h
        · exact h
      rw [ia] at IA
      rw [ib] at IB
      clear ia ib na nb nc hT hi
      go_enter Tryz.func10, Tryz.ntmps10
      go_wp2_with fail
      refine (NA.out _).mono ?_
      rintro e wz ⟨rfl, hz⟩
      replace hz := hz.symm
      subst hz
      go_wp2_with fail
      refine (NB.out _).mono ?_
      rintro e wz ⟨rfl, hz⟩
      replace hz := hz.symm
      subst hz
      go_wp2_with fail
      refine (NC.out _).mono ?_
      rintro e wz ⟨rfl, hz⟩
      replace hz := hz.symm
      subst hz
      go_wp2_with fail
      refine (IA.out _).mono ?_
      rintro e wz ⟨rfl, hz⟩
      replace hz := hz.symm
      subst hz
      go_wp2_with fail
      refine (IB.out _).mono ?_
      rintro e wz ⟨rfl, hz⟩
      replace hz := hz.symm
      subst hz
      go_wp2_with fail
      refine (MU.out _ (Below.refl _ _)).mono ?_
      rintro e w1 ⟨rfl, hB1⟩
      have HB := hid hB1
      clear hB1 MU
      go_wp2_with fail
      go_ret2
      exact ⟨_, _, rfl, KC.out, HB.out⟩
    · rw [ia] at IA
      clear ia na nb nc hT hi
      go_enter Tryz.func10, Tryz.ntmps10
      go_wp2_with fail
      refine (NA.out _).mono ?_
      rintro e wz ⟨rfl, hz⟩
      replace hz := hz.symm
      subst hz
      go_wp2_with fail
      refine (NB.out _).mono ?_
      rintro e wz ⟨rfl, hz⟩
      replace hz := hz.symm
      subst hz
      go_wp2_with fail
      refine (NC.out _).mono ?_
      rintro e wz ⟨rfl, hz⟩
      replace hz := hz.symm
      subst hz
      go_wp2_with fail
      refine (IA.out _).mono ?_
      rintro e wz ⟨rfl, hz⟩
      replace hz := hz.symm
      subst hz
      go_wp2_with fail
      refine (MU.out _ (Below.refl _ _)).mono ?_
      rintro e w1 ⟨rfl, hB1⟩
      have HB := hid hB1
      clear hB1 MU
      go_wp2_with fail
      go_ret2
      exact ⟨_, _, rfl, KC.out, HB.out⟩
  · have KC := hid KB
    clear KA KB
    cases ia : Ie.isi a
    · have ib : Ie.isi b = true := by
        rcases hi with h | h
        · rw [ia] at h; cases h
        · exact h
      rw [ia] at IA
      rw [ib] at IB
      clear ia ib na nb nc hT hi
      go_enter Tryz.func10, Tryz.ntmps10
      go_wp2_with fail
      refine (NA.out _).mono ?_
      rintro e wz ⟨rfl, hz⟩
      replace hz := hz.symm
      subst hz
      go_wp2_with fail
      refine (NB.out _).mono ?_
      rintro e wz ⟨rfl, hz⟩
      replace hz := hz.symm
      subst hz
      go_wp2_with fail
      refine (NC.out _).mono ?_
      rintro e wz ⟨rfl, hz⟩
      replace hz := hz.symm
      subst hz
      go_wp2_with fail
      refine (IA.out _).mono ?_
      rintro e wz ⟨rfl, hz⟩
      replace hz := hz.symm
      subst hz
      go_wp2_with fail
      refine (IB.out _).mono ?_
      rintro e wz ⟨rfl, hz⟩
      replace hz := hz.symm
      subst hz
      go_wp2_with fail
      refine (MU.out _ (Below.refl _ _)).mono ?_
      rintro e w1 ⟨rfl, hB1⟩
      have HB := hid hB1
      clear hB1 MU
      have AD1 := hid (AD.out w1 HB.out p0 p1)
      clear AD
      go_wp2_with fail
      refine AD1.out.mono ?_
      rintro e w2 ⟨r, f, rfl, h, hB2⟩
      have KK : Hid (Told2 (Ie.FmaIs a b c) w (.returned (.tuple #[.int .u64 r, .int .i64 f])) w2) := ⟨r, f, rfl, KC.out r f h, HB.out.trans (hB2.mono HB.out.size)⟩
      clear h hB2 HB AD1 KC
      go_wp2_with fail
      go_ret2
      exact KK.out
    · rw [ia] at IA
      clear ia na nb nc hT hi
      go_enter Tryz.func10, Tryz.ntmps10
      go_wp2_with fail
      refine (NA.out _).mono ?_
      rintro e wz ⟨rfl, hz⟩
      replace hz := hz.symm
      subst hz
      go_wp2_with fail
      refine (NB.out _).mono ?_
      rintro e wz ⟨rfl, hz⟩
      replace hz := hz.symm
      subst hz
      go_wp2_with fail
      refine (NC.out _).mono ?_
      rintro e wz ⟨rfl, hz⟩
      replace hz := hz.symm
      subst hz
      go_wp2_with fail
      refine (IA.out _).mono ?_
      rintro e wz ⟨rfl, hz⟩
      replace hz := hz.symm
      subst hz
      go_wp2_with fail
      refine (MU.out _ (Below.refl _ _)).mono ?_
      rintro e w1 ⟨rfl, hB1⟩
      have HB := hid hB1
      clear hB1 MU
      have AD1 := hid (AD.out w1 HB.out p0 p1)
      clear AD
      go_wp2_with fail
      refine AD1.out.mono ?_
      rintro e w2 ⟨r, f, rfl, h, hB2⟩
      have KK : Hid (Told2 (Ie.FmaIs a b c) w (.returned (.tuple #[.int .u64 r, .int .i64 f])) w2) := ⟨r, f, rfl, KC.out r f h, HB.out.trans (hB2.mono HB.out.size)⟩
      clear h hB2 HB AD1 KC
      go_wp2_with fail
      go_ret2
      exact KK.out

set_option maxRecDepth 100000 in
set_option maxHeartbeats 8000000 in
theorem fma_any (a b c : Int) (w : World) (a0 : 0 ≤ a) (a1 : a < 18446744073709551616) (b0 : 0 ≤ b) (b1 : b < 18446744073709551616) (c0 : 0 ≤ c) (c1 : c < 18446744073709551616) (hT : Tab w) :
    Calls Tryz.prog 10 #[.int .u64 a, .int .u64 b, .int .u64 c] w fun e w' => Told2 (Ie.FmaIs a b c) w e w' := by
  have NA := hid (fun (wx : World) => nan_any a wx a0 a1)
  have NB := hid (fun (wx : World) => nan_any b wx b0 b1)
  have NC := hid (fun (wx : World) => nan_any c wx c0 c1)
  have IA := hid (fun (wx : World) => infinite_any a wx a0 a1)
  have IB := hid (fun (wx : World) => infinite_any b wx b0 b1)
  have IC := hid (fun (wx : World) => infinite_any c wx c0 c1)
  have KK : Hid (∀ (e : Ending) (r f : Int), e = .returned (.tuple #[.int .u64 r, .int .i64 f]) → Ie.FmaIs a b c r f → Told2 (Ie.FmaIs a b c) w e w) := fun e r f h1 h2 => ⟨r, f, h1, h2, Below.refl _ _⟩
  cases na : Ie.isn a
  · cases nb : Ie.isn b
    · cases nc : Ie.isn c
      · by_cases hi : Ie.isi a = true ∨ Ie.isi b = true
        · exact fma_inf a b c w a0 a1 b0 b1 c0 c1 hT na nb nc hi
        · have ia : Ie.isi a = false := by
            cases h : Ie.isi a
            · rfl
            · exact absurd (.inl h) hi
          have ib : Ie.isi b = false := by
            cases h : Ie.isi b
            · rfl
            · exact absurd (.inr h) hi
          cases ic : Ie.isi c
          · exact fma_fin a b c w a0 a1 b0 b1 c0 c1 hT na ia nb ib nc ic
          · have SP : Hid (Ie.FmaIs a b c c 0) := by rw [Hid, Ie.FmaIs, na, nb, nc, ia, ib, ic]; simp
            rw [na] at NA
            rw [nb] at NB
            rw [nc] at NC
            rw [ia] at IA
            rw [ib] at IB
            rw [ic] at IC
            clear na nb nc ia ib ic hT hi
            go_enter Tryz.func10, Tryz.ntmps10
            go_wp2_with fail
            refine (NA.out _).mono ?_
            rintro e wz ⟨rfl, hz⟩
            replace hz := hz.symm
            subst hz
            go_wp2_with fail
            refine (NB.out _).mono ?_
            rintro e wz ⟨rfl, hz⟩
            replace hz := hz.symm
            subst hz
            go_wp2_with fail
            refine (NC.out _).mono ?_
            rintro e wz ⟨rfl, hz⟩
            replace hz := hz.symm
            subst hz
            go_wp2_with fail
            refine (IA.out _).mono ?_
            rintro e wz ⟨rfl, hz⟩
            replace hz := hz.symm
            subst hz
            go_wp2_with fail
            refine (IB.out _).mono ?_
            rintro e wz ⟨rfl, hz⟩
            replace hz := hz.symm
            subst hz
            go_wp2_with fail
            refine (IC.out _).mono ?_
            rintro e wz ⟨rfl, hz⟩
            replace hz := hz.symm
            subst hz
            go_wp2_with fail
            go_ret2
            exact KK.out _ _ _ rfl SP.out
      · have SP : Hid (Ie.FmaIs a b c 9221120237041090560 0) := by rw [Hid, Ie.FmaIs, na, nb, nc]; simp
        rw [na] at NA
        rw [nb] at NB
        rw [nc] at NC
        clear na nb nc hT
        go_enter Tryz.func10, Tryz.ntmps10
        go_wp2_with fail
        refine (NA.out _).mono ?_
        rintro e wz ⟨rfl, hz⟩
        replace hz := hz.symm
        subst hz
        go_wp2_with fail
        refine (NB.out _).mono ?_
        rintro e wz ⟨rfl, hz⟩
        replace hz := hz.symm
        subst hz
        go_wp2_with fail
        refine (NC.out _).mono ?_
        rintro e wz ⟨rfl, hz⟩
        replace hz := hz.symm
        subst hz
        go_wp2_with fail
        go_ret2
        exact KK.out _ _ _ rfl SP.out
    · have SP : Hid (Ie.FmaIs a b c 9221120237041090560 0) := by rw [Hid, Ie.FmaIs, na, nb]; simp
      rw [na] at NA
      rw [nb] at NB
      clear na nb hT
      go_enter Tryz.func10, Tryz.ntmps10
      go_wp2_with fail
      refine (NA.out _).mono ?_
      rintro e wz ⟨rfl, hz⟩
      replace hz := hz.symm
      subst hz
      go_wp2_with fail
      refine (NB.out _).mono ?_
      rintro e wz ⟨rfl, hz⟩
      replace hz := hz.symm
      subst hz
      go_wp2_with fail
      go_ret2
      exact KK.out _ _ _ rfl SP.out
  · have SP : Hid (Ie.FmaIs a b c 9221120237041090560 0) := by rw [Hid, Ie.FmaIs, na]; simp
    rw [na] at NA
    clear na hT
    go_enter Tryz.func10, Tryz.ntmps10
    go_wp2_with fail
    refine (NA.out _).mono ?_
    rintro e wz ⟨rfl, hz⟩
    replace hz := hz.symm
    subst hz
    go_wp2_with fail
    go_ret2
    exact KK.out _ _ _ rfl SP.out

set_option maxRecDepth 100000 in
set_option maxHeartbeats 8000000 in
theorem softFma_any (a b c : Int) (w : World) (a0 : 0 ≤ a) (a1 : a < 18446744073709551616) (b0 : 0 ≤ b) (b1 : b < 18446744073709551616) (c0 : 0 ≤ c) (c1 : c < 18446744073709551616) (hT : Tab w) :
    Calls Tryz.prog 5 #[.int .u64 a, .int .u64 b, .int .u64 c] w fun e w' => Told1 (Ie.FmaIs a b c) w e w' := by
  have AD := hid (fma_any a b c w a0 a1 b0 b1 c0 c1 hT)
  clear hT
  go_enter Tryz.func5, Tryz.ntmps5
  go_wp2_with fail
  refine AD.out.mono ?_
  rintro e w1 ⟨r, f, rfl, h, hB⟩
  have KK : Hid (Told1 (Ie.FmaIs a b c) w (.returned (.int .u64 r)) w1) := ⟨r, f, rfl, h, hB⟩
  clear h hB AD
  go_wp2_with fail
  go_ret
  exact KK.out

end Go.Proofs.YtljpmddjcfkonaaGreatDoor

/-
  What fma answers of finite doubles; closed ones.
-/
namespace Go.Proofs.YtljpmddjcfkonaaGreatDoor
namespace Ie

theorem FmaIs.get {a b c r f : Int} (fa : fin a) (fb : fin b) (fc : fin c) (h : FmaIs a b c r f) : ∃ neg V e, SumIs (ngd a != ngd b) (dm a * dm b) (de a + de b) (ngd c) (dm c) (de c) neg V e ∧ Res neg V e false r f := by
  rw [FmaIs, (fin_not fa).1, (fin_not fa).2, (fin_not fb).1, (fin_not fb).2, (fin_not fc).1, (fin_not fc).2] at h
  simp only [Bool.false_eq_true, or_self, if_false] at h
  exact h

theorem FmaIs.rs {a b c r f : Int} (fa : fin a) (fb : fin b) (fc : fin c) (h : FmaIs a b c r f) : RS (uv a * uv b + uv c * 2 ^ 1074) (2 ^ 1074) ((ngd a != ngd b) && ngd c) r := by
  obtain ⟨neg, V, e, hS, x, t, L, rfl, -, hR, -, -⟩ := h.get fa fb fc
  obtain ⟨_, ⟨ea0, ea1⟩, _, _⟩ := dec_f a fa
  obtain ⟨_, ⟨eb0, eb1⟩, _, _⟩ := dec_f b fb
  obtain ⟨_, ⟨ec0, ec1⟩, gc, _⟩ := dec_f c fc
  have g2 : ∀ k : Nat, (k : Int) = de c + (2148 : Nat) → dm c * 2 ^ k = un (ab c) * 2 ^ 1074 := by
    intro k hk
    obtain ⟨kc, hkc⟩ : ∃ k : Nat, (k : Int) = de c + 1074 := ⟨(de c + 1074).toNat, by omega⟩
    rw [← gc kc hkc, show k = kc + 1074 by omega, Nm.two_add, Int.mul_assoc]
  obtain ⟨c', hc, key, h0⟩ := hS.at 2148 (by omega) (by omega) (fun k hk => prod_at fa fb k (by omega)) g2
  rw [← uv_mul, ← sn_mul_right (ngd c)] at key h0
  exact rs_of hR hS.2.2.1.1 c' 1074 (by omega) key.symm rfl h0
end Ie
end Go.Proofs.YtljpmddjcfkonaaGreatDoor

namespace Go.Proofs.YtljpmddjcfkonaaGreatDoor
open Go.RowKit Go.Deep

theorem limbs_any (p : Option Addr) (n cap : Nat) (zs : List Int) (w : World) (ha : Arg w p n cap zs) :
    Calls Tryz.prog 106 #[.slice p n cap] w fun e w' => e = .returned (.int .i64 (Nm.tsize zs : Int)) ∧ w' = w := by
  obtain ⟨L, h1, _, h3, h4⟩ := blen_is zs ha.2.2.2.2
  have tl := Nm.tsize_le zs
  have hn := ha.1
  have hc := ha.2.2.1
  have hc' := ha.2.1
  have H := bitLen_any p n cap zs w ha
  rw [h1] at H
  have HB := hid H
  obtain ⟨N, HN⟩ : ∃ N, Hid (Nm.tsize zs = N) := ⟨_, rfl⟩
  rw [HN.out] at h3 h4 ⊢
  have hL : (L : Int) ≤ 1125899906842624000 := by have := HN.out; omega
  have hL0 : (0 : Int) ≤ (L : Int) := by omega
  have E : Hid (((L : Int) + 64 - 1) / 64 = (N : Int)) := by show _ = _; omega
  have E2 : Hid (((L : Int) + 64 - 1).tdiv 64 = (N : Int)) := by show _ = _; rw [Int.tdiv_eq_ediv_of_nonneg (by omega)]; exact E.out
  clear h1 h3 h4 H hn hc hc' tl ha
  go_enter Tryz.func106, Tryz.ntmps106
  go_wp2_with fail
  refine HB.out.mono ?_
  rintro e w' ⟨rfl, rfl⟩
  go_wp2_with fail
  go_ret
  exact ⟨ret_i64 (by first | exact E.out | exact E2.out), rfl⟩
end Go.Proofs.YtljpmddjcfkonaaGreatDoor

namespace Go.Proofs.YtljpmddjcfkonaaGreatDoor
open Go.RowKit Go.Deep

/-- Trim: the trimmed list, in new memory. -/
theorem trim_any (p : Option Addr) (n cap : Nat) (zs : List Int) (w : World) (ha : Arg w p n cap zs) :
    Calls Tryz.prog 124 #[.slice p n cap] w fun e w' => ∃ r os, e = .returned (.slice r (List.length os) (List.length os)) ∧ os = Nm.trim zs ∧ Ans w.heap.size w' r os (Nm.val zs) ∧ Below w.heap.size w w' := by
  obtain ⟨a1, a2, a3, a4, a5⟩ := ha
  have tl := Nm.tsize_le zs
  go_enter Tryz.func124, Tryz.ntmps124
  go_wp2_with fail
  refine (trimmed_any p n cap zs _ a1 a2 (by omega) a4).mono ?_
  rintro e w' ⟨rfl, rfl⟩
  go_wp2_with fail
  refine (widened_any p (Nm.tsize zs) (Nm.tsize zs) 0 0 (Nm.trim zs) _ rfl (Nm.trim_length zs) (by omega) a4.trim).mono ?_
  rintro e w1 ⟨rfl, ho, hb1, hz1⟩
  have HO := hid ho
  have HB := hid hb1
  clear ho hb1 hz1 tl
  go_wp2
  go_ret
  refine ⟨some ⟨w'.heap.size, 0, none⟩, Nm.trim zs, ?_, rfl, ⟨?_, a5.trim, ?_, Nm.val_trim zs, ?_⟩, HB.out⟩
  · rw [Nm.trim_length]; rfl
  · have := HO.out
    simp only [List.replicate_zero, List.append_nil] at this
    exact this.lies
  · rw [Nm.trim_trim, Nm.trim_length]
  · intro a h
    cases h
    exact Nat.le_refl _
end Go.Proofs.YtljpmddjcfkonaaGreatDoor

namespace Go.Proofs.YtljpmddjcfkonaaGreatDoor
open Go.RowKit Go.Deep

theorem ret_div {p : Option Addr} {a b : Nat} {r : Int} (h : a = b) : Ending.returned (.tuple #[.slice p a a, .int .u64 r, .int .i64 0]) = .returned (.tuple #[.slice p b b, .int .u64 r, .int .i64 0]) := by rw [h]

/-- Behind the limbs from k on: quotient digits are in, below k the block is 0. -/
def DivInv (g n : Nat) (w : World) (xs : List Int) (d : Int) (k : Nat) (r : Int) (os : List Int) (wr : World) : Prop :=
  Own wr g os ∧ os.length = n ∧ Nm.Limbs os ∧ Nm.val os * d + Nm.pw k * r + Nm.val (xs.take k) = Nm.val xs ∧ (∀ i, i < k → os.getD i 0 = 0) ∧ (0 ≤ r ∧ r < d) ∧ Below g w wr

theorem DivInv.step {g n : Nat} {w : World} {xs : List Int} {d : Int} {t : Nat} {r : Int} {os : List Int} {wr w' : World} (h : DivInv g n w xs d (t + 1) r os wr) (hx : t < xs.length) (ht : t < n) (hb : Below wr.heap.size wr w') {q r' x : Int}
    (hxe : x = xs.getD t 0) (hq : q * d + r' = r * 18446744073709551616 + x) (hq0 : 0 ≤ q ∧ q < 18446744073709551616) (hr : 0 ≤ r' ∧ r' < d) :
    DivInv g n w xs d t r' (os.set t q) (w'.setCell ⟨g, t, none⟩ (.int .u64 q)) := by
  obtain ⟨h1, h2, h3, h4, h5, h6, h7⟩ := h
  have hlt := h1.lt
  refine ⟨(h1.below hb hlt).set t q, by simpa using h2, h3.set t hq0.1 hq0.2, ?_, ?_, hr, ?_⟩
  · rw [Nm.val_set _ _ _ (by omega), h5 t (by omega), Int.sub_zero, Int.add_mul, Int.mul_assoc]
    rw [Nm.val_take_succ xs t hx, ← hxe, Nm.pw_succ] at h4
    have e : Nm.pw t * (q * d + r') = Nm.pw t * (r * 18446744073709551616 + x) := by rw [hq]
    rw [Int.mul_add, Int.mul_add] at e
    have e2 : 18446744073709551616 * Nm.pw t * r = Nm.pw t * (r * 18446744073709551616) := by rw [Int.mul_assoc, Int.mul_left_comm, Int.mul_comm 18446744073709551616 r]
    omega
  · intro i hi
    rw [Nm.getD_set _ _ _ _ (by omega), if_neg (by omega)]
    exact h5 i (by omega)
  · exact h7.trans ((hb.mono (Nat.le_of_lt hlt)).setCell (p := ⟨g, t, none⟩) (Nat.le_refl _) _)

set_option maxRecDepth 100000 in
set_option maxHeartbeats 1000000 in
theorem divSmall_ok (p : Option Addr) (n cap : Nat) (zs : List Int) (d : Int) (w : World) (ha : Arg w p n cap zs) (tz : Nm.tsize zs ≤ 4096) (hd0 : 0 < d) (hd1 : d < 18446744073709551616) :
    Calls Tryz.prog 123 #[.slice p n cap, .int .u64 d] w fun e w' =>
      ∃ r os rest, e = .returned (.tuple #[.slice r (List.length os) (List.length os), .int .u64 rest, .int .i64 0]) ∧ Ans w.heap.size w' r os (Nm.val os) ∧ (0 ≤ rest ∧ rest < d) ∧ Hid (Nm.val os * d + rest = Nm.val zs) ∧ Below w.heap.size w w' := by
  obtain ⟨a1, a2, a3, a4, a5⟩ := ha
  obtain ⟨N, HN⟩ : ∃ N, Hid (Nm.tsize zs = N) := ⟨_, rfl⟩
  have T1 := limited_ok p n cap zs w a1 a2 (by omega) a4 tz
  rw [HN.out] at T1
  have hN : N ≤ 4096 := by rw [← HN.out]; exact tz
  have L1 := hid ((Nm.trim_length zs).trans HN.out)
  have hmk := make64 N (by omega) w
  have ho : Own (w.alloc (.cells (madeCells #[.int .u64 0] N) 23)) w.heap.size (List.replicate N 0) := by
    rw [made_zero]; exact Own.alloc w _
  have hb0 : Below w.heap.size w (w.alloc (.cells (madeCells #[.int .u64 0] N) 23)) := (Below.refl _ _).alloc (Nat.le_refl _) _
  obtain ⟨W0, hW0⟩ : ∃ W0, w.alloc (.cells (madeCells #[.int .u64 0] N) 23) = W0 := ⟨_, rfl⟩
  have HB0 : Hid (Below w.heap.size w W0) := by rw [← hW0]; exact hb0
  have I0 : DivInv w.heap.size N w (Nm.trim zs) d N 0 (List.replicate N 0) W0 := by
    rw [← hW0]
    exact ⟨ho, by simp, Nm.Limbs.replicate _, by rw [Nm.val_replicate, Int.zero_mul, Int.mul_zero, List.take_of_length_le (by rw [L1.out]; omega)]; omega, fun i _ => getD_replicate _ _, ⟨by omega, hd0⟩, hb0⟩
  have hd : (d == 0) = false := by rw [beq_eq_false_iff_ne]; omega
  have A5 := hid a5.trim
  have A4 := hid a4.trim
  have V := hid (Nm.val_trim zs)
  have HT := hid T1
  clear T1 tz ho hb0 a4 a5
  rw [hW0] at hmk
  clear hW0
  have fin : ∀ (os : List Int) (r : Int) (wr : World), DivInv w.heap.size N w (Nm.trim zs) d 0 r os wr →
      Ans w.heap.size wr (some ⟨w.heap.size, 0, none⟩) (Nm.trim os) (Nm.val (Nm.trim os)) ∧ (0 ≤ r ∧ r < d) ∧ Hid (Nm.val (Nm.trim os) * d + r = Nm.val zs) ∧ Below w.heap.size w wr ∧ (Nm.trim os).length = Nm.tsize os := by
    intro os r wr I
    obtain ⟨i1, i2, i3, i4, i5, i6, i7⟩ := I
    refine ⟨⟨i1.lies.trim, i3.trim, by rw [Nm.trim_trim, Nm.trim_length], rfl, fun a h => by cases h; exact Nat.le_refl _⟩, i6, ?_, i7, Nm.trim_length os⟩
    show _ = _
    rw [Nm.val_trim, ← V.out, ← i4]
    simp [Nm.pw, Nm.val]
  have FIN := hid fin
  clear fin
  by_cases h0 : N = 0
  · subst h0
    have hmk1 : (Instr.makeSlice 39 (.int .i64 0) (.int .i64 0)).run Tryz.prog w = .ok (.slice (some ⟨w.heap.size, 0, none⟩) 0 0) W0 := hmk
    clear hmk
    go_enter Tryz.func123, Tryz.ntmps123
    go_wp2_with fail
    refine HT.out.mono ?_
    rintro e w' ⟨rfl, rfl⟩
    go_wp2_with fail
    refine wp_loop_rounds 1 ?_
    rw [rounds_succ]
    go_wp2_with fail
    refine (trimmed_any (some ⟨w'.heap.size, 0, none⟩) 0 0 (List.replicate 0 0) _ rfl (Nat.le_refl _) (by omega) (Lies.nil _ _)).mono ?_
    rintro e w3 ⟨rfl, rfl⟩
    have F := FIN.out _ _ _ I0
    have HF := hid F
    clear F I0
    go_wp2_with fail
    go_ret3
    exact ⟨_, _, _, rfl, HF.out.1, HF.out.2.1, HF.out.2.2.1, HF.out.2.2.2.1⟩
  · obtain ⟨b, off, rfl, hbw, HC⟩ := A4.out.at (by rw [L1.out]; omega)
    go_enter Tryz.func123, Tryz.ntmps123
    go_wp2_with fail
    refine HT.out.mono ?_
    rintro e w' ⟨rfl, rfl⟩
    go_wp2_with fail
    go_loopw [9, 10] (fun a i wr => ∃ (j : Nat) (rr : Int) (os : List Int), j ≤ N ∧ i = .int .i64 ((j : Int) - 1) ∧ a = .int .u64 rr ∧ DivInv w'.heap.size N w' (Nm.trim zs) d j rr os wr) (fun _ i _ => (intOf i + 1).toNat)
    case atStart => exact ⟨N, 0, _, Nat.le_refl _, rfl, rfl, I0⟩
    case round =>
      clear I0 hmk
      obtain ⟨j, rr, os, hj, rfl, rfl, I⟩ := hrel
      by_cases hj0 : j = 0
      · subst hj0
        have F := FIN.out _ _ _ I
        have HF := hid F
        have TR := hid (trimmed_any (some ⟨w'.heap.size, 0, none⟩) N N os wr I.2.1 (Nat.le_refl _) (by omega) I.1.lies)
        clear F I
        go_wp2_with fail
        refine TR.out.mono ?_
        rintro e w3 ⟨rfl, rfl⟩
        go_wp2_with fail
        go_ret3
        exact ⟨some ⟨w'.heap.size, 0, none⟩, Nm.trim os, rr, ret_div HF.out.2.2.2.2.symm, HF.out.1, HF.out.2.1, HF.out.2.2.1, HF.out.2.2.2.1⟩
      · obtain ⟨t, rfl⟩ : ∃ t, j = t + 1 := ⟨j - 1, by omega⟩
        obtain ⟨x, hx, X⟩ : ∃ x, wr.cell? ⟨b, off + t, none⟩ = some (.int .u64 x) ∧ Hid (x = (Nm.trim zs).getD t 0) := ⟨_, (I.2.2.2.2.2.2.cell (p := ⟨b, off + t, none⟩) hbw).trans (HC.out t (by rw [L1.out]; omega)), rfl⟩
        have hx0 := A5.out.at t
        rw [← X.out] at hx0
        obtain ⟨hx0, hx1⟩ := hx0
        obtain ⟨hr0, hr1⟩ := I.2.2.2.2.2.1
        have htN : (t : Int) < (N : Int) := by omega
        go_wp2_with fail
        refine (div64 rr x d _ hr0 hr1 hx0 hx1 hd1).mono ?_
        rintro e w2 ⟨q, r', rfl, ⟨q0, q1, s0, s1⟩, E, hb⟩
        have I2 := I.step (by rw [L1.out]; omega) (by omega) hb X.out E.out ⟨q0, q1⟩ ⟨s0, s1⟩
        have ho2 := I.1.below hb I.1.lt
        obtain ⟨y, hyc⟩ : ∃ y, w2.cell? ⟨w'.heap.size, t, none⟩ = some (.int .u64 y) := ⟨_, ho2.cell t (by have := I.2.1; omega)⟩
        have hfr := ho2.free t
        clear I hx hb ho2
        go_wp2
        go_roundw
        case rel => exact ⟨t, r', _, by omega, by go_num, rfl, I2⟩
        case measure => simp [intOf]

/-- By nothing. -/
theorem divSmall_zero (p : Option Addr) (n cap : Nat) (zs : List Int) (w : World) (ha : Arg w p n cap zs) (tz : Nm.tsize zs ≤ 4096) :
    Calls Tryz.prog 123 #[.slice p n cap, .int .u64 0] w fun e w' => e = .returned (.tuple #[.slice none 0 0, .int .u64 0, .int .i64 4]) ∧ w' = w := by
  obtain ⟨a1, a2, a3, a4, a5⟩ := ha
  have HT := hid (limited_ok p n cap zs w a1 a2 (by omega) a4 tz)
  go_enter Tryz.func123, Tryz.ntmps123
  go_wp2_with fail
  refine HT.out.mono ?_
  rintro e w' ⟨rfl, rfl⟩
  go_wp2_with fail
  go_ret3
  exact ⟨rfl, rfl⟩

/-- Of an operand that is too big. -/
theorem divSmall_big (p : Option Addr) (n cap : Nat) (zs : List Int) (d : Int) (w : World) (ha : Arg w p n cap zs) (tz : 4096 < Nm.tsize zs) :
    Calls Tryz.prog 123 #[.slice p n cap, .int .u64 d] w fun e w' => e = .returned (.tuple #[.slice none 0 0, .int .u64 0, .int .i64 2]) ∧ w' = w := by
  obtain ⟨a1, a2, a3, a4, a5⟩ := ha
  have HT := hid (limited_big p n cap zs w a1 a2 (by omega) a4 tz)
  go_enter Tryz.func123, Tryz.ntmps123
  go_wp2_with fail
  refine HT.out.mono ?_
  rintro e w' ⟨rfl, rfl⟩
  go_wp2_with fail
  go_ret3
  exact ⟨rfl, rfl⟩
end Go.Proofs.YtljpmddjcfkonaaGreatDoor

namespace Go.Proofs.YtljpmddjcfkonaaGreatDoor
open Go.RowKit Go.Deep

theorem Arg.drew {w : World} {p : Option Addr} {n cap : Nat} {zs : List Int} (h : Arg w p n cap zs) (k : Nat) : Arg (w.drewN k) p n cap zs := h

theorem Arg.cut {w : World} {p : Option Addr} {n cap : Nat} {zs : List Int} (h : Arg w p n cap zs) : Arg w p (Nm.tsize zs) cap (Nm.trim zs) :=
  ⟨Nm.trim_length zs, by have := h.tl; have := h.2.1; omega, h.2.2.1, h.2.2.2.1.trim, h.2.2.2.2.trim⟩

/-- Quotient and rest, each trimmed and in new memory. -/
def Splits (A B : Int) (w : World) (e : Ending) (w' : World) : Prop :=
  ∃ r1 os r2 rs, e = .returned (.tuple #[.slice r1 (List.length os) (List.length os), .slice r2 (List.length rs) (List.length rs), .int .i64 0]) ∧ Ans w.heap.size w' r1 os (A / B) ∧ Ans w.heap.size w' r2 rs (A % B) ∧ Below w.heap.size w w'

theorem div_is {A B q r : Int} (h0 : 0 ≤ r) (h1 : r < B) (h : q * B + r = A) : A / B = q ∧ A % B = r := by
  have hB : 0 < B := by omega
  have h2 : A / B = q := by
    rw [← h, Int.add_comm, Int.add_mul_ediv_right _ _ (by omega), Int.ediv_eq_zero_of_lt h0 h1, Int.zero_add]
  refine ⟨h2, ?_⟩
  have := Int.emod_add_mul_ediv A B
  rw [h2, Int.mul_comm] at this
  omega

theorem ret_three {p q : Option Addr} {a b c d : Nat} {e : Int} (h : a = b) (k : c = d) : Ending.returned (.tuple #[.slice p a a, .slice q c c, .int .i64 e]) = .returned (.tuple #[.slice p b b, .slice q d d, .int .i64 e]) := by rw [h, k]

theorem divMod_big (p q : Option Addr) (n cap m cap' : Nat) (zs ys : List Int) (w : World) (ha : Arg w p n cap zs) (hb : Arg w q m cap' ys) (h : 4096 < Nm.tsize zs ∨ 4096 < Nm.tsize ys) :
    Calls Tryz.prog 119 #[.slice p n cap, .slice q m cap'] w fun e w' => e = .returned (.tuple #[.slice none 0 0, .slice none 0 0, .int .i64 2]) ∧ w' = w := by
  have L1 := hid (limbs_any p n cap zs w ha)
  have L2 := hid (limbs_any q m cap' ys w hb)
  by_cases h1 : 4096 < Nm.tsize zs
  · have h1' : (4096 : Int) < (Nm.tsize zs : Int) := by omega
    go_enter Tryz.func119, Tryz.ntmps119
    go_wp2_with fail
    refine L1.out.mono ?_
    rintro e w' ⟨rfl, rfl⟩
    go_wp2_with fail
    go_ret3
    exact ⟨rfl, rfl⟩
  · have h1' : (Nm.tsize zs : Int) ≤ 4096 := by omega
    have h2' : (4096 : Int) < (Nm.tsize ys : Int) := by omega
    go_enter Tryz.func119, Tryz.ntmps119
    go_wp2_with fail
    refine L1.out.mono ?_
    rintro e w' ⟨rfl, rfl⟩
    go_wp2_with fail
    refine L2.out.mono ?_
    rintro e w' ⟨rfl, rfl⟩
    go_wp2_with fail
    go_ret3
    exact ⟨rfl, rfl⟩

theorem limbs_is (p : Option Addr) (n cap : Nat) (zs : List Int) (N : Nat) (w : World) (ha : Arg w p n cap zs) (hN : Nm.tsize zs = N) :
    Calls Tryz.prog 106 #[.slice p n cap] w fun e w' => e = .returned (.int .i64 (N : Int)) ∧ w' = w := by
  rw [← hN]
  exact limbs_any p n cap zs w ha

set_option maxRecDepth 100000 in
set_option maxHeartbeats 1000000 in
theorem divMod_zero (p q : Option Addr) (n cap m cap' : Nat) (zs ys : List Int) (w : World) (ha : Arg w p n cap zs) (hb : Arg w q m cap' ys) (tz : Nm.tsize zs ≤ 4096) (ty : Nm.tsize ys = 0) :
    Calls Tryz.prog 119 #[.slice p n cap, .slice q m cap'] w fun e w' => e = .returned (.tuple #[.slice none 0 0, .slice none 0 0, .int .i64 4]) ∧ Below w.heap.size w w' := by
  obtain ⟨N, HN⟩ : ∃ N, Hid (Nm.tsize zs = N) := ⟨_, rfl⟩
  obtain ⟨M, HM⟩ : ∃ M, Hid (Nm.tsize ys = M) := ⟨_, rfl⟩
  have h1' : (N : Int) ≤ 4096 := by have := HN.out; omega
  have h2' : (M : Int) ≤ 4096 := by have := HM.out; omega
  have h3' : ((M : Int) == 0) = true := by have := HM.out; simp; omega
  have h2 : (N : Int) ≤ (cap : Int) := by have := ha.tl; have := ha.2.1; have := HN.out; omega
  have h4 : (M : Int) ≤ (cap' : Int) := by have := hb.tl; have := hb.2.1; have := HM.out; omega
  have HA := hid ha
  have HB := hid hb
  clear ha hb ty tz
  go_enter Tryz.func119, Tryz.ntmps119
  go_wp2_with fail
  refine (limbs_is p n cap zs N _ HA.out HN.out).mono ?_
  rintro e w' ⟨rfl, rfl⟩
  go_wp2_with fail
  refine (limbs_is q m cap' ys M _ HB.out HM.out).mono ?_
  rintro e w' ⟨rfl, rfl⟩
  go_wp2_with fail
  go_quiet ((go_at_call 106; first | exact Calls.quiet_of_same (limbs_is p n cap zs N _ (HA.out.drew _) HN.out) | exact Calls.quiet_of_same (limbs_is q m cap' ys M _ (HB.out.drew _) HM.out)))
  go_wp2_with fail
  go_ret3
  exact ⟨rfl, below_drewN (Below.refl _ _) _⟩
end Go.Proofs.YtljpmddjcfkonaaGreatDoor

namespace Go.Proofs.YtljpmddjcfkonaaGreatDoor
open Go.RowKit Go.Deep

theorem Ans.up {B B' : Nat} {w : World} {p : Option Addr} {ys : List Int} {n : Int} (h : Ans B w p ys n) (hB : B' ≤ B) : Ans B' w p ys n :=
  ⟨h.1, h.2.1, h.2.2.1, h.2.2.2.1, fun a ha => Nat.le_trans hB (h.2.2.2.2 a ha)⟩

set_option maxRecDepth 100000 in
set_option maxHeartbeats 1000000 in
theorem divMod_one (p q : Option Addr) (n cap m cap' : Nat) (zs ys : List Int) (w : World) (ha : Arg w p n cap zs) (hb : Arg w q m cap' ys) (tz : Nm.tsize zs ≤ 4096) (ty : Nm.tsize ys = 1) :
    Calls Tryz.prog 119 #[.slice p n cap, .slice q m cap'] w fun e w' => Splits (Nm.val zs) (Nm.val ys) w e w' := by
  obtain ⟨b', off', rfl, hbw', HC'⟩ := hb.2.2.2.1.trim.at (by rw [Nm.trim_length]; omega)
  obtain ⟨d, hd, D⟩ : ∃ d, w.cell? ⟨b', off', none⟩ = some (.int .u64 d) ∧ Hid (d = (Nm.trim ys).getD 0 0) := ⟨_, HC'.out 0 (by rw [Nm.trim_length]; omega), rfl⟩
  have hdb := hb.2.2.2.2.trim.at 0
  rw [← D.out] at hdb
  have hdv : Nm.val ys = d := by
    have h1 := Nm.val_trim ys
    have h2 := Nm.trim_length ys
    rw [ty] at h2
    obtain ⟨y, hy⟩ := List.length_eq_one_iff.1 h2
    have h3 := D.out
    rw [hy] at h1 h3
    simp [Nm.val] at h1 h3
    omega
  have hd0 : 0 < d := by
    have := Nm.val_ge_top hb.2.2.2.2 (by omega)
    rw [ty] at this
    simp [Nm.pw] at this
    omega
  obtain ⟨_, hd1⟩ := hdb
  obtain ⟨N, HN⟩ : ∃ N, Hid (Nm.tsize zs = N) := ⟨_, rfl⟩
  obtain ⟨M, HM⟩ : ∃ M, Hid (Nm.tsize ys = M) := ⟨_, rfl⟩
  have h1' : (N : Int) ≤ 4096 := by have := HN.out; omega
  have h2' : (M : Int) ≤ 4096 := by have := HM.out; omega
  have h3' : ((M : Int) == 0) = false := by have := HM.out; simp; omega
  have h5' : ((M : Int) == 1) = true := by have := HM.out; simp; omega
  have h6' : (0 : Int) < (M : Int) := by have := HM.out; omega
  have h2 : (N : Int) ≤ (cap : Int) := by have := ha.tl; have := ha.2.1; have := HN.out; omega
  have h4 : (M : Int) ≤ (cap' : Int) := by have := hb.tl; have := hb.2.1; have := HM.out; omega
  have CU := ha.cut
  rw [HN.out] at CU
  have HCU := hid CU
  have HT : Hid (Nm.tsize (Nm.trim zs) ≤ 4096) := by show _ ≤ _; rw [Nm.trim_trim]; exact tz
  have HA := hid ha
  have HB := hid hb
  have HV := hid hdv
  clear ha hb ty tz CU hbw' HC' D hdv
  go_enter Tryz.func119, Tryz.ntmps119
  go_wp2_with fail
  refine (limbs_is p n cap zs N _ HA.out HN.out).mono ?_
  rintro e w' ⟨rfl, rfl⟩
  go_wp2_with fail
  refine (limbs_is _ m cap' ys M _ HB.out HM.out).mono ?_
  rintro e w' ⟨rfl, rfl⟩
  go_wp2_with fail
  go_quiet ((go_at_call 106; first | exact Calls.quiet_of_same (limbs_is p n cap zs N _ (HA.out.drew _) HN.out) | exact Calls.quiet_of_same (limbs_is _ m cap' ys M _ (HB.out.drew _) HM.out)))
  have hd2 : (w'.drewN nq).cell? ⟨b', off', none⟩ = some (.int .u64 d) := hd
  have HCU2 := hid (HCU.out.drew nq)
  have HB0 : Hid (Below w'.heap.size w' (w'.drewN nq)) := below_drewN (Below.refl _ _) nq
  clear hd HCU
  generalize w'.drewN nq = wq at *
  go_wp2_with fail
  refine (divSmall_ok p N cap (Nm.trim zs) d _ HCU2.out HT.out hd0 hd1).mono ?_
  rintro e w2 ⟨r, os, rest, rfl, A1, ⟨s0, s1⟩, E, hb2⟩
  have HA1 := hid A1
  have HB2 := hid hb2
  have HE := hid (div_is s0 s1 E.out)
  have s2 : rest < 18446744073709551616 := by omega
  clear A1 hb2 E hd2
  go_wp2_with fail
  refine (fromUint_any rest _ s0 s2).mono ?_
  rintro e w3 ⟨r2, os2, rfl, A2, hb3⟩
  have F : Hid (Splits (Nm.val zs) (Nm.val ys) w' (.returned (.tuple #[.slice r (List.length os) (List.length os), .slice r2 (List.length os2) (List.length os2), .int .i64 0])) w3) := by
    have e1 := HE.out
    rw [Nm.val_trim, ← HV.out] at e1
    have z1 := HB0.out.size
    have z2 := HB2.out.size
    refine ⟨r, os, r2, os2, rfl, ?_, ?_, (chain (chain HB0.out HB2.out (Nat.le_refl _)) hb3 (Nat.le_refl _))⟩
    · rw [e1.1]; exact (HA1.out.below hb3 (Nat.le_refl _)).up z1
    · rw [e1.2]; exact A2.up (Nat.le_trans z1 z2)
  clear A2 hb3
  go_wp2_with fail
  go_ret3
  exact F.out

set_option maxRecDepth 100000 in
set_option maxHeartbeats 1000000 in
theorem divMod_less (p q : Option Addr) (n cap m cap' : Nat) (zs ys : List Int) (w : World) (ha : Arg w p n cap zs) (hb : Arg w q m cap' ys) (tz : Nm.tsize zs ≤ 4096) (ty : Nm.tsize ys ≤ 4096) (ty2 : 2 ≤ Nm.tsize ys) (hlt : Nm.val zs < Nm.val ys) :
    Calls Tryz.prog 119 #[.slice p n cap, .slice q m cap'] w fun e w' => Splits (Nm.val zs) (Nm.val ys) w e w' := by
  obtain ⟨N, HN⟩ : ∃ N, Hid (Nm.tsize zs = N) := ⟨_, rfl⟩
  obtain ⟨M, HM⟩ : ∃ M, Hid (Nm.tsize ys = M) := ⟨_, rfl⟩
  have h1' : (N : Int) ≤ 4096 := by have := HN.out; omega
  have h2' : (M : Int) ≤ 4096 := by have := HM.out; omega
  have h3' : ((M : Int) == 0) = false := by have := HM.out; simp; omega
  have h5' : ((M : Int) == 1) = false := by have := HM.out; rw [beq_eq_false_iff_ne]; omega
  have h2 : (N : Int) ≤ (cap : Int) := by have := ha.tl; have := ha.2.1; have := HN.out; omega
  have h4 : (M : Int) ≤ (cap' : Int) := by have := hb.tl; have := hb.2.1; have := HM.out; omega
  have CU := ha.cut
  rw [HN.out] at CU
  have CU' := hb.cut
  rw [HM.out] at CU'
  have HCU := hid CU
  have HCU' := hid CU'
  have HC : Hid (cmpI (Nm.val (Nm.trim zs)) (Nm.val (Nm.trim ys)) = -1) := by show _ = _; rw [Nm.val_trim, Nm.val_trim]; exact cmpI_lt hlt
  have HD : Hid (Nm.val zs / Nm.val ys = 0 ∧ Nm.val zs % Nm.val ys = Nm.val (Nm.trim zs)) := by
    have := (Nm.val_bd zs ha.2.2.2.2).1
    rw [Nm.val_trim]
    exact div_is this hlt (by omega)
  have HA := hid ha
  have HB := hid hb
  clear ha hb ty tz CU CU' ty2 hlt
  go_enter Tryz.func119, Tryz.ntmps119
  go_wp2_with fail
  refine (limbs_is p n cap zs N _ HA.out HN.out).mono ?_
  rintro e w' ⟨rfl, rfl⟩
  go_wp2_with fail
  refine (limbs_is _ m cap' ys M _ HB.out HM.out).mono ?_
  rintro e w' ⟨rfl, rfl⟩
  go_wp2_with fail
  go_quiet ((go_at_call 106; first | exact Calls.quiet_of_same (limbs_is p n cap zs N _ (HA.out.drew _) HN.out) | exact Calls.quiet_of_same (limbs_is _ m cap' ys M _ (HB.out.drew _) HM.out)))
  have HCU2 := hid (HCU.out.drew nq)
  have HCU2' := hid (HCU'.out.drew nq)
  have HB0 : Hid (Below w'.heap.size w' (w'.drewN nq)) := below_drewN (Below.refl _ _) nq
  clear HCU HCU'
  generalize w'.drewN nq = wq at *
  go_wp2_with fail
  refine (cmp_is (-1) p q N cap M cap' (Nm.trim zs) (Nm.trim ys) _ HCU2.out HCU2'.out HC.out).mono ?_
  rintro e w2 ⟨rfl, hb2⟩
  have HB2 := hid (chain HB0.out hb2 (Nat.le_refl _))
  have HCU3 := hid (HCU2.out.below hb2 (Nat.le_refl _))
  clear hb2
  go_wp2_with fail
  refine (trim_any p N cap (Nm.trim zs) _ HCU3.out).mono ?_
  rintro e w3 ⟨r, os, rfl, -, A1, hb3⟩
  have F : Hid (Splits (Nm.val zs) (Nm.val ys) w' (.returned (.tuple #[.slice none 0 0, .slice r (List.length os) (List.length os), .int .i64 0])) w3) := by
    have z1 := HB2.out.size
    refine ⟨none, [], r, os, rfl, ?_, ?_, chain HB2.out hb3 (Nat.le_refl _)⟩
    · rw [HD.out.1]; exact ans_none _ _ _ (fun a h => by cases h)
    · rw [HD.out.2]; exact A1.up z1
  clear A1 hb3
  go_wp2_with fail
  go_ret3
  exact F.out

/-- The quotient of a by b has so many limbs. -/
theorem first_room {zs ys : List Int} (hz : Nm.Limbs zs) (hy : Nm.Limbs ys) {N M K : Nat} (hN : Nm.tsize zs = N) (hM : Nm.tsize ys = M) (hM0 : 0 < M) (hK : N + 1 = K + M) : Nm.val zs < Nm.pw K * Nm.val ys := by
  have h1 := Nm.val_lt_tsize hz
  have h2 := Nm.val_ge_top hy (by omega)
  rw [hN] at h1
  rw [hM] at h2
  have h3 : Nm.pw K * Nm.pw (M - 1) ≤ Nm.pw K * Nm.val ys := Int.mul_le_mul_of_nonneg_left h2 (by have := Nm.pw_pos K; omega)
  rw [← Nm.pw_add, show K + (M - 1) = N by omega] at h3
  omega

set_option maxRecDepth 100000 in
set_option maxHeartbeats 1000000 in
theorem divMod_long (p q : Option Addr) (n cap m cap' : Nat) (zs ys : List Int) (w : World) (ha : Arg w p n cap zs) (hb : Arg w q m cap' ys) (tz : Nm.tsize zs ≤ 4096) (ty : Nm.tsize ys ≤ 4096) (ty2 : 2 ≤ Nm.tsize ys) (hge : Nm.val ys ≤ Nm.val zs) :
    Calls Tryz.prog 119 #[.slice p n cap, .slice q m cap'] w fun e w' => Splits (Nm.val zs) (Nm.val ys) w e w' := by
  obtain ⟨N, HN⟩ : ∃ N, Hid (Nm.tsize zs = N) := ⟨_, rfl⟩
  obtain ⟨M, HM⟩ : ∃ M, Hid (Nm.tsize ys = M) := ⟨_, rfl⟩
  have hNM : M ≤ N := by
    rcases Nat.lt_or_ge N M with h | h
    · have := val_lt_of_tsize ha.2.2.2.2 hb.2.2.2.2 (by rw [HN.out, HM.out]; exact h)
      omega
    · exact h
  obtain ⟨K, HK⟩ : ∃ K, Hid (N + 1 = K + M) := ⟨N + 1 - M, by show _ = _; omega⟩
  have RM := hid (first_room ha.2.2.2.2 hb.2.2.2.2 HN.out HM.out (by have := HM.out; omega) HK.out)
  have h1' : (N : Int) ≤ 4096 := by have := HN.out; omega
  have h2' : (M : Int) ≤ 4096 := by have := HM.out; omega
  have h3' : ((M : Int) == 0) = false := by have := HM.out; simp; omega
  have h5' : ((M : Int) == 1) = false := by have := HM.out; rw [beq_eq_false_iff_ne]; omega
  have h2 : (N : Int) ≤ (cap : Int) := by have := ha.tl; have := ha.2.1; have := HN.out; omega
  have h4 : (M : Int) ≤ (cap' : Int) := by have := hb.tl; have := hb.2.1; have := HM.out; omega
  have CU := ha.cut
  rw [HN.out] at CU
  have CU' := hb.cut
  rw [HM.out] at CU'
  have HCU := hid CU
  have HCU' := hid CU'
  obtain ⟨c, hc0, HC⟩ : ∃ c : Int, 0 ≤ c ∧ Hid (cmpI (Nm.val (Nm.trim zs)) (Nm.val (Nm.trim ys)) = c) := by
    rw [Nm.val_trim, Nm.val_trim]
    rcases (show Nm.val zs = Nm.val ys ∨ Nm.val ys < Nm.val zs by omega) with h | h
    · exact ⟨0, by omega, cmpI_eq h⟩
    · exact ⟨1, by omega, cmpI_gt h⟩
  have HA := hid ha
  have HB := hid hb
  have hM2 : 2 ≤ M := by have := HM.out; omega
  clear ha hb ty tz CU CU' ty2 hge
  go_enter Tryz.func119, Tryz.ntmps119
  go_wp2_with fail
  refine (limbs_is p n cap zs N _ HA.out HN.out).mono ?_
  rintro e w' ⟨rfl, rfl⟩
  go_wp2_with fail
  refine (limbs_is _ m cap' ys M _ HB.out HM.out).mono ?_
  rintro e w' ⟨rfl, rfl⟩
  go_wp2_with fail
  go_quiet ((go_at_call 106; first | exact Calls.quiet_of_same (limbs_is p n cap zs N _ (HA.out.drew _) HN.out) | exact Calls.quiet_of_same (limbs_is _ m cap' ys M _ (HB.out.drew _) HM.out)))
  have HCU2 := hid (HCU.out.drew nq)
  have HCU2' := hid (HCU'.out.drew nq)
  have HB0 : Hid (Below w'.heap.size w' (w'.drewN nq)) := below_drewN (Below.refl _ _) nq
  clear HCU HCU'
  generalize w'.drewN nq = wq at *
  go_wp2_with fail
  refine (cmp_is c p q N cap M cap' (Nm.trim zs) (Nm.trim ys) _ HCU2.out HCU2'.out HC.out).mono ?_
  rintro e w2 ⟨rfl, hb2⟩
  have HB2 := hid (chain HB0.out hb2 (Nat.le_refl _))
  have HCU3 := hid (HCU2.out.below hb2 (Nat.le_refl _))
  have HCU3' := hid (HCU2'.out.below hb2 (Nat.le_refl _))
  clear hb2 HCU2 HCU2' HB0
  have hmk := make64 (N + 1) (by omega) w2
  have em : ((N + 1 : Nat) : Int) = (N : Int) + 1 := by omega
  rw [em] at hmk
  clear em
  have hb0 : Below w2.heap.size w2 (w2.alloc (.cells (madeCells #[.int .u64 0] (N + 1)) 23)) := (Below.refl _ _).alloc (Nat.le_refl _) _
  have ho : Own (w2.alloc (.cells (madeCells #[.int .u64 0] (N + 1)) 23)) w2.heap.size (List.replicate (N + 1) 0) := by
    rw [made_zero]; exact Own.alloc w2 _
  obtain ⟨w3, hcp, ho1, hb1, hz1⟩ := copy64 w2.heap.size (N + 1) (List.replicate (N + 1) 0) p N cap (Nm.trim zs) 3 _ (by simp) (by rw [Nm.trim_length, HN.out]) (by omega) ho (HCU3.out.2.2.2.1.below hb0 (Nat.le_refl _))
  have e1 : List.drop N (List.replicate (N + 1) (0 : Int)) = [0] := by simp
  rw [e1] at ho1
  have HO := hid ho1
  have HB3 := hid (hb0.trans hb1)
  have HW3 : Hid (w2.heap.size < w3.heap.size) := ho1.lt
  clear e1 ho1 hb1 ho hb0 hz1
  have DV := divide_any w2.heap.size (N + 1) K (M - 2) M cap' (Nm.trim zs ++ [0]) q (Nm.trim ys) w3 HO.out (by simp [Nm.trim_length, HN.out]) (by omega) (Nm.Limbs.append HCU3.out.2.2.2.2 (limb_one (by omega))) (by omega) HK.out (by rw [Nm.trim_length, HM.out]) (by omega) (by have := HCU3'.out.2.2.1; omega)
    (HCU3'.out.2.2.2.1.below HB3.out (Nat.le_refl _)) HCU3'.out.2.2.2.2 (HCU3'.out.2.2.2.1.lt (by rw [Nm.trim_length, HM.out]; omega)) (by
      have := Nm.tsize_top (Nm.trim ys) (by rw [Nm.trim_trim, HM.out]; omega)
      rw [Nm.trim_trim, HM.out] at this
      rw [show M - 2 + 1 = M - 1 by omega]
      exact this) (by
      have e : Nm.val (Nm.trim zs ++ [0]) = Nm.val zs := by rw [Nm.val_append, Nm.val_trim]; simp [Nm.val]
      rw [e, Nm.val_trim]
      exact RM.out)
  have HDV := hid DV
  clear DV
  go_wp2_with fail
  refine HDV.out.mono ?_
  rintro e w4 ⟨os, rs, rfl, I⟩
  have bz := (Nm.val_bd rs I.out.lim).1
  have HE : Hid (Nm.val zs / Nm.val ys = Nm.val os ∧ Nm.val zs % Nm.val ys = Nm.val rs) := by
    have h1 := I.out.eq
    have h2 := I.out.lt
    have e : Nm.val (Nm.trim zs ++ [0]) = Nm.val zs := by rw [Nm.val_append, Nm.val_trim]; simp [Nm.val]
    rw [e, Nm.val_trim] at h1
    rw [Nm.val_trim] at h2
    simp only [Nm.pw, Int.one_mul] at h2
    exact div_is bz h2 h1
  have HB4 := hid ((HB2.out.trans (HB3.out.mono HB2.out.size)).trans (I.out.low.mono HB2.out.size))
  have hK64 : K ≤ 17592186044416 := by have := HK.out; omega
  have A1 : Hid (Arg w4 (some ⟨w3.heap.size, 0, none⟩) K K os) := ⟨I.out.len2, Nat.le_refl _, hK64, I.out.own2.lies, I.out.lim2⟩
  have HZ := hid HB2.out.size
  clear bz hmk hcp HDV
  go_wp2_with fail
  refine (trim_any _ K K os _ A1.out).mono ?_
  rintro e w5 ⟨r, os', rfl, -, A2, hb5⟩
  have HB5 := hid (chain HB4.out hb5 (Nat.le_refl _))
  have A3 : Hid (Arg w5 (some ⟨w2.heap.size, 0, none⟩) (N + 1) (N + 1) rs) := ⟨I.out.len, Nat.le_refl _, by omega, (I.out.own.below hb5 I.out.own.lt).lies, I.out.lim⟩
  have HA2 := hid (A2.up (B' := w'.heap.size) (HB4.out.size))
  clear A2 hb5
  go_wp2_with fail
  refine (trim_any _ (N + 1) (N + 1) rs _ A3.out).mono ?_
  rintro e w6 ⟨r2, os2, rfl, -, A4, hb6⟩
  have F : Hid (Splits (Nm.val zs) (Nm.val ys) w' (.returned (.tuple #[.slice r (List.length os') (List.length os'), .slice r2 (List.length os2) (List.length os2), .int .i64 0])) w6) := by
    refine ⟨r, os', r2, os2, rfl, ?_, ?_, chain HB5.out hb6 (Nat.le_refl _)⟩
    · rw [HE.out.1]; exact HA2.out.below hb6 (Nat.le_refl _)
    · rw [HE.out.2]; exact A4.up HB5.out.size
  clear A4 hb6
  go_wp2_with fail
  go_ret3
  exact F.out

/-- DivMod of two naturals that are not too big, the second not zero. -/
theorem divMod_ok (p q : Option Addr) (n cap m cap' : Nat) (zs ys : List Int) (w : World) (ha : Arg w p n cap zs) (hb : Arg w q m cap' ys) (tz : Nm.tsize zs ≤ 4096) (ty : Nm.tsize ys ≤ 4096) (hy : 0 < Nm.tsize ys) :
    Calls Tryz.prog 119 #[.slice p n cap, .slice q m cap'] w fun e w' => Splits (Nm.val zs) (Nm.val ys) w e w' := by
  by_cases h1 : Nm.tsize ys = 1
  · exact divMod_one p q n cap m cap' zs ys w ha hb tz h1
  by_cases h2 : Nm.val zs < Nm.val ys
  · exact divMod_less p q n cap m cap' zs ys w ha hb tz ty (by omega) h2
  · exact divMod_long p q n cap m cap' zs ys w ha hb tz ty (by omega) (by omega)
end Go.Proofs.YtljpmddjcfkonaaGreatDoor

/-
  soft: over.
-/
namespace Go.Proofs.YtljpmddjcfkonaaGreatDoor
open Go Go.RowKit Go.Deep

set_option maxRecDepth 100000 in
set_option maxHeartbeats 4000000 in
theorem over_xany (n1 n2 m1 m2 : Bool) (p1 p2 : Option Addr) (l1 c1 l2 c2 : Nat) (z1 z2 : List Int) (e1 e2 V1 V2 : Int) (w : World) (a1 : Arg w p1 l1 c1 z1) (a2 : Arg w p2 l2 c2 z2) (hV1 : Nm.val z1 = V1) (hV2 : Nm.val z2 = V2) (b1 : V1 < 2 ^ 60) (b2 : V2 < 2 ^ 60) (d0 : 0 < V2)
    (q1 : -1100 ≤ e1) (q2 : e1 ≤ 1000) (q3 : -1100 ≤ e2) (q4 : e2 ≤ 1000) :
    Calls Tryz.prog 111 #[exactOf n1 p1 l1 c1 e1 m1, exactOf n2 p2 l2 c2 e2 m2] w fun e w' => OverTold n1 V1 e1 n2 V2 e2 w e w' := by
  have v1 : 0 ≤ V1 := by rw [← hV1]; exact (Nm.val_bd z1 a1.2.2.2.2).1
  have e4096 := pw_4096
  have big := Nm.two_mono (show 188 ≤ 262144 by omega)
  have b60 := Nm.two_mono (show 60 ≤ 188 by omega)
  have pr : V1 * 2 ^ 128 < 2 ^ 188 := by
    have h2 : V1 * 2 ^ 128 < 2 ^ 60 * 2 ^ 128 := Int.mul_lt_mul_of_pos_right b1 (Nm.two_pos 128)
    rw [← Nm.two_add] at h2
    exact h2
  have t1 : Nm.tsize z1 ≤ 4096 := (Nm.tsize_le_iff a1.2.2.2.2 4096).2 (by rw [hV1]; omega)
  have t2 : Nm.tsize z2 ≤ 4096 := (Nm.tsize_le_iff a2.2.2.2.2 4096).2 (by rw [hV2]; omega)
  have t3 : 0 < Nm.tsize z2 := tsize_pos a2.2.2.2.2 (by rw [hV2]; exact d0)
  have S1 : Hid (∀ (wx : World), Below w.heap.size w wx → Calls Tryz.prog 68 #[.slice p1 l1 c1, .int .i64 128] wx fun e w' => ∃ r os, e = .returned (.tuple #[.slice r (List.length os) (List.length os), .int .i64 0]) ∧ Ans wx.heap.size w' r os (V1 * 2 ^ 128) ∧ Below wx.heap.size wx w') := by
    intro wx hx
    have := shl_any p1 l1 c1 z1 128 128 wx (a1.below hx (Nat.le_refl _)) t1 (by omega) (by rw [hV1]; omega)
    rw [hV1] at this
    exact this
  have D1 : Hid (∀ (wx : World) (r : Option Addr) (os : List Int) (B : Nat), Below w.heap.size w wx → Ans B wx r os (V1 * 2 ^ 128) → Calls Tryz.prog 119 #[.slice r os.length os.length, .slice p2 l2 c2] wx fun e w' => ∃ (s : Option Addr) (qs : List Int) (t : Option Addr) (rs : List Int), e = .returned (.tuple #[.slice s (List.length qs) (List.length qs), .slice t (List.length rs) (List.length rs), .int .i64 0]) ∧ Ans wx.heap.size w' s qs (V1 * 2 ^ 128 / V2) ∧ decide (0 < List.length rs) = decide (V1 * 2 ^ 128 % V2 ≠ 0) ∧ Below wx.heap.size wx w') := by
    intro wx r os B hx A
    obtain ⟨g1, g2, g3⟩ := A.tl pr (by omega)
    have := divMod_ok r p2 _ _ l2 c2 os z2 wx (A.arg (by omega)) (a2.below hx (Nat.le_refl _)) g1 t2 t3
    rw [A.2.2.2.1, hV2] at this
    refine this.mono ?_
    rintro e w' ⟨s, qs, t, rs, rfl, A1, A2, hB⟩
    refine ⟨s, qs, t, rs, rfl, A1, ?_, hB⟩
    have h1 := Nm.tsize_zero_iff A2.2.1
    rw [A2.2.2.1, A2.2.2.2.1] at h1
    rw [Bool.eq_iff_iff]
    simp only [decide_eq_true_eq]
    omega
  have B0 := Box.new w (.bool n1) (.slice p1 l1 c1) (.int .i64 e1) (.bool m1) (.bool n2) (.slice p2 l2 c2) (.int .i64 e2) (.bool m2)
  have TT : Hid (∀ (e : Ending) (w' : World), (∃ p os, e = .returned (exactOf (n1 != n2) p (List.length os) (List.length os) (e1 - 128 - e2) (decide (V1 * 2 ^ 128 % V2 ≠ 0))) ∧ Ans w.heap.size w' p os (V1 * 2 ^ 128 / V2) ∧ Below w.heap.size w w') → OverTold n1 V1 e1 n2 V2 e2 w e w') := fun _ _ h => h
  clear hV1 hV2 b1 b2 a1 a2 v1 big b60 pr t1 t2 t3 e4096 d0
  generalize decide (V1 * 2 ^ 128 % V2 ≠ 0) = more at *
  generalize V1 * 2 ^ 128 / V2 = Q at *
  generalize V1 * 2 ^ 128 = X at *
  simp only [exactOf]
  go_enter Tryz.func111, Tryz.ntmps111
  go_wp2_with fail
  refine (S1.out _ B0.2.1).mono ?_
  rintro e wa ⟨r1, o1, rfl, A1, hB1⟩
  have Ba := B0.on hB1
  have s0 := B0.2.2
  obtain ⟨⟨cx0, cx1, cx2⟩, ⟨cy0, cy1, cy2⟩, -⟩ := Ba.cells
  have D2 := hid (D1.out wa r1 o1 _ Ba.2.1 A1)
  have BB := hid Ba
  clear A1 hB1 S1 D1 Ba B0 s0
  go_wp2_with fail
  refine D2.out.mono ?_
  rintro e wb ⟨s, qs, t, rs, rfl, A2, hr, hB2⟩
  have Bb := BB.out.on hB2
  have s1 := BB.out.2.2
  have KF := tell4 (u0 := .bool (n1 != n2)) (u2 := .int .i64 (e1 - 128 - e2)) (u3 := .bool more) Bb ⟨A2.1, A2.2.1, A2.2.2.1, A2.2.2.2.1, fun a h => by have := A2.2.2.2.2 a h; omega⟩
  clear cx0 cx1 cx2 cy0 cy1 cy2
  obtain ⟨⟨cx0, cx1, cx2⟩, ⟨cy0, cy1, cy2⟩, ⟨⟨r0, r1', r2', r3⟩, ⟨f0, f1, f2, f3⟩⟩⟩ := Bb.cells
  have RR := hid Bb.1.2.2
  have KK := hid KF
  clear KF A2 hB2 D2 BB Bb s1
  go_wp2_with fail
  (try simp only [Exit.inBlock, Exit.then])
  refine bodyPost_ret (results_cell_row rfl _ _ (w.heap.size + 2) 54 _ (0, 0) _ rfl (Row4.set RR.out) Tryz.underlying54 rfl (by kernel_rfl)) rfl ?_
  exact TT.out _ _ ⟨s, qs, rfl, KK.out⟩
end Go.Proofs.YtljpmddjcfkonaaGreatDoor

/-
  soft: div (made by mkmul.py).
-/
namespace Go.Proofs.YtljpmddjcfkonaaGreatDoor
open Go Go.RowKit Go.Deep

set_option maxRecDepth 100000 in
set_option maxHeartbeats 4000000 in
theorem div_fin (a b : Int) (w : World) (a0 : 0 ≤ a) (a1 : a < 18446744073709551616) (b0 : 0 ≤ b) (b1 : b < 18446744073709551616) (hT : Tab w) (na : Ie.isn a = false) (ia : Ie.isi a = false) (nb : Ie.isn b = false) (ib : Ie.isi b = false) (zb : Ie.isz b = false) :
    Calls Tryz.prog 89 #[.int .u64 a, .int .u64 b] w fun e w' => Told2 (Ie.DivIs a b) w e w' := by
  have fa := Ie.fin_of na ia
  have fb := Ie.fin_of nb ib
  have FI : Hid (∀ (r f : Int), Ie.Res (Ie.ngd a != Ie.ngd b) (Ie.dm a * 2 ^ 128 / Ie.dm b) (Ie.de a - 128 - Ie.de b) (decide (Ie.dm a * 2 ^ 128 % Ie.dm b ≠ 0)) r f → Ie.DivIs a b r f) := by
    intro r f h2
    rw [Ie.DivIs, na, nb, ia, ib, zb]
    simp only [Bool.false_eq_true, or_self, and_false, if_false]
    exact h2
  have NA := hid (fun (wx : World) => nan_any a wx a0 a1)
  rw [na] at NA
  have NB := hid (fun (wx : World) => nan_any b wx b0 b1)
  rw [nb] at NB
  have IA := hid (fun (wx : World) => infinite_any a wx a0 a1)
  rw [ia] at IA
  have IB := hid (fun (wx : World) => infinite_any b wx b0 b1)
  rw [ib] at IB
  have ZA := hid (fun (wx : World) => zero_any a wx a0 a1)
  have ZB := hid (fun (wx : World) => zero_any b wx b0 b1)
  rw [zb] at ZB
  obtain ⟨⟨da0, da1⟩, ⟨ea0, ea1⟩, -, -⟩ := Ie.dec_f a fa
  obtain ⟨⟨db0, db1⟩, ⟨eb0, eb1⟩, -, dbz⟩ := Ie.dec_f b fb
  have e60 : (2 : Int) ^ 60 = 1152921504606846976 := by decide
  have da2 : Ie.dm a < 2 ^ 60 := by omega
  have db2 : Ie.dm b < 2 ^ 60 := by omega
  have d0 : 0 < Ie.dm b := by
    rw [Ie.isz, decide_eq_false_iff_not] at zb
    omega
  have UA := hid (fun (wx : World) => number_any a wx a0 a1 fa)
  have UB := hid (fun (wx : World) => number_any b wx b0 b1 fb)
  have HT := hid hT
  have RU : Hid (∀ (w2 : World) (pa pb : Option Addr) (oa ob : List Int) (B B' : Nat), Ans B w2 pa oa (Ie.dm a) → Ans B' w2 pb ob (Ie.dm b) → Calls Tryz.prog 111 #[exactOf (Ie.ngd a) pa oa.length oa.length (Ie.de a) false, exactOf (Ie.ngd b) pb ob.length ob.length (Ie.de b) false] w2 fun e w' => ∃ p os, e = .returned (exactOf (Ie.ngd a != Ie.ngd b) p (List.length os) (List.length os) (Ie.de a - 128 - Ie.de b) (decide (Ie.dm a * 2 ^ 128 % Ie.dm b ≠ 0))) ∧ Ans w2.heap.size w' p os (Ie.dm a * 2 ^ 128 / Ie.dm b) ∧ Below w2.heap.size w2 w') := by
    intro w2 pa pb oa ob B B' A1 A2
    exact over_xany _ _ _ _ _ _ _ _ _ _ oa ob _ _ _ _ w2 (A1.arg (by have := A1.tl da2 (show 60 ≤ 262144 by omega); omega)) (A2.arg (by have := A2.tl db2 (show 60 ≤ 262144 by omega); omega)) A1.2.2.2.1 A2.2.2.2.1 da2 db2 d0 (by omega) (by omega) (by omega) (by omega)
  have vb : Ie.dm a * 2 ^ 128 / Ie.dm b < 2 ^ 5000 := by
    have h1 : Ie.dm a * 2 ^ 128 / Ie.dm b ≤ Ie.dm a * 2 ^ 128 := Int.ediv_le_self _ (Int.mul_nonneg da0 (by have := Nm.two_pos 128; omega))
    have h2 : Ie.dm a * 2 ^ 128 < 2 ^ 60 * 2 ^ 128 := Int.mul_lt_mul_of_pos_right da2 (Nm.two_pos 128)
    rw [← Nm.two_add] at h2
    have := Nm.two_mono (show 60 + 128 ≤ 5000 by omega)
    omega
  have RO : Hid (∀ (w3 : World) (p : Option Addr) (os : List Int) (B : Nat), Below w.heap.size w w3 → Ans B w3 p os (Ie.dm a * 2 ^ 128 / Ie.dm b) → Calls Tryz.prog 36 #[exactOf (Ie.ngd a != Ie.ngd b) p os.length os.length (Ie.de a - 128 - Ie.de b) (decide (Ie.dm a * 2 ^ 128 % Ie.dm b ≠ 0))] w3 fun r w' => RoundedTold (Ie.ngd a != Ie.ngd b) (Ie.dm a * 2 ^ 128 / Ie.dm b) (Ie.de a - 128 - Ie.de b) (decide (Ie.dm a * 2 ^ 128 % Ie.dm b ≠ 0)) w3 r w') := by
    intro w3 p os B hB A
    exact rounded_any _ _ p _ _ os _ _ w3 (A.arg (by have := A.tl vb (show 5000 ≤ 262144 by omega); omega)) (HT.out.below hB) A.2.2.2.1 A.len0 vb (by omega) (by omega)
  cases hza : Ie.isz a <;> rw [hza] at ZA
  · clear fa fb na nb ia ib hT da0 da1 ea0 ea1 db0 db1 eb0 eb1 dbz e60 da2 db2 vb HT hza d0 zb
    generalize hV : Ie.dm a * 2 ^ 128 / Ie.dm b = V at *
    generalize hE : Ie.de a - 128 - Ie.de b = E at *
    generalize hM : decide (Ie.dm a * 2 ^ 128 % Ie.dm b ≠ 0) = M at *
    clear hV hE hM
    go_enter Tryz.func89, Tryz.ntmps89
    go_wp2_with fail
    refine (NA.out _).mono ?_
    rintro e wz ⟨rfl, hz⟩
    replace hz := hz.symm
    subst hz
    go_wp2_with fail
    refine (NB.out _).mono ?_
    rintro e wz ⟨rfl, hz⟩
    replace hz := hz.symm
    subst hz
    go_wp2_with fail
    refine (IA.out _).mono ?_
    rintro e wz ⟨rfl, hz⟩
    replace hz := hz.symm
    subst hz
    go_wp2_with fail
    refine (ZA.out _).mono ?_
    rintro e wz ⟨rfl, hz⟩
    replace hz := hz.symm
    subst hz
    go_wp2_with fail
    refine (IA.out _).mono ?_
    rintro e wz ⟨rfl, hz⟩
    replace hz := hz.symm
    subst hz
    go_wp2_with fail
    refine (IB.out _).mono ?_
    rintro e wz ⟨rfl, hz⟩
    replace hz := hz.symm
    subst hz
    go_wp2_with fail
    refine (ZB.out _).mono ?_
    rintro e wz ⟨rfl, hz⟩
    replace hz := hz.symm
    subst hz
    go_wp2_with fail
    refine (UA.out _).mono ?_
    rintro e w1 ⟨pa, oa, rfl, A1, hB1⟩
    have H1 := hid (And.intro A1 hB1)
    clear A1 hB1
    simp only [exactOf]
    go_wp2_with fail
    refine (UB.out _).mono ?_
    rintro e w2 ⟨pb, ob, rfl, A2, hB2⟩
    have A1 := H1.out.1.below hB2 (Nat.le_refl _)
    have Bw := H1.out.2.trans (hB2.mono H1.out.2.size)
    have PL := hid (RU.out w2 pa pb oa ob _ _ A1 A2)
    have HB := hid Bw
    simp only [exactOf] at PL ⊢
    clear A1 A2 hB2 Bw H1 RU
    go_wp2_with fail
    refine PL.out.mono ?_
    rintro e w3 ⟨p, os, rfl, A3, hB3⟩
    have Bw := HB.out.trans (hB3.mono HB.out.size)
    have RR := hid (RO.out w3 p os _ Bw A3)
    have HC := hid Bw
    simp only [exactOf] at RR ⊢
    clear A3 hB3 Bw RO PL HB
    go_wp2_with fail
    refine RR.out.mono ?_
    rintro e w4 ⟨d, t, L, rfl, h1, h2, h3, hB4⟩
    have KK : Hid (Told2 (Ie.DivIs a b) w (.returned (.tuple #[.int .u64 (Ie.sg (Ie.ngd a != Ie.ngd b) d), .int .i64 (Ie.flg V E M (Ie.sg (Ie.ngd a != Ie.ngd b) d) t L)])) w4) :=
      ⟨_, _, rfl, FI.out _ _ ⟨d, t, L, rfl, rfl, h1, h2, h3⟩, HC.out.trans (hB4.mono HC.out.size)⟩
    clear h1 h2 h3 hB4 HC RR FI
    go_wp2_with fail
    go_ret2
    exact KK.out
  · clear fa fb na nb ia ib hT da0 da1 ea0 ea1 db0 db1 eb0 eb1 dbz e60 da2 db2 vb HT hza d0 zb
    generalize hV : Ie.dm a * 2 ^ 128 / Ie.dm b = V at *
    generalize hE : Ie.de a - 128 - Ie.de b = E at *
    generalize hM : decide (Ie.dm a * 2 ^ 128 % Ie.dm b ≠ 0) = M at *
    clear hV hE hM
    go_enter Tryz.func89, Tryz.ntmps89
    go_wp2_with fail
    refine (NA.out _).mono ?_
    rintro e wz ⟨rfl, hz⟩
    replace hz := hz.symm
    subst hz
    go_wp2_with fail
    refine (NB.out _).mono ?_
    rintro e wz ⟨rfl, hz⟩
    replace hz := hz.symm
    subst hz
    go_wp2_with fail
    refine (IA.out _).mono ?_
    rintro e wz ⟨rfl, hz⟩
    replace hz := hz.symm
    subst hz
    go_wp2_with fail
    refine (ZA.out _).mono ?_
    rintro e wz ⟨rfl, hz⟩
    replace hz := hz.symm
    subst hz
    go_wp2_with fail
    refine (ZB.out _).mono ?_
    rintro e wz ⟨rfl, hz⟩
    replace hz := hz.symm
    subst hz
    go_wp2_with fail
    refine (IA.out _).mono ?_
    rintro e wz ⟨rfl, hz⟩
    replace hz := hz.symm
    subst hz
    go_wp2_with fail
    refine (IB.out _).mono ?_
    rintro e wz ⟨rfl, hz⟩
    replace hz := hz.symm
    subst hz
    go_wp2_with fail
    refine (ZB.out _).mono ?_
    rintro e wz ⟨rfl, hz⟩
    replace hz := hz.symm
    subst hz
    go_wp2_with fail
    refine (UA.out _).mono ?_
    rintro e w1 ⟨pa, oa, rfl, A1, hB1⟩
    have H1 := hid (And.intro A1 hB1)
    clear A1 hB1
    simp only [exactOf]
    go_wp2_with fail
    refine (UB.out _).mono ?_
    rintro e w2 ⟨pb, ob, rfl, A2, hB2⟩
    have A1 := H1.out.1.below hB2 (Nat.le_refl _)
    have Bw := H1.out.2.trans (hB2.mono H1.out.2.size)
    have PL := hid (RU.out w2 pa pb oa ob _ _ A1 A2)
    have HB := hid Bw
    simp only [exactOf] at PL ⊢
    clear A1 A2 hB2 Bw H1 RU
    go_wp2_with fail
    refine PL.out.mono ?_
    rintro e w3 ⟨p, os, rfl, A3, hB3⟩
    have Bw := HB.out.trans (hB3.mono HB.out.size)
    have RR := hid (RO.out w3 p os _ Bw A3)
    have HC := hid Bw
    simp only [exactOf] at RR ⊢
    clear A3 hB3 Bw RO PL HB
    go_wp2_with fail
    refine RR.out.mono ?_
    rintro e w4 ⟨d, t, L, rfl, h1, h2, h3, hB4⟩
    have KK : Hid (Told2 (Ie.DivIs a b) w (.returned (.tuple #[.int .u64 (Ie.sg (Ie.ngd a != Ie.ngd b) d), .int .i64 (Ie.flg V E M (Ie.sg (Ie.ngd a != Ie.ngd b) d) t L)])) w4) :=
      ⟨_, _, rfl, FI.out _ _ ⟨d, t, L, rfl, rfl, h1, h2, h3⟩, HC.out.trans (hB4.mono HC.out.size)⟩
    clear h1 h2 h3 hB4 HC RR FI
    go_wp2_with fail
    go_ret2
    exact KK.out

set_option maxRecDepth 100000 in
set_option maxHeartbeats 4000000 in
theorem div_any (a b : Int) (w : World) (a0 : 0 ≤ a) (a1 : a < 18446744073709551616) (b0 : 0 ≤ b) (b1 : b < 18446744073709551616) (hT : Tab w) :
    Calls Tryz.prog 89 #[.int .u64 a, .int .u64 b] w fun e w' => Told2 (Ie.DivIs a b) w e w' := by
  have NA := hid (fun (wx : World) => nan_any a wx a0 a1)
  have NB := hid (fun (wx : World) => nan_any b wx b0 b1)
  have IA := hid (fun (wx : World) => infinite_any a wx a0 a1)
  have IB := hid (fun (wx : World) => infinite_any b wx b0 b1)
  have ZA := hid (fun (wx : World) => zero_any a wx a0 a1)
  have ZB := hid (fun (wx : World) => zero_any b wx b0 b1)
  have SG := hid (fun (wx : World) => softSign_any a b wx a0 a1 b0 b1)
  have OR := Ie.inf_or (Ie.ngd a != Ie.ngd b)
  have KK : Hid (∀ (e : Ending) (r f : Int), e = .returned (.tuple #[.int .u64 r, .int .i64 f]) → Ie.DivIs a b r f → Told2 (Ie.DivIs a b) w e w) := fun e r f h1 h2 => ⟨r, f, h1, h2, Below.refl _ _⟩
  cases na : Ie.isn a
  · cases nb : Ie.isn b
    · cases ia : Ie.isi a
      · cases ib : Ie.isi b
        · skip
          cases za : Ie.isz a
          · skip
            cases zb : Ie.isz b
            · skip
              exact div_fin a b w a0 a1 b0 b1 hT na ia nb ib zb
            · skip
              have SP : Hid (Ie.DivIs a b (Ie.sb (Ie.ngd a != Ie.ngd b) 9218868437227405312) 2) := by rw [Hid, Ie.DivIs, na, nb, ia, ib, za, zb]; simp
              rw [na] at NA
              rw [nb] at NB
              rw [ia] at IA
              rw [ib] at IB
              rw [za] at ZA
              rw [zb] at ZB
              clear na nb ia ib hT za zb
              generalize hI : Ie.sb (Ie.ngd a != Ie.ngd b) 9218868437227405312 = sI at *
              generalize hO : Ie.sb (Ie.ngd a != Ie.ngd b) 0 = sO at *
              clear hI hO
              go_enter Tryz.func89, Tryz.ntmps89
              go_wp2_with fail
              refine (NA.out _).mono ?_
              rintro e wz ⟨rfl, hz⟩
              replace hz := hz.symm
              subst hz
              go_wp2_with fail
              refine (NB.out _).mono ?_
              rintro e wz ⟨rfl, hz⟩
              replace hz := hz.symm
              subst hz
              go_wp2_with fail
              refine (IA.out _).mono ?_
              rintro e wz ⟨rfl, hz⟩
              replace hz := hz.symm
              subst hz
              go_wp2_with fail
              refine (ZA.out _).mono ?_
              rintro e wz ⟨rfl, hz⟩
              replace hz := hz.symm
              subst hz
              go_wp2_with fail
              refine (IA.out _).mono ?_
              rintro e wz ⟨rfl, hz⟩
              replace hz := hz.symm
              subst hz
              go_wp2_with fail
              refine (IB.out _).mono ?_
              rintro e wz ⟨rfl, hz⟩
              replace hz := hz.symm
              subst hz
              go_wp2_with fail
              refine (ZB.out _).mono ?_
              rintro e wz ⟨rfl, hz⟩
              replace hz := hz.symm
              subst hz
              go_wp2_with fail
              refine (SG.out _).mono ?_
              rintro e wz ⟨rfl, hz⟩
              replace hz := hz.symm
              subst hz
              go_wp2_with fail
              go_ret2
              exact KK.out _ _ _ rfl SP.out
          · skip
            cases zb : Ie.isz b
            · skip
              exact div_fin a b w a0 a1 b0 b1 hT na ia nb ib zb
            · skip
              have SP : Hid (Ie.DivIs a b 9221120237041090560 1) := by rw [Hid, Ie.DivIs, na, nb, ia, ib, za, zb]; simp
              rw [na] at NA
              rw [nb] at NB
              rw [ia] at IA
              rw [ib] at IB
              rw [za] at ZA
              rw [zb] at ZB
              clear na nb ia ib hT za zb
              go_enter Tryz.func89, Tryz.ntmps89
              go_wp2_with fail
              refine (NA.out _).mono ?_
              rintro e wz ⟨rfl, hz⟩
              replace hz := hz.symm
              subst hz
              go_wp2_with fail
              refine (NB.out _).mono ?_
              rintro e wz ⟨rfl, hz⟩
              replace hz := hz.symm
              subst hz
              go_wp2_with fail
              refine (IA.out _).mono ?_
              rintro e wz ⟨rfl, hz⟩
              replace hz := hz.symm
              subst hz
              go_wp2_with fail
              refine (ZA.out _).mono ?_
              rintro e wz ⟨rfl, hz⟩
              replace hz := hz.symm
              subst hz
              go_wp2_with fail
              refine (ZB.out _).mono ?_
              rintro e wz ⟨rfl, hz⟩
              replace hz := hz.symm
              subst hz
              go_wp2_with fail
              go_ret2
              exact KK.out _ _ _ rfl SP.out
        · skip
          cases za : Ie.isz a
          · skip
            have zb := Ie.not_iz ib
            have SP : Hid (Ie.DivIs a b (Ie.sb (Ie.ngd a != Ie.ngd b) 0) 0) := by rw [Hid, Ie.DivIs, na, nb, ia, ib, za, zb]; simp
            rw [na] at NA
            rw [nb] at NB
            rw [ia] at IA
            rw [ib] at IB
            rw [za] at ZA
            rw [zb] at ZB
            clear na nb ia ib hT za zb
            generalize hI : Ie.sb (Ie.ngd a != Ie.ngd b) 9218868437227405312 = sI at *
            generalize hO : Ie.sb (Ie.ngd a != Ie.ngd b) 0 = sO at *
            clear hI hO
            go_enter Tryz.func89, Tryz.ntmps89
            go_wp2_with fail
            refine (NA.out _).mono ?_
            rintro e wz ⟨rfl, hz⟩
            replace hz := hz.symm
            subst hz
            go_wp2_with fail
            refine (NB.out _).mono ?_
            rintro e wz ⟨rfl, hz⟩
            replace hz := hz.symm
            subst hz
            go_wp2_with fail
            refine (IA.out _).mono ?_
            rintro e wz ⟨rfl, hz⟩
            replace hz := hz.symm
            subst hz
            go_wp2_with fail
            refine (ZA.out _).mono ?_
            rintro e wz ⟨rfl, hz⟩
            replace hz := hz.symm
            subst hz
            go_wp2_with fail
            refine (IA.out _).mono ?_
            rintro e wz ⟨rfl, hz⟩
            replace hz := hz.symm
            subst hz
            go_wp2_with fail
            refine (IB.out _).mono ?_
            rintro e wz ⟨rfl, hz⟩
            replace hz := hz.symm
            subst hz
            go_wp2_with fail
            refine (SG.out _).mono ?_
            rintro e wz ⟨rfl, hz⟩
            replace hz := hz.symm
            subst hz
            go_wp2_with fail
            go_ret2
            exact KK.out _ _ _ rfl SP.out
          · skip
            have zb := Ie.not_iz ib
            have SP : Hid (Ie.DivIs a b (Ie.sb (Ie.ngd a != Ie.ngd b) 0) 0) := by rw [Hid, Ie.DivIs, na, nb, ia, ib, za, zb]; simp
            rw [na] at NA
            rw [nb] at NB
            rw [ia] at IA
            rw [ib] at IB
            rw [za] at ZA
            rw [zb] at ZB
            clear na nb ia ib hT za zb
            generalize hI : Ie.sb (Ie.ngd a != Ie.ngd b) 9218868437227405312 = sI at *
            generalize hO : Ie.sb (Ie.ngd a != Ie.ngd b) 0 = sO at *
            clear hI hO
            go_enter Tryz.func89, Tryz.ntmps89
            go_wp2_with fail
            refine (NA.out _).mono ?_
            rintro e wz ⟨rfl, hz⟩
            replace hz := hz.symm
            subst hz
            go_wp2_with fail
            refine (NB.out _).mono ?_
            rintro e wz ⟨rfl, hz⟩
            replace hz := hz.symm
            subst hz
            go_wp2_with fail
            refine (IA.out _).mono ?_
            rintro e wz ⟨rfl, hz⟩
            replace hz := hz.symm
            subst hz
            go_wp2_with fail
            refine (ZA.out _).mono ?_
            rintro e wz ⟨rfl, hz⟩
            replace hz := hz.symm
            subst hz
            go_wp2_with fail
            refine (ZB.out _).mono ?_
            rintro e wz ⟨rfl, hz⟩
            replace hz := hz.symm
            subst hz
            go_wp2_with fail
            refine (IA.out _).mono ?_
            rintro e wz ⟨rfl, hz⟩
            replace hz := hz.symm
            subst hz
            go_wp2_with fail
            refine (IB.out _).mono ?_
            rintro e wz ⟨rfl, hz⟩
            replace hz := hz.symm
            subst hz
            go_wp2_with fail
            refine (SG.out _).mono ?_
            rintro e wz ⟨rfl, hz⟩
            replace hz := hz.symm
            subst hz
            go_wp2_with fail
            go_ret2
            exact KK.out _ _ _ rfl SP.out
      · cases ib : Ie.isi b
        · skip
          have za := Ie.not_iz ia
          cases zb : Ie.isz b
          · skip
            have SP : Hid (Ie.DivIs a b (Ie.sb (Ie.ngd a != Ie.ngd b) 9218868437227405312) 0) := by rw [Hid, Ie.DivIs, na, nb, ia, ib, za, zb]; simp
            rw [na] at NA
            rw [nb] at NB
            rw [ia] at IA
            rw [ib] at IB
            rw [za] at ZA
            rw [zb] at ZB
            clear na nb ia ib hT za zb
            generalize hI : Ie.sb (Ie.ngd a != Ie.ngd b) 9218868437227405312 = sI at *
            generalize hO : Ie.sb (Ie.ngd a != Ie.ngd b) 0 = sO at *
            clear hI hO
            go_enter Tryz.func89, Tryz.ntmps89
            go_wp2_with fail
            refine (NA.out _).mono ?_
            rintro e wz ⟨rfl, hz⟩
            replace hz := hz.symm
            subst hz
            go_wp2_with fail
            refine (NB.out _).mono ?_
            rintro e wz ⟨rfl, hz⟩
            replace hz := hz.symm
            subst hz
            go_wp2_with fail
            refine (IA.out _).mono ?_
            rintro e wz ⟨rfl, hz⟩
            replace hz := hz.symm
            subst hz
            go_wp2_with fail
            refine (IB.out _).mono ?_
            rintro e wz ⟨rfl, hz⟩
            replace hz := hz.symm
            subst hz
            go_wp2_with fail
            refine (ZA.out _).mono ?_
            rintro e wz ⟨rfl, hz⟩
            replace hz := hz.symm
            subst hz
            go_wp2_with fail
            refine (IA.out _).mono ?_
            rintro e wz ⟨rfl, hz⟩
            replace hz := hz.symm
            subst hz
            go_wp2_with fail
            refine (SG.out _).mono ?_
            rintro e wz ⟨rfl, hz⟩
            replace hz := hz.symm
            subst hz
            go_wp2_with fail
            go_ret2
            exact KK.out _ _ _ rfl SP.out
          · skip
            have SP : Hid (Ie.DivIs a b (Ie.sb (Ie.ngd a != Ie.ngd b) 9218868437227405312) 0) := by rw [Hid, Ie.DivIs, na, nb, ia, ib, za, zb]; simp
            rw [na] at NA
            rw [nb] at NB
            rw [ia] at IA
            rw [ib] at IB
            rw [za] at ZA
            rw [zb] at ZB
            clear na nb ia ib hT za zb
            generalize hI : Ie.sb (Ie.ngd a != Ie.ngd b) 9218868437227405312 = sI at *
            generalize hO : Ie.sb (Ie.ngd a != Ie.ngd b) 0 = sO at *
            clear hI hO
            go_enter Tryz.func89, Tryz.ntmps89
            go_wp2_with fail
            refine (NA.out _).mono ?_
            rintro e wz ⟨rfl, hz⟩
            replace hz := hz.symm
            subst hz
            go_wp2_with fail
            refine (NB.out _).mono ?_
            rintro e wz ⟨rfl, hz⟩
            replace hz := hz.symm
            subst hz
            go_wp2_with fail
            refine (IA.out _).mono ?_
            rintro e wz ⟨rfl, hz⟩
            replace hz := hz.symm
            subst hz
            go_wp2_with fail
            refine (IB.out _).mono ?_
            rintro e wz ⟨rfl, hz⟩
            replace hz := hz.symm
            subst hz
            go_wp2_with fail
            refine (ZA.out _).mono ?_
            rintro e wz ⟨rfl, hz⟩
            replace hz := hz.symm
            subst hz
            go_wp2_with fail
            refine (IA.out _).mono ?_
            rintro e wz ⟨rfl, hz⟩
            replace hz := hz.symm
            subst hz
            go_wp2_with fail
            refine (SG.out _).mono ?_
            rintro e wz ⟨rfl, hz⟩
            replace hz := hz.symm
            subst hz
            go_wp2_with fail
            go_ret2
            exact KK.out _ _ _ rfl SP.out
        · skip
          have za := Ie.not_iz ia
          have zb := Ie.not_iz ib
          have SP : Hid (Ie.DivIs a b 9221120237041090560 1) := by rw [Hid, Ie.DivIs, na, nb, ia, ib, za, zb]; simp
          rw [na] at NA
          rw [nb] at NB
          rw [ia] at IA
          rw [ib] at IB
          rw [za] at ZA
          rw [zb] at ZB
          clear na nb ia ib hT za zb
          go_enter Tryz.func89, Tryz.ntmps89
          go_wp2_with fail
          refine (NA.out _).mono ?_
          rintro e wz ⟨rfl, hz⟩
          replace hz := hz.symm
          subst hz
          go_wp2_with fail
          refine (NB.out _).mono ?_
          rintro e wz ⟨rfl, hz⟩
          replace hz := hz.symm
          subst hz
          go_wp2_with fail
          refine (IA.out _).mono ?_
          rintro e wz ⟨rfl, hz⟩
          replace hz := hz.symm
          subst hz
          go_wp2_with fail
          refine (IB.out _).mono ?_
          rintro e wz ⟨rfl, hz⟩
          replace hz := hz.symm
          subst hz
          go_wp2_with fail
          go_ret2
          exact KK.out _ _ _ rfl SP.out
    · have SP : Hid (Ie.DivIs a b 9221120237041090560 0) := by rw [Hid, Ie.DivIs, na, nb]; simp
      rw [na] at NA
      rw [nb] at NB
      clear na nb hT
      go_enter Tryz.func89, Tryz.ntmps89
      go_wp2_with fail
      refine (NA.out _).mono ?_
      rintro e wz ⟨rfl, hz⟩
      replace hz := hz.symm
      subst hz
      go_wp2_with fail
      refine (NB.out _).mono ?_
      rintro e wz ⟨rfl, hz⟩
      replace hz := hz.symm
      subst hz
      go_wp2_with fail
      go_ret2
      exact KK.out _ _ _ rfl SP.out
  · have SP : Hid (Ie.DivIs a b 9221120237041090560 0) := by rw [Hid, Ie.DivIs, na]; simp
    rw [na] at NA
    clear na hT
    go_enter Tryz.func89, Tryz.ntmps89
    go_wp2_with fail
    refine (NA.out _).mono ?_
    rintro e wz ⟨rfl, hz⟩
    replace hz := hz.symm
    subst hz
    go_wp2_with fail
    go_ret2
    exact KK.out _ _ _ rfl SP.out

end Go.Proofs.YtljpmddjcfkonaaGreatDoor

/-
  Rounded signed fractions: div.
-/
namespace Go.Proofs.YtljpmddjcfkonaaGreatDoor
namespace Ie


theorem DivIs.get {a b r f : Int} (fa : fin a) (fb : fin b) (hb : ab b ≠ 0) (h : DivIs a b r f) : Res (ngd a != ngd b) (dm a * 2 ^ 128 / dm b) (de a - 128 - de b) (decide (dm a * 2 ^ 128 % dm b ≠ 0)) r f := by
  have zb : isz b = false := by rw [isz, decide_eq_false_iff_not]; exact hb
  rw [DivIs, (fin_not fa).1, (fin_not fa).2, (fin_not fb).1, (fin_not fb).2, zb] at h
  simp only [Bool.false_eq_true, or_self, and_false, if_false] at h
  exact h

theorem near_zero (Q : Int) (hQ : 0 < Q) : Near 0 Q false 0 := by
  refine ⟨⟨by omega, by omega⟩, fun h => absurd h (by omega), fun _ => .inl ?_⟩
  rw [md_zero, Int.one_mul]; exact hQ

/-- A quotient cut at 128 bits and marked is rounded as the fraction. -/
theorem div_near {a b x : Int} (fa : fin a) (fb : fin b) (hb : ab b ≠ 0) (hR : Rnd (dm a * 2 ^ 128 / dm b) 1 (de a - 128 - de b) (decide (dm a * 2 ^ 128 % dm b ≠ 0)) x) : Near (2 * (un (ab a) * 2 ^ 1074)) (un (ab b)) false x := by
  obtain ⟨⟨da0, da1⟩, ⟨ea0, ea1⟩, ga, za⟩ := dec_f a fa
  obtain ⟨⟨db0, db1⟩, ⟨eb0, eb1⟩, gb, zb⟩ := dec_f b fb
  have bp := un_pos (x := ab b) (by have := (ab_bd b).1; omega)
  have dp : 0 < dm b := by omega
  rcases (show dm a = 0 ∨ 0 < dm a by omega) with h | h
  · rw [h, Int.zero_mul, Int.zero_ediv, Int.zero_emod] at hR
    have : x = 0 := hR.one (by omega) (by omega) (rnd_zero 1 (de a - 128 - de b) _ (by omega)) (a := 0) (a' := 0) (by omega) rfl
    subst this
    rw [za.1 h, un_zero, Int.zero_mul]
    exact near_zero _ bp
  · have hq : 18014398509481984 ≤ dm a * 2 ^ 128 / dm b := by
      rw [Int.le_ediv_iff_mul_le dp]
      have h1 : 1 * 2 ^ 128 ≤ dm a * 2 ^ 128 := Int.mul_le_mul_of_nonneg_right (by omega) (by have := Nm.two_pos 128; omega)
      have h2 : (2 : Int) ^ 128 = 340282366920938463463374607431768211456 := by decide
      omega
    have hF := rnd_floor (dm a * 2 ^ 128) (dm b) _ x dp hq hR
    obtain ⟨ka, hka⟩ : ∃ k : Nat, (k : Int) = de a + 1074 := ⟨(de a + 1074).toNat, by omega⟩
    obtain ⟨kb, hkb⟩ : ∃ k : Nat, (k : Int) = de b + 1074 := ⟨(de b + 1074).toNat, by omega⟩
    have hN := hF (ka + 947) kb (by omega)
    rw [gb kb hkb] at hN
    have e : dm a * 2 ^ 128 * 2 ^ (ka + 947) = 2 * (un (ab a) * 2 ^ 1074) := by
      have l : dm a * 2 ^ 128 * 2 ^ (ka + 947) = dm a * 2 ^ (ka + 1075) := by rw [Int.mul_assoc, ← Nm.two_add, show 128 + (ka + 947) = ka + 1075 by omega]
      have r : dm a * 2 ^ (ka + 1075) = 2 * (dm a * 2 ^ ka * 2 ^ 1074) := by
        rw [show ka + 1075 = (ka + 1074) + 1 by omega, Nm.two_succ, Nm.two_add]
        generalize (2 : Int) ^ 1074 = P
        generalize (2 : Int) ^ ka = R
        ac_rfl
      rw [l, r, ga ka hka]
    rw [e] at hN
    exact hN

theorem DivIs.rs {a b r f : Int} (fa : fin a) (fb : fin b) (hb : ab b ≠ 0) (h : DivIs a b r f) : RS (sn (ngd a != ngd b) (un (ab a) * 2 ^ 1074)) (un (ab b)) (ngd a != ngd b) r := by
  obtain ⟨x, t, L, rfl, -, hR, -, -⟩ := h.get fa fb hb
  exact ⟨_, _, x, rfl, rfl, Int.mul_nonneg (un_nn (ab_bd a).1) (by have := Nm.two_pos 1074; omega), div_near fa fb hb hR, fun _ => rfl⟩

end Ie
end Go.Proofs.YtljpmddjcfkonaaGreatDoor

/-
  Closed products, quotients (of XSpec2).
-/
namespace Go.Proofs.YtljpmddjcfkonaaGreatDoor
namespace Ie

theorem un_32 : un 4613937818241073152 * un 4611686018427387904 = un 4618441417868443648 * 2 ^ 1074 := by
  rw [un_3, un_2, un_6]
  have e1 : (2 : Int) ^ 1074 = 4503599627370496 * 2 ^ 1022 := by rw [show 1074 = 52 + 1022 by rfl, Nm.two_add]; rfl
  have e2 : (2 : Int) ^ 1024 = 2 * 2 ^ 1023 := Nm.two_succ 1023
  have e3 : (2 : Int) ^ 1023 = 2 * 2 ^ 1022 := Nm.two_succ 1022
  rw [e1, e2, e3]
  generalize (2 : Int) ^ 1022 = P
  ac_rfl

theorem mul_32 {r f : Int} (h : MulIs 4613937818241073152 4611686018427387904 r f) : r = 4618441417868443648 := by
  refine (h.rs (by rw [fin]; decide) (by rw [fin]; decide)).lit (Nm.two_pos _) _ (by omega) (by omega) ?_
  rw [uv_pos (by omega) (by omega), uv_pos (by omega) (by omega), un_32]

theorem div_62 {r f : Int} (h : DivIs 4618441417868443648 4611686018427387904 r f) : r = 4613937818241073152 := by
  have h1 := h.rs (by rw [fin]; decide) (by rw [fin]; decide) (by decide)
  have e1 : ab 4611686018427387904 = 4611686018427387904 := by decide
  have e2 : ab 4618441417868443648 = 4618441417868443648 := by decide
  have e3 : (ngd 4618441417868443648 != ngd 4611686018427387904) = false := by decide
  rw [e1, e2, e3] at h1
  refine h1.lit (un_pos (by omega)) _ (by omega) (by omega) ?_
  rw [sn_false, un_32]
end Ie
end Go.Proofs.YtljpmddjcfkonaaGreatDoor

/-
  Closed sums, products, quotients.
-/
namespace Go.Proofs.YtljpmddjcfkonaaGreatDoor
namespace Ie


theorem un_63 : un 4618441417868443648 + un 4613937818241073152 = un 4621256167635550208 := by
  rw [un_3, un_6, un_9, p1022.1, p1022.2.1, p1022.2.2]
  generalize (2 : Int) ^ 1022 = P
  omega

theorem fma_233 {r f : Int} (h : FmaIs 4611686018427387904 4613937818241073152 4613937818241073152 r f) : r = 4621256167635550208 := by
  refine (h.rs (by rw [fin]; decide) (by rw [fin]; decide) (by rw [fin]; decide)).lit (Nm.two_pos _) _ (by omega) (by omega) ?_
  rw [uv_pos (by omega) (by omega), uv_pos (by omega) (by omega), Int.mul_comm (un 4611686018427387904), un_32, ← Int.add_mul, un_63]

end Ie
end Go.Proofs.YtljpmddjcfkonaaGreatDoor

/-
  The flags of mul, fma, div on finite operands: exact in whole numbers.
-/
namespace Go.Proofs.YtljpmddjcfkonaaGreatDoor
open Go Go.RowKit Go.Deep

namespace Ie
theorem MulIs.flags {a b r f : Int} (fa : fin a) (fb : fin b) (h : MulIs a b r f) : FlagsIs r f (ab r < 9218868437227405312 ∧ uv a * uv b = uv r * 2 ^ 1074) := by
  have hR := h.get fa fb
  obtain ⟨⟨da0, _⟩, ⟨ea0, ea1⟩, _, _⟩ := dec_f a fa
  obtain ⟨⟨db0, _⟩, ⟨eb0, eb1⟩, _, _⟩ := dec_f b fb
  obtain ⟨c, hc⟩ : ∃ k : Nat, (k : Int) = de a + de b + 2148 := ⟨(de a + de b + 2148).toNat, by omega⟩
  exact hR.flags_of (Int.mul_nonneg da0 db0) c 1074 (by omega) (by rw [prod_at fa fb c hc]; exact (uv_mul a b).symm)

theorem FmaIs.flags {a b c r f : Int} (fa : fin a) (fb : fin b) (fc : fin c) (h : FmaIs a b c r f) : FlagsIs r f (ab r < 9218868437227405312 ∧ uv a * uv b + uv c * 2 ^ 1074 = uv r * 2 ^ 1074) := by
  obtain ⟨neg, V, e, hS, hR⟩ := h.get fa fb fc
  obtain ⟨_, ⟨ea0, ea1⟩, _, _⟩ := dec_f a fa
  obtain ⟨_, ⟨eb0, eb1⟩, _, _⟩ := dec_f b fb
  obtain ⟨_, ⟨ec0, ec1⟩, gc, _⟩ := dec_f c fc
  have g2 : ∀ k : Nat, (k : Int) = de c + (2148 : Nat) → dm c * 2 ^ k = un (ab c) * 2 ^ 1074 := by
    intro k hk
    obtain ⟨kc, hkc⟩ : ∃ k : Nat, (k : Int) = de c + 1074 := ⟨(de c + 1074).toNat, by omega⟩
    rw [← gc kc hkc, show k = kc + 1074 by omega, Nm.two_add, Int.mul_assoc]
  obtain ⟨c', hc, key, h0⟩ := hS.at 2148 (by omega) (by omega) (fun k hk => prod_at fa fb k (by omega)) g2
  rw [← uv_mul, ← sn_mul_right (ngd c)] at key
  exact hR.flags_of hS.2.2.1.1 c' 1074 (by omega) key

/-- A quotient is exact where the division leaves no rest and the quotient is a double. -/
theorem div_exact {A B x : Int} {ka kb : Nat} (a0 : 0 ≤ A) (b0 : 0 < B) (b1 : B < 9007199254740992) (x0 : 0 ≤ x) :
    (A * 2 ^ 128 % B = 0 ∧ A * 2 ^ 128 / B * 2 ^ (ka + 1074) = un x * 2 ^ (kb + 128)) ↔ A * 2 ^ ka * 2 ^ 1074 = B * 2 ^ kb * un x := by
  have p128 := Nm.two_pos 128
  have mb := man_nn x x0
  constructor
  · rintro ⟨h1, h2⟩
    obtain ⟨q, hq⟩ : ∃ q, A * 2 ^ 128 = B * q := ⟨A * 2 ^ 128 / B, (Int.mul_ediv_cancel' (Int.dvd_of_emod_eq_zero h1)).symm⟩
    rw [hq, Int.mul_ediv_cancel_left q (by omega)] at h2
    have e1 : A * 2 ^ ka * 2 ^ 1074 * 2 ^ 128 = B * 2 ^ kb * un x * 2 ^ 128 := by
      have l : A * 2 ^ ka * 2 ^ 1074 * 2 ^ 128 = A * 2 ^ 128 * 2 ^ (ka + 1074) := by
        rw [Nm.two_add ka 1074]
        generalize (2 : Int) ^ 1074 = P
        generalize (2 : Int) ^ 128 = R
        ac_rfl
      have r : B * 2 ^ kb * un x * 2 ^ 128 = B * (un x * 2 ^ (kb + 128)) := by
        rw [Nm.two_add kb 128]
        generalize (2 : Int) ^ 128 = R
        ac_rfl
      rw [l, r, hq, ← h2, Int.mul_assoc]
    exact Int.eq_of_mul_eq_mul_right (by omega) e1
  · intro h
    have hd : A * 2 ^ 128 % B = 0 := by
      rcases (show A = 0 ∨ 0 < A by omega) with hA | hA
      · rw [hA, Int.zero_mul, Int.zero_emod]
      have e : A * 2 ^ (ka + 1074) = B * man x * 2 ^ (kb + ex x) := by
        rw [Nm.two_add ka 1074, ← Int.mul_assoc, h, un, Nm.two_add kb]
        ac_rfl
      rcases (show ka + 1074 ≤ kb + ex x + 128 ∨ kb + ex x + 128 < ka + 1074 by omega) with k | k
      · obtain ⟨j, hj⟩ : ∃ j, kb + ex x + 128 = ka + 1074 + j := ⟨kb + ex x + 128 - (ka + 1074), by omega⟩
        have e2 : A * 2 ^ 128 * 2 ^ (ka + 1074) = B * (man x * 2 ^ j) * 2 ^ (ka + 1074) := by
          have l : A * 2 ^ 128 * 2 ^ (ka + 1074) = A * 2 ^ (ka + 1074) * 2 ^ 128 := by
            generalize (2 : Int) ^ 128 = R
            generalize (2 : Int) ^ (ka + 1074) = P
            ac_rfl
          have r : B * man x * 2 ^ (kb + ex x) * 2 ^ 128 = B * (man x * 2 ^ j) * 2 ^ (ka + 1074) := by
            rw [Int.mul_assoc, ← Nm.two_add, hj, Nm.two_add]
            generalize (2 : Int) ^ (ka + 1074) = P
            ac_rfl
          rw [l, e, r]
        have e3 := Int.eq_of_mul_eq_mul_right (by have := Nm.two_pos (ka + 1074); omega) e2
        rw [e3, Int.mul_emod_right]
      · exfalso
        obtain ⟨j, hj⟩ : ∃ j, ka + 1074 = kb + ex x + (128 + j) := ⟨ka + 1074 - (kb + ex x + 128), by omega⟩
        have e3 : A * 2 ^ (128 + j) = B * man x := by
          have e4 : 2 ^ (kb + ex x) * (A * 2 ^ (128 + j)) = 2 ^ (kb + ex x) * (B * man x) := by
            rw [Int.mul_comm _ (B * man x), ← e, hj, Nm.two_add (kb + ex x) (128 + j)]
            generalize (2 : Int) ^ (128 + j) = P
            generalize (2 : Int) ^ (kb + ex x) = R
            ac_rfl
          exact Int.eq_of_mul_eq_mul_left (by have := Nm.two_pos (kb + ex x); omega) e4
        have g1 : 1 * 2 ^ (128 + j) ≤ A * 2 ^ (128 + j) := Int.mul_le_mul_of_nonneg_right (by omega) (Int.le_of_lt (Nm.two_pos _))
        have g2 := Nm.two_mono (show 128 ≤ 128 + j by omega)
        have g3 : B * man x ≤ 9007199254740992 * 9007199254740992 := Int.mul_le_mul (by omega) (by omega) mb.1 (by omega)
        have g4 : (2 : Int) ^ 128 = 340282366920938463463374607431768211456 := by decide
        omega
    refine ⟨hd, ?_⟩
    obtain ⟨q, hq⟩ : ∃ q, A * 2 ^ 128 = B * q := ⟨A * 2 ^ 128 / B, (Int.mul_ediv_cancel' (Int.dvd_of_emod_eq_zero hd)).symm⟩
    rw [hq, Int.mul_ediv_cancel_left q (by omega)]
    have e1 : B * (q * 2 ^ (ka + 1074)) = B * (un x * 2 ^ (kb + 128)) := by
      have l : B * (q * 2 ^ (ka + 1074)) = A * 2 ^ ka * 2 ^ 1074 * 2 ^ 128 := by
        rw [← Int.mul_assoc, ← hq, Nm.two_add ka 1074]
        generalize (2 : Int) ^ 1074 = P
        generalize (2 : Int) ^ 128 = R
        ac_rfl
      have r : B * 2 ^ kb * un x * 2 ^ 128 = B * (un x * 2 ^ (kb + 128)) := by
        rw [Nm.two_add kb 128]
        generalize (2 : Int) ^ 128 = R
        ac_rfl
      rw [l, h, r]
    exact Int.eq_of_mul_eq_mul_left (by omega) e1

theorem DivIs.flags {a b r f : Int} (fa : fin a) (fb : fin b) (hb : ab b ≠ 0) (h : DivIs a b r f) : FlagsIs r f (ab r < 9218868437227405312 ∧ uv a * 2 ^ 1074 = uv b * uv r) := by
  have hR := h.get fa fb hb
  obtain ⟨⟨da0, da1⟩, ⟨ea0, ea1⟩, ga, za⟩ := dec_f a fa
  obtain ⟨⟨db0, db1⟩, ⟨eb0, eb1⟩, gb, zb⟩ := dec_f b fb
  have dp : 0 < dm b := by omega
  obtain ⟨ka, hka⟩ : ∃ k : Nat, (k : Int) = de a + 1074 := ⟨(de a + 1074).toNat, by omega⟩
  obtain ⟨kb, hkb⟩ : ∃ k : Nat, (k : Int) = de b + 1074 := ⟨(de b + 1074).toNat, by omega⟩
  have v0 : 0 ≤ dm a * 2 ^ 128 / dm b := Int.ediv_nonneg (Int.mul_nonneg da0 (Int.le_of_lt (Nm.two_pos 128))) db0
  have hx := (ab_bd r).1
  have D := div_exact (ka := ka) (kb := kb) da0 dp db1 hx
  rw [ga ka hka, gb kb hkb] at D
  have hm : dm a * 2 ^ 128 / dm b = 0 → decide (dm a * 2 ^ 128 % dm b ≠ 0) = false := by
    intro h0
    rcases (show dm a = 0 ∨ 0 < dm a by omega) with g | g
    · rw [g, Int.zero_mul, Int.zero_emod]; rfl
    · exfalso
      have hq : 18014398509481984 ≤ dm a * 2 ^ 128 / dm b := by
        rw [Int.le_ediv_iff_mul_le dp]
        have h1 : 1 * 2 ^ 128 ≤ dm a * 2 ^ 128 := Int.mul_le_mul_of_nonneg_right (by omega) (by have := Nm.two_pos 128; omega)
        have h2 : (2 : Int) ^ 128 = 340282366920938463463374607431768211456 := by decide
        omega
      omega
  refine (hR.flags v0 hm).iff ?_
  have hS : uv a * 2 ^ 1074 = uv b * uv r ↔ un (ab a) * 2 ^ 1074 = un (ab b) * un (ab r) := by
    rw [hR.uvr, uv, uv, sn_mul_right, sn_mul]
    cases ngd a <;> cases ngd b <;> exact sn_inj _ _ _
  rw [hS, ← D]
  by_cases hd : dm a * 2 ^ 128 % dm b = 0
  · rw [decide_eq_false (by omega), exa_iff (c := ka + 1074) (q := kb + 128) (by omega)]
    exact ⟨fun ⟨g1, g2⟩ => ⟨g1, hd, g2⟩, fun ⟨g1, _, g2⟩ => ⟨g1, g2⟩⟩
  · exact ⟨fun g => absurd g.1 (by rw [decide_eq_true hd]; decide), fun g => absurd g.2.1 hd⟩
end Ie
end Go.Proofs.YtljpmddjcfkonaaGreatDoor

/-
  A root is exact where the square leaves no rest and the root is a double.
-/
namespace Go.Proofs.YtljpmddjcfkonaaGreatDoor
open Go Go.RowKit Go.Deep

namespace Ie
theorem sqle {a b : Int} (h0 : 0 ≤ a) (h : a ≤ b) : a * a ≤ b * b := Int.mul_le_mul h h h0 (by omega)

theorem root_exact {A R x : Int} {d ka p : Nat} (a0 : 0 < A) (hd : 128 ≤ d) (r0 : 0 ≤ R) (r1 : R * R ≤ A * 2 ^ d) (r2 : A * 2 ^ d < (R + 1) * (R + 1)) (hp : d + 2 * p = ka + 1074) (x0 : 0 ≤ x) :
    (R * R = A * 2 ^ d ∧ R * 2 ^ p = un x) ↔ A * 2 ^ ka * 2 ^ 1074 = un x * un x := by
  have mb := man_nn x x0
  have pp := Nm.two_pos p
  have e0 : A * 2 ^ ka * 2 ^ 1074 = A * 2 ^ d * (2 ^ p * 2 ^ p) := by
    rw [Int.mul_assoc, ← Nm.two_add, ← hp, ← Nm.two_add, Int.mul_assoc, ← Nm.two_add, show d + 2 * p = d + (p + p) by omega]
  rw [e0]
  constructor
  · rintro ⟨h1, h2⟩
    rw [← h1, ← h2]
    ac_rfl
  · intro h
    rcases (show p ≤ ex x ∨ ex x < p by omega) with k | k
    · obtain ⟨j, hj⟩ : ∃ j, ex x = p + j := ⟨ex x - p, by omega⟩
      have hu : un x = man x * 2 ^ j * 2 ^ p := by rw [un, hj, Nm.two_add]; ac_rfl
      generalize hy : man x * 2 ^ j = y at hu
      have y0 : 0 ≤ y := by rw [← hy]; exact Int.mul_nonneg mb.1 (Int.le_of_lt (Nm.two_pos j))
      have hN : A * 2 ^ d = y * y := by
        rw [hu] at h
        have : A * 2 ^ d * (2 ^ p * 2 ^ p) = y * y * (2 ^ p * 2 ^ p) := by rw [h]; ac_rfl
        exact Int.eq_of_mul_eq_mul_right (by have := Int.mul_pos pp pp; omega) this
      rw [hN] at r1 r2 ⊢
      have hR : R = y := by
        rcases (show y + 1 ≤ R ∨ R = y ∨ R + 1 ≤ y by omega) with g | g | g
        · have := sqle (by omega) g
          have e : (y + 1) * (y + 1) = y * y + 2 * y + 1 := by rw [Int.mul_add, Int.add_mul]; omega
          omega
        · exact g
        · have := sqle (by omega) g
          omega
      exact ⟨by rw [hR], by rw [hR, hu]⟩
    · exfalso
      obtain ⟨j, hj⟩ : ∃ j, p = ex x + j := ⟨p - ex x, by omega⟩
      have hN : A * 2 ^ d * (2 ^ j * 2 ^ j) = man x * man x := by
        rw [un, hj, Nm.two_add] at h
        have : A * 2 ^ d * (2 ^ j * 2 ^ j) * (2 ^ ex x * 2 ^ ex x) = man x * man x * (2 ^ ex x * 2 ^ ex x) := by
          have l : A * 2 ^ d * (2 ^ j * 2 ^ j) * (2 ^ ex x * 2 ^ ex x) = A * 2 ^ d * (2 ^ ex x * 2 ^ j * (2 ^ ex x * 2 ^ j)) := by ac_rfl
          rw [l, h]
          ac_rfl
        exact Int.eq_of_mul_eq_mul_right (by have := Int.mul_pos (Nm.two_pos (ex x)) (Nm.two_pos (ex x)); omega) this
      have g1 : 1 * 2 ^ d ≤ A * 2 ^ d := Int.mul_le_mul_of_nonneg_right (by omega) (Int.le_of_lt (Nm.two_pos _))
      have g2 := Nm.two_mono hd
      have g3 : man x * man x ≤ 9007199254740992 * 9007199254740992 := Int.mul_le_mul (by omega) (by omega) mb.1 (by omega)
      have g4 : (2 : Int) ^ 128 = 340282366920938463463374607431768211456 := by decide
      have g5 : A * 2 ^ d * 1 ≤ A * 2 ^ d * (2 ^ j * 2 ^ j) := Int.mul_le_mul_of_nonneg_left (by have := Int.mul_pos (Nm.two_pos j) (Nm.two_pos j); omega) (by omega)
      omega
end Ie
end Go.Proofs.YtljpmddjcfkonaaGreatDoor
