import Derived.Test.YtjebdobopechfabDoorXPlus
import Derived.Test.YtjebdobopechfabDoorXRounded
/-
  soft: add, sub, Add, Sub (made by mkops.py).
-/
namespace Go.Proofs.YtjebdobopechfabDoor
open Go Go.RowKit Go.Deep

theorem Ans.len0 {B : Nat} {w : World} {p : Option Addr} {ys : List Int} {n : Int} (h : Ans B w p ys n) : ys.length = 0 ↔ n = 0 := by
  have h1 := Nm.tsize_zero_iff h.2.1
  rw [h.2.2.1, h.2.2.2.1] at h1
  exact h1

namespace Ie
/-- What a rounded result is: the double r, the flags f, of sn neg V * 2^e (or a trifle above). -/
def Res (neg : Bool) (V e : Int) (more : Bool) (r f : Int) : Prop :=
  ∃ (x : Int) (t L : Nat), r = sg neg x ∧ f = flg V e more (sg neg x) t L ∧ Rnd V 1 e more x ∧ Nm.Trl V t ∧ Nm.BLen V L

/-- What add answers. -/
def AddIs (a b r f : Int) : Prop :=
  if isn a = true ∨ isn b = true then r = 9221120237041090560 ∧ f = 0
  else if isi a = true ∧ isi b = true ∧ a ≠ b then r = 9221120237041090560 ∧ f = 1
  else if isi a = true then r = a ∧ f = 0
  else if isi b = true then r = b ∧ f = 0
  else ∃ neg V e, SumIs (ngd a) (dm a) (de a) (ngd b) (dm b) (de b) neg V e ∧ Res neg V e false r f

theorem fin_of {d : Int} (h0 : isn d = false) (h1 : isi d = false) : fin d := by
  rw [isn, decide_eq_false_iff_not] at h0
  rw [isi, decide_eq_false_iff_not] at h1
  rw [fin]; omega
theorem not_both {d : Int} (h : isi d = true) : isn d = false := by
  rw [isi, decide_eq_true_eq] at h
  rw [isn, h]; rfl
end Ie

/-- An answer and its flags, told. -/
def Told2 (P : Int → Int → Prop) (w : World) (e : Ending) (w' : World) : Prop := ∃ r f, e = .returned (.tuple #[.int .u64 r, .int .i64 f]) ∧ P r f ∧ Below w.heap.size w w'

set_option maxRecDepth 100000 in
set_option maxHeartbeats 4000000 in
theorem add_fin (a b : Int) (w : World) (a0 : 0 ≤ a) (a1 : a < 18446744073709551616) (b0 : 0 ≤ b) (b1 : b < 18446744073709551616) (hT : Tab w) (na : Ie.isn a = false) (ia : Ie.isi a = false) (nb : Ie.isn b = false) (ib : Ie.isi b = false) :
    Calls Tryd.prog 45 #[.int .u64 a, .int .u64 b] w fun e w' => Told2 (Ie.AddIs a b) w e w' := by
  have fa := Ie.fin_of na ia
  have fb := Ie.fin_of nb ib
  have FI : Hid (∀ (neg : Bool) (V e r f : Int), Ie.SumIs (Ie.ngd a) (Ie.dm a) (Ie.de a) (Ie.ngd b) (Ie.dm b) (Ie.de b) neg V e → Ie.Res neg V e false r f → Ie.AddIs a b r f) := by
    intro neg V e r f h1 h2
    rw [Ie.AddIs, na, nb, ia, ib]
    simp only [Bool.false_eq_true, or_self, false_and, if_false]
    exact ⟨neg, V, e, h1, h2⟩
  have NA := hid (fun (wx : World) => nan_any a wx a0 a1)
  rw [na] at NA
  have NB := hid (fun (wx : World) => nan_any b wx b0 b1)
  rw [nb] at NB
  have IA := hid (fun (wx : World) => infinite_any a wx a0 a1)
  rw [ia] at IA
  have IB := hid (fun (wx : World) => infinite_any b wx b0 b1)
  rw [ib] at IB
  obtain ⟨⟨da0, da1⟩, ⟨ea0, ea1⟩, -, -⟩ := Ie.dec_f a fa
  obtain ⟨⟨db0, db1⟩, ⟨eb0, eb1⟩, -, -⟩ := Ie.dec_f b fb
  have e60 : (2 : Int) ^ 60 = 1152921504606846976 := by decide
  have da2 : Ie.dm a < 2 ^ 60 := by omega
  have db2 : Ie.dm b < 2 ^ 60 := by omega
  have UA := hid (fun (wx : World) => number_any a wx a0 a1 fa)
  have UB := hid (fun (wx : World) => number_any b wx b0 b1 fb)
  have e200 := Nm.two_mono (show 60 ≤ 200 by omega)
  have HT := hid hT
  clear fa fb na nb ia ib hT
  have RU : Hid (∀ (w2 : World) (pa pb : Option Addr) (oa ob : List Int) (B B' : Nat), Below w.heap.size w w2 → Ans B w2 pa oa (Ie.dm a) → Ans B' w2 pb ob (Ie.dm b) → Calls Tryd.prog 65 #[exactOf (Ie.ngd a) pa oa.length oa.length (Ie.de a) false, exactOf (Ie.ngd b) pb ob.length ob.length (Ie.de b) false] w2 fun e w' => PlusTold (Ie.ngd a) (Ie.dm a) (Ie.de a) (Ie.ngd b) (Ie.dm b) (Ie.de b) w2 e w') := by
    intro w2 pa pb oa ob B B' hB A1 A2
    exact plus_any _ _ _ _ _ _ _ _ _ _ oa ob _ _ _ _ w2 (A1.arg (by have := A1.tl da2 (show 60 ≤ 262144 by omega); omega)) (A2.arg (by have := A2.tl db2 (show 60 ≤ 262144 by omega); omega)) A1.2.2.2.1 A2.2.2.2.1 (by omega) (by omega) (by omega) (by omega) (by omega) (by omega)
  have RO : Hid (∀ (w3 : World) (neg : Bool) (p : Option Addr) (os : List Int) (V e : Int) (B : Nat), Below w.heap.size w w3 → Ans B w3 p os V → Ie.SumIs (Ie.ngd a) (Ie.dm a) (Ie.de a) (Ie.ngd b) (Ie.dm b) (Ie.de b) neg V e → Calls Tryd.prog 58 #[exactOf neg p os.length os.length e false] w3 fun r w' => RoundedTold neg V e false w3 r w') := by
    intro w3 neg p os V e B hB A hS
    have vb := hS.2.2.1.2
    have eb : -10000 ≤ e ∧ e ≤ 10000 := by rcases hS.1 with h | ⟨_, h⟩ <;> omega
    exact rounded_any neg false p _ _ os e V w3 (A.arg (by have := A.tl vb (show 5000 ≤ 262144 by omega); omega)) (HT.out.below hB) A.2.2.2.1 A.len0 vb eb.1 eb.2
  clear da0 da1 ea0 ea1 db0 db1 eb0 eb1 e60 da2 db2 e200 HT
  go_enter Tryd.func45, Tryd.ntmps45
  go_wp2_with fail
  refine (NA.out _).mono ?_
  rintro e wz ⟨rfl, hz⟩
  replace hz := hz.symm
  subst hz
  go_wp2_with fail
  refine (NB.out _).mono ?_
  rintro e wz ⟨rfl, hz⟩
  replace hz := hz.symm
  subst hz
  go_wp2_with fail
  refine (IA.out _).mono ?_
  rintro e wz ⟨rfl, hz⟩
  replace hz := hz.symm
  subst hz
  go_wp2_with fail
  refine (IA.out _).mono ?_
  rintro e wz ⟨rfl, hz⟩
  replace hz := hz.symm
  subst hz
  go_wp2_with fail
  refine (IB.out _).mono ?_
  rintro e wz ⟨rfl, hz⟩
  replace hz := hz.symm
  subst hz
  go_wp2_with fail
  refine (UA.out _).mono ?_
  rintro e w1 ⟨pa, oa, rfl, A1, hB1⟩
  have H1 := hid (And.intro A1 hB1)
  clear A1 hB1
  simp only [exactOf]
  go_wp2_with fail
  refine (UB.out _).mono ?_
  rintro e w2 ⟨pb, ob, rfl, A2, hB2⟩
  have A1 := H1.out.1.below hB2 (Nat.le_refl _)
  have Bw := H1.out.2.trans (hB2.mono H1.out.2.size)
  have PL := hid (RU.out w2 pa pb oa ob _ _ Bw A1 A2)
  have HB := hid Bw
  simp only [exactOf] at PL ⊢
  clear A1 A2 hB2 Bw H1 RU
  go_wp2_with fail
  refine PL.out.mono ?_
  rintro e w3 ⟨neg, p, os, V, x, rfl, A3, hB3, hS⟩
  have Bw := HB.out.trans (hB3.mono HB.out.size)
  have RR := hid (RO.out w3 neg p os V x _ Bw A3 hS)
  have HS := hid hS
  have HC := hid Bw
  simp only [exactOf] at RR ⊢
  clear A3 hB3 hS Bw RO PL HB
  go_wp2_with fail
  refine RR.out.mono ?_
  rintro e w4 ⟨d, t, L, rfl, h1, h2, h3, hB4⟩
  have KK : Hid (Told2 (Ie.AddIs a b) w (.returned (.tuple #[.int .u64 (Ie.sg neg d), .int .i64 (Ie.flg V x false (Ie.sg neg d) t L)])) w4) :=
    ⟨_, _, rfl, FI.out neg V x _ _ HS.out ⟨d, t, L, rfl, rfl, h1, h2, h3⟩, HC.out.trans (hB4.mono HC.out.size)⟩
  clear h1 h2 h3 hB4 HS HC RR FI
  go_wp2_with fail
  go_ret2
  exact KK.out

set_option maxRecDepth 100000 in
set_option maxHeartbeats 4000000 in
theorem add_any (a b : Int) (w : World) (a0 : 0 ≤ a) (a1 : a < 18446744073709551616) (b0 : 0 ≤ b) (b1 : b < 18446744073709551616) (hT : Tab w) :
    Calls Tryd.prog 45 #[.int .u64 a, .int .u64 b] w fun e w' => Told2 (Ie.AddIs a b) w e w' := by
  have NA := hid (fun (wx : World) => nan_any a wx a0 a1)
  have NB := hid (fun (wx : World) => nan_any b wx b0 b1)
  have IA := hid (fun (wx : World) => infinite_any a wx a0 a1)
  have IB := hid (fun (wx : World) => infinite_any b wx b0 b1)
  have KK : Hid (∀ (e : Ending) (r f : Int), e = .returned (.tuple #[.int .u64 r, .int .i64 f]) → Ie.AddIs a b r f → Told2 (Ie.AddIs a b) w e w) := fun e r f h1 h2 => ⟨r, f, h1, h2, Below.refl _ _⟩
  cases na : Ie.isn a
  · cases nb : Ie.isn b
    · cases ia : Ie.isi a
      · cases ib : Ie.isi b
        · exact add_fin a b w a0 a1 b0 b1 hT na ia nb ib
        · have SP : Hid (Ie.AddIs a b b 0) := by rw [Hid, Ie.AddIs, na, nb, ia, ib]; simp
          rw [na] at NA
          rw [nb] at NB
          rw [ia] at IA
          rw [ib] at IB
          clear na nb ia ib hT
          go_enter Tryd.func45, Tryd.ntmps45
          go_wp2_with fail
          refine (NA.out _).mono ?_
          rintro e wz ⟨rfl, rfl⟩
          go_wp2_with fail
          refine (NB.out _).mono ?_
          rintro e wz ⟨rfl, rfl⟩
          go_wp2_with fail
          refine (IA.out _).mono ?_
          rintro e wz ⟨rfl, rfl⟩
          go_wp2_with fail
          refine (IA.out _).mono ?_
          rintro e wz ⟨rfl, rfl⟩
          go_wp2_with fail
          refine (IB.out _).mono ?_
          rintro e wz ⟨rfl, rfl⟩
          go_wp2_with fail
          go_ret2
          exact KK.out _ _ _ rfl SP.out
      · cases ib : Ie.isi b
        · have SP : Hid (Ie.AddIs a b a 0) := by rw [Hid, Ie.AddIs, na, nb, ia, ib]; simp
          rw [na] at NA
          rw [nb] at NB
          rw [ia] at IA
          rw [ib] at IB
          clear na nb ia ib hT
          go_enter Tryd.func45, Tryd.ntmps45
          go_wp2_with fail
          refine (NA.out _).mono ?_
          rintro e wz ⟨rfl, rfl⟩
          go_wp2_with fail
          refine (NB.out _).mono ?_
          rintro e wz ⟨rfl, rfl⟩
          go_wp2_with fail
          refine (IA.out _).mono ?_
          rintro e wz ⟨rfl, rfl⟩
          go_wp2_with fail
          refine (IB.out _).mono ?_
          rintro e wz ⟨rfl, rfl⟩
          go_wp2_with fail
          refine (IA.out _).mono ?_
          rintro e wz ⟨rfl, rfl⟩
          go_wp2_with fail
          go_ret2
          exact KK.out _ _ _ rfl SP.out
        · rw [na] at NA
          rw [nb] at NB
          rw [ia] at IA
          rw [ib] at IB
          by_cases hab : a = b
          · have SP : Hid (Ie.AddIs a b a 0) := by rw [Hid, Ie.AddIs, na, nb, ia, ib]; simp [hab]
            subst hab
            clear na nb ia ib hT
            go_enter Tryd.func45, Tryd.ntmps45
            go_wp2_with fail
            refine (NA.out _).mono ?_
            rintro e wz ⟨rfl, rfl⟩
            go_wp2_with fail
            refine (NB.out _).mono ?_
            rintro e wz ⟨rfl, rfl⟩
            go_wp2_with fail
            refine (IA.out _).mono ?_
            rintro e wz ⟨rfl, rfl⟩
            go_wp2_with fail
            refine (IB.out _).mono ?_
            rintro e wz ⟨rfl, rfl⟩
            go_wp2_with fail
            refine (IA.out _).mono ?_
            rintro e wz ⟨rfl, rfl⟩
            go_wp2_with fail
            go_ret2
            exact KK.out _ _ _ rfl SP.out
          · have SP : Hid (Ie.AddIs a b 9221120237041090560 1) := by rw [Hid, Ie.AddIs, na, nb, ia, ib]; simp [hab]
            have hab' : (a == b) = false := by rw [beq_eq_false_iff_ne]; exact hab
            clear na nb ia ib hT
            go_enter Tryd.func45, Tryd.ntmps45
            go_wp2_with fail
            refine (NA.out _).mono ?_
            rintro e wz ⟨rfl, rfl⟩
            go_wp2_with fail
            refine (NB.out _).mono ?_
            rintro e wz ⟨rfl, rfl⟩
            go_wp2_with fail
            refine (IA.out _).mono ?_
            rintro e wz ⟨rfl, rfl⟩
            go_wp2_with fail
            refine (IB.out _).mono ?_
            rintro e wz ⟨rfl, rfl⟩
            go_wp2_with fail
            go_ret2
            exact KK.out _ _ _ rfl SP.out
    · have SP : Hid (Ie.AddIs a b 9221120237041090560 0) := by rw [Hid, Ie.AddIs, na, nb]; simp
      rw [na] at NA
      rw [nb] at NB
      clear na nb hT
      go_enter Tryd.func45, Tryd.ntmps45
      go_wp2_with fail
      refine (NA.out _).mono ?_
      rintro e wz ⟨rfl, rfl⟩
      go_wp2_with fail
      refine (NB.out _).mono ?_
      rintro e wz ⟨rfl, rfl⟩
      go_wp2_with fail
      go_ret2
      exact KK.out _ _ _ rfl SP.out
  · have SP : Hid (Ie.AddIs a b 9221120237041090560 0) := by rw [Hid, Ie.AddIs, na]; simp
    rw [na] at NA
    clear na hT
    go_enter Tryd.func45, Tryd.ntmps45
    go_wp2_with fail
    refine (NA.out _).mono ?_
    rintro e wz ⟨rfl, rfl⟩
    go_wp2_with fail
    go_ret2
    exact KK.out _ _ _ rfl SP.out

set_option maxRecDepth 100000 in
set_option maxHeartbeats 4000000 in
theorem sub_any (a b : Int) (w : World) (a0 : 0 ≤ a) (a1 : a < 18446744073709551616) (b0 : 0 ≤ b) (b1 : b < 18446744073709551616) (hT : Tab w) :
    Calls Tryd.prog 43 #[.int .u64 a, .int .u64 b] w fun e w' => Told2 (Ie.AddIs a (Ie.ng b)) w e w' := by
  have N1 := hid (neg_any b w b0 b1)
  have nb : 0 ≤ Ie.ng b ∧ Ie.ng b < 18446744073709551616 := by simp only [Ie.ng]; split <;> omega
  have AD := hid (add_any a (Ie.ng b) w a0 a1 nb.1 nb.2 hT)
  clear hT nb
  go_enter Tryd.func43, Tryd.ntmps43
  go_wp2_with fail
  refine N1.out.mono ?_
  rintro e wz ⟨rfl, rfl⟩
  go_wp2_with fail
  refine AD.out.mono ?_
  rintro e w1 ⟨r, f, rfl, h, hB⟩
  have KK : Hid (Told2 (Ie.AddIs a (Ie.ng b)) wz (.returned (.tuple #[.int .u64 r, .int .i64 f])) w1) := ⟨r, f, rfl, h, hB⟩
  clear h hB AD N1
  go_wp2_with fail
  go_ret2
  exact KK.out

/-- An answer, told. -/
def Told1 (P : Int → Int → Prop) (w : World) (e : Ending) (w' : World) : Prop := ∃ r f, e = .returned (.int .u64 r) ∧ P r f ∧ Below w.heap.size w w'

set_option maxRecDepth 100000 in
set_option maxHeartbeats 4000000 in
theorem softAdd_any (a b : Int) (w : World) (a0 : 0 ≤ a) (a1 : a < 18446744073709551616) (b0 : 0 ≤ b) (b1 : b < 18446744073709551616) (hT : Tab w) :
    Calls Tryd.prog 23 #[.int .u64 a, .int .u64 b] w fun e w' => Told1 (Ie.AddIs a b) w e w' := by
  have AD := hid (add_any a b w a0 a1 b0 b1 hT)
  clear hT
  go_enter Tryd.func23, Tryd.ntmps23
  go_wp2_with fail
  refine AD.out.mono ?_
  rintro e w1 ⟨r, f, rfl, h, hB⟩
  have KK : Hid (Told1 (Ie.AddIs a b) w (.returned (.int .u64 r)) w1) := ⟨r, f, rfl, h, hB⟩
  clear h hB AD
  go_wp2_with fail
  go_ret
  exact KK.out

set_option maxRecDepth 100000 in
set_option maxHeartbeats 4000000 in
theorem softSub_any (a b : Int) (w : World) (a0 : 0 ≤ a) (a1 : a < 18446744073709551616) (b0 : 0 ≤ b) (b1 : b < 18446744073709551616) (hT : Tab w) :
    Calls Tryd.prog 20 #[.int .u64 a, .int .u64 b] w fun e w' => Told1 (Ie.AddIs a (Ie.ng b)) w e w' := by
  have AD := hid (sub_any a b w a0 a1 b0 b1 hT)
  clear hT
  go_enter Tryd.func20, Tryd.ntmps20
  go_wp2_with fail
  refine AD.out.mono ?_
  rintro e w1 ⟨r, f, rfl, h, hB⟩
  have KK : Hid (Told1 (Ie.AddIs a (Ie.ng b)) w (.returned (.int .u64 r)) w1) := ⟨r, f, rfl, h, hB⟩
  clear h hB AD
  go_wp2_with fail
  go_ret
  exact KK.out

end Go.Proofs.YtjebdobopechfabDoor
