/-
  Texts put together: ChP, ChCn, ChCut, FTab.
-/
import Derived.Test.YtpeecbidojjfpaaDoorRF
import Derived.Test.YtpeecbidojjfpaaDoorRH
import Derived.Test.YtpeecbidojjfpaaDoorRI
import Derived.Deep.DeepCutAuto
import Derived.Test.YtpeecbidojjfpaaDoorTrailW
import Derived.Lib.LaidTab
namespace Go.Proofs.YtpeecbidojjfpaaDoor
open Go Go.RowKit Go.Deep

namespace Ie
theorem wd_1 : Wd 1 4607182418800017408 := ⟨by decide, by decide, by rw [un_1, Int.one_mul, show 1074 = 52 + 1022 by rfl, Nm.two_add]; rfl⟩
theorem pw4096 {V : Int} (h : V ≤ 9007199254740992) : V < Nm.pw 4096 := by
  have : Nm.pw 1 ≤ Nm.pw 4096 := Nm.pw_mono (by omega)
  have e : Nm.pw 1 = 18446744073709551616 := rfl
  omega
end Ie

set_option maxRecDepth 100000 in
set_option maxHeartbeats 2000000 in
theorem cplace_any (s : ByteArray) (d : Int) (w : World) (hT : Tab w) (d0 : 0 ≤ d) (d1 : d < 18446744073709551616) (ok : Ie.okd d = true) (hs : s.size ≤ 281474976710656) :
    Calls Tryd.prog 53 #[.string s, .int .u64 d] w fun e w' => e = .returned (.int .i64 (Ie.pls d ((s.size : Int) + 1))) ∧ Below w.heap.size w w' := by
  have hsi : (s.size : Int) ≤ 281474976710656 := by omega
  have CP1 := hid (compare_any d 4607182418800017408 w d0 d1 (by omega) (by omega))
  have C1 := (Ie.cmv_wd Ie.wd_1 (by omega) d0 d1 ok).1
  have FI := hid (fromI_nn ((s.size : Int) + 1) w hT (by omega) (by omega))
  by_cases a : Ie.ngd d = true ∨ Ie.un (Ie.ab d) < 1 * 2 ^ 1074
  · have cl := C1.2 a
    have E := hid (Ie.pls_low (L := (s.size : Int) + 1) (by omega) a)
    generalize Ie.cmv d 4607182418800017408 = c at *
    clear C1 a hT FI ok
    go_enter Tryd.func53, Tryd.ntmps53
    go_wp2_with fail
    refine CP1.out.mono ?_
    rintro e w1 ⟨rfl, hw⟩
    rw [hw]
    clear hw CP1
    go_wp2_with fail
    go_ret
    exact ⟨by rw [E.out]; rfl, Below.refl _ _⟩
  · have cl : ¬ Ie.cmv d 4607182418800017408 < 0 := fun h => a (C1.1 h)
    have C2 := hid (fun X (hx : Ie.Wd ((s.size : Int) + 1) X) => (Ie.cmv_wd hx (by omega) d0 d1 ok).2)
    have CP2 := hid (fun X wx (hx : Ie.Wd ((s.size : Int) + 1) X) => compare_any d X wx d0 d1 hx.1 (by have := hx.2.1; omega))
    have WD := hid (fun X (hx : Ie.Rnd ((s.size : Int) + 1) 1 0 false X) => Ie.wd_rnd (by omega) (by omega) hx)
    generalize Ie.cmv d 4607182418800017408 = c at *
    clear C1 hT
    by_cases b : Ie.ngd d = false ∧ ((s.size : Int) + 1) * 2 ^ 1074 < Ie.un (Ie.ab d)
    · have E := hid (Ie.pls_high (L := (s.size : Int) + 1) (by omega) b)
      have C3 : Hid (∀ X, Ie.Wd ((s.size : Int) + 1) X → 0 < Ie.cmv d X) := fun X hx => (C2.out X hx).2 b
      clear C2 a b ok
      go_enter Tryd.func53, Tryd.ntmps53
      go_wp2_with fail
      refine CP1.out.mono ?_
      rintro e w1 ⟨rfl, hw⟩
      rw [hw]
      clear hw CP1
      go_wp2_with fail
      refine FI.out.mono ?_
      rintro e w1 ⟨X, rfl, hR, hB⟩
      have hX := WD.out X hR
      have cg := C3.out X hX
      have CQ := hid (CP2.out X w1 hX)
      have HB := hid hB
      generalize Ie.cmv d X = c2 at *
      clear hX hR hB C3 CP2 WD FI
      go_wp2_with fail
      refine CQ.out.mono ?_
      rintro e w2 ⟨rfl, hw⟩
      rw [hw]
      clear hw CQ
      go_wp2_with fail
      go_ret
      exact ⟨by rw [E.out]; rfl, HB.out⟩
    · have M := Ie.pls_mid a b
      have C3 : Hid (∀ X, Ie.Wd ((s.size : Int) + 1) X → ¬ 0 < Ie.cmv d X) := fun X hx h => b ((C2.out X hx).1 h)
      have FL : Hid (∀ X, Ie.Wd ((s.size : Int) + 1) X → Ie.ab d < 9218868437227405312) := fun X hx => Ie.fin_le hx (by
        rcases Int.lt_or_le (((s.size : Int) + 1) * 2 ^ 1074) (Ie.un (Ie.ab d)) with g | g
        · exact absurd ⟨M.1, g⟩ b
        · exact g)
      have TI : Hid (∀ X wx, Ie.Wd ((s.size : Int) + 1) X → Calls Tryd.prog 72 #[.int .u64 d] wx fun e w' => ∃ f, e = .returned (.tuple #[.int .i64 (Ie.whp (Ie.ab d)), .int .i64 f]) ∧ Below wx.heap.size wx w') := fun X wx hx => by
        refine (toInt_fin d wx d0 d1 (FL.out X hx) false M.1 (Ie.whp (Ie.ab d)) rfl (by have := M.2.1; omega) (Ie.pw4096 (by have := M.2.2.1; omega))).mono ?_
        rintro e w' ⟨j, f, rfl, h, hB⟩
        rcases h with ⟨_, hj, _⟩ | ⟨h, _, _⟩
        · exact ⟨f, by rw [hj]; rfl, hB⟩
        · have := M.2.2.1
          simp at h
          omega
      have E := hid M.2.2.2
      clear C2 a b ok M FL
      generalize Ie.whp (Ie.ab d) = V at *
      go_enter Tryd.func53, Tryd.ntmps53
      go_wp2_with fail
      refine CP1.out.mono ?_
      rintro e w1 ⟨rfl, hw⟩
      rw [hw]
      clear hw CP1
      go_wp2_with fail
      refine FI.out.mono ?_
      rintro e w1 ⟨X, rfl, hR, hB⟩
      have hX := WD.out X hR
      have cg := C3.out X hX
      have CQ := hid (CP2.out X w1 hX)
      have TQ := hid (TI.out X w1 hX)
      have HB := hid hB
      generalize Ie.cmv d X = c2 at *
      clear hX hR hB C3 CP2 WD FI TI
      go_wp2_with fail
      refine CQ.out.mono ?_
      rintro e w2 ⟨rfl, hw⟩
      rw [hw]
      clear hw CQ
      go_wp2_with fail
      refine TQ.out.mono ?_
      rintro e w2 ⟨f, rfl, hB⟩
      have H2 := hid (below_on HB.out hB)
      clear hB TQ HB
      go_wp2_with fail
      go_ret
      exact ⟨by rw [E.out]; rfl, H2.out⟩

namespace Ch
/-- The bytes of s at the places from lo on, below hi. -/
def ct (s : ByteArray) (lo hi : Int) : ByteArray := if lo < hi then s.extract (lo.toNat - 1) (hi.toNat - 1) else ⟨#[]⟩
/-- What piece answers. -/
def pcs (s : ByteArray) (x e : Int) : ByteArray := if Ie.isn x = true ∨ Ie.isn e = true then ⟨#[]⟩ else ct s (Ie.pls x ((s.size : Int) + 1)) (Ie.pls e ((s.size : Int) + 1))
theorem ok_of {d : Int} (h : Ie.isn d = false) : Ie.okd d = true := by
  rw [Ie.isn, decide_eq_false_iff_not, Ie.ab] at h
  rw [Ie.okd, decide_eq_true_eq]; omega
theorem ct_same {s : ByteArray} {a b L : Int} (L1 : 1 ≤ L) : ct s (max 1 (min L a)) (max 1 (min L b)) = ct s (max 1 a) (min b L) := by
  rw [ct, ct]
  by_cases h : max 1 a < min b L
  · rw [if_pos h, if_pos (by omega), show max 1 (min L a) = max 1 a by omega, show max 1 (min L b) = min b L by omega]
  · rw [if_neg h, if_neg (by omega)]
theorem pls_inf {L : Int} (h : 1 ≤ L) (h2 : L ≤ 9007199254740992) : Ie.pls 9218868437227405312 L = L := by
  obtain ⟨X, hX⟩ := Ie.wd_ex (k := L) (by omega) h2
  refine Ie.pls_high h ⟨by decide, ?_⟩
  rw [← hX.2.2, show Ie.ab 9218868437227405312 = 9218868437227405312 by decide]
  exact Ie.un_lt hX.1 hX.2.1
theorem pls_bd (d : Int) {L : Int} (h : 1 ≤ L) : 1 ≤ Ie.pls d L ∧ Ie.pls d L ≤ L := by rw [Ie.pls]; omega
end Ch

set_option maxRecDepth 100000 in
set_option maxHeartbeats 4000000 in
theorem cpiece_any (s : ByteArray) (m x d : Int) (w : World) (hT : Tab w) (m0 : 0 ≤ m) (m1 : m < 18446744073709551616) (hx : Ie.WIs m (Ie.nrup (Ie.un (Ie.ab m))) x) (x0 : 0 ≤ x) (x1 : x < 18446744073709551616) (d0 : 0 ≤ d) (d1 : d < 18446744073709551616) (hs : s.size ≤ 281474976710656) :
    Calls Tryd.prog 35 #[.string s, .int .u64 m, .int .u64 d] w fun e w' => e = .returned (.string (Ch.pcs s x d)) ∧ Below w.heap.size w w' := by
  have hsi : (s.size : Int) ≤ 281474976710656 := by omega
  have NE : Hid (Calls Tryd.prog 52 #[.int .u64 m] w fun e w' => e = .returned (.int .u64 x) ∧ Below w.heap.size w w') := by
    refine (near6_any m w hT m0 m1).mono ?_
    rintro e w' ⟨r, rfl, h, hB⟩
    exact ⟨by rw [h.one hx], hB⟩
  have CX := hid (fun wx => class_any x wx x0 x1)
  have CD := hid (fun wx => class_any d wx d0 d1)
  have TB : Hid (∀ wx, Below w.heap.size w wx → Tab wx) := fun wx b => hT.below b
  have PX := hid (fun wx (b : Below w.heap.size w wx) (k : Ie.okd x = true) => cplace_any s x wx (TB.out wx b) x0 x1 k hs)
  have PD := hid (fun wx (b : Below w.heap.size w wx) (k : Ie.okd d = true) => cplace_any s d wx (TB.out wx b) d0 d1 k hs)
  have KX := Ie.isn_cls x
  have KD := Ie.isn_cls d
  have BX := Ch.pls_bd x (L := (s.size : Int) + 1) (by omega)
  have BD := Ch.pls_bd d (L := (s.size : Int) + 1) (by omega)
  cases nx : Ie.isn x with
  | true =>
    have E : Hid (Ch.pcs s x d = ⟨#[]⟩) := by rw [Hid, Ch.pcs, if_pos (.inl nx)]
    rw [nx] at KX
    have KX : Ie.cls x = 4 := by simpa using KX
    generalize Ie.cls x = cx at *
    clear PX PD TB BX BD KD CD hT hx nx
    go_enter Tryd.func35, Tryd.ntmps35
    go_wp2_with fail
    refine NE.out.mono ?_
    rintro e w1 ⟨rfl, hB⟩
    have HB := hid hB
    clear hB NE
    go_wp2_with fail
    refine (CX.out _).mono ?_
    rintro e w2 ⟨rfl, hw⟩
    rw [hw]
    clear hw CX
    go_wp2_with fail
    go_ret
    exact ⟨by rw [E.out]; rfl, HB.out⟩
  | false =>
    cases nd : Ie.isn d with
    | true =>
      have E : Hid (Ch.pcs s x d = ⟨#[]⟩) := by rw [Hid, Ch.pcs, if_pos (.inr nd)]
      rw [nx] at KX
      rw [nd] at KD
      have KX : ¬ Ie.cls x = 4 := by simpa using KX
      have KD : Ie.cls d = 4 := by simpa using KD
      generalize Ie.cls x = cx at *
      generalize Ie.cls d = cd at *
      clear PX PD TB BX BD hT hx nx nd
      go_enter Tryd.func35, Tryd.ntmps35
      go_wp2_with fail
      refine NE.out.mono ?_
      rintro e w1 ⟨rfl, hB⟩
      have HB := hid hB
      clear hB NE
      go_wp2_with fail
      refine (CX.out _).mono ?_
      rintro e w2 ⟨rfl, hw⟩
      rw [hw]
      clear hw CX
      go_wp2_with fail
      refine (CD.out _).mono ?_
      rintro e w2 ⟨rfl, hw⟩
      rw [hw]
      clear hw CD
      go_wp2_with fail
      go_ret
      exact ⟨by rw [E.out]; rfl, HB.out⟩
    | false =>
      have E : Hid (Ch.pcs s x d = Ch.ct s (Ie.pls x ((s.size : Int) + 1)) (Ie.pls d ((s.size : Int) + 1))) := by rw [Hid, Ch.pcs, if_neg (by rw [nx, nd]; simp)]
      rw [nx] at KX
      rw [nd] at KD
      have KX : ¬ Ie.cls x = 4 := by simpa using KX
      have KD : ¬ Ie.cls d = 4 := by simpa using KD
      have PX := hid (fun wx b => PX.out wx b (Ch.ok_of nx))
      have PD := hid (fun wx b => PD.out wx b (Ch.ok_of nd))
      generalize Ie.cls x = cx at *
      generalize Ie.cls d = cd at *
      obtain ⟨lo, hlo⟩ : ∃ lo : Nat, (lo : Int) + 1 = Ie.pls x ((s.size : Int) + 1) := ⟨(Ie.pls x ((s.size : Int) + 1) - 1).toNat, by omega⟩
      obtain ⟨hi, hhi⟩ : ∃ hi : Nat, (hi : Int) + 1 = Ie.pls d ((s.size : Int) + 1) := ⟨(Ie.pls d ((s.size : Int) + 1) - 1).toNat, by omega⟩
      rw [← hlo, ← hhi] at E
      rw [← hlo] at PX BX
      rw [← hhi] at PD BD
      have l2 : lo ≤ s.size := by omega
      have h2 : hi ≤ s.size := by omega
      have l2i : (lo : Int) ≤ (s.size : Int) := by omega
      have h2i : (hi : Int) ≤ (s.size : Int) := by omega
      have CLN := hid (fun wx (a b : Nat) => vclone_any (s.extract a b) wx (by rw [ByteArray.size_extract]; omega))
      clear TB BX BD hT hx nx nd hlo hhi
      by_cases c : lo < hi
      · have ci : (lo : Int) < (hi : Int) := by omega
        have E2 : Hid (Ch.ct s ((lo : Int) + 1) ((hi : Int) + 1) = s.extract lo hi) := by
          rw [Hid, Ch.ct, if_pos (by omega), show ((lo : Int) + 1).toNat - 1 = lo by omega, show ((hi : Int) + 1).toNat - 1 = hi by omega]
        go_enter Tryd.func35, Tryd.ntmps35
        go_wp2_with fail
        refine NE.out.mono ?_
        rintro e w1 ⟨rfl, hB⟩
        have HB := hid hB
        clear hB NE
        go_wp2_with fail
        refine (CX.out _).mono ?_
        rintro e w2 ⟨rfl, hw⟩
        rw [hw]
        clear hw CX
        go_wp2_with fail
        refine (CD.out _).mono ?_
        rintro e w2 ⟨rfl, hw⟩
        rw [hw]
        clear hw CD
        go_wp2_with fail
        refine (PX.out _ HB.out).mono ?_
        rintro e w2 ⟨rfl, hB⟩
        have HC := hid (below_on HB.out hB)
        clear hB PX HB
        go_wp2_with fail
        refine (PD.out _ HC.out).mono ?_
        rintro e w3 ⟨rfl, hB⟩
        have HD := hid (below_on HC.out hB)
        clear hB PD HC
        go_wp2_with fail
        refine (CLN.out _ _ _).mono ?_
        rintro e w4 ⟨rfl, hB⟩
        have HE := hid (below_on HD.out hB)
        clear hB HD CLN
        go_wp2_with fail
        go_ret
        exact ⟨by rw [E.out, E2.out]; rfl, HE.out⟩
      · have ci : ¬ (lo : Int) < (hi : Int) := by omega
        have E2 : Hid (Ch.ct s ((lo : Int) + 1) ((hi : Int) + 1) = ⟨#[]⟩) := by
          rw [Hid, Ch.ct, if_neg (by omega)]
        go_enter Tryd.func35, Tryd.ntmps35
        go_wp2_with fail
        refine NE.out.mono ?_
        rintro e w1 ⟨rfl, hB⟩
        have HB := hid hB
        clear hB NE
        go_wp2_with fail
        refine (CX.out _).mono ?_
        rintro e w2 ⟨rfl, hw⟩
        rw [hw]
        clear hw CX
        go_wp2_with fail
        refine (CD.out _).mono ?_
        rintro e w2 ⟨rfl, hw⟩
        rw [hw]
        clear hw CD
        go_wp2_with fail
        refine (PX.out _ HB.out).mono ?_
        rintro e w2 ⟨rfl, hB⟩
        have HC := hid (below_on HB.out hB)
        clear hB PX HB
        go_wp2_with fail
        refine (PD.out _ HC.out).mono ?_
        rintro e w3 ⟨rfl, hB⟩
        have HD := hid (below_on HC.out hB)
        clear hB PD HC
        go_wp2_with fail
        go_ret
        exact ⟨by rw [E.out, E2.out]; rfl, HD.out⟩

/-- What Substr and From answer. -/
theorem cfrom_any (s : ByteArray) (m x : Int) (w : World) (hT : Tab w) (m0 : 0 ≤ m) (m1 : m < 18446744073709551616) (hx : Ie.WIs m (Ie.nrup (Ie.un (Ie.ab m))) x) (x0 : 0 ≤ x) (x1 : x < 18446744073709551616) (hs : s.size ≤ 281474976710656) :
    Calls Tryd.prog 14 #[.string s, .int .u64 m] w fun e w' => e = .returned (.string (Ch.pcs s x 9218868437227405312)) ∧ Below w.heap.size w w' := by
  have P := hid (cpiece_any s m x 9218868437227405312 w hT m0 m1 hx x0 x1 (by omega) (by omega) hs)
  clear hT hx
  go_enter Tryd.func14, Tryd.ntmps14
  go_wp2_with fail
  refine P.out.mono ?_
  rintro e w1 ⟨rfl, hB⟩
  have HB := hid hB
  clear hB P
  go_wp2_with fail
  go_ret
  exact ⟨rfl, HB.out⟩

set_option maxRecDepth 100000 in
set_option maxHeartbeats 2000000 in
theorem csubstr_any (s : ByteArray) (m x n y r : Int) (w : World) (hT : Tab w) (m0 : 0 ≤ m) (m1 : m < 18446744073709551616) (hx : Ie.WIs m (Ie.nrup (Ie.un (Ie.ab m))) x) (x0 : 0 ≤ x) (x1 : x < 18446744073709551616)
    (n0 : 0 ≤ n) (n1 : n < 18446744073709551616) (hy : Ie.WIs n (Ie.nrup (Ie.un (Ie.ab n))) y) (y0 : 0 ≤ y) (y1 : y < 18446744073709551616) (hr : Ie.AddR x y r) (r0 : 0 ≤ r) (r1 : r < 18446744073709551616) (hs : s.size ≤ 281474976710656) :
    Calls Tryd.prog 15 #[.string s, .int .u64 m, .int .u64 n] w fun e w' => e = .returned (.string (Ch.pcs s x r)) ∧ Below w.heap.size w w' := by
  have TB : Hid (∀ wx, Below w.heap.size w wx → Tab wx) := fun wx b => hT.below b
  have BH : Hid (Calls Tryd.prog 36 #[.int .u64 m, .int .u64 n] w fun e w' => e = .returned (.int .u64 r) ∧ Below w.heap.size w w') := by
    have NX : Hid (Calls Tryd.prog 52 #[.int .u64 m] w fun e w' => e = .returned (.int .u64 x) ∧ Below w.heap.size w w') := by
      refine (near6_any m w hT m0 m1).mono ?_
      rintro e w' ⟨r, rfl, h, hB⟩
      exact ⟨by rw [h.one hx], hB⟩
    have NY : Hid (∀ wx, Below w.heap.size w wx → Calls Tryd.prog 52 #[.int .u64 n] wx fun e w' => e = .returned (.int .u64 y) ∧ Below wx.heap.size wx w') := fun wx b => by
      refine (near6_any n wx (TB.out wx b) n0 n1).mono ?_
      rintro e w' ⟨r, rfl, h, hB⟩
      exact ⟨by rw [h.one hy], hB⟩
    have AD : Hid (∀ wx, Below w.heap.size w wx → Calls Tryd.prog 55 #[.int .u64 x, .int .u64 y] wx fun e w' => e = .returned (.int .u64 r) ∧ Below wx.heap.size wx w') := fun wx b => by
      refine (softAdd_any x y wx x0 x1 y0 y1 (TB.out wx b)).mono ?_
      rintro e w' ⟨q, f, rfl, h, hB⟩
      exact ⟨by rw [h.r.one hr], hB⟩
    clear hT hx hy hr TB
    rw [Hid]
    go_enter Tryd.func36, Tryd.ntmps36
    go_wp2_with fail
    refine NX.out.mono ?_
    rintro e w1 ⟨rfl, hB⟩
    have HB := hid hB
    clear hB NX
    go_wp2_with fail
    refine (NY.out _ HB.out).mono ?_
    rintro e w2 ⟨rfl, hB⟩
    have HC := hid (below_on HB.out hB)
    clear hB NY HB
    go_wp2_with fail
    refine (AD.out _ HC.out).mono ?_
    rintro e w3 ⟨rfl, hB⟩
    have HD := hid (below_on HC.out hB)
    clear hB AD HC
    go_wp2_with fail
    go_ret
    exact ⟨rfl, HD.out⟩
  have P := hid (fun wx (b : Below w.heap.size w wx) => cpiece_any s m x r wx (TB.out wx b) m0 m1 hx x0 x1 r0 r1 hs)
  clear hT hx hy hr TB
  go_enter Tryd.func15, Tryd.ntmps15
  go_wp2_with fail
  refine BH.out.mono ?_
  rintro e w1 ⟨rfl, hB⟩
  have HB := hid hB
  clear hB BH
  go_wp2_with fail
  refine (P.out _ HB.out).mono ?_
  rintro e w2 ⟨rfl, hB⟩
  have HC := hid (below_on HB.out hB)
  clear hB P HB
  go_wp2_with fail
  go_ret
  exact ⟨rfl, HC.out⟩
end Go.Proofs.YtpeecbidojjfpaaDoor

namespace Go.Proofs.YtpeecbidojjfpaaDoor
open Go

namespace Ie
theorem iw_ex {m : Int} (h0 : -9007199254740992 ≤ m) (h1 : m ≤ 9007199254740992) : ∃ D, Iw m D := by
  rcases (show 0 ≤ m ∨ m < 0 by omega) with h | h
  · obtain ⟨X, hX⟩ := wd_ex h h1
    exact ⟨X, .inl ⟨h, hX⟩⟩
  · obtain ⟨X, hX⟩ := wd_ex (k := -m) (by omega) (by omega)
    exact ⟨_, .inr ⟨h, X, rfl, hX⟩⟩
theorem Iw.one {m D E : Int} (h : Iw m D) (k : Iw m E) : D = E := by
  rcases h with ⟨h0, h⟩ | ⟨h0, X, rfl, h⟩
  · rcases k with ⟨_, k⟩ | ⟨k0, _⟩
    · exact h.one k
    · omega
  · rcases k with ⟨k0, _⟩ | ⟨_, Y, rfl, k⟩
    · omega
    · rw [h.one k]
theorem iw_3 : Iw 3 4613937818241073152 := .inl ⟨by omega, by decide, by decide, by
  rw [un_3, show 1074 = 51 + 1023 by rfl, Nm.two_add, show (6755399441055744 : Int) = 3 * 2 ^ 51 by decide, Int.mul_assoc]⟩
theorem Iw.wis {m D : Int} (h : Iw m D) (up : Bool) : WIs D up D := by
  obtain ⟨a, b, c, _⟩ := h.parts
  exact wis_stay up a b (.inr ⟨c, h.intg⟩)
theorem wis_inf (up : Bool) : WIs 9218868437227405312 up 9218868437227405312 := wis_stay up (by decide) (by decide) (.inl (by decide))
theorem wis_ninf (up : Bool) : WIs 18442240474082181120 up 18442240474082181120 := wis_stay up (by decide) (by decide) (.inl (by decide))
theorem wis_nan (up : Bool) : WIs 9221120237041090560 up 9221120237041090560 :=
  ⟨fun _ => rfl, fun k => absurd k (by decide), fun k => absurd k (by rw [fin]; decide)⟩
theorem Iw.add_inf {m D : Int} (h : Iw m D) : AddR D 9218868437227405312 9218868437227405312 := by
  obtain ⟨a, b⟩ := h.kinds
  unfold AddR
  rw [if_neg (by rw [a]; decide), if_neg (by rw [b]; simp), if_neg (by rw [b]; simp), if_pos (by decide)]
theorem add_nan_r (D : Int) : AddR D 9221120237041090560 9221120237041090560 := by
  unfold AddR
  rw [if_pos (.inr (by decide))]
theorem add_nan_l (D : Int) : AddR 9221120237041090560 D 9221120237041090560 := by
  unfold AddR
  rw [if_pos (.inl (by decide))]
theorem pls_iw {m D L : Int} (h : Iw m D) (L1 : 1 ≤ L) : pls D L = max 1 (min L m) := by rw [pls, h.flr]; omega
end Ie

namespace Ch
theorem pcs_two {s : ByteArray} {m k D G : Int} (h : Ie.Iw m D) (g : Ie.Iw k G) : pcs s D G = ct s (max 1 m) (min k ((s.size : Int) + 1)) := by
  rw [pcs, if_neg (by rw [h.kinds.1, g.kinds.1]; simp), Ie.pls_iw h (by omega), Ie.pls_iw g (by omega), ct_same (by omega)]
theorem ct_le {s : ByteArray} {a L : Int} (L1 : 1 ≤ L) : ct s (max 1 (min L a)) L = ct s (max 1 a) L := by
  rw [ct, ct]
  by_cases h : max 1 a < L
  · rw [if_pos h, if_pos (by omega), show max 1 (min L a) = max 1 a by omega]
  · rw [if_neg h, if_neg (by omega)]
theorem pcs_rest {s : ByteArray} {m D : Int} (h : Ie.Iw m D) (hs : (s.size : Int) + 1 ≤ 9007199254740992) : pcs s D 9218868437227405312 = ct s (max 1 m) ((s.size : Int) + 1) := by
  rw [pcs, if_neg (by rw [h.kinds.1]; decide), Ie.pls_iw h (by omega), pls_inf (by omega) hs, ct_le (by omega)]
theorem pcs_nan_r {s : ByteArray} (D : Int) : pcs s D 9221120237041090560 = ⟨#[]⟩ := by rw [pcs, if_pos (.inr (by decide))]
theorem pcs_nan_l {s : ByteArray} (D : Int) : pcs s 9221120237041090560 D = ⟨#[]⟩ := by rw [pcs, if_pos (.inl (by decide))]
theorem pcs_inf {s : ByteArray} (hs : (s.size : Int) + 1 ≤ 9007199254740992) : pcs s 9218868437227405312 9218868437227405312 = ⟨#[]⟩ := by
  rw [pcs, if_neg (by decide), pls_inf (by omega) hs, ct, if_neg (by omega)]
theorem size0 {s : ByteArray} (h : s.size = 0) : s = ⟨#[]⟩ := by
  obtain ⟨a⟩ := s
  have : a.size = 0 := h
  rw [Array.eq_empty_of_size_eq_zero this]
theorem pcs_ninf {s : ByteArray} (hs : (s.size : Int) + 1 ≤ 9007199254740992) : pcs s 18442240474082181120 9218868437227405312 = s := by
  rw [pcs, if_neg (by decide), pls_inf (by omega) hs, Ie.pls_low (by omega) (.inl (by decide)), ct]
  by_cases h : (1 : Int) < (s.size : Int) + 1
  · rw [if_pos h, show ((s.size : Int) + 1).toNat - 1 = s.size by omega]
    exact ByteArray.extract_zero_size
  · rw [if_neg h]
    exact (size0 (by omega)).symm
theorem ext_app (s : ByteArray) {i j k : Nat} (h : i ≤ j) (h2 : j ≤ k) : s.extract i j ++ s.extract j k = s.extract i k := by
  rw [tx_ext, tx_ext, tx_ext]
  have e : ∀ a b : L8, tx a ++ tx b = tx (a ++ b) := fun a b => by
    apply ByteArray.ext
    simp [tx]
  rw [e]
  congr 1
  obtain ⟨c, rfl⟩ : ∃ c, j = i + c := ⟨j - i, by omega⟩
  obtain ⟨d, rfl⟩ : ∃ d, k = i + c + d := ⟨k - (i + c), by omega⟩
  rw [Nat.add_sub_cancel_left, Nat.add_sub_cancel_left, show i + c + d - i = c + d by omega, ← List.drop_drop, List.take_add]
theorem ct_app {s : ByteArray} {m n L : Int} (hL : L = (s.size : Int) + 1) (n0 : 0 ≤ n) : ct s (max 1 m) (min (m + n) L) ++ ct s (max 1 (m + n)) L = ct s (max 1 m) L := by
  have em : (⟨#[]⟩ : ByteArray) = ByteArray.empty := rfl
  rw [ct, ct, ct, em]
  by_cases h : max 1 m < min (m + n) L
  · rw [if_pos h, if_pos (show max 1 m < L by omega), show max 1 (m + n) = m + n by omega]
    by_cases k : m + n < L
    · rw [if_pos k, show min (m + n) L = m + n by omega]
      exact ext_app s (by omega) (by omega)
    · rw [if_neg k, show min (m + n) L = L by omega, ByteArray.append_empty]
  · rw [if_neg h, ByteArray.empty_append]
    by_cases k : max 1 m < L
    · rw [if_pos k, show max 1 (m + n) = max 1 m by omega, if_pos k]
    · rw [if_neg k, if_neg (by omega)]
end Ch
end Go.Proofs.YtpeecbidojjfpaaDoor

namespace Go.Proofs.YtpeecbidojjfpaaDoor
open Go Go.RowKit Go.Deep

namespace Ch
theorem hello : ct ⟨#[104, 101, 108, 108, 111]⟩ (max 1 4) (((⟨#[104, 101, 108, 108, 111]⟩ : ByteArray).size : Int) + 1) = ⟨#[108, 111]⟩ := by decide +kernel
theorem ct_size (s : ByteArray) (lo hi : Int) : (ct s lo hi).size ≤ s.size := by
  rw [ct]
  split
  · rw [ByteArray.size_extract]; omega
  · exact Nat.zero_le _
end Ch

set_option maxRecDepth 100000 in
theorem lat_any (m D : Int) (w : World) (hT : Tab w) (h : Ie.Iw m D) (h0 : -9007199254740992 ≤ m) (h1 : m ≤ 9007199254740992) :
    Calls Tryd.prog 13 #[.int .i64 m] w fun e w' => e = .returned (.int .u64 D) ∧ Below w.heap.size w w' := by
  have F : Hid (Calls Tryd.prog 34 #[.int .i64 m] w fun e w' => e = .returned (.int .u64 D) ∧ Below w.heap.size w w') := by
    rcases (show 0 ≤ m ∨ m < 0 by omega) with g | g
    · refine (fromI_nn m w hT g (by omega)).mono ?_
      rintro e w' ⟨x, rfl, r, b⟩
      exact ⟨by rw [(show Ie.Iw m x from .inl ⟨g, Ie.wd_rnd g h1 r⟩).one h], b⟩
    · refine (fromI_ng m w hT g (by omega)).mono ?_
      rintro e w' ⟨x, rfl, r, b⟩
      exact ⟨by rw [(show Ie.Iw m (x + 9223372036854775808) from .inr ⟨g, x, rfl, Ie.wd_rnd (by omega) (by omega) r⟩).one h], b⟩
  clear hT h
  go_enter Tryd.func13, Tryd.ntmps13
  go_wp2_with fail
  refine F.out.mono ?_
  rintro e w1 ⟨rfl, hB⟩
  have HB := hid hB
  clear hB F
  go_wp2_with fail
  go_ret
  exact ⟨rfl, HB.out⟩

set_option maxRecDepth 100000 in
set_option maxHeartbeats 4000000 in
theorem cuts_law (s : ByteArray) (m n : Int) (w : World) (hT : Tab w) (hs : s.size ≤ 281474976710656) (m0 : -9223372036854775808 ≤ m) (m1 : m ≤ 9223372036854775807) (n0 : -9223372036854775808 ≤ n) (n1 : n ≤ 9223372036854775807) :
    Calls Tryd.prog 4 #[.string s, .int .i64 m, .int .i64 n] w fun e w' => e = .returned (.bool true) ∧ Below w.heap.size w w' := by
  have TB : Hid (∀ wx, Below w.heap.size w wx → Tab wx) := fun wx b => hT.below b
  have hsi : (s.size : Int) ≤ 281474976710656 := by omega
  obtain ⟨D4, h4⟩ := Ie.iw_ex (m := 4) (by omega) (by omega)
  have A3 := hid (fun wx (b : Below w.heap.size w wx) => lat_any 3 4613937818241073152 wx (TB.out wx b) Ie.iw_3 (by omega) (by omega))
  have A4 := hid (fun wx (b : Below w.heap.size w wx) => lat_any 4 D4 wx (TB.out wx b) h4 (by omega) (by omega))
  have F4 : Hid (∀ wx, Below w.heap.size w wx → Calls Tryd.prog 14 #[.string ⟨#[104, 101, 108, 108, 111]⟩, .int .u64 D4] wx fun e w' => e = .returned (.string ⟨#[108, 111]⟩) ∧ Below wx.heap.size wx w') := fun wx b => by
    obtain ⟨p0, p1, _⟩ := h4.parts
    have h := cfrom_any ⟨#[104, 101, 108, 108, 111]⟩ D4 D4 wx (TB.out wx b) p0 p1 (h4.wis _) p0 p1 (by decide)
    rw [Ch.pcs_rest h4 (by decide), Ch.hello] at h
    exact h
  have B0 := hid (Below.refl w.heap.size w)
  clear h4 hT
  by_cases r1 : m < -4503599627370496
  · clear TB hs
    go_enter Tryd.func4, Tryd.ntmps4
    go_wp2_with fail
    refine (A3.out _ B0.out).mono ?_
    rintro e w1 ⟨rfl, hB⟩
    have B1 := hid (below_on B0.out hB)
    clear hB B0
    go_wp2_with fail
    refine (A4.out _ B1.out).mono ?_
    rintro e w2 ⟨rfl, hB⟩
    have B2 := hid (below_on B1.out hB)
    clear hB B1
    go_wp2_with fail
    refine (F4.out _ B2.out).mono ?_
    rintro e w3 ⟨rfl, hB⟩
    have B3 := hid (below_on B2.out hB)
    clear hB B2
    go_wp2_with fail
    go_ret
    exact ⟨rfl, B3.out⟩
  by_cases r2 : 4503599627370496 < m
  · clear TB hs
    go_enter Tryd.func4, Tryd.ntmps4
    go_wp2_with fail
    refine (A3.out _ B0.out).mono ?_
    rintro e w1 ⟨rfl, hB⟩
    have B1 := hid (below_on B0.out hB)
    clear hB B0
    go_wp2_with fail
    refine (A4.out _ B1.out).mono ?_
    rintro e w2 ⟨rfl, hB⟩
    have B2 := hid (below_on B1.out hB)
    clear hB B1
    go_wp2_with fail
    refine (F4.out _ B2.out).mono ?_
    rintro e w3 ⟨rfl, hB⟩
    have B3 := hid (below_on B2.out hB)
    clear hB B2
    go_wp2_with fail
    go_ret
    exact ⟨rfl, B3.out⟩
  by_cases r3 : n < -4503599627370496
  · clear TB hs
    go_enter Tryd.func4, Tryd.ntmps4
    go_wp2_with fail
    refine (A3.out _ B0.out).mono ?_
    rintro e w1 ⟨rfl, hB⟩
    have B1 := hid (below_on B0.out hB)
    clear hB B0
    go_wp2_with fail
    refine (A4.out _ B1.out).mono ?_
    rintro e w2 ⟨rfl, hB⟩
    have B2 := hid (below_on B1.out hB)
    clear hB B1
    go_wp2_with fail
    refine (F4.out _ B2.out).mono ?_
    rintro e w3 ⟨rfl, hB⟩
    have B3 := hid (below_on B2.out hB)
    clear hB B2
    go_wp2_with fail
    go_ret
    exact ⟨rfl, B3.out⟩
  by_cases r4 : 4503599627370496 < n
  · clear TB hs
    go_enter Tryd.func4, Tryd.ntmps4
    go_wp2_with fail
    refine (A3.out _ B0.out).mono ?_
    rintro e w1 ⟨rfl, hB⟩
    have B1 := hid (below_on B0.out hB)
    clear hB B0
    go_wp2_with fail
    refine (A4.out _ B1.out).mono ?_
    rintro e w2 ⟨rfl, hB⟩
    have B2 := hid (below_on B1.out hB)
    clear hB B1
    go_wp2_with fail
    refine (F4.out _ B2.out).mono ?_
    rintro e w3 ⟨rfl, hB⟩
    have B3 := hid (below_on B2.out hB)
    clear hB B2
    go_wp2_with fail
    go_ret
    exact ⟨rfl, B3.out⟩
  obtain ⟨D, hD⟩ := Ie.iw_ex (m := m) (by omega) (by omega)
  obtain ⟨E, hE⟩ := Ie.iw_ex (m := n) (by omega) (by omega)
  obtain ⟨G, hG⟩ := Ie.iw_ex (m := m + n) (by omega) (by omega)
  have AM := hid (fun wx (b : Below w.heap.size w wx) => lat_any m D wx (TB.out wx b) hD (by omega) (by omega))
  have AN := hid (fun wx (b : Below w.heap.size w wx) => lat_any n E wx (TB.out wx b) hE (by omega) (by omega))
  have AG := hid (fun wx (b : Below w.heap.size w wx) => lat_any (m + n) G wx (TB.out wx b) hG (by omega) (by omega))
  obtain ⟨d0, d1, -⟩ := hD.parts
  obtain ⟨e0, e1, -⟩ := hE.parts
  obtain ⟨g0, g1, -⟩ := hG.parts
  have S1 := hid (fun wx (b : Below w.heap.size w wx) => csubstr_any s D D E E G wx (TB.out wx b) d0 d1 (hD.wis _) d0 d1 e0 e1 (hE.wis _) e0 e1 (hD.sum hE hG) g0 g1 hs)
  have S2 := hid (fun wx (b : Below w.heap.size w wx) => csubstr_any s D D 9218868437227405312 9218868437227405312 9218868437227405312 wx (TB.out wx b) d0 d1 (hD.wis _) d0 d1 (by omega) (by omega) (Ie.wis_inf _) (by omega) (by omega) hD.add_inf (by omega) (by omega) hs)
  have S3 := hid (fun wx (b : Below w.heap.size w wx) => csubstr_any s D D 9221120237041090560 9221120237041090560 9221120237041090560 wx (TB.out wx b) d0 d1 (hD.wis _) d0 d1 (by omega) (by omega) (Ie.wis_nan _) (by omega) (by omega) (Ie.add_nan_r D) (by omega) (by omega) hs)
  have S4 := hid (fun wx (b : Below w.heap.size w wx) => csubstr_any s 9221120237041090560 9221120237041090560 E E 9221120237041090560 wx (TB.out wx b) (by omega) (by omega) (Ie.wis_nan _) (by omega) (by omega) e0 e1 (hE.wis _) e0 e1 (Ie.add_nan_l E) (by omega) (by omega) hs)
  have F1 := hid (fun wx (b : Below w.heap.size w wx) => cfrom_any s D D wx (TB.out wx b) d0 d1 (hD.wis _) d0 d1 hs)
  have F2 := hid (fun wx (b : Below w.heap.size w wx) => cfrom_any s 9218868437227405312 9218868437227405312 wx (TB.out wx b) (by omega) (by omega) (Ie.wis_inf _) (by omega) (by omega) hs)
  have F3 := hid (fun wx (b : Below w.heap.size w wx) => cfrom_any s 18442240474082181120 18442240474082181120 wx (TB.out wx b) (by omega) (by omega) (Ie.wis_ninf _) (by omega) (by omega) hs)
  have F5 := hid (fun wx (b : Below w.heap.size w wx) => cfrom_any s G G wx (TB.out wx b) g0 g1 (hG.wis _) g0 g1 hs)
  rw [Ch.pcs_two hD hG] at S1
  rw [Ch.pcs_rest hD (by omega)] at S2 F1
  rw [Ch.pcs_nan_r] at S3
  rw [Ch.pcs_nan_l] at S4
  rw [Ch.pcs_inf (by omega)] at F2
  rw [Ch.pcs_ninf (by omega)] at F3
  rw [Ch.pcs_rest hG (by omega)] at F5
  have AP := hid (fun h : 0 ≤ n => Ch.ct_app (s := s) (m := m) (n := n) rfl h)
  obtain ⟨a, ha⟩ : ∃ a : Nat, (a : Int) + 1 = max 1 m := ⟨(max 1 m - 1).toNat, by omega⟩
  rw [← ha] at S1 S2 F1 AP
  obtain ⟨K, hK⟩ : ∃ K : Int, K = min (m + n) ((s.size : Int) + 1) := ⟨_, rfl⟩
  rw [← hK] at S1 AP
  have WC : Hid (∀ b : Nat, K = (b : Int) + 1 → a < b → Ch.ct s ((a : Int) + 1) K = s.extract a b) := fun b e h => by
    rw [Ch.ct, if_pos (by omega), show ((a : Int) + 1).toNat - 1 = a by omega, show K.toNat - 1 = b by omega]
  have WN : Hid (¬ (a : Int) + 1 < K → Ch.ct s ((a : Int) + 1) K = ⟨#[]⟩) := fun h => by rw [Ch.ct, if_neg h]
  have RC : Hid (a < s.size → Ch.ct s ((a : Int) + 1) ((s.size : Int) + 1) = s.extract a s.size) := fun h => by
    rw [Ch.ct, if_pos (by omega), show ((a : Int) + 1).toNat - 1 = a by omega, show ((s.size : Int) + 1).toNat - 1 = s.size by omega]
  have RN : Hid (¬ a < s.size → Ch.ct s ((a : Int) + 1) ((s.size : Int) + 1) = ⟨#[]⟩) := fun h => by rw [Ch.ct, if_neg (by omega)]
  have AB : (a : Int) ≤ 4503599627370496 := by omega
  have RZ : Hid ((Ch.ct s ((a : Int) + 1) ((s.size : Int) + 1)).size ≤ 281474976710656) := Nat.le_trans (Ch.ct_size _ _ _) hs
  have KB : -9007199254740992 ≤ K ∧ K ≤ (s.size : Int) + 1 := by omega
  generalize Ch.ct s ((a : Int) + 1) K = W at *
  generalize Ch.ct s ((a : Int) + 1) ((s.size : Int) + 1) = R at *
  generalize Ch.ct s (max 1 (m + n)) ((s.size : Int) + 1) = Q at *
  have HA := hid ha
  have HK := hid hK
  clear hD hE hG d0 d1 e0 e1 g0 g1 TB hs ha hK m0 m1 n0 n1
  go_enter Tryd.func4, Tryd.ntmps4
  go_wp2_with fail
  refine (A3.out _ B0.out).mono ?_
  rintro e w1 ⟨rfl, hB⟩
  have B1 := hid (below_on B0.out hB)
  clear hB B0
  go_wp2_with fail
  refine (A4.out _ B1.out).mono ?_
  rintro e w2 ⟨rfl, hB⟩
  have B2 := hid (below_on B1.out hB)
  clear hB B1
  go_wp2_with fail
  refine (F4.out _ B2.out).mono ?_
  rintro e w3 ⟨rfl, hB⟩
  have B3 := hid (below_on B2.out hB)
  clear hB B2
  go_upto_if 34 with fail
  go_cut [7] (fun v wx => v = .int .i64 ((a : Int) + 1) ∧ wx = w3)
  case first =>
    by_cases c : m < 1
    · have e : a = 0 := by have := HA.out; omega
      subst e
      go_wp2_with fail
      go_meet
      exact ⟨rfl, rfl⟩
    · have e : m = (a : Int) + 1 := by have := HA.out; omega
      have HE := hid e
      clear e
      go_wp2_with fail
      go_meet
      exact ⟨by rw [HE.out], rfl⟩
  case rest =>
  obtain ⟨h7, hwc⟩ := hcut
  subst h7
  have hwc := hwc.symm
  subst hwc
  go_upto_if 42 with fail
  go_cut [8] (fun v wx => v = .int .i64 K ∧ wx = w3)
  case first =>
    by_cases c : (s.size : Int) + 1 < m + n
    · have e : Hid ((s.size : Int) + 1 = K) := by rw [Hid]; have := HK.out; omega
      go_wp2_with fail
      go_meet
      exact ⟨by rw [e.out], rfl⟩
    · have e : Hid (m + n = K) := by rw [Hid]; have := HK.out; omega
      go_wp2_with fail
      go_meet
      exact ⟨by rw [e.out], rfl⟩
  case rest =>
  obtain ⟨h8, hwc⟩ := hcut
  subst h8
  have hwc := hwc.symm
  subst hwc
  go_upto_if 48 with fail
  go_cut [9] (fun v wx => v = .string W ∧ wx = w3)
  case first =>
    by_cases c : (a : Int) + 1 < K
    · obtain ⟨b, hb⟩ : ∃ b : Nat, K = (b : Int) + 1 := ⟨(K - 1).toNat, by omega⟩
      have e := WC.out b hb (by omega)
      subst hb e
      have ab : (a : Int) < (b : Int) := by omega
      have bs : (b : Int) ≤ (s.size : Int) := by omega
      have bs2 : b ≤ s.size := by omega
      have as2 : (a : Int) ≤ (s.size : Int) := by omega
      go_wp2_with fail
      go_meet
      exact ⟨rfl, rfl⟩
    · have e := WN.out (by omega)
      subst e
      go_wp2_with fail
      go_meet
      exact ⟨rfl, rfl⟩
  case rest =>
  obtain ⟨h9, hwc⟩ := hcut
  subst h9
  have hwc := hwc.symm
  subst hwc
  go_upto_if 58 with fail
  go_cut [10] (fun v wx => v = .string R ∧ wx = w3)
  case first =>
    by_cases c : a < s.size
    · have ci : (a : Int) + 1 ≤ (s.size : Int) := by omega
      have ci2 : (a : Int) ≤ (s.size : Int) := by omega
      have e := RC.out c
      subst e
      go_wp2_with fail
      go_meet
      exact ⟨rfl, rfl⟩
    · have ci : ¬ (a : Int) + 1 ≤ (s.size : Int) := by omega
      have e := RN.out c
      subst e
      go_wp2_with fail
      go_meet
      exact ⟨rfl, rfl⟩
  case rest =>
  obtain ⟨h10, hwc⟩ := hcut
  subst h10
  have hwc := hwc.symm
  subst hwc
  clear WC WN RC RN HA HK AB KB hsi
  go_wp2_with fail
  refine (AM.out _ B3.out).mono ?_
  rintro e w4 ⟨rfl, hB⟩
  have B4 := hid (below_on B3.out hB)
  clear hB B3
  go_wp2_with fail
  refine (AN.out _ B4.out).mono ?_
  rintro e w5 ⟨rfl, hB⟩
  have B5 := hid (below_on B4.out hB)
  clear hB B4
  go_wp2_with fail
  refine (S1.out _ B5.out).mono ?_
  rintro e w6 ⟨rfl, hB⟩
  have B6 := hid (below_on B5.out hB)
  clear hB B5
  go_wp2_with fail
  refine (AM.out _ B6.out).mono ?_
  rintro e w7 ⟨rfl, hB⟩
  have B7 := hid (below_on B6.out hB)
  clear hB B6
  go_wp2_with fail
  refine (F1.out _ B7.out).mono ?_
  rintro e w8 ⟨rfl, hB⟩
  have B8 := hid (below_on B7.out hB)
  clear hB B7
  go_wp2_with fail
  refine (AM.out _ B8.out).mono ?_
  rintro e w9 ⟨rfl, hB⟩
  have B9 := hid (below_on B8.out hB)
  clear hB B8
  go_wp2_with fail
  refine (S2.out _ B9.out).mono ?_
  rintro e w10 ⟨rfl, hB⟩
  have B10 := hid (below_on B9.out hB)
  clear hB B9
  go_wp2_with fail
  refine (AM.out _ B10.out).mono ?_
  rintro e w11 ⟨rfl, hB⟩
  have B11 := hid (below_on B10.out hB)
  clear hB B10
  go_wp2_with fail
  refine (S3.out _ B11.out).mono ?_
  rintro e w12 ⟨rfl, hB⟩
  have B12 := hid (below_on B11.out hB)
  clear hB B11
  go_wp2_with fail
  refine (AN.out _ B12.out).mono ?_
  rintro e w13 ⟨rfl, hB⟩
  have B13 := hid (below_on B12.out hB)
  clear hB B12
  go_wp2_with fail
  refine (S4.out _ B13.out).mono ?_
  rintro e w14 ⟨rfl, hB⟩
  have B14 := hid (below_on B13.out hB)
  clear hB B13
  go_wp2_with fail
  refine (F2.out _ B14.out).mono ?_
  rintro e w15 ⟨rfl, hB⟩
  have B15 := hid (below_on B14.out hB)
  clear hB B14
  go_wp2_with fail
  refine (F3.out _ B15.out).mono ?_
  rintro e w16 ⟨rfl, hB⟩
  have B16 := hid (below_on B15.out hB)
  clear hB B15
  by_cases c : n < 0
  · go_wp2_with fail
    go_ret
    exact ⟨rfl, B16.out⟩
  · have hq := AP.out (by omega)
    have z1 : W.size + Q.size ≤ 281474976710656 := by
      have := RZ.out
      rw [← hq, ByteArray.size_append] at this
      exact this
    have z2 : ¬ 9223372036854775807 < W.size + Q.size := by omega
    clear AP RZ
    have ws : IntKind.i64.wrap (m + n) = m + n := by rw [IntKind.wrap_i64]; omega
    go_wp2_with fail
    refine (AG.out _ B16.out).mono ?_
    rintro e w17 ⟨rfl, hB⟩
    have B17 := hid (below_on B16.out hB)
    clear hB B16
    go_wp2_with fail
    refine (F5.out _ B17.out).mono ?_
    rintro e w18 ⟨rfl, hB⟩
    have B18 := hid (below_on B17.out hB)
    clear hB B17
    go_wp2_with fail
    go_ret
    first
      | exact ⟨rfl, B18.out⟩
      | exact ⟨by rw [hq]; simp, B18.out⟩
end Go.Proofs.YtpeecbidojjfpaaDoor

namespace Go.Proofs.YtpeecbidojjfpaaDoor
open Go Go.RowKit Go.Deep

theorem tab_laid : (Rows.laid_math_bits_deBruijn64tab : DataW Unit) = Lib.tabData .u8 (List.map Int.ofNat Lib.deBruijn64tab) := by kernel_rfl

theorem tab_of {W : World} {rest : List (String × DataW Unit)} (h : laidMet Tryd.prog (("math/bits.deBruijn64tab", Rows.laid_math_bits_deBruijn64tab) :: rest) W) : Tab W := by
  rw [tab_laid] at h
  have ht := Lib.tabIs_of_head (g := 0) (t := 60) (e := 5) (n := 64) (k := .u8) (zs := List.map Int.ofNat Lib.deBruijn64tab) (by kernel_rfl) (by kernel_rfl) Tryd.underlying60 Tryd.underlying5 (by kernel_rfl) (by kernel_rfl) h
  intro j hj
  have hl : (List.map Int.ofNat Lib.deBruijn64tab).length = Lib.deBruijn64tab.length := by simp
  rw [ht.cell (g := 0) (by kernel_rfl) j (by omega)]
  simp [List.getD, hj]

end Go.Proofs.YtpeecbidojjfpaaDoor
