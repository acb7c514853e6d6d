/-
  quot's step, newton AND Root.
-/
import Derived.Test.YthfechigdiefpaaDoorQDivOk
import Derived.Test.YthfechigdiefpaaDoorShr
import Derived.Test.YthfechigdiefpaaDoorWalk3
import Derived.Test.YthfechigdiefpaaDoorWalk4
import Derived.Deep.LoopGhost
namespace Go.Proofs.YthfechigdiefpaaDoor
open Go.RowKit Go.Deep

namespace Rt
/-- Newton's step stays above the root. -/
theorem above {A r q n : Int} (hr : 1 ≤ r) (hq0 : 0 ≤ q) (hq : A < (q + 1) * r) (hn : r + q ≤ 2 * n + 1) : A < (n + 1) * (n + 1) := by
  have h1 : 4 * ((q + 1) * r) ≤ (r + q + 1) * (r + q + 1) := by
    have h2 : 0 ≤ (r - (q + 1)) * (r - (q + 1)) := by
      rcases Int.le_total 0 (r - (q + 1)) with h | h
      · exact Int.mul_nonneg h h
      · exact Int.mul_nonneg_of_nonpos_of_nonpos h h
    have e1 : (r - (q + 1)) * (r - (q + 1)) = r * r - 2 * ((q + 1) * r) + (q + 1) * (q + 1) := by
      rw [Int.sub_mul, Int.mul_sub, Int.mul_sub, Int.mul_comm r (q + 1)]; omega
    have e2 : (r + q + 1) * (r + q + 1) = r * r + 2 * ((q + 1) * r) + (q + 1) * (q + 1) := by
      have e : ∀ y : Int, (r + y) * (r + y) = r * r + 2 * (y * r) + y * y := fun y => by rw [Int.add_mul, Int.mul_add, Int.mul_add, Int.mul_comm r y]; omega
      rw [show r + q + 1 = r + (q + 1) by omega]
      exact e (q + 1)
    omega
  have h3 : (r + q + 1) * (r + q + 1) ≤ (2 * (n + 1)) * (2 * (n + 1)) := Int.mul_le_mul (by omega) (by omega) (by omega) (by omega)
  have e3 : (2 * (n + 1)) * (2 * (n + 1)) = 4 * ((n + 1) * (n + 1)) := by
    rw [Int.mul_assoc, Int.mul_left_comm (n + 1)]; omega
  omega

/-- Where the steps fall no more, the root is there. -/
theorem there {A r q : Int} (hr : 1 ≤ r) (hq : q * r ≤ A) (h : r ≤ (r + q) / 2) : r * r ≤ A := by
  have h1 : r ≤ q := by omega
  have h2 : r * r ≤ q * r := Int.mul_le_mul_of_nonneg_right h1 (by omega)
  omega

theorem start {A : Int} {L h : Nat} (hA : A < 2 ^ L) (hh : L ≤ 2 * h) : A < (2 ^ h + 1) * (2 ^ h + 1) := by
  have h1 := Nm.two_mono hh
  have h2 : (2 : Int) ^ (2 * h) = 2 ^ h * 2 ^ h := by rw [← Nm.two_add]; congr 1; omega
  have h3 := Nm.two_pos h
  rw [Int.add_mul, Int.mul_add, Int.one_mul, Int.mul_one]
  omega

theorem room_any (a b c : Nat) (ha : a ≤ c) (hb : b ≤ c) : Nm.pw a + Nm.pw b ≤ Nm.pw (c + 1) := by
  have h1 := Nm.pw_mono ha
  have h2 := Nm.pw_mono hb
  have h3 := Nm.pw_pos c
  rw [Nm.pw_succ]
  omega

theorem room : Nm.pw 128 + Nm.pw 256 ≤ Nm.pw 4096 := room_any 128 256 4095 (by omega) (by omega)
end Rt

theorem Ans.argR {B : Nat} {w : World} {p : Option Addr} {ys : List Int} {n : Int} (h : Ans B w p ys n) (hn : n < Nm.pw 4096) : Arg w p ys.length ys.length ys :=
  h.arg (by have := h.small hn; omega)

theorem Ans.tsR {B : Nat} {w : World} {p : Option Addr} {ys : List Int} {n : Int} (h : Ans B w p ys n) (hn : n < Nm.pw 4096) : Nm.tsize ys ≤ 4096 := by
  rw [h.2.2.1]
  exact h.small hn

/-- A number's list has a limb. -/
theorem Ans.pos {B : Nat} {w : World} {p : Option Addr} {ys : List Int} {n : Int} (h : Ans B w p ys n) (hn : 0 < n) : 0 < Nm.tsize ys := by
  have h1 := Nm.tsize_zero_iff h.2.1
  have h2 := h.2.2.2.1
  omega

/-- What newton's numbers keep to. -/
structure Near (A r : Int) : Prop where
  one : 1 ≤ r
  small : r ≤ Nm.pw 128
  above : A < (r + 1) * (r + 1)

set_option maxRecDepth 100000 in
set_option maxHeartbeats 1000000 in
theorem step_ok (p s : Option Addr) (n cap : Nat) (za rs : List Int) (A r : Int) (B : Nat) (w : World) (ha : Arg w p n cap za) (hr : Ans B w s rs r) (hT : Tab w) (hA : Nm.val za = A) (hA1 : 1 ≤ A) (hA2 : A < Nm.pw 256) (hN : Near A r) :
    Calls Tryd.prog 55 #[.slice p n cap, .slice s (List.length rs) (List.length rs)] w fun e w' => ∃ t os, e = .returned (.slice t (List.length os) (List.length os)) ∧ Ans w.heap.size w' t os ((r + A / r) / 2) ∧ Below w.heap.size w w' := by
  have P0 := Rt.room
  have p128 := Nm.pw_pos 128
  have p256 := Nm.pw_pos 256
  have hr1 := hN.one
  have hr2 := hN.small
  have SD : A / r * r + A % r = A ∧ 0 ≤ A % r ∧ A % r < r ∧ 0 ≤ A / r ∧ A / r ≤ A := by
    have ed := Int.emod_add_mul_ediv A r
    have e0 := Int.emod_nonneg A (show r ≠ 0 by omega)
    have e1 := Int.emod_lt_of_pos A (show 0 < r by omega)
    have e2 : 0 ≤ A / r := Int.ediv_nonneg (by omega) (by omega)
    have e3 : A / r * 1 ≤ A / r * r := Int.mul_le_mul_of_nonneg_left (by omega) e2
    rw [Int.mul_comm] at ed
    exact ⟨by omega, e0, e1, e2, by omega⟩
  have hAs : A < Nm.pw 4096 ∧ r < Nm.pw 4096 ∧ A / r < Nm.pw 4096 ∧ r + A / r < Nm.pw 4096 := by
    generalize Nm.pw 4096 = x at *
    generalize Nm.pw 128 = y at *
    generalize Nm.pw 256 = z at *
    omega
  have h2 : 2 ≤ r + A / r := by
    rcases (show r = 1 ∨ 2 ≤ r by omega) with h | h
    · subst h
      rw [Int.ediv_one]
      omega
    · omega
  have ta : Nm.tsize za ≤ 4096 := (Nm.tsize_le_iff ha.2.2.2.2 4096).2 (by rw [hA]; exact hAs.1)
  have DM := divMod_ok p s n cap _ _ za rs w ha (hr.argR hAs.2.1) ta (hr.tsR hAs.2.1) (hr.pos (by omega))
  rw [hA, hr.2.2.2.1] at DM
  have HDM := hid DM
  have HR := hid hr
  have HT := hid hT
  have HS := hid hAs
  have H2 := hid h2
  clear DM ta SD P0 p128 p256 hr1 hr2 hAs h2 ha hr hT hA hA1 hA2 hN
  obtain ⟨q, HQ⟩ : ∃ q, Hid (A / r = q) := ⟨_, rfl⟩
  simp only [Splits, HQ.out] at HDM
  rw [HQ.out] at HS H2 ⊢
  go_enter Tryd.func55, Tryd.ntmps55
  go_wp2_with fail
  refine HDM.out.mono ?_
  rintro e w1 ⟨s1, os, s2, us, rfl, B1, -, hb1⟩
  have HB1 := hid B1
  have HR1 := hid (HR.out.below hb1 (Nat.le_refl _))
  have HT1 := hid (HT.out.below hb1)
  have D1 := hid hb1
  clear B1 hb1 HDM HR HT
  go_wp2_with fail
  refine (add_ok s s1 _ _ _ _ rs os _ (HR1.out.argR HS.out.2.1) (HB1.out.argR HS.out.2.2.1) (by rw [HR1.out.2.2.2.1, HB1.out.2.2.2.1]; exact HS.out.2.2.2)).mono ?_
  rintro e w2 ⟨s3, ts, rfl, B2, hb2⟩
  rw [HR1.out.2.2.2.1, HB1.out.2.2.2.1] at B2
  have HB2 := hid B2
  have HT2 := hid (HT1.out.below hb2)
  have D2 := hid (chain D1.out hb2 (Nat.le_refl _))
  clear B2 hb2 HT1 D1 HR1 HB1
  obtain ⟨L, l1, l2, l3, _⟩ := blen_is (Nm.trim ts) HB2.out.2.1.trim
  rw [Nm.trim_trim] at l3
  have hL : 1 < L := by
    rw [Nm.val_trim, HB2.out.2.2.2.1] at l2
    have h := l2.1
    have h2 := H2.out
    rcases (show L ≤ 1 ∨ 1 < L by omega) with c | c
    · have := Nm.two_mono c
      omega
    · exact c
  have SH := shr_ok s3 _ _ ts 1 1 L w2 (HB2.out.argR HS.out.2.2.2) HT2.out (HB2.out.tsR HS.out.2.2.2) rfl l1 l3 hL
  rw [HB2.out.2.2.2.1, show (2 : Int) ^ 1 = 2 by decide] at SH
  have HSH := hid SH
  clear SH l1 l2 l3 hL
  go_wp2_with fail
  refine HSH.out.mono ?_
  rintro e w3 ⟨s4, vs, rfl, B3, hb3⟩
  have HB3 := hid (B3.up D2.out.size)
  have D3 := hid (chain D2.out hb3 (Nat.le_refl _))
  clear B3 hb3
  go_wp2_with fail
  go_ret
  exact ⟨s4, vs, rfl, HB3.out, D3.out⟩

set_option maxRecDepth 100000 in
set_option maxHeartbeats 1000000 in
theorem newton_ok (p : Option Addr) (n cap : Nat) (za : List Int) (A : Int) (w : World) (ha : Arg w p n cap za) (hT : Tab w) (hA : Nm.val za = A) (hA1 : 1 ≤ A) (hA2 : A < Nm.pw 256) :
    Calls Tryd.prog 36 #[.slice p n cap] w fun e w' => ∃ t os R, e = .returned (.slice t (List.length os) (List.length os)) ∧ Ans w.heap.size w' t os R ∧ Hid (Near A R ∧ R * R ≤ A) ∧ Below w.heap.size w w' := by
  obtain ⟨L, l1, l2, l3, _⟩ := blen_is za ha.2.2.2.2
  have ts : Nm.tsize za ≤ 256 := (Nm.tsize_le_iff ha.2.2.2.2 256).2 (by rw [hA]; exact hA2)
  rw [hA] at l2
  obtain ⟨h, hh⟩ : ∃ h, (L + 1) / 2 = h := ⟨_, rfl⟩
  have r1 : ((L : Int) + 1) / 2 = (h : Int) := by omega
  have r2 : ((L : Int) + 1).tdiv 2 = (h : Int) := by rw [Int.tdiv_eq_ediv_of_nonneg (by omega)]; exact r1
  have hL : (L : Int) ≤ 16384 := by omega
  have N0 : Near A (2 ^ h) := by
    refine ⟨by have := Nm.two_pos h; omega, ?_, Rt.start l2.1 (by omega)⟩
    rw [Nm.pw_two]
    exact Nm.two_mono (by omega)
  have BL := bitLen_any p n cap za w ha
  rw [l1] at BL
  have hb0 : Below w.heap.size w (w.alloc (.cells #[.int .u64 1] 26)) := (Below.refl _ _).alloc (Nat.le_refl _) _
  have A0 : Arg (w.alloc (.cells #[.int .u64 1] 26)) (some ⟨w.heap.size, 0, none⟩) 1 1 [1] := ⟨rfl, Nat.le_refl _, by omega, (Own.alloc w [1]).lies, limb_one (by omega)⟩
  have BL2 := bitLen_any p n cap za _ (ha.below hb0 (Nat.le_refl _))
  rw [l1] at BL2
  obtain ⟨L1, k1, _, k3, _⟩ := blen_is (Nm.trim [1]) (limb_one (x := 1) (by omega)).trim
  have t1 : Nm.tsize [1] = 1 := by simp [Nm.tsize]
  rw [Nm.trim_trim, t1] at k3
  have SH := shl_ok _ 1 1 [1] (h : Int) h L1 _ A0 (by rw [t1]; omega) rfl (by rw [t1]; omega) k1 (by omega)
  rw [show Nm.val [1] * 2 ^ h = 2 ^ h by simp [Nm.val]] at SH
  have HSH := hid SH
  have HBL := hid BL2
  have HN0 := hid N0
  have HA := hid ha
  have HT := hid hT
  have HV := hid hA
  have H1 := hid hA1
  have HS := hid hA2
  have HB0 := hid hb0
  have h0 : (0 : Int) ≤ (h : Int) := by omega
  clear l1 l2 l3 k1 k3 SH BL BL2 N0 ha hT hA hA1 hA2 hb0 A0 ts t1 hh
  go_enter Tryd.func36, Tryd.ntmps36
  go_wp2_with fail
  refine HBL.out.mono ?_
  rintro e w' ⟨rfl, rfl⟩
  go_wp2_with fail
  refine HSH.out.mono ?_
  rintro e w1 ⟨s1, os, rfl, B1, hb1⟩
  have HB1 := hid (B1.up HB0.out.size)
  have D1 := hid (chain HB0.out hb1 (Nat.le_refl _))
  clear B1 hb1 HSH HBL HB0
  go_wp2_with fail
  go_loopg [3] ((2 : Int) ^ h).toNat (fun x c wr => ∃ (R : Int) (t : Option Addr) (os : List Int), c = .slice t (List.length os) (List.length os) ∧ Hid (x = R.toNat) ∧ Hid (Ans w.heap.size wr t os R) ∧ Hid (Near A R) ∧ Hid (Below w.heap.size w wr))
  case atStart => exact ⟨2 ^ h, s1, os, rfl, rfl, HB1.out, HN0.out, D1.out⟩
  case round =>
    clear HB1 D1 HN0 r1 r2
    obtain ⟨R, t, os, rfl, GK, HO, HN, D⟩ := hrel
    have ST := hid (step_ok p t n cap za os A R w.heap.size wr (HA.out.below D.out (Nat.le_refl _)) HO.out (HT.out.below D.out) HV.out H1.out HS.out HN.out)
    go_wp2_with fail
    refine ST.out.mono ?_
    rintro e w2 ⟨t2, os2, rfl, B2, hb2⟩
    have HB2 := hid (B2.up D.out.size)
    have HO2 := hid (HO.out.below hb2 (Nat.le_refl _))
    have D2 := hid (chain D.out hb2 (Nat.le_refl _))
    clear B2 hb2 ST
    have hq := Int.emod_add_mul_ediv A R
    have hq1 := Int.emod_nonneg A (show R ≠ 0 by have := HN.out.one; omega)
    have hq2 := Int.emod_lt_of_pos A (show 0 < R by have := HN.out.one; omega)
    have hq3 : 0 ≤ A / R := Int.ediv_nonneg (by have := H1.out; omega) (by have := HN.out.one; omega)
    have hq4 : A / R * 1 ≤ A / R * R := Int.mul_le_mul_of_nonneg_left (by have := HN.out.one; omega) hq3
    rw [Int.mul_comm] at hq
    have AB := hid (Rt.above (A := A) (n := (R + A / R) / 2) HN.out.one hq3 (by rw [Int.add_mul, Int.one_mul]; omega) (by omega))
    have TH := hid (fun h => Rt.there (A := A) (q := A / R) HN.out.one (by omega) h)
    have hR2 : 2 ≤ R + A / R := by
      rcases (show R = 1 ∨ 2 ≤ R by have := HN.out.one; omega) with h | h
      · subst h
        rw [Int.ediv_one]
        have := H1.out
        omega
      · omega
    have room := Rt.room
    have p128 := Nm.pw_pos 128
    have p256 := Nm.pw_pos 256
    have hsm : R < Nm.pw 4096 ∧ (R + A / R) / 2 < Nm.pw 4096 := by
      have h1 := HN.out.small
      have h2 := HS.out
      generalize Nm.pw 4096 = x at *
      generalize Nm.pw 128 = y at *
      generalize Nm.pw 256 = z at *
      omega
    have HSM := hid hsm
    obtain ⟨X, HX⟩ : ∃ X, Hid ((R + A / R) / 2 = X) := ⟨_, rfl⟩
    have hX1 : 1 ≤ X := by rw [← HX.out]; omega
    rw [HX.out] at HB2 AB TH HSM
    have HX1 := hid hX1
    clear hq hq1 hq2 hq3 hq4 hR2 room p128 p256 hsm hX1
    by_cases hlt : X < R
    · have NX : Hid (Near A X) := ⟨HX1.out, by have := HN.out.small; omega, AB.out⟩
      have HLT := hid hlt
      clear hlt
      go_wp2_with fail
      refine (cmp_is (-1) t2 t _ _ _ _ os2 os _ (HB2.out.argR HSM.out.2) (HO2.out.argR HSM.out.1) (cmpI_lt (by rw [HB2.out.2.2.2.1, HO2.out.2.2.2.1]; exact HLT.out))).mono ?_
      rintro e w3 ⟨rfl, hb3⟩
      have HB3 := hid (HB2.out.below hb3 (Nat.le_refl _))
      have D3 := hid (chain D2.out hb3 (Nat.le_refl _))
      clear hb3
      go_wp2_with fail
      go_roundg X.toNat
      case measure => have := GK.out; have := HLT.out; have := HX1.out; omega
      case rel => exact ⟨X, t2, os2, rfl, rfl, HB3.out, NX.out, D3.out⟩
    · obtain ⟨c, hc0, HC⟩ : ∃ c : Int, 0 ≤ c ∧ Hid (cmpI X R = c) := by
        rcases (show X = R ∨ R < X by omega) with h | h
        · exact ⟨0, by omega, cmpI_eq h⟩
        · exact ⟨1, by omega, cmpI_gt h⟩
      have FI : Hid (Near A R ∧ R * R ≤ A) := ⟨HN.out, TH.out (by omega)⟩
      clear hlt
      go_wp2_with fail
      refine (cmp_is c t2 t _ _ _ _ os2 os _ (HB2.out.argR HSM.out.2) (HO2.out.argR HSM.out.1) (by rw [HB2.out.2.2.2.1, HO2.out.2.2.2.1]; exact HC.out)).mono ?_
      rintro e w3 ⟨rfl, hb3⟩
      have HB3 := hid (HO2.out.below hb3 (Nat.le_refl _))
      have D3 := hid (chain D2.out hb3 (Nat.le_refl _))
      clear hb3
      go_wp2_with fail
      go_ret
      exact ⟨t, os, R, rfl, HB3.out, FI, D3.out⟩
end Go.Proofs.YthfechigdiefpaaDoor
