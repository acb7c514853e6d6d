/-
  Texts put together: QRoot, QSquaresRoot, XRoot, XSqrt, XSpec3, XTold, XBd, XFlag4, XFlag5, XFlag6, YTold0, ZPlus.
-/
import Derived.Test.YtljpmddjcfkonaaGreatDoorRD
import Derived.Test.YtljpmddjcfkonaaGreatDoorShr
import Derived.Test.YtljpmddjcfkonaaGreatDoorRC
import Derived.Deep.LoopGhost
import Derived.Test.YtljpmddjcfkonaaGreatDoorFromW
import Derived.Test.YtljpmddjcfkonaaGreatDoorSmall
import Derived.Test.YtljpmddjcfkonaaGreatDoorXNum
import Derived.Test.YtljpmddjcfkonaaGreatDoorRB
import Derived.Test.YtljpmddjcfkonaaGreatDoorZPush
import Derived.Test.YtljpmddjcfkonaaGreatDoorZRef3
namespace Go.Proofs.YtljpmddjcfkonaaGreatDoor
open Go.RowKit Go.Deep

namespace Rt
/-- Newton's step stays above the root. -/
theorem above {A r q n : Int} (hr : 1 ≤ r) (hq0 : 0 ≤ q) (hq : A < (q + 1) * r) (hn : r + q ≤ 2 * n + 1) : A < (n + 1) * (n + 1) := by
  have h1 : 4 * ((q + 1) * r) ≤ (r + q + 1) * (r + q + 1) := by
    have h2 : 0 ≤ (r - (q + 1)) * (r - (q + 1)) := by
      rcases Int.le_total 0 (r - (q + 1)) with h | h
      · exact Int.mul_nonneg h h
      · exact Int.mul_nonneg_of_nonpos_of_nonpos h h
    have e1 : (r - (q + 1)) * (r - (q + 1)) = r * r - 2 * ((q + 1) * r) + (q + 1) * (q + 1) := by
      rw [Int.sub_mul, Int.mul_sub, Int.mul_sub, Int.mul_comm r (q + 1)]; omega
    have e2 : (r + q + 1) * (r + q + 1) = r * r + 2 * ((q + 1) * r) + (q + 1) * (q + 1) := by
      have e : ∀ y : Int, (r + y) * (r + y) = r * r + 2 * (y * r) + y * y := fun y => by rw [Int.add_mul, Int.mul_add, Int.mul_add, Int.mul_comm r y]; omega
      rw [show r + q + 1 = r + (q + 1) by omega]
      exact e (q + 1)
    omega
  have h3 : (r + q + 1) * (r + q + 1) ≤ (2 * (n + 1)) * (2 * (n + 1)) := Int.mul_le_mul (by omega) (by omega) (by omega) (by omega)
  have e3 : (2 * (n + 1)) * (2 * (n + 1)) = 4 * ((n + 1) * (n + 1)) := by
    rw [Int.mul_assoc, Int.mul_left_comm (n + 1)]; omega
  omega

/-- Where the steps fall no more, the root is there. -/
theorem there {A r q : Int} (hr : 1 ≤ r) (hq : q * r ≤ A) (h : r ≤ (r + q) / 2) : r * r ≤ A := by
  have h1 : r ≤ q := by omega
  have h2 : r * r ≤ q * r := Int.mul_le_mul_of_nonneg_right h1 (by omega)
  omega

theorem start {A : Int} {L h : Nat} (hA : A < 2 ^ L) (hh : L ≤ 2 * h) : A < (2 ^ h + 1) * (2 ^ h + 1) := by
  have h1 := Nm.two_mono hh
  have h2 : (2 : Int) ^ (2 * h) = 2 ^ h * 2 ^ h := by rw [← Nm.two_add]; congr 1; omega
  have h3 := Nm.two_pos h
  rw [Int.add_mul, Int.mul_add, Int.one_mul, Int.mul_one]
  omega

theorem room_any (a b c : Nat) (ha : a ≤ c) (hb : b ≤ c) : Nm.pw a + Nm.pw b ≤ Nm.pw (c + 1) := by
  have h1 := Nm.pw_mono ha
  have h2 := Nm.pw_mono hb
  have h3 := Nm.pw_pos c
  rw [Nm.pw_succ]
  omega

theorem room : Nm.pw 128 + Nm.pw 256 ≤ Nm.pw 4096 := room_any 128 256 4095 (by omega) (by omega)
end Rt

theorem Ans.argR {B : Nat} {w : World} {p : Option Addr} {ys : List Int} {n : Int} (h : Ans B w p ys n) (hn : n < Nm.pw 4096) : Arg w p ys.length ys.length ys :=
  h.arg (by have := h.small hn; omega)

theorem Ans.tsR {B : Nat} {w : World} {p : Option Addr} {ys : List Int} {n : Int} (h : Ans B w p ys n) (hn : n < Nm.pw 4096) : Nm.tsize ys ≤ 4096 := by
  rw [h.2.2.1]
  exact h.small hn

/-- A number's list has a limb. -/
theorem Ans.pos {B : Nat} {w : World} {p : Option Addr} {ys : List Int} {n : Int} (h : Ans B w p ys n) (hn : 0 < n) : 0 < Nm.tsize ys := by
  have h1 := Nm.tsize_zero_iff h.2.1
  have h2 := h.2.2.2.1
  omega

/-- What newton's numbers keep to. -/
structure Near (A r : Int) : Prop where
  one : 1 ≤ r
  small : r ≤ Nm.pw 128
  above : A < (r + 1) * (r + 1)

set_option maxRecDepth 100000 in
set_option maxHeartbeats 1000000 in
theorem step_ok (p s : Option Addr) (n cap : Nat) (za rs : List Int) (A r : Int) (B : Nat) (w : World) (ha : Arg w p n cap za) (hr : Ans B w s rs r) (hT : Tab w) (hA : Nm.val za = A) (hA1 : 1 ≤ A) (hA2 : A < Nm.pw 256) (hN : Near A r) :
    Calls Tryz.prog 118 #[.slice p n cap, .slice s (List.length rs) (List.length rs)] w fun e w' => ∃ t os, e = .returned (.slice t (List.length os) (List.length os)) ∧ Ans w.heap.size w' t os ((r + A / r) / 2) ∧ Below w.heap.size w w' := by
  have P0 := Rt.room
  have p128 := Nm.pw_pos 128
  have p256 := Nm.pw_pos 256
  have hr1 := hN.one
  have hr2 := hN.small
  have SD : A / r * r + A % r = A ∧ 0 ≤ A % r ∧ A % r < r ∧ 0 ≤ A / r ∧ A / r ≤ A := by
    have ed := Int.emod_add_mul_ediv A r
    have e0 := Int.emod_nonneg A (show r ≠ 0 by omega)
    have e1 := Int.emod_lt_of_pos A (show 0 < r by omega)
    have e2 : 0 ≤ A / r := Int.ediv_nonneg (by omega) (by omega)
    have e3 : A / r * 1 ≤ A / r * r := Int.mul_le_mul_of_nonneg_left (by omega) e2
    rw [Int.mul_comm] at ed
    exact ⟨by omega, e0, e1, e2, by omega⟩
  have hAs : A < Nm.pw 4096 ∧ r < Nm.pw 4096 ∧ A / r < Nm.pw 4096 ∧ r + A / r < Nm.pw 4096 := by
    generalize Nm.pw 4096 = x at *
    generalize Nm.pw 128 = y at *
    generalize Nm.pw 256 = z at *
    omega
  have h2 : 2 ≤ r + A / r := by
    rcases (show r = 1 ∨ 2 ≤ r by omega) with h | h
    · subst h
      rw [Int.ediv_one]
      omega
    · omega
  have ta : Nm.tsize za ≤ 4096 := (Nm.tsize_le_iff ha.2.2.2.2 4096).2 (by rw [hA]; exact hAs.1)
  have DM := divMod_ok p s n cap _ _ za rs w ha (hr.argR hAs.2.1) ta (hr.tsR hAs.2.1) (hr.pos (by omega))
  rw [hA, hr.2.2.2.1] at DM
  have HDM := hid DM
  have HR := hid hr
  have HT := hid hT
  have HS := hid hAs
  have H2 := hid h2
  clear DM ta SD P0 p128 p256 hr1 hr2 hAs h2 ha hr hT hA hA1 hA2 hN
  obtain ⟨q, HQ⟩ : ∃ q, Hid (A / r = q) := ⟨_, rfl⟩
  simp only [Splits, HQ.out] at HDM
  rw [HQ.out] at HS H2 ⊢
  go_enter Tryz.func118, Tryz.ntmps118
  go_wp2_with fail
  refine HDM.out.mono ?_
  rintro e w1 ⟨s1, os, s2, us, rfl, B1, -, hb1⟩
  have HB1 := hid B1
  have HR1 := hid (HR.out.below hb1 (Nat.le_refl _))
  have HT1 := hid (HT.out.below hb1)
  have D1 := hid hb1
  clear B1 hb1 HDM HR HT
  go_wp2_with fail
  refine (add_ok s s1 _ _ _ _ rs os _ (HR1.out.argR HS.out.2.1) (HB1.out.argR HS.out.2.2.1) (by rw [HR1.out.2.2.2.1, HB1.out.2.2.2.1]; exact HS.out.2.2.2)).mono ?_
  rintro e w2 ⟨s3, ts, rfl, B2, hb2⟩
  rw [HR1.out.2.2.2.1, HB1.out.2.2.2.1] at B2
  have HB2 := hid B2
  have HT2 := hid (HT1.out.below hb2)
  have D2 := hid (chain D1.out hb2 (Nat.le_refl _))
  clear B2 hb2 HT1 D1 HR1 HB1
  obtain ⟨L, l1, l2, l3, _⟩ := blen_is (Nm.trim ts) HB2.out.2.1.trim
  rw [Nm.trim_trim] at l3
  have hL : 1 < L := by
    rw [Nm.val_trim, HB2.out.2.2.2.1] at l2
    have h := l2.1
    have h2 := H2.out
    rcases (show L ≤ 1 ∨ 1 < L by omega) with c | c
    · have := Nm.two_mono c
      omega
    · exact c
  have SH := shr_ok s3 _ _ ts 1 1 L w2 (HB2.out.argR HS.out.2.2.2) HT2.out (HB2.out.tsR HS.out.2.2.2) rfl l1 l3 hL
  rw [HB2.out.2.2.2.1, show (2 : Int) ^ 1 = 2 by decide] at SH
  have HSH := hid SH
  clear SH l1 l2 l3 hL
  go_wp2_with fail
  refine HSH.out.mono ?_
  rintro e w3 ⟨s4, vs, rfl, B3, hb3⟩
  have HB3 := hid (B3.up D2.out.size)
  have D3 := hid (chain D2.out hb3 (Nat.le_refl _))
  clear B3 hb3
  go_wp2_with fail
  go_ret
  exact ⟨s4, vs, rfl, HB3.out, D3.out⟩

set_option maxRecDepth 100000 in
set_option maxHeartbeats 1000000 in
theorem newton_ok (p : Option Addr) (n cap : Nat) (za : List Int) (A : Int) (w : World) (ha : Arg w p n cap za) (hT : Tab w) (hA : Nm.val za = A) (hA1 : 1 ≤ A) (hA2 : A < Nm.pw 256) :
    Calls Tryz.prog 107 #[.slice p n cap] w fun e w' => ∃ t os R, e = .returned (.slice t (List.length os) (List.length os)) ∧ Ans w.heap.size w' t os R ∧ Hid (Near A R ∧ R * R ≤ A) ∧ Below w.heap.size w w' := by
  obtain ⟨L, l1, l2, l3, _⟩ := blen_is za ha.2.2.2.2
  have ts : Nm.tsize za ≤ 256 := (Nm.tsize_le_iff ha.2.2.2.2 256).2 (by rw [hA]; exact hA2)
  rw [hA] at l2
  obtain ⟨h, hh⟩ : ∃ h, (L + 1) / 2 = h := ⟨_, rfl⟩
  have r1 : ((L : Int) + 1) / 2 = (h : Int) := by omega
  have r2 : ((L : Int) + 1).tdiv 2 = (h : Int) := by rw [Int.tdiv_eq_ediv_of_nonneg (by omega)]; exact r1
  have hL : (L : Int) ≤ 16384 := by omega
  have N0 : Near A (2 ^ h) := by
    refine ⟨by have := Nm.two_pos h; omega, ?_, Rt.start l2.1 (by omega)⟩
    rw [Nm.pw_two]
    exact Nm.two_mono (by omega)
  have BL := bitLen_any p n cap za w ha
  rw [l1] at BL
  have hb0 : Below w.heap.size w (w.alloc (.cells #[.int .u64 1] 23)) := (Below.refl _ _).alloc (Nat.le_refl _) _
  have A0 : Arg (w.alloc (.cells #[.int .u64 1] 23)) (some ⟨w.heap.size, 0, none⟩) 1 1 [1] := ⟨rfl, Nat.le_refl _, by omega, (Own.alloc w [1]).lies, limb_one (by omega)⟩
  have BL2 := bitLen_any p n cap za _ (ha.below hb0 (Nat.le_refl _))
  rw [l1] at BL2
  obtain ⟨L1, k1, _, k3, _⟩ := blen_is (Nm.trim [1]) (limb_one (x := 1) (by omega)).trim
  have t1 : Nm.tsize [1] = 1 := by simp [Nm.tsize]
  rw [Nm.trim_trim, t1] at k3
  have SH := shl_ok _ 1 1 [1] (h : Int) h L1 _ A0 (by rw [t1]; omega) rfl (by rw [t1]; omega) k1 (by omega)
  rw [show Nm.val [1] * 2 ^ h = 2 ^ h by simp [Nm.val]] at SH
  have HSH := hid SH
  have HBL := hid BL2
  have HN0 := hid N0
  have HA := hid ha
  have HT := hid hT
  have HV := hid hA
  have H1 := hid hA1
  have HS := hid hA2
  have HB0 := hid hb0
  have h0 : (0 : Int) ≤ (h : Int) := by omega
  clear l1 l2 l3 k1 k3 SH BL BL2 N0 ha hT hA hA1 hA2 hb0 A0 ts t1 hh
  go_enter Tryz.func107, Tryz.ntmps107
  go_wp2_with fail
  refine HBL.out.mono ?_
  rintro e w' ⟨rfl, rfl⟩
  go_wp2_with fail
  refine HSH.out.mono ?_
  rintro e w1 ⟨s1, os, rfl, B1, hb1⟩
  have HB1 := hid (B1.up HB0.out.size)
  have D1 := hid (chain HB0.out hb1 (Nat.le_refl _))
  clear B1 hb1 HSH HBL HB0
  go_wp2_with fail
  go_loopg [3] ((2 : Int) ^ h).toNat (fun x c wr => ∃ (R : Int) (t : Option Addr) (os : List Int), c = .slice t (List.length os) (List.length os) ∧ Hid (x = R.toNat) ∧ Hid (Ans w.heap.size wr t os R) ∧ Hid (Near A R) ∧ Hid (Below w.heap.size w wr))
  case atStart => exact ⟨2 ^ h, s1, os, rfl, rfl, HB1.out, HN0.out, D1.out⟩
  case round =>
    clear HB1 D1 HN0 r1 r2
    obtain ⟨R, t, os, rfl, GK, HO, HN, D⟩ := hrel
    have ST := hid (step_ok p t n cap za os A R w.heap.size wr (HA.out.below D.out (Nat.le_refl _)) HO.out (HT.out.below D.out) HV.out H1.out HS.out HN.out)
    go_wp2_with fail
    refine ST.out.mono ?_
    rintro e w2 ⟨t2, os2, rfl, B2, hb2⟩
    have HB2 := hid (B2.up D.out.size)
    have HO2 := hid (HO.out.below hb2 (Nat.le_refl _))
    have D2 := hid (chain D.out hb2 (Nat.le_refl _))
    clear B2 hb2 ST
    have hq := Int.emod_add_mul_ediv A R
    have hq1 := Int.emod_nonneg A (show R ≠ 0 by have := HN.out.one; omega)
    have hq2 := Int.emod_lt_of_pos A (show 0 < R by have := HN.out.one; omega)
    have hq3 : 0 ≤ A / R := Int.ediv_nonneg (by have := H1.out; omega) (by have := HN.out.one; omega)
    have hq4 : A / R * 1 ≤ A / R * R := Int.mul_le_mul_of_nonneg_left (by have := HN.out.one; omega) hq3
    rw [Int.mul_comm] at hq
    have AB := hid (Rt.above (A := A) (n := (R + A / R) / 2) HN.out.one hq3 (by rw [Int.add_mul, Int.one_mul]; omega) (by omega))
    have TH := hid (fun h => Rt.there (A := A) (q := A / R) HN.out.one (by omega) h)
    have hR2 : 2 ≤ R + A / R := by
      rcases (show R = 1 ∨ 2 ≤ R by have := HN.out.one; omega) with h | h
      · subst h
        rw [Int.ediv_one]
        have := H1.out
        omega
      · omega
    have room := Rt.room
    have p128 := Nm.pw_pos 128
    have p256 := Nm.pw_pos 256
    have hsm : R < Nm.pw 4096 ∧ (R + A / R) / 2 < Nm.pw 4096 := by
      have h1 := HN.out.small
      have h2 := HS.out
      generalize Nm.pw 4096 = x at *
      generalize Nm.pw 128 = y at *
      generalize Nm.pw 256 = z at *
      omega
    have HSM := hid hsm
    obtain ⟨X, HX⟩ : ∃ X, Hid ((R + A / R) / 2 = X) := ⟨_, rfl⟩
    have hX1 : 1 ≤ X := by rw [← HX.out]; omega
    rw [HX.out] at HB2 AB TH HSM
    have HX1 := hid hX1
    clear hq hq1 hq2 hq3 hq4 hR2 room p128 p256 hsm hX1
    by_cases hlt : X < R
    · have NX : Hid (Near A X) := ⟨HX1.out, by have := HN.out.small; omega, AB.out⟩
      have HLT := hid hlt
      clear hlt
      go_wp2_with fail
      refine (cmp_is (-1) t2 t _ _ _ _ os2 os _ (HB2.out.argR HSM.out.2) (HO2.out.argR HSM.out.1) (cmpI_lt (by rw [HB2.out.2.2.2.1, HO2.out.2.2.2.1]; exact HLT.out))).mono ?_
      rintro e w3 ⟨rfl, hb3⟩
      have HB3 := hid (HB2.out.below hb3 (Nat.le_refl _))
      have D3 := hid (chain D2.out hb3 (Nat.le_refl _))
      clear hb3
      go_wp2_with fail
      go_roundg X.toNat
      case measure => have := GK.out; have := HLT.out; have := HX1.out; omega
      case rel => exact ⟨X, t2, os2, rfl, rfl, HB3.out, NX.out, D3.out⟩
    · obtain ⟨c, hc0, HC⟩ : ∃ c : Int, 0 ≤ c ∧ Hid (cmpI X R = c) := by
        rcases (show X = R ∨ R < X by omega) with h | h
        · exact ⟨0, by omega, cmpI_eq h⟩
        · exact ⟨1, by omega, cmpI_gt h⟩
      have FI : Hid (Near A R ∧ R * R ≤ A) := ⟨HN.out, TH.out (by omega)⟩
      clear hlt
      go_wp2_with fail
      refine (cmp_is c t2 t _ _ _ _ os2 os _ (HB2.out.argR HSM.out.2) (HO2.out.argR HSM.out.1) (by rw [HB2.out.2.2.2.1, HO2.out.2.2.2.1]; exact HC.out)).mono ?_
      rintro e w3 ⟨rfl, hb3⟩
      have HB3 := hid (HO2.out.below hb3 (Nat.le_refl _))
      have D3 := hid (chain D2.out hb3 (Nat.le_refl _))
      clear hb3
      go_wp2_with fail
      go_ret
      exact ⟨t, os, R, rfl, HB3.out, FI, D3.out⟩
end Go.Proofs.YtljpmddjcfkonaaGreatDoor

namespace Go.Proofs.YtljpmddjcfkonaaGreatDoor
open Go.RowKit Go.Deep

/-- The whole root. -/
def IsRoot (A R : Int) : Prop := 0 ≤ R ∧ R * R ≤ A ∧ A < (R + 1) * (R + 1)

theorem limbs_isR (p : Option Addr) (n cap : Nat) (zs : List Int) (N : Nat) (w : World) (ha : Arg w p n cap zs) (hN : Nm.tsize zs = N) :
    Calls Tryz.prog 106 #[.slice p n cap] w fun e w' => e = .returned (.int .i64 (N : Int)) ∧ w' = w := by
  rw [← hN]
  exact limbs_any p n cap zs w ha

theorem root_big (p : Option Addr) (n cap : Nat) (za : List Int) (w : World) (ha : Arg w p n cap za) (tz : 256 < Nm.tsize za) :
    Calls Tryz.prog 75 #[.slice p n cap] w fun e w' => e = .returned (.tuple #[.slice none 0 0, .bool false, .int .i64 2]) ∧ w' = w := by
  obtain ⟨N, HN⟩ : ∃ N, Hid (Nm.tsize za = N) := ⟨_, rfl⟩
  have hN : (256 : Int) < (N : Int) := by have := HN.out; omega
  have HL := hid (limbs_isR p n cap za N w ha HN.out)
  clear ha tz
  go_enter Tryz.func75, Tryz.ntmps75
  go_wp2_with fail
  refine HL.out.mono ?_
  rintro e w' ⟨rfl, rfl⟩
  go_wp2_with fail
  go_ret3
  exact ⟨rfl, rfl⟩

theorem ret_root {t : Option Addr} {k : Nat} {b c : Bool} {e : Int} (h : b = c) : Ending.returned (.tuple #[.slice t k k, .bool b, .int .i64 e]) = .returned (.tuple #[.slice t k k, .bool c, .int .i64 e]) := by rw [h]

set_option maxRecDepth 100000 in
set_option maxHeartbeats 1000000 in
theorem root_ok (p : Option Addr) (n cap : Nat) (za : List Int) (A : Int) (w : World) (ha : Arg w p n cap za) (hT : Tab w) (tz : Nm.tsize za ≤ 256) (hA : Nm.val za = A) :
    Calls Tryz.prog 75 #[.slice p n cap] w fun e w' => ∃ t os R, e = .returned (.tuple #[.slice t (List.length os) (List.length os), .bool (decide (R * R = A)), .int .i64 0]) ∧ Ans w.heap.size w' t os R ∧ Hid (IsRoot A R) ∧ Below w.heap.size w w' := by
  obtain ⟨N, HN⟩ : ∃ N, Hid (Nm.tsize za = N) := ⟨_, rfl⟩
  have hN : (N : Int) ≤ 256 := by have := HN.out; omega
  have HL := hid (limbs_isR p n cap za N w ha HN.out)
  have hz := Nm.tsize_zero_iff ha.2.2.2.2
  have h0 := (Nm.val_bd za ha.2.2.2.2).1
  have hA2 : A < Nm.pw 256 := by rw [← hA]; exact (Nm.tsize_le_iff ha.2.2.2.2 256).1 tz
  rw [hA] at hz h0
  by_cases hN0 : N = 0
  · have hA0 : A = 0 := hz.1 (by rw [HN.out]; exact hN0)
    subst hN0
    subst hA0
    clear ha tz hz h0 hA2 hA
    go_enter Tryz.func75, Tryz.ntmps75
    go_wp2_with fail
    refine HL.out.mono ?_
    rintro e w' ⟨rfl, rfl⟩
    go_wp2_with fail
    refine HL.out.mono ?_
    rintro e w' ⟨rfl, rfl⟩
    go_wp2_with fail
    go_ret3
    exact ⟨none, [], 0, rfl, ans_none _ _ _ (fun a h => by cases h), show IsRoot 0 0 from ⟨by omega, by omega, by omega⟩, Below.refl _ _⟩
  · have hN1 : ((N : Int) == 0) = false := by rw [beq_eq_false_iff_ne]; omega
    have hA1 : 1 ≤ A := by
      rcases (show A = 0 ∨ 1 ≤ A by omega) with h | h
      · exact absurd (HN.out.symm.trans (hz.2 h)) hN0
      · exact h
    have NW := hid (newton_ok p n cap za A w ha hT hA hA1 hA2)
    have HA := hid ha
    have HV := hid hA
    have room := Rt.room
    have p128 := Nm.pw_pos 128
    have hAs : Hid (A < Nm.pw 4096) := by
      show _ < _
      generalize Nm.pw 4096 = x at *
      generalize Nm.pw 128 = y at *
      generalize Nm.pw 256 = z at *
      omega
    have HS : Hid (Nm.pw 128 < Nm.pw 4096) := by
      have p256 := Nm.pw_pos 256
      show _ < _
      generalize Nm.pw 4096 = x at *
      generalize Nm.pw 128 = y at *
      generalize Nm.pw 256 = z at *
      omega
    clear ha tz hz h0 hA2 hA hT room p128 hA1
    go_enter Tryz.func75, Tryz.ntmps75
    go_wp2_with fail
    refine HL.out.mono ?_
    rintro e w' ⟨rfl, rfl⟩
    go_wp2_with fail
    refine HL.out.mono ?_
    rintro e w' ⟨rfl, rfl⟩
    go_wp2_with fail
    refine NW.out.mono ?_
    rintro e w1 ⟨t, os, R, rfl, B1, HR, hb1⟩
    have HB1 := hid B1
    have D1 := hid hb1
    have HA1 := hid (HA.out.below hb1 (Nat.le_refl _))
    have hR : Hid (R < Nm.pw 4096) := Int.lt_of_le_of_lt HR.out.1.small HS.out
    have hRR : Hid (R * R < Nm.pw 4096) := Int.lt_of_le_of_lt HR.out.2 hAs.out
    clear B1 hb1 NW
    go_wp2_with fail
    refine (mul_ok t t _ _ _ _ os os _ (HB1.out.argR hR.out) (HB1.out.argR hR.out) (HB1.out.tsR hR.out) (HB1.out.tsR hR.out) (by rw [HB1.out.2.2.2.1]; exact hRR.out)).mono ?_
    rintro e w2 ⟨s, ss, rfl, B2, hb2⟩
    rw [HB1.out.2.2.2.1] at B2
    have HB2 := hid B2
    have HB1' := hid (HB1.out.below hb2 (Nat.le_refl _))
    have HA2 := hid (HA1.out.below hb2 (Nat.le_refl _))
    have D2 := hid (chain D1.out hb2 (Nat.le_refl _))
    have FI : Hid (IsRoot A R) := ⟨by have := HR.out.1.one; omega, HR.out.2, HR.out.1.above⟩
    clear B2 hb2 HB1 HA1 D1 HR
    obtain ⟨c, HC⟩ : ∃ c, Hid (cmpI (R * R) A = c) := ⟨_, rfl⟩
    have HE : Hid ((c == 0) = decide (R * R = A)) := by
      show _ = _
      rw [← HC.out, cmpI]
      have := FI.out.2.1
      by_cases h : R * R < A
      · rw [if_pos h]
        simp
        omega
      · rw [if_neg h, if_pos (by omega)]
        simp
        omega
    go_wp2_with fail
    refine (cmp_is c s p _ _ n cap ss za _ (HB2.out.argR hRR.out) HA2.out (by rw [HB2.out.2.2.2.1, HV.out]; exact HC.out)).mono ?_
    rintro e w3 ⟨rfl, hb3⟩
    have HB3 := hid (HB1'.out.below hb3 (Nat.le_refl _))
    have D3 := hid (chain D2.out hb3 (Nat.le_refl _))
    clear hb3
    go_wp2_with fail
    go_ret3
    exact ⟨t, os, R, ret_root HE.out, HB3.out, FI, D3.out⟩
end Go.Proofs.YtljpmddjcfkonaaGreatDoor

/-
  The root: what the squares of the middles say.
-/
namespace Go.Proofs.YtljpmddjcfkonaaGreatDoor
namespace Ie

theorem sq_le {a b : Int} (h0 : 0 ≤ a) (h : a ≤ b) : a * a ≤ b * b := Int.mul_le_mul h h h0 (by omega)
theorem sq_lt {a b : Int} (h0 : 0 ≤ a) (h : a < b) : a * a < b * b := by
  have h1 : a * a ≤ a * b := Int.mul_le_mul_of_nonneg_left (by omega) h0
  have h2 : a * b < b * b := Int.mul_lt_mul_of_pos_right h (by omega)
  omega

/-- The double x is the root of W, in units of 2^-2150: between the squares of the middles. -/
def RootIs (W x : Int) : Prop :=
  (0 < x ∧ x < 9218868437227405312) ∧ (md (x - 1) * md (x - 1) < W ∨ (md (x - 1) * md (x - 1) = W ∧ x % 2 = 0)) ∧ (W < md x * md x ∨ (W = md x * md x ∧ x % 2 = 0))

/-- What lies between a whole number of 64 bits and the next one holds no middle. -/
theorem no_md {r M : Int} {E a b : Nat} (hr : 1152921504606846976 ≤ r) (_M0 : 0 < M) (M1 : M < 18014398509481984) (h : r * 2 ^ a < M * 2 ^ E * 2 ^ b) : (r + 1) * 2 ^ a ≤ M * 2 ^ E * 2 ^ b := by
  rw [Int.mul_assoc, ← Nm.two_add] at h ⊢
  have lt : a < E + b := by
    rcases Nat.lt_or_ge a (E + b) with h' | h'
    · exact h'
    · exfalso
      have p := Nm.two_pos (E + b)
      have g1 : M * 2 ^ (E + b) < 18014398509481984 * 2 ^ (E + b) := Int.mul_lt_mul_of_pos_right M1 p
      have g2 := Nm.two_mono h'
      have g3 : 1152921504606846976 * 2 ^ a ≤ r * 2 ^ a := Int.mul_le_mul_of_nonneg_right hr (by have := Nm.two_pos a; omega)
      omega
  rw [show E + b = (E + b - a) + a by omega, Nm.two_add (E + b - a) a, ← Int.mul_assoc] at h ⊢
  have p := Nm.two_pos a
  have := Int.lt_of_mul_lt_mul_right h (by omega)
  exact Int.mul_le_mul_of_nonneg_right (by omega) (by omega)

theorem two_sq (a : Nat) : (2 : Int) ^ a * 2 ^ a = 2 ^ (2 * a) := by rw [← Nm.two_add]; congr 1; omega

theorem mul_sq (r : Int) (a : Nat) : r * 2 ^ a * (r * 2 ^ a) = r * r * 2 ^ (2 * a) := by
  rw [← two_sq]; ac_rfl

/-- n the radicand, r its whole root, moved by e; W = n * 2^(2 e + 2150). -/
theorem root_is (n r e x W : Int) (more : Bool) (hr : 1152921504606846976 ≤ r) (h1 : r * r ≤ n) (h2 : n < (r + 1) * (r + 1)) (hm : more = decide (r * r ≠ n)) (h : Rnd r 1 e more x)
    (c d : Nat) (hcd : (c : Int) - d = 2 * e + 2150) (hW : n * 2 ^ c = W * 2 ^ d) (hlo : 1 < W) (hhi : W < 18014398509481983 * 2 ^ 2045 * (18014398509481983 * 2 ^ 2045)) : RootIs W x := by
  obtain ⟨a, b, hab, hN⟩ := h.at
  rw [Int.one_mul] at hN
  have pa := Nm.two_pos a
  have pb := Nm.two_pos b
  have p2a := Nm.two_pos (2 * a)
  have p2b := Nm.two_pos (2 * b)
  -- W * 2^(2b) = n * 2^(2a)
  have key : n * 2 ^ (2 * a) = W * 2 ^ (2 * b) := by
    have pd := Nm.two_pos d
    have pc := Nm.two_pos c
    have e1 : (2 : Int) ^ (2 * a) * 2 ^ d = 2 ^ c * 2 ^ (2 * b) := by rw [← Nm.two_add, ← Nm.two_add]; congr 1; omega
    refine Int.eq_of_mul_eq_mul_right (a := 2 ^ d) (by omega) ?_
    rw [Int.mul_assoc, e1, ← Int.mul_assoc, hW]
    ac_rfl
  have lo : ∀ y, 0 ≤ y → (md y * 2 ^ b < r * 2 ^ a ∨ (md y * 2 ^ b = r * 2 ^ a ∧ (x % 2 = 0 ∨ more = true))) → md y * md y < W ∨ (md y * md y = W ∧ x % 2 = 0) := by
    intro y hy g
    have my := md_nn y hy
    have g0 : md y * 2 ^ b ≤ r * 2 ^ a := by rcases g with g | g <;> omega
    have g1 := sq_le (Int.mul_nonneg (by omega) (by omega)) g0
    rw [mul_sq, mul_sq] at g1
    have g2 : r * r * 2 ^ (2 * a) ≤ n * 2 ^ (2 * a) := Int.mul_le_mul_of_nonneg_right h1 (by omega)
    have g3 : md y * md y * 2 ^ (2 * b) ≤ W * 2 ^ (2 * b) := by omega
    have g4 := Int.le_of_mul_le_mul_right g3 p2b
    rcases (show md y * md y < W ∨ md y * md y = W by omega) with g5 | g5
    · exact .inl g5
    · right
      refine ⟨g5, ?_⟩
      rw [← g5] at key
      have g6 : r * r * 2 ^ (2 * a) = n * 2 ^ (2 * a) := by omega
      have g7 : r * r = n := Int.eq_of_mul_eq_mul_right (by omega) g6
      have g8 : more = false := by rw [hm]; simp [g7]
      rcases g with g | ⟨_, g⟩
      · have g9 := sq_lt (Int.mul_nonneg (by omega) (by omega)) g
        rw [mul_sq, mul_sq] at g9
        omega
      · rcases g with g | g
        · exact g
        · rw [g8] at g; cases g
  have hi : ∀ y, 0 ≤ y → (r * 2 ^ a < md y * 2 ^ b ∨ (r * 2 ^ a = md y * 2 ^ b ∧ x % 2 = 0 ∧ more = false)) → W < md y * md y ∨ (W = md y * md y ∧ x % 2 = 0) := by
    intro y hy g
    rcases g with g | ⟨g, g', g''⟩
    · left
      obtain ⟨M, E, hM, M0, M1⟩ := md_form y hy
      rw [hM] at g
      have g1 := no_md hr M0 M1 g
      rw [← hM] at g1
      have g2 := sq_le (Int.mul_nonneg (by omega) (by omega)) g1
      rw [mul_sq, mul_sq] at g2
      have g3 := Int.mul_lt_mul_of_pos_right h2 p2a
      refine Int.lt_of_mul_lt_mul_right (a := 2 ^ (2 * b)) ?_ (by omega)
      omega
    · right
      refine ⟨?_, g'⟩
      have g1 : r * r = n := by
        rw [hm] at g''
        simpa using g''
      have g2 : r * 2 ^ a * (r * 2 ^ a) = md y * 2 ^ b * (md y * 2 ^ b) := by rw [g]
      rw [mul_sq, mul_sq, g1] at g2
      exact Int.eq_of_mul_eq_mul_right (a := 2 ^ (2 * b)) (by omega) (by omega)
  have x0 : 0 < x := by
    rcases (show x = 0 ∨ 0 < x by have := hN.1.1; omega) with h0 | h0
    · exfalso
      subst h0
      have g := hi 0 (by omega) (hN.2.2 (by omega))
      rw [md_zero] at g
      omega
    · exact h0
  have x1 : x < 9218868437227405312 := by
    rcases (show x = 9218868437227405312 ∨ x < 9218868437227405312 by have := hN.1.2; omega) with h0 | h0
    · exfalso
      subst h0
      have g := lo 9218868437227405311 (by omega) (hN.2.1 (by omega))
      rw [md_last] at g
      omega
    · exact h0
  exact ⟨⟨x0, x1⟩, lo (x - 1) (by omega) (hN.2.1 x0), hi x (by omega) (hN.2.2 x1)⟩

theorem RootIs.one {W x y : Int} (h : RootIs W x) (k : RootIs W y) : x = y := by
  have key : ∀ {x y : Int}, RootIs W x → RootIs W y → ¬ x < y := by
    intro x y h k hl
    have g1 := h.2.2
    have g2 := k.2.1
    have hx := h.1.1
    have m1 := md_nn x (by omega)
    rcases (show x = y - 1 ∨ x < y - 1 by omega) with e | e
    · rw [← e] at g2
      rcases g1 with g1 | ⟨g1, g1'⟩ <;> rcases g2 with g2 | ⟨g2, g2'⟩ <;> omega
    · have := sq_lt (by omega) (md_lt (by omega) e)
      rcases g1 with g1 | ⟨g1, g1'⟩ <;> rcases g2 with g2 | ⟨g2, g2'⟩ <;> omega
  have a := key h k
  have b := key k h
  omega
end Ie
end Go.Proofs.YtljpmddjcfkonaaGreatDoor

/-
  soft: root, sqrt, Sqrt (made by mksqrt.py).
-/
namespace Go.Proofs.YtljpmddjcfkonaaGreatDoor
open Go Go.RowKit Go.Deep

theorem i64_and1 (n : Int) : bits .and .i64 n 1 = n % 2 := by
  have h1 : (BitVec.ofInt 64 1).toNat = 2 ^ 1 - 1 := by decide
  have key : (BitVec.ofInt 64 n &&& BitVec.ofInt 64 1).toNat = (n % ((2 ^ 64 : Nat) : Int)).toNat % 2 ^ 1 := by
    rw [BitVec.toNat_and, BitVec.toNat_ofInt, h1, Nat.and_two_pow_sub_one_eq_mod]
  show IntKind.i64.wrap ((BitVec.ofInt 64 n &&& BitVec.ofInt 64 1).toNat : Nat) = n % 2
  rw [key, IntKind.wrap_i64]
  omega

/-- What root answers. -/
def RootTold (V e : Int) (w : World) (r : Ending) (w' : World) : Prop :=
  ∃ (p : Option Addr) (os : List Int) (R k : Int) (d : Nat), r = .returned (exactOf false p (List.length os) (List.length os) k (!decide (R * R = V * 2 ^ d))) ∧ Ans w.heap.size w' p os R ∧ (d = 128 ∨ d = 129) ∧ 2 * k = e - d ∧ IsRoot (V * 2 ^ d) R ∧ Below w.heap.size w w'

set_option maxRecDepth 100000 in
set_option maxHeartbeats 4000000 in
theorem root_xany (n1 m1 : Bool) (p1 : Option Addr) (l1 c1 : Nat) (z1 : List Int) (e V : Int) (w : World) (a1 : Arg w p1 l1 c1 z1) (hT : Tab w) (hV : Nm.val z1 = V) (b1 : V < 2 ^ 60) (q1 : -1100 ≤ e) (q2 : e ≤ 1000) :
    Calls Tryz.prog 38 #[exactOf n1 p1 l1 c1 e m1] w fun r w' => RootTold V e w r w' := by
  have v0 : 0 ≤ V := by rw [← hV]; exact (Nm.val_bd z1 a1.2.2.2.2).1
  obtain ⟨m, hm⟩ : ∃ m, e % 2 = m := ⟨_, rfl⟩
  have m0 : 0 ≤ m ∧ m ≤ 1 := by omega
  obtain ⟨d, hd⟩ : ∃ d : Nat, (d : Int) = 128 + m := ⟨(128 + m).toNat, by omega⟩
  obtain ⟨k, hk⟩ : ∃ k, 2 * k = e - (128 + m) := ⟨(e - (128 + m)) / 2, by omega⟩
  have BA := i64_and1 e
  rw [hm] at BA
  have TD : (e - (128 + m)).tdiv 2 = k := by
    rw [← hk, Int.mul_tdiv_cancel_left _ (by decide)]
  have WK : wrap64 k = k := by simp only [wrap64]; omega
  have e4096 := pw_4096
  have big := Nm.two_mono (show 189 ≤ 262144 by omega)
  have b60 := Nm.two_mono (show 60 ≤ 189 by omega)
  have pr : V * 2 ^ d < 2 ^ 189 := by
    have h2 : V * 2 ^ d < 2 ^ 60 * 2 ^ d := Int.mul_lt_mul_of_pos_right b1 (Nm.two_pos d)
    rw [← Nm.two_add] at h2
    have := Nm.two_mono (show 60 + d ≤ 189 by omega)
    omega
  have t1 : Nm.tsize z1 ≤ 4096 := (Nm.tsize_le_iff a1.2.2.2.2 4096).2 (by rw [hV]; omega)
  have S1 : Hid (∀ (wx : World) (j : Int), Below w.heap.size w wx → j = 128 + m → Calls Tryz.prog 68 #[.slice p1 l1 c1, .int .i64 j] wx fun e w' => ∃ r os, e = .returned (.tuple #[.slice r (List.length os) (List.length os), .int .i64 0]) ∧ Ans wx.heap.size w' r os (V * 2 ^ d) ∧ Below wx.heap.size wx w') := by
    intro wx j hx hj
    have := shl_any p1 l1 c1 z1 j d wx (a1.below hx (Nat.le_refl _)) t1 (by omega) (by rw [hV]; omega)
    rw [hV] at this
    exact this
  have R1 : Hid (∀ (wx : World) (p : Option Addr) (os : List Int) (B : Nat), Below w.heap.size w wx → Ans B wx p os (V * 2 ^ d) → Calls Tryz.prog 75 #[.slice p os.length os.length] wx fun e w' => ∃ t qs R, e = .returned (.tuple #[.slice t (List.length qs) (List.length qs), .bool (decide (R * R = V * 2 ^ d)), .int .i64 0]) ∧ Ans wx.heap.size w' t qs R ∧ Hid (IsRoot (V * 2 ^ d) R) ∧ Below wx.heap.size wx w') := by
    intro wx p os B hx A
    have g := (A.tl pr (show 189 ≤ 262144 by omega))
    refine root_ok p _ _ os _ wx (A.arg (by omega)) (hT.below hx) ?_ A.2.2.2.1
    refine (Nm.tsize_le_iff A.2.1 256).2 ?_
    rw [A.2.2.2.1, Nm.pw_two]
    have := Nm.two_mono (show 189 ≤ 64 * 256 by omega)
    omega
  have h1 := alloc_b w (.cells #[.bool n1, .slice p1 l1 c1, .int .i64 e, .bool m1] 54)
  have s1 : (w.alloc (.cells #[.bool n1, .slice p1 l1 c1, .int .i64 e, .bool m1] 54)).heap.size = w.heap.size + 1 := by simp
  have R0 := Row4.new (w.alloc (.cells #[.bool n1, .slice p1 l1 c1, .int .i64 e, .bool m1] 54)) 54 (.bool false) (.slice none 0 0) (.int .i64 0) (.bool false)
  rw [s1] at R0
  have X0 := (Row4.new w 54 (.bool n1) (.slice p1 l1 c1) (.int .i64 e) (.bool m1)).below (alloc_b (w.alloc (.cells #[.bool n1, .slice p1 l1 c1, .int .i64 e, .bool m1] 54)) (.cells #[.bool false, .slice none 0 0, .int .i64 0, .bool false] 54)) (by omega)
  have h2 := Below.alloc h1 h1.size (.cells #[.bool false, .slice none 0 0, .int .i64 0, .bool false] 54)
  have HR := hid R0
  have HX := hid X0
  have HB := hid h2
  have FI : Hid (∀ (w3 : World) (p : Option Addr) (os : List Int) (R : Int), Ans (w.heap.size + 2) w3 p os R → Below w.heap.size w w3 → IsRoot (V * 2 ^ d) R →
      RootTold V e w (.returned (exactOf false p (List.length os) (List.length os) k (!decide (R * R = V * 2 ^ d)))) ((((w3.setCell ⟨w.heap.size + 1, 0, none⟩ (.bool false)).setCell ⟨w.heap.size + 1, 1, none⟩ (.slice p os.length os.length)).setCell ⟨w.heap.size + 1, 2, none⟩ (.int .i64 k)).setCell ⟨w.heap.size + 1, 3, none⟩ (.bool (!decide (R * R = V * 2 ^ d))))) := by
    intro w3 p os R A hB hR
    have A' := A.set4 (b := w.heap.size + 1) (u0 := .bool false) (u1 := .slice p os.length os.length) (u2 := .int .i64 k) (u3 := .bool (!decide (R * R = V * 2 ^ d))) (by omega)
    exact ⟨p, os, R, k, d, rfl, ⟨A'.1, A'.2.1, A'.2.2.1, A'.2.2.2.1, fun a h => by have := A'.2.2.2.2 a h; omega⟩, by omega, by omega, hR, set4_below hB (by omega)⟩
  obtain ⟨⟨y0, y1, y2, y3⟩, -⟩ := X0.cells
  simp only [exactOf]
  clear a1 hT hV b1 v0 hm hd hk e4096 big b60 pr t1 h1 s1 R0 X0 h2
  generalize V * 2 ^ d = N at *
  obtain ⟨m0, m1'⟩ := m0
  go_enter Tryz.func38, Tryz.ntmps38
  go_wp2_with fail
  refine (S1.out _ _ HB.out (by omega)).mono ?_
  rintro r wa ⟨pa, oa, rfl, A, hB⟩
  have Ra := HR.out.below hB HR.out.lt
  have Xa := HX.out.below hB HX.out.lt
  have Ba := HB.out.trans (hB.mono HB.out.size)
  have RO := hid (R1.out wa pa oa _ Ba A)
  have HRa := hid Ra
  have HXa := hid Xa
  have HBa := hid Ba
  have LT := hid (Nat.lt_of_lt_of_le HR.out.lt hB.size)
  clear y0 y1 y2 y3
  obtain ⟨⟨y0, y1, y2, y3⟩, -⟩ := Xa.cells
  clear A hB Ra Xa Ba S1 R1 HR HX HB
  go_wp2_with fail
  refine RO.out.mono ?_
  rintro r wb ⟨pb, ob, R, rfl, A, hIs, hB⟩
  have Rb := HRa.out.below hB HRa.out.lt
  have Xb := HXa.out.below hB HXa.out.lt
  have lt := LT.out
  have KK := hid (FI.out wb pb ob R ⟨A.1, A.2.1, A.2.2.1, A.2.2.2.1, fun a h => by have := A.2.2.2.2 a h; omega⟩ (HBa.out.trans (hB.mono HBa.out.size)) hIs.out)
  clear y0 y1 y2 y3
  obtain ⟨⟨y0, y1, y2, y3⟩, -⟩ := Xb.cells
  have RR := hid Rb
  obtain ⟨⟨r0, r1, r2, r3⟩, ⟨f0, f1, f2, f3⟩⟩ := Rb.cells
  clear A hB Rb Xb RO HRa HXa HBa LT lt FI hIs
  go_wp2_with fail
  (try simp only [Exit.inBlock, Exit.then])
  refine bodyPost_ret (results_cell_row rfl _ _ (w.heap.size + 1) 54 _ (0, 0) _ rfl (Row4.set RR.out) Tryz.underlying54 rfl (by kernel_rfl)) rfl ?_
  exact KK.out

namespace Ie
/-- What sqrt answers. -/
def SqrtIs (a r f : Int) : Prop :=
  if isn a = true then r = 9221120237041090560 ∧ f = 0
  else if isz a = true ∨ a = 9218868437227405312 then r = a ∧ f = 0
  else if ngd a = true then r = 9221120237041090560 ∧ f = 1
  else ∃ (R k : Int) (d : Nat), (d = 128 ∨ d = 129) ∧ 2 * k = de a - d ∧ IsRoot (dm a * 2 ^ d) R ∧ Res false R k (!decide (R * R = dm a * 2 ^ d)) r f

theorem root_small {N R : Int} (h : IsRoot N R) (hN : N < 2 ^ 189) : R < 2 ^ 189 := by
  have h0 := h.1
  have h1 := h.2.1
  rcases (show R = 0 ∨ 1 ≤ R by omega) with g | g
  · have := Nm.two_pos 189; omega
  · have : R * 1 ≤ R * R := Int.mul_le_mul_of_nonneg_left g h0
    omega
end Ie

set_option maxRecDepth 100000 in
set_option maxHeartbeats 4000000 in
theorem sqrt_any (a : Int) (w : World) (a0 : 0 ≤ a) (a1 : a < 18446744073709551616) (hT : Tab w) :
    Calls Tryz.prog 11 #[.int .u64 a] w fun e w' => Told2 (Ie.SqrtIs a) w e w' := by
  have NA := hid (fun (wx : World) => nan_any a wx a0 a1)
  have ZA := hid (fun (wx : World) => zero_any a wx a0 a1)
  have SA := Ib.sign_and a a0 a1
  have KK : Hid (∀ (e : Ending) (r f : Int), e = .returned (.tuple #[.int .u64 r, .int .i64 f]) → Ie.SqrtIs a r f → Told2 (Ie.SqrtIs a) w e w) := fun e r f h1 h2 => ⟨r, f, h1, h2, Below.refl _ _⟩
  cases na : Ie.isn a
  · rw [na] at NA
    cases za : Ie.isz a
    · rw [za] at ZA
      by_cases hi : a = 9218868437227405312
      · have SP : Hid (Ie.SqrtIs a a 0) := by rw [Hid, Ie.SqrtIs, na, za]; simp [hi]
        subst hi
        clear na za hT SA
        go_enter Tryz.func11, Tryz.ntmps11
        go_wp2_with fail
        refine (NA.out _).mono ?_
        rintro e wz ⟨rfl, hz⟩
        replace hz := hz.symm
        subst hz
        go_wp2_with fail
        refine (ZA.out _).mono ?_
        rintro e wz ⟨rfl, hz⟩
        replace hz := hz.symm
        subst hz
        go_wp2_with fail
        go_ret2
        exact KK.out _ _ _ rfl SP.out
      · have hi' : (a == 9218868437227405312) = false := by rw [beq_eq_false_iff_ne]; exact hi
        cases ng : Ie.ngd a
        · have s0 : a / 9223372036854775808 = 0 := by
            rw [Ie.ngd, decide_eq_false_iff_not] at ng
            omega
          rw [s0, Int.zero_mul] at SA
          have fa : Ie.fin a := by
            rw [Ie.isn, decide_eq_false_iff_not] at na
            rw [Ie.ngd, decide_eq_false_iff_not] at ng
            rw [Ie.fin]
            simp only [Ie.ab] at na ⊢
            omega
          obtain ⟨⟨da0, da1⟩, ⟨ea0, ea1⟩, -, -⟩ := Ie.dec_f a fa
          have e60 : (2 : Int) ^ 60 = 1152921504606846976 := by decide
          have da2 : Ie.dm a < 2 ^ 60 := by omega
          have UA := hid (fun (wx : World) => number_any a wx a0 a1 fa)
          have RT : Hid (∀ (wx : World) (p : Option Addr) (os : List Int) (B : Nat), Below w.heap.size w wx → Ans B wx p os (Ie.dm a) → Calls Tryz.prog 38 #[exactOf (Ie.ngd a) p os.length os.length (Ie.de a) false] wx fun r w' => RootTold (Ie.dm a) (Ie.de a) wx r w') := by
            intro wx p os B hx A
            exact root_xany _ _ p _ _ os _ _ wx (A.arg (by have := A.tl da2 (show 60 ≤ 262144 by omega); omega)) (hT.below hx) A.2.2.2.1 da2 (by omega) (by omega)
          have RO : Hid (∀ (wx : World) (p : Option Addr) (os : List Int) (R k : Int) (d : Nat) (more : Bool) (B : Nat), Below w.heap.size w wx → Ans B wx p os R → (d = 128 ∨ d = 129) → 2 * k = Ie.de a - d → IsRoot (Ie.dm a * 2 ^ d) R → Calls Tryz.prog 36 #[exactOf false p os.length os.length k more] wx fun r w' => RoundedTold false R k more wx r w') := by
            intro wx p os R k d more B hx A hd hk hI
            have hN : Ie.dm a * 2 ^ d < 2 ^ 189 := by
              have h2 : Ie.dm a * 2 ^ d < 2 ^ 60 * 2 ^ d := Int.mul_lt_mul_of_pos_right da2 (Nm.two_pos d)
              rw [← Nm.two_add] at h2
              have := Nm.two_mono (show 60 + d ≤ 189 by omega)
              omega
            have vb := Ie.root_small hI hN
            have m5 := Nm.two_mono (show 189 ≤ 5000 by omega)
            exact rounded_any false more p _ _ os k R wx (A.arg (by have := A.tl vb (show 189 ≤ 262144 by omega); omega)) (hT.below hx) A.2.2.2.1 A.len0 (by omega) (by omega) (by omega)
          have FI : Hid (∀ (r f : Int), (∃ (R k : Int) (d : Nat), (d = 128 ∨ d = 129) ∧ 2 * k = Ie.de a - d ∧ IsRoot (Ie.dm a * 2 ^ d) R ∧ Ie.Res false R k (!decide (R * R = Ie.dm a * 2 ^ d)) r f) → Ie.SqrtIs a r f) := by
            intro r f h
            rw [Ie.SqrtIs, na, za, ng]
            simp only [Bool.false_eq_true, hi, or_self, if_false]
            exact h
          clear na za ng hi hT da0 da1 ea0 ea1 e60 da2 fa s0
          go_enter Tryz.func11, Tryz.ntmps11
          go_wp2_with fail
          refine (NA.out _).mono ?_
          rintro e wz ⟨rfl, hz⟩
          replace hz := hz.symm
          subst hz
          go_wp2_with fail
          refine (ZA.out _).mono ?_
          rintro e wz ⟨rfl, hz⟩
          replace hz := hz.symm
          subst hz
          go_wp2_with fail
          refine (UA.out _).mono ?_
          rintro e w1 ⟨pa, oa, rfl, A1, hB1⟩
          have RT1 := hid (RT.out w1 pa oa _ hB1 A1)
          have HB := hid hB1
          simp only [exactOf] at RT1 ⊢
          clear A1 hB1 RT UA
          go_wp2_with fail
          refine RT1.out.mono ?_
          rintro e w2 ⟨p, os, R, k, d, rfl, A2, hd, hk, hI, hB2⟩
          have Bw := HB.out.trans (hB2.mono HB.out.size)
          have RR := hid (RO.out w2 p os R k d (!decide (R * R = Ie.dm a * 2 ^ d)) _ Bw A2 hd hk hI)
          have HC := hid Bw
          have HS := hid (And.intro hd (And.intro hk hI))
          simp only [exactOf] at RR ⊢
          have FI2 : Hid (∀ (r f : Int), Ie.Res false R k (!decide (R * R = Ie.dm a * 2 ^ d)) r f → Ie.SqrtIs a r f) := fun r f h => FI.out r f ⟨R, k, d, hd, hk, hI, h⟩
          generalize (!decide (R * R = Ie.dm a * 2 ^ d)) = mo at *
          clear A2 hB2 Bw RO RT1 HB hd hk hI
          go_wp2_with fail
          refine RR.out.mono ?_
          rintro e w4 ⟨x, t, L, rfl, h1, h2, h3, hB4⟩
          have KR : Hid (Told2 (Ie.SqrtIs a) w (.returned (.tuple #[.int .u64 (Ie.sg false x), .int .i64 (Ie.flg R k mo (Ie.sg false x) t L)])) w4) :=
            ⟨_, _, rfl, FI2.out _ _ ⟨x, t, L, rfl, rfl, h1, h2, h3⟩, HC.out.trans (hB4.mono HC.out.size)⟩
          clear h1 h2 h3 hB4 HC RR FI FI2 HS
          go_wp2_with fail
          go_ret2
          exact KR.out
        · have s0 : a / 9223372036854775808 = 1 := by
            rw [Ie.ngd, decide_eq_true_eq] at ng
            omega
          rw [s0, Int.one_mul] at SA
          have SP : Hid (Ie.SqrtIs a 9221120237041090560 1) := by rw [Hid, Ie.SqrtIs, na, za, ng]; simp [hi]
          clear na za ng hi hT s0
          go_enter Tryz.func11, Tryz.ntmps11
          go_wp2_with fail
          refine (NA.out _).mono ?_
          rintro e wz ⟨rfl, hz⟩
          replace hz := hz.symm
          subst hz
          go_wp2_with fail
          refine (ZA.out _).mono ?_
          rintro e wz ⟨rfl, hz⟩
          replace hz := hz.symm
          subst hz
          go_wp2_with fail
          go_ret2
          exact KK.out _ _ _ rfl SP.out
    · have SP : Hid (Ie.SqrtIs a a 0) := by rw [Hid, Ie.SqrtIs, na, za]; simp
      rw [za] at ZA
      clear na za hT SA
      go_enter Tryz.func11, Tryz.ntmps11
      go_wp2_with fail
      refine (NA.out _).mono ?_
      rintro e wz ⟨rfl, hz⟩
      replace hz := hz.symm
      subst hz
      go_wp2_with fail
      refine (ZA.out _).mono ?_
      rintro e wz ⟨rfl, hz⟩
      replace hz := hz.symm
      subst hz
      go_wp2_with fail
      go_ret2
      exact KK.out _ _ _ rfl SP.out
  · have SP : Hid (Ie.SqrtIs a 9221120237041090560 0) := by rw [Hid, Ie.SqrtIs, na]; simp
    rw [na] at NA
    clear na hT SA
    go_enter Tryz.func11, Tryz.ntmps11
    go_wp2_with fail
    refine (NA.out _).mono ?_
    rintro e wz ⟨rfl, hz⟩
    replace hz := hz.symm
    subst hz
    go_wp2_with fail
    go_ret2
    exact KK.out _ _ _ rfl SP.out
set_option maxRecDepth 100000 in
set_option maxHeartbeats 4000000 in
theorem softSqrt_any (a : Int) (w : World) (a0 : 0 ≤ a) (a1 : a < 18446744073709551616) (hT : Tab w) :
    Calls Tryz.prog 6 #[.int .u64 a] w fun e w' => Told1 (Ie.SqrtIs a) w e w' := by
  have AD := hid (sqrt_any a w a0 a1 hT)
  clear hT
  go_enter Tryz.func6, Tryz.ntmps6
  go_wp2_with fail
  refine AD.out.mono ?_
  rintro e w1 ⟨r, f, rfl, h, hB⟩
  have KK : Hid (Told1 (Ie.SqrtIs a) w (.returned (.int .u64 r)) w1) := ⟨r, f, rfl, h, hB⟩
  clear h hB AD
  go_wp2_with fail
  go_ret
  exact KK.out
end Go.Proofs.YtljpmddjcfkonaaGreatDoor

/-
  What sqrt answers of a double above nothing: between the squares of the middles.
-/
namespace Go.Proofs.YtljpmddjcfkonaaGreatDoor
namespace Ie

theorem SqrtIs.get {a r f : Int} (fa : fin a) (hz : ab a ≠ 0) (hn : ngd a = false) (h : SqrtIs a r f) : ∃ (R k : Int) (d : Nat), (d = 128 ∨ d = 129) ∧ 2 * k = de a - d ∧ IsRoot (dm a * 2 ^ d) R ∧ Res false R k (!decide (R * R = dm a * 2 ^ d)) r f := by
  have za : isz a = false := by rw [isz, decide_eq_false_iff_not]; exact hz
  have hi : ¬ a = 9218868437227405312 := by
    intro h
    rw [fin, h] at fa
    revert fa
    decide
  rw [SqrtIs, (fin_not fa).1, za, hn] at h
  simp only [Bool.false_eq_true, hi, or_self, if_false] at h
  exact h

theorem SqrtIs.root {a r f : Int} (fa : fin a) (hz : ab a ≠ 0) (hn : ngd a = false) (h : SqrtIs a r f) : RootIs (un (ab a) * 2 ^ 1076) r := by
  obtain ⟨R, k, d, hd, hk, hI, x, t, L, rfl, -, hR, -, -⟩ := h.get fa hz hn
  obtain ⟨⟨da0, da1⟩, ⟨ea0, ea1⟩, ga, za⟩ := dec_f a fa
  have dp : 0 < dm a := by omega
  have up := un_pos (x := ab a) (by have := (ab_bd a).1; omega)
  have nb : (2 : Int) ^ 128 ≤ dm a * 2 ^ d := by
    have h1 : 1 * 2 ^ d ≤ dm a * 2 ^ d := Int.mul_le_mul_of_nonneg_right (by omega) (by have := Nm.two_pos d; omega)
    have h2 := Nm.two_mono (show 128 ≤ d by omega)
    omega
  have rb : 18446744073709551616 ≤ R := by
    rcases (show 18446744073709551616 ≤ R ∨ R + 1 ≤ 18446744073709551616 by omega) with g | g
    · exact g
    · exfalso
      have h1 := sq_le (show 0 ≤ R + 1 by have := hI.1; omega) g
      have h2 : (2 : Int) ^ 128 = 18446744073709551616 * 18446744073709551616 := by decide
      have h3 := hI.2.2
      omega
  obtain ⟨ka, hka⟩ : ∃ k : Nat, (k : Int) = de a + 1074 := ⟨(de a + 1074).toNat, by omega⟩
  obtain ⟨c, hc⟩ : ∃ c : Nat, (c : Int) = de a + 2150 - d := ⟨(de a + 2150 - d).toNat, by omega⟩
  have um : un (ab a) < 2 ^ 2099 := by
    have h1 := un_lt (ab_bd a).1 fa
    have e1 : man 9218868437227405312 = 4503599627370496 := by decide
    have e2 : ex 9218868437227405312 = 2046 := by decide
    have e3 : un 9218868437227405312 = 2 ^ 2098 := by rw [un, e1, e2, show 2098 = 52 + 2046 by rfl, Nm.two_add]; rfl
    have e4 : (2 : Int) ^ 2099 = 2 * 2 ^ 2098 := Nm.two_succ 2098
    have := Nm.two_pos 2098
    omega
  refine root_is (dm a * 2 ^ d) R k r _ _ (by omega) hI.2.1 hI.2.2 (by simp) hR c 0 (by omega) ?_ ?_ ?_
  · rw [← ga ka hka, Int.pow_zero, Int.mul_one, Int.mul_assoc, Int.mul_assoc, ← Nm.two_add, ← Nm.two_add, show d + c = ka + 1076 by omega]
  · have h1 : 1 * 2 ^ 1076 ≤ un (ab a) * 2 ^ 1076 := Int.mul_le_mul_of_nonneg_right (by omega) (by have := Nm.two_pos 1076; omega)
    have h2 := Nm.two_mono (show 1 ≤ 1076 by omega)
    have h3 : (2 : Int) ^ 1 = 2 := rfl
    omega
  · have h1 : un (ab a) * 2 ^ 1076 < 2 ^ 2099 * 2 ^ 1076 := Int.mul_lt_mul_of_pos_right um (Nm.two_pos 1076)
    rw [← Nm.two_add] at h1
    have h2 : (2 : Int) ^ 2045 ≤ 18014398509481983 * 2 ^ 2045 := by have := Nm.two_pos 2045; omega
    have h3 := sq_le (show 0 ≤ (2 : Int) ^ 2045 by have := Nm.two_pos 2045; omega) h2
    rw [← Nm.two_add] at h3
    have h4 := Nm.two_mono (show 2099 + 1076 ≤ 2045 + 2045 by omega)
    omega

/-- A square of a double has it for its root. -/
theorem root_sq (y : Int) (h0 : 0 < y) (h1 : y < 9218868437227405312) : RootIs (vl y * vl y) y := by
  refine ⟨⟨h0, h1⟩, .inl ?_, .inl ?_⟩
  · have g := md_lt_vl (y - 1) (by omega)
    rw [show y - 1 + 1 = y by omega] at g
    exact sq_lt (by have := md_nn (y - 1) (by omega); omega) g
  · exact sq_lt (vl_nn (by omega)) (vl_lt_md y)

theorem sqrt_9 {r f : Int} (h : SqrtIs 4621256167635550208 r f) : r = 4613937818241073152 := by
  have h1 := h.root (by rw [fin]; decide) (by decide) (by decide)
  have e : ab 4621256167635550208 = 4621256167635550208 := by decide
  rw [e] at h1
  have h2 := root_sq 4613937818241073152 (by omega) (by omega)
  have e2 : vl 4613937818241073152 * vl 4613937818241073152 = un 4621256167635550208 * 2 ^ 1076 := by
    rw [vl_un, un_3, un_9]
    have e1 : (2 : Int) ^ 1076 = 18014398509481984 * 2 ^ 1022 := by rw [show 1076 = 54 + 1022 by rfl, Nm.two_add]; rfl
    rw [e1, p1022.1, p1022.2.2]
    generalize (2 : Int) ^ 1022 = P
    have l : (2 : Int) * (6755399441055744 * (2 * P)) * (2 * (6755399441055744 * (2 * P))) = 730166745731460135262101046296576 * (P * P) := by
      rw [show (2 : Int) * (6755399441055744 * (2 * P)) = 27021597764222976 * P by omega]
      rw [show (27021597764222976 : Int) * P * (27021597764222976 * P) = (27021597764222976 * 27021597764222976) * (P * P) by ac_rfl]
      rfl
    have r : (5066549580791808 : Int) * (8 * P) * (18014398509481984 * P) = 730166745731460135262101046296576 * (P * P) := by
      rw [show (5066549580791808 : Int) * (8 * P) * (18014398509481984 * P) = (5066549580791808 * 8 * 18014398509481984) * (P * P) by ac_rfl]
      rfl
    rw [l, r]
  rw [e2] at h2
  exact h1.one h2
end Ie
end Go.Proofs.YtljpmddjcfkonaaGreatDoor

/-
  soft.Told: the table of operations, and what each answers with its flags.
-/
namespace Go.Proofs.YtljpmddjcfkonaaGreatDoor
open Go Go.RowKit Go.Deep

namespace Ie
/-- What operation op answers. -/
def TellIs (op a b c r f : Int) : Prop :=
  if op = 1 then AddIs a b r f
  else if op = 2 then AddIs a (ng b) r f
  else if op = 3 then MulIs a b r f
  else if op = 4 then DivIs a b r f
  else if op = 5 then SqrtIs a r f
  else FmaIs a b c r f
theorem tell1 {a b c r f : Int} : TellIs 1 a b c r f = AddIs a b r f := by
  unfold TellIs
  rw [if_pos rfl]
theorem tell2 {a b c r f : Int} : TellIs 2 a b c r f = AddIs a (ng b) r f := by
  unfold TellIs
  rw [if_neg (by decide), if_pos rfl]
theorem tell3 {a b c r f : Int} : TellIs 3 a b c r f = MulIs a b r f := by
  unfold TellIs
  rw [if_neg (by decide), if_neg (by decide), if_pos rfl]
theorem tell4 {a b c r f : Int} : TellIs 4 a b c r f = DivIs a b r f := by
  unfold TellIs
  rw [if_neg (by decide), if_neg (by decide), if_neg (by decide), if_pos rfl]
theorem tell5 {a b c r f : Int} : TellIs 5 a b c r f = SqrtIs a r f := by
  unfold TellIs
  rw [if_neg (by decide), if_neg (by decide), if_neg (by decide), if_neg (by decide), if_pos rfl]
theorem tell6 {a b c r f : Int} : TellIs 6 a b c r f = FmaIs a b c r f := by
  unfold TellIs
  rw [if_neg (by decide), if_neg (by decide), if_neg (by decide), if_neg (by decide), if_neg (by decide)]
end Ie

set_option maxRecDepth 100000 in
set_option maxHeartbeats 4000000 in
theorem oper1_any (a b c : Int) (w : World) (a0 : 0 ≤ a) (a1 : a < 18446744073709551616) (b0 : 0 ≤ b) (b1 : b < 18446744073709551616) (hT : Tab w) :
    Calls Tryz.prog 84 #[.int .u64 a, .int .u64 b, .int .u64 c] w fun e w' => Told2 (Ie.AddIs a b) w e w' := by
  have AD := hid (add_any a b w a0 a1 b0 b1 hT)
  clear hT
  go_enter Tryz.func84, Tryz.ntmps84
  go_wp2_with fail
  refine AD.out.mono ?_
  rintro e w1 ⟨r, f, rfl, h, hB⟩
  have KK : Hid (Told2 (Ie.AddIs a b) w (.returned (.tuple #[.int .u64 r, .int .i64 f])) w1) := ⟨r, f, rfl, h, hB⟩
  clear h hB AD
  go_wp2_with fail
  go_ret2
  exact KK.out

set_option maxRecDepth 100000 in
set_option maxHeartbeats 4000000 in
theorem oper2_any (a b c : Int) (w : World) (a0 : 0 ≤ a) (a1 : a < 18446744073709551616) (b0 : 0 ≤ b) (b1 : b < 18446744073709551616) (hT : Tab w) :
    Calls Tryz.prog 85 #[.int .u64 a, .int .u64 b, .int .u64 c] w fun e w' => Told2 (Ie.AddIs a (Ie.ng b)) w e w' := by
  have AD := hid (sub_any a b w a0 a1 b0 b1 hT)
  clear hT
  go_enter Tryz.func85, Tryz.ntmps85
  go_wp2_with fail
  refine AD.out.mono ?_
  rintro e w1 ⟨r, f, rfl, h, hB⟩
  have KK : Hid (Told2 (Ie.AddIs a (Ie.ng b)) w (.returned (.tuple #[.int .u64 r, .int .i64 f])) w1) := ⟨r, f, rfl, h, hB⟩
  clear h hB AD
  go_wp2_with fail
  go_ret2
  exact KK.out

set_option maxRecDepth 100000 in
set_option maxHeartbeats 4000000 in
theorem oper3_any (a b c : Int) (w : World) (a0 : 0 ≤ a) (a1 : a < 18446744073709551616) (b0 : 0 ≤ b) (b1 : b < 18446744073709551616) (hT : Tab w) :
    Calls Tryz.prog 87 #[.int .u64 a, .int .u64 b, .int .u64 c] w fun e w' => Told2 (Ie.MulIs a b) w e w' := by
  have AD := hid (mul_any a b w a0 a1 b0 b1 hT)
  clear hT
  go_enter Tryz.func87, Tryz.ntmps87
  go_wp2_with fail
  refine AD.out.mono ?_
  rintro e w1 ⟨r, f, rfl, h, hB⟩
  have KK : Hid (Told2 (Ie.MulIs a b) w (.returned (.tuple #[.int .u64 r, .int .i64 f])) w1) := ⟨r, f, rfl, h, hB⟩
  clear h hB AD
  go_wp2_with fail
  go_ret2
  exact KK.out

set_option maxRecDepth 100000 in
set_option maxHeartbeats 4000000 in
theorem oper4_any (a b c : Int) (w : World) (a0 : 0 ≤ a) (a1 : a < 18446744073709551616) (b0 : 0 ≤ b) (b1 : b < 18446744073709551616) (hT : Tab w) :
    Calls Tryz.prog 88 #[.int .u64 a, .int .u64 b, .int .u64 c] w fun e w' => Told2 (Ie.DivIs a b) w e w' := by
  have AD := hid (div_any a b w a0 a1 b0 b1 hT)
  clear hT
  go_enter Tryz.func88, Tryz.ntmps88
  go_wp2_with fail
  refine AD.out.mono ?_
  rintro e w1 ⟨r, f, rfl, h, hB⟩
  have KK : Hid (Told2 (Ie.DivIs a b) w (.returned (.tuple #[.int .u64 r, .int .i64 f])) w1) := ⟨r, f, rfl, h, hB⟩
  clear h hB AD
  go_wp2_with fail
  go_ret2
  exact KK.out

set_option maxRecDepth 100000 in
set_option maxHeartbeats 4000000 in
theorem oper5_any (a b c : Int) (w : World) (a0 : 0 ≤ a) (a1 : a < 18446744073709551616) (hT : Tab w) :
    Calls Tryz.prog 90 #[.int .u64 a, .int .u64 b, .int .u64 c] w fun e w' => Told2 (Ie.SqrtIs a) w e w' := by
  have AD := hid (sqrt_any a w a0 a1 hT)
  clear hT
  go_enter Tryz.func90, Tryz.ntmps90
  go_wp2_with fail
  refine AD.out.mono ?_
  rintro e w1 ⟨r, f, rfl, h, hB⟩
  have KK : Hid (Told2 (Ie.SqrtIs a) w (.returned (.tuple #[.int .u64 r, .int .i64 f])) w1) := ⟨r, f, rfl, h, hB⟩
  clear h hB AD
  go_wp2_with fail
  go_ret2
  exact KK.out

def ToldIs (op a b c : Int) (w : World) (e : Ending) (w' : World) : Prop := ∃ r f, e = .returned (.tuple #[.int .u64 r, .int .i64 f, .int .i64 0]) ∧ Ie.TellIs op a b c r f ∧ Below w.heap.size w w'

/-- The table lies at block b. -/
def OpTab (w : World) (b : Nat) : Prop := w.cell? ⟨b, 0, none⟩ = some .nilFunc ∧ w.cell? ⟨b, 1, none⟩ = some (.func (.func 84) #[] #[]) ∧ w.cell? ⟨b, 2, none⟩ = some (.func (.func 85) #[] #[]) ∧ w.cell? ⟨b, 3, none⟩ = some (.func (.func 87) #[] #[]) ∧ w.cell? ⟨b, 4, none⟩ = some (.func (.func 88) #[] #[]) ∧ w.cell? ⟨b, 5, none⟩ = some (.func (.func 90) #[] #[]) ∧ w.cell? ⟨b, 6, none⟩ = some (.func (.func 10) #[] #[])

set_option maxRecDepth 100000 in
set_option maxHeartbeats 4000000 in
theorem opers_any (w : World) : Calls Tryz.prog 62 #[] w fun e w' => ∃ b, e = .returned (.slice (some ⟨b, 0, none⟩) 7 7) ∧ OpTab w' b ∧ Below w.heap.size w w' := by
  have AB := hid (alloc_b w)
  go_enter Tryz.func62, Tryz.ntmps62
  go_wp2_with fail
  go_ret
  exact ⟨_, rfl, ⟨by simp, by simp, by simp, by simp, by simp, by simp, by simp⟩, AB.out _⟩

set_option maxRecDepth 100000 in
set_option maxHeartbeats 4000000 in
theorem told1 (a b c : Int) (w : World) (a0 : 0 ≤ a) (a1 : a < 18446744073709551616) (b0 : 0 ≤ b) (b1 : b < 18446744073709551616) (hT : Tab w) :
    Calls Tryz.prog 28 #[.int .i64 1, .int .u64 a, .int .u64 b, .int .u64 c] w fun e w' => ToldIs 1 a b c w e w' := by
  have AD := hid (fun (wx : World) (hx : Below w.heap.size w wx) => oper1_any a b c wx a0 a1 b0 b1 (hT.below hx))
  have OP := hid (opers_any w)
  clear hT
  go_enter Tryz.func28, Tryz.ntmps28
  go_wp2_with fail
  refine OP.out.mono ?_
  rintro e w1 ⟨tb, rfl, hO, hB1⟩
  obtain ⟨o0, o1, o2, o3, o4, o5, o6⟩ := hO
  have HB1 := hid hB1
  clear hB1 OP
  go_wp2_with fail
  refine (AD.out _ HB1.out).mono ?_
  rintro e w2 ⟨r, f, rfl, h, hB⟩
  have KK : Hid (ToldIs 1 a b c w (.returned (.tuple #[.int .u64 r, .int .i64 f, .int .i64 0])) w2) := ⟨r, f, rfl, Ie.tell1 ▸ h, HB1.out.trans (hB.mono HB1.out.size)⟩
  clear h hB AD HB1
  go_wp2_with fail
  go_ret3
  exact KK.out

set_option maxRecDepth 100000 in
set_option maxHeartbeats 4000000 in
theorem told2 (a b c : Int) (w : World) (a0 : 0 ≤ a) (a1 : a < 18446744073709551616) (b0 : 0 ≤ b) (b1 : b < 18446744073709551616) (hT : Tab w) :
    Calls Tryz.prog 28 #[.int .i64 2, .int .u64 a, .int .u64 b, .int .u64 c] w fun e w' => ToldIs 2 a b c w e w' := by
  have AD := hid (fun (wx : World) (hx : Below w.heap.size w wx) => oper2_any a b c wx a0 a1 b0 b1 (hT.below hx))
  have OP := hid (opers_any w)
  clear hT
  go_enter Tryz.func28, Tryz.ntmps28
  go_wp2_with fail
  refine OP.out.mono ?_
  rintro e w1 ⟨tb, rfl, hO, hB1⟩
  obtain ⟨o0, o1, o2, o3, o4, o5, o6⟩ := hO
  have HB1 := hid hB1
  clear hB1 OP
  go_wp2_with fail
  refine (AD.out _ HB1.out).mono ?_
  rintro e w2 ⟨r, f, rfl, h, hB⟩
  have KK : Hid (ToldIs 2 a b c w (.returned (.tuple #[.int .u64 r, .int .i64 f, .int .i64 0])) w2) := ⟨r, f, rfl, Ie.tell2 ▸ h, HB1.out.trans (hB.mono HB1.out.size)⟩
  clear h hB AD HB1
  go_wp2_with fail
  go_ret3
  exact KK.out

set_option maxRecDepth 100000 in
set_option maxHeartbeats 4000000 in
theorem told3 (a b c : Int) (w : World) (a0 : 0 ≤ a) (a1 : a < 18446744073709551616) (b0 : 0 ≤ b) (b1 : b < 18446744073709551616) (hT : Tab w) :
    Calls Tryz.prog 28 #[.int .i64 3, .int .u64 a, .int .u64 b, .int .u64 c] w fun e w' => ToldIs 3 a b c w e w' := by
  have AD := hid (fun (wx : World) (hx : Below w.heap.size w wx) => oper3_any a b c wx a0 a1 b0 b1 (hT.below hx))
  have OP := hid (opers_any w)
  clear hT
  go_enter Tryz.func28, Tryz.ntmps28
  go_wp2_with fail
  refine OP.out.mono ?_
  rintro e w1 ⟨tb, rfl, hO, hB1⟩
  obtain ⟨o0, o1, o2, o3, o4, o5, o6⟩ := hO
  have HB1 := hid hB1
  clear hB1 OP
  go_wp2_with fail
  refine (AD.out _ HB1.out).mono ?_
  rintro e w2 ⟨r, f, rfl, h, hB⟩
  have KK : Hid (ToldIs 3 a b c w (.returned (.tuple #[.int .u64 r, .int .i64 f, .int .i64 0])) w2) := ⟨r, f, rfl, Ie.tell3 ▸ h, HB1.out.trans (hB.mono HB1.out.size)⟩
  clear h hB AD HB1
  go_wp2_with fail
  go_ret3
  exact KK.out

set_option maxRecDepth 100000 in
set_option maxHeartbeats 4000000 in
theorem told4 (a b c : Int) (w : World) (a0 : 0 ≤ a) (a1 : a < 18446744073709551616) (b0 : 0 ≤ b) (b1 : b < 18446744073709551616) (hT : Tab w) :
    Calls Tryz.prog 28 #[.int .i64 4, .int .u64 a, .int .u64 b, .int .u64 c] w fun e w' => ToldIs 4 a b c w e w' := by
  have AD := hid (fun (wx : World) (hx : Below w.heap.size w wx) => oper4_any a b c wx a0 a1 b0 b1 (hT.below hx))
  have OP := hid (opers_any w)
  clear hT
  go_enter Tryz.func28, Tryz.ntmps28
  go_wp2_with fail
  refine OP.out.mono ?_
  rintro e w1 ⟨tb, rfl, hO, hB1⟩
  obtain ⟨o0, o1, o2, o3, o4, o5, o6⟩ := hO
  have HB1 := hid hB1
  clear hB1 OP
  go_wp2_with fail
  refine (AD.out _ HB1.out).mono ?_
  rintro e w2 ⟨r, f, rfl, h, hB⟩
  have KK : Hid (ToldIs 4 a b c w (.returned (.tuple #[.int .u64 r, .int .i64 f, .int .i64 0])) w2) := ⟨r, f, rfl, Ie.tell4 ▸ h, HB1.out.trans (hB.mono HB1.out.size)⟩
  clear h hB AD HB1
  go_wp2_with fail
  go_ret3
  exact KK.out

set_option maxRecDepth 100000 in
set_option maxHeartbeats 4000000 in
theorem told5 (a b c : Int) (w : World) (a0 : 0 ≤ a) (a1 : a < 18446744073709551616) (hT : Tab w) :
    Calls Tryz.prog 28 #[.int .i64 5, .int .u64 a, .int .u64 b, .int .u64 c] w fun e w' => ToldIs 5 a b c w e w' := by
  have AD := hid (fun (wx : World) (hx : Below w.heap.size w wx) => oper5_any a b c wx a0 a1 (hT.below hx))
  have OP := hid (opers_any w)
  clear hT
  go_enter Tryz.func28, Tryz.ntmps28
  go_wp2_with fail
  refine OP.out.mono ?_
  rintro e w1 ⟨tb, rfl, hO, hB1⟩
  obtain ⟨o0, o1, o2, o3, o4, o5, o6⟩ := hO
  have HB1 := hid hB1
  clear hB1 OP
  go_wp2_with fail
  refine (AD.out _ HB1.out).mono ?_
  rintro e w2 ⟨r, f, rfl, h, hB⟩
  have KK : Hid (ToldIs 5 a b c w (.returned (.tuple #[.int .u64 r, .int .i64 f, .int .i64 0])) w2) := ⟨r, f, rfl, Ie.tell5 ▸ h, HB1.out.trans (hB.mono HB1.out.size)⟩
  clear h hB AD HB1
  go_wp2_with fail
  go_ret3
  exact KK.out

set_option maxRecDepth 100000 in
set_option maxHeartbeats 4000000 in
theorem told6 (a b c : Int) (w : World) (a0 : 0 ≤ a) (a1 : a < 18446744073709551616) (b0 : 0 ≤ b) (b1 : b < 18446744073709551616) (c0 : 0 ≤ c) (c1 : c < 18446744073709551616) (hT : Tab w) :
    Calls Tryz.prog 28 #[.int .i64 6, .int .u64 a, .int .u64 b, .int .u64 c] w fun e w' => ToldIs 6 a b c w e w' := by
  have AD := hid (fun (wx : World) (hx : Below w.heap.size w wx) => fma_any a b c wx a0 a1 b0 b1 c0 c1 (hT.below hx))
  have OP := hid (opers_any w)
  clear hT
  go_enter Tryz.func28, Tryz.ntmps28
  go_wp2_with fail
  refine OP.out.mono ?_
  rintro e w1 ⟨tb, rfl, hO, hB1⟩
  obtain ⟨o0, o1, o2, o3, o4, o5, o6⟩ := hO
  have HB1 := hid hB1
  clear hB1 OP
  go_wp2_with fail
  refine (AD.out _ HB1.out).mono ?_
  rintro e w2 ⟨r, f, rfl, h, hB⟩
  have KK : Hid (ToldIs 6 a b c w (.returned (.tuple #[.int .u64 r, .int .i64 f, .int .i64 0])) w2) := ⟨r, f, rfl, Ie.tell6 ▸ h, HB1.out.trans (hB.mono HB1.out.size)⟩
  clear h hB AD HB1
  go_wp2_with fail
  go_ret3
  exact KK.out

theorem told_any (op a b c : Int) (w : World) (o1 : 1 ≤ op) (o6 : op ≤ 6) (a0 : 0 ≤ a) (a1 : a < 18446744073709551616) (b0 : 0 ≤ b) (b1 : b < 18446744073709551616) (c0 : 0 ≤ c) (c1 : c < 18446744073709551616) (hT : Tab w) :
    Calls Tryz.prog 28 #[.int .i64 op, .int .u64 a, .int .u64 b, .int .u64 c] w fun e w' => ToldIs op a b c w e w' := by
  rcases (show op = 1 ∨ op = 2 ∨ op = 3 ∨ op = 4 ∨ op = 5 ∨ op = 6 by omega) with rfl | rfl | rfl | rfl | rfl | rfl
  · exact told1 a b c w a0 a1 b0 b1 hT
  · exact told2 a b c w a0 a1 b0 b1 hT
  · exact told3 a b c w a0 a1 b0 b1 hT
  · exact told4 a b c w a0 a1 b0 b1 hT
  · exact told5 a b c w a0 a1 hT
  · exact told6 a b c w a0 a1 b0 b1 c0 c1 hT

end Go.Proofs.YtljpmddjcfkonaaGreatDoor

/-
  What soft answers are bits; what is exact.
-/
namespace Go.Proofs.YtljpmddjcfkonaaGreatDoor
namespace Ie
theorem Res.bd {neg : Bool} {V e : Int} {more : Bool} {r f : Int} (h : Res neg V e more r f) : 0 ≤ r ∧ r < 18446744073709551616 := by
  obtain ⟨x, t, L, rfl, -, hR, -, -⟩ := h
  have := hR.bd
  cases neg <;> simp only [sg, Bool.false_eq_true, if_true, if_false] <;> omega

theorem AddIs.bd {a b r f : Int} (a0 : 0 ≤ a) (a1 : a < 18446744073709551616) (b0 : 0 ≤ b) (b1 : b < 18446744073709551616) (h : AddIs a b r f) : 0 ≤ r ∧ r < 18446744073709551616 := by
  rw [AddIs] at h
  split at h
  · omega
  · split at h
    · omega
    · split at h
      · omega
      · split at h
        · omega
        · obtain ⟨neg, V, e, -, hR⟩ := h
          exact hR.bd

theorem sb_bd (n : Bool) (x : Int) (h0 : 0 ≤ x) (h1 : x < 9223372036854775808) : 0 ≤ sb n x ∧ sb n x < 18446744073709551616 := by
  cases n <;> simp only [sb, Bool.false_eq_true, if_true, if_false] <;> omega

theorem MulIs.bd {a b r f : Int} (h : MulIs a b r f) : 0 ≤ r ∧ r < 18446744073709551616 := by
  rw [MulIs] at h
  split at h
  · omega
  · split at h
    · omega
    · split at h
      · rw [h.1]; exact sb_bd _ _ (by omega) (by omega)
      · exact h.bd

theorem DivIs.bd {a b r f : Int} (h : DivIs a b r f) : 0 ≤ r ∧ r < 18446744073709551616 := by
  rw [DivIs] at h
  split at h
  · omega
  · split at h
    · omega
    · split at h
      · rw [h.1]; exact sb_bd _ _ (by omega) (by omega)
      · split at h
        · rw [h.1]; exact sb_bd _ _ (by omega) (by omega)
        · split at h
          · rw [h.1]; exact sb_bd _ _ (by omega) (by omega)
          · exact h.bd

theorem FmaIs.bd {a b c r f : Int} (c0 : 0 ≤ c) (c1 : c < 18446744073709551616) (h : FmaIs a b c r f) : 0 ≤ r ∧ r < 18446744073709551616 := by
  rw [FmaIs] at h
  split at h
  · omega
  · split at h
    · split at h
      · omega
      · have g := sb_bd (ngd a != ngd b) 9218868437227405312 (by omega) (by omega)
        exact AddIs.bd g.1 g.2 c0 c1 h
    · split at h
      · omega
      · obtain ⟨neg, V, e, -, hR⟩ := h
        exact hR.bd

theorem ng_uv (d : Int) (h0 : 0 ≤ d) (h1 : d < 18446744073709551616) : uv (ng d) = -uv d ∧ ab (ng d) = ab d ∧ ngd (ng d) = !ngd d ∧ (0 ≤ ng d ∧ ng d < 18446744073709551616) := by
  have hd := sb_ab d h0 h1
  have b := ab_bd d
  have e : ng d = sb (!ngd d) (ab d) := by
    rcases (show d < 9223372036854775808 ∨ 9223372036854775808 ≤ d by omega) with h | h
    · rw [ng, if_pos h, ngd, decide_eq_false (by omega), ab]; simp only [sb, Bool.not_false, if_true]; omega
    · rw [ng, if_neg (by omega), ngd, decide_eq_true (by omega), ab]; simp only [sb, Bool.not_true, Bool.false_eq_true, if_false]; omega
  have g := ab_sb (!ngd d) (ab d) b.1 b.2
  rw [← e] at g
  refine ⟨by rw [uv, g.1, g.2, sn_not, ← uv], g.1, g.2, ?_⟩
  rw [e]; exact sb_bd _ _ b.1 b.2

theorem uv_sb (neg : Bool) (x : Int) (h0 : 0 ≤ x) (h1 : x < 9223372036854775808) : uv (sb neg x) = sn neg (un x) := by
  obtain ⟨h2, h3⟩ := ab_sb neg x h0 h1
  rw [uv, h2, h3]
end Ie
end Go.Proofs.YtljpmddjcfkonaaGreatDoor

/-
  The flags of sqrt; of every operation by its number.
-/
namespace Go.Proofs.YtljpmddjcfkonaaGreatDoor
open Go Go.RowKit Go.Deep

namespace Ie
theorem SqrtIs.flags {a r f : Int} (fa : fin a) (hz : ab a ≠ 0) (hn : ngd a = false) (h : SqrtIs a r f) : FlagsIs r f (ab r < 9218868437227405312 ∧ uv a * 2 ^ 1074 = uv r * uv r) := by
  obtain ⟨R, k, d, hd, hk, hI, hR⟩ := h.get fa hz hn
  obtain ⟨⟨da0, da1⟩, ⟨ea0, ea1⟩, ga, za⟩ := dec_f a fa
  have dp : 0 < dm a := by omega
  obtain ⟨ka, hka⟩ : ∃ k : Nat, (k : Int) = de a + 1074 := ⟨(de a + 1074).toNat, by omega⟩
  obtain ⟨p, hp⟩ : ∃ p : Nat, (p : Int) = k + 1074 := ⟨(k + 1074).toNat, by omega⟩
  have D := root_exact (ka := ka) (p := p) dp (show 128 ≤ d by omega) hI.1 hI.2.1 hI.2.2 (by omega) (ab_bd r).1
  rw [ga ka hka] at D
  have hm : R = 0 → (!decide (R * R = dm a * 2 ^ d)) = false := by
    intro h0
    exfalso
    have h1 : 1 * 2 ^ d ≤ dm a * 2 ^ d := Int.mul_le_mul_of_nonneg_right (by omega) (Int.le_of_lt (Nm.two_pos d))
    have h2 := Nm.two_mono (show 1 ≤ d by omega)
    have h3 : (2 : Int) ^ 1 = 2 := rfl
    have h4 := hI.2.2
    rw [h0] at h4
    omega
  refine (hR.flags hI.1 hm).iff ?_
  have hS : uv a * 2 ^ 1074 = uv r * uv r ↔ un (ab a) * 2 ^ 1074 = un (ab r) * un (ab r) := by
    rw [hR.uvr, uv, hn, sn_false, sn_false]
  rw [hS, ← D]
  by_cases hq : R * R = dm a * 2 ^ d
  · rw [decide_eq_true hq, Bool.not_true, exa_iff (c := p) (q := 0) (by omega), Int.pow_zero, Int.mul_one]
    exact ⟨fun ⟨g1, g2⟩ => ⟨g1, hq, g2⟩, fun ⟨g1, _, g2⟩ => ⟨g1, g2⟩⟩
  · exact ⟨fun g => absurd g.1 (by rw [decide_eq_false hq]; decide), fun g => absurd g.2.1 hq⟩

theorem SqrtIs.flags0 {a r f : Int} (hz : ab a = 0) (h : SqrtIs a r f) : FlagsIs r f (ab r < 9218868437227405312 ∧ uv a * 2 ^ 1074 = uv r * uv r) := by
  have na : isn a = false := by rw [isn, hz]; decide
  have za : isz a = true := by rw [isz, hz]; decide
  rw [SqrtIs, na, za] at h
  simp only [Bool.false_eq_true, if_false, true_or, if_true] at h
  obtain ⟨rfl, rfl⟩ := h
  have u : uv r = 0 := by rw [uv, hz, un_zero, sn_zero]
  refine Or.inl ⟨rfl, ⟨by rw [hz]; decide, by rw [u, Int.zero_mul, Int.zero_mul]⟩, by rw [hz]; decide⟩

/-- The exact result is the double r. -/
def ExactIs (op a b c r : Int) : Prop :=
  if op = 1 then uv a + uv b = uv r
  else if op = 2 then uv a - uv b = uv r
  else if op = 3 then uv a * uv b = uv r * 2 ^ 1074
  else if op = 4 then uv a * 2 ^ 1074 = uv b * uv r
  else if op = 5 then uv a * 2 ^ 1074 = uv r * uv r
  else uv a * uv b + uv c * 2 ^ 1074 = uv r * 2 ^ 1074

theorem TellIs.flags {op a b c r f : Int} (o1 : 1 ≤ op) (o6 : op ≤ 6) (b0 : 0 ≤ b) (b1 : b < 18446744073709551616) (fa : fin a) (fb : op ≠ 5 → fin b) (fc : op = 6 → fin c) (hb : op = 4 → ab b ≠ 0) (ha : op = 5 → a ≤ 9223372036854775808)
    (h : TellIs op a b c r f) : FlagsIs r f (ab r < 9218868437227405312 ∧ ExactIs op a b c r) := by
  rcases (show op = 1 ∨ op = 2 ∨ op = 3 ∨ op = 4 ∨ op = 5 ∨ op = 6 by omega) with rfl | rfl | rfl | rfl | rfl | rfl
  · rw [tell1] at h
    exact h.flags fa (fb (by decide))
  · rw [tell2] at h
    obtain ⟨u1, u2, _⟩ := ng_uv b b0 b1
    have := h.flags fa (show fin (ng b) by rw [fin, u2]; exact fb (by decide))
    rw [u1, ← Int.sub_eq_add_neg] at this
    exact this
  · rw [tell3] at h
    exact h.flags fa (fb (by decide))
  · rw [tell4] at h
    exact h.flags fa (fb (by decide)) (hb rfl)
  · rw [tell5] at h
    by_cases hz : ab a = 0
    · exact h.flags0 hz
    · refine h.flags fa hz ?_
      rw [ngd, decide_eq_false_iff_not]
      intro g
      have := ha rfl
      apply hz
      rw [ab]
      omega
  · rw [tell6] at h
    exact h.flags fa (fb (by decide)) (fc rfl)
end Ie
end Go.Proofs.YtljpmddjcfkonaaGreatDoor

/-
  The flags of every operation, told exactly: 'under' by the number itself.
-/
namespace Go.Proofs.YtljpmddjcfkonaaGreatDoor
open Go Go.RowKit Go.Deep

namespace Ie
/-- What the flags f say of the answer r. -/
def FlagsT (r f : Int) (exact tiny : Prop) : Prop :=
  (f = 0 ∧ exact ∧ ab r < 9218868437227405312) ∨ (¬exact ∧ ab r = 9218868437227405312 ∧ ¬tiny ∧ f = 20) ∨
  (¬exact ∧ ab r < 9218868437227405312 ∧ ((f = 16 ∧ ¬tiny) ∨ (f = 24 ∧ tiny)))
theorem FlagsT.iff {r f : Int} {P Q T U : Prop} (h : FlagsT r f P T) (e : P ↔ Q) (k : T ↔ U) : FlagsT r f Q U := propext e ▸ propext k ▸ h

/-- Flags in a row: over, exact, tiny. -/
def fl (inf ex ty : Bool) : Int := (if inf = true then 4 else 0) + (if ex = true then 0 else if ty = true then 24 else 16)
theorem FlagsT.fl {r f : Int} {E T : Prop} {ex ty : Bool} (h : FlagsT r f (ab r < 9218868437227405312 ∧ E) T) (he : ex = true ↔ E) (ht : ty = true ↔ T) : f = fl (isi r) (!isi r && ex) ty := by
  rw [Ie.fl, isi]
  rcases h with ⟨rfl, ⟨_, e⟩, k⟩ | ⟨_, k, t, rfl⟩ | ⟨n, k, ⟨rfl, t⟩ | ⟨rfl, t⟩⟩
  · rw [he.2 e, decide_eq_false (by omega)]; rfl
  · have t0 : ty = false := by cases ty with | false => rfl | true => exact absurd (ht.1 rfl) t
    rw [t0, decide_eq_true k]; rfl
  · have t0 : ty = false := by cases ty with | false => rfl | true => exact absurd (ht.1 rfl) t
    have e0 : ex = false := by cases ex with | false => rfl | true => exact absurd ⟨k, he.1 rfl⟩ n
    rw [t0, e0, decide_eq_false (by omega)]; rfl
  · have e0 : ex = false := by cases ex with | false => rfl | true => exact absurd ⟨k, he.1 rfl⟩ n
    rw [ht.2 t, e0, decide_eq_false (by omega)]; rfl

theorem under_iff {V e : Int} {L : Nat} (v0 : 0 < V) (hL : Nm.BLen V L) (c q : Nat) (hc : (c : Int) - q = e + 1022) : (L : Int) + e ≤ -1022 ↔ V * 2 ^ c < 2 ^ q := by
  obtain ⟨l1, l2⟩ := hL.2.2 v0
  have pc := Nm.two_pos c
  constructor
  · intro h
    have h1 : V * 2 ^ c < 2 ^ L * 2 ^ c := Int.mul_lt_mul_of_pos_right hL.1 pc
    have h2 : (2 : Int) ^ L * 2 ^ c ≤ 2 ^ q := by rw [← Int.pow_add]; exact Nm.two_mono (by omega)
    omega
  · intro h
    rcases (show (L : Int) + e ≤ -1022 ∨ ¬(L : Int) + e ≤ -1022 by omega) with k | k
    · exact k
    · exfalso
      have h1 : 2 ^ (L - 1) * 2 ^ c ≤ V * 2 ^ c := Int.mul_le_mul_of_nonneg_right l2 (by omega)
      have h2 : (2 : Int) ^ q ≤ 2 ^ (L - 1) * 2 ^ c := by rw [← Int.pow_add]; exact Nm.two_mono (by omega)
      omega

theorem Res.flagsT {neg more : Bool} {V e r f : Int} (v0 : 0 ≤ V) (hm : V = 0 → more = false) (h : Res neg V e more r f) (c q : Nat) (hc : (c : Int) - q = e + 1022) : FlagsT r f (Exa V e more (ab r)) (0 < V ∧ V * 2 ^ c < 2 ^ q) := by
  obtain ⟨x, t, L, rfl, rfl, hR, ht, hL⟩ := h
  have xb := hR.bd
  have ha : ab (sg neg x) = x := (ab_sb neg x xb.1 (by omega)).1
  have hi := isx_exa neg v0 hm hR ht
  rw [FlagsT, ha, flg, isi, ha]
  by_cases hE : Exa V e more x
  · rw [if_pos (hi.2 hE)]
    exact Or.inl ⟨rfl, hE, hE.2.1⟩
  · rw [if_neg (fun h => hE (hi.1 h))]
    have vp : 0 < V := by
      rcases (show V = 0 ∨ 0 < V by omega) with h | h
      · subst h
        exact absurd (exa_zero (hm rfl) hR).2 hE
      · exact h
    have u1 := fun h => under_le (x := x) hR hL h
    have u3 := under_iff vp hL c q hc
    rcases (show x = 9218868437227405312 ∨ x < 9218868437227405312 by omega) with hx | hx
    · refine Or.inr (Or.inl ⟨hE, hx, ?_, ?_⟩)
      · intro k
        have := u1 (u3.2 k.2)
        omega
      · rw [decide_eq_true hx, if_pos rfl]
        by_cases hu : (L : Int) + e ≤ -1022
        · have := u1 hu
          omega
        · rw [if_neg hu]; rfl
    · refine Or.inr (Or.inr ⟨hE, hx, ?_⟩)
      rw [decide_eq_false (by omega), if_neg (by decide)]
      by_cases hu : (L : Int) + e ≤ -1022
      · rw [if_pos hu]; exact Or.inr ⟨rfl, vp, u3.1 hu⟩
      · rw [if_neg hu]; exact Or.inl ⟨rfl, fun k => hu (u3.2 k.2)⟩

/-- Not zero, and less than 2^q in magnitude. -/
def Lss (S : Int) (q : Nat) : Prop := S ≠ 0 ∧ -(2 ^ q) < S ∧ S < 2 ^ q
theorem lss_sn (neg : Bool) (X : Int) (q : Nat) (x0 : 0 ≤ X) : Lss (sn neg X) q ↔ 0 < X ∧ X < 2 ^ q := by
  have p := Nm.two_pos q
  cases neg <;> simp only [Lss, sn, if_true, Bool.false_eq_true, if_false] <;> omega
theorem pos_two {V : Int} (c : Nat) (v0 : 0 ≤ V) : 0 < V * 2 ^ c ↔ 0 < V := by
  have p := Nm.two_pos c
  constructor
  · intro h
    rcases (show V = 0 ∨ 0 < V by omega) with k | k
    · rw [k, Int.zero_mul] at h; omega
    · exact k
  · exact fun h => Int.mul_pos h p

theorem Res.flagsT_of {neg : Bool} {V e r f S : Int} (v0 : 0 ≤ V) (h : Res neg V e false r f) (c q : Nat) (hc : (c : Int) - q = e + 1074) (hS : sn neg (V * 2 ^ c) = S) :
    FlagsT r f (ab r < 9218868437227405312 ∧ S = uv r * 2 ^ q) (Lss S (q + 52)) := by
  refine (h.flagsT v0 (fun _ => rfl) c (q + 52) (by omega)).iff ?_ ?_
  · rw [exa_iff hc, ← hS, h.uvr, sn_mul_right, sn_inj]
  · rw [← hS, lss_sn _ _ _ (Int.mul_nonneg v0 (Int.le_of_lt (Nm.two_pos c))), pos_two c v0]

theorem AddIs.flagsT {a b r f : Int} (fa : fin a) (fb : fin b) (h : AddIs a b r f) : FlagsT r f (ab r < 9218868437227405312 ∧ uv a + uv b = uv r) (Lss (uv a + uv b) 52) := by
  obtain ⟨neg, V, e, hS, hR⟩ := h.get fa fb
  obtain ⟨_, ⟨ea0, ea1⟩, ga, _⟩ := dec_f a fa
  obtain ⟨_, ⟨eb0, eb1⟩, gb, _⟩ := dec_f b fb
  obtain ⟨c, hc, key, h0⟩ := hS.at 1074 (by omega) (by omega) ga gb
  have := hR.flagsT_of hS.2.2.1.1 c 0 (by omega) key
  rw [Int.pow_zero, Int.mul_one] at this
  exact this

theorem MulIs.flagsT {a b r f : Int} (fa : fin a) (fb : fin b) (h : MulIs a b r f) : FlagsT r f (ab r < 9218868437227405312 ∧ uv a * uv b = uv r * 2 ^ 1074) (Lss (uv a * uv b) (1074 + 52)) := by
  have hR := h.get fa fb
  obtain ⟨⟨da0, _⟩, ⟨ea0, ea1⟩, _, _⟩ := dec_f a fa
  obtain ⟨⟨db0, _⟩, ⟨eb0, eb1⟩, _, _⟩ := dec_f b fb
  obtain ⟨c, hc⟩ : ∃ k : Nat, (k : Int) = de a + de b + 2148 := ⟨(de a + de b + 2148).toNat, by omega⟩
  exact hR.flagsT_of (Int.mul_nonneg da0 db0) c 1074 (by omega) (by rw [prod_at fa fb c hc]; exact (uv_mul a b).symm)

theorem FmaIs.flagsT {a b c r f : Int} (fa : fin a) (fb : fin b) (fc : fin c) (h : FmaIs a b c r f) : FlagsT r f (ab r < 9218868437227405312 ∧ uv a * uv b + uv c * 2 ^ 1074 = uv r * 2 ^ 1074) (Lss (uv a * uv b + uv c * 2 ^ 1074) (1074 + 52)) := by
  obtain ⟨neg, V, e, hS, hR⟩ := h.get fa fb fc
  obtain ⟨_, ⟨ea0, ea1⟩, _, _⟩ := dec_f a fa
  obtain ⟨_, ⟨eb0, eb1⟩, _, _⟩ := dec_f b fb
  obtain ⟨_, ⟨ec0, ec1⟩, gc, _⟩ := dec_f c fc
  have g2 : ∀ k : Nat, (k : Int) = de c + (2148 : Nat) → dm c * 2 ^ k = un (ab c) * 2 ^ 1074 := by
    intro k hk
    obtain ⟨kc, hkc⟩ : ∃ k : Nat, (k : Int) = de c + 1074 := ⟨(de c + 1074).toNat, by omega⟩
    rw [← gc kc hkc, show k = kc + 1074 by omega, Nm.two_add, Int.mul_assoc]
  obtain ⟨c', hc, key, h0⟩ := hS.at 2148 (by omega) (by omega) (fun k hk => prod_at fa fb k (by omega)) g2
  rw [← uv_mul, ← sn_mul_right (ngd c)] at key
  exact hR.flagsT_of hS.2.2.1.1 c' 1074 (by omega) key

/-- A quotient's floor lies below a power of two where the quotient does. -/
theorem quo_lss {A B : Int} {ka kb : Nat} (a0 : 0 ≤ A) (b0 : 0 < B) (b1 : B < 9007199254740992) : A * 2 ^ 128 / B * 2 ^ (ka + 1022) < 2 ^ (kb + 128) ↔ A * 2 ^ ka * 2 ^ 1022 < B * 2 ^ kb := by
  have p128 := Nm.two_pos 128
  have pk := Nm.two_pos kb
  have key : A * 2 ^ 128 * 2 ^ (ka + 1022) < B * 2 ^ (kb + 128) ↔ A * 2 ^ ka * 2 ^ 1022 < B * 2 ^ kb := by
    have l : A * 2 ^ 128 * 2 ^ (ka + 1022) = A * 2 ^ ka * 2 ^ 1022 * 2 ^ 128 := by
      rw [Nm.two_add ka 1022]
      generalize (2 : Int) ^ 1022 = P
      generalize (2 : Int) ^ 128 = R
      ac_rfl
    rw [l, Nm.two_add kb 128, ← Int.mul_assoc]
    generalize (2 : Int) ^ 128 = R at *
    exact ⟨fun h => Int.lt_of_mul_lt_mul_right h (by omega), fun h => Int.mul_lt_mul_of_pos_right h p128⟩
  rw [← key]
  rcases (show ka + 1022 ≤ kb + 128 ∨ kb + 128 < ka + 1022 by omega) with k | k
  · obtain ⟨n, hn⟩ : ∃ n, kb + 128 = n + (ka + 1022) := ⟨kb + 128 - (ka + 1022), by omega⟩
    rw [hn, Nm.two_add n]
    have pc := Nm.two_pos (ka + 1022)
    generalize (2 : Int) ^ (ka + 1022) = C at *
    have e1 : A * 2 ^ 128 / B * C < 2 ^ n * C ↔ A * 2 ^ 128 / B < 2 ^ n := ⟨fun h => Int.lt_of_mul_lt_mul_right h (by omega), fun h => Int.mul_lt_mul_of_pos_right h pc⟩
    have e2 : A * 2 ^ 128 * C < B * (2 ^ n * C) ↔ A * 2 ^ 128 < B * 2 ^ n := by
      rw [← Int.mul_assoc]
      exact ⟨fun h => Int.lt_of_mul_lt_mul_right h (by omega), fun h => Int.mul_lt_mul_of_pos_right h pc⟩
    rw [e1, e2, Int.ediv_lt_iff_lt_mul b0, Int.mul_comm (2 ^ n) B]
  · rcases (show A = 0 ∨ 1 ≤ A by omega) with hA | hA
    · subst hA
      rw [Int.zero_mul, Int.zero_ediv, Int.zero_mul]
      have h1 := Nm.two_pos (kb + 128)
      exact ⟨fun _ => Int.mul_pos b0 h1, fun _ => h1⟩
    · have g1 := Nm.two_mono (show kb + 128 ≤ ka + 1022 by omega)
      have g2 : (2 : Int) ^ 128 = 340282366920938463463374607431768211456 := by decide
      have g3 : 1 * 2 ^ 128 ≤ A * 2 ^ 128 := Int.mul_le_mul_of_nonneg_right hA (by omega)
      have g4 : 1 ≤ A * 2 ^ 128 / B := by rw [Int.le_ediv_iff_mul_le b0]; omega
      have pc := Nm.two_pos (ka + 1022)
      have pq := Nm.two_pos (kb + 128)
      have g5 : 1 * 2 ^ (ka + 1022) ≤ A * 2 ^ 128 / B * 2 ^ (ka + 1022) := Int.mul_le_mul_of_nonneg_right g4 (by omega)
      have g6 : B * 2 ^ (kb + 128) ≤ A * 2 ^ 128 * 2 ^ (ka + 1022) := Int.mul_le_mul (by omega) g1 (by omega) (by omega)
      constructor <;> intro h <;> omega

theorem DivIs.flagsT {a b r f : Int} (fa : fin a) (fb : fin b) (hb : ab b ≠ 0) (h : DivIs a b r f) : FlagsT r f (ab r < 9218868437227405312 ∧ uv a * 2 ^ 1074 = uv b * uv r) (0 < un (ab a) ∧ un (ab a) * 2 ^ 1022 < un (ab b)) := by
  have hR := h.get fa fb hb
  obtain ⟨⟨da0, da1⟩, ⟨ea0, ea1⟩, ga, za⟩ := dec_f a fa
  obtain ⟨⟨db0, db1⟩, ⟨eb0, eb1⟩, gb, zb⟩ := dec_f b fb
  have dp : 0 < dm b := by omega
  obtain ⟨ka, hka⟩ : ∃ k : Nat, (k : Int) = de a + 1074 := ⟨(de a + 1074).toNat, by omega⟩
  obtain ⟨kb, hkb⟩ : ∃ k : Nat, (k : Int) = de b + 1074 := ⟨(de b + 1074).toNat, by omega⟩
  have v0 : 0 ≤ dm a * 2 ^ 128 / dm b := Int.ediv_nonneg (Int.mul_nonneg da0 (Int.le_of_lt (Nm.two_pos 128))) db0
  have hm : dm a * 2 ^ 128 / dm b = 0 → decide (dm a * 2 ^ 128 % dm b ≠ 0) = false := by
    intro h0
    rcases (show dm a = 0 ∨ 0 < dm a by omega) with g | g
    · rw [g, Int.zero_mul, Int.zero_emod]; rfl
    · exfalso
      have hq : 18014398509481984 ≤ dm a * 2 ^ 128 / dm b := by
        rw [Int.le_ediv_iff_mul_le dp]
        have h1 : 1 * 2 ^ 128 ≤ dm a * 2 ^ 128 := Int.mul_le_mul_of_nonneg_right (by omega) (by have := Nm.two_pos 128; omega)
        have h2 : (2 : Int) ^ 128 = 340282366920938463463374607431768211456 := by decide
        omega
      omega
  have Q := quo_lss (ka := ka) (kb := kb) da0 dp db1
  rw [ga ka hka, gb kb hkb] at Q
  have T := hR.flagsT v0 hm (ka + 1022) (kb + 128) (by omega)
  have F := DivIs.flags fa fb hb h
  have F0 := hR.flags v0 hm
  have Q0 : 0 < dm a * 2 ^ 128 / dm b ↔ 0 < un (ab a) := by
    rw [← ga ka hka, pos_two ka da0]
    constructor
    · intro h0
      rcases (show dm a = 0 ∨ 0 < dm a by omega) with g | g
      · rw [g, Int.zero_mul, Int.zero_ediv] at h0; omega
      · exact g
    · intro g
      have h1 : 1 * 2 ^ 128 ≤ dm a * 2 ^ 128 := Int.mul_le_mul_of_nonneg_right (by omega) (by have := Nm.two_pos 128; omega)
      have h2 : (2 : Int) ^ 128 = 340282366920938463463374607431768211456 := by decide
      have h3 : 1 ≤ dm a * 2 ^ 128 / dm b := by rw [Int.le_ediv_iff_mul_le dp]; omega
      omega
  refine T.iff ?_ (and_congr Q0 Q)
  rcases F0 with ⟨z0, x0, _⟩ | ⟨x0, y0⟩
  · rcases F with ⟨_, x1, _⟩ | ⟨_, y1⟩
    · exact ⟨fun _ => x1, fun _ => x0⟩
    · exfalso; omega
  · rcases F with ⟨z1, x1, _⟩ | ⟨x1, _⟩
    · exfalso; omega
    · exact ⟨fun k => absurd k x0, fun k => absurd k x1⟩

theorem SqrtIs.flagsT {a r f : Int} (fa : fin a) (hz : ab a ≠ 0) (hn : ngd a = false) (h : SqrtIs a r f) : FlagsT r f (ab r < 9218868437227405312 ∧ uv a * 2 ^ 1074 = uv r * uv r) False := by
  have F := SqrtIs.flags fa hz hn h
  obtain ⟨R, k, d, hd, hk, hI, hR⟩ := h.get fa hz hn
  obtain ⟨_, ⟨ea0, ea1⟩, _, _⟩ := dec_f a fa
  have f24 : f ≠ 24 := by
    obtain ⟨x, t, L, _, rfl, _, _, hL⟩ := hR
    rw [flg]
    have : ¬(L : Int) + k ≤ -1022 := by omega
    rw [if_neg this]
    split <;> (try split) <;> omega
  rcases F with ⟨h1, h2, h3⟩ | ⟨h1, ⟨h2, h3⟩ | ⟨h2, h3⟩⟩
  · exact Or.inl ⟨h1, h2, h3⟩
  · exact Or.inr (Or.inl ⟨h1, h2, fun k => k, h3⟩)
  · refine Or.inr (Or.inr ⟨h1, h2, Or.inl ⟨?_, fun k => k⟩⟩)
    rcases h3 with ⟨h3, _⟩ | ⟨h3, _⟩
    · exact h3
    · exact absurd h3 f24
end Ie
end Go.Proofs.YtljpmddjcfkonaaGreatDoor

/-
  The flags of every operation, of any operands: in one row.
-/
namespace Go.Proofs.YtljpmddjcfkonaaGreatDoor
open Go Go.RowKit Go.Deep

namespace Ie
def TinyIs (op a b c : Int) : Prop :=
  if op = 1 then Lss (uv a + uv b) 52
  else if op = 2 then Lss (uv a - uv b) 52
  else if op = 3 then Lss (uv a * uv b) (1074 + 52)
  else if op = 4 then 0 < un (ab a) ∧ un (ab a) * 2 ^ 1022 < un (ab b)
  else if op = 5 then False
  else Lss (uv a * uv b + uv c * 2 ^ 1074) (1074 + 52)

/-- Whether P holds. -/
noncomputable def tru (P : Prop) : Bool := @decide P (Classical.propDecidable P)
theorem tru_iff (P : Prop) : tru P = true ↔ P := @decide_eq_true_iff P (Classical.propDecidable P)
theorem tru_t {P : Prop} (h : P) : tru P = true := (tru_iff P).2 h
theorem tru_f {P : Prop} (h : ¬P) : tru P = false := by
  cases k : tru P with
  | false => rfl
  | true => exact absurd ((tru_iff P).1 k) h

noncomputable def FF (op a b c d : Int) : Int := fl (isi d) (!isi d && tru (ExactIs op a b c d)) (tru (TinyIs op a b c))

theorem FlagsT.ff {op a b c r f : Int} (h : FlagsT r f (ab r < 9218868437227405312 ∧ ExactIs op a b c r) (TinyIs op a b c)) : f = FF op a b c r :=
  h.fl (tru_iff _) (tru_iff _)
theorem FF.of {op a b c d : Int} {ex ty : Bool} (he : isi d = false → (ex = true ↔ ExactIs op a b c d)) (ht : ty = true ↔ TinyIs op a b c) : fl (isi d) (!isi d && ex) ty = FF op a b c d := by
  have e2 : ty = tru (TinyIs op a b c) := by rw [Bool.eq_iff_iff, ht, tru_iff]
  rw [FF, ← e2]
  cases hi : isi d with
  | true => rfl
  | false => rw [show ex = tru (ExactIs op a b c d) by rw [Bool.eq_iff_iff, he hi, tru_iff]]

theorem FlagsT.le {r f : Int} {E T : Prop} (h : FlagsT r f E T) : isn r = false := by
  rw [isn, decide_eq_false_iff_not]
  rcases h with ⟨_, _, k⟩ | ⟨_, k, _⟩ | ⟨_, k, _⟩ <;> omega

theorem TellIs.flagsT {op a b c r f : Int} (o1 : 1 ≤ op) (o6 : op ≤ 6) (b0 : 0 ≤ b) (b1 : b < 18446744073709551616) (fa : fin a) (fb : op ≠ 5 → fin b) (fc : op = 6 → fin c) (hb : op = 4 → ab b ≠ 0) (ha : op = 5 → ab a ≠ 0 → ngd a = false)
    (h : TellIs op a b c r f) : FlagsT r f (ab r < 9218868437227405312 ∧ ExactIs op a b c r) (TinyIs op a b c) := by
  rcases (show op = 1 ∨ op = 2 ∨ op = 3 ∨ op = 4 ∨ op = 5 ∨ op = 6 by omega) with rfl | rfl | rfl | rfl | rfl | rfl
  · rw [tell1] at h
    exact h.flagsT fa (fb (by decide))
  · rw [tell2] at h
    obtain ⟨u1, u2, _⟩ := ng_uv b b0 b1
    have := h.flagsT fa (show fin (ng b) by rw [fin, u2]; exact fb (by decide))
    rw [u1, ← Int.sub_eq_add_neg] at this
    exact this
  · rw [tell3] at h
    exact h.flagsT fa (fb (by decide))
  · rw [tell4] at h
    exact h.flagsT fa (fb (by decide)) (hb rfl)
  · rw [tell5] at h
    by_cases hz : ab a = 0
    · rcases h.flags0 hz with ⟨h1, h2, h3⟩ | ⟨h1, _⟩
      · exact Or.inl ⟨h1, h2, h3⟩
      · exfalso
        have na : isn a = false := by rw [isn, hz]; decide
        have za : isz a = true := by rw [isz, hz]; decide
        rw [SqrtIs, na, za] at h
        simp only [Bool.false_eq_true, if_false, true_or, if_true] at h
        obtain ⟨rfl, rfl⟩ := h
        have u : uv r = 0 := by rw [uv, hz, un_zero, sn_zero]
        exact h1 ⟨by rw [hz]; decide, by rw [u, Int.zero_mul, Int.zero_mul]⟩
    · exact h.flagsT fa hz (ha rfl hz)
  · rw [tell6] at h
    exact h.flagsT fa (fb (by decide)) (fc rfl)

/-- Finite, as a Boolean. -/
def fnb (d : Int) : Bool := decide (ab d < 9218868437227405312)
theorem fnb_of {d : Int} (h0 : isn d = false) : fnb d = !isi d := by
  rw [isn, decide_eq_false_iff_not] at h0
  rw [fnb, isi, Bool.eq_iff_iff]
  simp
  omega
def nanU (op a b c : Int) : Bool := isn a || (!decide (op = 5) && isn b) || (decide (op = 6) && isn c)
def finU (op a b c : Int) : Bool := fnb a && (decide (op = 5) || fnb b) && (!decide (op = 6) || fnb c)
/-- The flags in a row: a NaN, a NaN is answered, a division by zero, not all finite. -/
def FRx (nan isnr dz fi : Bool) (G : Int) : Int := if nan = true then 0 else if isnr = true then 1 else if dz = true then 2 else if fi = false then 0 else G
noncomputable def FR (op a b c d : Int) : Int := FRx (nanU op a b c) (isn d) (decide (op = 4) && isz b && finU op a b c) (finU op a b c) (FF op a b c d)

theorem nan_isn : isn 9221120237041090560 = true := by decide
theorem ng_same (b : Int) (b0 : 0 ≤ b) (b1 : b < 18446744073709551616) : isn (ng b) = isn b ∧ isi (ng b) = isi b ∧ fnb (ng b) = fnb b := by
  obtain ⟨_, u2, _⟩ := ng_uv b b0 b1
  rw [isn, isi, fnb, isn, isi, fnb, u2]
  exact ⟨rfl, rfl, rfl⟩
theorem inf_isn (neg : Bool) : isn (sb neg 9218868437227405312) = false ∧ isn (sb neg 0) = false := by cases neg <;> decide

theorem AddIs.fr {a b r f G : Int} (h : AddIs a b r f) (hG : fin a → fin b → f = G ∧ isn r = false) : f = FRx (isn a || isn b) (isn r) false (fnb a && fnb b) G := by
  unfold AddIs at h
  split at h
  · rename_i g
    rw [FRx, if_pos (by simpa using g)]; exact h.2
  rename_i g
  have na : isn a = false := by cases k : isn a with | false => rfl | true => exact absurd (Or.inl k) g
  have nb : isn b = false := by cases k : isn b with | false => rfl | true => exact absurd (Or.inr k) g
  rw [fnb_of na, fnb_of nb, na, nb]
  split at h
  · obtain ⟨rfl, rfl⟩ := h; rfl
  split at h
  · rename_i k
    obtain ⟨rfl, rfl⟩ := h
    rw [na, k]; rfl
  rename_i ka
  split at h
  · rename_i k
    obtain ⟨rfl, rfl⟩ := h
    rw [nb, k]; cases isi a <;> rfl
  rename_i kb
  have ia : isi a = false := by cases k : isi a with | false => rfl | true => exact absurd k ka
  have ib : isi b = false := by cases k : isi b with | false => rfl | true => exact absurd k kb
  obtain ⟨rfl, hr⟩ := hG (fin_of na ia) (fin_of nb ib)
  rw [hr, ia, ib]; rfl

theorem MulIs.fr {a b r f G : Int} (h : MulIs a b r f) (hG : fin a → fin b → f = G ∧ isn r = false) : f = FRx (isn a || isn b) (isn r) false (fnb a && fnb b) G := by
  unfold MulIs at h
  split at h
  · rename_i g
    rw [FRx, if_pos (by simpa using g)]; exact h.2
  rename_i g
  have na : isn a = false := by cases k : isn a with | false => rfl | true => exact absurd (Or.inl k) g
  have nb : isn b = false := by cases k : isn b with | false => rfl | true => exact absurd (Or.inr k) g
  rw [fnb_of na, fnb_of nb, na, nb]
  split at h
  · obtain ⟨rfl, rfl⟩ := h; rfl
  split at h
  · rename_i k
    obtain ⟨rfl, rfl⟩ := h
    rw [(inf_isn _).1]
    rcases k with k | k <;> rw [k]
    · rfl
    · cases isi a <;> rfl
  rename_i ka
  have ia : isi a = false := by cases k : isi a with | false => rfl | true => exact absurd (Or.inl k) ka
  have ib : isi b = false := by cases k : isi b with | false => rfl | true => exact absurd (Or.inr k) ka
  obtain ⟨rfl, hr⟩ := hG (fin_of na ia) (fin_of nb ib)
  rw [hr, ia, ib]; rfl

theorem DivIs.fr {a b r f G : Int} (h : DivIs a b r f) (hG : fin a → fin b → ab b ≠ 0 → f = G ∧ isn r = false) : f = FRx (isn a || isn b) (isn r) (isz b && (fnb a && fnb b)) (fnb a && fnb b) G := by
  unfold DivIs at h
  split at h
  · rename_i g
    rw [FRx, if_pos (by simpa using g)]; exact h.2
  rename_i g
  have na : isn a = false := by cases k : isn a with | false => rfl | true => exact absurd (Or.inl k) g
  have nb : isn b = false := by cases k : isn b with | false => rfl | true => exact absurd (Or.inr k) g
  rw [fnb_of na, fnb_of nb, na, nb]
  split at h
  · obtain ⟨rfl, rfl⟩ := h; rfl
  split at h
  · rename_i k
    obtain ⟨rfl, rfl⟩ := h
    rw [(inf_isn _).1, k]; cases isz b <;> cases isi b <;> rfl
  rename_i ka
  split at h
  · rename_i k
    obtain ⟨rfl, rfl⟩ := h
    rw [(inf_isn _).2, k]; cases isz b <;> cases isi a <;> rfl
  rename_i kb
  have ia : isi a = false := by cases k : isi a with | false => rfl | true => exact absurd k ka
  have ib : isi b = false := by cases k : isi b with | false => rfl | true => exact absurd k kb
  split at h
  · rename_i k
    obtain ⟨rfl, rfl⟩ := h
    rw [(inf_isn _).1, k, ia, ib]; rfl
  rename_i kz
  have iz : isz b = false := by cases k : isz b with | false => rfl | true => exact absurd k kz
  have bz : ab b ≠ 0 := by rw [isz, decide_eq_false_iff_not] at iz; exact iz
  obtain ⟨rfl, hr⟩ := hG (fin_of na ia) (fin_of nb ib) bz
  rw [hr, ia, ib, iz]; rfl

theorem SqrtIs.fr {a r f G : Int} (a0 : 0 ≤ a) (a1 : a < 18446744073709551616) (h : SqrtIs a r f) (hG : fin a → (ab a ≠ 0 → ngd a = false) → f = G ∧ isn r = false) : f = FRx (isn a) (isn r) false (fnb a) G := by
  have h0 := h
  unfold SqrtIs at h
  split at h
  · rename_i g
    rw [FRx, if_pos g]; exact h.2
  rename_i g
  have na : isn a = false := by cases k : isn a with | false => rfl | true => exact absurd k g
  rw [fnb_of na, na]
  by_cases hz : isz a = true
  · have az : ab a = 0 := by rw [isz, decide_eq_true_eq] at hz; exact hz
    have ia : isi a = false := by rw [isi, az]; decide
    obtain ⟨rfl, hr⟩ := hG (fin_of na ia) (fun k => absurd az k)
    rw [hr, ia]; rfl
  · by_cases hi : a = 9218868437227405312
    · rw [if_pos (Or.inr hi)] at h
      obtain ⟨rfl, rfl⟩ := h
      rw [hi, show isn 9218868437227405312 = false by decide, show isi 9218868437227405312 = true by decide]; rfl
    · rw [if_neg (fun k => k.elim hz hi)] at h
      cases hn : ngd a with
      | true =>
        rw [if_pos hn] at h
        obtain ⟨rfl, rfl⟩ := h; rfl
      | false =>
        have ia : isi a = false := by
          rw [isi, decide_eq_false_iff_not]
          rw [ngd, decide_eq_false_iff_not] at hn
          rw [ab]
          omega
        obtain ⟨rfl, hr⟩ := hG (fin_of na ia) (fun _ => hn)
        rw [hr, ia]; rfl

theorem FmaIs.fr {a b c r f G : Int} (h : FmaIs a b c r f) (hG : fin a → fin b → fin c → f = G ∧ isn r = false) : f = FRx (isn a || isn b || isn c) (isn r) false (fnb a && fnb b && fnb c) G := by
  unfold FmaIs at h
  split at h
  · rename_i g
    rw [FRx, if_pos (by simp only [Bool.or_eq_true]; rcases g with g | g | g; exact .inl (.inl g); exact .inl (.inr g); exact .inr g)]; exact h.2
  rename_i g
  have na : isn a = false := by cases k : isn a with | false => rfl | true => exact absurd (Or.inl k) g
  have nb : isn b = false := by cases k : isn b with | false => rfl | true => exact absurd (Or.inr (Or.inl k)) g
  have nc : isn c = false := by cases k : isn c with | false => rfl | true => exact absurd (Or.inr (Or.inr k)) g
  rw [fnb_of na, fnb_of nb, fnb_of nc, na, nb, nc]
  split at h
  · rename_i k
    have kk : (!isi a && !isi b) = false := by rcases k with k | k <;> rw [k] <;> cases isi a <;> rfl
    split at h
    · obtain ⟨rfl, rfl⟩ := h; rfl
    · have fs : fnb (sb (ngd a != ngd b) 9218868437227405312) = false := by cases (ngd a != ngd b) <;> decide
      have q := AddIs.fr h (G := 0) (fun k => absurd k (by rw [fin]; rw [fnb, decide_eq_false_iff_not] at fs; exact fs))
      rw [(inf_isn _).1, nc, fs] at q
      rw [kk]
      exact q
  rename_i k
  have ia : isi a = false := by cases q : isi a with | false => rfl | true => exact absurd (Or.inl q) k
  have ib : isi b = false := by cases q : isi b with | false => rfl | true => exact absurd (Or.inr q) k
  rw [ia, ib]
  split at h
  · rename_i q
    obtain ⟨rfl, rfl⟩ := h
    rw [nc, q]; rfl
  rename_i q
  have ic : isi c = false := by cases s : isi c with | false => rfl | true => exact absurd s q
  obtain ⟨rfl, hr⟩ := hG (fin_of na ia) (fin_of nb ib) (fin_of nc ic)
  rw [hr, ic]; rfl

theorem TellIs.fr {op a b c r f : Int} (o1 : 1 ≤ op) (o6 : op ≤ 6) (a0 : 0 ≤ a) (a1 : a < 18446744073709551616) (b0 : 0 ≤ b) (b1 : b < 18446744073709551616) (h : TellIs op a b c r f) : f = FR op a b c r := by
  have key : fin a → (op ≠ 5 → fin b) → (op = 6 → fin c) → (op = 4 → ab b ≠ 0) → (op = 5 → ab a ≠ 0 → ngd a = false) → f = FF op a b c r ∧ isn r = false := fun fa fb fc hb ha => by
    have T := h.flagsT o1 o6 b0 b1 fa fb fc hb ha
    exact ⟨T.ff, T.le⟩
  rw [FR, nanU, finU]
  rcases (show op = 1 ∨ op = 2 ∨ op = 3 ∨ op = 4 ∨ op = 5 ∨ op = 6 by omega) with rfl | rfl | rfl | rfl | rfl | rfl
  · rw [tell1] at h
    have := h.fr (fun fa fb => key fa (fun _ => fb) (fun k => absurd k (by decide)) (fun k => absurd k (by decide)) (fun k => absurd k (by decide)))
    simpa using this
  · rw [tell2] at h
    obtain ⟨q1, q2, q3⟩ := ng_same b b0 b1
    have := h.fr (fun fa fb => key fa (fun _ => by rw [fin] at fb ⊢; rw [(ng_uv b b0 b1).2.1] at fb; exact fb) (fun k => absurd k (by decide)) (fun k => absurd k (by decide)) (fun k => absurd k (by decide)))
    rw [q1, q3] at this
    simpa using this
  · rw [tell3] at h
    have := h.fr (fun fa fb => key fa (fun _ => fb) (fun k => absurd k (by decide)) (fun k => absurd k (by decide)) (fun k => absurd k (by decide)))
    simpa using this
  · rw [tell4] at h
    have := h.fr (fun fa fb hb => key fa (fun _ => fb) (fun k => absurd k (by decide)) (fun _ => hb) (fun k => absurd k (by decide)))
    simpa using this
  · rw [tell5] at h
    have := h.fr a0 a1 (fun fa ha => key fa (fun k => absurd rfl k) (fun k => absurd k (by decide)) (fun k => absurd k (by decide)) (fun _ => ha))
    simpa using this
  · rw [tell6] at h
    have := h.fr (fun fa fb fc => key fa (fun _ => fb) (fun _ => fc) (fun k => absurd k (by decide)) (fun k => absurd k (by decide)))
    simpa using this
end Ie
end Go.Proofs.YtljpmddjcfkonaaGreatDoor

namespace Go.Proofs.YtljpmddjcfkonaaGreatDoor
open Go Go.RowKit Go.Deep

set_option maxRecDepth 100000 in
theorem yfin_any (d : Int) (w : World) (h0 : 0 ≤ d) (h1 : d < 18446744073709551616) :
    Calls Tryz.prog 60 #[.int .u64 d] w fun e w' => e = .returned (.bool (Ie.fnb d)) ∧ w' = w := by
  have A := hid (yabs_any d w h0 h1)
  have E : Hid (decide (Ie.ab d < 9218868437227405312) = Ie.fnb d) := rfl
  clear h0 h1
  go_enter Tryz.func60, Tryz.ntmps60
  go_wp2_with fail
  refine A.out.mono ?_
  rintro e w' ⟨rfl, rfl⟩
  go_wp2_with fail
  go_ret
  exact ⟨yret_b E.out, rfl⟩

/-- append(l, x), l a list of our own with room or without. -/
theorem app64 (g n cap : Nat) (xs : List Int) (x : Int) (w : World) (hn : xs.length = n) (hc : n ≤ cap) (hY : n ≤ 1099511627776) (ho : Own w g (xs ++ List.replicate (cap - n) 0)) :
    ∃ g' cap' w', (Builtin.append_ #[39, 39] 39 #[.slice (some ⟨g, 0, none⟩) n cap, .slice (some ⟨w.heap.size, 0, none⟩) 1 1]).run Tryz.prog (w.alloc (.cells #[.int .u64 x] 23)) = .ok (.slice (some ⟨g', 0, none⟩) (n + 1) cap') w' ∧
      n + 1 ≤ cap' ∧ Own w' g' (xs ++ [x] ++ List.replicate (cap' - (n + 1)) 0) ∧ ∀ B, B ≤ g → B ≤ w.heap.size → Below B w w' ∧ B ≤ g' := by
  rcases Nat.lt_or_ge n cap with h | h
  · obtain ⟨w', ap, gr, be, sz⟩ := push64 g n (cap - n - 1) cap xs x w hn (by omega) (by rw [show cap - n - 1 + 1 = cap - n by omega]; exact ho)
    exact ⟨g, cap, w', ap, by omega, by rw [show cap - (n + 1) = cap - n - 1 by omega]; exact gr, fun B h1 _ => ⟨be.mono h1, h1⟩⟩
  · obtain rfl : n = cap := by omega
    rw [Nat.sub_self, List.replicate_zero, List.append_nil] at ho
    obtain ⟨cap', w', ap, h1, h2, h3⟩ := grow64 g n xs x w hn hY ho
    exact ⟨w.heap.size + 1, cap', w', ap, h1, h2, fun B _ h => ⟨h3.mono h, by omega⟩⟩
end Go.Proofs.YtljpmddjcfkonaaGreatDoor

namespace Go.Proofs.YtljpmddjcfkonaaGreatDoor
open Go.RowKit Go.Deep

set_option maxRecDepth 20000 in
set_option maxHeartbeats 4000000 in
theorem plus_any (p q : Option Addr) (n cap m cap' : Nat) (za zb : List Int) (w : World) (ha : Arg w p n cap za) (hb : Arg w q m cap' zb) (hn : Nm.tsize za ≤ 1099511627776) (hm : Nm.tsize zb ≤ 1099511627776) :
    Calls Tryz.prog 43 #[.slice p n cap, .slice q m cap'] w fun e w' => ∃ r os, e = .returned (.slice r (List.length os) (List.length os)) ∧ Ans w.heap.size w' r os (Nm.val za + Nm.val zb) ∧ Below w.heap.size w w' := by
  have HA := hid ha
  have HB0 := hid hb
  clear ha hb
  go_enter Tryz.func43, Tryz.ntmps43
  go_wp2_with fail
  refine (halves_any p n cap za _ HA.out (by have := HA.out.2.1; have := HA.out.2.2.1; omega)).mono ?_
  rintro e w1 ⟨xs, rfl, lx, hx, vx, kx, bx⟩
  have HB1 := hid (HB0.out.below bx (Nat.le_refl _))
  have D1 := hid bx
  obtain ⟨l1, LX⟩ : ∃ l1, Hid (xs.length = l1) := ⟨_, rfl⟩
  have LX0 := hid lx
  have HX := hid hx
  have VX := hid vx
  have kx1 : l1 ≤ 2 * Nm.tsize za := by have := LX.out; omega
  rw [LX.out]
  clear lx hx vx kx bx HB0
  go_wp2_with fail
  refine (halves_any q m cap' zb _ HB1.out (by have := HB1.out.2.1; have := HB1.out.2.2.1; omega)).mono ?_
  rintro e w2 ⟨ys, rfl, ly, hy, vy, ky, by_⟩
  have D2 := hid (chain D1.out by_ (Nat.le_refl _))
  obtain ⟨l2, LY⟩ : ∃ l2, Hid (ys.length = l2) := ⟨_, rfl⟩
  have HY := hid hy
  have VY := hid vy
  have ky1 : l2 ≤ 2 * Nm.tsize zb := by have := LY.out; omega
  obtain ⟨g1, G1⟩ : ∃ g1, w.heap.size = g1 := ⟨_, rfl⟩
  obtain ⟨g2, G2⟩ : ∃ g2, w1.heap.size = g2 := ⟨_, rfl⟩
  have LX2 := LX0.out.below by_ (Nat.le_refl _)
  rw [G1] at LX2
  have ly2 := ly
  rw [G2] at ly2
  have CX : Hid (∀ i, i < l1 → w2.cell? ⟨g1, i, none⟩ = some (.int .u64 (xs.getD i 0))) := fun i hi => by have := LX2.cells i (by have := LX.out; omega); rwa [Nat.zero_add] at this
  have CY : Hid (∀ i, i < l2 → w2.cell? ⟨g2, i, none⟩ = some (.int .u64 (ys.getD i 0))) := fun i hi => by have := ly2.cells i (by have := LY.out; omega); rwa [Nat.zero_add] at this
  obtain ⟨g, Gg⟩ : ∃ g, Hid (w2.heap.size = g) := ⟨_, rfl⟩
  have BX : Hid (∀ {j : Nat}, j < l1 → g1 < g) := fun {j} hj => by rw [← Gg.out]; exact cell_lt (CX.out j hj)
  have BY : Hid (∀ {j : Nat}, j < l2 → g2 < g) := fun {j} hj => by rw [← Gg.out]; exact cell_lt (CY.out j hj)
  rw [LY.out, G1, G2]
  clear ly hy vy ky by_ LX0 LX2 ly2 HB1 D1 G2
  obtain ⟨C, HC⟩ : ∃ C, Hid (l1 + l2 + 1 = C) := ⟨_, rfl⟩
  have hmk := make64_room (l1 + l2 + 1) (by omega) w2
  rw [show ((l1 + l2 + 1 : Nat) : Int) = (l1 : Int) + (l2 : Int) + 1 by omega, HC.out, Gg.out] at hmk
  have bm := hid ((Below.refl w2.heap.size w2).alloc (Nat.le_refl _) (.cells (madeCells #[.int .u64 0] C) 23))
  have gm := hid (Grown.made w2 C)
  rw [Gg.out] at bm gm
  generalize w2.alloc (.cells (madeCells #[.int .u64 0] C) 23) = wm at hmk bm gm
  have hCb : C ≤ 35184372088832 := by have := HC.out; omega
  go_wp2
  clear hmk
  go_loopw [7, 8, 9] (fun a c i wr => ∃ (j : Nat) (cc : Int) (ss : List Int), j ≤ l1 + l2 ∧ j + 1 ≤ C ∧ i = .int .i64 j ∧ a = .slice (some ⟨g, 0, none⟩) j C ∧ c = .int .u64 cc ∧ 0 ≤ cc ∧ cc ≤ 1 ∧ Hid (Grown wr g ss (C - j)) ∧ Hid (ss.length = j) ∧ Hid (Nm.Halves ss) ∧ Hid (Nm.v32 ss + Nm.p32 j * cc = Nm.v32 (xs.take j) + Nm.v32 (ys.take j)) ∧ Below g w2 wr) (fun _ _ i _ => l1 + l2 - (intOf i).toNat)
  case atStart => exact ⟨0, 0, [], Nat.zero_le _, by have := HC.out; omega, rfl, rfl, rfl, by omega, by omega, gm.out, rfl, Nm.Halves.nil, rfl, bm.out⟩
  case round =>
    obtain ⟨j, cc, ss, hj, hjC, rfl, rfl, rfl, hc0, hc1, G, L, HS, V, hB⟩ := hrel
    have G' := G.out
    rw [show C - j = (C - j - 1) + 1 by omega] at G'
    by_cases h1 : j < l1
    · have hj2 : j + 1 ≤ l1 + l2 := by omega
      have hj3 : j + 1 + 1 ≤ C := by have := HC.out; omega
      by_cases h2 : j < l2
      · skip
        obtain ⟨x, hx, X⟩ : ∃ x, wr.cell? ⟨g1, j, none⟩ = some (.int .u64 x) ∧ Hid (x = xs.getD j 0) := ⟨_, (hB.cell (p := ⟨g1, j, none⟩) (BX.out h1)).trans (CX.out j h1), rfl⟩
        have hx0 : 0 ≤ x := by have := HX.out.at j; have := X.out; omega
        have hx1 : x < 4294967296 := by have := HX.out.at j; have := X.out; omega
        have h1' : (j : Int) < (l1 : Int) := by omega
        obtain ⟨y, hy, Y⟩ : ∃ y, wr.cell? ⟨g2, j, none⟩ = some (.int .u64 y) ∧ Hid (y = ys.getD j 0) := ⟨_, (hB.cell (p := ⟨g2, j, none⟩) (BY.out h2)).trans (CY.out j h2), rfl⟩
        have hy0 : 0 ≤ y := by have := HY.out.at j; have := Y.out; omega
        have hy1 : y < 4294967296 := by have := HY.out.at j; have := Y.out; omega
        have h2' : (j : Int) < (l2 : Int) := by omega
        obtain ⟨c1, hc1, C1⟩ : ∃ c1, IntKind.u64.wrap (cc + x) = c1 ∧ Hid (c1 = cc + x) := ⟨_, by rw [IntKind.wrap_u64, Int.emod_eq_of_lt (by omega) (by omega)], rfl⟩
        have hc10 : 0 ≤ c1 := by have := C1.out; omega
        have hc11 : c1 ≤ 4294967296 := by have := C1.out; omega
        obtain ⟨c2, hc2, C2⟩ : ∃ c2, IntKind.u64.wrap (c1 + y) = c2 ∧ Hid (c2 = c1 + y) := ⟨_, by rw [IntKind.wrap_u64, Int.emod_eq_of_lt (by omega) (by omega)], rfl⟩
        have hc20 : 0 ≤ c2 := by have := C2.out; omega
        have hc21 : c2 ≤ 8589934592 := by have := C2.out; omega
        have TOT : Hid (c2 = cc + x + y) := by have := C1.out; have := C2.out; show _ = _; omega
        obtain ⟨lo, hlo, LO⟩ : ∃ lo, bits .and .u64 c2 4294967295 = lo ∧ Hid (lo = c2 % 4294967296) := ⟨_, r_mask32 c2 (by omega) (by omega), rfl⟩
        obtain ⟨hi, hhi, HI⟩ : ∃ hi, c2 / 4294967296 = hi ∧ Hid (hi = c2 / 4294967296) := ⟨_, rfl, rfl⟩
        have hi0 : 0 ≤ hi := by omega
        have hi1 : hi ≤ 1 := by have := TOT.out; have := HX.out.at j; have := HY.out.at j; have := X.out; have := Y.out; omega
        obtain ⟨w2, ap, gr, be, sz⟩ := push64 g j (C - j - 1) C ss lo wr L.out (by omega) G'
        have AP := hid ap
        have GR := hid gr
        have BE := hid (hB.trans be)
        have BLO : Hid (0 ≤ lo ∧ lo < 4294967296) := by have := LO.out; show _ ∧ _; omega
        clear ap gr be sz hB G G'
        go_wp2_with (at_builtin; refine wpList_append_row rfl _ _ rfl AP.out (by rfl) (by rfl) ?_; clear AP)
        go_roundw
        case rel =>
          refine ⟨j + 1, hi, ss ++ [lo], by omega, by omega, by go_num, rfl, rfl, hi0, hi1, GR.out, ?_, HS.out.snoc BLO.out.1 BLO.out.2, ?_, BE.out⟩
          · have := L.out; simp only [Hid, List.length_append, List.length_cons, List.length_nil]; omega
          · exact Nm.plus_step L.out V.out (by rw [← X.out, ← Y.out, ← TOT.out, LO.out, HI.out]; omega)
        case measure => simp [intOf]; omega
      · skip
        obtain ⟨x, hx, X⟩ : ∃ x, wr.cell? ⟨g1, j, none⟩ = some (.int .u64 x) ∧ Hid (x = xs.getD j 0) := ⟨_, (hB.cell (p := ⟨g1, j, none⟩) (BX.out h1)).trans (CX.out j h1), rfl⟩
        have hx0 : 0 ≤ x := by have := HX.out.at j; have := X.out; omega
        have hx1 : x < 4294967296 := by have := HX.out.at j; have := X.out; omega
        have h1' : (j : Int) < (l1 : Int) := by omega
        obtain ⟨y, hy0, Y⟩ : ∃ y : Int, y = 0 ∧ Hid (y = ys.getD j 0) := ⟨0, rfl, by simp [Hid, List.getD, List.getElem?_eq_none (show ys.length ≤ j by have := LY.out; omega)]⟩
        have h2' : ¬ (j : Int) < (l2 : Int) := by omega
        obtain ⟨c1, hc1, C1⟩ : ∃ c1, IntKind.u64.wrap (cc + x) = c1 ∧ Hid (c1 = cc + x) := ⟨_, by rw [IntKind.wrap_u64, Int.emod_eq_of_lt (by omega) (by omega)], rfl⟩
        have hc10 : 0 ≤ c1 := by have := C1.out; omega
        have hc11 : c1 ≤ 4294967296 := by have := C1.out; omega
        have TOT : Hid (c1 = cc + x + y) := by have := C1.out; show _ = _; omega
        obtain ⟨lo, hlo, LO⟩ : ∃ lo, bits .and .u64 c1 4294967295 = lo ∧ Hid (lo = c1 % 4294967296) := ⟨_, r_mask32 c1 (by omega) (by omega), rfl⟩
        obtain ⟨hi, hhi, HI⟩ : ∃ hi, c1 / 4294967296 = hi ∧ Hid (hi = c1 / 4294967296) := ⟨_, rfl, rfl⟩
        have hi0 : 0 ≤ hi := by omega
        have hi1 : hi ≤ 1 := by have := TOT.out; have := HX.out.at j; have := HY.out.at j; have := X.out; have := Y.out; omega
        obtain ⟨w2, ap, gr, be, sz⟩ := push64 g j (C - j - 1) C ss lo wr L.out (by omega) G'
        have AP := hid ap
        have GR := hid gr
        have BE := hid (hB.trans be)
        have BLO : Hid (0 ≤ lo ∧ lo < 4294967296) := by have := LO.out; show _ ∧ _; omega
        clear ap gr be sz hB G G'
        go_wp2_with (at_builtin; refine wpList_append_row rfl _ _ rfl AP.out (by rfl) (by rfl) ?_; clear AP)
        go_roundw
        case rel =>
          refine ⟨j + 1, hi, ss ++ [lo], by omega, by omega, by go_num, rfl, rfl, hi0, hi1, GR.out, ?_, HS.out.snoc BLO.out.1 BLO.out.2, ?_, BE.out⟩
          · have := L.out; simp only [Hid, List.length_append, List.length_cons, List.length_nil]; omega
          · exact Nm.plus_step L.out V.out (by rw [← X.out, ← Y.out, ← TOT.out, LO.out, HI.out]; omega)
        case measure => simp [intOf]; omega
    · by_cases h2 : j < l2
      · have hj2 : j + 1 ≤ l1 + l2 := by omega
        have hj3 : j + 1 + 1 ≤ C := by have := HC.out; omega
        obtain ⟨x, hx0, X⟩ : ∃ x : Int, x = 0 ∧ Hid (x = xs.getD j 0) := ⟨0, rfl, by simp [Hid, List.getD, List.getElem?_eq_none (show xs.length ≤ j by have := LX.out; omega)]⟩
        have h1' : ¬ (j : Int) < (l1 : Int) := by omega
        obtain ⟨y, hy, Y⟩ : ∃ y, wr.cell? ⟨g2, j, none⟩ = some (.int .u64 y) ∧ Hid (y = ys.getD j 0) := ⟨_, (hB.cell (p := ⟨g2, j, none⟩) (BY.out h2)).trans (CY.out j h2), rfl⟩
        have hy0 : 0 ≤ y := by have := HY.out.at j; have := Y.out; omega
        have hy1 : y < 4294967296 := by have := HY.out.at j; have := Y.out; omega
        have h2' : (j : Int) < (l2 : Int) := by omega
        obtain ⟨c2, hc2, C2⟩ : ∃ c2, IntKind.u64.wrap (cc + y) = c2 ∧ Hid (c2 = cc + y) := ⟨_, by rw [IntKind.wrap_u64, Int.emod_eq_of_lt (by omega) (by omega)], rfl⟩
        have hc20 : 0 ≤ c2 := by have := C2.out; omega
        have hc21 : c2 ≤ 8589934592 := by have := C2.out; omega
        have TOT : Hid (c2 = cc + x + y) := by have := C2.out; show _ = _; omega
        obtain ⟨lo, hlo, LO⟩ : ∃ lo, bits .and .u64 c2 4294967295 = lo ∧ Hid (lo = c2 % 4294967296) := ⟨_, r_mask32 c2 (by omega) (by omega), rfl⟩
        obtain ⟨hi, hhi, HI⟩ : ∃ hi, c2 / 4294967296 = hi ∧ Hid (hi = c2 / 4294967296) := ⟨_, rfl, rfl⟩
        have hi0 : 0 ≤ hi := by omega
        have hi1 : hi ≤ 1 := by have := TOT.out; have := HX.out.at j; have := HY.out.at j; have := X.out; have := Y.out; omega
        obtain ⟨w2, ap, gr, be, sz⟩ := push64 g j (C - j - 1) C ss lo wr L.out (by omega) G'
        have AP := hid ap
        have GR := hid gr
        have BE := hid (hB.trans be)
        have BLO : Hid (0 ≤ lo ∧ lo < 4294967296) := by have := LO.out; show _ ∧ _; omega
        clear ap gr be sz hB G G'
        go_wp2_with (at_builtin; refine wpList_append_row rfl _ _ rfl AP.out (by rfl) (by rfl) ?_; clear AP)
        go_roundw
        case rel =>
          refine ⟨j + 1, hi, ss ++ [lo], by omega, by omega, by go_num, rfl, rfl, hi0, hi1, GR.out, ?_, HS.out.snoc BLO.out.1 BLO.out.2, ?_, BE.out⟩
          · have := L.out; simp only [Hid, List.length_append, List.length_cons, List.length_nil]; omega
          · exact Nm.plus_step L.out V.out (by rw [← X.out, ← Y.out, ← TOT.out, LO.out, HI.out]; omega)
        case measure => simp [intOf]; omega
      · have h1' : ¬ (j : Int) < (l1 : Int) := by omega
        have h2' : ¬ (j : Int) < (l2 : Int) := by omega
        obtain ⟨w3, ap, gr, be, sz⟩ := push64 g j (C - j - 1) C ss cc wr L.out (by omega) G'
        have AP := hid ap
        have D3 := hid (chain D2.out (by rw [Gg.out]; exact hB.trans be) (Nat.le_refl _))
        have VV : Hid (Nm.v32 (ss ++ [cc]) = Nm.val za + Nm.val zb) := by
          have := V.out
          rw [List.take_of_length_le (by have := LX.out; omega), List.take_of_length_le (by have := LY.out; omega), VX.out, VY.out] at this
          rw [Hid, Nm.v32_snoc, L.out]
          exact this
        have HS2 := hid (HS.out.snoc hc0 (by omega : cc < 4294967296))
        have AG : Hid (Arg w3 (some ⟨g, 0, none⟩) (j + 1) C (ss ++ [cc])) := ⟨by simp [L.out], by omega, by have := HC.out; omega, gr.lies, HS2.out.limbs⟩
        have hw3 : Hid (w.heap.size ≤ w3.heap.size) := D3.out.size
        clear ap gr be sz hB G G'
        go_wp2_with (at_builtin; refine wpList_append_row rfl _ _ rfl AP.out (by rfl) (by rfl) ?_; clear AP)
        refine (rlimbs_any _ (j + 1) C (ss ++ [cc]) _ AG.out HS2.out).mono ?_
        rintro e w4 ⟨r, os, rfl, hA, hb⟩
        rw [VV.out] at hA
        have A4 := hid (hA.mono hw3.out)
        have D4 := hid (chain D3.out hb (Nat.le_refl _))
        clear hA hb
        go_wp2
        go_ret
        exact ⟨r, os, rfl, A4.out, D4.out⟩
end Go.Proofs.YtljpmddjcfkonaaGreatDoor
