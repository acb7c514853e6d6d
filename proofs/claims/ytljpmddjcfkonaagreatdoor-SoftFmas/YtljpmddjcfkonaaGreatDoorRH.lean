/-
  Texts put together: QRoot, QSquaresRoot, XRoot, XSqrt, XSpec3, YSqrtR, QTop, QOrder, QRef1, QRef2, QGrow.
-/
import Derived.Test.YtljpmddjcfkonaaGreatDoorRD
import Derived.Test.YtljpmddjcfkonaaGreatDoorShr
import Derived.Test.YtljpmddjcfkonaaGreatDoorRF
import Derived.Test.YtljpmddjcfkonaaGreatDoorRC
import Derived.Deep.LoopGhost
import Derived.Test.YtljpmddjcfkonaaGreatDoorFromW
import Derived.Test.YtljpmddjcfkonaaGreatDoorSmall
import Derived.Test.YtljpmddjcfkonaaGreatDoorXNum
import Derived.Test.YtljpmddjcfkonaaGreatDoorRB
import Derived.Test.YtljpmddjcfkonaaGreatDoorSmallA
import Derived.Test.YtljpmddjcfkonaaGreatDoorBare
import Derived.Test.YtljpmddjcfkonaaGreatDoorShl
import Derived.Laws.AppendOwn
import Derived.Laws.OwnMore
namespace Go.Proofs.YtljpmddjcfkonaaGreatDoor
open Go.RowKit Go.Deep

namespace Rt
/-- Newton's step stays above the root. -/
theorem above {A r q n : Int} (hr : 1 ≤ r) (hq0 : 0 ≤ q) (hq : A < (q + 1) * r) (hn : r + q ≤ 2 * n + 1) : A < (n + 1) * (n + 1) := by
  have h1 : 4 * ((q + 1) * r) ≤ (r + q + 1) * (r + q + 1) := by
    have h2 : 0 ≤ (r - (q + 1)) * (r - (q + 1)) := by
      rcases Int.le_total 0 (r - (q + 1)) with h | h
      · exact Int.mul_nonneg h h
      · exact Int.mul_nonneg_of_nonpos_of_nonpos h h
    have e1 : (r - (q + 1)) * (r - (q + 1)) = r * r - 2 * ((q + 1) * r) + (q + 1) * (q + 1) := by
      rw [Int.sub_mul, Int.mul_sub, Int.mul_sub, Int.mul_comm r (q + 1)]; omega
    have e2 : (r + q + 1) * (r + q + 1) = r * r + 2 * ((q + 1) * r) + (q + 1) * (q + 1) := by
      have e : ∀ y : Int, (r + y) * (r + y) = r * r + 2 * (y * r) + y * y := fun y => by rw [Int.add_mul, Int.mul_add, Int.mul_add, Int.mul_comm r y]; omega
      rw [show r + q + 1 = r + (q + 1) by omega]
      exact e (q + 1)
    omega
  have h3 : (r + q + 1) * (r + q + 1) ≤ (2 * (n + 1)) * (2 * (n + 1)) := Int.mul_le_mul (by omega) (by omega) (by omega) (by omega)
  have e3 : (2 * (n + 1)) * (2 * (n + 1)) = 4 * ((n + 1) * (n + 1)) := by
    rw [Int.mul_assoc, Int.mul_left_comm (n + 1)]; omega
  omega

/-- Where the steps fall no more, the root is there. -/
theorem there {A r q : Int} (hr : 1 ≤ r) (hq : q * r ≤ A) (h : r ≤ (r + q) / 2) : r * r ≤ A := by
  have h1 : r ≤ q := by omega
  have h2 : r * r ≤ q * r := Int.mul_le_mul_of_nonneg_right h1 (by omega)
  omega

theorem start {A : Int} {L h : Nat} (hA : A < 2 ^ L) (hh : L ≤ 2 * h) : A < (2 ^ h + 1) * (2 ^ h + 1) := by
  have h1 := Nm.two_mono hh
  have h2 : (2 : Int) ^ (2 * h) = 2 ^ h * 2 ^ h := by rw [← Nm.two_add]; congr 1; omega
  have h3 := Nm.two_pos h
  rw [Int.add_mul, Int.mul_add, Int.one_mul, Int.mul_one]
  omega

theorem room_any (a b c : Nat) (ha : a ≤ c) (hb : b ≤ c) : Nm.pw a + Nm.pw b ≤ Nm.pw (c + 1) := by
  have h1 := Nm.pw_mono ha
  have h2 := Nm.pw_mono hb
  have h3 := Nm.pw_pos c
  rw [Nm.pw_succ]
  omega

theorem room : Nm.pw 128 + Nm.pw 256 ≤ Nm.pw 4096 := room_any 128 256 4095 (by omega) (by omega)
end Rt

theorem Ans.argR {B : Nat} {w : World} {p : Option Addr} {ys : List Int} {n : Int} (h : Ans B w p ys n) (hn : n < Nm.pw 4096) : Arg w p ys.length ys.length ys :=
  h.arg (by have := h.small hn; omega)

theorem Ans.tsR {B : Nat} {w : World} {p : Option Addr} {ys : List Int} {n : Int} (h : Ans B w p ys n) (hn : n < Nm.pw 4096) : Nm.tsize ys ≤ 4096 := by
  rw [h.2.2.1]
  exact h.small hn

/-- A number's list has a limb. -/
theorem Ans.pos {B : Nat} {w : World} {p : Option Addr} {ys : List Int} {n : Int} (h : Ans B w p ys n) (hn : 0 < n) : 0 < Nm.tsize ys := by
  have h1 := Nm.tsize_zero_iff h.2.1
  have h2 := h.2.2.2.1
  omega

/-- What newton's numbers keep to. -/
structure Near (A r : Int) : Prop where
  one : 1 ≤ r
  small : r ≤ Nm.pw 128
  above : A < (r + 1) * (r + 1)

set_option maxRecDepth 100000 in
set_option maxHeartbeats 1000000 in
theorem step_ok (p s : Option Addr) (n cap : Nat) (za rs : List Int) (A r : Int) (B : Nat) (w : World) (ha : Arg w p n cap za) (hr : Ans B w s rs r) (hT : Tab w) (hA : Nm.val za = A) (hA1 : 1 ≤ A) (hA2 : A < Nm.pw 256) (hN : Near A r) :
    Calls Tryz.prog 118 #[.slice p n cap, .slice s (List.length rs) (List.length rs)] w fun e w' => ∃ t os, e = .returned (.slice t (List.length os) (List.length os)) ∧ Ans w.heap.size w' t os ((r + A / r) / 2) ∧ Below w.heap.size w w' := by
  have P0 := Rt.room
  have p128 := Nm.pw_pos 128
  have p256 := Nm.pw_pos 256
  have hr1 := hN.one
  have hr2 := hN.small
  have SD : A / r * r + A % r = A ∧ 0 ≤ A % r ∧ A % r < r ∧ 0 ≤ A / r ∧ A / r ≤ A := by
    have ed := Int.emod_add_mul_ediv A r
    have e0 := Int.emod_nonneg A (show r ≠ 0 by omega)
    have e1 := Int.emod_lt_of_pos A (show 0 < r by omega)
    have e2 : 0 ≤ A / r := Int.ediv_nonneg (by omega) (by omega)
    have e3 : A / r * 1 ≤ A / r * r := Int.mul_le_mul_of_nonneg_left (by omega) e2
    rw [Int.mul_comm] at ed
    exact ⟨by omega, e0, e1, e2, by omega⟩
  have hAs : A < Nm.pw 4096 ∧ r < Nm.pw 4096 ∧ A / r < Nm.pw 4096 ∧ r + A / r < Nm.pw 4096 := by
    generalize Nm.pw 4096 = x at *
    generalize Nm.pw 128 = y at *
    generalize Nm.pw 256 = z at *
    omega
  have h2 : 2 ≤ r + A / r := by
    rcases (show r = 1 ∨ 2 ≤ r by omega) with h | h
    · subst h
      rw [Int.ediv_one]
      omega
    · omega
  have ta : Nm.tsize za ≤ 4096 := (Nm.tsize_le_iff ha.2.2.2.2 4096).2 (by rw [hA]; exact hAs.1)
  have DM := divMod_ok p s n cap _ _ za rs w ha (hr.argR hAs.2.1) ta (hr.tsR hAs.2.1) (hr.pos (by omega))
  rw [hA, hr.2.2.2.1] at DM
  have HDM := hid DM
  have HR := hid hr
  have HT := hid hT
  have HS := hid hAs
  have H2 := hid h2
  clear DM ta SD P0 p128 p256 hr1 hr2 hAs h2 ha hr hT hA hA1 hA2 hN
  obtain ⟨q, HQ⟩ : ∃ q, Hid (A / r = q) := ⟨_, rfl⟩
  simp only [Splits, HQ.out] at HDM
  rw [HQ.out] at HS H2 ⊢
  go_enter Tryz.func118, Tryz.ntmps118
  go_wp2_with fail
  refine HDM.out.mono ?_
  rintro e w1 ⟨s1, os, s2, us, rfl, B1, -, hb1⟩
  have HB1 := hid B1
  have HR1 := hid (HR.out.below hb1 (Nat.le_refl _))
  have HT1 := hid (HT.out.below hb1)
  have D1 := hid hb1
  clear B1 hb1 HDM HR HT
  go_wp2_with fail
  refine (add_ok s s1 _ _ _ _ rs os _ (HR1.out.argR HS.out.2.1) (HB1.out.argR HS.out.2.2.1) (by rw [HR1.out.2.2.2.1, HB1.out.2.2.2.1]; exact HS.out.2.2.2)).mono ?_
  rintro e w2 ⟨s3, ts, rfl, B2, hb2⟩
  rw [HR1.out.2.2.2.1, HB1.out.2.2.2.1] at B2
  have HB2 := hid B2
  have HT2 := hid (HT1.out.below hb2)
  have D2 := hid (chain D1.out hb2 (Nat.le_refl _))
  clear B2 hb2 HT1 D1 HR1 HB1
  obtain ⟨L, l1, l2, l3, _⟩ := blen_is (Nm.trim ts) HB2.out.2.1.trim
  rw [Nm.trim_trim] at l3
  have hL : 1 < L := by
    rw [Nm.val_trim, HB2.out.2.2.2.1] at l2
    have h := l2.1
    have h2 := H2.out
    rcases (show L ≤ 1 ∨ 1 < L by omega) with c | c
    · have := Nm.two_mono c
      omega
    · exact c
  have SH := shr_ok s3 _ _ ts 1 1 L w2 (HB2.out.argR HS.out.2.2.2) HT2.out (HB2.out.tsR HS.out.2.2.2) rfl l1 l3 hL
  rw [HB2.out.2.2.2.1, show (2 : Int) ^ 1 = 2 by decide] at SH
  have HSH := hid SH
  clear SH l1 l2 l3 hL
  go_wp2_with fail
  refine HSH.out.mono ?_
  rintro e w3 ⟨s4, vs, rfl, B3, hb3⟩
  have HB3 := hid (B3.up D2.out.size)
  have D3 := hid (chain D2.out hb3 (Nat.le_refl _))
  clear B3 hb3
  go_wp2_with fail
  go_ret
  exact ⟨s4, vs, rfl, HB3.out, D3.out⟩

set_option maxRecDepth 100000 in
set_option maxHeartbeats 1000000 in
theorem newton_ok (p : Option Addr) (n cap : Nat) (za : List Int) (A : Int) (w : World) (ha : Arg w p n cap za) (hT : Tab w) (hA : Nm.val za = A) (hA1 : 1 ≤ A) (hA2 : A < Nm.pw 256) :
    Calls Tryz.prog 107 #[.slice p n cap] w fun e w' => ∃ t os R, e = .returned (.slice t (List.length os) (List.length os)) ∧ Ans w.heap.size w' t os R ∧ Hid (Near A R ∧ R * R ≤ A) ∧ Below w.heap.size w w' := by
  obtain ⟨L, l1, l2, l3, _⟩ := blen_is za ha.2.2.2.2
  have ts : Nm.tsize za ≤ 256 := (Nm.tsize_le_iff ha.2.2.2.2 256).2 (by rw [hA]; exact hA2)
  rw [hA] at l2
  obtain ⟨h, hh⟩ : ∃ h, (L + 1) / 2 = h := ⟨_, rfl⟩
  have r1 : ((L : Int) + 1) / 2 = (h : Int) := by omega
  have r2 : ((L : Int) + 1).tdiv 2 = (h : Int) := by rw [Int.tdiv_eq_ediv_of_nonneg (by omega)]; exact r1
  have hL : (L : Int) ≤ 16384 := by omega
  have N0 : Near A (2 ^ h) := by
    refine ⟨by have := Nm.two_pos h; omega, ?_, Rt.start l2.1 (by omega)⟩
    rw [Nm.pw_two]
    exact Nm.two_mono (by omega)
  have BL := bitLen_any p n cap za w ha
  rw [l1] at BL
  have hb0 : Below w.heap.size w (w.alloc (.cells #[.int .u64 1] 23)) := (Below.refl _ _).alloc (Nat.le_refl _) _
  have A0 : Arg (w.alloc (.cells #[.int .u64 1] 23)) (some ⟨w.heap.size, 0, none⟩) 1 1 [1] := ⟨rfl, Nat.le_refl _, by omega, (Own.alloc w [1]).lies, limb_one (by omega)⟩
  have BL2 := bitLen_any p n cap za _ (ha.below hb0 (Nat.le_refl _))
  rw [l1] at BL2
  obtain ⟨L1, k1, _, k3, _⟩ := blen_is (Nm.trim [1]) (limb_one (x := 1) (by omega)).trim
  have t1 : Nm.tsize [1] = 1 := by simp [Nm.tsize]
  rw [Nm.trim_trim, t1] at k3
  have SH := shl_ok _ 1 1 [1] (h : Int) h L1 _ A0 (by rw [t1]; omega) rfl (by rw [t1]; omega) k1 (by omega)
  rw [show Nm.val [1] * 2 ^ h = 2 ^ h by simp [Nm.val]] at SH
  have HSH := hid SH
  have HBL := hid BL2
  have HN0 := hid N0
  have HA := hid ha
  have HT := hid hT
  have HV := hid hA
  have H1 := hid hA1
  have HS := hid hA2
  have HB0 := hid hb0
  have h0 : (0 : Int) ≤ (h : Int) := by omega
  clear l1 l2 l3 k1 k3 SH BL BL2 N0 ha hT hA hA1 hA2 hb0 A0 ts t1 hh
  go_enter Tryz.func107, Tryz.ntmps107
  go_wp2_with fail
  refine HBL.out.mono ?_
  rintro e w' ⟨rfl, rfl⟩
  go_wp2_with fail
  refine HSH.out.mono ?_
  rintro e w1 ⟨s1, os, rfl, B1, hb1⟩
  have HB1 := hid (B1.up HB0.out.size)
  have D1 := hid (chain HB0.out hb1 (Nat.le_refl _))
  clear B1 hb1 HSH HBL HB0
  go_wp2_with fail
  go_loopg [3] ((2 : Int) ^ h).toNat (fun x c wr => ∃ (R : Int) (t : Option Addr) (os : List Int), c = .slice t (List.length os) (List.length os) ∧ Hid (x = R.toNat) ∧ Hid (Ans w.heap.size wr t os R) ∧ Hid (Near A R) ∧ Hid (Below w.heap.size w wr))
  case atStart => exact ⟨2 ^ h, s1, os, rfl, rfl, HB1.out, HN0.out, D1.out⟩
  case round =>
    clear HB1 D1 HN0 r1 r2
    obtain ⟨R, t, os, rfl, GK, HO, HN, D⟩ := hrel
    have ST := hid (step_ok p t n cap za os A R w.heap.size wr (HA.out.below D.out (Nat.le_refl _)) HO.out (HT.out.below D.out) HV.out H1.out HS.out HN.out)
    go_wp2_with fail
    refine ST.out.mono ?_
    rintro e w2 ⟨t2, os2, rfl, B2, hb2⟩
    have HB2 := hid (B2.up D.out.size)
    have HO2 := hid (HO.out.below hb2 (Nat.le_refl _))
    have D2 := hid (chain D.out hb2 (Nat.le_refl _))
    clear B2 hb2 ST
    have hq := Int.emod_add_mul_ediv A R
    have hq1 := Int.emod_nonneg A (show R ≠ 0 by have := HN.out.one; omega)
    have hq2 := Int.emod_lt_of_pos A (show 0 < R by have := HN.out.one; omega)
    have hq3 : 0 ≤ A / R := Int.ediv_nonneg (by have := H1.out; omega) (by have := HN.out.one; omega)
    have hq4 : A / R * 1 ≤ A / R * R := Int.mul_le_mul_of_nonneg_left (by have := HN.out.one; omega) hq3
    rw [Int.mul_comm] at hq
    have AB := hid (Rt.above (A := A) (n := (R + A / R) / 2) HN.out.one hq3 (by rw [Int.add_mul, Int.one_mul]; omega) (by omega))
    have TH := hid (fun h => Rt.there (A := A) (q := A / R) HN.out.one (by omega) h)
    have hR2 : 2 ≤ R + A / R := by
      rcases (show R = 1 ∨ 2 ≤ R by have := HN.out.one; omega) with h | h
      · subst h
        rw [Int.ediv_one]
        have := H1.out
        omega
      · omega
    have room := Rt.room
    have p128 := Nm.pw_pos 128
    have p256 := Nm.pw_pos 256
    have hsm : R < Nm.pw 4096 ∧ (R + A / R) / 2 < Nm.pw 4096 := by
      have h1 := HN.out.small
      have h2 := HS.out
      generalize Nm.pw 4096 = x at *
      generalize Nm.pw 128 = y at *
      generalize Nm.pw 256 = z at *
      omega
    have HSM := hid hsm
    obtain ⟨X, HX⟩ : ∃ X, Hid ((R + A / R) / 2 = X) := ⟨_, rfl⟩
    have hX1 : 1 ≤ X := by rw [← HX.out]; omega
    rw [HX.out] at HB2 AB TH HSM
    have HX1 := hid hX1
    clear hq hq1 hq2 hq3 hq4 hR2 room p128 p256 hsm hX1
    by_cases hlt : X < R
    · have NX : Hid (Near A X) := ⟨HX1.out, by have := HN.out.small; omega, AB.out⟩
      have HLT := hid hlt
      clear hlt
      go_wp2_with fail
      refine (cmp_is (-1) t2 t _ _ _ _ os2 os _ (HB2.out.argR HSM.out.2) (HO2.out.argR HSM.out.1) (cmpI_lt (by rw [HB2.out.2.2.2.1, HO2.out.2.2.2.1]; exact HLT.out))).mono ?_
      rintro e w3 ⟨rfl, hb3⟩
      have HB3 := hid (HB2.out.below hb3 (Nat.le_refl _))
      have D3 := hid (chain D2.out hb3 (Nat.le_refl _))
      clear hb3
      go_wp2_with fail
      go_roundg X.toNat
      case measure => have := GK.out; have := HLT.out; have := HX1.out; omega
      case rel => exact ⟨X, t2, os2, rfl, rfl, HB3.out, NX.out, D3.out⟩
    · obtain ⟨c, hc0, HC⟩ : ∃ c : Int, 0 ≤ c ∧ Hid (cmpI X R = c) := by
        rcases (show X = R ∨ R < X by omega) with h | h
        · exact ⟨0, by omega, cmpI_eq h⟩
        · exact ⟨1, by omega, cmpI_gt h⟩
      have FI : Hid (Near A R ∧ R * R ≤ A) := ⟨HN.out, TH.out (by omega)⟩
      clear hlt
      go_wp2_with fail
      refine (cmp_is c t2 t _ _ _ _ os2 os _ (HB2.out.argR HSM.out.2) (HO2.out.argR HSM.out.1) (by rw [HB2.out.2.2.2.1, HO2.out.2.2.2.1]; exact HC.out)).mono ?_
      rintro e w3 ⟨rfl, hb3⟩
      have HB3 := hid (HO2.out.below hb3 (Nat.le_refl _))
      have D3 := hid (chain D2.out hb3 (Nat.le_refl _))
      clear hb3
      go_wp2_with fail
      go_ret
      exact ⟨t, os, R, rfl, HB3.out, FI, D3.out⟩
end Go.Proofs.YtljpmddjcfkonaaGreatDoor

namespace Go.Proofs.YtljpmddjcfkonaaGreatDoor
open Go.RowKit Go.Deep

/-- The whole root. -/
def IsRoot (A R : Int) : Prop := 0 ≤ R ∧ R * R ≤ A ∧ A < (R + 1) * (R + 1)

theorem limbs_isR (p : Option Addr) (n cap : Nat) (zs : List Int) (N : Nat) (w : World) (ha : Arg w p n cap zs) (hN : Nm.tsize zs = N) :
    Calls Tryz.prog 106 #[.slice p n cap] w fun e w' => e = .returned (.int .i64 (N : Int)) ∧ w' = w := by
  rw [← hN]
  exact limbs_any p n cap zs w ha

theorem root_big (p : Option Addr) (n cap : Nat) (za : List Int) (w : World) (ha : Arg w p n cap za) (tz : 256 < Nm.tsize za) :
    Calls Tryz.prog 75 #[.slice p n cap] w fun e w' => e = .returned (.tuple #[.slice none 0 0, .bool false, .int .i64 2]) ∧ w' = w := by
  obtain ⟨N, HN⟩ : ∃ N, Hid (Nm.tsize za = N) := ⟨_, rfl⟩
  have hN : (256 : Int) < (N : Int) := by have := HN.out; omega
  have HL := hid (limbs_isR p n cap za N w ha HN.out)
  clear ha tz
  go_enter Tryz.func75, Tryz.ntmps75
  go_wp2_with fail
  refine HL.out.mono ?_
  rintro e w' ⟨rfl, rfl⟩
  go_wp2_with fail
  go_ret3
  exact ⟨rfl, rfl⟩

theorem ret_root {t : Option Addr} {k : Nat} {b c : Bool} {e : Int} (h : b = c) : Ending.returned (.tuple #[.slice t k k, .bool b, .int .i64 e]) = .returned (.tuple #[.slice t k k, .bool c, .int .i64 e]) := by rw [h]

set_option maxRecDepth 100000 in
set_option maxHeartbeats 1000000 in
theorem root_ok (p : Option Addr) (n cap : Nat) (za : List Int) (A : Int) (w : World) (ha : Arg w p n cap za) (hT : Tab w) (tz : Nm.tsize za ≤ 256) (hA : Nm.val za = A) :
    Calls Tryz.prog 75 #[.slice p n cap] w fun e w' => ∃ t os R, e = .returned (.tuple #[.slice t (List.length os) (List.length os), .bool (decide (R * R = A)), .int .i64 0]) ∧ Ans w.heap.size w' t os R ∧ Hid (IsRoot A R) ∧ Below w.heap.size w w' := by
  obtain ⟨N, HN⟩ : ∃ N, Hid (Nm.tsize za = N) := ⟨_, rfl⟩
  have hN : (N : Int) ≤ 256 := by have := HN.out; omega
  have HL := hid (limbs_isR p n cap za N w ha HN.out)
  have hz := Nm.tsize_zero_iff ha.2.2.2.2
  have h0 := (Nm.val_bd za ha.2.2.2.2).1
  have hA2 : A < Nm.pw 256 := by rw [← hA]; exact (Nm.tsize_le_iff ha.2.2.2.2 256).1 tz
  rw [hA] at hz h0
  by_cases hN0 : N = 0
  · have hA0 : A = 0 := hz.1 (by rw [HN.out]; exact hN0)
    subst hN0
    subst hA0
    clear ha tz hz h0 hA2 hA
    go_enter Tryz.func75, Tryz.ntmps75
    go_wp2_with fail
    refine HL.out.mono ?_
    rintro e w' ⟨rfl, rfl⟩
    go_wp2_with fail
    refine HL.out.mono ?_
    rintro e w' ⟨rfl, rfl⟩
    go_wp2_with fail
    go_ret3
    exact ⟨none, [], 0, rfl, ans_none _ _ _ (fun a h => by cases h), show IsRoot 0 0 from ⟨by omega, by omega, by omega⟩, Below.refl _ _⟩
  · have hN1 : ((N : Int) == 0) = false := by rw [beq_eq_false_iff_ne]; omega
    have hA1 : 1 ≤ A := by
      rcases (show A = 0 ∨ 1 ≤ A by omega) with h | h
      · exact absurd (HN.out.symm.trans (hz.2 h)) hN0
      · exact h
    have NW := hid (newton_ok p n cap za A w ha hT hA hA1 hA2)
    have HA := hid ha
    have HV := hid hA
    have room := Rt.room
    have p128 := Nm.pw_pos 128
    have hAs : Hid (A < Nm.pw 4096) := by
      show _ < _
      generalize Nm.pw 4096 = x at *
      generalize Nm.pw 128 = y at *
      generalize Nm.pw 256 = z at *
      omega
    have HS : Hid (Nm.pw 128 < Nm.pw 4096) := by
      have p256 := Nm.pw_pos 256
      show _ < _
      generalize Nm.pw 4096 = x at *
      generalize Nm.pw 128 = y at *
      generalize Nm.pw 256 = z at *
      omega
    clear ha tz hz h0 hA2 hA hT room p128 hA1
    go_enter Tryz.func75, Tryz.ntmps75
    go_wp2_with fail
    refine HL.out.mono ?_
    rintro e w' ⟨rfl, rfl⟩
    go_wp2_with fail
    refine HL.out.mono ?_
    rintro e w' ⟨rfl, rfl⟩
    go_wp2_with fail
    refine NW.out.mono ?_
    rintro e w1 ⟨t, os, R, rfl, B1, HR, hb1⟩
    have HB1 := hid B1
    have D1 := hid hb1
    have HA1 := hid (HA.out.below hb1 (Nat.le_refl _))
    have hR : Hid (R < Nm.pw 4096) := Int.lt_of_le_of_lt HR.out.1.small HS.out
    have hRR : Hid (R * R < Nm.pw 4096) := Int.lt_of_le_of_lt HR.out.2 hAs.out
    clear B1 hb1 NW
    go_wp2_with fail
    refine (mul_ok t t _ _ _ _ os os _ (HB1.out.argR hR.out) (HB1.out.argR hR.out) (HB1.out.tsR hR.out) (HB1.out.tsR hR.out) (by rw [HB1.out.2.2.2.1]; exact hRR.out)).mono ?_
    rintro e w2 ⟨s, ss, rfl, B2, hb2⟩
    rw [HB1.out.2.2.2.1] at B2
    have HB2 := hid B2
    have HB1' := hid (HB1.out.below hb2 (Nat.le_refl _))
    have HA2 := hid (HA1.out.below hb2 (Nat.le_refl _))
    have D2 := hid (chain D1.out hb2 (Nat.le_refl _))
    have FI : Hid (IsRoot A R) := ⟨by have := HR.out.1.one; omega, HR.out.2, HR.out.1.above⟩
    clear B2 hb2 HB1 HA1 D1 HR
    obtain ⟨c, HC⟩ : ∃ c, Hid (cmpI (R * R) A = c) := ⟨_, rfl⟩
    have HE : Hid ((c == 0) = decide (R * R = A)) := by
      show _ = _
      rw [← HC.out, cmpI]
      have := FI.out.2.1
      by_cases h : R * R < A
      · rw [if_pos h]
        simp
        omega
      · rw [if_neg h, if_pos (by omega)]
        simp
        omega
    go_wp2_with fail
    refine (cmp_is c s p _ _ n cap ss za _ (HB2.out.argR hRR.out) HA2.out (by rw [HB2.out.2.2.2.1, HV.out]; exact HC.out)).mono ?_
    rintro e w3 ⟨rfl, hb3⟩
    have HB3 := hid (HB1'.out.below hb3 (Nat.le_refl _))
    have D3 := hid (chain D2.out hb3 (Nat.le_refl _))
    clear hb3
    go_wp2_with fail
    go_ret3
    exact ⟨t, os, R, ret_root HE.out, HB3.out, FI, D3.out⟩
end Go.Proofs.YtljpmddjcfkonaaGreatDoor

/-
  The root: what the squares of the middles say.
-/
namespace Go.Proofs.YtljpmddjcfkonaaGreatDoor
namespace Ie

theorem sq_le {a b : Int} (h0 : 0 ≤ a) (h : a ≤ b) : a * a ≤ b * b := Int.mul_le_mul h h h0 (by omega)
theorem sq_lt {a b : Int} (h0 : 0 ≤ a) (h : a < b) : a * a < b * b := by
  have h1 : a * a ≤ a * b := Int.mul_le_mul_of_nonneg_left (by omega) h0
  have h2 : a * b < b * b := Int.mul_lt_mul_of_pos_right h (by omega)
  omega

/-- The double x is the root of W, in units of 2^-2150: between the squares of the middles. -/
def RootIs (W x : Int) : Prop :=
  (0 < x ∧ x < 9218868437227405312) ∧ (md (x - 1) * md (x - 1) < W ∨ (md (x - 1) * md (x - 1) = W ∧ x % 2 = 0)) ∧ (W < md x * md x ∨ (W = md x * md x ∧ x % 2 = 0))

/-- What lies between a whole number of 64 bits and the next one holds no middle. -/
theorem no_md {r M : Int} {E a b : Nat} (hr : 1152921504606846976 ≤ r) (_M0 : 0 < M) (M1 : M < 18014398509481984) (h : r * 2 ^ a < M * 2 ^ E * 2 ^ b) : (r + 1) * 2 ^ a ≤ M * 2 ^ E * 2 ^ b := by
  rw [Int.mul_assoc, ← Nm.two_add] at h ⊢
  have lt : a < E + b := by
    rcases Nat.lt_or_ge a (E + b) with h' | h'
    · exact h'
    · exfalso
      have p := Nm.two_pos (E + b)
      have g1 : M * 2 ^ (E + b) < 18014398509481984 * 2 ^ (E + b) := Int.mul_lt_mul_of_pos_right M1 p
      have g2 := Nm.two_mono h'
      have g3 : 1152921504606846976 * 2 ^ a ≤ r * 2 ^ a := Int.mul_le_mul_of_nonneg_right hr (by have := Nm.two_pos a; omega)
      omega
  rw [show E + b = (E + b - a) + a by omega, Nm.two_add (E + b - a) a, ← Int.mul_assoc] at h ⊢
  have p := Nm.two_pos a
  have := Int.lt_of_mul_lt_mul_right h (by omega)
  exact Int.mul_le_mul_of_nonneg_right (by omega) (by omega)

theorem two_sq (a : Nat) : (2 : Int) ^ a * 2 ^ a = 2 ^ (2 * a) := by rw [← Nm.two_add]; congr 1; omega

theorem mul_sq (r : Int) (a : Nat) : r * 2 ^ a * (r * 2 ^ a) = r * r * 2 ^ (2 * a) := by
  rw [← two_sq]; ac_rfl

/-- n the radicand, r its whole root, moved by e; W = n * 2^(2 e + 2150). -/
theorem root_is (n r e x W : Int) (more : Bool) (hr : 1152921504606846976 ≤ r) (h1 : r * r ≤ n) (h2 : n < (r + 1) * (r + 1)) (hm : more = decide (r * r ≠ n)) (h : Rnd r 1 e more x)
    (c d : Nat) (hcd : (c : Int) - d = 2 * e + 2150) (hW : n * 2 ^ c = W * 2 ^ d) (hlo : 1 < W) (hhi : W < 18014398509481983 * 2 ^ 2045 * (18014398509481983 * 2 ^ 2045)) : RootIs W x := by
  obtain ⟨a, b, hab, hN⟩ := h.at
  rw [Int.one_mul] at hN
  have pa := Nm.two_pos a
  have pb := Nm.two_pos b
  have p2a := Nm.two_pos (2 * a)
  have p2b := Nm.two_pos (2 * b)
  -- W * 2^(2b) = n * 2^(2a)
  have key : n * 2 ^ (2 * a) = W * 2 ^ (2 * b) := by
    have pd := Nm.two_pos d
    have pc := Nm.two_pos c
    have e1 : (2 : Int) ^ (2 * a) * 2 ^ d = 2 ^ c * 2 ^ (2 * b) := by rw [← Nm.two_add, ← Nm.two_add]; congr 1; omega
    refine Int.eq_of_mul_eq_mul_right (a := 2 ^ d) (by omega) ?_
    rw [Int.mul_assoc, e1, ← Int.mul_assoc, hW]
    ac_rfl
  have lo : ∀ y, 0 ≤ y → (md y * 2 ^ b < r * 2 ^ a ∨ (md y * 2 ^ b = r * 2 ^ a ∧ (x % 2 = 0 ∨ more = true))) → md y * md y < W ∨ (md y * md y = W ∧ x % 2 = 0) := by
    intro y hy g
    have my := md_nn y hy
    have g0 : md y * 2 ^ b ≤ r * 2 ^ a := by rcases g with g | g <;> omega
    have g1 := sq_le (Int.mul_nonneg (by omega) (by omega)) g0
    rw [mul_sq, mul_sq] at g1
    have g2 : r * r * 2 ^ (2 * a) ≤ n * 2 ^ (2 * a) := Int.mul_le_mul_of_nonneg_right h1 (by omega)
    have g3 : md y * md y * 2 ^ (2 * b) ≤ W * 2 ^ (2 * b) := by omega
    have g4 := Int.le_of_mul_le_mul_right g3 p2b
    rcases (show md y * md y < W ∨ md y * md y = W by omega) with g5 | g5
    · exact .inl g5
    · right
      refine ⟨g5, ?_⟩
      rw [← g5] at key
      have g6 : r * r * 2 ^ (2 * a) = n * 2 ^ (2 * a) := by omega
      have g7 : r * r = n := Int.eq_of_mul_eq_mul_right (by omega) g6
      have g8 : more = false := by rw [hm]; simp [g7]
      rcases g with g | ⟨_, g⟩
      · have g9 := sq_lt (Int.mul_nonneg (by omega) (by omega)) g
        rw [mul_sq, mul_sq] at g9
        omega
      · rcases g with g | g
        · exact g
        · rw [g8] at g; cases g
  have hi : ∀ y, 0 ≤ y → (r * 2 ^ a < md y * 2 ^ b ∨ (r * 2 ^ a = md y * 2 ^ b ∧ x % 2 = 0 ∧ more = false)) → W < md y * md y ∨ (W = md y * md y ∧ x % 2 = 0) := by
    intro y hy g
    rcases g with g | ⟨g, g', g''⟩
    · left
      obtain ⟨M, E, hM, M0, M1⟩ := md_form y hy
      rw [hM] at g
      have g1 := no_md hr M0 M1 g
      rw [← hM] at g1
      have g2 := sq_le (Int.mul_nonneg (by omega) (by omega)) g1
      rw [mul_sq, mul_sq] at g2
      have g3 := Int.mul_lt_mul_of_pos_right h2 p2a
      refine Int.lt_of_mul_lt_mul_right (a := 2 ^ (2 * b)) ?_ (by omega)
      omega
    · right
      refine ⟨?_, g'⟩
      have g1 : r * r = n := by
        rw [hm] at g''
        simpa using g''
      have g2 : r * 2 ^ a * (r * 2 ^ a) = md y * 2 ^ b * (md y * 2 ^ b) := by rw [g]
      rw [mul_sq, mul_sq, g1] at g2
      exact Int.eq_of_mul_eq_mul_right (a := 2 ^ (2 * b)) (by omega) (by omega)
  have x0 : 0 < x := by
    rcases (show x = 0 ∨ 0 < x by have := hN.1.1; omega) with h0 | h0
    · exfalso
      subst h0
      have g := hi 0 (by omega) (hN.2.2 (by omega))
      rw [md_zero] at g
      omega
    · exact h0
  have x1 : x < 9218868437227405312 := by
    rcases (show x = 9218868437227405312 ∨ x < 9218868437227405312 by have := hN.1.2; omega) with h0 | h0
    · exfalso
      subst h0
      have g := lo 9218868437227405311 (by omega) (hN.2.1 (by omega))
      rw [md_last] at g
      omega
    · exact h0
  exact ⟨⟨x0, x1⟩, lo (x - 1) (by omega) (hN.2.1 x0), hi x (by omega) (hN.2.2 x1)⟩

theorem RootIs.one {W x y : Int} (h : RootIs W x) (k : RootIs W y) : x = y := by
  have key : ∀ {x y : Int}, RootIs W x → RootIs W y → ¬ x < y := by
    intro x y h k hl
    have g1 := h.2.2
    have g2 := k.2.1
    have hx := h.1.1
    have m1 := md_nn x (by omega)
    rcases (show x = y - 1 ∨ x < y - 1 by omega) with e | e
    · rw [← e] at g2
      rcases g1 with g1 | ⟨g1, g1'⟩ <;> rcases g2 with g2 | ⟨g2, g2'⟩ <;> omega
    · have := sq_lt (by omega) (md_lt (by omega) e)
      rcases g1 with g1 | ⟨g1, g1'⟩ <;> rcases g2 with g2 | ⟨g2, g2'⟩ <;> omega
  have a := key h k
  have b := key k h
  omega
end Ie
end Go.Proofs.YtljpmddjcfkonaaGreatDoor

/-
  soft: root, sqrt, Sqrt (made by mksqrt.py).
-/
namespace Go.Proofs.YtljpmddjcfkonaaGreatDoor
open Go Go.RowKit Go.Deep

theorem i64_and1 (n : Int) : bits .and .i64 n 1 = n % 2 := by
  have h1 : (BitVec.ofInt 64 1).toNat = 2 ^ 1 - 1 := by decide
  have key : (BitVec.ofInt 64 n &&& BitVec.ofInt 64 1).toNat = (n % ((2 ^ 64 : Nat) : Int)).toNat % 2 ^ 1 := by
    rw [BitVec.toNat_and, BitVec.toNat_ofInt, h1, Nat.and_two_pow_sub_one_eq_mod]
  show IntKind.i64.wrap ((BitVec.ofInt 64 n &&& BitVec.ofInt 64 1).toNat : Nat) = n % 2
  rw [key, IntKind.wrap_i64]
  omega

/-- What root answers. -/
def RootTold (V e : Int) (w : World) (r : Ending) (w' : World) : Prop :=
  ∃ (p : Option Addr) (os : List Int) (R k : Int) (d : Nat), r = .returned (exactOf false p (List.length os) (List.length os) k (!decide (R * R = V * 2 ^ d))) ∧ Ans w.heap.size w' p os R ∧ (d = 128 ∨ d = 129) ∧ 2 * k = e - d ∧ IsRoot (V * 2 ^ d) R ∧ Below w.heap.size w w'

set_option maxRecDepth 100000 in
set_option maxHeartbeats 4000000 in
theorem root_xany (n1 m1 : Bool) (p1 : Option Addr) (l1 c1 : Nat) (z1 : List Int) (e V : Int) (w : World) (a1 : Arg w p1 l1 c1 z1) (hT : Tab w) (hV : Nm.val z1 = V) (b1 : V < 2 ^ 60) (q1 : -1100 ≤ e) (q2 : e ≤ 1000) :
    Calls Tryz.prog 38 #[exactOf n1 p1 l1 c1 e m1] w fun r w' => RootTold V e w r w' := by
  have v0 : 0 ≤ V := by rw [← hV]; exact (Nm.val_bd z1 a1.2.2.2.2).1
  obtain ⟨m, hm⟩ : ∃ m, e % 2 = m := ⟨_, rfl⟩
  have m0 : 0 ≤ m ∧ m ≤ 1 := by omega
  obtain ⟨d, hd⟩ : ∃ d : Nat, (d : Int) = 128 + m := ⟨(128 + m).toNat, by omega⟩
  obtain ⟨k, hk⟩ : ∃ k, 2 * k = e - (128 + m) := ⟨(e - (128 + m)) / 2, by omega⟩
  have BA := i64_and1 e
  rw [hm] at BA
  have TD : (e - (128 + m)).tdiv 2 = k := by
    rw [← hk, Int.mul_tdiv_cancel_left _ (by decide)]
  have WK : wrap64 k = k := by simp only [wrap64]; omega
  have e4096 := pw_4096
  have big := Nm.two_mono (show 189 ≤ 262144 by omega)
  have b60 := Nm.two_mono (show 60 ≤ 189 by omega)
  have pr : V * 2 ^ d < 2 ^ 189 := by
    have h2 : V * 2 ^ d < 2 ^ 60 * 2 ^ d := Int.mul_lt_mul_of_pos_right b1 (Nm.two_pos d)
    rw [← Nm.two_add] at h2
    have := Nm.two_mono (show 60 + d ≤ 189 by omega)
    omega
  have t1 : Nm.tsize z1 ≤ 4096 := (Nm.tsize_le_iff a1.2.2.2.2 4096).2 (by rw [hV]; omega)
  have S1 : Hid (∀ (wx : World) (j : Int), Below w.heap.size w wx → j = 128 + m → Calls Tryz.prog 68 #[.slice p1 l1 c1, .int .i64 j] wx fun e w' => ∃ r os, e = .returned (.tuple #[.slice r (List.length os) (List.length os), .int .i64 0]) ∧ Ans wx.heap.size w' r os (V * 2 ^ d) ∧ Below wx.heap.size wx w') := by
    intro wx j hx hj
    have := shl_any p1 l1 c1 z1 j d wx (a1.below hx (Nat.le_refl _)) t1 (by omega) (by rw [hV]; omega)
    rw [hV] at this
    exact this
  have R1 : Hid (∀ (wx : World) (p : Option Addr) (os : List Int) (B : Nat), Below w.heap.size w wx → Ans B wx p os (V * 2 ^ d) → Calls Tryz.prog 75 #[.slice p os.length os.length] wx fun e w' => ∃ t qs R, e = .returned (.tuple #[.slice t (List.length qs) (List.length qs), .bool (decide (R * R = V * 2 ^ d)), .int .i64 0]) ∧ Ans wx.heap.size w' t qs R ∧ Hid (IsRoot (V * 2 ^ d) R) ∧ Below wx.heap.size wx w') := by
    intro wx p os B hx A
    have g := (A.tl pr (show 189 ≤ 262144 by omega))
    refine root_ok p _ _ os _ wx (A.arg (by omega)) (hT.below hx) ?_ A.2.2.2.1
    refine (Nm.tsize_le_iff A.2.1 256).2 ?_
    rw [A.2.2.2.1, Nm.pw_two]
    have := Nm.two_mono (show 189 ≤ 64 * 256 by omega)
    omega
  have h1 := alloc_b w (.cells #[.bool n1, .slice p1 l1 c1, .int .i64 e, .bool m1] 54)
  have s1 : (w.alloc (.cells #[.bool n1, .slice p1 l1 c1, .int .i64 e, .bool m1] 54)).heap.size = w.heap.size + 1 := by simp
  have R0 := Row4.new (w.alloc (.cells #[.bool n1, .slice p1 l1 c1, .int .i64 e, .bool m1] 54)) 54 (.bool false) (.slice none 0 0) (.int .i64 0) (.bool false)
  rw [s1] at R0
  have X0 := (Row4.new w 54 (.bool n1) (.slice p1 l1 c1) (.int .i64 e) (.bool m1)).below (alloc_b (w.alloc (.cells #[.bool n1, .slice p1 l1 c1, .int .i64 e, .bool m1] 54)) (.cells #[.bool false, .slice none 0 0, .int .i64 0, .bool false] 54)) (by omega)
  have h2 := Below.alloc h1 h1.size (.cells #[.bool false, .slice none 0 0, .int .i64 0, .bool false] 54)
  have HR := hid R0
  have HX := hid X0
  have HB := hid h2
  have FI : Hid (∀ (w3 : World) (p : Option Addr) (os : List Int) (R : Int), Ans (w.heap.size + 2) w3 p os R → Below w.heap.size w w3 → IsRoot (V * 2 ^ d) R →
      RootTold V e w (.returned (exactOf false p (List.length os) (List.length os) k (!decide (R * R = V * 2 ^ d)))) ((((w3.setCell ⟨w.heap.size + 1, 0, none⟩ (.bool false)).setCell ⟨w.heap.size + 1, 1, none⟩ (.slice p os.length os.length)).setCell ⟨w.heap.size + 1, 2, none⟩ (.int .i64 k)).setCell ⟨w.heap.size + 1, 3, none⟩ (.bool (!decide (R * R = V * 2 ^ d))))) := by
    intro w3 p os R A hB hR
    have A' := A.set4 (b := w.heap.size + 1) (u0 := .bool false) (u1 := .slice p os.length os.length) (u2 := .int .i64 k) (u3 := .bool (!decide (R * R = V * 2 ^ d))) (by omega)
    exact ⟨p, os, R, k, d, rfl, ⟨A'.1, A'.2.1, A'.2.2.1, A'.2.2.2.1, fun a h => by have := A'.2.2.2.2 a h; omega⟩, by omega, by omega, hR, set4_below hB (by omega)⟩
  obtain ⟨⟨y0, y1, y2, y3⟩, -⟩ := X0.cells
  simp only [exactOf]
  clear a1 hT hV b1 v0 hm hd hk e4096 big b60 pr t1 h1 s1 R0 X0 h2
  generalize V * 2 ^ d = N at *
  obtain ⟨m0, m1'⟩ := m0
  go_enter Tryz.func38, Tryz.ntmps38
  go_wp2_with fail
  refine (S1.out _ _ HB.out (by omega)).mono ?_
  rintro r wa ⟨pa, oa, rfl, A, hB⟩
  have Ra := HR.out.below hB HR.out.lt
  have Xa := HX.out.below hB HX.out.lt
  have Ba := HB.out.trans (hB.mono HB.out.size)
  have RO := hid (R1.out wa pa oa _ Ba A)
  have HRa := hid Ra
  have HXa := hid Xa
  have HBa := hid Ba
  have LT := hid (Nat.lt_of_lt_of_le HR.out.lt hB.size)
  clear y0 y1 y2 y3
  obtain ⟨⟨y0, y1, y2, y3⟩, -⟩ := Xa.cells
  clear A hB Ra Xa Ba S1 R1 HR HX HB
  go_wp2_with fail
  refine RO.out.mono ?_
  rintro r wb ⟨pb, ob, R, rfl, A, hIs, hB⟩
  have Rb := HRa.out.below hB HRa.out.lt
  have Xb := HXa.out.below hB HXa.out.lt
  have lt := LT.out
  have KK := hid (FI.out wb pb ob R ⟨A.1, A.2.1, A.2.2.1, A.2.2.2.1, fun a h => by have := A.2.2.2.2 a h; omega⟩ (HBa.out.trans (hB.mono HBa.out.size)) hIs.out)
  clear y0 y1 y2 y3
  obtain ⟨⟨y0, y1, y2, y3⟩, -⟩ := Xb.cells
  have RR := hid Rb
  obtain ⟨⟨r0, r1, r2, r3⟩, ⟨f0, f1, f2, f3⟩⟩ := Rb.cells
  clear A hB Rb Xb RO HRa HXa HBa LT lt FI hIs
  go_wp2_with fail
  (try simp only [Exit.inBlock, Exit.then])
  refine bodyPost_ret (results_cell_row rfl _ _ (w.heap.size + 1) 54 _ (0, 0) _ rfl (Row4.set RR.out) Tryz.underlying54 rfl (by kernel_rfl)) rfl ?_
  exact KK.out

namespace Ie
/-- What sqrt answers. -/
def SqrtIs (a r f : Int) : Prop :=
  if isn a = true then r = 9221120237041090560 ∧ f = 0
  else if isz a = true ∨ a = 9218868437227405312 then r = a ∧ f = 0
  else if ngd a = true then r = 9221120237041090560 ∧ f = 1
  else ∃ (R k : Int) (d : Nat), (d = 128 ∨ d = 129) ∧ 2 * k = de a - d ∧ IsRoot (dm a * 2 ^ d) R ∧ Res false R k (!decide (R * R = dm a * 2 ^ d)) r f

theorem root_small {N R : Int} (h : IsRoot N R) (hN : N < 2 ^ 189) : R < 2 ^ 189 := by
  have h0 := h.1
  have h1 := h.2.1
  rcases (show R = 0 ∨ 1 ≤ R by omega) with g | g
  · have := Nm.two_pos 189; omega
  · have : R * 1 ≤ R * R := Int.mul_le_mul_of_nonneg_left g h0
    omega
end Ie

set_option maxRecDepth 100000 in
set_option maxHeartbeats 4000000 in
theorem sqrt_any (a : Int) (w : World) (a0 : 0 ≤ a) (a1 : a < 18446744073709551616) (hT : Tab w) :
    Calls Tryz.prog 11 #[.int .u64 a] w fun e w' => Told2 (Ie.SqrtIs a) w e w' := by
  have NA := hid (fun (wx : World) => nan_any a wx a0 a1)
  have ZA := hid (fun (wx : World) => zero_any a wx a0 a1)
  have SA := Ib.sign_and a a0 a1
  have KK : Hid (∀ (e : Ending) (r f : Int), e = .returned (.tuple #[.int .u64 r, .int .i64 f]) → Ie.SqrtIs a r f → Told2 (Ie.SqrtIs a) w e w) := fun e r f h1 h2 => ⟨r, f, h1, h2, Below.refl _ _⟩
  cases na : Ie.isn a
  · rw [na] at NA
    cases za : Ie.isz a
    · rw [za] at ZA
      by_cases hi : a = 9218868437227405312
      · have SP : Hid (Ie.SqrtIs a a 0) := by rw [Hid, Ie.SqrtIs, na, za]; simp [hi]
        subst hi
        clear na za hT SA
        go_enter Tryz.func11, Tryz.ntmps11
        go_wp2_with fail
        refine (NA.out _).mono ?_
        rintro e wz ⟨rfl, hz⟩
        replace hz := hz.symm
        subst hz
        go_wp2_with fail
        refine (ZA.out _).mono ?_
        rintro e wz ⟨rfl, hz⟩
        replace hz := hz.symm
        subst hz
        go_wp2_with fail
        go_ret2
        exact KK.out _ _ _ rfl SP.out
      · have hi' : (a == 9218868437227405312) = false := by rw [beq_eq_false_iff_ne]; exact hi
        cases ng : Ie.ngd a
        · have s0 : a / 9223372036854775808 = 0 := by
            rw [Ie.ngd, decide_eq_false_iff_not] at ng
            omega
          rw [s0, Int.zero_mul] at SA
          have fa : Ie.fin a := by
            rw [Ie.isn, decide_eq_false_iff_not] at na
            rw [Ie.ngd, decide_eq_false_iff_not] at ng
            rw [Ie.fin]
            simp only [Ie.ab] at na ⊢
            omega
          obtain ⟨⟨da0, da1⟩, ⟨ea0, ea1⟩, -, -⟩ := Ie.dec_f a fa
          have e60 : (2 : Int) ^ 60 = 1152921504606846976 := by decide
          have da2 : Ie.dm a < 2 ^ 60 := by omega
          have UA := hid (fun (wx : World) => number_any a wx a0 a1 fa)
          have RT : Hid (∀ (wx : World) (p : Option Addr) (os : List Int) (B : Nat), Below w.heap.size w wx → Ans B wx p os (Ie.dm a) → Calls Tryz.prog 38 #[exactOf (Ie.ngd a) p os.length os.length (Ie.de a) false] wx fun r w' => RootTold (Ie.dm a) (Ie.de a) wx r w') := by
            intro wx p os B hx A
            exact root_xany _ _ p _ _ os _ _ wx (A.arg (by have := A.tl da2 (show 60 ≤ 262144 by omega); omega)) (hT.below hx) A.2.2.2.1 da2 (by omega) (by omega)
          have RO : Hid (∀ (wx : World) (p : Option Addr) (os : List Int) (R k : Int) (d : Nat) (more : Bool) (B : Nat), Below w.heap.size w wx → Ans B wx p os R → (d = 128 ∨ d = 129) → 2 * k = Ie.de a - d → IsRoot (Ie.dm a * 2 ^ d) R → Calls Tryz.prog 36 #[exactOf false p os.length os.length k more] wx fun r w' => RoundedTold false R k more wx r w') := by
            intro wx p os R k d more B hx A hd hk hI
            have hN : Ie.dm a * 2 ^ d < 2 ^ 189 := by
              have h2 : Ie.dm a * 2 ^ d < 2 ^ 60 * 2 ^ d := Int.mul_lt_mul_of_pos_right da2 (Nm.two_pos d)
              rw [← Nm.two_add] at h2
              have := Nm.two_mono (show 60 + d ≤ 189 by omega)
              omega
            have vb := Ie.root_small hI hN
            have m5 := Nm.two_mono (show 189 ≤ 5000 by omega)
            exact rounded_any false more p _ _ os k R wx (A.arg (by have := A.tl vb (show 189 ≤ 262144 by omega); omega)) (hT.below hx) A.2.2.2.1 A.len0 (by omega) (by omega) (by omega)
          have FI : Hid (∀ (r f : Int), (∃ (R k : Int) (d : Nat), (d = 128 ∨ d = 129) ∧ 2 * k = Ie.de a - d ∧ IsRoot (Ie.dm a * 2 ^ d) R ∧ Ie.Res false R k (!decide (R * R = Ie.dm a * 2 ^ d)) r f) → Ie.SqrtIs a r f) := by
            intro r f h
            rw [Ie.SqrtIs, na, za, ng]
            simp only [Bool.false_eq_true, hi, or_self, if_false]
            exact h
          clear na za ng hi hT da0 da1 ea0 ea1 e60 da2 fa s0
          go_enter Tryz.func11, Tryz.ntmps11
          go_wp2_with fail
          refine (NA.out _).mono ?_
          rintro e wz ⟨rfl, hz⟩
          replace hz := hz.symm
          subst hz
          go_wp2_with fail
          refine (ZA.out _).mono ?_
          rintro e wz ⟨rfl, hz⟩
          replace hz := hz.symm
          subst hz
          go_wp2_with fail
          refine (UA.out _).mono ?_
          rintro e w1 ⟨pa, oa, rfl, A1, hB1⟩
          have RT1 := hid (RT.out w1 pa oa _ hB1 A1)
          have HB := hid hB1
          simp only [exactOf] at RT1 ⊢
          clear A1 hB1 RT UA
          go_wp2_with fail
          refine RT1.out.mono ?_
          rintro e w2 ⟨p, os, R, k, d, rfl, A2, hd, hk, hI, hB2⟩
          have Bw := HB.out.trans (hB2.mono HB.out.size)
          have RR := hid (RO.out w2 p os R k d (!decide (R * R = Ie.dm a * 2 ^ d)) _ Bw A2 hd hk hI)
          have HC := hid Bw
          have HS := hid (And.intro hd (And.intro hk hI))
          simp only [exactOf] at RR ⊢
          have FI2 : Hid (∀ (r f : Int), Ie.Res false R k (!decide (R * R = Ie.dm a * 2 ^ d)) r f → Ie.SqrtIs a r f) := fun r f h => FI.out r f ⟨R, k, d, hd, hk, hI, h⟩
          generalize (!decide (R * R = Ie.dm a * 2 ^ d)) = mo at *
          clear A2 hB2 Bw RO RT1 HB hd hk hI
          go_wp2_with fail
          refine RR.out.mono ?_
          rintro e w4 ⟨x, t, L, rfl, h1, h2, h3, hB4⟩
          have KR : Hid (Told2 (Ie.SqrtIs a) w (.returned (.tuple #[.int .u64 (Ie.sg false x), .int .i64 (Ie.flg R k mo (Ie.sg false x) t L)])) w4) :=
            ⟨_, _, rfl, FI2.out _ _ ⟨x, t, L, rfl, rfl, h1, h2, h3⟩, HC.out.trans (hB4.mono HC.out.size)⟩
          clear h1 h2 h3 hB4 HC RR FI FI2 HS
          go_wp2_with fail
          go_ret2
          exact KR.out
        · have s0 : a / 9223372036854775808 = 1 := by
            rw [Ie.ngd, decide_eq_true_eq] at ng
            omega
          rw [s0, Int.one_mul] at SA
          have SP : Hid (Ie.SqrtIs a 9221120237041090560 1) := by rw [Hid, Ie.SqrtIs, na, za, ng]; simp [hi]
          clear na za ng hi hT s0
          go_enter Tryz.func11, Tryz.ntmps11
          go_wp2_with fail
          refine (NA.out _).mono ?_
          rintro e wz ⟨rfl, hz⟩
          replace hz := hz.symm
          subst hz
          go_wp2_with fail
          refine (ZA.out _).mono ?_
          rintro e wz ⟨rfl, hz⟩
          replace hz := hz.symm
          subst hz
          go_wp2_with fail
          go_ret2
          exact KK.out _ _ _ rfl SP.out
    · have SP : Hid (Ie.SqrtIs a a 0) := by rw [Hid, Ie.SqrtIs, na, za]; simp
      rw [za] at ZA
      clear na za hT SA
      go_enter Tryz.func11, Tryz.ntmps11
      go_wp2_with fail
      refine (NA.out _).mono ?_
      rintro e wz ⟨rfl, hz⟩
      replace hz := hz.symm
      subst hz
      go_wp2_with fail
      refine (ZA.out _).mono ?_
      rintro e wz ⟨rfl, hz⟩
      replace hz := hz.symm
      subst hz
      go_wp2_with fail
      go_ret2
      exact KK.out _ _ _ rfl SP.out
  · have SP : Hid (Ie.SqrtIs a 9221120237041090560 0) := by rw [Hid, Ie.SqrtIs, na]; simp
    rw [na] at NA
    clear na hT SA
    go_enter Tryz.func11, Tryz.ntmps11
    go_wp2_with fail
    refine (NA.out _).mono ?_
    rintro e wz ⟨rfl, hz⟩
    replace hz := hz.symm
    subst hz
    go_wp2_with fail
    go_ret2
    exact KK.out _ _ _ rfl SP.out
set_option maxRecDepth 100000 in
set_option maxHeartbeats 4000000 in
theorem softSqrt_any (a : Int) (w : World) (a0 : 0 ≤ a) (a1 : a < 18446744073709551616) (hT : Tab w) :
    Calls Tryz.prog 6 #[.int .u64 a] w fun e w' => Told1 (Ie.SqrtIs a) w e w' := by
  have AD := hid (sqrt_any a w a0 a1 hT)
  clear hT
  go_enter Tryz.func6, Tryz.ntmps6
  go_wp2_with fail
  refine AD.out.mono ?_
  rintro e w1 ⟨r, f, rfl, h, hB⟩
  have KK : Hid (Told1 (Ie.SqrtIs a) w (.returned (.int .u64 r)) w1) := ⟨r, f, rfl, h, hB⟩
  clear h hB AD
  go_wp2_with fail
  go_ret
  exact KK.out
end Go.Proofs.YtljpmddjcfkonaaGreatDoor

/-
  What sqrt answers of a double above nothing: between the squares of the middles.
-/
namespace Go.Proofs.YtljpmddjcfkonaaGreatDoor
namespace Ie

theorem SqrtIs.get {a r f : Int} (fa : fin a) (hz : ab a ≠ 0) (hn : ngd a = false) (h : SqrtIs a r f) : ∃ (R k : Int) (d : Nat), (d = 128 ∨ d = 129) ∧ 2 * k = de a - d ∧ IsRoot (dm a * 2 ^ d) R ∧ Res false R k (!decide (R * R = dm a * 2 ^ d)) r f := by
  have za : isz a = false := by rw [isz, decide_eq_false_iff_not]; exact hz
  have hi : ¬ a = 9218868437227405312 := by
    intro h
    rw [fin, h] at fa
    revert fa
    decide
  rw [SqrtIs, (fin_not fa).1, za, hn] at h
  simp only [Bool.false_eq_true, hi, or_self, if_false] at h
  exact h

theorem SqrtIs.root {a r f : Int} (fa : fin a) (hz : ab a ≠ 0) (hn : ngd a = false) (h : SqrtIs a r f) : RootIs (un (ab a) * 2 ^ 1076) r := by
  obtain ⟨R, k, d, hd, hk, hI, x, t, L, rfl, -, hR, -, -⟩ := h.get fa hz hn
  obtain ⟨⟨da0, da1⟩, ⟨ea0, ea1⟩, ga, za⟩ := dec_f a fa
  have dp : 0 < dm a := by omega
  have up := un_pos (x := ab a) (by have := (ab_bd a).1; omega)
  have nb : (2 : Int) ^ 128 ≤ dm a * 2 ^ d := by
    have h1 : 1 * 2 ^ d ≤ dm a * 2 ^ d := Int.mul_le_mul_of_nonneg_right (by omega) (by have := Nm.two_pos d; omega)
    have h2 := Nm.two_mono (show 128 ≤ d by omega)
    omega
  have rb : 18446744073709551616 ≤ R := by
    rcases (show 18446744073709551616 ≤ R ∨ R + 1 ≤ 18446744073709551616 by omega) with g | g
    · exact g
    · exfalso
      have h1 := sq_le (show 0 ≤ R + 1 by have := hI.1; omega) g
      have h2 : (2 : Int) ^ 128 = 18446744073709551616 * 18446744073709551616 := by decide
      have h3 := hI.2.2
      omega
  obtain ⟨ka, hka⟩ : ∃ k : Nat, (k : Int) = de a + 1074 := ⟨(de a + 1074).toNat, by omega⟩
  obtain ⟨c, hc⟩ : ∃ c : Nat, (c : Int) = de a + 2150 - d := ⟨(de a + 2150 - d).toNat, by omega⟩
  have um : un (ab a) < 2 ^ 2099 := by
    have h1 := un_lt (ab_bd a).1 fa
    have e1 : man 9218868437227405312 = 4503599627370496 := by decide
    have e2 : ex 9218868437227405312 = 2046 := by decide
    have e3 : un 9218868437227405312 = 2 ^ 2098 := by rw [un, e1, e2, show 2098 = 52 + 2046 by rfl, Nm.two_add]; rfl
    have e4 : (2 : Int) ^ 2099 = 2 * 2 ^ 2098 := Nm.two_succ 2098
    have := Nm.two_pos 2098
    omega
  refine root_is (dm a * 2 ^ d) R k r _ _ (by omega) hI.2.1 hI.2.2 (by simp) hR c 0 (by omega) ?_ ?_ ?_
  · rw [← ga ka hka, Int.pow_zero, Int.mul_one, Int.mul_assoc, Int.mul_assoc, ← Nm.two_add, ← Nm.two_add, show d + c = ka + 1076 by omega]
  · have h1 : 1 * 2 ^ 1076 ≤ un (ab a) * 2 ^ 1076 := Int.mul_le_mul_of_nonneg_right (by omega) (by have := Nm.two_pos 1076; omega)
    have h2 := Nm.two_mono (show 1 ≤ 1076 by omega)
    have h3 : (2 : Int) ^ 1 = 2 := rfl
    omega
  · have h1 : un (ab a) * 2 ^ 1076 < 2 ^ 2099 * 2 ^ 1076 := Int.mul_lt_mul_of_pos_right um (Nm.two_pos 1076)
    rw [← Nm.two_add] at h1
    have h2 : (2 : Int) ^ 2045 ≤ 18014398509481983 * 2 ^ 2045 := by have := Nm.two_pos 2045; omega
    have h3 := sq_le (show 0 ≤ (2 : Int) ^ 2045 by have := Nm.two_pos 2045; omega) h2
    rw [← Nm.two_add] at h3
    have h4 := Nm.two_mono (show 2099 + 1076 ≤ 2045 + 2045 by omega)
    omega

/-- A square of a double has it for its root. -/
theorem root_sq (y : Int) (h0 : 0 < y) (h1 : y < 9218868437227405312) : RootIs (vl y * vl y) y := by
  refine ⟨⟨h0, h1⟩, .inl ?_, .inl ?_⟩
  · have g := md_lt_vl (y - 1) (by omega)
    rw [show y - 1 + 1 = y by omega] at g
    exact sq_lt (by have := md_nn (y - 1) (by omega); omega) g
  · exact sq_lt (vl_nn (by omega)) (vl_lt_md y)

theorem sqrt_9 {r f : Int} (h : SqrtIs 4621256167635550208 r f) : r = 4613937818241073152 := by
  have h1 := h.root (by rw [fin]; decide) (by decide) (by decide)
  have e : ab 4621256167635550208 = 4621256167635550208 := by decide
  rw [e] at h1
  have h2 := root_sq 4613937818241073152 (by omega) (by omega)
  have e2 : vl 4613937818241073152 * vl 4613937818241073152 = un 4621256167635550208 * 2 ^ 1076 := by
    rw [vl_un, un_3, un_9]
    have e1 : (2 : Int) ^ 1076 = 18014398509481984 * 2 ^ 1022 := by rw [show 1076 = 54 + 1022 by rfl, Nm.two_add]; rfl
    rw [e1, p1022.1, p1022.2.2]
    generalize (2 : Int) ^ 1022 = P
    have l : (2 : Int) * (6755399441055744 * (2 * P)) * (2 * (6755399441055744 * (2 * P))) = 730166745731460135262101046296576 * (P * P) := by
      rw [show (2 : Int) * (6755399441055744 * (2 * P)) = 27021597764222976 * P by omega]
      rw [show (27021597764222976 : Int) * P * (27021597764222976 * P) = (27021597764222976 * 27021597764222976) * (P * P) by ac_rfl]
      rfl
    have r : (5066549580791808 : Int) * (8 * P) * (18014398509481984 * P) = 730166745731460135262101046296576 * (P * P) := by
      rw [show (5066549580791808 : Int) * (8 * P) * (18014398509481984 * P) = (5066549580791808 * 8 * 18014398509481984) * (P * P) by ac_rfl]
      rfl
    rw [l, r]
  rw [e2] at h2
  exact h1.one h2
end Ie
end Go.Proofs.YtljpmddjcfkonaaGreatDoor

namespace Go.Proofs.YtljpmddjcfkonaaGreatDoor
namespace Ie

def SqrtR (a r : Int) : Prop :=
  if isn a = true then r = 9221120237041090560
  else if isz a = true then r = a
  else if ngd a = true then r = 9221120237041090560
  else if isi a = true then r = a
  else RootIs (un (ab a) * 2 ^ 1076) r

theorem isi_pos {a : Int} (a0 : 0 ≤ a) (hn : ngd a = false) (hi : isi a = true) : a = 9218868437227405312 := by
  have h1 : ¬ 9223372036854775808 ≤ a := of_decide_eq_false hn
  have h2 : a % 9223372036854775808 = 9218868437227405312 := of_decide_eq_true hi
  omega

theorem SqrtIs.r {a r f : Int} (a0 : 0 ≤ a) (h : SqrtIs a r f) : SqrtR a r := by
  have h0 := h
  unfold SqrtR
  unfold SqrtIs at h
  split
  · rename_i g; rw [if_pos g] at h; exact h.1
  rename_i g1; rw [if_neg g1] at h
  split
  · rename_i g; rw [if_pos (.inl g)] at h; exact h.1
  rename_i g2
  split
  · rename_i g
    rw [if_neg, if_pos g] at h
    · exact h.1
    · rintro (k | k)
      · exact g2 k
      · subst k; exact absurd g (by decide)
  rename_i g3
  have g3' : ngd a = false := by cases c : ngd a; rfl; exact absurd c g3
  split
  · rename_i g
    rw [if_pos (.inr (isi_pos a0 g3' g))] at h
    exact h.1
  rename_i g4
  have fa : fin a := fin_of (by cases c : isn a; rfl; exact absurd c g1) (by cases c : isi a; rfl; exact absurd c g4)
  exact h0.root fa (fun c => g2 (by rw [isz, c]; rfl)) g3'

theorem SqrtR.one {a r r' : Int} (h : SqrtR a r) (k : SqrtR a r') : r = r' := by
  unfold SqrtR at h k
  split at h
  · rename_i g; rw [if_pos g] at k; rw [h, k]
  rename_i g1; rw [if_neg g1] at k
  split at h
  · rename_i g; rw [if_pos g] at k; rw [h, k]
  rename_i g2; rw [if_neg g2] at k
  split at h
  · rename_i g; rw [if_pos g] at k; rw [h, k]
  rename_i g3; rw [if_neg g3] at k
  split at h
  · rename_i g; rw [if_pos g] at k; rw [h, k]
  rename_i g4; rw [if_neg g4] at k
  exact h.one k

theorem root_ex {W : Int} (hlo : 1 < W) (hhi : W < md 9218868437227405311 * md 9218868437227405311) : ∃ x, RootIs W x := by
  have step : ∀ k : Nat, (∃ x, RootIs W x) ∨ (0 < (k : Int) → (k : Int) < 9218868437227405312 → md (k - 1) * md (k - 1) < W ∨ (md (k - 1) * md (k - 1) = W ∧ (k : Int) % 2 = 0)) := by
    intro k
    induction k with
    | zero => exact .inr (fun h => absurd h (by simp))
    | succ k ih =>
      rcases ih with ih | ih
      · exact .inl ih
      · rcases (show (k : Int) = 0 ∨ 0 < (k : Int) by omega) with h0 | h0
        · right
          intro _ _
          rw [show ((k + 1 : Nat) : Int) - 1 = 0 by omega, md_zero]
          left; omega
        · rcases (show (k : Int) < 9218868437227405312 ∨ 9218868437227405312 ≤ (k : Int) by omega) with hk | hk
          · by_cases hu : W < md k * md k ∨ (W = md k * md k ∧ (k : Int) % 2 = 0)
            · exact .inl ⟨k, ⟨h0, hk⟩, ih h0 hk, hu⟩
            · right
              intro _ _
              rw [show ((k + 1 : Nat) : Int) - 1 = k by omega]
              rcases Int.lt_trichotomy (md k * md k) W with g | g | g
              · exact .inl g
              · refine .inr ⟨g, ?_⟩
                have : ¬ (k : Int) % 2 = 0 := fun c => hu (.inr ⟨g.symm, c⟩)
                omega
              · exact absurd (.inl g) hu
          · right
            intro _ h; omega
  rcases step 9218868437227405311 with h | h
  · exact h
  · exact ⟨9218868437227405311, ⟨by decide, by decide⟩, h (by decide) (by decide), .inl hhi⟩

theorem root_room {a : Int} (fa : fin a) (hz : ab a ≠ 0) : 1 < un (ab a) * 2 ^ 1076 ∧ un (ab a) * 2 ^ 1076 < 18014398509481983 * 2 ^ 2045 * (18014398509481983 * 2 ^ 2045) := by
  have up := un_pos (x := ab a) (by have := (ab_bd a).1; omega)
  have um : un (ab a) < 2 ^ 2099 := by
    have h1 := un_lt (ab_bd a).1 fa
    have e1 : man 9218868437227405312 = 4503599627370496 := by decide
    have e2 : ex 9218868437227405312 = 2046 := by decide
    have e3 : un 9218868437227405312 = 2 ^ 2098 := by rw [un, e1, e2, show 2098 = 52 + 2046 by rfl, Nm.two_add]; rfl
    have e4 : (2 : Int) ^ 2099 = 2 * 2 ^ 2098 := Nm.two_succ 2098
    have := Nm.two_pos 2098
    omega
  constructor
  · have h1 : 1 * 2 ^ 1076 ≤ un (ab a) * 2 ^ 1076 := Int.mul_le_mul_of_nonneg_right (by omega) (by have := Nm.two_pos 1076; omega)
    have h2 := Nm.two_mono (show 1 ≤ 1076 by omega)
    have h3 : (2 : Int) ^ 1 = 2 := rfl
    omega
  · have h1 : un (ab a) * 2 ^ 1076 < 2 ^ 2099 * 2 ^ 1076 := Int.mul_lt_mul_of_pos_right um (Nm.two_pos 1076)
    rw [← Nm.two_add] at h1
    have h2 : (2 : Int) ^ 2045 ≤ 18014398509481983 * 2 ^ 2045 := by have := Nm.two_pos 2045; omega
    have h3 := sq_le (show 0 ≤ (2 : Int) ^ 2045 by have := Nm.two_pos 2045; omega) h2
    rw [← Nm.two_add] at h3
    have h4 := Nm.two_mono (show 2099 + 1076 ≤ 2045 + 2045 by omega)
    omega

theorem sqrtR_ex (a : Int) : ∃ r, SqrtR a r := by
  unfold SqrtR
  split
  · exact ⟨_, rfl⟩
  rename_i g1
  split
  · exact ⟨_, rfl⟩
  rename_i g2
  split
  · exact ⟨_, rfl⟩
  split
  · exact ⟨_, rfl⟩
  rename_i g4
  have fa : fin a := fin_of (by cases c : isn a; rfl; exact absurd c g1) (by cases c : isi a; rfl; exact absurd c g4)
  have rr := root_room fa (fun c => g2 (by rw [isz, c]; rfl))
  exact root_ex rr.1 (by rw [md_last]; exact rr.2)

/-- The document's way: the mantissa moved by 120 or 121 bits. -/
theorem yroot_is {a R k x : Int} {d : Nat} (fa : fin a) (hz : ab a ≠ 0) (hd : d = 120 ∨ d = 121) (hk : 2 * k = de a - d) (hI : 0 ≤ R ∧ R * R ≤ dm a * 2 ^ d ∧ dm a * 2 ^ d < (R + 1) * (R + 1)) (hR : Rnd R 1 k (!decide (R * R = dm a * 2 ^ d)) x) : RootIs (un (ab a) * 2 ^ 1076) x := by
  obtain ⟨⟨da0, da1⟩, ⟨ea0, ea1⟩, ga, za⟩ := dec_f a fa
  have dp : 0 < dm a := by omega
  have nb : (2 : Int) ^ 120 ≤ dm a * 2 ^ d := by
    have h1 : 1 * 2 ^ d ≤ dm a * 2 ^ d := Int.mul_le_mul_of_nonneg_right (by omega) (by have := Nm.two_pos d; omega)
    have h2 := Nm.two_mono (show 120 ≤ d by omega)
    omega
  have rb : 1152921504606846976 ≤ R := by
    rcases (show 1152921504606846976 ≤ R ∨ R + 1 ≤ 1152921504606846976 by omega) with g | g
    · exact g
    · exfalso
      have h1 := sq_le (show 0 ≤ R + 1 by have := hI.1; omega) g
      have h2 : (2 : Int) ^ 120 = 1152921504606846976 * 1152921504606846976 := by decide
      have h3 := hI.2.2
      omega
  obtain ⟨ka, hka⟩ : ∃ k : Nat, (k : Int) = de a + 1074 := ⟨(de a + 1074).toNat, by omega⟩
  obtain ⟨c, hc⟩ : ∃ c : Nat, (c : Int) = de a + 2150 - d := ⟨(de a + 2150 - d).toNat, by omega⟩
  have rr := root_room fa hz
  refine root_is (dm a * 2 ^ d) R k x _ _ (by omega) hI.2.1 hI.2.2 (by simp) hR c 0 (by omega) ?_ rr.1 rr.2
  rw [← ga ka hka, Int.pow_zero, Int.mul_one, Int.mul_assoc, Int.mul_assoc, ← Nm.two_add, ← Nm.two_add, show d + c = ka + 1076 by omega]
end Ie
end Go.Proofs.YtljpmddjcfkonaaGreatDoor

namespace Go.Proofs.YtljpmddjcfkonaaGreatDoor
open Go.RowKit Go.Deep

/-- The number of limbs, as the statements count it. -/
theorem top_any (p : Option Addr) (n cap : Nat) (zs : List Int) (w : World) (hn : zs.length = n) (hm : n ≤ 140737488355328) (h : Lies w p zs) :
    Calls Tryz.prog 47 #[.slice p n cap] w fun e w' => e = .returned (.int .i64 (Nm.tsize zs)) ∧ w' = w := by
  rcases h with rfl | ⟨b, off, rfl, hcell⟩
  · have hn0 : n = 0 := by simpa using hn.symm
    subst hn0
    go_enter Tryz.func47, Tryz.ntmps47
    go_wp2
    refine wp_loop_rounds 1 ?_
    rw [rounds_succ]
    go_wp2
    go_ret
    exact ⟨rfl, rfl⟩
  · have H : Hid (zs.length = n) := hn
    have HC : Hid (∀ i, i < zs.length → w.cell? ⟨b, off + i, none⟩ = some (.int .u64 (zs.getD i 0))) := hcell
    clear hn hcell
    go_enter Tryz.func47, Tryz.ntmps47
    go_wp2
    go_loop [3] (fun t => ∃ k : Nat, k ≤ n ∧ t = .int .i64 k ∧ Hid (∀ j, k ≤ j → zs.getD j 0 = 0)) (fun t => (intOf t).toNat)
    case atStart => exact ⟨n, Nat.le_refl _, rfl, fun j hj => by simp [List.getD, List.getElem?_eq_none (show zs.length ≤ j by have := H.out; omega)]⟩
    case round =>
      obtain ⟨k, hk, rfl, hz⟩ := hrel
      by_cases h0 : k = 0
      · subst h0
        go_wp2
        go_ret
        exact ⟨by rw [Nm.tsize_unique zs 0 hz.out (.inl rfl)]; rfl, rfl⟩
      · obtain ⟨j, rfl⟩ : ∃ j, k = j + 1 := ⟨k - 1, by omega⟩
        obtain ⟨x, hx, X⟩ : ∃ x, w.cell? ⟨b, off + j, none⟩ = some (.int .u64 x) ∧ Hid (x = zs.getD j 0) := ⟨_, HC.out j (by have := H.out; omega), rfl⟩
        by_cases hx0 : x = 0
        · subst hx0
          go_wp2
          go_round
          case rel =>
            refine ⟨j, by omega, rfl, fun i hi => ?_⟩
            by_cases e : i = j
            · subst e; exact X.out.symm
            · exact hz.out i (by omega)
          case measure => simp [intOf]
        · go_wp2
          go_ret
          exact ⟨by rw [Nm.tsize_unique zs (j + 1) hz.out (.inr (by rw [Nat.add_sub_cancel, ← X.out]; exact hx0))]; rfl, rfl⟩
end Go.Proofs.YtljpmddjcfkonaaGreatDoor

namespace Go.Proofs.YtljpmddjcfkonaaGreatDoor
open Go.RowKit Go.Deep

theorem qcmp_at3 {zs ys : List Int} (hz : Nm.Limbs zs) (hy : Nm.Limbs ys) (hl : (Nm.trim zs).length = (Nm.trim ys).length) (t : Nat) (ht : t < (Nm.trim zs).length) (he : ∀ i, t + 1 ≤ i → (Nm.trim zs).getD i 0 = (Nm.trim ys).getD i 0) {x y : Int}
    (hx : x = (Nm.trim zs).getD t 0) (hy' : y = (Nm.trim ys).getD t 0) : (x < y → cmpI (Nm.val zs) (Nm.val ys) = -1) ∧ (y < x → cmpI (Nm.val zs) (Nm.val ys) = 1) := by
  refine ⟨fun h => ?_, fun h => ?_⟩
  · rw [← cmp_at hz hy hl t ht he hx hy' (by omega)]
    simp [sgn]; omega
  · rw [← cmp_at hz hy hl t ht he hx hy' (by omega)]
    simp [sgn, h]

set_option maxHeartbeats 2000000 in
theorem order_any (p q : Option Addr) (n cap m cap' : Nat) (zs ys : List Int) (w : World) (ha : Arg w p n cap zs) (hb : Arg w q m cap' ys) :
    Calls Tryz.prog 50 #[.slice p n cap, .slice q m cap'] w fun e w' => e = .returned (.int .i64 (cmpI (Nm.val zs) (Nm.val ys))) ∧ Below w.heap.size w w' := by
  obtain ⟨a1, a2, a3, a4, a5⟩ := ha
  obtain ⟨b1, b2, b3, b4, b5⟩ := hb
  have tl := Nm.tsize_le zs
  have tl' := Nm.tsize_le ys
  have S1 := hid (top_any p n cap zs w a1 (by omega) a4)
  have S2 := hid (top_any q m cap' ys w b1 (by omega) b4)
  by_cases h1 : Nm.tsize zs < Nm.tsize ys
  · have E := hid (cmpI_lt (val_lt_of_tsize a5 b5 h1))
    have h1' : (Nm.tsize zs : Int) < (Nm.tsize ys : Int) := by omega
    clear h1
    go_enter Tryz.func50, Tryz.ntmps50
    go_wp2_with fail
    refine S1.out.mono ?_
    rintro e w' ⟨rfl, rfl⟩
    go_wp2_with fail
    refine S2.out.mono ?_
    rintro e w' ⟨rfl, rfl⟩
    go_wp2
    go_ret
    exact ⟨ret_i64 E.out.symm, Below.refl _ _⟩
  by_cases h2 : Nm.tsize ys < Nm.tsize zs
  · have E := hid (cmpI_gt (val_lt_of_tsize b5 a5 h2))
    have h1' : ¬ (Nm.tsize zs : Int) < (Nm.tsize ys : Int) := by omega
    have h2' : (Nm.tsize ys : Int) < (Nm.tsize zs : Int) := by omega
    clear h1 h2
    go_enter Tryz.func50, Tryz.ntmps50
    go_wp2_with fail
    refine S1.out.mono ?_
    rintro e w' ⟨rfl, rfl⟩
    go_wp2_with fail
    refine S2.out.mono ?_
    rintro e w' ⟨rfl, rfl⟩
    go_wp2
    go_ret
    exact ⟨ret_i64 E.out.symm, Below.refl _ _⟩
  obtain ⟨N, HN⟩ : ∃ N, Hid (Nm.tsize zs = N) := ⟨_, rfl⟩
  have HN' : Hid (Nm.tsize ys = N) := by have := HN.out; exact (show Nm.tsize ys = N by omega)
  have T1 := S1.out
  have T2 := S2.out
  rw [HN.out] at T1
  rw [HN'.out] at T2
  have HT1 := hid T1
  have HT2 := hid T2
  have hN : N ≤ 17592186044416 := by have := HN.out; omega
  have L1 := hid (Nm.trim_length zs)
  have L2 := hid (Nm.trim_length ys)
  clear h1 h2 tl tl' T1 T2 S1 S2
  have FIN : Hid (Nm.trim zs = Nm.trim ys → cmpI (Nm.val zs) (Nm.val ys) = 0) := fun h => cmpI_eq (by rw [← Nm.val_trim zs, ← Nm.val_trim ys, h])
  by_cases h0 : N = 0
  · subst h0
    go_enter Tryz.func50, Tryz.ntmps50
    go_wp2_with fail
    refine HT1.out.mono ?_
    rintro e w' ⟨rfl, rfl⟩
    go_wp2_with fail
    refine HT2.out.mono ?_
    rintro e w' ⟨rfl, rfl⟩
    go_wp2_with fail
    refine wp_loop_rounds 1 ?_
    rw [rounds_succ]
    go_wp2
    go_ret
    exact ⟨ret_i64 (FIN.out (by rw [List.eq_nil_of_length_eq_zero (L1.out.trans HN.out), List.eq_nil_of_length_eq_zero (L2.out.trans HN'.out)])).symm, Below.refl _ _⟩
  · obtain ⟨b, off, rfl, hbw, HC⟩ := a4.trim.at (by have := L1.out; have := HN.out; omega)
    obtain ⟨b', off', rfl, hbw', HC'⟩ := b4.trim.at (by have := L2.out; have := HN'.out; omega)
    have hNn : N ≤ n := by have := HN.out; have := Nm.tsize_le zs; omega
    have hNm : N ≤ m := by have := HN'.out; have := Nm.tsize_le ys; omega
    go_enter Tryz.func50, Tryz.ntmps50
    go_wp2_with fail
    refine HT1.out.mono ?_
    rintro e w' ⟨rfl, rfl⟩
    go_wp2_with fail
    refine HT2.out.mono ?_
    rintro e w' ⟨rfl, rfl⟩
    go_wp2_with fail
    go_loopw [7] (fun i wr => ∃ j : Nat, j ≤ N ∧ i = .int .i64 ((j : Int) - 1) ∧ Hid (∀ t, j ≤ t → (Nm.trim zs).getD t 0 = (Nm.trim ys).getD t 0) ∧ Below w'.heap.size w' wr) (fun i _ => (intOf i + 1).toNat)
    case atStart => exact ⟨N, Nat.le_refl _, rfl, fun t ht => by rw [List.getD, List.getElem?_eq_none (by have := L1.out; have := HN.out; omega), List.getD, List.getElem?_eq_none (by have := L2.out; have := HN'.out; omega)], Below.refl _ _⟩
    case round =>
      obtain ⟨j, hj, rfl, hE, hB⟩ := hrel
      by_cases hj0 : j = 0
      · subst hj0
        have HB := hid hB
        clear hB
        go_wp2
        go_ret
        refine ⟨ret_i64 (FIN.out ?_).symm, HB.out⟩
        have e := Nm.drop_eq_of_getD (by rw [L1.out, L2.out, HN.out, HN'.out]) 0 hE.out
        simpa using e
      · obtain ⟨t, rfl⟩ : ∃ t, j = t + 1 := ⟨j - 1, by omega⟩
        obtain ⟨x, hx, X⟩ : ∃ x, wr.cell? ⟨b, off + t, none⟩ = some (.int .u64 x) ∧ Hid (x = (Nm.trim zs).getD t 0) := ⟨_, (hB.cell (p := ⟨b, off + t, none⟩) hbw).trans (HC.out t (by have := L1.out; have := HN.out; omega)), rfl⟩
        obtain ⟨y, hy, Y⟩ : ∃ y, wr.cell? ⟨b', off' + t, none⟩ = some (.int .u64 y) ∧ Hid (y = (Nm.trim ys).getD t 0) := ⟨_, (hB.cell (p := ⟨b', off' + t, none⟩) hbw').trans (HC'.out t (by have := L2.out; have := HN'.out; omega)), rfl⟩
        have HB := hid hB
        have CM := hid (qcmp_at3 a5 b5 (by rw [L1.out, L2.out, HN.out, HN'.out]) t (by rw [L1.out, HN.out]; omega) hE.out X.out Y.out)
        clear hB
        have htn : (t : Int) < (n : Int) := by omega
        have htm : (t : Int) < (m : Int) := by omega
        by_cases hxy : x < y
        · go_wp2_with fail
          go_quiet (fail)
          go_wp2
          go_ret
          exact ⟨ret_i64 (CM.out.1 hxy).symm, below_drewN HB.out _⟩
        · go_wp2_with fail
          go_quiet (fail)
          have hx2 : (wr.drewN nq).cell? ⟨b, off + t, none⟩ = some (.int .u64 x) := hx
          have hy2 : (wr.drewN nq).cell? ⟨b', off' + t, none⟩ = some (.int .u64 y) := hy
          have HB2 := hid (below_drewN HB.out nq)
          clear hx hy HB
          generalize wr.drewN nq = wq at *
          by_cases hyx : y < x
          · go_wp2_with fail
            go_quiet (fail)
            go_wp2
            go_ret
            exact ⟨ret_i64 (CM.out.2 hyx).symm, below_drewN HB2.out _⟩
          · have EQ : Hid (x = y) := by show _ = _; omega
            go_wp2_with fail
            go_quiet (fail)
            go_wp2
            go_roundw
            case rel =>
              refine ⟨t, by omega, by go_num, fun i hi => ?_, below_drewN HB2.out _⟩
              by_cases e : i = t
              · subst e; rw [← X.out, ← Y.out]; exact EQ.out
              · exact hE.out i (by omega)
            case measure => simp [intOf]

theorem order_is (c : Int) (p q : Option Addr) (n cap m cap' : Nat) (zs ys : List Int) (w : World) (ha : Arg w p n cap zs) (hb : Arg w q m cap' ys) (hc : cmpI (Nm.val zs) (Nm.val ys) = c) :
    Calls Tryz.prog 50 #[.slice p n cap, .slice q m cap'] w fun e w' => e = .returned (.int .i64 c) ∧ Below w.heap.size w w' := by
  rw [← hc]
  exact order_any p q n cap m cap' zs ys w ha hb
end Go.Proofs.YtljpmddjcfkonaaGreatDoor

namespace Go.Proofs.YtljpmddjcfkonaaGreatDoor
open Go.RowKit Go.Deep

theorem eq_of_getD {a b : List Int} (hl : a.length = b.length) (h : ∀ i, i < a.length → a.getD i 0 = b.getD i 0) : a = b := by
  have e := Nm.drop_eq_of_getD hl 0 (fun j _ => by
    by_cases hj : j < a.length
    · exact h j hj
    · rw [List.getD, List.getElem?_eq_none (by omega), List.getD, List.getElem?_eq_none (by omega)])
  simpa using e

set_option maxRecDepth 100000 in
set_option maxHeartbeats 1000000 in
/-- Short: the trimmed list, in a block of its own. -/
theorem short_any (p : Option Addr) (n cap : Nat) (zs : List Int) (N : Nat) (w : World) (hn : zs.length = n) (hm : n ≤ 17592186044416) (h : Lies w p zs) (hN : Nm.tsize zs = N) :
    Calls Tryz.prog 48 #[.slice p n cap] w fun e w' => e = .returned (.slice (some ⟨w.heap.size, 0, none⟩) N N) ∧ Own w' w.heap.size (Nm.trim zs) ∧ Below w.heap.size w w' := by
  have T := top_any p n cap zs w hn (by omega) h
  rw [hN] at T
  have HT := hid T
  have tl := Nm.tsize_le zs
  have hNn : N ≤ n := by omega
  have hmk := make64 N (by omega) w
  have ho : Own (w.alloc (.cells (madeCells #[.int .u64 0] N) 23)) w.heap.size (List.replicate N 0) := by
    rw [made_zero]; exact Own.alloc w _
  have hb0 : Below w.heap.size w (w.alloc (.cells (madeCells #[.int .u64 0] N) 23)) := (Below.refl _ _).alloc (Nat.le_refl _) _
  obtain ⟨W0, hW0⟩ : ∃ W0, w.alloc (.cells (madeCells #[.int .u64 0] N) 23) = W0 := ⟨_, rfl⟩
  rw [hW0] at hmk ho hb0
  have LT := hid ((Nm.trim_length zs).trans hN)
  have TG : Hid (∀ i, i < N → (Nm.trim zs).getD i 0 = zs.getD i 0) := fun i hi => by rw [Nm.trim, Nm.getD_take, if_pos (by omega)]
  have HO := hid ho
  have HB0 := hid hb0
  have HN := hid hn
  have HL := hid h
  clear hW0 ho hb0 T tl hN hn h
  by_cases h0 : N = 0
  · subst h0
    have E : Hid (Own W0 w.heap.size (Nm.trim zs)) := by
      rw [List.eq_nil_of_length_eq_zero LT.out]
      exact HO.out
    have hmk1 : (Instr.makeSlice 39 (.int .i64 0) (.int .i64 0)).run Tryz.prog w = .ok (.slice (some ⟨w.heap.size, 0, none⟩) 0 0) W0 := hmk
    clear hmk
    go_enter Tryz.func48, Tryz.ntmps48
    go_wp2_with fail
    refine HT.out.mono ?_
    rintro e w' ⟨rfl, rfl⟩
    go_wp2_with fail
    refine wp_loop_rounds 1 ?_
    rw [rounds_succ]
    go_wp2_with fail
    go_ret
    exact ⟨rfl, E.out, HB0.out⟩
  · obtain ⟨b, off, rfl, hbw, HC⟩ := HL.out.at (by have := HN.out; omega)
    go_enter Tryz.func48, Tryz.ntmps48
    go_wp2_with fail
    refine HT.out.mono ?_
    rintro e w' ⟨rfl, rfl⟩
    go_wp2_with fail
    go_loopw [5] (fun i wr => ∃ (j : Nat) (os : List Int), j ≤ N ∧ i = .int .i64 j ∧ Hid (Own wr w'.heap.size os ∧ os.length = N ∧ (∀ t, t < j → os.getD t 0 = zs.getD t 0) ∧ Below w'.heap.size w' wr)) (fun i _ => N - (intOf i).toNat)
    case atStart => exact ⟨0, _, Nat.zero_le _, rfl, HO.out, by simp, fun t ht => by omega, HB0.out⟩
    case round =>
      clear hmk HO HB0
      obtain ⟨j, os, hj, rfl, I⟩ := hrel
      by_cases hlt : j < N
      · obtain ⟨i1, i2, i3, i4⟩ := I.out
        obtain ⟨x, hx, X⟩ : ∃ x, wr.cell? ⟨b, off + j, none⟩ = some (.int .u64 x) ∧ Hid (x = zs.getD j 0) := ⟨_, (i4.cell (p := ⟨b, off + j, none⟩) hbw).trans (HC.out j (by have := HN.out; omega)), rfl⟩
        obtain ⟨y, hy⟩ : ∃ y, wr.cell? ⟨w'.heap.size, j, none⟩ = some (.int .u64 y) := ⟨_, i1.cell j (by omega)⟩
        have hfr := i1.free j
        have J : Hid (Own (wr.setCell ⟨w'.heap.size, j, none⟩ (.int .u64 x)) w'.heap.size (os.set j x) ∧ (os.set j x).length = N ∧ (∀ t, t < j + 1 → (os.set j x).getD t 0 = zs.getD t 0) ∧ Below w'.heap.size w' (wr.setCell ⟨w'.heap.size, j, none⟩ (.int .u64 x))) := by
          refine ⟨i1.set j x, by simpa using i2, fun t ht => ?_, i4.setCell (p := ⟨w'.heap.size, j, none⟩) (Nat.le_refl _) _⟩
          rw [Nm.getD_set _ _ _ _ (by omega)]
          by_cases e : t = j
          · rw [if_pos e, e, X.out]
          · rw [if_neg e]; exact i3 t (by omega)
        have hjn : (j : Int) < (n : Int) := by omega
        have hjN : (j : Int) < (N : Int) := by omega
        clear i1 i2 i3 i4 I
        go_wp2
        go_roundw
        case rel => exact ⟨j + 1, _, by omega, by go_num, J.out⟩
        case measure => simp [intOf]; omega
      · have hjN : j = N := by omega
        subst hjN
        have E : Hid (Own wr w'.heap.size (Nm.trim zs) ∧ Below w'.heap.size w' wr) := by
          obtain ⟨i1, i2, i3, i4⟩ := I.out
          have e : os = Nm.trim zs := eq_of_getD (by rw [i2, LT.out]) (fun i hi => by rw [i3 i (by omega), TG.out i (by omega)])
          rw [← e]
          exact ⟨i1, i4⟩
        clear I
        go_wp2
        go_ret
        exact ⟨rfl, E.out.1, E.out.2⟩

/-- One limb of a double. -/
theorem twice_limb (x sp : Int) (x0 : 0 ≤ x) (x1 : x < 18446744073709551616) (s0 : 0 ≤ sp) (s1 : sp ≤ 1) :
    ∃ A s sp', IntKind.u64.wrap (x * 2) = A ∧ bits .or .u64 A sp = s ∧ x / 9223372036854775808 = sp' ∧ (0 ≤ s ∧ s < 18446744073709551616) ∧ (0 ≤ sp' ∧ sp' ≤ 1) ∧ Hid (s + 18446744073709551616 * sp' = x * 2 + sp) := by
  obtain ⟨A, s, sp', u1, u2, u3, u4, u5, u6⟩ := Sh.up x sp 1 (by omega) x0 x1 s0 (by rw [show (2 : Int) ^ 1 = 2 by decide]; omega)
  have e1 : (2 : Int) ^ 1 = 2 := by decide
  have e2 : (2 : Int) ^ (64 - 1) = 9223372036854775808 := by decide
  rw [e1] at u1 u5 u6
  rw [e2] at u3
  exact ⟨A, s, sp', u1, u2, u3, u4, by omega, u6⟩

set_option maxRecDepth 100000 in
set_option maxHeartbeats 1000000 in
/-- doubled: twice the number and a bit, one limb longer, in a block of its own. -/
theorem doubled_any (p : Option Addr) (n cap : Nat) (zs : List Int) (bit : Int) (w : World) (hn : zs.length = n) (hm : n ≤ 17592186044416) (h : Lies w p zs) (hz : Nm.Limbs zs) (b0 : 0 ≤ bit) (b1 : bit ≤ 1) :
    Calls Tryz.prog 49 #[.slice p n cap, .int .u64 bit] w fun e w' => ∃ os, e = .returned (.slice (some ⟨w.heap.size, 0, none⟩) (n + 1) (n + 1)) ∧ Hid (Own w' w.heap.size os ∧ os.length = n + 1 ∧ Nm.Limbs os ∧ Nm.val os = 2 * Nm.val zs + bit ∧ Below w.heap.size w w') := by
  have hmk := make64 (n + 1) (by omega) w
  have em : ((n + 1 : Nat) : Int) = (n : Int) + 1 := by omega
  rw [em] at hmk
  clear em
  have ho : Own (w.alloc (.cells (madeCells #[.int .u64 0] (n + 1)) 23)) w.heap.size (List.replicate (n + 1) 0) := by
    rw [made_zero]; exact Own.alloc w _
  have hb0 : Below w.heap.size w (w.alloc (.cells (madeCells #[.int .u64 0] (n + 1)) 23)) := (Below.refl _ _).alloc (Nat.le_refl _) _
  obtain ⟨W0, hW0⟩ : ∃ W0, w.alloc (.cells (madeCells #[.int .u64 0] (n + 1)) 23) = W0 := ⟨_, rfl⟩
  rw [hW0] at hmk ho hb0
  have I0 : MaInv w.heap.size (n + 1) W0 (2 * Nm.val (zs.take 0) + bit) 0 bit (List.replicate (n + 1) 0) W0 :=
    ⟨⟨ho, by simp, Nm.Limbs.replicate _, by simp [Nm.val_replicate, Nm.val, Nm.pw], Below.refl _ _, rfl⟩, by omega, fun i _ => getD_replicate _ _⟩
  have HB0 := hid hb0
  have HN := hid hn
  have HL := hid h
  have HZ := hid hz
  have HI0 := hid I0
  clear hW0 ho hb0 hn h hz I0
  by_cases h0 : n = 0
  · subst h0
    have E : Hid (Own (W0.setCell ⟨w.heap.size, 0, none⟩ (.int .u64 bit)) w.heap.size ((List.replicate 1 0).set 0 bit) ∧ ((List.replicate 1 (0 : Int)).set 0 bit).length = 0 + 1 ∧ Nm.Limbs ((List.replicate 1 0).set 0 bit) ∧ Nm.val ((List.replicate 1 0).set 0 bit) = 2 * Nm.val zs + bit ∧ Below w.heap.size w (W0.setCell ⟨w.heap.size, 0, none⟩ (.int .u64 bit))) := by
      refine ⟨HI0.out.1.1.set 0 bit, by simp, HI0.out.1.2.2.1.set 0 b0 (by omega), ?_, HB0.out.setCell (p := ⟨w.heap.size, 0, none⟩) (Nat.le_refl _) _⟩
      rw [List.eq_nil_of_length_eq_zero HN.out]
      simp [Nm.val]
    obtain ⟨y, hy⟩ : ∃ y, W0.cell? ⟨w.heap.size, 0, none⟩ = some (.int .u64 y) := ⟨_, HI0.out.1.1.cell 0 (by simp)⟩
    have hfr := HI0.out.1.1.free 0
    have hmk1 : (Instr.makeSlice 39 (.int .i64 1) (.int .i64 1)).run Tryz.prog w = .ok (.slice (some ⟨w.heap.size, 0, none⟩) 1 1) W0 := hmk
    clear HI0 hmk
    go_enter Tryz.func49, Tryz.ntmps49
    go_wp2_with fail
    refine wp_loop_rounds 1 ?_
    rw [rounds_succ]
    go_wp2_with fail
    go_ret
    exact ⟨_, rfl, E⟩
  · obtain ⟨b, off, rfl, hbw, HC⟩ := HL.out.at (by have := HN.out; omega)
    go_enter Tryz.func49, Tryz.ntmps49
    go_wp2_with fail
    go_loopw [6, 7] (fun c i wr => ∃ (j : Nat) (cc : Int) (os : List Int), j ≤ n ∧ i = .int .i64 j ∧ c = .int .u64 cc ∧ (0 ≤ cc ∧ cc ≤ 1) ∧ Hid (MaInv w.heap.size (n + 1) W0 (2 * Nm.val (zs.take j) + bit) j cc os wr)) (fun _ i _ => n - (intOf i).toNat)
    case atStart => exact ⟨0, bit, _, Nat.zero_le _, rfl, rfl, ⟨b0, b1⟩, HI0.out⟩
    case round =>
      clear HI0 hmk
      obtain ⟨j, cc, os, hj, rfl, rfl, ⟨c0, c1⟩, I⟩ := hrel
      by_cases hlt : j < n
      · obtain ⟨x, hx, X⟩ : ∃ x, wr.cell? ⟨b, off + j, none⟩ = some (.int .u64 x) ∧ Hid (x = zs.getD j 0) := ⟨_, ((HB0.out.trans I.out.1.2.2.2.2.1).cell (p := ⟨b, off + j, none⟩) hbw).trans (HC.out j (by have := HN.out; omega)), rfl⟩
        have hx0 := HZ.out.at j
        rw [← X.out] at hx0
        obtain ⟨hx0, hx1⟩ := hx0
        obtain ⟨y, hyc⟩ : ∃ y, wr.cell? ⟨w.heap.size, j, none⟩ = some (.int .u64 y) := ⟨_, I.out.1.1.cell j (by have := I.out.1.2.1; omega)⟩
        have hfr := I.out.1.1.free j
        obtain ⟨A, s, sp', u1, u2, u3, us, usp, E⟩ := twice_limb x cc hx0 hx1 c0 c1
        have I2 := I.out.step (by omega) (x := x * 2) (s := s) (c' := sp') us ⟨usp.1, by omega⟩ E.out
        have T2 : 2 * Nm.val (zs.take j) + bit + Nm.pw j * (x * 2) = 2 * Nm.val (zs.take (j + 1)) + bit := by
          rw [Nm.val_take_succ zs j (by have := HN.out; omega), ← X.out, ← Int.mul_assoc]
          omega
        rw [T2] at I2
        have HI2 := hid I2
        have HU := hid usp
        obtain ⟨y2, hx2⟩ : ∃ y2, (wr.setCell ⟨w.heap.size, j, none⟩ (.int .u64 s)).cell? ⟨b, off + j, none⟩ = some (.int .u64 y2) ∧ y2 = x := ⟨x, by
          have hb : Below w.heap.size wr (wr.setCell ⟨w.heap.size, j, none⟩ (.int .u64 s)) := (Below.refl _ _).setCell (p := ⟨w.heap.size, j, none⟩) (Nat.le_refl _) _
          rw [hb.cell (p := ⟨b, off + j, none⟩) hbw]
          exact hx, rfl⟩
        obtain ⟨hx2, e2⟩ := hx2
        subst e2
        have hjn : (j : Int) < (n : Int) := by omega
        have hjn1 : (j : Int) < (n : Int) + 1 := by omega
        clear T2 E I2 us usp I
        go_wp2
        go_roundw
        case rel => exact ⟨j + 1, sp', _, by omega, by go_num, rfl, HU.out, HI2.out⟩
        case measure => simp [intOf]; omega
      · have hjn : j = n := by omega
        subst hjn
        obtain ⟨⟨i1, i2, i3, i4, i5, i6⟩, i7, i8⟩ := I.out
        have E : Hid (Own (wr.setCell ⟨w.heap.size, j, none⟩ (.int .u64 cc)) w.heap.size (os.set j cc) ∧ (os.set j cc).length = j + 1 ∧ Nm.Limbs (os.set j cc) ∧ Nm.val (os.set j cc) = 2 * Nm.val zs + bit ∧ Below w.heap.size w (wr.setCell ⟨w.heap.size, j, none⟩ (.int .u64 cc))) := by
          refine ⟨i1.set j cc, by simpa using i2, i3.set j c0 (by omega), ?_, (HB0.out.trans i5).setCell (p := ⟨w.heap.size, j, none⟩) (Nat.le_refl _) _⟩
          rw [Nm.val_set _ _ _ (by omega), i8 j (Nat.le_refl _), Int.sub_zero, i4, List.take_of_length_le (by have := HN.out; omega)]
        obtain ⟨y, hy⟩ : ∃ y, wr.cell? ⟨w.heap.size, j, none⟩ = some (.int .u64 y) := ⟨_, i1.cell j (by omega)⟩
        have hfr := i1.free j
        clear i1 i2 i3 i4 i5 i6 i7 i8 I
        go_wp2
        go_ret
        exact ⟨_, rfl, E⟩
end Go.Proofs.YtljpmddjcfkonaaGreatDoor

namespace Go.Proofs.YtljpmddjcfkonaaGreatDoor
open Go.RowKit Go.Deep

theorem part_getD (rs : List Int) (j M i : Nat) (hi : i < M) : (Qd.part rs j M).getD i 0 = rs.getD (j + i) 0 := by
  rw [Qd.part, Nm.getD_take, if_pos hi]
  simp [List.getD, List.getElem?_drop]

/-- The limb of one round of takeOff: the ways. -/
theorem off_ways (x y bw : Int) (x0 : 0 ≤ x) (x1 : x < 18446744073709551616) (y0 : 0 ≤ y) (y1 : y < 18446744073709551616) (b0 : 0 ≤ bw) (b1 : bw ≤ 1) :
    ∃ t d b', IntKind.u64.wrap (x - y) = t ∧ IntKind.u64.wrap (t - bw) = d ∧ (0 ≤ t ∧ t < 18446744073709551616) ∧ (0 ≤ d ∧ d < 18446744073709551616) ∧ Hid (d + 18446744073709551616 * (-b') = x + (-y) + (-bw)) ∧
      ((x < y ∧ b' = 1) ∨ (x = y ∧ bw = 1 ∧ b' = 1) ∨ (x = y ∧ bw = 0 ∧ b' = 0) ∨ (y < x ∧ b' = 0)) := by
  refine ⟨_, _, if x < y ∨ (x = y ∧ bw = 1) then 1 else 0, rfl, rfl, ?_, ?_, ?_, ?_⟩
  · rw [wrap_mod]; omega
  · rw [wrap_mod]; omega
  · show _ = _
    rw [wrap_mod, wrap_mod]
    split <;> omega
  · split <;> omega

set_option maxRecDepth 100000 in
set_option maxHeartbeats 1000000 in
/-- takeOff: ms, from limb j on, out of a block of our own that holds it. -/
theorem takeOff_any (g C R cap M cap' j : Nat) (rs : List Int) (q : Option Addr) (ms : List Int) (ji : Int) (w : World) (ho : Own w g rs) (hr : rs.length = C) (hRC : R ≤ C) (hR : R ≤ 17592186044416) (hm : ms.length = M) (hM : 0 < M) (hjM : j + M ≤ R) (hlr : Nm.Limbs rs) (h2 : Lies w q ms) (hlm : Nm.Limbs ms) (hq : ∀ a, q = some a → a.block ≠ g) (hji : ji = (j : Int))
    (hge : Nm.pw j * Nm.val ms ≤ Nm.val rs) (hlt : Nm.val rs < Nm.pw (j + M)) :
    Calls Tryz.prog 51 #[.slice (some ⟨g, 0, none⟩) R cap, .int .i64 ji, .slice q M cap'] w fun e w' => ∃ os, e = .returned (.tuple #[]) ∧ Hid (Own w' g os ∧ os.length = C ∧ Nm.Limbs os ∧ Nm.val os = Nm.val rs - Nm.pw j * Nm.val ms ∧ Below g w w' ∧ w'.heap.size = w.heap.size ∧ ∀ b, b ≠ g → w'.heap[b]? = w.heap[b]?) := by
  subst hji
  obtain ⟨b', off', rfl, hbw', HC'⟩ := h2.at (by omega)
  have hbg : b' ≠ g := hq _ rfl
  have I0 : PartInv g C (j + M) w rs (Nm.val rs + Nm.pw j * (-Nm.val (ms.take 0))) (j + 0) (-0) rs w := ⟨⟨ho, hr, hlr, by simp [Nm.val], Below.refl _ _, rfl⟩, fun _ _ => rfl, fun _ _ => rfl⟩
  have fin : ∀ (os : List Int) (bw : Int) (wr : World), 0 ≤ bw → bw ≤ 1 → PartInv g C (j + M) w rs (Nm.val rs + Nm.pw j * (-Nm.val ms)) (j + M) (-bw) os wr →
      Own wr g os ∧ os.length = C ∧ Nm.Limbs os ∧ Nm.val os = Nm.val rs - Nm.pw j * Nm.val ms ∧ Below g w wr ∧ wr.heap.size = w.heap.size ∧ ∀ b, b ≠ g → wr.heap[b]? = w.heap[b]? := by
    intro os bw wr b0 b1 P
    obtain ⟨⟨p1, p2, p3, p4, p5, p6⟩, p7, p8⟩ := P
    have hz : Nm.val os < Nm.pw (j + M) := by
      have h1 := Nm.val_take_of_zero os (j + M) (fun i hi => by rw [p7 i hi]; exact Nm.zero_of_lt hlr hlt i hi)
      have h2 := (Nm.val_bd _ (p3.take (j + M))).2
      rw [List.length_take, Nat.min_eq_left (by omega)] at h2
      omega
    rw [Int.mul_neg, Int.mul_neg] at p4
    have hb : bw = 0 := by
      rcases (show bw = 0 ∨ bw = 1 by omega) with h | h
      · exact h
      · rw [h, Int.mul_one] at p4; omega
    rw [hb, Int.mul_zero] at p4
    exact ⟨p1, p2, p3, by omega, p5, p6, p8⟩
  have FIN := hid fin
  have HI0 := hid I0
  have HM : Hid (ms.length = M) := hm
  have HML : Hid (Nm.Limbs ms) := hlm
  clear fin I0 hm hlm hq ho hr hlr h2 hge hlt
  go_enter Tryz.func51, Tryz.ntmps51
  go_wp2_with fail
  go_loopw [6, 7] (fun c i wr => ∃ (k : Nat) (bw : Int) (os : List Int), k ≤ M ∧ i = .int .i64 k ∧ c = .int .u64 bw ∧ (0 ≤ bw ∧ bw ≤ 1) ∧ Hid (PartInv g C (j + M) w rs (Nm.val rs + Nm.pw j * (-Nm.val (ms.take k))) (j + k) (-bw) os wr)) (fun _ i _ => M - (intOf i).toNat)
  case atStart => exact ⟨0, 0, rs, Nat.zero_le _, rfl, rfl, by omega, HI0.out⟩
  case round =>
    clear HI0
    obtain ⟨k, bw, os, hk, rfl, rfl, ⟨bw0, bw1⟩, I⟩ := hrel
    by_cases hlt : k < M
    · obtain ⟨y, hy, Y⟩ : ∃ y, wr.cell? ⟨b', off' + k, none⟩ = some (.int .u64 y) ∧ Hid (y = ms.getD k 0) := ⟨_, by
        have h := I.out.2.2 b' hbg
        have e : wr.cell? ⟨b', off' + k, none⟩ = w.cell? ⟨b', off' + k, none⟩ := by simp only [World.cell?, h]
        rw [e]
        exact HC'.out k (by have := HM.out; omega), rfl⟩
      obtain ⟨x, hx, X⟩ : ∃ x, wr.cell? ⟨g, j + k, none⟩ = some (.int .u64 x) ∧ Hid (x = os.getD (j + k) 0) := ⟨_, I.out.1.1.cell (j + k) (by have := I.out.1.2.1; omega), rfl⟩
      have hfr := I.out.1.1.free (j + k)
      have hx0 : 0 ≤ x ∧ x < 18446744073709551616 := by have := I.out.1.2.2.1.at (j + k); have := X.out; omega
      have hy0 : 0 ≤ y ∧ y < 18446744073709551616 := by have := HML.out.at k; have := Y.out; omega
      obtain ⟨hx0, hx1⟩ := hx0
      obtain ⟨hy0, hy1⟩ := hy0
      obtain ⟨t, d, b2, r1, r2, ⟨t0, t1⟩, ⟨d0, d1⟩, E, W⟩ := off_ways x y bw hx0 hx1 hy0 hy1 bw0 bw1
      have ST := hid (I.out.step (by omega) (by omega) (x := -y) (s := d) (c' := -b2) ⟨d0, d1⟩ (by rw [← X.out]; exact E.out))
      have T2 : Hid (Nm.val rs + Nm.pw j * (-Nm.val (ms.take k)) + Nm.pw (j + k) * (-y) = Nm.val rs + Nm.pw j * (-Nm.val (ms.take (k + 1)))) := by
        show _ = _
        rw [Nm.val_take_succ ms k (by have := HM.out; omega), ← Y.out, Nm.pw_add, Int.mul_neg, Int.mul_neg, Int.mul_neg, Int.mul_add, Int.mul_assoc]
        omega
      rw [T2.out] at ST
      have htR : (j : Int) + (k : Int) < (R : Int) := by omega
      have hb2 : 0 ≤ b2 ∧ b2 ≤ 1 := by omega
      have HB2 := hid hb2
      clear I E hb2 T2
      rcases W with ⟨c, rfl⟩ | ⟨c, c2, rfl⟩ | ⟨c, c2, rfl⟩ | ⟨c, rfl⟩
      · go_wp2
        go_roundw
        case rel => exact ⟨k + 1, 1, _, by omega, by go_num, rfl, HB2.out, ST.out⟩
        case measure => simp [intOf]; omega
      · subst c2
        have c3 : (x == y) = true := by simp [c]
        have c4 : ¬ x < y := by omega
        have C := hid c
        clear c
        go_wp2
        go_roundw
        case rel => exact ⟨k + 1, 1, _, by omega, by go_num, rfl, HB2.out, ST.out⟩
        case measure => simp [intOf]; omega
      · subst c2
        have c3 : (x == y) = true := by simp [c]
        have c4 : ¬ x < y := by omega
        have C := hid c
        have hdt : d = t := by rw [← r2, wrap_mod]; omega
        subst hdt
        clear c r2
        go_wp2
        go_roundw
        case rel => exact ⟨k + 1, 0, _, by omega, by go_num, rfl, HB2.out, ST.out⟩
        case measure => simp [intOf]; omega
      · have c3 : (x == y) = false := by rw [beq_eq_false_iff_ne]; omega
        have c4 : ¬ x < y := by omega
        go_wp2
        go_roundw
        case rel => exact ⟨k + 1, 0, _, by omega, by go_num, rfl, HB2.out, ST.out⟩
        case measure => simp [intOf]; omega
    · have hkM : k = M := by omega
      subst hkM
      have e := I.out
      rw [List.take_of_length_le (by have := HM.out; omega)] at e
      have F := hid (FIN.out os bw wr bw0 bw1 e)
      clear e I
      go_wp2
      go_end0
      exact ⟨os, rfl, F⟩
end Go.Proofs.YtljpmddjcfkonaaGreatDoor

namespace Go.Proofs.YtljpmddjcfkonaaGreatDoor
open Go.RowKit Go.Deep

theorem zero64 (n : Nat) : Builtin.zeroCells #[Value.int .u64 0] n = ((List.replicate n (0 : Int)).map (Value.int .u64)).toArray := by
  apply Array.ext'
  simp only [Builtin.zeroCells, Array.toList_map, List.map_replicate, Array.toList_range, List.size_toArray, List.length_cons, List.length_nil, Nat.zero_add, Nat.mul_one, Nat.mod_one]
  exact List.eq_replicate_iff.2 ⟨by simp, fun v hv => by
    obtain ⟨i, _, rfl⟩ := List.mem_map.1 hv
    rfl⟩

/-- append(l, x): l fills its block, so that a new one is made, of unknown room. -/
theorem grow64 (g Y : Nat) (xs : List Int) (x : Int) (w : World) (hx : xs.length = Y) (hY : Y ≤ 1099511627776) (ho : Own w g xs) :
    ∃ cap w', (Builtin.append_ #[39, 39] 39 #[.slice (some ⟨g, 0, none⟩) Y Y, .slice (some ⟨w.heap.size, 0, none⟩) 1 1]).run Tryz.prog (w.alloc (.cells #[.int .u64 x] 23)) = .ok (.slice (some ⟨w.heap.size + 1, 0, none⟩) (Y + 1) cap) w' ∧
      Y + 1 ≤ cap ∧ Own w' (w.heap.size + 1) (xs ++ [x] ++ List.replicate (cap - (Y + 1)) 0) ∧ Below w.heap.size w w' := by
  obtain ⟨i, hi, hz⟩ := Option.map_eq_some_iff.1 info64
  simp only [Prod.mk.injEq] at hz
  obtain ⟨z1, z2, z3⟩ := hz
  have hg := ho.lt
  have bm : Below w.heap.size w (w.alloc (.cells #[.int .u64 x] 23)) := (Below.refl _ _).alloc (Nat.le_refl _) _
  have ho' := ho.below bm hg
  have hl : Own (w.alloc (.cells #[.int .u64 x] 23)) w.heap.size [x] := Own.alloc w [x]
  have hr := run_append_grow (P := Tryz.prog) (w.alloc (.cells #[.int .u64 x] 23)) 39 39 23 i (.int .u64 0) Tryz.underlying39 hi z1 ⟨g, 0, none⟩ Y Y (xs.map (Value.int .u64)) (by rw [z2, List.length_map, hx]; omega)
    (fun j v hv => by
      simp only [List.getElem?_map, Option.map_eq_some_iff] at hv
      obtain ⟨z, hz, rfl⟩ := hv
      have hj : j < xs.length := (List.getElem?_eq_some_iff.1 hz).1
      rw [Go.WideShapes.add_plain, Nat.zero_add, ho'.cell j hj]
      simp [List.getD, hz])
    ⟨w.heap.size, 0, none⟩ 1 1 [Value.int .u64 x] (by rw [z2]; rfl)
    (fun j v hv => by
      cases j with
      | zero =>
        simp at hv
        subst hv
        rw [Go.WideShapes.add_plain, hl.cell 0 (by simp)]
        rfl
      | succ j => simp at hv)
    (by omega) (by omega) (growslice_fits (by omega) (by rw [z3]; omega))
  have hge := grownCap_ge (w.alloc (.cells #[.int .u64 x] 23)) (Y + 1) Y 23
  have hs : (w.alloc (.cells #[.int .u64 x] 23)).heap.size = w.heap.size + 1 := World.size_alloc _ _
  obtain ⟨cap, hcap⟩ : ∃ c, grownCap (w.alloc (.cells #[.int .u64 x] 23)) (Y + 1) Y 23 = c := ⟨_, rfl⟩
  rw [hcap] at hr hge
  have e : ((xs.map (Value.int .u64)).toArray ++ [Value.int .u64 x].toArray ++ Builtin.zeroCells (Value.cells (.int .u64 0)) (cap - (Y + 1))) = ((xs ++ [x] ++ List.replicate (cap - (Y + 1)) 0).map (Value.int .u64)).toArray := by
    rw [show Value.cells (.int .u64 0) = #[Value.int .u64 0] from rfl, zero64]
    simp
  rw [e, hs] at hr
  refine ⟨cap, _, hr, hge, ?_, ?_⟩
  · have := Own.alloc (w.alloc (.cells #[.int .u64 x] 23)).drew (xs ++ [x] ++ List.replicate (cap - (Y + 1)) 0)
    rw [show (w.alloc (.cells #[.int .u64 x] 23)).drew.heap.size = w.heap.size + 1 from hs] at this
    exact this
  · exact bm.drew.alloc (by show w.heap.size ≤ (w.alloc (.cells #[.int .u64 x] 23)).heap.size; rw [hs]; omega) _

end Go.Proofs.YtljpmddjcfkonaaGreatDoor
