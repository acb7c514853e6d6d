/-
  Texts put together: QRoot, QSquaresRoot, XRoot, XSqrt, XTold, XFlag, XFlag2, XFlag3, XSpec3, XFlag4, XSigns, XOne.
-/
import Derived.Test.YtjebdobopechfabDoorQAll
import Derived.Test.YtjebdobopechfabDoorShr
import Derived.Test.YtjebdobopechfabDoorWalk3
import Derived.Test.YtjebdobopechfabDoorWalk4
import Derived.Deep.LoopGhost
import Derived.Test.YtjebdobopechfabDoorFromW
import Derived.Test.YtjebdobopechfabDoorSmall
import Derived.Test.YtjebdobopechfabDoorXNum
import Derived.Test.YtjebdobopechfabDoorXOps
import Derived.Test.YtjebdobopechfabDoorXAdd
namespace Go.Proofs.YtjebdobopechfabDoor
open Go.RowKit Go.Deep

namespace Rt
/-- Newton's step stays above the root. -/
theorem above {A r q n : Int} (hr : 1 ≤ r) (hq0 : 0 ≤ q) (hq : A < (q + 1) * r) (hn : r + q ≤ 2 * n + 1) : A < (n + 1) * (n + 1) := by
  have h1 : 4 * ((q + 1) * r) ≤ (r + q + 1) * (r + q + 1) := by
    have h2 : 0 ≤ (r - (q + 1)) * (r - (q + 1)) := by
      rcases Int.le_total 0 (r - (q + 1)) with h | h
      · exact Int.mul_nonneg h h
      · exact Int.mul_nonneg_of_nonpos_of_nonpos h h
    have e1 : (r - (q + 1)) * (r - (q + 1)) = r * r - 2 * ((q + 1) * r) + (q + 1) * (q + 1) := by
      rw [Int.sub_mul, Int.mul_sub, Int.mul_sub, Int.mul_comm r (q + 1)]; omega
    have e2 : (r + q + 1) * (r + q + 1) = r * r + 2 * ((q + 1) * r) + (q + 1) * (q + 1) := by
      have e : ∀ y : Int, (r + y) * (r + y) = r * r + 2 * (y * r) + y * y := fun y => by rw [Int.add_mul, Int.mul_add, Int.mul_add, Int.mul_comm r y]; omega
      rw [show r + q + 1 = r + (q + 1) by omega]
      exact e (q + 1)
    omega
  have h3 : (r + q + 1) * (r + q + 1) ≤ (2 * (n + 1)) * (2 * (n + 1)) := Int.mul_le_mul (by omega) (by omega) (by omega) (by omega)
  have e3 : (2 * (n + 1)) * (2 * (n + 1)) = 4 * ((n + 1) * (n + 1)) := by
    rw [Int.mul_assoc, Int.mul_left_comm (n + 1)]; omega
  omega

/-- Where the steps fall no more, the root is there. -/
theorem there {A r q : Int} (hr : 1 ≤ r) (hq : q * r ≤ A) (h : r ≤ (r + q) / 2) : r * r ≤ A := by
  have h1 : r ≤ q := by omega
  have h2 : r * r ≤ q * r := Int.mul_le_mul_of_nonneg_right h1 (by omega)
  omega

theorem start {A : Int} {L h : Nat} (hA : A < 2 ^ L) (hh : L ≤ 2 * h) : A < (2 ^ h + 1) * (2 ^ h + 1) := by
  have h1 := Nm.two_mono hh
  have h2 : (2 : Int) ^ (2 * h) = 2 ^ h * 2 ^ h := by rw [← Nm.two_add]; congr 1; omega
  have h3 := Nm.two_pos h
  rw [Int.add_mul, Int.mul_add, Int.one_mul, Int.mul_one]
  omega

theorem room_any (a b c : Nat) (ha : a ≤ c) (hb : b ≤ c) : Nm.pw a + Nm.pw b ≤ Nm.pw (c + 1) := by
  have h1 := Nm.pw_mono ha
  have h2 := Nm.pw_mono hb
  have h3 := Nm.pw_pos c
  rw [Nm.pw_succ]
  omega

theorem room : Nm.pw 128 + Nm.pw 256 ≤ Nm.pw 4096 := room_any 128 256 4095 (by omega) (by omega)
end Rt

theorem Ans.argR {B : Nat} {w : World} {p : Option Addr} {ys : List Int} {n : Int} (h : Ans B w p ys n) (hn : n < Nm.pw 4096) : Arg w p ys.length ys.length ys :=
  h.arg (by have := h.small hn; omega)

theorem Ans.tsR {B : Nat} {w : World} {p : Option Addr} {ys : List Int} {n : Int} (h : Ans B w p ys n) (hn : n < Nm.pw 4096) : Nm.tsize ys ≤ 4096 := by
  rw [h.2.2.1]
  exact h.small hn

/-- A number's list has a limb. -/
theorem Ans.pos {B : Nat} {w : World} {p : Option Addr} {ys : List Int} {n : Int} (h : Ans B w p ys n) (hn : 0 < n) : 0 < Nm.tsize ys := by
  have h1 := Nm.tsize_zero_iff h.2.1
  have h2 := h.2.2.2.1
  omega

/-- What newton's numbers keep to. -/
structure Near (A r : Int) : Prop where
  one : 1 ≤ r
  small : r ≤ Nm.pw 128
  above : A < (r + 1) * (r + 1)

set_option maxRecDepth 100000 in
set_option maxHeartbeats 1000000 in
theorem step_ok (p s : Option Addr) (n cap : Nat) (za rs : List Int) (A r : Int) (B : Nat) (w : World) (ha : Arg w p n cap za) (hr : Ans B w s rs r) (hT : Tab w) (hA : Nm.val za = A) (hA1 : 1 ≤ A) (hA2 : A < Nm.pw 256) (hN : Near A r) :
    Calls Tryd.prog 91 #[.slice p n cap, .slice s (List.length rs) (List.length rs)] w fun e w' => ∃ t os, e = .returned (.slice t (List.length os) (List.length os)) ∧ Ans w.heap.size w' t os ((r + A / r) / 2) ∧ Below w.heap.size w w' := by
  have P0 := Rt.room
  have p128 := Nm.pw_pos 128
  have p256 := Nm.pw_pos 256
  have hr1 := hN.one
  have hr2 := hN.small
  have SD : A / r * r + A % r = A ∧ 0 ≤ A % r ∧ A % r < r ∧ 0 ≤ A / r ∧ A / r ≤ A := by
    have ed := Int.emod_add_mul_ediv A r
    have e0 := Int.emod_nonneg A (show r ≠ 0 by omega)
    have e1 := Int.emod_lt_of_pos A (show 0 < r by omega)
    have e2 : 0 ≤ A / r := Int.ediv_nonneg (by omega) (by omega)
    have e3 : A / r * 1 ≤ A / r * r := Int.mul_le_mul_of_nonneg_left (by omega) e2
    rw [Int.mul_comm] at ed
    exact ⟨by omega, e0, e1, e2, by omega⟩
  have hAs : A < Nm.pw 4096 ∧ r < Nm.pw 4096 ∧ A / r < Nm.pw 4096 ∧ r + A / r < Nm.pw 4096 := by
    generalize Nm.pw 4096 = x at *
    generalize Nm.pw 128 = y at *
    generalize Nm.pw 256 = z at *
    omega
  have h2 : 2 ≤ r + A / r := by
    rcases (show r = 1 ∨ 2 ≤ r by omega) with h | h
    · subst h
      rw [Int.ediv_one]
      omega
    · omega
  have ta : Nm.tsize za ≤ 4096 := (Nm.tsize_le_iff ha.2.2.2.2 4096).2 (by rw [hA]; exact hAs.1)
  have DM := divMod_ok p s n cap _ _ za rs w ha (hr.argR hAs.2.1) ta (hr.tsR hAs.2.1) (hr.pos (by omega))
  rw [hA, hr.2.2.2.1] at DM
  have HDM := hid DM
  have HR := hid hr
  have HT := hid hT
  have HS := hid hAs
  have H2 := hid h2
  clear DM ta SD P0 p128 p256 hr1 hr2 hAs h2 ha hr hT hA hA1 hA2 hN
  obtain ⟨q, HQ⟩ : ∃ q, Hid (A / r = q) := ⟨_, rfl⟩
  simp only [Splits, HQ.out] at HDM
  rw [HQ.out] at HS H2 ⊢
  go_enter Tryd.func91, Tryd.ntmps91
  go_wp2_with fail
  refine HDM.out.mono ?_
  rintro e w1 ⟨s1, os, s2, us, rfl, B1, -, hb1⟩
  have HB1 := hid B1
  have HR1 := hid (HR.out.below hb1 (Nat.le_refl _))
  have HT1 := hid (HT.out.below hb1)
  have D1 := hid hb1
  clear B1 hb1 HDM HR HT
  go_wp2_with fail
  refine (add_ok s s1 _ _ _ _ rs os _ (HR1.out.argR HS.out.2.1) (HB1.out.argR HS.out.2.2.1) (by rw [HR1.out.2.2.2.1, HB1.out.2.2.2.1]; exact HS.out.2.2.2)).mono ?_
  rintro e w2 ⟨s3, ts, rfl, B2, hb2⟩
  rw [HR1.out.2.2.2.1, HB1.out.2.2.2.1] at B2
  have HB2 := hid B2
  have HT2 := hid (HT1.out.below hb2)
  have D2 := hid (chain D1.out hb2 (Nat.le_refl _))
  clear B2 hb2 HT1 D1 HR1 HB1
  obtain ⟨L, l1, l2, l3, _⟩ := blen_is (Nm.trim ts) HB2.out.2.1.trim
  rw [Nm.trim_trim] at l3
  have hL : 1 < L := by
    rw [Nm.val_trim, HB2.out.2.2.2.1] at l2
    have h := l2.1
    have h2 := H2.out
    rcases (show L ≤ 1 ∨ 1 < L by omega) with c | c
    · have := Nm.two_mono c
      omega
    · exact c
  have SH := shr_ok s3 _ _ ts 1 1 L w2 (HB2.out.argR HS.out.2.2.2) HT2.out (HB2.out.tsR HS.out.2.2.2) rfl l1 l3 hL
  rw [HB2.out.2.2.2.1, show (2 : Int) ^ 1 = 2 by decide] at SH
  have HSH := hid SH
  clear SH l1 l2 l3 hL
  go_wp2_with fail
  refine HSH.out.mono ?_
  rintro e w3 ⟨s4, vs, rfl, B3, hb3⟩
  have HB3 := hid (B3.up D2.out.size)
  have D3 := hid (chain D2.out hb3 (Nat.le_refl _))
  clear B3 hb3
  go_wp2_with fail
  go_ret
  exact ⟨s4, vs, rfl, HB3.out, D3.out⟩

set_option maxRecDepth 100000 in
set_option maxHeartbeats 1000000 in
theorem newton_ok (p : Option Addr) (n cap : Nat) (za : List Int) (A : Int) (w : World) (ha : Arg w p n cap za) (hT : Tab w) (hA : Nm.val za = A) (hA1 : 1 ≤ A) (hA2 : A < Nm.pw 256) :
    Calls Tryd.prog 83 #[.slice p n cap] w fun e w' => ∃ t os R, e = .returned (.slice t (List.length os) (List.length os)) ∧ Ans w.heap.size w' t os R ∧ Hid (Near A R ∧ R * R ≤ A) ∧ Below w.heap.size w w' := by
  obtain ⟨L, l1, l2, l3, _⟩ := blen_is za ha.2.2.2.2
  have ts : Nm.tsize za ≤ 256 := (Nm.tsize_le_iff ha.2.2.2.2 256).2 (by rw [hA]; exact hA2)
  rw [hA] at l2
  obtain ⟨h, hh⟩ : ∃ h, (L + 1) / 2 = h := ⟨_, rfl⟩
  have r1 : ((L : Int) + 1) / 2 = (h : Int) := by omega
  have r2 : ((L : Int) + 1).tdiv 2 = (h : Int) := by rw [Int.tdiv_eq_ediv_of_nonneg (by omega)]; exact r1
  have hL : (L : Int) ≤ 16384 := by omega
  have N0 : Near A (2 ^ h) := by
    refine ⟨by have := Nm.two_pos h; omega, ?_, Rt.start l2.1 (by omega)⟩
    rw [Nm.pw_two]
    exact Nm.two_mono (by omega)
  have BL := bitLen_any p n cap za w ha
  rw [l1] at BL
  have hb0 : Below w.heap.size w (w.alloc (.cells #[.int .u64 1] 22)) := (Below.refl _ _).alloc (Nat.le_refl _) _
  have A0 : Arg (w.alloc (.cells #[.int .u64 1] 22)) (some ⟨w.heap.size, 0, none⟩) 1 1 [1] := ⟨rfl, Nat.le_refl _, by omega, (Own.alloc w [1]).lies, limb_one (by omega)⟩
  have BL2 := bitLen_any p n cap za _ (ha.below hb0 (Nat.le_refl _))
  rw [l1] at BL2
  obtain ⟨L1, k1, _, k3, _⟩ := blen_is (Nm.trim [1]) (limb_one (x := 1) (by omega)).trim
  have t1 : Nm.tsize [1] = 1 := by simp [Nm.tsize]
  rw [Nm.trim_trim, t1] at k3
  have SH := shl_ok _ 1 1 [1] (h : Int) h L1 _ A0 (by rw [t1]; omega) rfl (by rw [t1]; omega) k1 (by omega)
  rw [show Nm.val [1] * 2 ^ h = 2 ^ h by simp [Nm.val]] at SH
  have HSH := hid SH
  have HBL := hid BL2
  have HN0 := hid N0
  have HA := hid ha
  have HT := hid hT
  have HV := hid hA
  have H1 := hid hA1
  have HS := hid hA2
  have HB0 := hid hb0
  have h0 : (0 : Int) ≤ (h : Int) := by omega
  clear l1 l2 l3 k1 k3 SH BL BL2 N0 ha hT hA hA1 hA2 hb0 A0 ts t1 hh
  go_enter Tryd.func83, Tryd.ntmps83
  go_wp2_with fail
  refine HBL.out.mono ?_
  rintro e w' ⟨rfl, rfl⟩
  go_wp2_with fail
  refine HSH.out.mono ?_
  rintro e w1 ⟨s1, os, rfl, B1, hb1⟩
  have HB1 := hid (B1.up HB0.out.size)
  have D1 := hid (chain HB0.out hb1 (Nat.le_refl _))
  clear B1 hb1 HSH HBL HB0
  go_wp2_with fail
  go_loopg [3] ((2 : Int) ^ h).toNat (fun x c wr => ∃ (R : Int) (t : Option Addr) (os : List Int), c = .slice t (List.length os) (List.length os) ∧ Hid (x = R.toNat) ∧ Hid (Ans w.heap.size wr t os R) ∧ Hid (Near A R) ∧ Hid (Below w.heap.size w wr))
  case atStart => exact ⟨2 ^ h, s1, os, rfl, rfl, HB1.out, HN0.out, D1.out⟩
  case round =>
    clear HB1 D1 HN0 r1 r2
    obtain ⟨R, t, os, rfl, GK, HO, HN, D⟩ := hrel
    have ST := hid (step_ok p t n cap za os A R w.heap.size wr (HA.out.below D.out (Nat.le_refl _)) HO.out (HT.out.below D.out) HV.out H1.out HS.out HN.out)
    go_wp2_with fail
    refine ST.out.mono ?_
    rintro e w2 ⟨t2, os2, rfl, B2, hb2⟩
    have HB2 := hid (B2.up D.out.size)
    have HO2 := hid (HO.out.below hb2 (Nat.le_refl _))
    have D2 := hid (chain D.out hb2 (Nat.le_refl _))
    clear B2 hb2 ST
    have hq := Int.emod_add_mul_ediv A R
    have hq1 := Int.emod_nonneg A (show R ≠ 0 by have := HN.out.one; omega)
    have hq2 := Int.emod_lt_of_pos A (show 0 < R by have := HN.out.one; omega)
    have hq3 : 0 ≤ A / R := Int.ediv_nonneg (by have := H1.out; omega) (by have := HN.out.one; omega)
    have hq4 : A / R * 1 ≤ A / R * R := Int.mul_le_mul_of_nonneg_left (by have := HN.out.one; omega) hq3
    rw [Int.mul_comm] at hq
    have AB := hid (Rt.above (A := A) (n := (R + A / R) / 2) HN.out.one hq3 (by rw [Int.add_mul, Int.one_mul]; omega) (by omega))
    have TH := hid (fun h => Rt.there (A := A) (q := A / R) HN.out.one (by omega) h)
    have hR2 : 2 ≤ R + A / R := by
      rcases (show R = 1 ∨ 2 ≤ R by have := HN.out.one; omega) with h | h
      · subst h
        rw [Int.ediv_one]
        have := H1.out
        omega
      · omega
    have room := Rt.room
    have p128 := Nm.pw_pos 128
    have p256 := Nm.pw_pos 256
    have hsm : R < Nm.pw 4096 ∧ (R + A / R) / 2 < Nm.pw 4096 := by
      have h1 := HN.out.small
      have h2 := HS.out
      generalize Nm.pw 4096 = x at *
      generalize Nm.pw 128 = y at *
      generalize Nm.pw 256 = z at *
      omega
    have HSM := hid hsm
    obtain ⟨X, HX⟩ : ∃ X, Hid ((R + A / R) / 2 = X) := ⟨_, rfl⟩
    have hX1 : 1 ≤ X := by rw [← HX.out]; omega
    rw [HX.out] at HB2 AB TH HSM
    have HX1 := hid hX1
    clear hq hq1 hq2 hq3 hq4 hR2 room p128 p256 hsm hX1
    by_cases hlt : X < R
    · have NX : Hid (Near A X) := ⟨HX1.out, by have := HN.out.small; omega, AB.out⟩
      have HLT := hid hlt
      clear hlt
      go_wp2_with fail
      refine (cmp_is (-1) t2 t _ _ _ _ os2 os _ (HB2.out.argR HSM.out.2) (HO2.out.argR HSM.out.1) (cmpI_lt (by rw [HB2.out.2.2.2.1, HO2.out.2.2.2.1]; exact HLT.out))).mono ?_
      rintro e w3 ⟨rfl, hb3⟩
      have HB3 := hid (HB2.out.below hb3 (Nat.le_refl _))
      have D3 := hid (chain D2.out hb3 (Nat.le_refl _))
      clear hb3
      go_wp2_with fail
      go_roundg X.toNat
      case measure => have := GK.out; have := HLT.out; have := HX1.out; omega
      case rel => exact ⟨X, t2, os2, rfl, rfl, HB3.out, NX.out, D3.out⟩
    · obtain ⟨c, hc0, HC⟩ : ∃ c : Int, 0 ≤ c ∧ Hid (cmpI X R = c) := by
        rcases (show X = R ∨ R < X by omega) with h | h
        · exact ⟨0, by omega, cmpI_eq h⟩
        · exact ⟨1, by omega, cmpI_gt h⟩
      have FI : Hid (Near A R ∧ R * R ≤ A) := ⟨HN.out, TH.out (by omega)⟩
      clear hlt
      go_wp2_with fail
      refine (cmp_is c t2 t _ _ _ _ os2 os _ (HB2.out.argR HSM.out.2) (HO2.out.argR HSM.out.1) (by rw [HB2.out.2.2.2.1, HO2.out.2.2.2.1]; exact HC.out)).mono ?_
      rintro e w3 ⟨rfl, hb3⟩
      have HB3 := hid (HO2.out.below hb3 (Nat.le_refl _))
      have D3 := hid (chain D2.out hb3 (Nat.le_refl _))
      clear hb3
      go_wp2_with fail
      go_ret
      exact ⟨t, os, R, rfl, HB3.out, FI, D3.out⟩
end Go.Proofs.YtjebdobopechfabDoor

namespace Go.Proofs.YtjebdobopechfabDoor
open Go.RowKit Go.Deep

/-- The whole root. -/
def IsRoot (A R : Int) : Prop := 0 ≤ R ∧ R * R ≤ A ∧ A < (R + 1) * (R + 1)

theorem limbs_isR (p : Option Addr) (n cap : Nat) (zs : List Int) (N : Nat) (w : World) (ha : Arg w p n cap zs) (hN : Nm.tsize zs = N) :
    Calls Tryd.prog 82 #[.slice p n cap] w fun e w' => e = .returned (.int .i64 (N : Int)) ∧ w' = w := by
  rw [← hN]
  exact limbs_any p n cap zs w ha

theorem root_big (p : Option Addr) (n cap : Nat) (za : List Int) (w : World) (ha : Arg w p n cap za) (tz : 256 < Nm.tsize za) :
    Calls Tryd.prog 76 #[.slice p n cap] w fun e w' => e = .returned (.tuple #[.slice none 0 0, .bool false, .int .i64 2]) ∧ w' = w := by
  obtain ⟨N, HN⟩ : ∃ N, Hid (Nm.tsize za = N) := ⟨_, rfl⟩
  have hN : (256 : Int) < (N : Int) := by have := HN.out; omega
  have HL := hid (limbs_isR p n cap za N w ha HN.out)
  clear ha tz
  go_enter Tryd.func76, Tryd.ntmps76
  go_wp2_with fail
  refine HL.out.mono ?_
  rintro e w' ⟨rfl, rfl⟩
  go_wp2_with fail
  go_ret3
  exact ⟨rfl, rfl⟩

theorem ret_root {t : Option Addr} {k : Nat} {b c : Bool} {e : Int} (h : b = c) : Ending.returned (.tuple #[.slice t k k, .bool b, .int .i64 e]) = .returned (.tuple #[.slice t k k, .bool c, .int .i64 e]) := by rw [h]

set_option maxRecDepth 100000 in
set_option maxHeartbeats 1000000 in
theorem root_ok (p : Option Addr) (n cap : Nat) (za : List Int) (A : Int) (w : World) (ha : Arg w p n cap za) (hT : Tab w) (tz : Nm.tsize za ≤ 256) (hA : Nm.val za = A) :
    Calls Tryd.prog 76 #[.slice p n cap] w fun e w' => ∃ t os R, e = .returned (.tuple #[.slice t (List.length os) (List.length os), .bool (decide (R * R = A)), .int .i64 0]) ∧ Ans w.heap.size w' t os R ∧ Hid (IsRoot A R) ∧ Below w.heap.size w w' := by
  obtain ⟨N, HN⟩ : ∃ N, Hid (Nm.tsize za = N) := ⟨_, rfl⟩
  have hN : (N : Int) ≤ 256 := by have := HN.out; omega
  have HL := hid (limbs_isR p n cap za N w ha HN.out)
  have hz := Nm.tsize_zero_iff ha.2.2.2.2
  have h0 := (Nm.val_bd za ha.2.2.2.2).1
  have hA2 : A < Nm.pw 256 := by rw [← hA]; exact (Nm.tsize_le_iff ha.2.2.2.2 256).1 tz
  rw [hA] at hz h0
  by_cases hN0 : N = 0
  · have hA0 : A = 0 := hz.1 (by rw [HN.out]; exact hN0)
    subst hN0
    subst hA0
    clear ha tz hz h0 hA2 hA
    go_enter Tryd.func76, Tryd.ntmps76
    go_wp2_with fail
    refine HL.out.mono ?_
    rintro e w' ⟨rfl, rfl⟩
    go_wp2_with fail
    refine HL.out.mono ?_
    rintro e w' ⟨rfl, rfl⟩
    go_wp2_with fail
    go_ret3
    exact ⟨none, [], 0, rfl, ans_none _ _ _ (fun a h => by cases h), show IsRoot 0 0 from ⟨by omega, by omega, by omega⟩, Below.refl _ _⟩
  · have hN1 : ((N : Int) == 0) = false := by rw [beq_eq_false_iff_ne]; omega
    have hA1 : 1 ≤ A := by
      rcases (show A = 0 ∨ 1 ≤ A by omega) with h | h
      · exact absurd (HN.out.symm.trans (hz.2 h)) hN0
      · exact h
    have NW := hid (newton_ok p n cap za A w ha hT hA hA1 hA2)
    have HA := hid ha
    have HV := hid hA
    have room := Rt.room
    have p128 := Nm.pw_pos 128
    have hAs : Hid (A < Nm.pw 4096) := by
      show _ < _
      generalize Nm.pw 4096 = x at *
      generalize Nm.pw 128 = y at *
      generalize Nm.pw 256 = z at *
      omega
    have HS : Hid (Nm.pw 128 < Nm.pw 4096) := by
      have p256 := Nm.pw_pos 256
      show _ < _
      generalize Nm.pw 4096 = x at *
      generalize Nm.pw 128 = y at *
      generalize Nm.pw 256 = z at *
      omega
    clear ha tz hz h0 hA2 hA hT room p128 hA1
    go_enter Tryd.func76, Tryd.ntmps76
    go_wp2_with fail
    refine HL.out.mono ?_
    rintro e w' ⟨rfl, rfl⟩
    go_wp2_with fail
    refine HL.out.mono ?_
    rintro e w' ⟨rfl, rfl⟩
    go_wp2_with fail
    refine NW.out.mono ?_
    rintro e w1 ⟨t, os, R, rfl, B1, HR, hb1⟩
    have HB1 := hid B1
    have D1 := hid hb1
    have HA1 := hid (HA.out.below hb1 (Nat.le_refl _))
    have hR : Hid (R < Nm.pw 4096) := Int.lt_of_le_of_lt HR.out.1.small HS.out
    have hRR : Hid (R * R < Nm.pw 4096) := Int.lt_of_le_of_lt HR.out.2 hAs.out
    clear B1 hb1 NW
    go_wp2_with fail
    refine (mul_ok t t _ _ _ _ os os _ (HB1.out.argR hR.out) (HB1.out.argR hR.out) (HB1.out.tsR hR.out) (HB1.out.tsR hR.out) (by rw [HB1.out.2.2.2.1]; exact hRR.out)).mono ?_
    rintro e w2 ⟨s, ss, rfl, B2, hb2⟩
    rw [HB1.out.2.2.2.1] at B2
    have HB2 := hid B2
    have HB1' := hid (HB1.out.below hb2 (Nat.le_refl _))
    have HA2 := hid (HA1.out.below hb2 (Nat.le_refl _))
    have D2 := hid (chain D1.out hb2 (Nat.le_refl _))
    have FI : Hid (IsRoot A R) := ⟨by have := HR.out.1.one; omega, HR.out.2, HR.out.1.above⟩
    clear B2 hb2 HB1 HA1 D1 HR
    obtain ⟨c, HC⟩ : ∃ c, Hid (cmpI (R * R) A = c) := ⟨_, rfl⟩
    have HE : Hid ((c == 0) = decide (R * R = A)) := by
      show _ = _
      rw [← HC.out, cmpI]
      have := FI.out.2.1
      by_cases h : R * R < A
      · rw [if_pos h]
        simp
        omega
      · rw [if_neg h, if_pos (by omega)]
        simp
        omega
    go_wp2_with fail
    refine (cmp_is c s p _ _ n cap ss za _ (HB2.out.argR hRR.out) HA2.out (by rw [HB2.out.2.2.2.1, HV.out]; exact HC.out)).mono ?_
    rintro e w3 ⟨rfl, hb3⟩
    have HB3 := hid (HB1'.out.below hb3 (Nat.le_refl _))
    have D3 := hid (chain D2.out hb3 (Nat.le_refl _))
    clear hb3
    go_wp2_with fail
    go_ret3
    exact ⟨t, os, R, ret_root HE.out, HB3.out, FI, D3.out⟩
end Go.Proofs.YtjebdobopechfabDoor

/-
  The root: what the squares of the middles say.
-/
namespace Go.Proofs.YtjebdobopechfabDoor
namespace Ie

theorem sq_le {a b : Int} (h0 : 0 ≤ a) (h : a ≤ b) : a * a ≤ b * b := Int.mul_le_mul h h h0 (by omega)
theorem sq_lt {a b : Int} (h0 : 0 ≤ a) (h : a < b) : a * a < b * b := by
  have h1 : a * a ≤ a * b := Int.mul_le_mul_of_nonneg_left (by omega) h0
  have h2 : a * b < b * b := Int.mul_lt_mul_of_pos_right h (by omega)
  omega

/-- The double x is the root of W, in units of 2^-2150: between the squares of the middles. -/
def RootIs (W x : Int) : Prop :=
  (0 < x ∧ x < 9218868437227405312) ∧ (md (x - 1) * md (x - 1) < W ∨ (md (x - 1) * md (x - 1) = W ∧ x % 2 = 0)) ∧ (W < md x * md x ∨ (W = md x * md x ∧ x % 2 = 0))

/-- What lies between a whole number of 64 bits and the next one holds no middle. -/
theorem no_md {r M : Int} {E a b : Nat} (hr : 18446744073709551616 ≤ r) (_M0 : 0 < M) (M1 : M < 18014398509481984) (h : r * 2 ^ a < M * 2 ^ E * 2 ^ b) : (r + 1) * 2 ^ a ≤ M * 2 ^ E * 2 ^ b := by
  rw [Int.mul_assoc, ← Nm.two_add] at h ⊢
  have lt : a < E + b := by
    rcases Nat.lt_or_ge a (E + b) with h' | h'
    · exact h'
    · exfalso
      have p := Nm.two_pos (E + b)
      have g1 : M * 2 ^ (E + b) < 18014398509481984 * 2 ^ (E + b) := Int.mul_lt_mul_of_pos_right M1 p
      have g2 := Nm.two_mono h'
      have g3 : 18446744073709551616 * 2 ^ a ≤ r * 2 ^ a := Int.mul_le_mul_of_nonneg_right hr (by have := Nm.two_pos a; omega)
      omega
  rw [show E + b = (E + b - a) + a by omega, Nm.two_add (E + b - a) a, ← Int.mul_assoc] at h ⊢
  have p := Nm.two_pos a
  have := Int.lt_of_mul_lt_mul_right h (by omega)
  exact Int.mul_le_mul_of_nonneg_right (by omega) (by omega)

theorem two_sq (a : Nat) : (2 : Int) ^ a * 2 ^ a = 2 ^ (2 * a) := by rw [← Nm.two_add]; congr 1; omega

theorem mul_sq (r : Int) (a : Nat) : r * 2 ^ a * (r * 2 ^ a) = r * r * 2 ^ (2 * a) := by
  rw [← two_sq]; ac_rfl

/-- n the radicand, r its whole root, moved by e; W = n * 2^(2 e + 2150). -/
theorem root_is (n r e x W : Int) (more : Bool) (hr : 18446744073709551616 ≤ r) (h1 : r * r ≤ n) (h2 : n < (r + 1) * (r + 1)) (hm : more = decide (r * r ≠ n)) (h : Rnd r 1 e more x)
    (c d : Nat) (hcd : (c : Int) - d = 2 * e + 2150) (hW : n * 2 ^ c = W * 2 ^ d) (hlo : 1 < W) (hhi : W < 18014398509481983 * 2 ^ 2045 * (18014398509481983 * 2 ^ 2045)) : RootIs W x := by
  obtain ⟨a, b, hab, hN⟩ := h.at
  rw [Int.one_mul] at hN
  have pa := Nm.two_pos a
  have pb := Nm.two_pos b
  have p2a := Nm.two_pos (2 * a)
  have p2b := Nm.two_pos (2 * b)
  -- W * 2^(2b) = n * 2^(2a)
  have key : n * 2 ^ (2 * a) = W * 2 ^ (2 * b) := by
    have pd := Nm.two_pos d
    have pc := Nm.two_pos c
    have e1 : (2 : Int) ^ (2 * a) * 2 ^ d = 2 ^ c * 2 ^ (2 * b) := by rw [← Nm.two_add, ← Nm.two_add]; congr 1; omega
    refine Int.eq_of_mul_eq_mul_right (a := 2 ^ d) (by omega) ?_
    rw [Int.mul_assoc, e1, ← Int.mul_assoc, hW]
    ac_rfl
  have lo : ∀ y, 0 ≤ y → (md y * 2 ^ b < r * 2 ^ a ∨ (md y * 2 ^ b = r * 2 ^ a ∧ (x % 2 = 0 ∨ more = true))) → md y * md y < W ∨ (md y * md y = W ∧ x % 2 = 0) := by
    intro y hy g
    have my := md_nn y hy
    have g0 : md y * 2 ^ b ≤ r * 2 ^ a := by rcases g with g | g <;> omega
    have g1 := sq_le (Int.mul_nonneg (by omega) (by omega)) g0
    rw [mul_sq, mul_sq] at g1
    have g2 : r * r * 2 ^ (2 * a) ≤ n * 2 ^ (2 * a) := Int.mul_le_mul_of_nonneg_right h1 (by omega)
    have g3 : md y * md y * 2 ^ (2 * b) ≤ W * 2 ^ (2 * b) := by omega
    have g4 := Int.le_of_mul_le_mul_right g3 p2b
    rcases (show md y * md y < W ∨ md y * md y = W by omega) with g5 | g5
    · exact .inl g5
    · right
      refine ⟨g5, ?_⟩
      rw [← g5] at key
      have g6 : r * r * 2 ^ (2 * a) = n * 2 ^ (2 * a) := by omega
      have g7 : r * r = n := Int.eq_of_mul_eq_mul_right (by omega) g6
      have g8 : more = false := by rw [hm]; simp [g7]
      rcases g with g | ⟨_, g⟩
      · have g9 := sq_lt (Int.mul_nonneg (by omega) (by omega)) g
        rw [mul_sq, mul_sq] at g9
        omega
      · rcases g with g | g
        · exact g
        · rw [g8] at g; cases g
  have hi : ∀ y, 0 ≤ y → (r * 2 ^ a < md y * 2 ^ b ∨ (r * 2 ^ a = md y * 2 ^ b ∧ x % 2 = 0 ∧ more = false)) → W < md y * md y ∨ (W = md y * md y ∧ x % 2 = 0) := by
    intro y hy g
    rcases g with g | ⟨g, g', g''⟩
    · left
      obtain ⟨M, E, hM, M0, M1⟩ := md_form y hy
      rw [hM] at g
      have g1 := no_md hr M0 M1 g
      rw [← hM] at g1
      have g2 := sq_le (Int.mul_nonneg (by omega) (by omega)) g1
      rw [mul_sq, mul_sq] at g2
      have g3 := Int.mul_lt_mul_of_pos_right h2 p2a
      refine Int.lt_of_mul_lt_mul_right (a := 2 ^ (2 * b)) ?_ (by omega)
      omega
    · right
      refine ⟨?_, g'⟩
      have g1 : r * r = n := by
        rw [hm] at g''
        simpa using g''
      have g2 : r * 2 ^ a * (r * 2 ^ a) = md y * 2 ^ b * (md y * 2 ^ b) := by rw [g]
      rw [mul_sq, mul_sq, g1] at g2
      exact Int.eq_of_mul_eq_mul_right (a := 2 ^ (2 * b)) (by omega) (by omega)
  have x0 : 0 < x := by
    rcases (show x = 0 ∨ 0 < x by have := hN.1.1; omega) with h0 | h0
    · exfalso
      subst h0
      have g := hi 0 (by omega) (hN.2.2 (by omega))
      rw [md_zero] at g
      omega
    · exact h0
  have x1 : x < 9218868437227405312 := by
    rcases (show x = 9218868437227405312 ∨ x < 9218868437227405312 by have := hN.1.2; omega) with h0 | h0
    · exfalso
      subst h0
      have g := lo 9218868437227405311 (by omega) (hN.2.1 (by omega))
      rw [md_last] at g
      omega
    · exact h0
  exact ⟨⟨x0, x1⟩, lo (x - 1) (by omega) (hN.2.1 x0), hi x (by omega) (hN.2.2 x1)⟩

theorem RootIs.one {W x y : Int} (h : RootIs W x) (k : RootIs W y) : x = y := by
  have key : ∀ {x y : Int}, RootIs W x → RootIs W y → ¬ x < y := by
    intro x y h k hl
    have g1 := h.2.2
    have g2 := k.2.1
    have hx := h.1.1
    have m1 := md_nn x (by omega)
    rcases (show x = y - 1 ∨ x < y - 1 by omega) with e | e
    · rw [← e] at g2
      rcases g1 with g1 | ⟨g1, g1'⟩ <;> rcases g2 with g2 | ⟨g2, g2'⟩ <;> omega
    · have := sq_lt (by omega) (md_lt (by omega) e)
      rcases g1 with g1 | ⟨g1, g1'⟩ <;> rcases g2 with g2 | ⟨g2, g2'⟩ <;> omega
  have a := key h k
  have b := key k h
  omega
end Ie
end Go.Proofs.YtjebdobopechfabDoor

/-
  soft: root, sqrt, Sqrt (made by mksqrt.py).
-/
namespace Go.Proofs.YtjebdobopechfabDoor
open Go Go.RowKit Go.Deep

theorem i64_and1 (n : Int) : bits .and .i64 n 1 = n % 2 := by
  have h1 : (BitVec.ofInt 64 1).toNat = 2 ^ 1 - 1 := by decide
  have key : (BitVec.ofInt 64 n &&& BitVec.ofInt 64 1).toNat = (n % ((2 ^ 64 : Nat) : Int)).toNat % 2 ^ 1 := by
    rw [BitVec.toNat_and, BitVec.toNat_ofInt, h1, Nat.and_two_pow_sub_one_eq_mod]
  show IntKind.i64.wrap ((BitVec.ofInt 64 n &&& BitVec.ofInt 64 1).toNat : Nat) = n % 2
  rw [key, IntKind.wrap_i64]
  omega

/-- What root answers. -/
def RootTold (V e : Int) (w : World) (r : Ending) (w' : World) : Prop :=
  ∃ (p : Option Addr) (os : List Int) (R k : Int) (d : Nat), r = .returned (exactOf false p (List.length os) (List.length os) k (!decide (R * R = V * 2 ^ d))) ∧ Ans w.heap.size w' p os R ∧ (d = 128 ∨ d = 129) ∧ 2 * k = e - d ∧ IsRoot (V * 2 ^ d) R ∧ Below w.heap.size w w'

set_option maxRecDepth 100000 in
set_option maxHeartbeats 4000000 in
theorem root_xany (n1 m1 : Bool) (p1 : Option Addr) (l1 c1 : Nat) (z1 : List Int) (e V : Int) (w : World) (a1 : Arg w p1 l1 c1 z1) (hT : Tab w) (hV : Nm.val z1 = V) (b1 : V < 2 ^ 60) (q1 : -1100 ≤ e) (q2 : e ≤ 1000) :
    Calls Tryd.prog 57 #[exactOf n1 p1 l1 c1 e m1] w fun r w' => RootTold V e w r w' := by
  have v0 : 0 ≤ V := by rw [← hV]; exact (Nm.val_bd z1 a1.2.2.2.2).1
  obtain ⟨m, hm⟩ : ∃ m, e % 2 = m := ⟨_, rfl⟩
  have m0 : 0 ≤ m ∧ m ≤ 1 := by omega
  obtain ⟨d, hd⟩ : ∃ d : Nat, (d : Int) = 128 + m := ⟨(128 + m).toNat, by omega⟩
  obtain ⟨k, hk⟩ : ∃ k, 2 * k = e - (128 + m) := ⟨(e - (128 + m)) / 2, by omega⟩
  have BA := i64_and1 e
  rw [hm] at BA
  have TD : (e - (128 + m)).tdiv 2 = k := by
    rw [← hk, Int.mul_tdiv_cancel_left _ (by decide)]
  have WK : wrap64 k = k := by simp only [wrap64]; omega
  have e4096 := pw_4096
  have big := Nm.two_mono (show 189 ≤ 262144 by omega)
  have b60 := Nm.two_mono (show 60 ≤ 189 by omega)
  have pr : V * 2 ^ d < 2 ^ 189 := by
    have h2 : V * 2 ^ d < 2 ^ 60 * 2 ^ d := Int.mul_lt_mul_of_pos_right b1 (Nm.two_pos d)
    rw [← Nm.two_add] at h2
    have := Nm.two_mono (show 60 + d ≤ 189 by omega)
    omega
  have t1 : Nm.tsize z1 ≤ 4096 := (Nm.tsize_le_iff a1.2.2.2.2 4096).2 (by rw [hV]; omega)
  have S1 : Hid (∀ (wx : World) (j : Int), Below w.heap.size w wx → j = 128 + m → Calls Tryd.prog 36 #[.slice p1 l1 c1, .int .i64 j] wx fun e w' => ∃ r os, e = .returned (.tuple #[.slice r (List.length os) (List.length os), .int .i64 0]) ∧ Ans wx.heap.size w' r os (V * 2 ^ d) ∧ Below wx.heap.size wx w') := by
    intro wx j hx hj
    have := shl_any p1 l1 c1 z1 j d wx (a1.below hx (Nat.le_refl _)) t1 (by omega) (by rw [hV]; omega)
    rw [hV] at this
    exact this
  have R1 : Hid (∀ (wx : World) (p : Option Addr) (os : List Int) (B : Nat), Below w.heap.size w wx → Ans B wx p os (V * 2 ^ d) → Calls Tryd.prog 76 #[.slice p os.length os.length] wx fun e w' => ∃ t qs R, e = .returned (.tuple #[.slice t (List.length qs) (List.length qs), .bool (decide (R * R = V * 2 ^ d)), .int .i64 0]) ∧ Ans wx.heap.size w' t qs R ∧ Hid (IsRoot (V * 2 ^ d) R) ∧ Below wx.heap.size wx w') := by
    intro wx p os B hx A
    have g := (A.tl pr (show 189 ≤ 262144 by omega))
    refine root_ok p _ _ os _ wx (A.arg (by omega)) (hT.below hx) ?_ A.2.2.2.1
    refine (Nm.tsize_le_iff A.2.1 256).2 ?_
    rw [A.2.2.2.1, Nm.pw_two]
    have := Nm.two_mono (show 189 ≤ 64 * 256 by omega)
    omega
  have h1 := alloc_b w (.cells #[.bool n1, .slice p1 l1 c1, .int .i64 e, .bool m1] 69)
  have s1 : (w.alloc (.cells #[.bool n1, .slice p1 l1 c1, .int .i64 e, .bool m1] 69)).heap.size = w.heap.size + 1 := by simp
  have R0 := Row4.new (w.alloc (.cells #[.bool n1, .slice p1 l1 c1, .int .i64 e, .bool m1] 69)) 69 (.bool false) (.slice none 0 0) (.int .i64 0) (.bool false)
  rw [s1] at R0
  have X0 := (Row4.new w 69 (.bool n1) (.slice p1 l1 c1) (.int .i64 e) (.bool m1)).below (alloc_b (w.alloc (.cells #[.bool n1, .slice p1 l1 c1, .int .i64 e, .bool m1] 69)) (.cells #[.bool false, .slice none 0 0, .int .i64 0, .bool false] 69)) (by omega)
  have h2 := Below.alloc h1 h1.size (.cells #[.bool false, .slice none 0 0, .int .i64 0, .bool false] 69)
  have HR := hid R0
  have HX := hid X0
  have HB := hid h2
  have FI : Hid (∀ (w3 : World) (p : Option Addr) (os : List Int) (R : Int), Ans (w.heap.size + 2) w3 p os R → Below w.heap.size w w3 → IsRoot (V * 2 ^ d) R →
      RootTold V e w (.returned (exactOf false p (List.length os) (List.length os) k (!decide (R * R = V * 2 ^ d)))) ((((w3.setCell ⟨w.heap.size + 1, 0, none⟩ (.bool false)).setCell ⟨w.heap.size + 1, 1, none⟩ (.slice p os.length os.length)).setCell ⟨w.heap.size + 1, 2, none⟩ (.int .i64 k)).setCell ⟨w.heap.size + 1, 3, none⟩ (.bool (!decide (R * R = V * 2 ^ d))))) := by
    intro w3 p os R A hB hR
    have A' := A.set4 (b := w.heap.size + 1) (u0 := .bool false) (u1 := .slice p os.length os.length) (u2 := .int .i64 k) (u3 := .bool (!decide (R * R = V * 2 ^ d))) (by omega)
    exact ⟨p, os, R, k, d, rfl, ⟨A'.1, A'.2.1, A'.2.2.1, A'.2.2.2.1, fun a h => by have := A'.2.2.2.2 a h; omega⟩, by omega, by omega, hR, set4_below hB (by omega)⟩
  obtain ⟨⟨y0, y1, y2, y3⟩, -⟩ := X0.cells
  simp only [exactOf]
  clear a1 hT hV b1 v0 hm hd hk e4096 big b60 pr t1 h1 s1 R0 X0 h2
  generalize V * 2 ^ d = N at *
  obtain ⟨m0, m1'⟩ := m0
  go_enter Tryd.func57, Tryd.ntmps57
  go_wp2_with fail
  refine (S1.out _ _ HB.out (by omega)).mono ?_
  rintro r wa ⟨pa, oa, rfl, A, hB⟩
  have Ra := HR.out.below hB HR.out.lt
  have Xa := HX.out.below hB HX.out.lt
  have Ba := HB.out.trans (hB.mono HB.out.size)
  have RO := hid (R1.out wa pa oa _ Ba A)
  have HRa := hid Ra
  have HXa := hid Xa
  have HBa := hid Ba
  have LT := hid (Nat.lt_of_lt_of_le HR.out.lt hB.size)
  clear y0 y1 y2 y3
  obtain ⟨⟨y0, y1, y2, y3⟩, -⟩ := Xa.cells
  clear A hB Ra Xa Ba S1 R1 HR HX HB
  go_wp2_with fail
  refine RO.out.mono ?_
  rintro r wb ⟨pb, ob, R, rfl, A, hIs, hB⟩
  have Rb := HRa.out.below hB HRa.out.lt
  have Xb := HXa.out.below hB HXa.out.lt
  have lt := LT.out
  have KK := hid (FI.out wb pb ob R ⟨A.1, A.2.1, A.2.2.1, A.2.2.2.1, fun a h => by have := A.2.2.2.2 a h; omega⟩ (HBa.out.trans (hB.mono HBa.out.size)) hIs.out)
  clear y0 y1 y2 y3
  obtain ⟨⟨y0, y1, y2, y3⟩, -⟩ := Xb.cells
  have RR := hid Rb
  obtain ⟨⟨r0, r1, r2, r3⟩, ⟨f0, f1, f2, f3⟩⟩ := Rb.cells
  clear A hB Rb Xb RO HRa HXa HBa LT lt FI hIs
  go_wp2_with fail
  (try simp only [Exit.inBlock, Exit.then])
  refine bodyPost_ret (results_cell_row rfl _ _ (w.heap.size + 1) 69 _ (0, 0) _ rfl (Row4.set RR.out) Tryd.underlying69 rfl (by kernel_rfl)) rfl ?_
  exact KK.out

namespace Ie
/-- What sqrt answers. -/
def SqrtIs (a r f : Int) : Prop :=
  if isn a = true then r = 9221120237041090560 ∧ f = 0
  else if isz a = true ∨ a = 9218868437227405312 then r = a ∧ f = 0
  else if ngd a = true then r = 9221120237041090560 ∧ f = 1
  else ∃ (R k : Int) (d : Nat), (d = 128 ∨ d = 129) ∧ 2 * k = de a - d ∧ IsRoot (dm a * 2 ^ d) R ∧ Res false R k (!decide (R * R = dm a * 2 ^ d)) r f

theorem root_small {N R : Int} (h : IsRoot N R) (hN : N < 2 ^ 189) : R < 2 ^ 189 := by
  have h0 := h.1
  have h1 := h.2.1
  rcases (show R = 0 ∨ 1 ≤ R by omega) with g | g
  · have := Nm.two_pos 189; omega
  · have : R * 1 ≤ R * R := Int.mul_le_mul_of_nonneg_left g h0
    omega
end Ie

set_option maxRecDepth 100000 in
set_option maxHeartbeats 4000000 in
theorem sqrt_any (a : Int) (w : World) (a0 : 0 ≤ a) (a1 : a < 18446744073709551616) (hT : Tab w) :
    Calls Tryd.prog 35 #[.int .u64 a] w fun e w' => Told2 (Ie.SqrtIs a) w e w' := by
  have NA := hid (fun (wx : World) => nan_any a wx a0 a1)
  have ZA := hid (fun (wx : World) => zero_any a wx a0 a1)
  have SA := Ib.sign_and a a0 a1
  have KK : Hid (∀ (e : Ending) (r f : Int), e = .returned (.tuple #[.int .u64 r, .int .i64 f]) → Ie.SqrtIs a r f → Told2 (Ie.SqrtIs a) w e w) := fun e r f h1 h2 => ⟨r, f, h1, h2, Below.refl _ _⟩
  cases na : Ie.isn a
  · rw [na] at NA
    cases za : Ie.isz a
    · rw [za] at ZA
      by_cases hi : a = 9218868437227405312
      · have SP : Hid (Ie.SqrtIs a a 0) := by rw [Hid, Ie.SqrtIs, na, za]; simp [hi]
        subst hi
        clear na za hT SA
        go_enter Tryd.func35, Tryd.ntmps35
        go_wp2_with fail
        refine (NA.out _).mono ?_
        rintro e wz ⟨rfl, hz⟩
        replace hz := hz.symm
        subst hz
        go_wp2_with fail
        refine (ZA.out _).mono ?_
        rintro e wz ⟨rfl, hz⟩
        replace hz := hz.symm
        subst hz
        go_wp2_with fail
        go_ret2
        exact KK.out _ _ _ rfl SP.out
      · have hi' : (a == 9218868437227405312) = false := by rw [beq_eq_false_iff_ne]; exact hi
        cases ng : Ie.ngd a
        · have s0 : a / 9223372036854775808 = 0 := by
            rw [Ie.ngd, decide_eq_false_iff_not] at ng
            omega
          rw [s0, Int.zero_mul] at SA
          have fa : Ie.fin a := by
            rw [Ie.isn, decide_eq_false_iff_not] at na
            rw [Ie.ngd, decide_eq_false_iff_not] at ng
            rw [Ie.fin]
            simp only [Ie.ab] at na ⊢
            omega
          obtain ⟨⟨da0, da1⟩, ⟨ea0, ea1⟩, -, -⟩ := Ie.dec_f a fa
          have e60 : (2 : Int) ^ 60 = 1152921504606846976 := by decide
          have da2 : Ie.dm a < 2 ^ 60 := by omega
          have UA := hid (fun (wx : World) => number_any a wx a0 a1 fa)
          have RT : Hid (∀ (wx : World) (p : Option Addr) (os : List Int) (B : Nat), Below w.heap.size w wx → Ans B wx p os (Ie.dm a) → Calls Tryd.prog 57 #[exactOf (Ie.ngd a) p os.length os.length (Ie.de a) false] wx fun r w' => RootTold (Ie.dm a) (Ie.de a) wx r w') := by
            intro wx p os B hx A
            exact root_xany _ _ p _ _ os _ _ wx (A.arg (by have := A.tl da2 (show 60 ≤ 262144 by omega); omega)) (hT.below hx) A.2.2.2.1 da2 (by omega) (by omega)
          have RO : Hid (∀ (wx : World) (p : Option Addr) (os : List Int) (R k : Int) (d : Nat) (more : Bool) (B : Nat), Below w.heap.size w wx → Ans B wx p os R → (d = 128 ∨ d = 129) → 2 * k = Ie.de a - d → IsRoot (Ie.dm a * 2 ^ d) R → Calls Tryd.prog 58 #[exactOf false p os.length os.length k more] wx fun r w' => RoundedTold false R k more wx r w') := by
            intro wx p os R k d more B hx A hd hk hI
            have hN : Ie.dm a * 2 ^ d < 2 ^ 189 := by
              have h2 : Ie.dm a * 2 ^ d < 2 ^ 60 * 2 ^ d := Int.mul_lt_mul_of_pos_right da2 (Nm.two_pos d)
              rw [← Nm.two_add] at h2
              have := Nm.two_mono (show 60 + d ≤ 189 by omega)
              omega
            have vb := Ie.root_small hI hN
            have m5 := Nm.two_mono (show 189 ≤ 5000 by omega)
            exact rounded_any false more p _ _ os k R wx (A.arg (by have := A.tl vb (show 189 ≤ 262144 by omega); omega)) (hT.below hx) A.2.2.2.1 A.len0 (by omega) (by omega) (by omega)
          have FI : Hid (∀ (r f : Int), (∃ (R k : Int) (d : Nat), (d = 128 ∨ d = 129) ∧ 2 * k = Ie.de a - d ∧ IsRoot (Ie.dm a * 2 ^ d) R ∧ Ie.Res false R k (!decide (R * R = Ie.dm a * 2 ^ d)) r f) → Ie.SqrtIs a r f) := by
            intro r f h
            rw [Ie.SqrtIs, na, za, ng]
            simp only [Bool.false_eq_true, hi, or_self, if_false]
            exact h
          clear na za ng hi hT da0 da1 ea0 ea1 e60 da2 fa s0
          go_enter Tryd.func35, Tryd.ntmps35
          go_wp2_with fail
          refine (NA.out _).mono ?_
          rintro e wz ⟨rfl, hz⟩
          replace hz := hz.symm
          subst hz
          go_wp2_with fail
          refine (ZA.out _).mono ?_
          rintro e wz ⟨rfl, hz⟩
          replace hz := hz.symm
          subst hz
          go_wp2_with fail
          refine (UA.out _).mono ?_
          rintro e w1 ⟨pa, oa, rfl, A1, hB1⟩
          have RT1 := hid (RT.out w1 pa oa _ hB1 A1)
          have HB := hid hB1
          simp only [exactOf] at RT1 ⊢
          clear A1 hB1 RT UA
          go_wp2_with fail
          refine RT1.out.mono ?_
          rintro e w2 ⟨p, os, R, k, d, rfl, A2, hd, hk, hI, hB2⟩
          have Bw := HB.out.trans (hB2.mono HB.out.size)
          have RR := hid (RO.out w2 p os R k d (!decide (R * R = Ie.dm a * 2 ^ d)) _ Bw A2 hd hk hI)
          have HC := hid Bw
          have HS := hid (And.intro hd (And.intro hk hI))
          simp only [exactOf] at RR ⊢
          have FI2 : Hid (∀ (r f : Int), Ie.Res false R k (!decide (R * R = Ie.dm a * 2 ^ d)) r f → Ie.SqrtIs a r f) := fun r f h => FI.out r f ⟨R, k, d, hd, hk, hI, h⟩
          generalize (!decide (R * R = Ie.dm a * 2 ^ d)) = mo at *
          clear A2 hB2 Bw RO RT1 HB hd hk hI
          go_wp2_with fail
          refine RR.out.mono ?_
          rintro e w4 ⟨x, t, L, rfl, h1, h2, h3, hB4⟩
          have KR : Hid (Told2 (Ie.SqrtIs a) w (.returned (.tuple #[.int .u64 (Ie.sg false x), .int .i64 (Ie.flg R k mo (Ie.sg false x) t L)])) w4) :=
            ⟨_, _, rfl, FI2.out _ _ ⟨x, t, L, rfl, rfl, h1, h2, h3⟩, HC.out.trans (hB4.mono HC.out.size)⟩
          clear h1 h2 h3 hB4 HC RR FI FI2 HS
          go_wp2_with fail
          go_ret2
          exact KR.out
        · have s0 : a / 9223372036854775808 = 1 := by
            rw [Ie.ngd, decide_eq_true_eq] at ng
            omega
          rw [s0, Int.one_mul] at SA
          have SP : Hid (Ie.SqrtIs a 9221120237041090560 1) := by rw [Hid, Ie.SqrtIs, na, za, ng]; simp [hi]
          clear na za ng hi hT s0
          go_enter Tryd.func35, Tryd.ntmps35
          go_wp2_with fail
          refine (NA.out _).mono ?_
          rintro e wz ⟨rfl, hz⟩
          replace hz := hz.symm
          subst hz
          go_wp2_with fail
          refine (ZA.out _).mono ?_
          rintro e wz ⟨rfl, hz⟩
          replace hz := hz.symm
          subst hz
          go_wp2_with fail
          go_ret2
          exact KK.out _ _ _ rfl SP.out
    · have SP : Hid (Ie.SqrtIs a a 0) := by rw [Hid, Ie.SqrtIs, na, za]; simp
      rw [za] at ZA
      clear na za hT SA
      go_enter Tryd.func35, Tryd.ntmps35
      go_wp2_with fail
      refine (NA.out _).mono ?_
      rintro e wz ⟨rfl, hz⟩
      replace hz := hz.symm
      subst hz
      go_wp2_with fail
      refine (ZA.out _).mono ?_
      rintro e wz ⟨rfl, hz⟩
      replace hz := hz.symm
      subst hz
      go_wp2_with fail
      go_ret2
      exact KK.out _ _ _ rfl SP.out
  · have SP : Hid (Ie.SqrtIs a 9221120237041090560 0) := by rw [Hid, Ie.SqrtIs, na]; simp
    rw [na] at NA
    clear na hT SA
    go_enter Tryd.func35, Tryd.ntmps35
    go_wp2_with fail
    refine (NA.out _).mono ?_
    rintro e wz ⟨rfl, hz⟩
    replace hz := hz.symm
    subst hz
    go_wp2_with fail
    go_ret2
    exact KK.out _ _ _ rfl SP.out
set_option maxRecDepth 100000 in
set_option maxHeartbeats 4000000 in
theorem softSqrt_any (a : Int) (w : World) (a0 : 0 ≤ a) (a1 : a < 18446744073709551616) (hT : Tab w) :
    Calls Tryd.prog 10 #[.int .u64 a] w fun e w' => Told1 (Ie.SqrtIs a) w e w' := by
  have AD := hid (sqrt_any a w a0 a1 hT)
  clear hT
  go_enter Tryd.func10, Tryd.ntmps10
  go_wp2_with fail
  refine AD.out.mono ?_
  rintro e w1 ⟨r, f, rfl, h, hB⟩
  have KK : Hid (Told1 (Ie.SqrtIs a) w (.returned (.int .u64 r)) w1) := ⟨r, f, rfl, h, hB⟩
  clear h hB AD
  go_wp2_with fail
  go_ret
  exact KK.out
end Go.Proofs.YtjebdobopechfabDoor

/-
  soft.Told: the table of operations, and what each answers with its flags.
-/
namespace Go.Proofs.YtjebdobopechfabDoor
open Go Go.RowKit Go.Deep

namespace Ie
/-- What operation op answers. -/
def TellIs (op a b c r f : Int) : Prop :=
  if op = 1 then AddIs a b r f
  else if op = 2 then AddIs a (ng b) r f
  else if op = 3 then MulIs a b r f
  else if op = 4 then DivIs a b r f
  else if op = 5 then SqrtIs a r f
  else FmaIs a b c r f
theorem tell1 {a b c r f : Int} : TellIs 1 a b c r f = AddIs a b r f := by
  unfold TellIs
  rw [if_pos rfl]
theorem tell2 {a b c r f : Int} : TellIs 2 a b c r f = AddIs a (ng b) r f := by
  unfold TellIs
  rw [if_neg (by decide), if_pos rfl]
theorem tell3 {a b c r f : Int} : TellIs 3 a b c r f = MulIs a b r f := by
  unfold TellIs
  rw [if_neg (by decide), if_neg (by decide), if_pos rfl]
theorem tell4 {a b c r f : Int} : TellIs 4 a b c r f = DivIs a b r f := by
  unfold TellIs
  rw [if_neg (by decide), if_neg (by decide), if_neg (by decide), if_pos rfl]
theorem tell5 {a b c r f : Int} : TellIs 5 a b c r f = SqrtIs a r f := by
  unfold TellIs
  rw [if_neg (by decide), if_neg (by decide), if_neg (by decide), if_neg (by decide), if_pos rfl]
theorem tell6 {a b c r f : Int} : TellIs 6 a b c r f = FmaIs a b c r f := by
  unfold TellIs
  rw [if_neg (by decide), if_neg (by decide), if_neg (by decide), if_neg (by decide), if_neg (by decide)]
end Ie

set_option maxRecDepth 100000 in
set_option maxHeartbeats 4000000 in
theorem oper1_any (a b c : Int) (w : World) (a0 : 0 ≤ a) (a1 : a < 18446744073709551616) (b0 : 0 ≤ b) (b1 : b < 18446744073709551616) (hT : Tab w) :
    Calls Tryd.prog 69 #[.int .u64 a, .int .u64 b, .int .u64 c] w fun e w' => Told2 (Ie.AddIs a b) w e w' := by
  have AD := hid (add_any a b w a0 a1 b0 b1 hT)
  clear hT
  go_enter Tryd.func69, Tryd.ntmps69
  go_wp2_with fail
  refine AD.out.mono ?_
  rintro e w1 ⟨r, f, rfl, h, hB⟩
  have KK : Hid (Told2 (Ie.AddIs a b) w (.returned (.tuple #[.int .u64 r, .int .i64 f])) w1) := ⟨r, f, rfl, h, hB⟩
  clear h hB AD
  go_wp2_with fail
  go_ret2
  exact KK.out

set_option maxRecDepth 100000 in
set_option maxHeartbeats 4000000 in
theorem oper2_any (a b c : Int) (w : World) (a0 : 0 ≤ a) (a1 : a < 18446744073709551616) (b0 : 0 ≤ b) (b1 : b < 18446744073709551616) (hT : Tab w) :
    Calls Tryd.prog 70 #[.int .u64 a, .int .u64 b, .int .u64 c] w fun e w' => Told2 (Ie.AddIs a (Ie.ng b)) w e w' := by
  have AD := hid (sub_any a b w a0 a1 b0 b1 hT)
  clear hT
  go_enter Tryd.func70, Tryd.ntmps70
  go_wp2_with fail
  refine AD.out.mono ?_
  rintro e w1 ⟨r, f, rfl, h, hB⟩
  have KK : Hid (Told2 (Ie.AddIs a (Ie.ng b)) w (.returned (.tuple #[.int .u64 r, .int .i64 f])) w1) := ⟨r, f, rfl, h, hB⟩
  clear h hB AD
  go_wp2_with fail
  go_ret2
  exact KK.out

set_option maxRecDepth 100000 in
set_option maxHeartbeats 4000000 in
theorem oper3_any (a b c : Int) (w : World) (a0 : 0 ≤ a) (a1 : a < 18446744073709551616) (b0 : 0 ≤ b) (b1 : b < 18446744073709551616) (hT : Tab w) :
    Calls Tryd.prog 71 #[.int .u64 a, .int .u64 b, .int .u64 c] w fun e w' => Told2 (Ie.MulIs a b) w e w' := by
  have AD := hid (mul_any a b w a0 a1 b0 b1 hT)
  clear hT
  go_enter Tryd.func71, Tryd.ntmps71
  go_wp2_with fail
  refine AD.out.mono ?_
  rintro e w1 ⟨r, f, rfl, h, hB⟩
  have KK : Hid (Told2 (Ie.MulIs a b) w (.returned (.tuple #[.int .u64 r, .int .i64 f])) w1) := ⟨r, f, rfl, h, hB⟩
  clear h hB AD
  go_wp2_with fail
  go_ret2
  exact KK.out

set_option maxRecDepth 100000 in
set_option maxHeartbeats 4000000 in
theorem oper4_any (a b c : Int) (w : World) (a0 : 0 ≤ a) (a1 : a < 18446744073709551616) (b0 : 0 ≤ b) (b1 : b < 18446744073709551616) (hT : Tab w) :
    Calls Tryd.prog 72 #[.int .u64 a, .int .u64 b, .int .u64 c] w fun e w' => Told2 (Ie.DivIs a b) w e w' := by
  have AD := hid (div_any a b w a0 a1 b0 b1 hT)
  clear hT
  go_enter Tryd.func72, Tryd.ntmps72
  go_wp2_with fail
  refine AD.out.mono ?_
  rintro e w1 ⟨r, f, rfl, h, hB⟩
  have KK : Hid (Told2 (Ie.DivIs a b) w (.returned (.tuple #[.int .u64 r, .int .i64 f])) w1) := ⟨r, f, rfl, h, hB⟩
  clear h hB AD
  go_wp2_with fail
  go_ret2
  exact KK.out

set_option maxRecDepth 100000 in
set_option maxHeartbeats 4000000 in
theorem oper5_any (a b c : Int) (w : World) (a0 : 0 ≤ a) (a1 : a < 18446744073709551616) (hT : Tab w) :
    Calls Tryd.prog 73 #[.int .u64 a, .int .u64 b, .int .u64 c] w fun e w' => Told2 (Ie.SqrtIs a) w e w' := by
  have AD := hid (sqrt_any a w a0 a1 hT)
  clear hT
  go_enter Tryd.func73, Tryd.ntmps73
  go_wp2_with fail
  refine AD.out.mono ?_
  rintro e w1 ⟨r, f, rfl, h, hB⟩
  have KK : Hid (Told2 (Ie.SqrtIs a) w (.returned (.tuple #[.int .u64 r, .int .i64 f])) w1) := ⟨r, f, rfl, h, hB⟩
  clear h hB AD
  go_wp2_with fail
  go_ret2
  exact KK.out

def ToldIs (op a b c : Int) (w : World) (e : Ending) (w' : World) : Prop := ∃ r f, e = .returned (.tuple #[.int .u64 r, .int .i64 f, .int .i64 0]) ∧ Ie.TellIs op a b c r f ∧ Below w.heap.size w w'

/-- The table lies at block b. -/
def OpTab (w : World) (b : Nat) : Prop := w.cell? ⟨b, 0, none⟩ = some .nilFunc ∧ w.cell? ⟨b, 1, none⟩ = some (.func (.func 69) #[] #[]) ∧ w.cell? ⟨b, 2, none⟩ = some (.func (.func 70) #[] #[]) ∧ w.cell? ⟨b, 3, none⟩ = some (.func (.func 71) #[] #[]) ∧ w.cell? ⟨b, 4, none⟩ = some (.func (.func 72) #[] #[]) ∧ w.cell? ⟨b, 5, none⟩ = some (.func (.func 73) #[] #[]) ∧ w.cell? ⟨b, 6, none⟩ = some (.func (.func 47) #[] #[])

set_option maxRecDepth 100000 in
set_option maxHeartbeats 4000000 in
theorem opers_any (w : World) : Calls Tryd.prog 50 #[] w fun e w' => ∃ b, e = .returned (.slice (some ⟨b, 0, none⟩) 7 7) ∧ OpTab w' b ∧ Below w.heap.size w w' := by
  have AB := hid (alloc_b w)
  go_enter Tryd.func50, Tryd.ntmps50
  go_wp2_with fail
  go_ret
  exact ⟨_, rfl, ⟨by simp, by simp, by simp, by simp, by simp, by simp, by simp⟩, AB.out _⟩

set_option maxRecDepth 100000 in
set_option maxHeartbeats 4000000 in
theorem told1 (a b c : Int) (w : World) (a0 : 0 ≤ a) (a1 : a < 18446744073709551616) (b0 : 0 ≤ b) (b1 : b < 18446744073709551616) (hT : Tab w) :
    Calls Tryd.prog 30 #[.int .i64 1, .int .u64 a, .int .u64 b, .int .u64 c] w fun e w' => ToldIs 1 a b c w e w' := by
  have AD := hid (fun (wx : World) (hx : Below w.heap.size w wx) => oper1_any a b c wx a0 a1 b0 b1 (hT.below hx))
  have OP := hid (opers_any w)
  clear hT
  go_enter Tryd.func30, Tryd.ntmps30
  go_wp2_with fail
  refine OP.out.mono ?_
  rintro e w1 ⟨tb, rfl, hO, hB1⟩
  obtain ⟨o0, o1, o2, o3, o4, o5, o6⟩ := hO
  have HB1 := hid hB1
  clear hB1 OP
  go_wp2_with fail
  refine (AD.out _ HB1.out).mono ?_
  rintro e w2 ⟨r, f, rfl, h, hB⟩
  have KK : Hid (ToldIs 1 a b c w (.returned (.tuple #[.int .u64 r, .int .i64 f, .int .i64 0])) w2) := ⟨r, f, rfl, Ie.tell1 ▸ h, HB1.out.trans (hB.mono HB1.out.size)⟩
  clear h hB AD HB1
  go_wp2_with fail
  go_ret3
  exact KK.out

set_option maxRecDepth 100000 in
set_option maxHeartbeats 4000000 in
theorem told2 (a b c : Int) (w : World) (a0 : 0 ≤ a) (a1 : a < 18446744073709551616) (b0 : 0 ≤ b) (b1 : b < 18446744073709551616) (hT : Tab w) :
    Calls Tryd.prog 30 #[.int .i64 2, .int .u64 a, .int .u64 b, .int .u64 c] w fun e w' => ToldIs 2 a b c w e w' := by
  have AD := hid (fun (wx : World) (hx : Below w.heap.size w wx) => oper2_any a b c wx a0 a1 b0 b1 (hT.below hx))
  have OP := hid (opers_any w)
  clear hT
  go_enter Tryd.func30, Tryd.ntmps30
  go_wp2_with fail
  refine OP.out.mono ?_
  rintro e w1 ⟨tb, rfl, hO, hB1⟩
  obtain ⟨o0, o1, o2, o3, o4, o5, o6⟩ := hO
  have HB1 := hid hB1
  clear hB1 OP
  go_wp2_with fail
  refine (AD.out _ HB1.out).mono ?_
  rintro e w2 ⟨r, f, rfl, h, hB⟩
  have KK : Hid (ToldIs 2 a b c w (.returned (.tuple #[.int .u64 r, .int .i64 f, .int .i64 0])) w2) := ⟨r, f, rfl, Ie.tell2 ▸ h, HB1.out.trans (hB.mono HB1.out.size)⟩
  clear h hB AD HB1
  go_wp2_with fail
  go_ret3
  exact KK.out

set_option maxRecDepth 100000 in
set_option maxHeartbeats 4000000 in
theorem told3 (a b c : Int) (w : World) (a0 : 0 ≤ a) (a1 : a < 18446744073709551616) (b0 : 0 ≤ b) (b1 : b < 18446744073709551616) (hT : Tab w) :
    Calls Tryd.prog 30 #[.int .i64 3, .int .u64 a, .int .u64 b, .int .u64 c] w fun e w' => ToldIs 3 a b c w e w' := by
  have AD := hid (fun (wx : World) (hx : Below w.heap.size w wx) => oper3_any a b c wx a0 a1 b0 b1 (hT.below hx))
  have OP := hid (opers_any w)
  clear hT
  go_enter Tryd.func30, Tryd.ntmps30
  go_wp2_with fail
  refine OP.out.mono ?_
  rintro e w1 ⟨tb, rfl, hO, hB1⟩
  obtain ⟨o0, o1, o2, o3, o4, o5, o6⟩ := hO
  have HB1 := hid hB1
  clear hB1 OP
  go_wp2_with fail
  refine (AD.out _ HB1.out).mono ?_
  rintro e w2 ⟨r, f, rfl, h, hB⟩
  have KK : Hid (ToldIs 3 a b c w (.returned (.tuple #[.int .u64 r, .int .i64 f, .int .i64 0])) w2) := ⟨r, f, rfl, Ie.tell3 ▸ h, HB1.out.trans (hB.mono HB1.out.size)⟩
  clear h hB AD HB1
  go_wp2_with fail
  go_ret3
  exact KK.out

set_option maxRecDepth 100000 in
set_option maxHeartbeats 4000000 in
theorem told4 (a b c : Int) (w : World) (a0 : 0 ≤ a) (a1 : a < 18446744073709551616) (b0 : 0 ≤ b) (b1 : b < 18446744073709551616) (hT : Tab w) :
    Calls Tryd.prog 30 #[.int .i64 4, .int .u64 a, .int .u64 b, .int .u64 c] w fun e w' => ToldIs 4 a b c w e w' := by
  have AD := hid (fun (wx : World) (hx : Below w.heap.size w wx) => oper4_any a b c wx a0 a1 b0 b1 (hT.below hx))
  have OP := hid (opers_any w)
  clear hT
  go_enter Tryd.func30, Tryd.ntmps30
  go_wp2_with fail
  refine OP.out.mono ?_
  rintro e w1 ⟨tb, rfl, hO, hB1⟩
  obtain ⟨o0, o1, o2, o3, o4, o5, o6⟩ := hO
  have HB1 := hid hB1
  clear hB1 OP
  go_wp2_with fail
  refine (AD.out _ HB1.out).mono ?_
  rintro e w2 ⟨r, f, rfl, h, hB⟩
  have KK : Hid (ToldIs 4 a b c w (.returned (.tuple #[.int .u64 r, .int .i64 f, .int .i64 0])) w2) := ⟨r, f, rfl, Ie.tell4 ▸ h, HB1.out.trans (hB.mono HB1.out.size)⟩
  clear h hB AD HB1
  go_wp2_with fail
  go_ret3
  exact KK.out

set_option maxRecDepth 100000 in
set_option maxHeartbeats 4000000 in
theorem told5 (a b c : Int) (w : World) (a0 : 0 ≤ a) (a1 : a < 18446744073709551616) (hT : Tab w) :
    Calls Tryd.prog 30 #[.int .i64 5, .int .u64 a, .int .u64 b, .int .u64 c] w fun e w' => ToldIs 5 a b c w e w' := by
  have AD := hid (fun (wx : World) (hx : Below w.heap.size w wx) => oper5_any a b c wx a0 a1 (hT.below hx))
  have OP := hid (opers_any w)
  clear hT
  go_enter Tryd.func30, Tryd.ntmps30
  go_wp2_with fail
  refine OP.out.mono ?_
  rintro e w1 ⟨tb, rfl, hO, hB1⟩
  obtain ⟨o0, o1, o2, o3, o4, o5, o6⟩ := hO
  have HB1 := hid hB1
  clear hB1 OP
  go_wp2_with fail
  refine (AD.out _ HB1.out).mono ?_
  rintro e w2 ⟨r, f, rfl, h, hB⟩
  have KK : Hid (ToldIs 5 a b c w (.returned (.tuple #[.int .u64 r, .int .i64 f, .int .i64 0])) w2) := ⟨r, f, rfl, Ie.tell5 ▸ h, HB1.out.trans (hB.mono HB1.out.size)⟩
  clear h hB AD HB1
  go_wp2_with fail
  go_ret3
  exact KK.out

set_option maxRecDepth 100000 in
set_option maxHeartbeats 4000000 in
theorem told6 (a b c : Int) (w : World) (a0 : 0 ≤ a) (a1 : a < 18446744073709551616) (b0 : 0 ≤ b) (b1 : b < 18446744073709551616) (c0 : 0 ≤ c) (c1 : c < 18446744073709551616) (hT : Tab w) :
    Calls Tryd.prog 30 #[.int .i64 6, .int .u64 a, .int .u64 b, .int .u64 c] w fun e w' => ToldIs 6 a b c w e w' := by
  have AD := hid (fun (wx : World) (hx : Below w.heap.size w wx) => fma_any a b c wx a0 a1 b0 b1 c0 c1 (hT.below hx))
  have OP := hid (opers_any w)
  clear hT
  go_enter Tryd.func30, Tryd.ntmps30
  go_wp2_with fail
  refine OP.out.mono ?_
  rintro e w1 ⟨tb, rfl, hO, hB1⟩
  obtain ⟨o0, o1, o2, o3, o4, o5, o6⟩ := hO
  have HB1 := hid hB1
  clear hB1 OP
  go_wp2_with fail
  refine (AD.out _ HB1.out).mono ?_
  rintro e w2 ⟨r, f, rfl, h, hB⟩
  have KK : Hid (ToldIs 6 a b c w (.returned (.tuple #[.int .u64 r, .int .i64 f, .int .i64 0])) w2) := ⟨r, f, rfl, Ie.tell6 ▸ h, HB1.out.trans (hB.mono HB1.out.size)⟩
  clear h hB AD HB1
  go_wp2_with fail
  go_ret3
  exact KK.out

theorem told_any (op a b c : Int) (w : World) (o1 : 1 ≤ op) (o6 : op ≤ 6) (a0 : 0 ≤ a) (a1 : a < 18446744073709551616) (b0 : 0 ≤ b) (b1 : b < 18446744073709551616) (c0 : 0 ≤ c) (c1 : c < 18446744073709551616) (hT : Tab w) :
    Calls Tryd.prog 30 #[.int .i64 op, .int .u64 a, .int .u64 b, .int .u64 c] w fun e w' => ToldIs op a b c w e w' := by
  rcases (show op = 1 ∨ op = 2 ∨ op = 3 ∨ op = 4 ∨ op = 5 ∨ op = 6 by omega) with rfl | rfl | rfl | rfl | rfl | rfl
  · exact told1 a b c w a0 a1 b0 b1 hT
  · exact told2 a b c w a0 a1 b0 b1 hT
  · exact told3 a b c w a0 a1 b0 b1 hT
  · exact told4 a b c w a0 a1 b0 b1 hT
  · exact told5 a b c w a0 a1 hT
  · exact told6 a b c w a0 a1 b0 b1 c0 c1 hT

end Go.Proofs.YtjebdobopechfabDoor

/-
  The flags of a rounding, as numbers: exact or not, over, under.
-/
namespace Go.Proofs.YtjebdobopechfabDoor
open Go Go.RowKit Go.Deep

namespace Ie
theorem de_ex (d : Int) (h : fin d) : (ab d = 0 → de d = 0) ∧ (0 < ab d → de d = ex (ab d) - 1074) := by
  have b := ab_bd d
  rw [fin] at h
  rcases dec_kinds d _ rfl with ⟨c, m, x, k1⟩ | ⟨c, m, x, k1, k2⟩ | ⟨c, m, x, k1, k2⟩ | ⟨c, m, x, k1⟩ | ⟨c, m, x, k1, k2⟩ <;> rw [x]
  · rw [← ab] at k1
    exact ⟨fun _ => rfl, fun _ => by omega⟩
  · rw [← ab] at k1 k2
    have e0 : ex (ab d) = 0 := by rw [ex]; omega
    exact ⟨fun _ => by omega, fun _ => by rw [e0]; rfl⟩
  · rw [← ab] at k1 k2 ⊢
    exact ⟨fun _ => by omega, fun _ => by omega⟩
  · rw [← ab] at k1; omega
  · rw [← ab] at k1; omega

/-- The result is the double x. -/
def Exa (V e : Int) (more : Bool) (x : Int) : Prop := more = false ∧ x < 9218868437227405312 ∧ ∀ a b : Nat, (a : Int) - b = e + 1074 → V * 2 ^ a = un x * 2 ^ b

theorem two_at (e c : Int) : ∃ a b : Nat, (a : Int) - b = e + c := ⟨(e + c).toNat, (-(e + c)).toNat, by omega⟩

theorem ex_le {x : Int} (h : 0 < x) : ex (x - 1) ≤ ex x := by simp only [ex]; omega

theorem pow_le_cancel {a b : Nat} (h : (2 : Int) ^ a ≤ 2 ^ b) : a ≤ b := by
  rcases (show b < a ∨ a ≤ b by omega) with k | k
  · have h1 := Nm.two_mono (show b + 1 ≤ a by omega)
    have h2 := Nm.two_succ b
    have h3 := Nm.two_pos b
    omega
  · exact k

theorem mult_eq {M c g : Int} (hM : 0 < M) (h1 : 2 * (M * g) - M ≤ 2 * (M * c)) (h2 : 2 * (M * c) ≤ 2 * (M * g) + M) : c = g := by
  rcases (show c + 1 ≤ g ∨ c = g ∨ g + 1 ≤ c by omega) with h | h | h
  · have := Int.mul_le_mul_of_nonneg_left h (by omega : (0 : Int) ≤ M)
    rw [Int.mul_add, Int.mul_one] at this
    omega
  · exact h
  · have := Int.mul_le_mul_of_nonneg_left h (by omega : (0 : Int) ≤ M)
    rw [Int.mul_add, Int.mul_one] at this
    omega

theorem exa_zero {e x : Int} {more : Bool} (hm : more = false) (hR : Rnd 0 1 e more x) : x = 0 ∧ Exa 0 e more x := by
  obtain ⟨a, b, hab, hN⟩ := hR.at
  have hz := rnd_zero 1 e more (by decide) a b hab
  have hp : (0 : Int) < 1 * 2 ^ b := by have := Nm.two_pos b; omega
  have : x = 0 := hN.one hp hp hz rfl
  subst this
  exact ⟨rfl, hm, by decide, fun a b _ => by rw [un_zero, Int.zero_mul, Int.zero_mul]⟩

theorem isx_exa {V e x : Int} {more : Bool} (neg : Bool) {t : Nat} (v0 : 0 ≤ V) (hm : V = 0 → more = false) (hR : Rnd V 1 e more x) (ht : Nm.Trl V t) : isx V e more (sg neg x) t = true ↔ Exa V e more x := by
  have xb := hR.bd
  have ha : ab (sg neg x) = x := (ab_sb neg x xb.1 (by omega)).1
  rcases (show V = 0 ∨ 0 < V by omega) with hV | hV
  · subst hV
    rw [isx, decide_eq_true rfl, Bool.true_or]
    exact ⟨fun _ => (exa_zero (hm rfl) hR).2, fun _ => rfl⟩
  obtain ⟨m, hv⟩ : ∃ m, V = 2 ^ t * (2 * m + 1) := by
    rcases ht with h | h
    · omega
    · exact h
  rw [isx, decide_eq_false (by omega), Bool.false_or, isi, ha]
  simp only [Bool.and_eq_true, Bool.not_eq_true', decide_eq_false_iff_not, decide_eq_true_eq]
  constructor
  · rintro ⟨h1, h2, h3⟩
    have x1 : x < 9218868437227405312 := by omega
    have DE := de_ex (sg neg x) (by rw [fin, ha]; exact x1)
    rw [ha] at DE
    refine ⟨h1, x1, fun a b hab => ?_⟩
    have hN := hR (a + 1) b (by omega)
    have pb := Nm.two_pos b
    rw [Int.one_mul] at hN
    obtain ⟨_, n1, n2⟩ := hN
    replace n2 : V * 2 ^ (a + 1) ≤ md x * 2 ^ b := by rcases n2 x1 with h | h <;> omega
    rw [Nm.two_succ, show V * (2 * 2 ^ a) = 2 * (V * 2 ^ a) by rw [← Int.mul_assoc, Int.mul_comm V 2, Int.mul_assoc]] at n1 n2
    have hw : V * 2 ^ a = 2 ^ (t + a) * (2 * m + 1) := by
      rw [hv, Int.pow_add, Int.mul_assoc, Int.mul_assoc, Int.mul_comm (2 * m + 1)]
    rcases (show x = 0 ∨ 0 < x by omega) with hx | hx
    · exfalso
      rw [hx, md_zero, Int.one_mul] at n2
      have d0 := DE.1 hx
      have hm0 : 0 < 2 * m + 1 := by
        rcases (show 2 * m + 1 ≤ 0 ∨ 0 < 2 * m + 1 by omega) with k | k
        · have := Int.mul_nonpos_of_nonneg_of_nonpos (Int.le_of_lt (Nm.two_pos t)) k
          omega
        · exact k
      have g1 : (2 : Int) ^ (t + a) ≤ V * 2 ^ a := by
        rw [hw]
        have := Int.mul_le_mul_of_nonneg_left (show 1 ≤ 2 * m + 1 by omega) (Int.le_of_lt (Nm.two_pos (t + a)))
        omega
      have g2 := pow_le_cancel (show (2 : Int) ^ (t + a) ≤ 2 ^ b by have := Nm.two_pos (t + a); omega)
      omega
    · have dx := DE.2 hx
      have n1' : md (x - 1) * 2 ^ b ≤ 2 * (V * 2 ^ a) := by rcases n1 hx with h | h <;> omega
      have e1 := md_un (x - 1) (by omega)
      have e2 := un_succ (x - 1) (by omega)
      rw [show x - 1 + 1 = x by omega] at e1 e2
      have e3 : md x = 2 * un x + 2 ^ ex x := by rw [md_eq, vl_un]
      have e4 := Nm.two_mono (ex_le hx)
      have hU : un x * 2 ^ b = 2 ^ (ex x + b) * man x := by
        rw [un, Int.pow_add, Int.mul_assoc, Int.mul_comm]
      obtain ⟨j, hj⟩ : ∃ j, t + a = ex x + b + j := ⟨t + a - (ex x + b), by omega⟩
      have hW : V * 2 ^ a = 2 ^ (ex x + b) * (2 ^ j * (2 * m + 1)) := by
        rw [hw, hj, Int.pow_add, Int.mul_assoc]
      have hP : (2 : Int) ^ ex x * 2 ^ b = 2 ^ (ex x + b) := (Int.pow_add _ _ _).symm
      have hP1 : (2 : Int) ^ ex (x - 1) * 2 ^ b ≤ 2 ^ (ex x + b) := by
        rw [← hP]; exact Int.mul_le_mul_of_nonneg_right e4 (by omega)
      have k1 : md (x - 1) * 2 ^ b = 2 * (un x * 2 ^ b) - 2 ^ ex (x - 1) * 2 ^ b := by
        rw [show md (x - 1) = 2 * un x - 2 ^ ex (x - 1) by omega, Int.sub_mul, Int.mul_assoc]
      have k2 : md x * 2 ^ b = 2 * (un x * 2 ^ b) + 2 ^ (ex x + b) := by
        rw [e3, Int.add_mul, Int.mul_assoc, hP]
      rw [k1] at n1'
      rw [k2] at n2
      rw [hW, hU] at n1' n2 ⊢
      rw [mult_eq (M := 2 ^ (ex x + b)) (c := 2 ^ j * (2 * m + 1)) (g := man x) (Nm.two_pos _) (by omega) (by omega)]
  · rintro ⟨h1, x1, hE⟩
    have DE := de_ex (sg neg x) (by rw [fin, ha]; exact x1)
    rw [ha] at DE
    refine ⟨h1, by omega, ?_⟩
    obtain ⟨a, b, hab⟩ := two_at e 1074
    have h := hE a b hab
    have hw : V * 2 ^ a = 2 ^ (t + a) * (2 * m + 1) := by
      rw [hv, Int.pow_add, Int.mul_assoc, Int.mul_assoc, Int.mul_comm (2 * m + 1)]
    rcases (show x = 0 ∨ 0 < x by omega) with hx | hx
    · exfalso
      rw [hx, un_zero, Int.zero_mul] at h
      have := Int.mul_pos hV (Nm.two_pos a)
      omega
    · have dx := DE.2 hx
      rcases (show ex x + b ≤ t + a ∨ t + a < ex x + b by omega) with k | k
      · omega
      · exfalso
        obtain ⟨s, hs⟩ : ∃ s, ex x + b = t + a + (s + 1) := ⟨ex x + b - (t + a) - 1, by omega⟩
        have hU : un x * 2 ^ b = 2 ^ (t + a) * (2 ^ (s + 1) * man x) := by
          rw [← Int.mul_assoc, ← Int.pow_add, ← hs, un, Int.pow_add, Int.mul_assoc, Int.mul_comm]
        rw [hw, hU] at h
        exact Nm.odd_unique (Int.eq_of_mul_eq_mul_left (by have := Nm.two_pos (t + a); omega) h)

theorem under_le {V e x : Int} {more : Bool} {L : Nat} (hR : Rnd V 1 e more x) (hL : Nm.BLen V L) (hu : (L : Int) + e ≤ -1022) : x ≤ 4503599627370496 := by
  obtain ⟨a, b, hab, hN⟩ := hR.at
  have hs := rnd_self 4503599627370496 (-1074) false (by decide) (by decide) (by decide) 1 0 (by decide)
  have pb := Nm.two_pos b
  have pa := Nm.two_pos a
  refine hN.mono (by omega) (by decide) hs (Or.inl ?_)
  have h1 : V * 2 ^ a < 2 ^ L * 2 ^ a := Int.mul_lt_mul_of_pos_right hL.1 pa
  have h2 : (2 : Int) ^ L * 2 ^ a ≤ 2 ^ (53 + b) := by rw [← Int.pow_add]; exact Nm.two_mono (by omega)
  have h3 : (2 : Int) ^ (53 + b) = 9007199254740992 * 2 ^ b := by rw [Int.pow_add]; rfl
  have h4 : man 4503599627370496 = 4503599627370496 := by decide
  rw [h4]
  omega

theorem under_ge {V e x : Int} {more : Bool} {L : Nat} (hV : 0 < V) (hR : Rnd V 1 e more x) (hL : Nm.BLen V L) (hu : ¬(L : Int) + e ≤ -1022) : 4503599627370496 ≤ x := by
  obtain ⟨a, b, hab, hN⟩ := hR.at
  have hs := rnd_self 4503599627370496 (-1074) false (by decide) (by decide) (by decide) 1 0 (by decide)
  have pb := Nm.two_pos b
  have pa := Nm.two_pos a
  obtain ⟨l1, l2⟩ := hL.2.2 hV
  have h1 : 2 ^ (L - 1) * 2 ^ a ≤ V * 2 ^ a := Int.mul_le_mul_of_nonneg_right l2 (by omega)
  have h2 : (2 : Int) ^ (53 + b) ≤ 2 ^ (L - 1) * 2 ^ a := by rw [← Int.pow_add]; exact Nm.two_mono (by omega)
  have h3 : (2 : Int) ^ (53 + b) = 9007199254740992 * 2 ^ b := by rw [Int.pow_add]; rfl
  have h4 : man 4503599627370496 = 4503599627370496 := by decide
  rw [h4] at hs
  refine hs.mono (by decide) (by omega) hN ?_
  rcases (show 9007199254740992 * 2 ^ b < V * 2 ^ a ∨ 9007199254740992 * 2 ^ b = V * 2 ^ a by omega) with k | k
  · exact Or.inl (by omega)
  · exact Or.inr ⟨by omega, fun h => by cases h⟩

/-- What the flags f say of the answer r, ex being whether it is exact. -/
def FlagsIs (r f : Int) (exact : Prop) : Prop :=
  (f = 0 ∧ exact ∧ ab r < 9218868437227405312) ∨
  (¬exact ∧ ((ab r = 9218868437227405312 ∧ f = 20) ∨ (ab r < 9218868437227405312 ∧ ((f = 16 ∧ 4503599627370496 ≤ ab r) ∨ (f = 24 ∧ ab r ≤ 4503599627370496)))))

theorem Res.flags {neg more : Bool} {V e r f : Int} (v0 : 0 ≤ V) (hm : V = 0 → more = false) (h : Res neg V e more r f) : FlagsIs r f (Exa V e more (ab r)) := by
  obtain ⟨x, t, L, rfl, rfl, hR, ht, hL⟩ := h
  have xb := hR.bd
  have ha : ab (sg neg x) = x := (ab_sb neg x xb.1 (by omega)).1
  have hi := isx_exa neg v0 hm hR ht
  rw [FlagsIs, ha, flg, isi, ha]
  by_cases hE : Exa V e more x
  · rw [if_pos (hi.2 hE)]
    exact Or.inl ⟨rfl, hE, hE.2.1⟩
  · rw [if_neg (fun h => hE (hi.1 h))]
    refine Or.inr ⟨hE, ?_⟩
    have vp : 0 < V := by
      rcases (show V = 0 ∨ 0 < V by omega) with h | h
      · subst h
        exact absurd (exa_zero (hm rfl) hR).2 hE
      · exact h
    have u1 := fun h => under_le (x := x) hR hL h
    have u2 := fun h => under_ge (x := x) vp hR hL h
    rcases (show x = 9218868437227405312 ∨ x < 9218868437227405312 by omega) with hx | hx
    · refine Or.inl ⟨hx, ?_⟩
      rw [decide_eq_true hx, if_pos rfl]
      by_cases hu : (L : Int) + e ≤ -1022
      · have := u1 hu
        omega
      · rw [if_neg hu]; rfl
    · refine Or.inr ⟨hx, ?_⟩
      rw [decide_eq_false (by omega), if_neg (by decide)]
      by_cases hu : (L : Int) + e ≤ -1022
      · rw [if_pos hu]; exact Or.inr ⟨rfl, u1 hu⟩
      · rw [if_neg hu]; exact Or.inl ⟨rfl, u2 hu⟩
end Ie
end Go.Proofs.YtjebdobopechfabDoor

/-
  The flags of add, mul, fma, div on finite operands: exact in whole numbers.
-/
namespace Go.Proofs.YtjebdobopechfabDoor
open Go Go.RowKit Go.Deep

namespace Ie
theorem FlagsIs.iff {r f : Int} {P Q : Prop} (h : FlagsIs r f P) (e : P ↔ Q) : FlagsIs r f Q := propext e ▸ h

theorem exa_iff {V e x : Int} {c q : Nat} (hc : (c : Int) - q = e + 1074) : Exa V e false x ↔ x < 9218868437227405312 ∧ V * 2 ^ c = un x * 2 ^ q := by
  constructor
  · rintro ⟨_, h1, h2⟩
    exact ⟨h1, h2 c q hc⟩
  · rintro ⟨h1, h2⟩
    refine ⟨rfl, h1, fun a b hab => ?_⟩
    have pq := Nm.two_pos q
    have e1 : V * 2 ^ a * 2 ^ q = un x * 2 ^ b * 2 ^ q := by
      have : V * 2 ^ c * 2 ^ b = un x * 2 ^ q * 2 ^ b := by rw [h2]
      rw [Int.mul_assoc, ← Nm.two_add] at this
      rw [Int.mul_assoc, ← Nm.two_add, show a + q = c + b by omega, this, Int.mul_assoc, Int.mul_assoc, Int.mul_comm ((2 : Int) ^ q)]
    exact Int.eq_of_mul_eq_mul_right (by omega) e1

theorem sn_inj (neg : Bool) (A B : Int) : sn neg A = sn neg B ↔ A = B := by cases neg <;> simp only [sn, if_true, Bool.false_eq_true, if_false] <;> omega

theorem Res.uvr {neg more : Bool} {V e r f : Int} (h : Res neg V e more r f) : uv r = sn neg (un (ab r)) := by
  obtain ⟨x, t, L, rfl, rfl, hR, _⟩ := h
  have xb := hR.bd
  have ha := ab_sb neg x xb.1 (by omega)
  rw [uv, show ngd (sg neg x) = neg from ha.2]

/-- A result S / 2^q, in units of 2^-1074. -/
theorem Res.flags_of {neg : Bool} {V e r f S : Int} (v0 : 0 ≤ V) (h : Res neg V e false r f) (c q : Nat) (hc : (c : Int) - q = e + 1074) (hS : sn neg (V * 2 ^ c) = S) :
    FlagsIs r f (ab r < 9218868437227405312 ∧ S = uv r * 2 ^ q) := by
  refine (h.flags v0 (fun _ => rfl)).iff ?_
  rw [exa_iff hc, ← hS, h.uvr, sn_mul_right, sn_inj]

theorem AddIs.flags {a b r f : Int} (fa : fin a) (fb : fin b) (h : AddIs a b r f) : FlagsIs r f (ab r < 9218868437227405312 ∧ uv a + uv b = uv r) := by
  obtain ⟨neg, V, e, hS, hR⟩ := h.get fa fb
  obtain ⟨_, ⟨ea0, ea1⟩, ga, _⟩ := dec_f a fa
  obtain ⟨_, ⟨eb0, eb1⟩, gb, _⟩ := dec_f b fb
  obtain ⟨c, hc, key, h0⟩ := hS.at 1074 (by omega) (by omega) ga gb
  have := hR.flags_of hS.2.2.1.1 c 0 (by omega) key
  rw [Int.pow_zero, Int.mul_one] at this
  exact this

theorem MulIs.flags {a b r f : Int} (fa : fin a) (fb : fin b) (h : MulIs a b r f) : FlagsIs r f (ab r < 9218868437227405312 ∧ uv a * uv b = uv r * 2 ^ 1074) := by
  have hR := h.get fa fb
  obtain ⟨⟨da0, _⟩, ⟨ea0, ea1⟩, _, _⟩ := dec_f a fa
  obtain ⟨⟨db0, _⟩, ⟨eb0, eb1⟩, _, _⟩ := dec_f b fb
  obtain ⟨c, hc⟩ : ∃ k : Nat, (k : Int) = de a + de b + 2148 := ⟨(de a + de b + 2148).toNat, by omega⟩
  exact hR.flags_of (Int.mul_nonneg da0 db0) c 1074 (by omega) (by rw [prod_at fa fb c hc]; exact (uv_mul a b).symm)

theorem FmaIs.flags {a b c r f : Int} (fa : fin a) (fb : fin b) (fc : fin c) (h : FmaIs a b c r f) : FlagsIs r f (ab r < 9218868437227405312 ∧ uv a * uv b + uv c * 2 ^ 1074 = uv r * 2 ^ 1074) := by
  obtain ⟨neg, V, e, hS, hR⟩ := h.get fa fb fc
  obtain ⟨_, ⟨ea0, ea1⟩, _, _⟩ := dec_f a fa
  obtain ⟨_, ⟨eb0, eb1⟩, _, _⟩ := dec_f b fb
  obtain ⟨_, ⟨ec0, ec1⟩, gc, _⟩ := dec_f c fc
  have g2 : ∀ k : Nat, (k : Int) = de c + (2148 : Nat) → dm c * 2 ^ k = un (ab c) * 2 ^ 1074 := by
    intro k hk
    obtain ⟨kc, hkc⟩ : ∃ k : Nat, (k : Int) = de c + 1074 := ⟨(de c + 1074).toNat, by omega⟩
    rw [← gc kc hkc, show k = kc + 1074 by omega, Nm.two_add, Int.mul_assoc]
  obtain ⟨c', hc, key, h0⟩ := hS.at 2148 (by omega) (by omega) (fun k hk => prod_at fa fb k (by omega)) g2
  rw [← uv_mul, ← sn_mul_right (ngd c)] at key
  exact hR.flags_of hS.2.2.1.1 c' 1074 (by omega) key

/-- A quotient is exact where the division leaves no rest and the quotient is a double. -/
theorem div_exact {A B x : Int} {ka kb : Nat} (a0 : 0 ≤ A) (b0 : 0 < B) (b1 : B < 9007199254740992) (x0 : 0 ≤ x) :
    (A * 2 ^ 128 % B = 0 ∧ A * 2 ^ 128 / B * 2 ^ (ka + 1074) = un x * 2 ^ (kb + 128)) ↔ A * 2 ^ ka * 2 ^ 1074 = B * 2 ^ kb * un x := by
  have p128 := Nm.two_pos 128
  have mb := man_nn x x0
  constructor
  · rintro ⟨h1, h2⟩
    obtain ⟨q, hq⟩ : ∃ q, A * 2 ^ 128 = B * q := ⟨A * 2 ^ 128 / B, (Int.mul_ediv_cancel' (Int.dvd_of_emod_eq_zero h1)).symm⟩
    rw [hq, Int.mul_ediv_cancel_left q (by omega)] at h2
    have e1 : A * 2 ^ ka * 2 ^ 1074 * 2 ^ 128 = B * 2 ^ kb * un x * 2 ^ 128 := by
      have l : A * 2 ^ ka * 2 ^ 1074 * 2 ^ 128 = A * 2 ^ 128 * 2 ^ (ka + 1074) := by
        rw [Nm.two_add ka 1074]
        generalize (2 : Int) ^ 1074 = P
        generalize (2 : Int) ^ 128 = R
        ac_rfl
      have r : B * 2 ^ kb * un x * 2 ^ 128 = B * (un x * 2 ^ (kb + 128)) := by
        rw [Nm.two_add kb 128]
        generalize (2 : Int) ^ 128 = R
        ac_rfl
      rw [l, r, hq, ← h2, Int.mul_assoc]
    exact Int.eq_of_mul_eq_mul_right (by omega) e1
  · intro h
    have hd : A * 2 ^ 128 % B = 0 := by
      rcases (show A = 0 ∨ 0 < A by omega) with hA | hA
      · rw [hA, Int.zero_mul, Int.zero_emod]
      have e : A * 2 ^ (ka + 1074) = B * man x * 2 ^ (kb + ex x) := by
        rw [Nm.two_add ka 1074, ← Int.mul_assoc, h, un, Nm.two_add kb]
        ac_rfl
      rcases (show ka + 1074 ≤ kb + ex x + 128 ∨ kb + ex x + 128 < ka + 1074 by omega) with k | k
      · obtain ⟨j, hj⟩ : ∃ j, kb + ex x + 128 = ka + 1074 + j := ⟨kb + ex x + 128 - (ka + 1074), by omega⟩
        have e2 : A * 2 ^ 128 * 2 ^ (ka + 1074) = B * (man x * 2 ^ j) * 2 ^ (ka + 1074) := by
          have l : A * 2 ^ 128 * 2 ^ (ka + 1074) = A * 2 ^ (ka + 1074) * 2 ^ 128 := by
            generalize (2 : Int) ^ 128 = R
            generalize (2 : Int) ^ (ka + 1074) = P
            ac_rfl
          have r : B * man x * 2 ^ (kb + ex x) * 2 ^ 128 = B * (man x * 2 ^ j) * 2 ^ (ka + 1074) := by
            rw [Int.mul_assoc, ← Nm.two_add, hj, Nm.two_add]
            generalize (2 : Int) ^ (ka + 1074) = P
            ac_rfl
          rw [l, e, r]
        have e3 := Int.eq_of_mul_eq_mul_right (by have := Nm.two_pos (ka + 1074); omega) e2
        rw [e3, Int.mul_emod_right]
      · exfalso
        obtain ⟨j, hj⟩ : ∃ j, ka + 1074 = kb + ex x + (128 + j) := ⟨ka + 1074 - (kb + ex x + 128), by omega⟩
        have e3 : A * 2 ^ (128 + j) = B * man x := by
          have e4 : 2 ^ (kb + ex x) * (A * 2 ^ (128 + j)) = 2 ^ (kb + ex x) * (B * man x) := by
            rw [Int.mul_comm _ (B * man x), ← e, hj, Nm.two_add (kb + ex x) (128 + j)]
            generalize (2 : Int) ^ (128 + j) = P
            generalize (2 : Int) ^ (kb + ex x) = R
            ac_rfl
          exact Int.eq_of_mul_eq_mul_left (by have := Nm.two_pos (kb + ex x); omega) e4
        have g1 : 1 * 2 ^ (128 + j) ≤ A * 2 ^ (128 + j) := Int.mul_le_mul_of_nonneg_right (by omega) (Int.le_of_lt (Nm.two_pos _))
        have g2 := Nm.two_mono (show 128 ≤ 128 + j by omega)
        have g3 : B * man x ≤ 9007199254740992 * 9007199254740992 := Int.mul_le_mul (by omega) (by omega) mb.1 (by omega)
        have g4 : (2 : Int) ^ 128 = 340282366920938463463374607431768211456 := by decide
        omega
    refine ⟨hd, ?_⟩
    obtain ⟨q, hq⟩ : ∃ q, A * 2 ^ 128 = B * q := ⟨A * 2 ^ 128 / B, (Int.mul_ediv_cancel' (Int.dvd_of_emod_eq_zero hd)).symm⟩
    rw [hq, Int.mul_ediv_cancel_left q (by omega)]
    have e1 : B * (q * 2 ^ (ka + 1074)) = B * (un x * 2 ^ (kb + 128)) := by
      have l : B * (q * 2 ^ (ka + 1074)) = A * 2 ^ ka * 2 ^ 1074 * 2 ^ 128 := by
        rw [← Int.mul_assoc, ← hq, Nm.two_add ka 1074]
        generalize (2 : Int) ^ 1074 = P
        generalize (2 : Int) ^ 128 = R
        ac_rfl
      have r : B * 2 ^ kb * un x * 2 ^ 128 = B * (un x * 2 ^ (kb + 128)) := by
        rw [Nm.two_add kb 128]
        generalize (2 : Int) ^ 128 = R
        ac_rfl
      rw [l, h, r]
    exact Int.eq_of_mul_eq_mul_left (by omega) e1

theorem DivIs.flags {a b r f : Int} (fa : fin a) (fb : fin b) (hb : ab b ≠ 0) (h : DivIs a b r f) : FlagsIs r f (ab r < 9218868437227405312 ∧ uv a * 2 ^ 1074 = uv b * uv r) := by
  have hR := h.get fa fb hb
  obtain ⟨⟨da0, da1⟩, ⟨ea0, ea1⟩, ga, za⟩ := dec_f a fa
  obtain ⟨⟨db0, db1⟩, ⟨eb0, eb1⟩, gb, zb⟩ := dec_f b fb
  have dp : 0 < dm b := by omega
  obtain ⟨ka, hka⟩ : ∃ k : Nat, (k : Int) = de a + 1074 := ⟨(de a + 1074).toNat, by omega⟩
  obtain ⟨kb, hkb⟩ : ∃ k : Nat, (k : Int) = de b + 1074 := ⟨(de b + 1074).toNat, by omega⟩
  have v0 : 0 ≤ dm a * 2 ^ 128 / dm b := Int.ediv_nonneg (Int.mul_nonneg da0 (Int.le_of_lt (Nm.two_pos 128))) db0
  have hx := (ab_bd r).1
  have D := div_exact (ka := ka) (kb := kb) da0 dp db1 hx
  rw [ga ka hka, gb kb hkb] at D
  have hm : dm a * 2 ^ 128 / dm b = 0 → decide (dm a * 2 ^ 128 % dm b ≠ 0) = false := by
    intro h0
    rcases (show dm a = 0 ∨ 0 < dm a by omega) with g | g
    · rw [g, Int.zero_mul, Int.zero_emod]; rfl
    · exfalso
      have hq : 18014398509481984 ≤ dm a * 2 ^ 128 / dm b := by
        rw [Int.le_ediv_iff_mul_le dp]
        have h1 : 1 * 2 ^ 128 ≤ dm a * 2 ^ 128 := Int.mul_le_mul_of_nonneg_right (by omega) (by have := Nm.two_pos 128; omega)
        have h2 : (2 : Int) ^ 128 = 340282366920938463463374607431768211456 := by decide
        omega
      omega
  refine (hR.flags v0 hm).iff ?_
  have hS : uv a * 2 ^ 1074 = uv b * uv r ↔ un (ab a) * 2 ^ 1074 = un (ab b) * un (ab r) := by
    rw [hR.uvr, uv, uv, sn_mul_right, sn_mul]
    cases ngd a <;> cases ngd b <;> exact sn_inj _ _ _
  rw [hS, ← D]
  by_cases hd : dm a * 2 ^ 128 % dm b = 0
  · rw [decide_eq_false (by omega), exa_iff (c := ka + 1074) (q := kb + 128) (by omega)]
    exact ⟨fun ⟨g1, g2⟩ => ⟨g1, hd, g2⟩, fun ⟨g1, _, g2⟩ => ⟨g1, g2⟩⟩
  · exact ⟨fun g => absurd g.1 (by rw [decide_eq_true hd]; decide), fun g => absurd g.2.1 hd⟩
end Ie
end Go.Proofs.YtjebdobopechfabDoor

/-
  A root is exact where the square leaves no rest and the root is a double.
-/
namespace Go.Proofs.YtjebdobopechfabDoor
open Go Go.RowKit Go.Deep

namespace Ie
theorem sqle {a b : Int} (h0 : 0 ≤ a) (h : a ≤ b) : a * a ≤ b * b := Int.mul_le_mul h h h0 (by omega)

theorem root_exact {A R x : Int} {d ka p : Nat} (a0 : 0 < A) (hd : 128 ≤ d) (r0 : 0 ≤ R) (r1 : R * R ≤ A * 2 ^ d) (r2 : A * 2 ^ d < (R + 1) * (R + 1)) (hp : d + 2 * p = ka + 1074) (x0 : 0 ≤ x) :
    (R * R = A * 2 ^ d ∧ R * 2 ^ p = un x) ↔ A * 2 ^ ka * 2 ^ 1074 = un x * un x := by
  have mb := man_nn x x0
  have pp := Nm.two_pos p
  have e0 : A * 2 ^ ka * 2 ^ 1074 = A * 2 ^ d * (2 ^ p * 2 ^ p) := by
    rw [Int.mul_assoc, ← Nm.two_add, ← hp, ← Nm.two_add, Int.mul_assoc, ← Nm.two_add, show d + 2 * p = d + (p + p) by omega]
  rw [e0]
  constructor
  · rintro ⟨h1, h2⟩
    rw [← h1, ← h2]
    ac_rfl
  · intro h
    rcases (show p ≤ ex x ∨ ex x < p by omega) with k | k
    · obtain ⟨j, hj⟩ : ∃ j, ex x = p + j := ⟨ex x - p, by omega⟩
      have hu : un x = man x * 2 ^ j * 2 ^ p := by rw [un, hj, Nm.two_add]; ac_rfl
      generalize hy : man x * 2 ^ j = y at hu
      have y0 : 0 ≤ y := by rw [← hy]; exact Int.mul_nonneg mb.1 (Int.le_of_lt (Nm.two_pos j))
      have hN : A * 2 ^ d = y * y := by
        rw [hu] at h
        have : A * 2 ^ d * (2 ^ p * 2 ^ p) = y * y * (2 ^ p * 2 ^ p) := by rw [h]; ac_rfl
        exact Int.eq_of_mul_eq_mul_right (by have := Int.mul_pos pp pp; omega) this
      rw [hN] at r1 r2 ⊢
      have hR : R = y := by
        rcases (show y + 1 ≤ R ∨ R = y ∨ R + 1 ≤ y by omega) with g | g | g
        · have := sqle (by omega) g
          have e : (y + 1) * (y + 1) = y * y + 2 * y + 1 := by rw [Int.mul_add, Int.add_mul]; omega
          omega
        · exact g
        · have := sqle (by omega) g
          omega
      exact ⟨by rw [hR], by rw [hR, hu]⟩
    · exfalso
      obtain ⟨j, hj⟩ : ∃ j, p = ex x + j := ⟨p - ex x, by omega⟩
      have hN : A * 2 ^ d * (2 ^ j * 2 ^ j) = man x * man x := by
        rw [un, hj, Nm.two_add] at h
        have : A * 2 ^ d * (2 ^ j * 2 ^ j) * (2 ^ ex x * 2 ^ ex x) = man x * man x * (2 ^ ex x * 2 ^ ex x) := by
          have l : A * 2 ^ d * (2 ^ j * 2 ^ j) * (2 ^ ex x * 2 ^ ex x) = A * 2 ^ d * (2 ^ ex x * 2 ^ j * (2 ^ ex x * 2 ^ j)) := by ac_rfl
          rw [l, h]
          ac_rfl
        exact Int.eq_of_mul_eq_mul_right (by have := Int.mul_pos (Nm.two_pos (ex x)) (Nm.two_pos (ex x)); omega) this
      have g1 : 1 * 2 ^ d ≤ A * 2 ^ d := Int.mul_le_mul_of_nonneg_right (by omega) (Int.le_of_lt (Nm.two_pos _))
      have g2 := Nm.two_mono hd
      have g3 : man x * man x ≤ 9007199254740992 * 9007199254740992 := Int.mul_le_mul (by omega) (by omega) mb.1 (by omega)
      have g4 : (2 : Int) ^ 128 = 340282366920938463463374607431768211456 := by decide
      have g5 : A * 2 ^ d * 1 ≤ A * 2 ^ d * (2 ^ j * 2 ^ j) := Int.mul_le_mul_of_nonneg_left (by have := Int.mul_pos (Nm.two_pos j) (Nm.two_pos j); omega) (by omega)
      omega
end Ie
end Go.Proofs.YtjebdobopechfabDoor

/-
  What sqrt answers of a double above nothing: between the squares of the middles.
-/
namespace Go.Proofs.YtjebdobopechfabDoor
namespace Ie

theorem SqrtIs.get {a r f : Int} (fa : fin a) (hz : ab a ≠ 0) (hn : ngd a = false) (h : SqrtIs a r f) : ∃ (R k : Int) (d : Nat), (d = 128 ∨ d = 129) ∧ 2 * k = de a - d ∧ IsRoot (dm a * 2 ^ d) R ∧ Res false R k (!decide (R * R = dm a * 2 ^ d)) r f := by
  have za : isz a = false := by rw [isz, decide_eq_false_iff_not]; exact hz
  have hi : ¬ a = 9218868437227405312 := by
    intro h
    rw [fin, h] at fa
    revert fa
    decide
  rw [SqrtIs, (fin_not fa).1, za, hn] at h
  simp only [Bool.false_eq_true, hi, or_self, if_false] at h
  exact h

theorem SqrtIs.root {a r f : Int} (fa : fin a) (hz : ab a ≠ 0) (hn : ngd a = false) (h : SqrtIs a r f) : RootIs (un (ab a) * 2 ^ 1076) r := by
  obtain ⟨R, k, d, hd, hk, hI, x, t, L, rfl, -, hR, -, -⟩ := h.get fa hz hn
  obtain ⟨⟨da0, da1⟩, ⟨ea0, ea1⟩, ga, za⟩ := dec_f a fa
  have dp : 0 < dm a := by omega
  have up := un_pos (x := ab a) (by have := (ab_bd a).1; omega)
  have nb : (2 : Int) ^ 128 ≤ dm a * 2 ^ d := by
    have h1 : 1 * 2 ^ d ≤ dm a * 2 ^ d := Int.mul_le_mul_of_nonneg_right (by omega) (by have := Nm.two_pos d; omega)
    have h2 := Nm.two_mono (show 128 ≤ d by omega)
    omega
  have rb : 18446744073709551616 ≤ R := by
    rcases (show 18446744073709551616 ≤ R ∨ R + 1 ≤ 18446744073709551616 by omega) with g | g
    · exact g
    · exfalso
      have h1 := sq_le (show 0 ≤ R + 1 by have := hI.1; omega) g
      have h2 : (2 : Int) ^ 128 = 18446744073709551616 * 18446744073709551616 := by decide
      have h3 := hI.2.2
      omega
  obtain ⟨ka, hka⟩ : ∃ k : Nat, (k : Int) = de a + 1074 := ⟨(de a + 1074).toNat, by omega⟩
  obtain ⟨c, hc⟩ : ∃ c : Nat, (c : Int) = de a + 2150 - d := ⟨(de a + 2150 - d).toNat, by omega⟩
  have um : un (ab a) < 2 ^ 2099 := by
    have h1 := un_lt (ab_bd a).1 fa
    have e1 : man 9218868437227405312 = 4503599627370496 := by decide
    have e2 : ex 9218868437227405312 = 2046 := by decide
    have e3 : un 9218868437227405312 = 2 ^ 2098 := by rw [un, e1, e2, show 2098 = 52 + 2046 by rfl, Nm.two_add]; rfl
    have e4 : (2 : Int) ^ 2099 = 2 * 2 ^ 2098 := Nm.two_succ 2098
    have := Nm.two_pos 2098
    omega
  refine root_is (dm a * 2 ^ d) R k r _ _ rb hI.2.1 hI.2.2 (by simp) hR c 0 (by omega) ?_ ?_ ?_
  · rw [← ga ka hka, Int.pow_zero, Int.mul_one, Int.mul_assoc, Int.mul_assoc, ← Nm.two_add, ← Nm.two_add, show d + c = ka + 1076 by omega]
  · have h1 : 1 * 2 ^ 1076 ≤ un (ab a) * 2 ^ 1076 := Int.mul_le_mul_of_nonneg_right (by omega) (by have := Nm.two_pos 1076; omega)
    have h2 := Nm.two_mono (show 1 ≤ 1076 by omega)
    have h3 : (2 : Int) ^ 1 = 2 := rfl
    omega
  · have h1 : un (ab a) * 2 ^ 1076 < 2 ^ 2099 * 2 ^ 1076 := Int.mul_lt_mul_of_pos_right um (Nm.two_pos 1076)
    rw [← Nm.two_add] at h1
    have h2 : (2 : Int) ^ 2045 ≤ 18014398509481983 * 2 ^ 2045 := by have := Nm.two_pos 2045; omega
    have h3 := sq_le (show 0 ≤ (2 : Int) ^ 2045 by have := Nm.two_pos 2045; omega) h2
    rw [← Nm.two_add] at h3
    have h4 := Nm.two_mono (show 2099 + 1076 ≤ 2045 + 2045 by omega)
    omega

/-- A square of a double has it for its root. -/
theorem root_sq (y : Int) (h0 : 0 < y) (h1 : y < 9218868437227405312) : RootIs (vl y * vl y) y := by
  refine ⟨⟨h0, h1⟩, .inl ?_, .inl ?_⟩
  · have g := md_lt_vl (y - 1) (by omega)
    rw [show y - 1 + 1 = y by omega] at g
    exact sq_lt (by have := md_nn (y - 1) (by omega); omega) g
  · exact sq_lt (vl_nn (by omega)) (vl_lt_md y)

theorem sqrt_9 {r f : Int} (h : SqrtIs 4621256167635550208 r f) : r = 4613937818241073152 := by
  have h1 := h.root (by rw [fin]; decide) (by decide) (by decide)
  have e : ab 4621256167635550208 = 4621256167635550208 := by decide
  rw [e] at h1
  have h2 := root_sq 4613937818241073152 (by omega) (by omega)
  have e2 : vl 4613937818241073152 * vl 4613937818241073152 = un 4621256167635550208 * 2 ^ 1076 := by
    rw [vl_un, un_3, un_9]
    have e1 : (2 : Int) ^ 1076 = 18014398509481984 * 2 ^ 1022 := by rw [show 1076 = 54 + 1022 by rfl, Nm.two_add]; rfl
    rw [e1, p1022.1, p1022.2.2]
    generalize (2 : Int) ^ 1022 = P
    have l : (2 : Int) * (6755399441055744 * (2 * P)) * (2 * (6755399441055744 * (2 * P))) = 730166745731460135262101046296576 * (P * P) := by
      rw [show (2 : Int) * (6755399441055744 * (2 * P)) = 27021597764222976 * P by omega]
      rw [show (27021597764222976 : Int) * P * (27021597764222976 * P) = (27021597764222976 * 27021597764222976) * (P * P) by ac_rfl]
      rfl
    have r : (5066549580791808 : Int) * (8 * P) * (18014398509481984 * P) = 730166745731460135262101046296576 * (P * P) := by
      rw [show (5066549580791808 : Int) * (8 * P) * (18014398509481984 * P) = (5066549580791808 * 8 * 18014398509481984) * (P * P) by ac_rfl]
      rfl
    rw [l, r]
  rw [e2] at h2
  exact h1.one h2
end Ie
end Go.Proofs.YtjebdobopechfabDoor

/-
  The flags of sqrt; of every operation by its number.
-/
namespace Go.Proofs.YtjebdobopechfabDoor
open Go Go.RowKit Go.Deep

namespace Ie
theorem SqrtIs.flags {a r f : Int} (fa : fin a) (hz : ab a ≠ 0) (hn : ngd a = false) (h : SqrtIs a r f) : FlagsIs r f (ab r < 9218868437227405312 ∧ uv a * 2 ^ 1074 = uv r * uv r) := by
  obtain ⟨R, k, d, hd, hk, hI, hR⟩ := h.get fa hz hn
  obtain ⟨⟨da0, da1⟩, ⟨ea0, ea1⟩, ga, za⟩ := dec_f a fa
  have dp : 0 < dm a := by omega
  obtain ⟨ka, hka⟩ : ∃ k : Nat, (k : Int) = de a + 1074 := ⟨(de a + 1074).toNat, by omega⟩
  obtain ⟨p, hp⟩ : ∃ p : Nat, (p : Int) = k + 1074 := ⟨(k + 1074).toNat, by omega⟩
  have D := root_exact (ka := ka) (p := p) dp (show 128 ≤ d by omega) hI.1 hI.2.1 hI.2.2 (by omega) (ab_bd r).1
  rw [ga ka hka] at D
  have hm : R = 0 → (!decide (R * R = dm a * 2 ^ d)) = false := by
    intro h0
    exfalso
    have h1 : 1 * 2 ^ d ≤ dm a * 2 ^ d := Int.mul_le_mul_of_nonneg_right (by omega) (Int.le_of_lt (Nm.two_pos d))
    have h2 := Nm.two_mono (show 1 ≤ d by omega)
    have h3 : (2 : Int) ^ 1 = 2 := rfl
    have h4 := hI.2.2
    rw [h0] at h4
    omega
  refine (hR.flags hI.1 hm).iff ?_
  have hS : uv a * 2 ^ 1074 = uv r * uv r ↔ un (ab a) * 2 ^ 1074 = un (ab r) * un (ab r) := by
    rw [hR.uvr, uv, hn, sn_false, sn_false]
  rw [hS, ← D]
  by_cases hq : R * R = dm a * 2 ^ d
  · rw [decide_eq_true hq, Bool.not_true, exa_iff (c := p) (q := 0) (by omega), Int.pow_zero, Int.mul_one]
    exact ⟨fun ⟨g1, g2⟩ => ⟨g1, hq, g2⟩, fun ⟨g1, _, g2⟩ => ⟨g1, g2⟩⟩
  · exact ⟨fun g => absurd g.1 (by rw [decide_eq_false hq]; decide), fun g => absurd g.2.1 hq⟩

theorem SqrtIs.flags0 {a r f : Int} (hz : ab a = 0) (h : SqrtIs a r f) : FlagsIs r f (ab r < 9218868437227405312 ∧ uv a * 2 ^ 1074 = uv r * uv r) := by
  have na : isn a = false := by rw [isn, hz]; decide
  have za : isz a = true := by rw [isz, hz]; decide
  rw [SqrtIs, na, za] at h
  simp only [Bool.false_eq_true, if_false, true_or, if_true] at h
  obtain ⟨rfl, rfl⟩ := h
  have u : uv r = 0 := by rw [uv, hz, un_zero, sn_zero]
  refine Or.inl ⟨rfl, ⟨by rw [hz]; decide, by rw [u, Int.zero_mul, Int.zero_mul]⟩, by rw [hz]; decide⟩

/-- The exact result is the double r. -/
def ExactIs (op a b c r : Int) : Prop :=
  if op = 1 then uv a + uv b = uv r
  else if op = 2 then uv a - uv b = uv r
  else if op = 3 then uv a * uv b = uv r * 2 ^ 1074
  else if op = 4 then uv a * 2 ^ 1074 = uv b * uv r
  else if op = 5 then uv a * 2 ^ 1074 = uv r * uv r
  else uv a * uv b + uv c * 2 ^ 1074 = uv r * 2 ^ 1074

theorem TellIs.flags {op a b c r f : Int} (o1 : 1 ≤ op) (o6 : op ≤ 6) (b0 : 0 ≤ b) (b1 : b < 18446744073709551616) (fa : fin a) (fb : op ≠ 5 → fin b) (fc : op = 6 → fin c) (hb : op = 4 → ab b ≠ 0) (ha : op = 5 → a ≤ 9223372036854775808)
    (h : TellIs op a b c r f) : FlagsIs r f (ab r < 9218868437227405312 ∧ ExactIs op a b c r) := by
  rcases (show op = 1 ∨ op = 2 ∨ op = 3 ∨ op = 4 ∨ op = 5 ∨ op = 6 by omega) with rfl | rfl | rfl | rfl | rfl | rfl
  · rw [tell1] at h
    exact h.flags fa (fb (by decide))
  · rw [tell2] at h
    obtain ⟨u1, u2, _⟩ := ng_uv b b0 b1
    have := h.flags fa (show fin (ng b) by rw [fin, u2]; exact fb (by decide))
    rw [u1, ← Int.sub_eq_add_neg] at this
    exact this
  · rw [tell3] at h
    exact h.flags fa (fb (by decide))
  · rw [tell4] at h
    exact h.flags fa (fb (by decide)) (hb rfl)
  · rw [tell5] at h
    by_cases hz : ab a = 0
    · exact h.flags0 hz
    · refine h.flags fa hz ?_
      rw [ngd, decide_eq_false_iff_not]
      intro g
      have := ha rfl
      apply hz
      rw [ab]
      omega
  · rw [tell6] at h
    exact h.flags fa (fb (by decide)) (fc rfl)
end Ie
end Go.Proofs.YtjebdobopechfabDoor

/-
  Order of operands, signs, One, the zeros' signs: what soft's answers leave.
-/
namespace Go.Proofs.YtjebdobopechfabDoor
namespace Ie

theorem kind (d : Int) : isn d = true ∨ (isn d = false ∧ isi d = true) ∨ (isn d = false ∧ isi d = false ∧ fin d) := by
  cases h : isn d
  · cases k : isi d
    · exact .inr (.inr ⟨rfl, rfl, fin_of h k⟩)
    · exact .inr (.inl ⟨rfl, rfl⟩)
  · exact .inl rfl

theorem isi_sb {d : Int} (h0 : 0 ≤ d) (h1 : d < 18446744073709551616) (h : isi d = true) : d = sb (ngd d) 9218868437227405312 := by
  have e := sb_ab d h0 h1
  rw [isi, decide_eq_true_eq] at h
  rw [h] at e
  exact e

theorem ng_is (d : Int) (h0 : 0 ≤ d) (h1 : d < 18446744073709551616) : isn (ng d) = isn d ∧ isi (ng d) = isi d ∧ isz (ng d) = isz d ∧ ngd (ng d) = !ngd d ∧ (fin d → fin (ng d)) := by
  obtain ⟨-, g2, g3, -⟩ := ng_uv d h0 h1
  exact ⟨by rw [isn, isn, g2], by rw [isi, isi, g2], by rw [isz, isz, g2], g3, fun h => by rw [fin, g2]; exact h⟩

theorem ng_sb' (n : Bool) (x : Int) (h0 : 0 ≤ x) (h1 : x ≤ 9218868437227405312) : ng (sb n x) = sb (!n) x := by
  cases n <;> simp only [ng, sb, Bool.false_eq_true, if_true, if_false, Bool.not_true, Bool.not_false] <;> split <;> omega

theorem ng_inj {a b : Int} (a0 : 0 ≤ a) (a1 : a < 18446744073709551616) (b0 : 0 ≤ b) (b1 : b < 18446744073709551616) : ng a = ng b ↔ a = b := by
  simp only [ng]; split <;> split <;> omega

theorem RS.anyz {S Q : Int} {z : Bool} {r : Int} (h : RS S Q z r) (h0 : S ≠ 0) (z' : Bool) : RS S Q z' r := by
  obtain ⟨n, V, x, h1, h2, h3, h4, _⟩ := h
  exact ⟨n, V, x, h1, h2, h3, h4, fun h => absurd h h0⟩

theorem RS.zero {Q : Int} {z : Bool} {r : Int} (hQ : 0 < Q) (h : RS 0 Q z r) : ab r = 0 := by
  obtain ⟨n, y, hr⟩ : ∃ (n : Bool) (y : Int), r = sb n 0 ∧ y = (0 : Int) := by
    obtain ⟨neg, hr, _, _⟩ := h.exact hQ 0 (by omega) (by omega) (by rw [un_zero, Int.zero_mul]; decide)
    exact ⟨neg, 0, hr, rfl⟩
  rw [hr.1, (ab_sb n 0 (by omega) (by omega)).1]

theorem RS.neg {S Q : Int} {z : Bool} {r : Int} (h : RS S Q z r) : RS (-S) Q (!z) (ng r) := by
  obtain ⟨n, V, x, h1, h2, h3, h4, h5⟩ := h
  refine ⟨!n, V, x, ?_, by rw [h2, sn_not], h3, h4, fun h => by rw [h5 (by omega)]⟩
  rw [h1, ng_sb' n x h4.1.1 h4.1.2]

theorem RS.self {a Q : Int} {z : Bool} {r : Int} (a0 : 0 ≤ a) (a1 : a < 18446744073709551616) (fa : fin a) (hQ : 0 < Q) (hz : z = ngd a) (h : RS (sn (ngd a) (un (ab a) * Q)) Q z r) : r = a := by
  have u0 := un_nn (ab_bd a).1
  have p0 := Int.mul_nonneg u0 (show 0 ≤ Q by omega)
  obtain ⟨neg, hr, hS, h0⟩ := h.exact hQ (ab a) (ab_bd a).1 fa (az_sn _ _ p0)
  have hn : neg = ngd a := by
    rcases (show un (ab a) * Q = 0 ∨ 0 < un (ab a) * Q by omega) with g | g
    · rw [h0 (by rw [g, sn_zero]), hz]
    · revert hS
      cases neg <;> cases ngd a <;> simp only [sn, Bool.false_eq_true, if_true, if_false] <;> intro h <;> first | rfl | omega
  rw [hr, hn]
  exact (sb_ab a a0 a1).symm

theorem un_one : un 4607182418800017408 = 2 ^ 1074 := by
  rw [un_1, show 1074 = 52 + 1022 by rfl, Nm.two_add]; rfl

theorem uv_one : uv 4607182418800017408 = 2 ^ 1074 := by rw [uv_pos (by omega) (by omega), un_one]
theorem uv_nz : uv 9223372036854775808 = 0 := by
  have h := uv_neg (x := 0) (by omega) (by omega)
  rw [un_zero] at h
  exact h

theorem lits : isn 4607182418800017408 = false ∧ isi 4607182418800017408 = false ∧ isz 4607182418800017408 = false ∧ ngd 4607182418800017408 = false ∧ ab 4607182418800017408 = 4607182418800017408 ∧ isn 9223372036854775808 = false ∧ isi 9223372036854775808 = false ∧ ngd 9223372036854775808 = true := by decide
theorem fin_1 : fin 4607182418800017408 := by rw [fin]; decide
theorem fin_nz : fin 9223372036854775808 := by rw [fin]; decide

theorem AddIs.one {a b r r' f f' : Int} (h : AddIs a b r f) (k : AddIs a b r' f') : r' = r := by
  rcases kind a with ha | ⟨ha, ia⟩ | ⟨ha, ia, fa⟩ <;> rcases kind b with hb | ⟨hb, ib⟩ | ⟨hb, ib, fb⟩
  case inr.inr.inr.inr => exact (k.rs fa fb).one (by omega) (by omega) (h.rs fa fb) rfl
  case inr.inl.inr.inl =>
    rw [AddIs, ha, hb, ia, ib] at h k
    by_cases e : a = b
    · simp only [e, Bool.false_eq_true, or_self, if_false, ne_eq, not_true_eq_false, and_false, if_true] at h k; omega
    · simp only [e, Bool.false_eq_true, or_self, if_false, ne_eq, not_false_eq_true, and_self, if_true] at h k; omega
  all_goals
    rw [AddIs] at h k
    simp_all
    try omega

theorem AddIs.comm {a b r r' f f' : Int} (h : AddIs a b r f) (k : AddIs b a r' f') : r' = r := by
  rcases kind a with ha | ⟨ha, ia⟩ | ⟨ha, ia, fa⟩ <;> rcases kind b with hb | ⟨hb, ib⟩ | ⟨hb, ib, fb⟩
  case inr.inr.inr.inr =>
    have h1 := h.rs fa fb
    have h2 := k.rs fb fa
    rw [Int.add_comm, Bool.and_comm] at h2
    exact h2.one (by omega) (by omega) h1 rfl
  case inr.inl.inr.inl =>
    rw [AddIs, ha, hb, ia, ib] at h
    rw [AddIs, ha, hb, ia, ib] at k
    by_cases e : a = b
    · subst e
      simp only [Bool.false_eq_true, or_self, if_false, ne_eq, not_true_eq_false, and_false, if_true] at h k; omega
    · have e' : ¬ b = a := fun h => e h.symm
      simp only [e, e', Bool.false_eq_true, or_self, if_false, ne_eq, not_false_eq_true, and_self, if_true] at h k; omega
  all_goals
    rw [AddIs] at h k
    simp_all
    try omega

theorem MulIs.comm {a b r r' f f' : Int} (h : MulIs a b r f) (k : MulIs b a r' f') : r' = r := by
  have x : (ngd b != ngd a) = (ngd a != ngd b) := by cases ngd a <;> cases ngd b <;> rfl
  rcases kind a with ha | ⟨ha, ia⟩ | ⟨ha, ia, fa⟩ <;> rcases kind b with hb | ⟨hb, ib⟩ | ⟨hb, ib, fb⟩
  case inr.inr.inr.inr =>
    have h1 := h.rs fa fb
    have h2 := k.rs fb fa
    rw [Int.mul_comm, x] at h2
    exact h2.one (Nm.two_pos _) (Nm.two_pos _) h1 rfl
  all_goals
    rw [MulIs] at h k
    simp_all
    try (cases za : isz a <;> cases zb : isz b <;> simp_all <;> omega)

theorem FmaIs.comm {a b c r r' f f' : Int} (h : FmaIs a b c r f) (k : FmaIs b a c r' f') : r' = r := by
  have x : (ngd b != ngd a) = (ngd a != ngd b) := by cases ngd a <;> cases ngd b <;> rfl
  rcases kind a with ha | ⟨ha, ia⟩ | ⟨ha, ia, fa⟩ <;> rcases kind b with hb | ⟨hb, ib⟩ | ⟨hb, ib, fb⟩ <;> rcases kind c with hc | ⟨hc, ic⟩ | ⟨hc, ic, fc⟩
  case inr.inr.inr.inr.inr.inr =>
    have h1 := h.rs fa fb fc
    have h2 := k.rs fb fa fc
    rw [Int.mul_comm (uv b), x] at h2
    exact h2.one (Nm.two_pos _) (Nm.two_pos _) h1 rfl
  all_goals
    rw [FmaIs] at h k
    simp_all
    try (cases za : isz a <;> cases zb : isz b <;> simp_all <;> first | omega | exact AddIs.one h k)

theorem fma_one {a b r s f g : Int} (a0 : 0 ≤ a) (a1 : a < 18446744073709551616) (h : FmaIs a 4607182418800017408 b r f) (k : AddIs a b s g) : r = s := by
  obtain ⟨l1, l2, l3, l4, -⟩ := lits
  have x : (ngd a != false) = ngd a := by cases ngd a <;> rfl
  rcases kind a with ha | ⟨ha, ia⟩ | ⟨ha, ia, fa⟩ <;> rcases kind b with hb | ⟨hb, ib⟩ | ⟨hb, ib, fb⟩
  case inr.inr.inr.inr =>
    have h1 := h.rs fa fin_1 fb
    have h2 := k.rs fa fb
    rw [uv_one, l4, x, ← Int.add_mul] at h1
    exact h1.one (Nm.two_pos _) (by omega) h2 (by rw [Int.mul_one])
  case inr.inl.inr.inl =>
    have z := not_iz ia
    have e := isi_sb a0 a1 ia
    rw [FmaIs, ha, hb, l1, ia, z, l3, l4, x, ← e] at h
    simp only [Bool.false_eq_true, or_self, if_false, true_or, if_true] at h
    exact k.one h
  case inr.inl.inr.inr =>
    have z := not_iz ia
    have e := isi_sb a0 a1 ia
    rw [FmaIs, ha, hb, l1, ia, z, l3, l4, x, ← e] at h
    simp only [Bool.false_eq_true, or_self, if_false, true_or, if_true] at h
    exact k.one h
  all_goals
    rw [FmaIs] at h
    rw [AddIs] at k
    simp_all
    try omega

theorem fma_nz {a b r p f g : Int} (h : FmaIs a b 9223372036854775808 r f) (k : MulIs a b p g) : r = p := by
  obtain ⟨-, -, -, -, -, l1, l2, l3⟩ := lits
  have x : ((ngd a != ngd b) && true) = (ngd a != ngd b) := by cases ngd a <;> cases ngd b <;> rfl
  by_cases hn : isn a = true ∨ isn b = true
  · rw [FmaIs, if_pos (by rcases hn with h | h <;> simp [h])] at h
    rw [MulIs, if_pos hn] at k
    omega
  have hn2 : ¬ (isn a = true ∨ isn b = true ∨ isn 9223372036854775808 = true) := by
    rw [l1]; simpa using hn
  by_cases hi : isi a = true ∨ isi b = true
  · rw [FmaIs, if_neg hn2, if_pos hi] at h
    rw [MulIs, if_neg hn] at k
    by_cases hz : isz a = true ∨ isz b = true
    · have cond : (isi a = true ∧ isz b = true) ∨ (isz a = true ∧ isi b = true) := by
        rcases hi with hi | hi <;> rcases hz with hz | hz
        · rw [not_iz hi] at hz; cases hz
        · exact .inl ⟨hi, hz⟩
        · exact .inr ⟨hz, hi⟩
        · rw [not_iz hi] at hz; cases hz
      rw [if_pos hz] at h
      rw [if_pos cond] at k
      omega
    · have cond : ¬ ((isi a = true ∧ isz b = true) ∨ (isz a = true ∧ isi b = true)) := by
        rintro (⟨_, g⟩ | ⟨g, _⟩)
        · exact hz (.inr g)
        · exact hz (.inl g)
      rw [if_neg hz] at h
      rw [if_neg cond, if_pos hi] at k
      have e : isn (sb (ngd a != ngd b) 9218868437227405312) = false ∧ isi (sb (ngd a != ngd b) 9218868437227405312) = true := by
        obtain ⟨g, -⟩ := ab_sb (ngd a != ngd b) 9218868437227405312 (by omega) (by omega)
        rw [isn, isi, g]; decide
      rw [AddIs, e.1, e.2, l1, l2] at h
      simp only [Bool.false_eq_true, or_self, if_false, false_and, and_false, if_true] at h
      omega
  · have ka := kind a
    have kb := kind b
    have fa : fin a := by
      rcases ka with g | ⟨_, g⟩ | ⟨_, _, g⟩
      · exact absurd (.inl g) hn
      · exact absurd (.inl g) hi
      · exact g
    have fb : fin b := by
      rcases kb with g | ⟨_, g⟩ | ⟨_, _, g⟩
      · exact absurd (.inr g) hn
      · exact absurd (.inr g) hi
      · exact g
    have h1 := h.rs fa fb fin_nz
    rw [uv_nz, l3, x, Int.zero_mul, Int.add_zero] at h1
    exact h1.one (Nm.two_pos _) (Nm.two_pos _) (k.rs fa fb) rfl

theorem AddIs.ngs {a b s r f g : Int} (a0 : 0 ≤ a) (a1 : a < 18446744073709551616) (b0 : 0 ≤ b) (b1 : b < 18446744073709551616) (h : AddIs a b s f) (k : AddIs (ng a) (ng b) r g) (hs : ab s ≠ 0) (hm : ab s ≤ 9218868437227405312) : r = ng s := by
  obtain ⟨na1, na2, -, -, na5⟩ := ng_is a a0 a1
  obtain ⟨nb1, nb2, -, -, nb5⟩ := ng_is b b0 b1
  have inj := ng_inj a0 a1 b0 b1
  have nan : ab 9221120237041090560 = 9221120237041090560 := by decide
  rcases kind a with ha | ⟨ha, ia⟩ | ⟨ha, ia, fa⟩ <;> rcases kind b with hb | ⟨hb, ib⟩ | ⟨hb, ib, fb⟩
  case inr.inr.inr.inr =>
    have h1 := h.rs fa fb
    have h2 := k.rs (na5 fa) (nb5 fb)
    have e : uv (ng a) + uv (ng b) = -(uv a + uv b) := by rw [(ng_uv a a0 a1).1, (ng_uv b b0 b1).1]; omega
    rw [e] at h2
    have s0 : uv a + uv b ≠ 0 := by
      intro h0
      rw [h0] at h1
      exact hs (h1.zero (by omega))
    exact (h2.anyz (by omega) (!(ngd a && ngd b))).one (by omega) (by omega) h1.neg rfl
  case inr.inl.inr.inl =>
    rw [AddIs, ha, hb, ia, ib] at h
    rw [AddIs, na1, nb1, na2, nb2, ha, hb, ia, ib] at k
    by_cases e : a = b
    · subst e
      simp only [Bool.false_eq_true, or_self, if_false, ne_eq, not_true_eq_false, and_false, if_true] at h k
      rw [h.1, k.1]
    · simp only [e, Bool.false_eq_true, or_self, if_false, ne_eq, not_false_eq_true, and_self, if_true] at h
      rw [h.1, nan] at hm
      omega
  all_goals
    rw [AddIs] at h k
    simp_all

theorem MulIs.ng_of {a b a' b' p r f g : Int} (hc : (isn a' = isn a ∧ isi a' = isi a ∧ isz a' = isz a) ∧ (isn b' = isn b ∧ isi b' = isi b ∧ isz b' = isz b)) (hs : (ngd a' != ngd b') = !(ngd a != ngd b)) (hu : uv a' * uv b' = -(uv a * uv b)) (hf : (fin a → fin a') ∧ (fin b → fin b')) (h : MulIs a b p f) (k : MulIs a' b' r g) (hp : p ≠ 9221120237041090560) : r = ng p := by
  obtain ⟨⟨a1, a2, a3⟩, b1, b2, b3⟩ := hc
  by_cases hn : isn a = true ∨ isn b = true
  · rw [MulIs, if_pos hn] at h; exact absurd h.1 hp
  by_cases hz : (isi a = true ∧ isz b = true) ∨ (isz a = true ∧ isi b = true)
  · rw [MulIs, if_neg hn, if_pos hz] at h; exact absurd h.1 hp
  by_cases hi : isi a = true ∨ isi b = true
  · rw [MulIs, if_neg hn, if_neg hz, if_pos hi] at h
    rw [MulIs, a1, a2, a3, b1, b2, b3, if_neg hn, if_neg hz, if_pos hi, hs] at k
    rw [h.1, k.1, ng_sb' _ _ (by omega) (by omega)]
  · have fa : fin a := by
      rcases kind a with g | ⟨_, g⟩ | ⟨_, _, g⟩
      · exact absurd (.inl g) hn
      · exact absurd (.inl g) hi
      · exact g
    have fb : fin b := by
      rcases kind b with g | ⟨_, g⟩ | ⟨_, _, g⟩
      · exact absurd (.inr g) hn
      · exact absurd (.inr g) hi
      · exact g
    have h2 := k.rs (hf.1 fa) (hf.2 fb)
    rw [hu, hs] at h2
    exact h2.one (Nm.two_pos _) (Nm.two_pos _) (h.rs fa fb).neg rfl

theorem DivIs.ng_of {a b a' b' p r f g : Int} (hc : (isn a' = isn a ∧ isi a' = isi a ∧ isz a' = isz a) ∧ (isn b' = isn b ∧ isi b' = isi b ∧ isz b' = isz b)) (hs : (ngd a' != ngd b') = !(ngd a != ngd b)) (hab : ab a' = ab a ∧ ab b' = ab b) (h : DivIs a b p f) (k : DivIs a' b' r g) (hp : p ≠ 9221120237041090560) : r = ng p := by
  obtain ⟨⟨a1, a2, a3⟩, b1, b2, b3⟩ := hc
  by_cases hn : isn a = true ∨ isn b = true
  · rw [DivIs, if_pos hn] at h; exact absurd h.1 hp
  by_cases hz : (isi a = true ∧ isi b = true) ∨ (isz a = true ∧ isz b = true)
  · rw [DivIs, if_neg hn, if_pos hz] at h; exact absurd h.1 hp
  by_cases ia : isi a = true
  · rw [DivIs, if_neg hn, if_neg hz, if_pos ia] at h
    rw [DivIs, a1, a2, a3, b1, b2, b3, if_neg hn, if_neg hz, if_pos ia, hs] at k
    rw [h.1, k.1, ng_sb' _ _ (by omega) (by omega)]
  by_cases ib : isi b = true
  · rw [DivIs, if_neg hn, if_neg hz, if_neg ia, if_pos ib] at h
    rw [DivIs, a1, a2, a3, b1, b2, b3, if_neg hn, if_neg hz, if_neg ia, if_pos ib, hs] at k
    rw [h.1, k.1, ng_sb' _ _ (by omega) (by omega)]
  by_cases zb : isz b = true
  · rw [DivIs, if_neg hn, if_neg hz, if_neg ia, if_neg ib, if_pos zb] at h
    rw [DivIs, a1, a2, a3, b1, b2, b3, if_neg hn, if_neg hz, if_neg ia, if_neg ib, if_pos zb, hs] at k
    rw [h.1, k.1, ng_sb' _ _ (by omega) (by omega)]
  · have fa : fin a := by
      rcases kind a with g | ⟨_, g⟩ | ⟨_, _, g⟩
      · exact absurd (.inl g) hn
      · exact absurd g ia
      · exact g
    have fb : fin b := by
      rcases kind b with g | ⟨_, g⟩ | ⟨_, _, g⟩
      · exact absurd (.inr g) hn
      · exact absurd g ib
      · exact g
    have nz : ab b ≠ 0 := by
      intro h
      exact zb (by rw [isz, h]; rfl)
    have h2 := k.rs (by rw [fin, hab.1]; exact fa) (by rw [fin, hab.2]; exact fb) (by rw [hab.2]; exact nz)
    rw [hab.1, hab.2, hs, sn_not] at h2
    have bp : 0 < un (ab b) := un_pos (by have := (ab_bd b).1; omega)
    exact h2.one bp bp (h.rs fa fb nz).neg rfl

theorem bne_not (x y : Bool) : ((!x) != y) = !(x != y) ∧ (x != (!y)) = !(x != y) := by cases x <;> cases y <;> exact ⟨rfl, rfl⟩

theorem MulIs.ng1 {a b p r f g : Int} (a0 : 0 ≤ a) (a1 : a < 18446744073709551616) (h : MulIs a b p f) (k : MulIs (ng a) b r g) (hp : p ≠ 9221120237041090560) : r = ng p := by
  obtain ⟨n1, n2, n3, n4, n5⟩ := ng_is a a0 a1
  exact MulIs.ng_of ⟨⟨n1, n2, n3⟩, rfl, rfl, rfl⟩ (by rw [n4]; exact (bne_not _ _).1) (by rw [(ng_uv a a0 a1).1, Int.neg_mul]) ⟨n5, id⟩ h k hp

theorem MulIs.ng2 {a b p r f g : Int} (b0 : 0 ≤ b) (b1 : b < 18446744073709551616) (h : MulIs a b p f) (k : MulIs a (ng b) r g) (hp : p ≠ 9221120237041090560) : r = ng p := by
  obtain ⟨n1, n2, n3, n4, n5⟩ := ng_is b b0 b1
  exact MulIs.ng_of ⟨⟨rfl, rfl, rfl⟩, n1, n2, n3⟩ (by rw [n4]; exact (bne_not _ _).2) (by rw [(ng_uv b b0 b1).1, Int.mul_neg]) ⟨id, n5⟩ h k hp

theorem DivIs.ng1 {a b p r f g : Int} (a0 : 0 ≤ a) (a1 : a < 18446744073709551616) (h : DivIs a b p f) (k : DivIs (ng a) b r g) (hp : p ≠ 9221120237041090560) : r = ng p := by
  obtain ⟨n1, n2, n3, n4, -⟩ := ng_is a a0 a1
  exact DivIs.ng_of ⟨⟨n1, n2, n3⟩, rfl, rfl, rfl⟩ (by rw [n4]; exact (bne_not _ _).1) ⟨(ng_uv a a0 a1).2.1, rfl⟩ h k hp

theorem DivIs.ng2 {a b p r f g : Int} (b0 : 0 ≤ b) (b1 : b < 18446744073709551616) (h : DivIs a b p f) (k : DivIs a (ng b) r g) (hp : p ≠ 9221120237041090560) : r = ng p := by
  obtain ⟨n1, n2, n3, n4, -⟩ := ng_is b b0 b1
  exact DivIs.ng_of ⟨⟨rfl, rfl, rfl⟩, n1, n2, n3⟩ (by rw [n4]; exact (bne_not _ _).2) ⟨rfl, (ng_uv b b0 b1).2.1⟩ h k hp

theorem mul_1 {a r f : Int} (a0 : 0 ≤ a) (a1 : a < 18446744073709551616) (hn : isn a = false) (h : MulIs a 4607182418800017408 r f) : r = a := by
  obtain ⟨l1, l2, l3, l4, -⟩ := lits
  have x : (ngd a != false) = ngd a := by cases ngd a <;> rfl
  rcases kind a with ha | ⟨ha, ia⟩ | ⟨ha, ia, fa⟩
  · rw [hn] at ha; cases ha
  · rw [MulIs, hn, ia, l1, l2, l3, not_iz ia, l4, x, ← isi_sb a0 a1 ia] at h
    simp only [Bool.false_eq_true, or_self, if_false, and_false, true_or, if_true] at h
    exact h.1
  · have h1 := h.rs fa fin_1
    rw [uv_one, l4, uv, sn_mul_right] at h1
    exact h1.self a0 a1 fa (Nm.two_pos _) x

theorem div_1 {a r f : Int} (a0 : 0 ≤ a) (a1 : a < 18446744073709551616) (hn : isn a = false) (h : DivIs a 4607182418800017408 r f) : r = a := by
  obtain ⟨l1, l2, l3, l4, l5, -⟩ := lits
  have x : (ngd a != false) = ngd a := by cases ngd a <;> rfl
  rcases kind a with ha | ⟨ha, ia⟩ | ⟨ha, ia, fa⟩
  · rw [hn] at ha; cases ha
  · rw [DivIs, hn, ia, l1, l2, l3, not_iz ia, l4, x, ← isi_sb a0 a1 ia] at h
    simp only [Bool.false_eq_true, or_self, if_false, and_false, if_true] at h
    exact h.1
  · have h1 := h.rs fa fin_1 (by rw [l5]; decide)
    rw [l4, l5, x, un_one] at h1
    exact h1.self a0 a1 fa (Nm.two_pos _) rfl

theorem add_nz {a r f : Int} (a0 : 0 ≤ a) (a1 : a < 18446744073709551616) (hn : isn a = false) (h : AddIs a 9223372036854775808 r f) : r = a := by
  obtain ⟨-, -, -, -, -, l1, l2, l3⟩ := lits
  rcases kind a with ha | ⟨ha, ia⟩ | ⟨ha, ia, fa⟩
  · rw [hn] at ha; cases ha
  · rw [AddIs, hn, ia, l1, l2] at h
    simp only [Bool.false_eq_true, or_self, if_false, false_and, and_false, if_true] at h
    exact h.1
  · have h1 := h.rs fa fin_nz
    rw [uv_nz, l3, Int.add_zero, Bool.and_true, uv] at h1
    refine RS.self (Q := 1) a0 a1 fa (by omega) rfl ?_
    rw [Int.mul_one]
    exact h1
end Ie
end Go.Proofs.YtjebdobopechfabDoor

/-
  Each operation leaves one answer.
-/
namespace Go.Proofs.YtjebdobopechfabDoor
open Go Go.RowKit Go.Deep

namespace Ie
theorem Res.one {neg more : Bool} {V e r r' f f' : Int} (h : Res neg V e more r f) (k : Res neg V e more r' f') : r' = r := by
  obtain ⟨x, t, L, rfl, _, hR, _⟩ := h
  obtain ⟨y, t', L', rfl, _, hR', _⟩ := k
  obtain ⟨a, b, hab, hN⟩ := hR.at
  have hp : (0 : Int) < 1 * 2 ^ b := by have := Nm.two_pos b; omega
  rw [(hR' a b hab).one hp hp hN rfl]

theorem MulIs.one {a b r r' f f' : Int} (h : MulIs a b r f) (k : MulIs a b r' f') : r' = r := by
  unfold MulIs at h k
  split at h
  · rename_i g; rw [if_pos g] at k; rw [h.1, k.1]
  rename_i g; rw [if_neg g] at k
  split at h
  · rename_i g; rw [if_pos g] at k; rw [h.1, k.1]
  rename_i g; rw [if_neg g] at k
  split at h
  · rename_i g; rw [if_pos g] at k; rw [h.1, k.1]
  rename_i g; rw [if_neg g] at k
  exact h.one k

theorem DivIs.one {a b r r' f f' : Int} (h : DivIs a b r f) (k : DivIs a b r' f') : r' = r := by
  unfold DivIs at h k
  split at h
  · rename_i g; rw [if_pos g] at k; rw [h.1, k.1]
  rename_i g; rw [if_neg g] at k
  split at h
  · rename_i g; rw [if_pos g] at k; rw [h.1, k.1]
  rename_i g; rw [if_neg g] at k
  split at h
  · rename_i g; rw [if_pos g] at k; rw [h.1, k.1]
  rename_i g; rw [if_neg g] at k
  split at h
  · rename_i g; rw [if_pos g] at k; rw [h.1, k.1]
  rename_i g; rw [if_neg g] at k
  split at h
  · rename_i g; rw [if_pos g] at k; rw [h.1, k.1]
  rename_i g; rw [if_neg g] at k
  exact h.one k

theorem SqrtIs.one {a r r' f f' : Int} (a0 : 0 ≤ a) (h : SqrtIs a r f) (k : SqrtIs a r' f') : r' = r := by
  have h0 := h
  have k0 := k
  unfold SqrtIs at h k
  split at h
  · rename_i g; rw [if_pos g] at k; rw [h.1, k.1]
  rename_i g1; rw [if_neg g1] at k
  split at h
  · rename_i g; rw [if_pos g] at k; rw [h.1, k.1]
  rename_i g2; rw [if_neg g2] at k
  split at h
  · rename_i g; rw [if_pos g] at k; rw [h.1, k.1]
  rename_i g3
  have hn : ngd a = false := by simpa using g3
  have hz : ab a ≠ 0 := fun e => g2 (Or.inl (by rw [isz, e]; rfl))
  have fa : fin a := by
    have b := ab_bd a
    rw [isn, decide_eq_true_eq] at g1
    have : a ≠ 9218868437227405312 := fun e => g2 (Or.inr e)
    rw [ngd, decide_eq_false_iff_not] at hn
    rw [fin]
    rw [ab] at *
    omega
  exact (k0.root fa hz hn).one (h0.root fa hz hn)

theorem FmaIs.one {a b c r r' f f' : Int} (h : FmaIs a b c r f) (k : FmaIs a b c r' f') : r' = r := by
  rcases kind a with ha | ⟨ha, ia⟩ | ⟨ha, ia, fa⟩ <;> rcases kind b with hb | ⟨hb, ib⟩ | ⟨hb, ib, fb⟩ <;> rcases kind c with hc | ⟨hc, ic⟩ | ⟨hc, ic, fc⟩
  case inr.inr.inr.inr.inr.inr => exact (k.rs fa fb fc).one (Nm.two_pos _) (Nm.two_pos _) (h.rs fa fb fc) rfl
  all_goals
    rw [FmaIs] at h k
    simp_all
    try (cases za : isz a <;> cases zb : isz b <;> simp_all <;> first | omega | exact AddIs.one h k)

theorem TellIs.one {op a b c r r' f f' : Int} (o1 : 1 ≤ op) (o6 : op ≤ 6) (a0 : 0 ≤ a) (h : TellIs op a b c r f) (k : TellIs op a b c r' f') : r' = r := by
  rcases (show op = 1 ∨ op = 2 ∨ op = 3 ∨ op = 4 ∨ op = 5 ∨ op = 6 by omega) with rfl | rfl | rfl | rfl | rfl | rfl
  · rw [tell1] at h k; exact h.one k
  · rw [tell2] at h k; exact h.one k
  · rw [tell3] at h k; exact h.one k
  · rw [tell4] at h k; exact h.one k
  · rw [tell5] at h k; exact SqrtIs.one a0 h k
  · rw [tell6] at h k; exact h.one k
end Ie
end Go.Proofs.YtjebdobopechfabDoor
