/-
  Texts put together: MKinds, ShA, Shl, Shr, IShiftA, NToU, INear1, INear2, IRoundN, IRound, XTwo, MNum, MSt, MLim, MScale, Low, IShift.
-/
import Derived.Test.YtmakkfekomnpbaaGreatDoorXDef
import Derived.Test.YtmakkfekomnpbaaGreatDoorMem
import Derived.Test.YtmakkfekomnpbaaGreatDoorBare
import Derived.Test.YtmakkfekomnpbaaGreatDoorBlenIs
import Derived.Test.YtmakkfekomnpbaaGreatDoorTrailW
import Derived.Test.YtmakkfekomnpbaaGreatDoorBitW
import Derived.Test.YtmakkfekomnpbaaGreatDoorWalk5a
import Derived.Test.YtmakkfekomnpbaaGreatDoorIWalk1B
import Derived.Test.YtmakkfekomnpbaaGreatDoorINum2
import Derived.Test.YtmakkfekomnpbaaGreatDoorXNum
import Derived.Test.YtmakkfekomnpbaaGreatDoorXMem
import Derived.Test.YtmakkfekomnpbaaGreatDoorFromW
import Derived.Deep.RegionWith
import Derived.Deep.CutRange
import Derived.Deep.CutBlock
import Derived.Deep.RegionHeld3
import Derived.Test.YtmakkfekomnpbaaGreatDoorTrimW
/-
  remain: nan, infinite (made by mkmkinds.py).
-/
namespace Go.Proofs.YtmakkfekomnpbaaGreatDoor
open Go Go.RowKit Go.Deep

set_option maxRecDepth 100000 in
theorem mnan_any (d : Int) (w : World) (h0 : 0 ≤ d) (h1 : d < 18446744073709551616) :
    Calls Tryz.prog 26 #[.int .u64 d] w fun e w' => e = .returned (.bool (Ie.isn d)) ∧ w' = w := by
  have CL := hid (class_any d w h0 h1)
  have E := hid (Ie.isn_cls d)
  generalize Ie.cls d = c at CL E
  go_enter Tryz.func26, Tryz.ntmps26
  go_wp2_with fail
  refine CL.out.mono ?_
  rintro e w' ⟨rfl, rfl⟩
  go_wp2_with fail
  go_ret
  exact ⟨by rw [E.out]; rfl, rfl⟩

set_option maxRecDepth 100000 in
theorem minfinite_any (d : Int) (w : World) (h0 : 0 ≤ d) (h1 : d < 18446744073709551616) :
    Calls Tryz.prog 27 #[.int .u64 d] w fun e w' => e = .returned (.bool (Ie.isi d)) ∧ w' = w := by
  have CL := hid (class_any d w h0 h1)
  have E := hid (Ie.isi_cls d)
  generalize Ie.cls d = c at CL E
  go_enter Tryz.func27, Tryz.ntmps27
  go_wp2_with fail
  refine CL.out.mono ?_
  rintro e w' ⟨rfl, rfl⟩
  go_wp2_with fail
  go_ret
  exact ⟨by rw [E.out]; rfl, rfl⟩

theorem Ie.fin_kinds {d : Int} (h : Ie.fin d) : Ie.isn d = false ∧ Ie.isi d = false := by
  rw [Ie.fin] at h
  exact ⟨by rw [Ie.isn, decide_eq_false_iff_not]; omega, by rw [Ie.isi, decide_eq_false_iff_not]; omega⟩
theorem Ie.kinds (d : Int) : Ie.isn d = true ∨ (Ie.isn d = false ∧ Ie.isi d = true ∧ ¬ Ie.fin d) ∨ (Ie.isn d = false ∧ Ie.isi d = false ∧ Ie.fin d) := by
  simp only [Ie.isn, Ie.isi, Ie.fin, decide_eq_true_iff, decide_eq_false_iff_not]; omega
end Go.Proofs.YtmakkfekomnpbaaGreatDoor

namespace Go.Proofs.YtmakkfekomnpbaaGreatDoor
open Go.RowKit Go.Deep

namespace Sh
theorem wrap_mod (x : Int) : IntKind.u64.wrap x = x % 18446744073709551616 := by rw [IntKind.wrap_u64]

/-- Digits that don't meet: 'or' is a sum. -/
theorem or_sum (hi c : Int) (s : Nat) (h0 : 0 ≤ hi) (hc0 : 0 ≤ c) (hc : c < 2 ^ s) (h1 : hi * 2 ^ s < 18446744073709551616) (h2 : c < 18446744073709551616) : bits .or .u64 (hi * 2 ^ s) c = hi * 2 ^ s + c := by
  obtain ⟨a, rfl⟩ := Int.eq_ofNat_of_zero_le h0
  obtain ⟨b, rfl⟩ := Int.eq_ofNat_of_zero_le hc0
  have hP : (2 : Int) ^ s = ((2 ^ s : Nat) : Int) := by simp
  rw [hP] at hc h1 ⊢
  have hb : b < 2 ^ s := by omega
  rw [← Int.natCast_mul] at h1 ⊢
  have h := bits_or_u64_nat (a * 2 ^ s) b (by omega) (by omega)
  rw [h, Nat.mul_comm a, ← Nat.two_pow_add_eq_or_of_lt hb a]
  omega

theorem split64 (r : Nat) (hr : r ≤ 63) : (2 : Int) ^ r * 2 ^ (64 - r) = 18446744073709551616 := by
  rw [← Nm.two_add, show r + (64 - r) = 64 by omega, Nm.two_64]

/-- One limb moved up by r binary digits, with what came up from below: the limb s, and what goes on. -/
theorem up (x sp : Int) (r : Nat) (hr : r ≤ 63) (x0 : 0 ≤ x) (x1 : x < 18446744073709551616) (s0 : 0 ≤ sp) (s1 : sp < 2 ^ r) :
    ∃ A s sp', IntKind.u64.wrap (x * 2 ^ r) = A ∧ bits .or .u64 A sp = s ∧ x / 2 ^ (64 - r) = sp' ∧ (0 ≤ s ∧ s < 18446744073709551616) ∧ (0 ≤ sp' ∧ sp' < 2 ^ r) ∧ Hid (s + 18446744073709551616 * sp' = x * 2 ^ r + sp) := by
  have hP := Nm.two_pos r
  have hQ := Nm.two_pos (64 - r)
  have hPQ := split64 r hr
  obtain ⟨P, hPe⟩ : ∃ P : Int, 2 ^ r = P := ⟨_, rfl⟩
  obtain ⟨Q, hQe⟩ : ∃ Q : Int, 2 ^ (64 - r) = Q := ⟨_, rfl⟩
  have d1 := Int.emod_add_mul_ediv x Q
  have d2 := Int.emod_nonneg x (show Q ≠ 0 by omega)
  have d3 := Int.emod_lt_of_pos x (show 0 < Q by omega)
  have a0 : 0 ≤ x / Q := Int.ediv_nonneg x0 (by omega)
  rw [hPe] at hP s1 hPQ
  rw [hQe] at hQ hPQ
  have a1 : x / Q < P := by
    rw [Int.ediv_lt_iff_lt_mul hQ, hPQ]
    exact x1
  have a4 : x * P = x % Q * P + 18446744073709551616 * (x / Q) := by
    have : (x % Q + Q * (x / Q)) * P = x * P := by rw [d1]
    rw [Int.add_mul, Int.mul_right_comm, Int.mul_comm Q P, hPQ] at this
    omega
  have a5 : (x % Q + 1) * P ≤ Q * P := Int.mul_le_mul_of_nonneg_right (by omega) (by omega)
  rw [Int.add_mul, Int.one_mul, Int.mul_comm Q P, hPQ] at a5
  have a6 : 0 ≤ x % Q * P := Int.mul_nonneg d2 (by omega)
  have hA : IntKind.u64.wrap (x * P) = x % Q * P := by rw [wrap_mod]; omega
  have hO := or_sum (x % Q) sp r d2 s0 (by rw [hPe]; exact s1) (by rw [hPe]; omega) (by omega)
  rw [hPe] at hO
  rw [hPe, hQe]
  exact ⟨_, _, _, hA, hO, rfl, by omega, ⟨a0, a1⟩, show _ = _ by omega⟩
end Sh
end Go.Proofs.YtmakkfekomnpbaaGreatDoor

namespace Go.Proofs.YtmakkfekomnpbaaGreatDoor
open Go.RowKit Go.Deep

theorem ret_two {p : Option Addr} {a b : Nat} (h : a = b) : Ending.returned (.tuple #[.slice p a a, .int .i64 0]) = .returned (.tuple #[.slice p b b, .int .i64 0]) := by rw [h]

theorem lshift_ok (p : Option Addr) (n cap : Nat) (zs : List Int) (k : Int) (w : World) (ha : Arg w p n cap zs) (tz : Nm.tsize zs ≤ 4096) (hk : 0 ≤ k) :
    Calls Tryz.prog 107 #[.slice p n cap, .int .i64 k] w fun e w' => e = .returned (.tuple #[.slice p (Nm.tsize zs) (Nm.tsize zs), .int .i64 0]) ∧ w' = w := by
  obtain ⟨a1, a2, a3, a4, a5⟩ := ha
  have HT := hid (limited_ok p n cap zs w a1 a2 (by omega) a4 tz)
  go_enter Tryz.func107, Tryz.ntmps107
  go_wp2_with fail
  refine HT.out.mono ?_
  rintro e w' ⟨rfl, rfl⟩
  go_wp2_with fail
  go_ret2
  exact ⟨rfl, rfl⟩

theorem lshift_neg (p : Option Addr) (n cap : Nat) (zs : List Int) (k : Int) (w : World) (ha : Arg w p n cap zs) (tz : Nm.tsize zs ≤ 4096) (hk : k < 0) :
    Calls Tryz.prog 107 #[.slice p n cap, .int .i64 k] w fun e w' => e = .returned (.tuple #[.slice none 0 0, .int .i64 1]) ∧ w' = w := by
  obtain ⟨a1, a2, a3, a4, a5⟩ := ha
  have HT := hid (limited_ok p n cap zs w a1 a2 (by omega) a4 tz)
  go_enter Tryz.func107, Tryz.ntmps107
  go_wp2_with fail
  refine HT.out.mono ?_
  rintro e w' ⟨rfl, rfl⟩
  go_wp2_with fail
  go_ret2
  exact ⟨rfl, rfl⟩

theorem bitLen_n (L : Nat) (p : Option Addr) (n cap : Nat) (zs : List Int) (w : World) (ha : Arg w p n cap zs) (hb : blen zs = (L : Int)) :
    Calls Tryz.prog 59 #[.slice p n cap] w fun e w' => e = .returned (.int .i64 (L : Int)) ∧ w' = w := by
  rw [← hb]
  exact bitLen_any p n cap zs w ha

theorem Arg.trim' {w : World} {p : Option Addr} {n cap : Nat} {zs : List Int} (h : Arg w p n cap zs) : Arg w p (Nm.tsize zs) (Nm.tsize zs) (Nm.trim zs) :=
  ⟨Nm.trim_length zs, Nat.le_refl _, by have := h.tl; have := h.2.1; have := h.2.2.1; omega, h.2.2.2.1.trim, h.2.2.2.2.trim⟩

theorem shl_neg (p : Option Addr) (n cap : Nat) (zs : List Int) (k : Int) (w : World) (ha : Arg w p n cap zs) (tz : Nm.tsize zs ≤ 4096) (hk : k < 0) :
    Calls Tryz.prog 77 #[.slice p n cap, .int .i64 k] w fun e w' => e = .returned (.tuple #[.slice none 0 0, .int .i64 1]) ∧ w' = w := by
  have HT := hid (lshift_neg p n cap zs k w ha tz hk)
  go_enter Tryz.func77, Tryz.ntmps77
  go_wp2_with fail
  refine HT.out.mono ?_
  rintro e w' ⟨rfl, rfl⟩
  go_wp2_with fail
  go_ret2
  exact ⟨rfl, rfl⟩

set_option maxRecDepth 100000 in
set_option maxHeartbeats 1000000 in
/-- What is too big anyway isn't worked out. -/
theorem shl_big (p : Option Addr) (n cap : Nat) (zs : List Int) (k : Int) (L : Nat) (w : World) (ha : Arg w p n cap zs) (tz : Nm.tsize zs ≤ 4096) (hk : 0 ≤ k) (hk1 : k ≤ 9223372036854775807) (hz : 0 < Nm.tsize zs) (hL : blen (Nm.trim zs) = (L : Int)) (hb : 262144 < (L : Int) + k) :
    Calls Tryz.prog 77 #[.slice p n cap, .int .i64 k] w fun e w' => e = .returned (.tuple #[.slice none 0 0, .int .i64 2]) ∧ w' = w := by
  have HT := hid (lshift_ok p n cap zs k w ha tz hk)
  have HB := hid (bitLen_n L p _ _ (Nm.trim zs) w ha.trim' hL)
  have hz' : ((Nm.tsize zs : Int) == 0) = false := by rw [beq_eq_false_iff_ne]; omega
  have hb' : 262144 - k < (L : Int) := by omega
  clear hL ha hb
  go_enter Tryz.func77, Tryz.ntmps77
  go_wp2_with fail
  refine HT.out.mono ?_
  rintro e w' ⟨rfl, rfl⟩
  go_wp2_with fail
  refine HB.out.mono ?_
  rintro e w' ⟨rfl, rfl⟩
  go_wp2_with fail
  go_ret2
  exact ⟨rfl, rfl⟩

theorem shl_zero (p : Option Addr) (n cap : Nat) (zs : List Int) (k : Int) (w : World) (ha : Arg w p n cap zs) (hk : 0 ≤ k) (hz : Nm.tsize zs = 0) :
    Calls Tryz.prog 77 #[.slice p n cap, .int .i64 k] w fun e w' => e = .returned (.tuple #[.slice none 0 0, .int .i64 0]) ∧ w' = w := by
  have HT := lshift_ok p n cap zs k w ha (by omega) hk
  rw [hz] at HT
  have H := hid HT
  clear HT hz ha
  go_enter Tryz.func77, Tryz.ntmps77
  go_wp2_with fail
  refine H.out.mono ?_
  rintro e w' ⟨rfl, rfl⟩
  go_wp2_with fail
  go_ret2
  exact ⟨rfl, rfl⟩

set_option maxRecDepth 100000 in
set_option maxHeartbeats 1000000 in
theorem shl_ok (p : Option Addr) (n cap : Nat) (zs : List Int) (kk : Int) (k : Nat) (L : Nat) (w : World) (ha : Arg w p n cap zs) (tz : Nm.tsize zs ≤ 4096) (hkk : kk = (k : Int)) (hz : 0 < Nm.tsize zs) (hL : blen (Nm.trim zs) = (L : Int)) (hb : L + k ≤ 262144) :
    Calls Tryz.prog 77 #[.slice p n cap, .int .i64 kk] w fun e w' => ∃ r os, e = .returned (.tuple #[.slice r (List.length os) (List.length os), .int .i64 0]) ∧ Ans w.heap.size w' r os (Nm.val zs * 2 ^ k) ∧ Below w.heap.size w w' := by
  have hk0 : 0 ≤ kk := by omega
  have T1 := lshift_ok p n cap zs kk w ha tz hk0
  have B1 := bitLen_n L p _ _ (Nm.trim zs) w ha.trim' hL
  obtain ⟨N, HN⟩ : ∃ N, Hid (Nm.tsize zs = N) := ⟨_, rfl⟩
  rw [HN.out] at T1 B1
  have HT := hid T1
  have HB := hid B1
  have hN0 : 0 < N := by rw [← HN.out]; exact hz
  have hN1 : N ≤ 4096 := by rw [← HN.out]; exact tz
  have hz' : ((N : Int) == 0) = false := by rw [beq_eq_false_iff_ne]; omega
  have hb1 : ¬ 262144 - kk < (L : Int) := by omega
  have hkb : kk ≤ 262144 := by omega
  obtain ⟨sk, hsk⟩ : ∃ sk, k / 64 = sk := ⟨_, rfl⟩
  obtain ⟨r, hr⟩ : ∃ r, k % 64 = r := ⟨_, rfl⟩
  have r1 : kk / 64 = (sk : Int) := by omega
  have r2 : kk % 64 = (r : Int) := by omega
  have hr63 : r ≤ 63 := by omega
  have hskb : sk ≤ 4096 := by omega
  have KE : Hid (k = 64 * sk + r) := by show _ = _; omega
  have L1 := hid ((Nm.trim_length zs).trans HN.out)
  have A5 := hid ha.2.2.2.2.trim
  obtain ⟨b, off, rfl, hbw, HC⟩ := ha.2.2.2.1.trim.at (by rw [L1.out]; exact hN0)
  have V := hid (Nm.val_trim zs)
  clear T1 B1 ha tz hz hL hkk hsk hr
  have hmk := make64 (sk + N + 1) (by omega) w
  have em : ((sk + N + 1 : Nat) : Int) = (sk : Int) + (N : Int) + 1 := by omega
  rw [em] at hmk
  clear em
  have ho : Own (w.alloc (.cells (madeCells #[.int .u64 0] (sk + N + 1)) 26)) w.heap.size (List.replicate (sk + N + 1) 0) := by
    rw [made_zero]; exact Own.alloc w _
  have hb0 : Below w.heap.size w (w.alloc (.cells (madeCells #[.int .u64 0] (sk + N + 1)) 26)) := (Below.refl _ _).alloc (Nat.le_refl _) _
  obtain ⟨W0, hW0⟩ : ∃ W0, w.alloc (.cells (madeCells #[.int .u64 0] (sk + N + 1)) 26) = W0 := ⟨_, rfl⟩
  have HB0 : Hid (Below w.heap.size w W0) := by rw [← hW0]; exact hb0
  have I0 : MaInv w.heap.size (sk + N + 1) W0 (Nm.pw sk * (Nm.val ((Nm.trim zs).take 0) * 2 ^ r)) (sk + 0) 0 (List.replicate (sk + N + 1) 0) W0 := by
    rw [← hW0]
    exact ⟨⟨ho, by simp, Nm.Limbs.replicate _, by simp [Nm.val_replicate, Nm.val], Below.refl _ _, rfl⟩, by omega, fun i _ => getD_replicate _ _⟩
  have P0 := Nm.two_pos r
  have HP0 := hid P0
  clear ho hb0 P0
  rw [hW0] at hmk
  clear hW0
  go_enter Tryz.func77, Tryz.ntmps77
  go_wp2_with fail
  refine HT.out.mono ?_
  rintro e w' ⟨rfl, rfl⟩
  go_wp2_with fail
  refine HB.out.mono ?_
  rintro e w' ⟨rfl, rfl⟩
  go_wp2_with fail
  go_loopw [10, 43] (fun a i wr => ∃ (j : Nat) (sp : Int) (os : List Int), j ≤ N ∧ i = .int .i64 j ∧ a = .int .u64 sp ∧ Hid (sp < 2 ^ r) ∧ MaInv w'.heap.size (sk + N + 1) W0 (Nm.pw sk * (Nm.val ((Nm.trim zs).take j) * 2 ^ r)) (sk + j) sp os wr) (fun _ i _ => N - (intOf i).toNat)
  case atStart => exact ⟨0, 0, _, Nat.zero_le _, rfl, rfl, HP0.out, I0⟩
  case round =>
    clear I0 hmk
    obtain ⟨j, sp, os, hj, rfl, rfl, SP, I⟩ := hrel
    by_cases hlt : j < N
    · obtain ⟨x, hx, X⟩ : ∃ x, wr.cell? ⟨b, off + j, none⟩ = some (.int .u64 x) ∧ Hid (x = (Nm.trim zs).getD j 0) :=
        ⟨_, ((HB0.out.trans I.1.2.2.2.2.1).cell (p := ⟨b, off + j, none⟩) hbw).trans (HC.out j (by rw [L1.out]; exact hlt)), rfl⟩
      have hx0 := A5.out.at j
      rw [← X.out] at hx0
      obtain ⟨hx0, hx1⟩ := hx0
      obtain ⟨y, hyc⟩ : ∃ y, wr.cell? ⟨w'.heap.size, sk + j, none⟩ = some (.int .u64 y) := ⟨_, I.1.1.cell (sk + j) (by have := I.1.2.1; omega)⟩
      have hfr := I.1.1.free (sk + j)
      obtain ⟨hs0, hs1⟩ := I.2.1
      obtain ⟨A, s, sp', u1, u2, u3, us, usp, E⟩ := Sh.up x sp r hr63 hx0 hx1 hs0 SP.out
      have usp1 := hid usp
      have hP64 : (2 : Int) ^ r ≤ 18446744073709551616 := by rw [← Nm.two_64]; exact Nm.two_mono (by omega)
      have I2 := I.step (by omega) (x := x * 2 ^ r) (s := s) (c' := sp') us ⟨usp.1, by omega⟩ E.out
      have T2 : Nm.pw sk * (Nm.val ((Nm.trim zs).take j) * 2 ^ r) + Nm.pw (sk + j) * (x * 2 ^ r) = Nm.pw sk * (Nm.val ((Nm.trim zs).take (j + 1)) * 2 ^ r) := by
        rw [Nm.val_take_succ _ j (by rw [L1.out]; exact hlt), ← X.out, Nm.pw_add, Int.add_mul, Int.mul_add, Int.mul_assoc, Int.mul_assoc]
      rw [T2] at I2
      clear I T2 hP64 us usp E
      go_wp2
      go_roundw
      case rel => exact ⟨j + 1, sp', _, by omega, by go_num, rfl, usp1.out.2, I2⟩
      case measure => simp [intOf]; omega
    · have hjN : j = N := by omega
      subst hjN
      rw [List.take_of_length_le (by rw [L1.out]; omega)] at I
      obtain ⟨⟨i1, i2, i3, i4, i5, i6⟩, i7, i8⟩ := I
      have O1 := hid (i1.set (sk + j) sp)
      have O2 : Hid ((os.set (sk + j) sp).length = sk + j + 1) := by rw [Hid]; simpa using i2
      have O3 := hid (i3.set (sk + j) i7.1 i7.2)
      have O4 : Hid (Nm.val (os.set (sk + j) sp) = Nm.val zs * 2 ^ k) := by
        rw [Hid, Nm.val_set _ _ _ (by omega), i8 (sk + j) (Nat.le_refl _), Int.sub_zero, i4, V.out, Nm.pw_two, Int.mul_left_comm, ← Nm.two_add, ← KE.out]
      have O5 := hid (HB0.out.trans (i5.setCell (p := ⟨w'.heap.size, sk + j, none⟩) (Nat.le_refl _) (.int .u64 sp)))
      obtain ⟨y, hy⟩ : ∃ y, wr.cell? ⟨w'.heap.size, sk + j, none⟩ = some (.int .u64 y) := ⟨_, i1.cell (sk + j) (by omega)⟩
      have hfr := i1.free (sk + j)
      clear i1 i2 i3 i4 i5 i6 i7 i8
      go_wp2_with fail
      refine (trimmed_any _ (sk + j + 1) (sk + j + 1) (os.set (sk + j) sp) _ O2.out (Nat.le_refl _) (by omega) O1.out.lies).mono ?_
      rintro e w3 ⟨rfl, rfl⟩
      go_wp2_with fail
      go_ret2
      refine ⟨some ⟨w'.heap.size, 0, none⟩, Nm.trim (os.set (sk + j) sp), ret_two (Nm.trim_length _).symm, ⟨O1.out.lies.trim, O3.out.trim, ?_, ?_, ?_⟩, O5.out⟩
      · rw [Nm.trim_trim, Nm.trim_length]
      · rw [Nm.val_trim, O4.out]
      · intro a h
        cases h
        exact Nat.le_refl _
end Go.Proofs.YtmakkfekomnpbaaGreatDoor

namespace Go.Proofs.YtmakkfekomnpbaaGreatDoor
open Go.RowKit Go.Deep

namespace Sh
theorem val_at (zs : List Int) (i : Nat) (hi : i < zs.length) : Nm.val (zs.drop i) = zs.getD i 0 + 18446744073709551616 * Nm.val (zs.drop (i + 1)) := by
  rw [List.drop_eq_getElem_cons hi, Nm.val]
  simp [List.getD, hi]

/-- One limb moved down by r binary digits, with what came down from above: the limb s, and what goes on. -/
theorem down (x V sp : Int) (r : Nat) (hr : r ≤ 63) (x0 : 0 ≤ x) (x1 : x < 18446744073709551616) (hsp : sp = V % 2 ^ r * 2 ^ (64 - r)) :
    ∃ q s sp', x / 2 ^ r = q ∧ bits .or .u64 q sp = s ∧ IntKind.u64.wrap (x * 2 ^ (64 - r)) = sp' ∧ (0 ≤ s ∧ s < 18446744073709551616) ∧ (0 ≤ sp' ∧ sp' < 18446744073709551616) ∧
      Hid (s + 18446744073709551616 * (V / 2 ^ r) = (x + 18446744073709551616 * V) / 2 ^ r) ∧ Hid (sp' = (x + 18446744073709551616 * V) % 2 ^ r * 2 ^ (64 - r)) := by
  have hP := Nm.two_pos r
  have hQ := Nm.two_pos (64 - r)
  have hPQ := split64 r hr
  have hpe : (2 : Int) ^ (64 - r) = 2 ^ (64 - r) := rfl
  have d2 := Int.emod_nonneg V (show (2 : Int) ^ r ≠ 0 by omega)
  have d3 := Int.emod_lt_of_pos V hP
  have q0 : 0 ≤ x / 2 ^ r := Int.ediv_nonneg x0 (by omega)
  have q1 : x / 2 ^ r < 2 ^ (64 - r) := by
    rw [Int.ediv_lt_iff_lt_mul hP, Int.mul_comm, hPQ]
    exact x1
  have e1 : (V % 2 ^ r + 1) * 2 ^ (64 - r) ≤ 2 ^ r * 2 ^ (64 - r) := Int.mul_le_mul_of_nonneg_right (by omega) (by omega)
  rw [Int.add_mul, Int.one_mul, hPQ] at e1
  have e2 : 0 ≤ V % 2 ^ r * 2 ^ (64 - r) := Int.mul_nonneg d2 (by omega)
  -- 'or' with the summands the other way round
  have hO : bits .or .u64 (x / 2 ^ r) sp = x / 2 ^ r + sp := by
    have h := or_sum (V % 2 ^ r) (x / 2 ^ r) (64 - r) d2 q0 q1 (by omega) (by omega)
    rw [← hsp] at h
    obtain ⟨a, ha⟩ := Int.eq_ofNat_of_zero_le q0
    obtain ⟨c, hc⟩ := Int.eq_ofNat_of_zero_le (show 0 ≤ sp by omega)
    rw [ha, hc] at h ⊢
    rw [bits_or_u64_nat c a (by omega) (by omega)] at h
    rw [bits_or_u64_nat a c (by omega) (by omega), Nat.or_comm, h]
    omega
  refine ⟨_, _, _, rfl, hO, rfl, by omega, ?_, ?_, ?_⟩
  · rw [wrap_mod]; omega
  · show _ = _
    have a1 : (x + 18446744073709551616 * V) / 2 ^ r = x / 2 ^ r + 2 ^ (64 - r) * V := by
      rw [← hPQ, Int.mul_assoc, Int.add_mul_ediv_left _ _ (by omega)]
    have a2 := Int.emod_add_mul_ediv V (2 ^ r)
    have a3 : 2 ^ (64 - r) * V = V % 2 ^ r * 2 ^ (64 - r) + 18446744073709551616 * (V / 2 ^ r) := by
      have : 2 ^ (64 - r) * (V % 2 ^ r + 2 ^ r * (V / 2 ^ r)) = 2 ^ (64 - r) * V := by rw [a2]
      rw [Int.mul_add, ← Int.mul_assoc, Int.mul_comm (2 ^ (64 - r)) (2 ^ r), hPQ, Int.mul_comm (2 ^ (64 - r)) (V % 2 ^ r)] at this
      omega
    rw [a1, a3, hsp]
    omega
  · show _ = _
    have b1 : (x + 18446744073709551616 * V) % 2 ^ r = x % 2 ^ r := by
      rw [← hPQ, Int.mul_assoc, Int.add_mul_emod_self_left]
    rw [b1, wrap_mod]
    have c1 := Int.emod_add_mul_ediv x (2 ^ r)
    have c2 := Int.emod_nonneg x (show (2 : Int) ^ r ≠ 0 by omega)
    have c3 := Int.emod_lt_of_pos x hP
    have c4 : (x % 2 ^ r + 1) * 2 ^ (64 - r) ≤ 2 ^ r * 2 ^ (64 - r) := Int.mul_le_mul_of_nonneg_right (by omega) (by omega)
    rw [Int.add_mul, Int.one_mul, hPQ] at c4
    have c5 : 0 ≤ x % 2 ^ r * 2 ^ (64 - r) := Int.mul_nonneg c2 (by omega)
    have c6 : x * 2 ^ (64 - r) = x % 2 ^ r * 2 ^ (64 - r) + 18446744073709551616 * (x / 2 ^ r) := by
      have : (x % 2 ^ r + 2 ^ r * (x / 2 ^ r)) * 2 ^ (64 - r) = x * 2 ^ (64 - r) := by rw [c1]
      rw [Int.add_mul, Int.mul_right_comm, hPQ] at this
      omega
    omega

/-- Whether anything is lost: by the lowest digit 1. -/
theorem lost_iff {v : Int} {t n : Nat} (h : Nm.Trl v t) (hv : 0 < v) : decide ((t : Int) < (n : Int)) = decide (v % 2 ^ n ≠ 0) := by
  rcases h with ⟨h, _⟩ | ⟨m, hm⟩
  · omega
  · rw [Bool.eq_iff_iff]
    simp only [decide_eq_true_eq]
    constructor
    · intro hlt h0
      obtain ⟨c, hc⟩ := Nat.exists_eq_add_of_lt (show t < n by omega)
      obtain ⟨k, hk⟩ := Int.dvd_of_emod_eq_zero h0
      rw [hm, hc, Nat.add_assoc, Nm.two_add, Int.mul_assoc] at hk
      exact Nm.odd_unique (Int.eq_of_mul_eq_mul_left (by have := Nm.two_pos t; omega) hk)
    · intro h0
      rcases Nat.lt_or_ge t n with hlt | hge
      · omega
      · exfalso
        obtain ⟨c, hc⟩ := Nat.exists_eq_add_of_le hge
        apply h0
        rw [hm, hc, Nm.two_add, Int.mul_assoc]
        exact Int.mul_emod_right _ _
end Sh

/-- Behind the limbs from j on: they are moved down; below j the limbs are as they were. -/
def DownInv (g M : Nat) (w : World) (ys : List Int) (r j : Nat) (sp : Int) (os : List Int) (wr : World) : Prop :=
  Own wr g os ∧ os.length = M ∧ Nm.Limbs os ∧ (∀ t, t < j → os.getD t 0 = ys.getD t 0) ∧ Nm.val (os.drop j) = Nm.val (ys.drop j) / 2 ^ r ∧ sp = Nm.val (ys.drop j) % 2 ^ r * 2 ^ (64 - r) ∧ Below g w wr

theorem DownInv.step {g M : Nat} {w : World} {ys : List Int} {r t : Nat} {sp : Int} {os : List Int} {wr : World} (h : DownInv g M w ys r (t + 1) sp os wr) (hM : ys.length = M) (ht : t < M) {x s sp' : Int} (hx : x = ys.getD t 0) (hs0 : 0 ≤ s ∧ s < 18446744073709551616)
    (e1 : s + 18446744073709551616 * (Nm.val (ys.drop (t + 1)) / 2 ^ r) = (x + 18446744073709551616 * Nm.val (ys.drop (t + 1))) / 2 ^ r) (e2 : sp' = (x + 18446744073709551616 * Nm.val (ys.drop (t + 1))) % 2 ^ r * 2 ^ (64 - r)) :
    DownInv g M w ys r t sp' (os.set t s) (wr.setCell ⟨g, t, none⟩ (.int .u64 s)) := by
  obtain ⟨h1, h2, h3, h4, h5, h6, h7⟩ := h
  have hv := Sh.val_at ys t (by omega)
  rw [← hx] at hv
  refine ⟨h1.set t s, by simpa using h2, h3.set t hs0.1 hs0.2, ?_, ?_, by rw [hv]; exact e2, h7.setCell (p := ⟨g, t, none⟩) (Nat.le_refl _) _⟩
  · intro i hi
    rw [Nm.getD_set _ _ _ _ (by omega), if_neg (by omega)]
    exact h4 i (by omega)
  · rw [Sh.val_at (os.set t s) t (by simpa using (show t < os.length by omega)), Nm.getD_set _ _ _ _ (by omega), if_pos rfl, hv, ← e1]
    rw [List.drop_set_of_lt (by omega), h5]

theorem ret_shr {p : Option Addr} {a b : Nat} {l l' : Bool} (h : a = b) (hl : l = l') : Ending.returned (.tuple #[.slice p a a, .bool l, .int .i64 0]) = .returned (.tuple #[.slice p b b, .bool l', .int .i64 0]) := by rw [h, hl]

set_option maxRecDepth 100000 in
set_option maxHeartbeats 1000000 in
/-- From the number of its digits on nothing is left. -/
theorem shr_all (p : Option Addr) (n cap : Nat) (zs : List Int) (k : Int) (L : Nat) (w : World) (ha : Arg w p n cap zs) (tz : Nm.tsize zs ≤ 4096) (hk : 0 ≤ k) (hL : blen (Nm.trim zs) = (L : Int)) (hb : (L : Int) ≤ k) :
    Calls Tryz.prog 119 #[.slice p n cap, .int .i64 k] w fun e w' => e = .returned (.tuple #[.slice none 0 0, .bool (decide (0 < Nm.tsize zs)), .int .i64 0]) ∧ w' = w := by
  have HT := hid (lshift_ok p n cap zs k w ha tz hk)
  have HB := hid (bitLen_n L p _ _ (Nm.trim zs) w ha.trim' hL)
  clear hL ha
  go_enter Tryz.func119, Tryz.ntmps119
  go_wp2_with fail
  refine HT.out.mono ?_
  rintro e w' ⟨rfl, rfl⟩
  go_wp2_with fail
  refine HB.out.mono ?_
  rintro e w' ⟨rfl, rfl⟩
  go_wp2_with fail
  go_ret3
  exact ⟨by first | rfl | simp, rfl⟩

set_option maxRecDepth 100000 in
set_option maxHeartbeats 1000000 in
theorem shr_ok (p : Option Addr) (n cap : Nat) (zs : List Int) (kk : Int) (k L : Nat) (w : World) (ha : Arg w p n cap zs) (hT : Tab w) (tz : Nm.tsize zs ≤ 4096) (hkk : kk = (k : Int)) (hL : blen (Nm.trim zs) = (L : Int)) (hLt : L ≤ 64 * Nm.tsize zs) (hb : k < L) :
    Calls Tryz.prog 119 #[.slice p n cap, .int .i64 kk] w fun e w' => ∃ r os, e = .returned (.tuple #[.slice r (List.length os) (List.length os), .bool (decide (Nm.val zs % 2 ^ k ≠ 0)), .int .i64 0]) ∧ Ans w.heap.size w' r os (Nm.val zs / 2 ^ k) ∧ Below w.heap.size w w' := by
  have hk0 : 0 ≤ kk := by omega
  have T1 := lshift_ok p n cap zs kk w ha tz hk0
  have B1 := bitLen_n L p _ _ (Nm.trim zs) w ha.trim' hL
  have hvpos : 0 < Nm.val zs := by
    have h1 := (Nm.val_bd zs ha.2.2.2.2).1
    rcases (show Nm.val zs = 0 ∨ 0 < Nm.val zs by omega) with h | h
    · have := (Nm.tsize_zero_iff ha.2.2.2.2).2 h
      omega
    · exact h
  obtain ⟨N, HN⟩ : ∃ N, Hid (Nm.tsize zs = N) := ⟨_, rfl⟩
  rw [HN.out] at T1 B1 hLt
  have HT := hid T1
  have HB := hid B1
  have hN1 : N ≤ 4096 := by rw [← HN.out]; exact tz
  have hb1 : ¬ (L : Int) ≤ kk := by omega
  obtain ⟨sk, hsk⟩ : ∃ sk, k / 64 = sk := ⟨_, rfl⟩
  obtain ⟨r, hr⟩ : ∃ r, k % 64 = r := ⟨_, rfl⟩
  have r1 : kk / 64 = (sk : Int) := by omega
  have r2 : kk % 64 = (r : Int) := by omega
  have hr63 : r ≤ 63 := by omega
  have hskN : sk < N := by omega
  have hskN' : (sk : Int) < (N : Int) := by omega
  have hkb : kk ≤ 262144 := by omega
  have KE : Hid (k = 64 * sk + r) := by show _ = _; omega
  have KK := hid hkk
  have L1 := hid ((Nm.trim_length zs).trans HN.out)
  have A5 := hid ha.2.2.2.2.trim
  have AT := ha.trim'
  rw [HN.out] at AT
  have HAT := hid AT
  obtain ⟨b, off, rfl, hbw, HC⟩ := ha.2.2.2.1.trim.at (by rw [L1.out]; omega)
  have V := hid (Nm.val_trim zs)
  have LD : Hid (Lies w (some ⟨b, off + sk, none⟩) ((Nm.trim zs).drop sk)) := .inr ⟨b, off + sk, rfl, fun i hi => by
    rw [List.length_drop] at hi
    rw [show off + sk + i = off + (sk + i) by omega, HC.out (sk + i) (by omega)]
    simp [List.getD]⟩
  have YL : Hid (((Nm.trim zs).drop sk).length = N - sk) := by rw [Hid, List.length_drop, L1.out]
  have YY := hid (A5.out.drop sk)
  have HTAB := hid hT
  have HV := hid hvpos
  have QE : Hid (Nm.val zs / 2 ^ k = Nm.val ((Nm.trim zs).drop sk) / 2 ^ r) := by
    have h1 := Nm.val_drop (Nm.trim zs) sk (by rw [L1.out]; omega)
    have h2 := Nm.val_bd _ (A5.out.take sk)
    rw [List.length_take, L1.out, Nat.min_eq_left (by omega)] at h2
    have hp := Nm.pw_pos sk
    show _ = _
    rw [KE.out, Nm.two_add, ← Nm.pw_two, ← Int.ediv_ediv_of_nonneg (by omega), ← V.out, h1, Int.add_mul_ediv_left _ _ (by omega), Int.ediv_eq_zero_of_lt h2.1 h2.2, Int.zero_add]
  clear T1 B1 ha tz hL hkk hsk hr hT hvpos hLt hb AT
  go_enter Tryz.func119, Tryz.ntmps119
  go_wp2_with fail
  refine HT.out.mono ?_
  rintro e w' ⟨rfl, rfl⟩
  go_wp2_with fail
  refine HB.out.mono ?_
  rintro e w' ⟨rfl, rfl⟩
  go_wp2_with fail
  refine (widened_any _ (N - sk) _ 0 0 ((Nm.trim zs).drop sk) _ rfl YL.out (by omega) LD.out).mono ?_
  rintro e w1 ⟨rfl, ho, hb2, hz2⟩
  rw [List.replicate_zero, List.append_nil] at ho
  have I0 : DownInv w'.heap.size (N - sk) w' ((Nm.trim zs).drop sk) r (N - sk) 0 ((Nm.trim zs).drop sk) w1 := by
    have e : ((Nm.trim zs).drop sk).drop (N - sk) = [] := List.drop_eq_nil_of_le (by rw [YL.out]; omega)
    exact ⟨ho, YL.out, YY.out, fun _ _ => rfl, by rw [e]; simp [Nm.val], by rw [e]; simp [Nm.val], hb2⟩
  have HI0 := hid I0
  clear ho hb2 hz2 I0
  go_wp2_with fail
  go_loopw [11, 12] (fun a i wr => ∃ (j : Nat) (sp : Int) (os : List Int), j ≤ N - sk ∧ i = .int .i64 ((j : Int) - 1) ∧ a = .int .u64 sp ∧ DownInv w'.heap.size (N - sk) w' ((Nm.trim zs).drop sk) r j sp os wr) (fun _ i _ => (intOf i + 1).toNat)
  case atStart => exact ⟨N - sk, 0, _, Nat.le_refl _, by go_num, rfl, HI0.out⟩
  case round =>
    clear HI0
    obtain ⟨j, sp, os, hj, rfl, rfl, I⟩ := hrel
    by_cases hj0 : j = 0
    · subst hj0
      obtain ⟨i1, i2, i3, i4, i5, i6, i7⟩ := I
      rw [List.drop_zero, List.drop_zero] at i5
      have O1 := hid i1
      have O3 := hid i3
      have O5 : Hid (Nm.val os = Nm.val zs / 2 ^ k) := by rw [Hid, QE.out]; exact i5
      have O7 := hid i7
      have TR := hid (trimmed_any (some ⟨w'.heap.size, 0, none⟩) (N - sk) (N - sk) os wr i2 (Nat.le_refl _) (by omega) i1.lies)
      have TL := hid (trail_any _ N N (Nm.trim zs) wr (HAT.out.below i7 (Nat.le_refl _)) (HTAB.out.below i7))
      clear i1 i2 i3 i4 i5 i6 i7
      go_wp2_with fail
      refine TR.out.mono ?_
      rintro e w3 ⟨rfl, rfl⟩
      go_wp2_with fail
      refine TL.out.mono ?_
      rintro e w3 ⟨t, rfl, htr, rfl⟩
      rw [V.out] at htr
      have LO := hid (Sh.lost_iff (n := k) htr HV.out)
      clear htr
      go_wp2_with fail
      go_ret3
      refine ⟨some ⟨w'.heap.size, 0, none⟩, Nm.trim os, ret_shr (Nm.trim_length os).symm (by rw [KK.out]; exact LO.out), ⟨O1.out.lies.trim, O3.out.trim, ?_, ?_, ?_⟩, O7.out⟩
      · rw [Nm.trim_trim, Nm.trim_length]
      · rw [Nm.val_trim, O5.out]
      · intro a h
        cases h
        exact Nat.le_refl _
    · obtain ⟨t, rfl⟩ : ∃ t, j = t + 1 := ⟨j - 1, by omega⟩
      have hxo := I.2.2.2.1 t (by omega)
      obtain ⟨x, hxc, X⟩ : ∃ x, wr.cell? ⟨w'.heap.size, t, none⟩ = some (.int .u64 x) ∧ Hid (x = ((Nm.trim zs).drop sk).getD t 0) := ⟨_, I.1.cell t (by have := I.2.1; omega), hxo⟩
      have hfr := I.1.free t
      have hx0 := YY.out.at t
      rw [← X.out] at hx0
      obtain ⟨hx0, hx1⟩ := hx0
      obtain ⟨q, s, sp', u1, u2, u3, us, usp, E1, E2⟩ := Sh.down x (Nm.val (((Nm.trim zs).drop sk).drop (t + 1))) sp r hr63 hx0 hx1 I.2.2.2.2.2.1
      have I2 := I.step YL.out (by omega) X.out us E1.out E2.out
      have htN : (t : Int) < ((N - sk : Nat) : Int) := by omega
      clear I hxo E1 E2 us usp
      go_wp2
      go_roundw
      case rel => exact ⟨t, sp', _, by omega, by go_num, rfl, I2⟩
      case measure => simp [intOf]
end Go.Proofs.YtmakkfekomnpbaaGreatDoor

namespace Go.Proofs.YtmakkfekomnpbaaGreatDoor
open Go.RowKit Go.Deep

theorem blen_trim_eq (zs : List Int) : blen (Nm.trim zs) = blen zs := by
  unfold blen
  rw [Nm.trim_trim]
  by_cases h : Nm.tsize zs = 0
  · rw [if_pos h, if_pos h]
  · rw [if_neg h, if_neg h]
    have e : (Nm.trim zs).getD (Nm.tsize zs - 1) 0 = zs.getD (Nm.tsize zs - 1) 0 := by rw [Nm.trim, Nm.getD_take, if_pos (by omega)]
    rw [e]

theorem pw_4096 : Nm.pw 4096 = 2 ^ 262144 := Nm.pw_two 4096

theorem two_lt {a b : Nat} (h : (2 : Int) ^ a < 2 ^ b) : a < b := by
  rcases Nat.lt_or_ge a b with h1 | h1
  · exact h1
  · have := Nm.two_mono h1
    omega

/-- So many digits as the number times 2^k. -/
theorem BLen.up {v : Int} {L : Nat} (k : Nat) (h : Nm.BLen v L) (hv : 0 < v) : Nm.BLen (v * 2 ^ k) (L + k) := by
  have hp := Nm.two_pos k
  have h1 := h.2.2 hv
  refine ⟨?_, fun h0 => ?_, fun _ => ⟨by omega, ?_⟩⟩
  · rw [Nm.two_add]
    exact Int.mul_lt_mul_of_pos_right h.1 hp
  · rcases Int.mul_eq_zero.1 h0 with h2 | h2 <;> omega
  · rw [show L + k - 1 = L - 1 + k by omega, Nm.two_add]
    exact Int.mul_le_mul_of_nonneg_right h1.2 (by omega)

theorem Trl.up {v : Int} {t : Nat} (k : Nat) (h : Nm.Trl v t) (hv : 0 < v) : Nm.Trl (v * 2 ^ k) (t + k) := by
  rcases h with ⟨h, _⟩ | ⟨m, hm⟩
  · omega
  · right
    exact ⟨m, by rw [hm, Nm.two_add, Int.mul_right_comm]⟩

theorem tsize_pos {zs : List Int} (hz : Nm.Limbs zs) (hv : 0 < Nm.val zs) : 0 < Nm.tsize zs := by
  rcases Nat.eq_zero_or_pos (Nm.tsize zs) with h | h
  · have := (Nm.tsize_zero_iff hz).1 h
    omega
  · exact h

theorem shl_any (p : Option Addr) (n cap : Nat) (zs : List Int) (kk : Int) (k : Nat) (w : World) (ha : Arg w p n cap zs) (tz : Nm.tsize zs ≤ 4096) (hkk : kk = (k : Int)) (hb : Nm.val zs * 2 ^ k < Nm.pw 4096) :
    Calls Tryz.prog 77 #[.slice p n cap, .int .i64 kk] w fun e w' => ∃ r os, e = .returned (.tuple #[.slice r (List.length os) (List.length os), .int .i64 0]) ∧ Ans w.heap.size w' r os (Nm.val zs * 2 ^ k) ∧ Below w.heap.size w w' := by
  have hv0 := (Nm.val_bd zs ha.2.2.2.2).1
  by_cases hz : Nm.tsize zs = 0
  · have hv := (Nm.tsize_zero_iff ha.2.2.2.2).1 hz
    refine (shl_zero p n cap zs kk w ha (by omega) hz).mono ?_
    rintro e w' ⟨rfl, rfl⟩
    exact ⟨none, [], rfl, ⟨Lies.nil _ _, Nm.Limbs.nil, rfl, by rw [hv, Int.zero_mul]; rfl, fun a h => by cases h⟩, Below.refl _ _⟩
  · obtain ⟨L, hL, BL, _, _⟩ := blen_is zs ha.2.2.2.2
    rw [← blen_trim_eq] at hL
    have hv : 0 < Nm.val zs := by
      rcases (show Nm.val zs = 0 ∨ 0 < Nm.val zs by omega) with h | h
      · exact absurd ((Nm.tsize_zero_iff ha.2.2.2.2).2 h) hz
      · exact h
    have hu := (BLen.up k BL hv).2.2 (Int.mul_pos hv (Nm.two_pos k))
    rw [pw_4096] at hb
    have hlt := two_lt (show (2 : Int) ^ (L + k - 1) < 2 ^ 262144 by omega)
    exact shl_ok p n cap zs kk k L w ha tz hkk (by omega) hL (by omega)

theorem shl_over (p : Option Addr) (n cap : Nat) (zs : List Int) (kk : Int) (k : Nat) (w : World) (ha : Arg w p n cap zs) (tz : Nm.tsize zs ≤ 4096) (hkk : kk = (k : Int)) (hk1 : kk ≤ 9223372036854775807) (hb : Nm.pw 4096 ≤ Nm.val zs * 2 ^ k) :
    Calls Tryz.prog 77 #[.slice p n cap, .int .i64 kk] w fun e w' => e = .returned (.tuple #[.slice none 0 0, .int .i64 2]) ∧ w' = w := by
  have hv0 := (Nm.val_bd zs ha.2.2.2.2).1
  have hp := Nm.pw_pos 4096
  have hv : 0 < Nm.val zs := by
    rcases (show Nm.val zs = 0 ∨ 0 < Nm.val zs by omega) with h | h
    · rw [h, Int.zero_mul] at hb; omega
    · exact h
  obtain ⟨L, hL, BL, _, _⟩ := blen_is zs ha.2.2.2.2
  rw [← blen_trim_eq] at hL
  have hu := (BLen.up k BL hv).1
  rw [pw_4096] at hb
  have hlt := two_lt (show (2 : Int) ^ 262144 < 2 ^ (L + k) by omega)
  exact shl_big p n cap zs kk L w ha tz (by omega) hk1 (tsize_pos ha.2.2.2.2 hv) hL (by omega)

theorem shr_any (p : Option Addr) (n cap : Nat) (zs : List Int) (kk : Int) (k : Nat) (w : World) (ha : Arg w p n cap zs) (hT : Tab w) (tz : Nm.tsize zs ≤ 4096) (hkk : kk = (k : Int)) :
    Calls Tryz.prog 119 #[.slice p n cap, .int .i64 kk] w fun e w' => ∃ r os, e = .returned (.tuple #[.slice r (List.length os) (List.length os), .bool (decide (Nm.val zs % 2 ^ k ≠ 0)), .int .i64 0]) ∧ Ans w.heap.size w' r os (Nm.val zs / 2 ^ k) ∧ Below w.heap.size w w' := by
  obtain ⟨L, hL, BL, hl, _⟩ := blen_is zs ha.2.2.2.2
  have hv0 := (Nm.val_bd zs ha.2.2.2.2).1
  rw [← blen_trim_eq] at hL
  by_cases hb : k < L
  · exact shr_ok p n cap zs kk k L w ha hT tz hkk hL hl hb
  · have hlt : Nm.val zs < 2 ^ k := by
      have := BL.1
      have := Nm.two_mono (show L ≤ k by omega)
      omega
    refine (shr_all p n cap zs kk L w ha tz (by omega) hL (by omega)).mono ?_
    rintro e w' ⟨rfl, rfl⟩
    refine ⟨none, [], ?_, ⟨Lies.nil _ _, Nm.Limbs.nil, rfl, by rw [Int.ediv_eq_zero_of_lt hv0 hlt]; rfl, fun a h => by cases h⟩, Below.refl _ _⟩
    have e : decide (0 < Nm.tsize zs) = decide (Nm.val zs % 2 ^ k ≠ 0) := by
      rw [Int.emod_eq_of_lt hv0 hlt, Bool.eq_iff_iff]
      simp only [decide_eq_true_eq]
      have := Nm.tsize_zero_iff ha.2.2.2.2
      omega
    rw [e]
    rfl
end Go.Proofs.YtmakkfekomnpbaaGreatDoor

namespace Go.Proofs.YtmakkfekomnpbaaGreatDoor
open Go.RowKit Go.Deep

/-- What ToUint answers: the limb, and whether it is one. -/
def toU (zs : List Int) : Int := if Nm.tsize zs = 1 then zs.getD 0 0 else 0

theorem ret_to {a b : Int} {c d : Bool} (h : a = b) (k : c = d) : Ending.returned (.tuple #[.int .u64 a, .bool c]) = .returned (.tuple #[.int .u64 b, .bool d]) := by rw [h, k]

theorem toUint_any (p : Option Addr) (n cap : Nat) (zs : List Int) (w : World) (ha : Arg w p n cap zs) :
    Calls Tryz.prog 100 #[.slice p n cap] w fun e w' => e = .returned (.tuple #[.int .u64 (toU zs), .bool (decide (Nm.tsize zs ≤ 1))]) ∧ w' = w := by
  obtain ⟨a1, a2, a3, a4, a5⟩ := ha
  have tl := Nm.tsize_le zs
  have S1 := trimmed_any p n cap zs w a1 a2 (by omega) a4
  rcases (show Nm.tsize zs = 0 ∨ Nm.tsize zs = 1 ∨ 1 < Nm.tsize zs by omega) with h | h | h
  · have E : Hid (0 = toU zs ∧ true = decide (Nm.tsize zs ≤ 1)) := by simp [Hid, toU, h]
    rw [h] at S1
    have HS := hid S1
    clear S1 h
    go_enter Tryz.func100, Tryz.ntmps100
    go_wp2_with fail
    refine HS.out.mono ?_
    rintro e w' ⟨rfl, rfl⟩
    go_wp2
    go_ret2
    exact ⟨ret_to E.out.1 E.out.2, rfl⟩
  · have E : Hid (zs.getD 0 0 = toU zs ∧ true = decide (Nm.tsize zs ≤ 1)) := by simp [Hid, toU, h]
    obtain ⟨b, off, rfl, hbw, HC⟩ := a4.at (by omega)
    have hc := HC.out 0 (by omega)
    rw [Nat.add_zero] at hc
    rw [h] at S1
    have HS := hid S1
    clear S1 h
    go_enter Tryz.func100, Tryz.ntmps100
    go_wp2_with fail
    refine HS.out.mono ?_
    rintro e w' ⟨rfl, rfl⟩
    go_wp2
    go_ret2
    exact ⟨ret_to E.out.1 E.out.2, rfl⟩
  · have E : Hid (0 = toU zs ∧ false = decide (Nm.tsize zs ≤ 1)) := by
      refine ⟨?_, ?_⟩
      · rw [toU, if_neg (by omega)]
      · simp; omega
    have h1 : ((Nm.tsize zs : Int) == 0) = false := by rw [beq_eq_false_iff_ne]; omega
    have h2 : ((Nm.tsize zs : Int) == 1) = false := by rw [beq_eq_false_iff_ne]; omega
    have HS := hid S1
    clear S1 h
    go_enter Tryz.func100, Tryz.ntmps100
    go_wp2_with fail
    refine HS.out.mono ?_
    rintro e w' ⟨rfl, rfl⟩
    go_wp2
    go_ret2
    exact ⟨ret_to E.out.1 E.out.2, rfl⟩

theorem toU_val {zs : List Int} (hl : Nm.Limbs zs) (hv : Nm.val zs < 18446744073709551616) : toU zs = Nm.val zs := by
  have h1 : Nm.tsize zs ≤ 1 := (Nm.tsize_le_iff hl 1).2 (by simpa [Nm.pw] using hv)
  by_cases h : Nm.tsize zs = 1
  · rw [toU, if_pos h, ← Nm.val_trim zs, Nm.trim, h]
    cases zs with
    | nil => simp [Nm.val]
    | cons z zs => simp [Nm.val]
  · have h0 : Nm.tsize zs = 0 := by omega
    rw [toU, if_neg h, ← Nm.val_trim zs, Nm.trim, h0]
    simp [Nm.val]
end Go.Proofs.YtmakkfekomnpbaaGreatDoor

/-
  ieee: scaled, roundsUp.
-/
namespace Go.Proofs.YtmakkfekomnpbaaGreatDoor
open Go Go.RowKit Go.Deep

theorem toU_is (p : Option Addr) (n cap : Nat) (zs : List Int) (w : World) (ha : Arg w p n cap zs) (V : Int) (hV : Nm.val zs = V) (h : V < 18446744073709551616) :
    Calls Tryz.prog 100 #[.slice p n cap] w fun e w' => e = .returned (.tuple #[.int .u64 V, .bool true]) ∧ w' = w := by
  have h1 := toUint_any p n cap zs w ha
  rw [toU_val ha.2.2.2.2 (by rw [hV]; exact h), hV] at h1
  have h2 : Nm.tsize zs ≤ 1 := (Nm.tsize_le_iff ha.2.2.2.2 1).2 (by rw [hV]; exact h)
  simpa [h2] using h1

set_option maxRecDepth 100000 in
set_option maxHeartbeats 1000000 in
theorem scaled_up (p : Option Addr) (n cap : Nat) (zs : List Int) (w : World) (ha : Arg w p n cap zs) (V s : Int) (j : Nat) (hV : Nm.val zs = V) (hs : s = (j : Int)) (hj : 0 < j) (hj2 : j ≤ 64) (h : V * 2 ^ j < 18446744073709551616) :
    Calls Tryz.prog 95 #[.slice p n cap, .int .i64 s] w fun e w' => e = .returned (.int .u64 (V * 2 ^ j)) ∧ w' = w := by
  subst hs
  have v0 : 0 ≤ V := by rw [← hV]; exact (Nm.val_bd zs ha.2.2.2.2).1
  have hp := Nm.two_pos j
  have v1 : V < 18446744073709551616 := by
    have : V * 1 ≤ V * 2 ^ j := Int.mul_le_mul_of_nonneg_left (by omega) v0
    omega
  have T := hid (toU_is p n cap zs w ha V hV v1)
  have m0 : 0 ≤ V * 2 ^ j := Int.mul_nonneg v0 (by omega)
  have W : IntKind.u64.wrap (V * 2 ^ j) = V * 2 ^ j := by rw [IntKind.wrap_u64]; omega
  have hj' : (0 : Int) < (j : Int) := by omega
  have hj3 : (j : Int) ≤ 64 := by omega
  clear ha hV hp v1 h m0 hj
  go_enter Tryz.func95, Tryz.ntmps95
  go_wp2_with fail
  refine T.out.mono ?_
  rintro e w' ⟨rfl, rfl⟩
  go_wp2_with fail
  go_ret
  exact ⟨rfl, rfl⟩

set_option maxRecDepth 100000 in
set_option maxHeartbeats 1000000 in
theorem scaled_down (p : Option Addr) (n cap : Nat) (zs : List Int) (w : World) (ha : Arg w p n cap zs) (hT : Tab w) (tz : Nm.tsize zs ≤ 4096) (V s : Int) (k : Nat) (hV : Nm.val zs = V) (hs : s = -(k : Int)) (hk : k ≤ 8000000) (h : V / 2 ^ k < 18446744073709551616) :
    Calls Tryz.prog 95 #[.slice p n cap, .int .i64 s] w fun e w' => e = .returned (.int .u64 (V / 2 ^ k)) ∧ Below w.heap.size w w' := by
  subst hs
  have H := hid (fun (kk : Int) (hkk : kk = (k : Int)) => shr_any p n cap zs kk k w ha hT tz hkk)
  have hk0 : ¬ (0 : Int) < -(k : Int) := by omega
  have hk1 : (k : Int) ≤ 8000000 := by omega
  have HV := hid hV
  have HH := hid h
  clear ha hT tz hV h hk
  go_enter Tryz.func95, Tryz.ntmps95
  go_wp2_with fail
  refine (H.out _ (by omega)).mono ?_
  rintro e w' ⟨r, os, rfl, A, hB⟩
  rw [HV.out] at A
  have A1 : os.length ≤ 17592186044416 := by
    have := (Nm.tsize_le_iff A.2.1 1).2 (by rw [A.2.2.2.1]; exact HH.out)
    rw [A.2.2.1] at this
    omega
  have T := hid (toU_is r _ _ os w' (A.arg A1) _ A.2.2.2.1 HH.out)
  have HB := hid hB
  clear A A1 hB H
  go_wp2_with fail
  refine T.out.mono ?_
  rintro e w'' ⟨rfl, rfl⟩
  go_wp2_with fail
  go_ret
  exact ⟨rfl, HB.out⟩

theorem up_none (p : Option Addr) (n cap : Nat) (w : World) (s : Int) (half : Bool) (hs : s ≤ 0) (hs2 : -8000000 ≤ s) :
    Calls Tryz.prog 96 #[.slice p n cap, .int .i64 s, .bool half] w fun e w' => e = .returned (.bool false) ∧ w' = w := by
  have H := hid (fun (i : Int) (hi : i < 0) => bit_neg p n cap i w hi)
  go_enter Tryz.func96, Tryz.ntmps96
  go_wp2_with fail
  refine (H.out _ (by omega)).mono ?_
  rintro e w' ⟨rfl, rfl⟩
  go_wp2_with fail
  go_ret
  exact ⟨rfl, rfl⟩

set_option maxRecDepth 100000 in
set_option maxHeartbeats 1000000 in
theorem up_some (p : Option Addr) (n cap : Nat) (zs : List Int) (w : World) (ha : Arg w p n cap zs) (hT : Tab w) (V s : Int) (k : Nat) (half : Bool) (hV : Nm.val zs = V) (hv : 0 < V) (hs : s = (k : Int) + 1) (hk : k ≤ 8000000) :
    Calls Tryz.prog 96 #[.slice p n cap, .int .i64 s, .bool half] w fun e w' => ∃ up, e = .returned (.bool up) ∧ (up = true ↔ (V / 2 ^ k % 2 = 1 ∧ (half = true ∨ V % 2 ^ k ≠ 0))) ∧ w' = w := by
  subst hs
  obtain ⟨b, hb⟩ : ∃ b, V / 2 ^ k % 2 = b := ⟨_, rfl⟩
  have H : Hid (∀ i : Int, i = (k : Int) → Calls Tryz.prog 78 #[.slice p n cap, .int .i64 i] w fun e w' => e = .returned (.int .i64 b) ∧ w' = w) := by
    intro i hi
    have := bit_any p n cap zs k i w ha (by omega) hi
    rw [hV, hb] at this
    exact this
  have T := hid (trail_any p n cap zs w ha hT)
  have HV := hid hV
  have hb2 : b = 0 ∨ b = 1 := by omega
  have HB := hid hb
  have hvv := hid hv
  have hk1 : (k : Int) ≤ 8000000 := by omega
  clear ha hT hV hb hv hk
  rcases hb2 with rfl | rfl
  · go_enter Tryz.func96, Tryz.ntmps96
    go_wp2_with fail
    refine (H.out _ (by omega)).mono ?_
    rintro e w' ⟨rfl, rfl⟩
    go_wp2_with fail
    go_ret
    exact ⟨false, rfl, ⟨fun h => (by cases h), fun h => (by have := HB.out; omega)⟩, rfl⟩
  · cases half
    · go_enter Tryz.func96, Tryz.ntmps96
      go_wp2_with fail
      refine (H.out _ (by omega)).mono ?_
      rintro e w' ⟨rfl, rfl⟩
      go_wp2_with fail
      refine T.out.mono ?_
      rintro e w' ⟨t, rfl, ht, rfl⟩
      rw [HV.out] at ht
      have E := hid (Sh.lost_iff (n := k) ht hvv.out)
      clear ht
      go_wp2_with fail
      go_ret
      refine ⟨_, rfl, ?_, rfl⟩
      have E1 : (t : Int) < (k : Int) ↔ V % 2 ^ k ≠ 0 := by simpa only [decide_eq_decide] using E.out
      rw [decide_eq_true_iff]
      constructor
      · intro h
        exact ⟨HB.out, .inr (E1.1 (by omega))⟩
      · rintro ⟨_, h | h⟩
        · cases h
        · have := E1.2 h
          omega
    · go_enter Tryz.func96, Tryz.ntmps96
      go_wp2_with fail
      refine (H.out _ (by omega)).mono ?_
      rintro e w' ⟨rfl, rfl⟩
      go_wp2_with fail
      go_ret
      refine ⟨true, rfl, ?_, rfl⟩
      have := HB.out
      simp [this]
end Go.Proofs.YtmakkfekomnpbaaGreatDoor

/-
  ieee: nearest (made by mknear.py).
-/
namespace Go.Proofs.YtmakkfekomnpbaaGreatDoor
open Go Go.RowKit Go.Deep

set_option maxRecDepth 100000 in
set_option maxHeartbeats 2000000 in
theorem nearest_up (p : Option Addr) (n cap : Nat) (zs : List Int) (w : World) (ha : Arg w p n cap zs) (hT : Tab w) (tz : Nm.tsize zs ≤ 4096) (V e u : Int) (L j U : Nat) (more : Bool) (hV : Nm.val zs = V) (hL : blen zs = (L : Int)) (hL0 : 0 < L) (hL2 : L ≤ 262144) (hbig : (L : Int) + e ≤ 1024) (hsm : -8000000 ≤ e)
    (hj : e - u = (j : Int)) (hj2 : j ≤ 64) (hU : u + 1074 = (U : Int)) (hU2 : U ≤ 2045) (hm : V * 2 ^ j < 9007199254740992) (hmax : ((L : Int) + e - 53 < -1074 ∧ u = -1074) ∨ (-1074 ≤ (L : Int) + e - 53 ∧ u = (L : Int) + e - 53)) :
    Calls Tryz.prog 61 #[.slice p n cap, .int .i64 e, .bool more] w fun r w' => r = .returned (.int .u64 ((U : Int) * 4503599627370496 + V * 2 ^ j)) ∧ Below w.heap.size w w' := by
  have v0 : 0 ≤ V := by rw [← hV]; exact (Nm.val_bd zs ha.2.2.2.2).1
  have BL : Hid (Calls Tryz.prog 59 #[.slice p n cap] w fun e w' => e = .returned (.int .i64 (L : Int)) ∧ w' = w) := by
    have := bitLen_any p n cap zs w ha
    rw [hL] at this
    exact this
  obtain ⟨m, hme⟩ : ∃ m, V * 2 ^ j = m := ⟨_, rfl⟩
  have SC : Hid (∀ s : Int, s = (j : Int) → Calls Tryz.prog 95 #[.slice p n cap, .int .i64 s] w fun e w' => e = .returned (.int .u64 m) ∧ Below w.heap.size w w') := by
    intro s hs
    rcases Nat.eq_zero_or_pos j with hj0 | hj0
    · subst hj0
      have e1 : V / 2 ^ 0 = m := by rw [← hme, Int.pow_zero, Int.mul_one, Int.ediv_one]
      have := scaled_down p n cap zs w ha hT tz V s 0 hV (by omega) (by omega) (by rw [e1]; omega)
      rw [e1] at this
      exact this
    · have := scaled_up p n cap zs w ha V s j hV hs hj0 hj2 (by omega)
      rw [hme] at this
      refine this.mono ?_
      rintro e' w' ⟨rfl, rfl⟩
      exact ⟨rfl, Below.refl _ _⟩
  have RU := hid (fun (wx : World) (s : Int) (half : Bool) (h : s ≤ 0) (h2 : -8000000 ≤ s) => up_none p n cap wx s half h h2)
  have m0 : 0 ≤ m := by rw [← hme]; exact Int.mul_nonneg v0 (by have := Nm.two_pos j; omega)
  rw [hme] at hm ⊢
  have B := Ib.one_and m m0 (by omega)
  have l0 : ((L : Int) == 0) = false := by rw [beq_eq_false_iff_ne]; omega
  have l1 : ¬ 1024 < (L : Int) + e := by omega
  have l2 : (L : Int) ≤ 262144 := by omega
  clear ha hV hL hme hL2 v0 hT tz
  rcases hmax with ⟨h, rfl⟩ | ⟨h, rfl⟩ <;> cases more
  · go_enter Tryz.func61, Tryz.ntmps61
    go_wp2_with fail
    refine BL.out.mono ?_
    rintro e' w' ⟨rfl, rfl⟩
    go_wp2_with fail
    refine (SC.out _ (by omega)).mono ?_
    rintro e' w' ⟨rfl, HB⟩
    have HB := hid HB
    go_wp2_with fail
    refine (RU.out _ _ _ (by omega) (by omega)).mono ?_
    rintro e' w' ⟨rfl, rfl⟩
    go_wp2_with fail
    go_ret
    exact ⟨i_retU (by omega), HB.out⟩
  · go_enter Tryz.func61, Tryz.ntmps61
    go_wp2_with fail
    refine BL.out.mono ?_
    rintro e' w' ⟨rfl, rfl⟩
    go_wp2_with fail
    refine (SC.out _ (by omega)).mono ?_
    rintro e' w' ⟨rfl, HB⟩
    have HB := hid HB
    go_wp2_with fail
    refine (RU.out _ _ _ (by omega) (by omega)).mono ?_
    rintro e' w' ⟨rfl, rfl⟩
    go_wp2_with fail
    go_ret
    exact ⟨i_retU (by omega), HB.out⟩
  · go_enter Tryz.func61, Tryz.ntmps61
    go_wp2_with fail
    refine BL.out.mono ?_
    rintro e' w' ⟨rfl, rfl⟩
    go_wp2_with fail
    refine (SC.out _ (by omega)).mono ?_
    rintro e' w' ⟨rfl, HB⟩
    have HB := hid HB
    go_wp2_with fail
    refine (RU.out _ _ _ (by omega) (by omega)).mono ?_
    rintro e' w' ⟨rfl, rfl⟩
    go_wp2_with fail
    go_ret
    exact ⟨i_retU (by omega), HB.out⟩
  · go_enter Tryz.func61, Tryz.ntmps61
    go_wp2_with fail
    refine BL.out.mono ?_
    rintro e' w' ⟨rfl, rfl⟩
    go_wp2_with fail
    refine (SC.out _ (by omega)).mono ?_
    rintro e' w' ⟨rfl, HB⟩
    have HB := hid HB
    go_wp2_with fail
    refine (RU.out _ _ _ (by omega) (by omega)).mono ?_
    rintro e' w' ⟨rfl, rfl⟩
    go_wp2_with fail
    go_ret
    exact ⟨i_retU (by omega), HB.out⟩

set_option maxRecDepth 100000 in
set_option maxHeartbeats 2000000 in
theorem nearest_down (p : Option Addr) (n cap : Nat) (zs : List Int) (w : World) (ha : Arg w p n cap zs) (hT : Tab w) (tz : Nm.tsize zs ≤ 4096) (V e u : Int) (L k U : Nat) (more : Bool) (hV : Nm.val zs = V) (hv : 0 < V) (hL : blen zs = (L : Int)) (hL0 : 0 < L) (hL2 : L ≤ 262144) (hbig : (L : Int) + e ≤ 1024) (hsm : -7000000 ≤ e)
    (hk : u - e = (k : Int) + 1) (hU : u + 1074 = (U : Int)) (hU2 : U ≤ 2045) (hm : V / 2 ^ (k + 1) < 9007199254740992) (hmax : ((L : Int) + e - 53 < -1074 ∧ u = -1074) ∨ (-1074 ≤ (L : Int) + e - 53 ∧ u = (L : Int) + e - 53)) :
    Calls Tryz.prog 61 #[.slice p n cap, .int .i64 e, .bool more] w fun r w' => ∃ up : Bool, r = .returned (.int .u64 ((U : Int) * 4503599627370496 + V / 2 ^ (k + 1) + if up = true then 1 else 0)) ∧
      (up = true ↔ (V / 2 ^ k % 2 = 1 ∧ ((more = true ∨ V / 2 ^ (k + 1) % 2 = 1) ∨ V % 2 ^ k ≠ 0))) ∧ Below w.heap.size w w' := by
  have BL : Hid (Calls Tryz.prog 59 #[.slice p n cap] w fun e w' => e = .returned (.int .i64 (L : Int)) ∧ w' = w) := by
    have := bitLen_any p n cap zs w ha
    rw [hL] at this
    exact this
  obtain ⟨m, hme⟩ : ∃ m, V / 2 ^ (k + 1) = m := ⟨_, rfl⟩
  have SC : Hid (∀ s : Int, s = -((k + 1 : Nat) : Int) → Calls Tryz.prog 95 #[.slice p n cap, .int .i64 s] w fun e w' => e = .returned (.int .u64 m) ∧ Below w.heap.size w w') := by
    intro s hs
    have := scaled_down p n cap zs w ha hT tz V s (k + 1) hV hs (by omega) (by omega)
    rw [hme] at this
    exact this
  have RS : Hid (∀ w' : World, Below w.heap.size w w' → ∀ (s : Int) (half : Bool), s = (k : Int) + 1 → Calls Tryz.prog 96 #[.slice p n cap, .int .i64 s, .bool half] w' fun e w'' => ∃ up, e = .returned (.bool up) ∧ (up = true ↔ (V / 2 ^ k % 2 = 1 ∧ (half = true ∨ V % 2 ^ k ≠ 0))) ∧ w'' = w') := by
    intro w' hB s half hs
    exact up_some p n cap zs w' (ha.below hB (Nat.le_refl _)) (hT.below hB) V s k half hV hv hs (by omega)
  have m0 : 0 ≤ m := by rw [← hme]; exact Int.ediv_nonneg (by omega) (by have := Nm.two_pos (k + 1); omega)
  rw [hme] at hm ⊢
  have B := Ib.one_and m m0 (by omega)
  have l0 : ((L : Int) == 0) = false := by rw [beq_eq_false_iff_ne]; omega
  have l1 : ¬ 1024 < (L : Int) + e := by omega
  have l2 : (L : Int) ≤ 262144 := by omega
  clear ha hV hL hme hL2 hT tz hv
  rcases hmax with ⟨h, rfl⟩ | ⟨h, rfl⟩ <;> cases more
  · go_enter Tryz.func61, Tryz.ntmps61
    go_wp2_with fail
    refine BL.out.mono ?_
    rintro e' w' ⟨rfl, rfl⟩
    go_wp2_with fail
    refine (SC.out _ (by omega)).mono ?_
    rintro e' w' ⟨rfl, HB⟩
    have RU := hid (RS.out w' HB)
    have HB := hid HB
    go_wp2_with fail
    refine (RU.out _ _ (by omega)).mono ?_
    rintro e' w'' ⟨up, rfl, hup, rfl⟩
    have UP := hid hup
    clear hup
    cases up
    · go_wp2_with fail
      go_ret
      exact ⟨false, i_retU (by simp; omega), by simpa using UP.out, HB.out⟩
    · go_wp2_with fail
      go_ret
      exact ⟨true, i_retU (by simp; omega), by simpa using UP.out, HB.out⟩
  · go_enter Tryz.func61, Tryz.ntmps61
    go_wp2_with fail
    refine BL.out.mono ?_
    rintro e' w' ⟨rfl, rfl⟩
    go_wp2_with fail
    refine (SC.out _ (by omega)).mono ?_
    rintro e' w' ⟨rfl, HB⟩
    have RU := hid (RS.out w' HB)
    have HB := hid HB
    go_wp2_with fail
    refine (RU.out _ _ (by omega)).mono ?_
    rintro e' w'' ⟨up, rfl, hup, rfl⟩
    have UP := hid hup
    clear hup
    cases up
    · go_wp2_with fail
      go_ret
      exact ⟨false, i_retU (by simp; omega), by simpa using UP.out, HB.out⟩
    · go_wp2_with fail
      go_ret
      exact ⟨true, i_retU (by simp; omega), by simpa using UP.out, HB.out⟩
  · go_enter Tryz.func61, Tryz.ntmps61
    go_wp2_with fail
    refine BL.out.mono ?_
    rintro e' w' ⟨rfl, rfl⟩
    go_wp2_with fail
    refine (SC.out _ (by omega)).mono ?_
    rintro e' w' ⟨rfl, HB⟩
    have RU := hid (RS.out w' HB)
    have HB := hid HB
    go_wp2_with fail
    refine (RU.out _ _ (by omega)).mono ?_
    rintro e' w'' ⟨up, rfl, hup, rfl⟩
    have UP := hid hup
    clear hup
    cases up
    · go_wp2_with fail
      go_ret
      exact ⟨false, i_retU (by simp; omega), by simpa using UP.out, HB.out⟩
    · go_wp2_with fail
      go_ret
      exact ⟨true, i_retU (by simp; omega), by simpa using UP.out, HB.out⟩
  · go_enter Tryz.func61, Tryz.ntmps61
    go_wp2_with fail
    refine BL.out.mono ?_
    rintro e' w' ⟨rfl, rfl⟩
    go_wp2_with fail
    refine (SC.out _ (by omega)).mono ?_
    rintro e' w' ⟨rfl, HB⟩
    have RU := hid (RS.out w' HB)
    have HB := hid HB
    go_wp2_with fail
    refine (RU.out _ _ (by omega)).mono ?_
    rintro e' w'' ⟨up, rfl, hup, rfl⟩
    have UP := hid hup
    clear hup
    cases up
    · go_wp2_with fail
      go_ret
      exact ⟨false, i_retU (by simp; omega), by simpa using UP.out, HB.out⟩
    · go_wp2_with fail
      go_ret
      exact ⟨true, i_retU (by simp; omega), by simpa using UP.out, HB.out⟩

set_option maxRecDepth 100000 in
theorem nearest_any (p : Option Addr) (n cap : Nat) (zs : List Int) (w : World) (ha : Arg w p n cap zs) (hT : Tab w) (tz : Nm.tsize zs ≤ 4096) (V e : Int) (more : Bool) (hV : Nm.val zs = V) (h0 : -7000000 ≤ e) (h1 : e ≤ 7000000) :
    Calls Tryz.prog 61 #[.slice p n cap, .int .i64 e, .bool more] w fun r w' => ∃ x, r = .returned (.int .u64 x) ∧ Ie.Rnd V 1 e more x ∧ Below w.heap.size w w' := by
  obtain ⟨L, hL, BL, hl, _⟩ := blen_is zs ha.2.2.2.2
  have v0 : 0 ≤ V := by rw [← hV]; exact (Nm.val_bd zs ha.2.2.2.2).1
  rw [hV] at BL
  have hL2 : L ≤ 262144 := by omega
  have B : Hid (Calls Tryz.prog 59 #[.slice p n cap] w fun e w' => e = .returned (.int .i64 (L : Int)) ∧ w' = w) := by
    have := bitLen_any p n cap zs w ha
    rw [hL] at this
    exact this
  rcases (show V = 0 ∨ 0 < V by omega) with hv | hv
  · have hL0 : L = 0 := BL.2.1 hv
    subst hL0
    have R := hid (Ie.rnd_zero 1 e more (by omega))
    rw [hv]
    clear ha hT tz hV hL BL hl hL2 v0 hv
    go_enter Tryz.func61, Tryz.ntmps61
    go_wp2_with fail
    refine B.out.mono ?_
    rintro e' w' ⟨rfl, rfl⟩
    go_wp2_with fail
    go_ret
    exact ⟨0, rfl, R.out, Below.refl _ _⟩
  · obtain ⟨hL1, hp⟩ := BL.2.2 hv
    rcases (show 1024 < (L : Int) + e ∨ (L : Int) + e ≤ 1024 by omega) with hb | hb
    · have R := hid (Ie.rnd_inf V 1 e (L - 1) 0 more hp (by decide) (by omega))
      have l0 : ((L : Int) == 0) = false := by rw [beq_eq_false_iff_ne]; omega
      have l2 : (L : Int) ≤ 262144 := by omega
      clear ha hT tz hV hL BL hl hL2 v0 hv hp hL1
      go_enter Tryz.func61, Tryz.ntmps61
      go_wp2_with fail
      refine B.out.mono ?_
      rintro e' w' ⟨rfl, rfl⟩
      go_wp2_with fail
      go_ret
      exact ⟨_, rfl, R.out, Below.refl _ _⟩
    · obtain ⟨u, hu⟩ : ∃ u : Int, ((L : Int) + e - 53 < -1074 ∧ u = -1074) ∨ (-1074 ≤ (L : Int) + e - 53 ∧ u = (L : Int) + e - 53) := by
        rcases (show (L : Int) + e - 53 < -1074 ∨ -1074 ≤ (L : Int) + e - 53 by omega) with h | h
        · exact ⟨_, .inl ⟨h, rfl⟩⟩
        · exact ⟨_, .inr ⟨h, rfl⟩⟩
      obtain ⟨U, hU⟩ : ∃ U : Nat, u + 1074 = (U : Int) := ⟨(u + 1074).toNat, by omega⟩
      have e53 : (2 : Int) ^ 53 = 9007199254740992 := by decide
      rcases (show u ≤ e ∨ e < u by omega) with hd | hd
      · obtain ⟨j, hj⟩ : ∃ j : Nat, e - u = (j : Int) := ⟨(e - u).toNat, by omega⟩
        have hj53 : L + j ≤ 53 := by omega
        have hm : V * 2 ^ j < 9007199254740992 := by
          have g1 : V * 2 ^ j < 2 ^ (L + j) := by rw [Nm.two_add]; exact Int.mul_lt_mul_of_pos_right BL.1 (Nm.two_pos j)
          have g2 := Nm.two_mono hj53
          omega
        refine (nearest_up p n cap zs w ha hT tz V e u L j U more hV hL (by omega) hL2 hb (by omega) hj (by omega) hU (by omega) hm hu).mono ?_
        rintro r w' ⟨rfl, hB⟩
        exact ⟨_, rfl, Ie.rnd_exact V e L j U more hv hp hL1 BL.1 hj53 (by omega) (by omega) (by omega), hB⟩
      · obtain ⟨k, hk⟩ : ∃ k : Nat, u - e = (k : Int) + 1 := ⟨(u - e - 1).toNat, by omega⟩
        have hk53 : L ≤ k + 1 + 53 := by omega
        have hm : V / 2 ^ (k + 1) < 9007199254740992 := by
          rw [Int.ediv_lt_iff_lt_mul (Nm.two_pos _)]
          have g := Nm.two_mono hk53
          rw [Nm.two_add, e53] at g
          rw [Int.mul_comm]
          have := BL.1
          omega
        refine (nearest_down p n cap zs w ha hT tz V e u L k U more hV hv hL (by omega) hL2 hb (by omega) hk hU (by omega) hm hu).mono ?_
        rintro r w' ⟨up, rfl, hup, hB⟩
        refine ⟨_, rfl, Ie.rnd_cut V e L (k + 1) U more up hv hp hL1 BL.1 (by omega) (by omega) (by omega) (by omega) ?_, hB⟩
        rw [hup, Nat.add_sub_cancel]
        constructor
        · rintro ⟨g1, (g | g) | g⟩
          · exact ⟨by omega, g1, .inl g⟩
          · exact ⟨by omega, g1, .inr (.inl g)⟩
          · exact ⟨by omega, g1, .inr (.inr g)⟩
        · rintro ⟨_, g1, g | g | g⟩
          · exact ⟨g1, .inl (.inl g)⟩
          · exact ⟨g1, .inl (.inr g)⟩
          · exact ⟨g1, .inr g⟩
end Go.Proofs.YtmakkfekomnpbaaGreatDoor

/-
  ieee: Round.
-/
namespace Go.Proofs.YtmakkfekomnpbaaGreatDoor
open Go Go.RowKit Go.Deep

namespace Ie
theorem win_ok {n d e x : Int} {more : Bool} (L M : Nat) (n0 : 0 ≤ n) (hn : n < 2 ^ L) (d0 : 0 < d) (hd : d ≤ 2 ^ M) (hL : L ≤ 262144) (hM : M ≤ 262144) (h : Rnd n d (win e) more x) : Rnd n d e more x := by
  rcases (show win e = e ∨ (win e = 2097152 ∧ 2097152 < e) ∨ (win e = -2097152 ∧ e < -2097152) by simp only [win]; omega) with g | ⟨g, g'⟩ | ⟨g, g'⟩
  · rw [g] at h; exact h
  · rw [g] at h
    rcases (show n = 0 ∨ 0 < n by omega) with h0 | h0
    · subst h0
      have := h.one d0 d0 (rnd_zero d 2097152 more d0) (a := 0) (a' := 0) (by omega) rfl
      rw [this]
      exact rnd_zero d e more d0
    · have p0 : (2 : Int) ^ 0 ≤ n := by rw [Int.pow_zero]; omega
      have := h.one d0 d0 (rnd_inf n d 2097152 0 M more p0 hd (by omega)) (a := 0) (a' := 0) (by omega) rfl
      rw [this]
      exact rnd_inf n d e 0 M more p0 hd (by omega)
  · rw [g] at h
    have p0 : (2 : Int) ^ 0 ≤ d := by rw [Int.pow_zero]; omega
    have := h.one d0 d0 (rnd_small n d (-2097152) L 0 more hn p0 (by omega)) (a := 0) (a' := 0) (by omega) rfl
    rw [this]
    exact rnd_small n d e L 0 more hn p0 (by omega)

theorem win_bd (e : Int) : -2097152 ≤ win e ∧ win e ≤ 2097152 := by simp only [win]; omega
end Ie
end Go.Proofs.YtmakkfekomnpbaaGreatDoor

/-
  ieee: Round.
-/
namespace Go.Proofs.YtmakkfekomnpbaaGreatDoor
open Go Go.RowKit Go.Deep


set_option maxRecDepth 100000 in
set_option maxHeartbeats 2000000 in
theorem round_any (neg : Bool) (p : Option Addr) (n cap : Nat) (zs : List Int) (w : World) (ha : Arg w p n cap zs) (hT : Tab w) (tz : Nm.tsize zs ≤ 4096) (V e : Int) (more : Bool) (hV : Nm.val zs = V) :
    Calls Tryz.prog 29 #[.bool neg, .slice p n cap, .int .i64 e, .bool more] w fun r w' => ∃ x, r = .returned (.tuple #[.int .u64 (Ie.sg neg x), .int .i64 0]) ∧ Ie.Rnd V 1 e more x ∧ Below w.heap.size w w' := by
  obtain ⟨L, hL, BL, hl, _⟩ := blen_is zs ha.2.2.2.2
  rw [hV] at BL
  have B1 := hid (bitLen_n L p n cap zs w ha hL)
  have v0 : 0 ≤ V := by rw [← hV]; exact (Nm.val_bd zs ha.2.2.2.2).1
  have WI := hid (fun (x : Int) => Ie.win_ok (n := V) (d := 1) (e := e) (x := x) (more := more) L 0 v0 BL.1 (by omega) (by decide) (by omega) (by omega))
  have W0 := hid (within_any e w)
  obtain ⟨we, hwe⟩ : ∃ we, Ie.win e = we := ⟨_, rfl⟩
  have wb := Ie.win_bd e
  rw [hwe] at wb W0 WI
  have NR := hid (nearest_any p n cap zs w ha hT tz V we more hV (by omega) (by omega))
  have l1 : decide (262144 < (L : Int)) = false := by simp; omega
  clear ha hT tz hV hL BL hl v0 hwe wb
  go_enter Tryz.func29, Tryz.ntmps29
  go_wp2_with fail
  refine B1.out.mono ?_
  rintro e' w' ⟨rfl, rfl⟩
  go_wp2_with fail
  refine W0.out.mono ?_
  rintro e' w' ⟨rfl, rfl⟩
  go_wp2_with fail
  refine NR.out.mono ?_
  rintro e' w1 ⟨x, rfl, R, hB⟩
  have bd := R.bd
  have R1 := hid (WI.out x R)
  have SG := hid (signed_any neg x w1 bd.1 (by omega))
  have HB := hid hB
  clear R bd hB
  go_wp2_with fail
  refine SG.out.mono ?_
  rintro e' w2 ⟨rfl, rfl⟩
  go_wp2_with fail
  go_ret2
  exact ⟨x, rfl, R1.out, HB.out⟩
end Go.Proofs.YtmakkfekomnpbaaGreatDoor

/-
  Exact differences, Knuth's sum, the fused rest: in whole numbers of 2^-1074.
-/
namespace Go.Proofs.YtmakkfekomnpbaaGreatDoor
namespace Ie

theorem az_or (z : Int) : (0 ≤ z ∧ az z = z) ∨ (z ≤ 0 ∧ az z = -z) := by
  simp only [az]; split <;> omega

theorem az_zero {z : Int} (h : az z = 0) : z = 0 := by rcases az_or z with ⟨_, g⟩ | ⟨_, g⟩ <;> omega

/-- A multiple of 2^E. -/
def Dv (E : Nat) (z : Int) : Prop := ∃ k, z = k * 2 ^ E

theorem Dv.add {E : Nat} {a b : Int} (h : Dv E a) (k : Dv E b) : Dv E (a + b) := by
  obtain ⟨x, rfl⟩ := h; obtain ⟨y, rfl⟩ := k; exact ⟨x + y, by rw [Int.add_mul]⟩
theorem Dv.neg {E : Nat} {a : Int} (h : Dv E a) : Dv E (-a) := by
  obtain ⟨x, rfl⟩ := h; exact ⟨-x, by rw [Int.neg_mul]⟩
theorem Dv.sub {E : Nat} {a b : Int} (h : Dv E a) (k : Dv E b) : Dv E (a - b) := by
  rw [Int.sub_eq_add_neg]; exact h.add k.neg
theorem Dv.down {E F : Nat} {a : Int} (h : Dv E a) (hF : F ≤ E) : Dv F a := by
  obtain ⟨x, rfl⟩ := h
  exact ⟨x * 2 ^ (E - F), by rw [Int.mul_assoc, ← Nm.two_add, show E - F + F = E by omega]⟩
theorem Dv.of_az {E : Nat} {a : Int} (h : Dv E (az a)) : Dv E a := by
  rcases az_or a with ⟨_, g⟩ | ⟨_, g⟩ <;> rw [g] at h
  · exact h
  · have := h.neg
    rwa [Int.neg_neg] at this
theorem Dv.az {E : Nat} {a : Int} (h : Dv E a) : Dv E (az a) := by
  rcases az_or a with ⟨_, g⟩ | ⟨_, g⟩ <;> rw [g]
  · exact h
  · exact h.neg

theorem un_dv (x : Int) {E : Nat} (h : E ≤ ex x) : Dv E (un x) := (show Dv (ex x) (un x) from ⟨man x, rfl⟩).down h

theorem un_bd (x : Int) (h : 0 ≤ x) : un x < 9007199254740992 * 2 ^ ex x :=
  Int.mul_lt_mul_of_pos_right (man_nn x h).2 (Nm.two_pos _)

theorem ex_mono {x y : Int} (h : x ≤ y) : ex x ≤ ex y := by simp only [ex]; omega

/-- The value of a finite double. -/
def DB (z : Int) : Prop := ∃ y, 0 ≤ y ∧ y < 9218868437227405312 ∧ az z = un y

theorem DB.neg {z : Int} (h : DB z) : DB (-z) := by
  obtain ⟨y, h0, h1, h2⟩ := h
  exact ⟨y, h0, h1, by rw [az_neg, h2]⟩

theorem DB.zero : DB 0 := ⟨0, by omega, by omega, by decide⟩

/-- 53 bits at any place: a double, if it is not too great. -/
theorem db_of {E : Nat} {z : Int} (h : Dv E z) (h1 : az z ≤ 9007199254740992 * 2 ^ E) (h2 : az z < 2 ^ 2098) : DB z := by
  obtain ⟨k, hk⟩ := h.az
  have p := Nm.two_pos E
  have z0 := az_nn z
  rw [hk] at h1 h2 z0
  have k1 : k ≤ 9007199254740992 := Int.le_of_mul_le_mul_right h1 p
  have k0 : 0 ≤ k := by
    rcases (show 0 ≤ k ∨ k < 0 by omega) with h | h
    · exact h
    · have := Int.mul_neg_of_neg_of_pos h p; omega
  rcases Nat.lt_or_ge 2045 E with hE | hE
  · have hp := Nm.two_pos 2045
    have e1 : k * 2 ^ E = k * 2 ^ (E - 2045) * 2 ^ 2045 := by rw [Int.mul_assoc, ← Nm.two_add, show E - 2045 + 2045 = E by omega]
    have e2 : (2 : Int) ^ 2098 = 9007199254740992 * 2 ^ 2045 := by rw [show 2098 = 53 + 2045 by rfl, Nm.two_add]; rfl
    rw [e1, e2] at h2
    have k2 := Int.lt_of_mul_lt_mul_right h2 (by omega)
    obtain ⟨y, y0, y1, hy⟩ := un_rep 2045 (k * 2 ^ (E - 2045)) (Int.mul_nonneg k0 (by have := Nm.two_pos (E - 2045); omega)) k2 (by omega)
    exact ⟨y, y0, y1, by rw [hk, e1, hy]⟩
  · obtain ⟨y, y0, y1, hy⟩ := un_rep' E k k0 k1 hE
    refine ⟨y, y0, ?_, by rw [hk, hy]⟩
    rcases (show y < 9218868437227405312 ∨ y = 9218868437227405312 by omega) with h | h
    · exact h
    · exfalso
      rw [h] at hy
      have e1 : man 9218868437227405312 = 4503599627370496 := by decide
      have e2 : ex 9218868437227405312 = 2046 := by decide
      have e3 : un 9218868437227405312 = 2 ^ 2098 := by
        rw [un, e1, e2, show 2098 = 52 + 2046 by rfl, Nm.two_add]; rfl
      omega

/-- The whole number S is rounded to z. -/
def Fl (S z : Int) : Prop := ∃ (neg : Bool) (V x : Int), S = sn neg V ∧ 0 ≤ V ∧ z = sn neg (un x) ∧ Near (2 * V) 1 false x

theorem Fl.exact {S z : Int} (h : Fl S z) (hS : DB S) : z = S := by
  obtain ⟨n, V, x, e, hV, rfl, hN⟩ := h
  obtain ⟨y, y0, y1, hy⟩ := hS
  have hv : V = un y := by rw [← hy, e, az_sn n V hV]
  have hx : x = y := hN.one (Q := 1) (Q' := 1) (by omega) (by omega) (near_self y 1 false (by omega) y0 y1) (by rw [hv]; simp only [Int.mul_one])
  rw [e, hv, hx]

theorem Fl.near {S z w : Int} (h : Fl S z) (hw : DB w) : az (S - z) ≤ az (S - w) := by
  obtain ⟨n, V, x, rfl, hV, rfl, hN⟩ := h
  obtain ⟨y, y0, y1, hy⟩ := hw
  have g0 := near_all (y := 0) (by omega) hN (by omega) (by omega)
  have g1 := near_all (y := y) (by omega) hN y0 (by omega)
  have u0 := un_nn y0
  rw [un_zero] at g0
  simp only [Int.mul_one, Int.sub_zero] at g0 g1
  have e1 : az (sn n V - sn n (un x)) = az (V - un x) := by
    cases n
    · rfl
    · rw [sn_true, sn_true, show -V - -un x = -(V - un x) by omega, az_neg]
  rw [e1]
  rcases az_or w with ⟨w0, gw⟩ | ⟨w0, gw⟩ <;> rw [hy] at gw <;> cases n <;> simp only [sn_true, sn_false]
  · rw [← gw]; exact g1
  · rw [show -V - w = -(V + un y) by omega, az_neg]
    rcases az_or V with ⟨_, g⟩ | ⟨_, g⟩ <;> rcases az_or (V + un y) with ⟨_, g'⟩ | ⟨_, g'⟩ <;> omega
  · rw [show V - w = V + un y by omega]
    rcases az_or V with ⟨_, g⟩ | ⟨_, g⟩ <;> rcases az_or (V + un y) with ⟨_, g'⟩ | ⟨_, g'⟩ <;> omega
  · rw [show -V - w = -(V - un y) by omega, az_neg]; exact g1

/-- What was a multiple of a power of two stays one; and of the next one, where it is great. -/
theorem Fl.dv {S z : Int} {E : Nat} (h : Fl S z) (hS : Dv E S) (hE : E ≤ 2045) : (az S ≤ 9007199254740992 * 2 ^ E ∧ az S < 2 ^ 2098 ∧ z = S) ∨ Dv (E + 1) z := by
  rcases (show az S ≤ 9007199254740992 * 2 ^ E ∧ az S < 2 ^ 2098 ∨ ¬ (az S ≤ 9007199254740992 * 2 ^ E ∧ az S < 2 ^ 2098) by omega) with ⟨g, g'⟩ | g
  · exact .inl ⟨g, g', h.exact (db_of hS g g')⟩
  · right
    obtain ⟨y, y0, y1, hy⟩ := un_rep' E 9007199254740992 (by omega) (by omega) hE
    have hp := Nm.two_mono hE
    have e2 : (2 : Int) ^ 2098 = 9007199254740992 * 2 ^ 2045 := by rw [show 2098 = 53 + 2045 by rfl, Nm.two_add]; rfl
    have big : un y ≤ az S := by omega
    obtain ⟨n, V, x, rfl, hV, rfl, hN⟩ := h
    rw [az_sn n V hV] at big
    have ey : y = ((E + 2 : Nat) : Int) * 4503599627370496 := by
      obtain ⟨t, ht⟩ : ∃ t : Int, t = ((E + 2 : Nat) : Int) * 4503599627370496 := ⟨_, rfl⟩
      have e1 : man t = 4503599627370496 := by simp only [man]; split <;> omega
      have e2 : ex t = E + 1 := by simp only [ex]; omega
      have e3 : un t = 9007199254740992 * 2 ^ E := by rw [un, e1, e2, Nm.two_succ, ← Int.mul_assoc]; rfl
      rw [← ht]
      exact un_inj y0 (by omega) (by rw [hy, e3])
    have le : y ≤ x := by
      rcases (show y ≤ x ∨ x < y by omega) with h | h
      · exact h
      · exfalso
        have g1 := hN.2.2 (by omega)
        rw [md_un x hN.1.1, Int.mul_one] at g1
        have g2 := un_le (x := x + 1) (y := y) (by have := hN.1.1; omega) (by omega)
        have g3 := un_lt hN.1.1 (show x < x + 1 by omega)
        omega
    have e : E + 1 ≤ ex x := by simp only [ex]; omega
    have d := un_dv x e
    cases n
    · exact d
    · exact d.neg

theorem Fl.dv' {S z : Int} {E : Nat} (h : Fl S z) (hS : Dv E S) (hE : E ≤ 2045) : Dv E z := by
  rcases h.dv hS hE with ⟨_, _, g⟩ | g
  · rw [g]; exact hS
  · exact g.down (by omega)

/-- A sum that is not too great has a finite answer. -/
theorem Fl.fin {S z : Int} (h : Fl S z) (y : Int) (y0 : 0 ≤ y) (y1 : y < 9218868437227405312) (hS : az S ≤ un y) : ∃ (x : Int), 0 ≤ x ∧ x ≤ y ∧ az z = un x := by
  obtain ⟨n, V, x, rfl, hV, rfl, hN⟩ := h
  rw [az_sn n V hV] at hS
  refine ⟨x, hN.1.1, ?_, az_sn n _ (un_nn hN.1.1)⟩
  refine hN.mono (Q := 1) (Q' := 1) (by omega) (by omega) (near_self y 1 false (by omega) y0 y1) ?_
  rw [Int.mul_one, Int.mul_one, Int.mul_one]
  rcases (show V < un y ∨ V = un y by omega) with h | h
  · left; omega
  · right; exact ⟨by omega, id⟩

/-- What the rounding of a sum lost is a double. -/
theorem err_db {a b s ya yb : Int} (ha : az a = un ya) (hb : az b = un yb) (a0 : 0 ≤ ya) (a1 : ya < 9218868437227405312) (b0 : 0 ≤ yb) (b1 : yb < 9218868437227405312) (h : Fl (a + b) s) :
    DB (a + b - s) ∧ az (a + b - s) ≤ az a ∧ az (a + b - s) ≤ az b := by
  have g1 := h.near (w := a) ⟨ya, a0, a1, ha⟩
  have g2 := h.near (w := b) ⟨yb, b0, b1, hb⟩
  rw [show a + b - a = b by omega] at g1
  rw [show a + b - b = a by omega] at g2
  refine ⟨?_, g2, g1⟩
  have key : ∀ y, 0 ≤ y → y < 9218868437227405312 → Dv (ex y) a → Dv (ex y) b → az (a + b - s) ≤ un y → DB (a + b - s) := by
    intro y y0 y1 da db hl
    have e : ex y ≤ 2045 := by simp only [ex]; omega
    have u1 := un_bd y y0
    have p := Nm.two_mono e
    have e2 : (2 : Int) ^ 2098 = 9007199254740992 * 2 ^ 2045 := by rw [show 2098 = 53 + 2045 by rfl, Nm.two_add]; rfl
    exact db_of ((da.add db).sub (h.dv' (da.add db) e)) (by omega) (by omega)
  rcases (show ya ≤ yb ∨ yb ≤ ya by omega) with hl | hl
  · exact key ya a0 a1 (.of_az (by rw [ha]; exact un_dv _ (Nat.le_refl _))) (.of_az (by rw [hb]; exact un_dv _ (ex_mono hl))) (by omega)
  · exact key yb b0 b1 (.of_az (by rw [ha]; exact un_dv _ (ex_mono hl))) (.of_az (by rw [hb]; exact un_dv _ (Nat.le_refl _))) (by omega)

/-- Where all is a multiple of 2^E and 54 bits long, at most 2^E is lost. -/
theorem err_small {S s : Int} {E : Nat} (h : Fl S s) (hS : Dv E S) (h1 : az S < 18014398509481984 * 2 ^ E) (h2 : az S < 2 ^ 2098) : az (S - s) ≤ 2 ^ E := by
  obtain ⟨k, hk⟩ := hS
  have p := Nm.two_pos E
  obtain ⟨j, hj⟩ : ∃ j : Int, (0 ≤ k ∧ 0 ≤ j ∧ (k = 2 * j ∨ k = 2 * j + 1)) ∨ (k < 0 ∧ j ≤ 0 ∧ (k = 2 * j ∨ k = 2 * j - 1)) := by
    rcases (show 0 ≤ k ∨ k < 0 by omega) with g | g
    · exact ⟨k / 2, by omega⟩
    · exact ⟨-((-k) / 2), by omega⟩
  have e1 : (2 * j + 1) * 2 ^ E = 2 * j * 2 ^ E + 2 ^ E := by rw [Int.add_mul, Int.one_mul]
  have e2 : (2 * j - 1) * 2 ^ E = 2 * j * 2 ^ E - 2 ^ E := by rw [Int.sub_mul, Int.one_mul]
  have d : Dv (E + 1) (2 * j * 2 ^ E) := ⟨j, by rw [Nm.two_succ]; ac_rfl⟩
  have e : (2 : Int) ^ (E + 1) = 2 * 2 ^ E := Nm.two_succ E
  have s0 : 0 ≤ j → 0 ≤ 2 * j * 2 ^ E := fun h => Int.mul_nonneg (by omega) (by omega)
  have s1 : j ≤ 0 → 2 * j * 2 ^ E ≤ 0 := fun h => Int.mul_nonpos_of_nonpos_of_nonneg (by omega) (by omega)
  have q : az (2 * j * 2 ^ E) ≤ az S ∧ az (S - 2 * j * 2 ^ E) ≤ 2 ^ E := by
    have hS : (0 ≤ j ∧ (S = 2 * j * 2 ^ E ∨ S = 2 * j * 2 ^ E + 2 ^ E)) ∨ (j ≤ 0 ∧ (S = 2 * j * 2 ^ E ∨ S = 2 * j * 2 ^ E - 2 ^ E)) := by
      rcases hj with ⟨h0, h1, g | g⟩ | ⟨h0, h1, g | g⟩ <;> rw [g] at hk
      · exact .inl ⟨h1, .inl hk⟩
      · exact .inl ⟨h1, .inr (by omega)⟩
      · exact .inr ⟨h1, .inl hk⟩
      · exact .inr ⟨h1, .inr (by omega)⟩
    clear hk hj e1 e2 d
    generalize 2 * j * 2 ^ E = z at *
    rcases hS with ⟨h0, g⟩ | ⟨h0, g⟩
    · have := s0 h0
      rcases az_or z with ⟨_, g1⟩ | ⟨_, g1⟩ <;> rcases az_or S with ⟨_, g2⟩ | ⟨_, g2⟩ <;> rcases az_or (S - z) with ⟨_, g3⟩ | ⟨_, g3⟩ <;> omega
    · have := s1 h0
      rcases az_or z with ⟨_, g1⟩ | ⟨_, g1⟩ <;> rcases az_or S with ⟨_, g2⟩ | ⟨_, g2⟩ <;> rcases az_or (S - z) with ⟨_, g3⟩ | ⟨_, g3⟩ <;> omega
  have w : DB (2 * j * 2 ^ E) := db_of d (by omega) (by omega)
  have := h.near w
  omega

theorem two_2098 : (2 : Int) ^ 2098 = 9007199254740992 * 2 ^ 2045 := by rw [show 2098 = 53 + 2045 by rfl, Nm.two_add]; rfl

/-- Sterbenz: of two doubles within a factor of two the difference is a double. -/
theorem sterbenz {x y : Int} (x0 : 0 ≤ x) (y1 : y < 9218868437227405312) (hl : x ≤ y) (h : un y ≤ 2 * un x) : DB (un y - un x) := by
  have u1 := un_bd x x0
  have u2 := un_le x0 hl
  have d := (un_dv y (ex_mono hl)).sub (un_dv x (Nat.le_refl _))
  have e : ex x ≤ 2045 := by simp only [ex]; omega
  have p := Nm.two_mono e
  have e2 := two_2098
  refine db_of d ?_ ?_ <;> rcases az_or (un y - un x) with ⟨_, g⟩ | ⟨_, g⟩ <;> omega

/-- The greater of both taken off the sum leaves a double. -/
theorem fast {a b s ya yb : Int} (ha : az a = un ya) (hb : az b = un yb) (b0 : 0 ≤ yb) (hl : yb ≤ ya) (a1 : ya < 9218868437227405312) (b1 : un yb < 2 ^ 2096) (h : Fl (a + b) s) : DB (s - a) := by
  have eb : ex yb ≤ 2045 := by simp only [ex]; omega
  have ub := un_bd yb b0
  have da : Dv (ex yb) a := .of_az (by rw [ha]; exact un_dv _ (ex_mono hl))
  have db : Dv (ex yb) b := .of_az (by rw [hb]; exact un_dv _ (Nat.le_refl _))
  have dB : DB b := ⟨yb, b0, by omega, hb⟩
  have g1 := h.near (w := a) ⟨ya, by omega, a1, ha⟩
  rw [show a + b - a = b by omega] at g1
  have e96 : (2 : Int) ^ 2098 = 4 * 2 ^ 2096 := by rw [show 2098 = 2 + 2096 by rfl, Nm.two_add]; rfl
  have es : (2 : Int) ^ (ex yb + 1) = 2 * 2 ^ ex yb := Nm.two_succ _
  rcases h.dv (da.add db) eb with ⟨_, _, g⟩ | g
  · rw [g, show a + b - a = b by omega]; exact dB
  · have sz : az (s - a) ≤ 2 * az b := by
      rcases az_or b with ⟨_, q1⟩ | ⟨_, q1⟩ <;> rcases az_or (a + b - s) with ⟨_, q2⟩ | ⟨_, q2⟩ <;> rcases az_or (s - a) with ⟨_, q3⟩ | ⟨_, q3⟩ <;> omega
    rcases (show ex yb + 1 ≤ ex ya ∨ ex ya = ex yb by have := ex_mono hl; omega) with c | c
    · have da' : Dv (ex yb + 1) a := .of_az (by rw [ha]; exact un_dv _ c)
      exact db_of (g.sub da') (by omega) (by omega)
    · have ua := un_bd ya (by omega)
      rw [c] at ua
      have sm := err_small h (da.add db) (by rcases az_or a with ⟨_, q1⟩ | ⟨_, q1⟩ <;> rcases az_or b with ⟨_, q2⟩ | ⟨_, q2⟩ <;> rcases az_or (a + b) with ⟨_, q3⟩ | ⟨_, q3⟩ <;> omega)
      have big : az (a + b) < 2 ^ 2098 ∨ 2 ^ 2098 ≤ az (a + b) := by omega
      rcases big with big | big
      · have sm' := sm big
        have le : un yb ≤ 9007199254740991 * 2 ^ ex yb := by
          have := (man_nn yb b0).2
          exact Int.mul_le_mul_of_nonneg_right (by omega) (by have := Nm.two_pos (ex yb); omega)
        refine db_of ((g.down (Nat.le_succ _)).sub da) ?_ (by omega)
        rcases az_or b with ⟨_, q1⟩ | ⟨_, q1⟩ <;> rcases az_or (a + b - s) with ⟨_, q2⟩ | ⟨_, q2⟩ <;> rcases az_or (s - a) with ⟨_, q3⟩ | ⟨_, q3⟩ <;> omega
      · exfalso
        -- both have the exponent of b, which is small
        have h1 : un ya < 2 ^ 2097 := by
          rcases Nat.eq_zero_or_pos (ex yb) with z | z
          · rw [z] at ua
            have := Nm.two_mono (show 53 ≤ 2097 by omega)
            have e53 : (2 : Int) ^ 53 = 9007199254740992 := by decide
            omega
          · have m : 4503599627370496 ≤ man yb := by
              simp only [man]
              simp only [ex] at z
              split <;> omega
            have m2 : 4503599627370496 * 2 ^ ex yb ≤ un yb := Int.mul_le_mul_of_nonneg_right m (by have := Nm.two_pos (ex yb); omega)
            have e97 : (2 : Int) ^ 2097 = 2 * 2 ^ 2096 := Nm.two_succ 2096
            omega
        have e97 : (2 : Int) ^ 2097 = 2 * 2 ^ 2096 := Nm.two_succ 2096
        rcases az_or a with ⟨_, q1⟩ | ⟨_, q1⟩ <;> rcases az_or b with ⟨_, q2⟩ | ⟨_, q2⟩ <;> rcases az_or (a + b) with ⟨_, q3⟩ | ⟨_, q3⟩ <;> omega
end Ie
end Go.Proofs.YtmakkfekomnpbaaGreatDoor

/-
  Stage 6, plain mathematics: scaling, powers, what is left, whole parts.
-/
namespace Go.Proofs.YtmakkfekomnpbaaGreatDoor
namespace Ie

/-- The power of two that Scale takes. -/
def scl (n : Int) : Int := min (max n (-2200)) 2200

theorem scl_bd (n : Int) : -2200 ≤ scl n ∧ scl n ≤ 2200 := by simp only [scl]; omega

theorem scl_ok {n e x m : Int} (m0 : 0 ≤ m) (m1 : m < 9007199254740992) (e0 : -1074 ≤ e) (e1 : e ≤ 971) (h : Rnd m 1 (e + scl n) false x) : Rnd m 1 (e + n) false x := by
  have e53 : (2 : Int) ^ 53 = 9007199254740992 := by decide
  rcases (show scl n = n ∨ (scl n = 2200 ∧ 2200 < n) ∨ (scl n = -2200 ∧ n < -2200) by simp only [scl]; omega) with g | ⟨g, g'⟩ | ⟨g, g'⟩
  · rw [g] at h; exact h
  · rw [g] at h
    rcases (show m = 0 ∨ 0 < m by omega) with h0 | h0
    · subst h0
      have := h.one (by decide) (by decide) (rnd_zero 1 (e + 2200) false (by decide)) (a := 0) (a' := 0) (by omega) rfl
      rw [this]
      exact rnd_zero 1 _ false (by decide)
    · have p0 : (2 : Int) ^ 0 ≤ m := by rw [Int.pow_zero]; omega
      have := h.one (by decide) (by decide) (rnd_inf m 1 (e + 2200) 0 0 false p0 (by decide) (by omega)) (a := 0) (a' := 0) (by omega) rfl
      rw [this]
      exact rnd_inf m 1 _ 0 0 false p0 (by decide) (by omega)
  · rw [g] at h
    have := h.one (by decide) (by decide) (rnd_small m 1 (e + -2200) 53 0 false (by omega) (by decide) (by omega)) (a := 0) (a' := 0) (by omega) rfl
    rw [this]
    exact rnd_small m 1 _ 53 0 false (by omega) (by decide) (by omega)

theorem Rnd.up {V D e x : Int} {more : Bool} (s : Nat) (h : Rnd V D e more x) : Rnd (V * 2 ^ s) D (e - s) more x := by
  intro a b hab
  have := h (s + a) b (by omega)
  rw [Nm.two_add, ← Int.mul_assoc] at this
  exact this

theorem Rnd.dup {V D e x : Int} {more : Bool} (s : Nat) (h : Rnd V D e more x) : Rnd V (D * 2 ^ s) (e + s) more x := by
  intro a b hab
  have := h a (s + b) (by omega)
  rw [Nm.two_add, ← Int.mul_assoc] at this
  exact this

theorem Rnd.ddn {V D e x : Int} {more : Bool} (s : Nat) (h : Rnd V (D * 2 ^ s) (e + s) more x) : Rnd V D e more x := by
  obtain ⟨a, b, hab, hN⟩ := h.at
  rw [Int.mul_assoc, ← Nm.two_add] at hN
  exact Rnd.of (a := a) (b := s + b) (by omega) hN

theorem pow_shift (o : Int) (t : Nat) : ∀ k : Nat, (o * 2 ^ t) ^ k = o ^ k * 2 ^ (t * k)
  | 0 => by simp
  | k + 1 => by rw [Int.pow_succ, pow_shift o t k, Int.pow_succ, Nat.mul_succ, Nm.two_add]; ac_rfl

theorem pow_pos' {o : Int} (h : 0 < o) : ∀ k : Nat, 0 < o ^ k
  | 0 => by simp
  | k + 1 => by rw [Int.pow_succ]; exact Int.mul_pos (pow_pos' h k) h

theorem pow_le' {o : Int} (h0 : 0 < o) (h1 : o < 9007199254740992) : ∀ k : Nat, o ^ k ≤ 2 ^ (53 * k)
  | 0 => by simp
  | k + 1 => by
    have h := pow_le' h0 h1 k
    have e53 : (2 : Int) ^ 53 = 9007199254740992 := by decide
    rw [Int.pow_succ, Nat.mul_succ, Nm.two_add, e53]
    exact Int.mul_le_mul h (by omega) (by omega) (by have := Nm.two_pos (53 * k); omega)

theorem pow_bd {o : Int} {k : Nat} (h0 : 0 < o) (h1 : o < 9007199254740992) (hk : k ≤ 1024) : 0 < o ^ k ∧ o ^ k ≤ 2 ^ 54272 := by
  have h := pow_le' h0 h1 k
  have := Nm.two_mono (show 53 * k ≤ 54272 by omega)
  exact ⟨pow_pos' h0 k, by omega⟩

/-- The rounded power of m * 2^e. -/
def PowIs (m e n : Int) (r : Int) : Prop := (∀ k : Nat, n = (k : Int) → Rnd (m ^ k) 1 (e * n) false r) ∧ (∀ k : Nat, n = -(k : Int) → Rnd 1 (m ^ k) (e * n) false r)

theorem mul_split (e t n : Int) : (e + t) * n = e * n + t * n := Int.add_mul _ _ _

/-- The power of the odd part, at its exponent, is the power. -/
theorem PowIs.mk {m o e n r : Int} {t : Nat} (hm : m = o * 2 ^ t) (hn : n ≠ 0) (h1 : ∀ k : Nat, n = (k : Int) → Rnd (o ^ k) 1 ((e + t) * n) false r) (h2 : ∀ k : Nat, n = -(k : Int) → Rnd 1 (o ^ k) ((e + t) * n) false r) : PowIs m e n r := by
  have _ := hn
  constructor
  · intro k hk
    have h := (h1 k hk).up (t * k)
    rw [hm, pow_shift]
    have e1 : (e + t) * n - ((t * k : Nat) : Int) = e * n := by rw [mul_split, hk]; simp only [Int.natCast_mul]; omega
    rw [e1] at h
    exact h
  · intro k hk
    have h := (h2 k hk).dup (t * k)
    rw [hm, pow_shift]
    have e1 : (e + t) * n + ((t * k : Nat) : Int) = e * n := by rw [mul_split, hk]; simp only [Int.natCast_mul, Int.mul_neg]; omega
    rw [e1] at h
    exact h

theorem PowIs.odd {m o e n r : Int} {t : Nat} (hm : m = o * 2 ^ t) (h : PowIs m e n r) : (∀ k : Nat, n = (k : Int) → Rnd (o ^ k) 1 ((e + t) * n) false r) ∧ (∀ k : Nat, n = -(k : Int) → Rnd 1 (o ^ k) ((e + t) * n) false r) := by
  constructor
  · intro k hk
    have h := h.1 k hk
    rw [hm, pow_shift] at h
    refine Rnd.num (t * k) ?_
    have e1 : (e + t) * n - ((t * k : Nat) : Int) = e * n := by rw [mul_split, hk]; simp only [Int.natCast_mul]; omega
    rw [e1]
    exact h
  · intro k hk
    have h := h.2 k hk
    rw [hm, pow_shift] at h
    refine Rnd.ddn (t * k) ?_
    have e1 : (e + t) * n + ((t * k : Nat) : Int) = e * n := by rw [mul_split, hk]; simp only [Int.natCast_mul, Int.mul_neg]; omega
    rw [e1]
    exact h

/-- A number of 53 bits at most, from 2^-1074 on, is a double. -/
theorem rnd_rep {R e x : Int} {c : Nat} {more : Bool} (hc : (c : Int) = e + 1074) (h0 : 0 ≤ R) (h1 : R < 9007199254740992) (hc2 : c ≤ 2045) (h : Rnd R 1 e more x) : un x = R * 2 ^ c ∧ 0 ≤ x ∧ x < 9218868437227405312 := by
  obtain ⟨y, y0, y1, hy⟩ := un_rep c R h0 h1 hc2
  have h2 : Rnd R 1 e more y := rnd_vl R e y more (c + 1) 0 (by omega) y0 y1 (by rw [vl_un, hy, Nm.two_succ, Int.pow_zero, Int.mul_one]; ac_rfl)
  have := h.one (by decide) (by decide) h2 (a := 0) (a' := 0) (by omega) rfl
  subst this
  exact ⟨hy, y0, y1⟩

theorem emod_scale (a b c : Int) (hc : 0 < c) : a * c % (b * c) = a % b * c := by
  rw [Int.mul_comm a c, Int.mul_comm b c, Int.mul_emod_mul_of_pos _ _ hc, Int.mul_comm]
theorem ediv_scale (a b c : Int) (hc : 0 < c) : a * c / (b * c) = a / b := Int.mul_ediv_mul_of_pos_left _ _ hc

/-- What is left is less than 2^53 of the smaller unit. -/
theorem left_bd {ma mb : Int} {i j : Nat} (hij : i = 0 ∨ j = 0) (a0 : 0 ≤ ma) (a1 : ma < 9007199254740992) (b0 : 0 < mb) (b1 : mb < 9007199254740992) :
    0 < mb * 2 ^ j ∧ 0 ≤ ma * 2 ^ i ∧ 0 ≤ ma * 2 ^ i % (mb * 2 ^ j) ∧ ma * 2 ^ i % (mb * 2 ^ j) < mb * 2 ^ j ∧ ma * 2 ^ i % (mb * 2 ^ j) < 9007199254740992 ∧
    (mb * 2 ^ j ≤ 2 * (ma * 2 ^ i % (mb * 2 ^ j)) → mb * 2 ^ j - ma * 2 ^ i % (mb * 2 ^ j) < 9007199254740992) := by
  have hV2 : 0 < mb * 2 ^ j := Int.mul_pos b0 (Nm.two_pos j)
  have hV1 : 0 ≤ ma * 2 ^ i := Int.mul_nonneg a0 (by have := Nm.two_pos i; omega)
  have r0 := Int.emod_nonneg (ma * 2 ^ i) (show mb * 2 ^ j ≠ 0 by omega)
  have r1 := Int.emod_lt_of_pos (ma * 2 ^ i) hV2
  have rd := Int.mul_ediv_add_emod (ma * 2 ^ i) (mb * 2 ^ j)
  have rq : 0 ≤ mb * 2 ^ j * (ma * 2 ^ i / (mb * 2 ^ j)) := Int.mul_nonneg (by omega) (Int.ediv_nonneg hV1 (by omega))
  refine ⟨hV2, hV1, r0, r1, ?_, fun h => ?_⟩
  · rcases hij with h | h <;> subst h
    · rw [Int.pow_zero, Int.mul_one] at *; omega
    · rw [Int.pow_zero, Int.mul_one] at *; omega
  · rcases hij with h | h <;> subst h
    · rw [Int.pow_zero, Int.mul_one] at *; omega
    · rw [Int.pow_zero, Int.mul_one] at *; omega

theorem lt_scale {a b c : Int} (hc : 0 < c) : a * c < b * c ↔ a < b :=
  ⟨fun h => Int.lt_of_mul_lt_mul_right h (by omega), fun h => Int.mul_lt_mul_of_pos_right h hc⟩
theorem eq_scale {a b c : Int} (hc : 0 < c) : a * c = b * c ↔ a = b :=
  ⟨fun h => Int.eq_of_mul_eq_mul_right (by omega) h, fun h => by rw [h]⟩

/-- The whole part and the rest against a half, by the mantissa. -/
theorem whole_cut {m U : Int} {k dr : Nat} (m0 : 0 ≤ m) (m1 : m < 9007199254740992) (k1 : 1 ≤ k) (k2 : k ≤ 1074) (hd : dr = min k 63) (hU : U = m * 2 ^ (1074 - k)) :
    m / 2 ^ dr = U / 2 ^ 1074 ∧ (m % 2 ^ dr < 2 ^ (dr - 1) ↔ U % 2 ^ 1074 < 2 ^ 1073) ∧ (m % 2 ^ dr = 2 ^ (dr - 1) ↔ U % 2 ^ 1074 = 2 ^ 1073) := by
  have hp := Nm.two_pos (1074 - k)
  have e1 : (2 : Int) ^ 1074 = 2 ^ k * 2 ^ (1074 - k) := by rw [← Nm.two_add]; congr 1; omega
  have e2 : (2 : Int) ^ 1073 = 2 ^ (k - 1) * 2 ^ (1074 - k) := by rw [← Nm.two_add]; congr 1; omega
  rw [e1, e2, hU, ediv_scale _ _ _ hp, emod_scale _ _ _ hp, lt_scale hp, eq_scale hp]
  rcases Nat.le_total k 63 with h | h
  · rw [hd, Nat.min_eq_left h]; exact ⟨rfl, Iff.rfl, Iff.rfl⟩
  · rw [hd, Nat.min_eq_right h]
    have g1 := Nm.two_mono (show 63 ≤ k by omega)
    have g2 := Nm.two_mono (show 62 ≤ k - 1 by omega)
    have e63 : (2 : Int) ^ 63 = 9223372036854775808 := by decide
    have e62 : (2 : Int) ^ (63 - 1) = 4611686018427387904 := by decide
    have e62' : (2 : Int) ^ 62 = 4611686018427387904 := by decide
    have d1 : m / 2 ^ k = 0 := Int.ediv_eq_zero_of_lt m0 (by omega)
    have d2 : m % 2 ^ k = m := Int.emod_eq_of_lt m0 (by omega)
    rw [d1, d2, e63, e62]
    omega

theorem intg_un (r : Int) : (vl r = vl r / 2 ^ 1075 * 2 ^ 1075) ↔ un r % 2 ^ 1074 = 0 := by
  have e0 : (2 : Int) ^ 1075 = 2 * 2 ^ 1074 := Nm.two_succ 1074
  have hp := Nm.two_pos 1074
  rw [vl_un, e0, Int.mul_ediv_mul_of_pos _ _ (by decide)]
  have := Int.mul_ediv_add_emod (un r) (2 ^ 1074)
  rw [Int.mul_comm] at this
  generalize hq : un r / 2 ^ 1074 = q at *
  generalize un r % 2 ^ 1074 = s at *
  generalize (2 : Int) ^ 1074 = P at *
  have e3 : q * (2 * P) = 2 * (q * P) := Int.mul_left_comm _ _ _
  rw [e3]
  omega

theorem ediv_un (r : Int) : vl r / 2 ^ 1075 = un r / 2 ^ 1074 := by
  have e0 : (2 : Int) ^ 1075 = 2 * 2 ^ 1074 := Nm.two_succ 1074
  rw [vl_un, e0, Int.mul_ediv_mul_of_pos _ _ (by decide)]
end Ie
end Go.Proofs.YtmakkfekomnpbaaGreatDoor

/-
  A state as one predicate: what it says of the memory, and that only new memory was written.
-/
namespace Go.Proofs.YtmakkfekomnpbaaGreatDoor
open Go Go.RowKit Go.Deep

structure St (S : World → Prop) (w wx : World) : Prop where
  cells : S wx
  bel : Below w.heap.size w wx

def Stays (S : World → Prop) : Prop := ∀ wx w' : World, S wx → Below wx.heap.size wx w' → S w'

theorem St.on {S : World → Prop} {w wx w' : World} (h : St S w wx) (k : Stays S) (hB : Below wx.heap.size wx w') : St S w w' := ⟨k _ _ h.cells hB, h.bel.trans (hB.mono h.bel.size)⟩
theorem St.drew {S : World → Prop} {w wx : World} (h : St S w wx) (k : Stays S) : St S w wx.drew := h.on k ⟨rfl, rfl, rfl, Nat.le_refl _, fun _ _ => rfl⟩
theorem St.more {S T : World → Prop} {w wx w' : World} (h : St S w wx) (k : Stays S) (hB : Below wx.heap.size wx w') (t : T w') : St (fun x => S x ∧ T x) w w' := ⟨⟨k _ _ h.cells hB, t⟩, h.bel.trans (hB.mono h.bel.size)⟩
theorem St.imp {S T : World → Prop} {w wx : World} (h : St S w wx) (k : ∀ x, S x → T x) : St T w wx := ⟨k _ h.cells, h.bel⟩
theorem St.to {S T : World → Prop} {w wx w' : World} (h : St S w wx) (hB : Below wx.heap.size wx w') (t : T w') : St T w w' := ⟨t, h.bel.trans (hB.mono h.bel.size)⟩

theorem Stays.cell (a : Addr) (v : Value) : Stays (fun w => w.cell? a = some v) := fun _ _ h hB => (hB.cell (cell_lt h)).trans h
theorem Stays.and {S T : World → Prop} (h : Stays S) (k : Stays T) : Stays (fun w => S w ∧ T w) := fun _ _ g hB => ⟨h _ _ g.1 hB, k _ _ g.2 hB⟩
theorem Stays.ans (B : Nat) (p : Option Addr) (os : List Int) (v : Int) : Stays (fun w => Ans B w p os v) := fun _ _ h hB => h.below hB (Nat.le_refl _)
theorem Stays.arg (p : Option Addr) (n cap : Nat) (os : List Int) : Stays (fun w => Arg w p n cap os) := fun _ _ h hB => h.below hB (Nat.le_refl _)
theorem Stays.tab : Stays Tab := fun _ _ h hB => h.below hB
theorem Stays.bel (w : World) : Stays (fun x => Below w.heap.size w x) := fun _ _ h hB => h.trans (hB.mono h.size)
theorem Stays.const (p : Prop) : Stays (fun _ => p) := fun _ _ h _ => h

/-- The state under a name of its own. -/
theorem state (S : World → Prop) (w : World) (k : Stays S) : ∃ SS : World → Prop, Hid (∀ wx w' : World, SS wx → Below wx.heap.size wx w' → SS w') ∧ Hid (∀ wx : World, SS wx → S wx) ∧ Hid (∀ wx : World, SS wx → Below w.heap.size w wx) ∧ Hid (∀ wx : World, S wx → Below w.heap.size w wx → SS wx) :=
  ⟨St S w, fun _ _ h hB => h.on k hB, fun _ h => h.cells, fun _ h => h.bel, fun _ h b => ⟨h, b⟩⟩

theorem drew_nil (w : World) : Below w.heap.size w w.drew := ⟨rfl, rfl, rfl, Nat.le_refl _, fun _ _ => rfl⟩
end Go.Proofs.YtmakkfekomnpbaaGreatDoor

/-
  An answer below one limb.
-/
namespace Go.Proofs.YtmakkfekomnpbaaGreatDoor
open Go Go.RowKit Go.Deep

theorem Ans.lim1 {B : Nat} {w : World} {p : Option Addr} {os : List Int} {v : Int} (h : Ans B w p os v) (hv : v < 18446744073709551616) : os.length ≤ 1 := by
  have := (Nm.tsize_le_iff h.2.1 1).2 (by rw [h.2.2.2.1]; exact hv)
  rw [h.2.2.1] at this
  exact this
end Go.Proofs.YtmakkfekomnpbaaGreatDoor

/-
  remain: Scale.
-/
namespace Go.Proofs.YtmakkfekomnpbaaGreatDoor
open Go Go.RowKit Go.Deep

/-- What Scale answers. -/
def Ie.ScaleIs (d n r : Int) : Prop := (Ie.isn d = true → r = 9221120237041090560) ∧ (Ie.isi d = true → r = d) ∧ (Ie.fin d → ∃ x, r = Ie.sg (Ie.ngd d) x ∧ Ie.Rnd (Ie.dm d) 1 (Ie.de d + n) false x)

set_option maxRecDepth 100000 in
set_option maxHeartbeats 4000000 in
theorem scale_fin (d n : Int) (w : World) (hT : Tab w) (h0 : 0 ≤ d) (h1 : d < 18446744073709551616) (hf : Ie.fin d) :
    Calls Tryz.prog 8 #[.int .u64 d, .int .i64 n] w fun e w' => ∃ x, e = .returned (.int .u64 (Ie.sg (Ie.ngd d) x)) ∧ Hid (Ie.Rnd (Ie.dm d) 1 (Ie.de d + n) false x) ∧ Below w.heap.size w w' := by
  have NN := hid (fun (wx : World) => mnan_any d wx h0 h1)
  have NI := hid (fun (wx : World) => minfinite_any d wx h0 h1)
  rw [(Ie.fin_kinds hf).1] at NN
  rw [(Ie.fin_kinds hf).2] at NI
  have D := hid (fun (wx : World) => decode_any d wx h0 h1)
  rw [← Ie.ngd] at D
  obtain ⟨⟨m0, m1⟩, ⟨e0, e1⟩, -, -⟩ := Ie.dec_f d hf
  have FU := hid (fun (wx : World) => fromUint_any (Ie.dm d) wx m0 (by omega))
  obtain ⟨s, hs⟩ : ∃ s, min (max n (-2200)) 2200 = s := ⟨_, rfl⟩
  have sb : -2200 ≤ s ∧ s ≤ 2200 := by omega
  have RO : Hid (∀ (wx : World) (p : Option Addr) (os : List Int) (B : Nat), Tab wx → Ans B wx p os (Ie.dm d) → Calls Tryz.prog 29 #[.bool (Ie.ngd d), .slice p os.length os.length, .int .i64 (Ie.de d + s), .bool false] wx fun r w' => ∃ y, r = .returned (.tuple #[.int .u64 (Ie.sg (Ie.ngd d) y), .int .i64 0]) ∧ Hid (Ie.Rnd (Ie.dm d) 1 (Ie.de d + n) false y) ∧ Below wx.heap.size wx w') := by
    intro wx p os B hx A
    have l1 := A.lim1 (by omega)
    refine (round_any (Ie.ngd d) p _ _ os wx (A.arg (by omega)) hx (by rw [A.2.2.1]; omega) (Ie.dm d) (Ie.de d + s) false A.2.2.2.1).mono ?_
    rintro e w' ⟨x, rfl, hR, hB⟩
    refine ⟨x, rfl, Ie.scl_ok m0 m1 e0 e1 ?_, hB⟩
    rw [Ie.scl, hs]
    exact hR
  have HT := hid hT
  have eb : -1074 ≤ Ie.de d ∧ Ie.de d ≤ 971 := ⟨e0, e1⟩
  clear hT hf m0 m1 e0 e1
  simp only [partsOf] at D
  generalize Ie.ngd d = neg at *
  generalize Ie.dm d = m at *
  generalize Ie.de d = x at *
  generalize Ie.cls d = c at *
  go_enter Tryz.func8, Tryz.ntmps8
  go_wp2_with fail
  refine (NN.out _).mono ?_
  rintro e wz ⟨rfl, hz⟩
  replace hz := hz.symm
  subst hz
  go_wp2_with fail
  refine (NI.out _).mono ?_
  rintro e wz ⟨rfl, hz⟩
  replace hz := hz.symm
  subst hz
  go_wp2_with fail
  refine (D.out _).mono ?_
  rintro e w1 ⟨rfl, hB1⟩
  have HB1 := hid hB1
  clear hB1 NN NI D
  go_upto_region 6 with fail
  have hb := HB1.out.trans ((alloc_b w1 (.cells #[.bool neg, .int .i64 c, .int .u64 m, .int .i64 x] 40)).mono HB1.out.size)
  have P := Row4.new w1 40 (.bool neg) (.int .i64 c) (.int .u64 m) (.int .i64 x)
  obtain ⟨SS, KS, CS, BS, MS⟩ := state (fun w' => (w'.cell? ⟨w1.heap.size, 0, none⟩ = some (.bool neg) ∧ w'.cell? ⟨w1.heap.size, 2, none⟩ = some (.int .u64 m) ∧ w'.cell? ⟨w1.heap.size, 3, none⟩ = some (.int .i64 x)) ∧ Tab w') w (((Stays.cell _ _).and ((Stays.cell _ _).and (Stays.cell _ _))).and Stays.tab)
  have S0 := hid (MS.out _ ⟨⟨P.cells.1.1, P.cells.1.2.2.1, P.cells.1.2.2.2⟩, HT.out.below hb⟩ hb)
  clear P hb HT HB1 MS
  generalize w1.alloc (.cells #[.bool neg, .int .i64 c, .int .u64 m, .int .i64 x] 40) = wA at *
  generalize w1.heap.size = b at *
  have S1 := hid (KS.out _ _ S0.out (drew_nil _))
  have CC : Hid (∀ wx : World, SS wx → (wx.cell? ⟨b, 0, none⟩ = some (.bool neg) ∧ wx.cell? ⟨b, 2, none⟩ = some (.int .u64 m) ∧ wx.cell? ⟨b, 3, none⟩ = some (.int .i64 x))) := fun wx h => (CS.out wx h).1
  have TT : Hid (∀ wx : World, SS wx → Tab wx) := fun wx h => (CS.out wx h).2
  obtain ⟨p0, p2, p3⟩ := CC.out _ S0.out
  clear CS S0
  go_upto_region 7 with fail
  clear hs h0 h1
  obtain ⟨sb1, sb2⟩ := sb
  obtain ⟨eb1, eb2⟩ := eb
  have WK : IntKind.i64.wrap (x + s) = x + s := by rw [IntKind.wrap_i64]; omega
  go_region_held3 (fun w' => w'.cell? ⟨b, 0, none⟩ = some (.bool neg) ∧ w'.cell? ⟨b, 2, none⟩ = some (.int .u64 m) ∧ w'.cell? ⟨b, 3, none⟩ = some (.int .i64 x)) (first | (with_reducible exact CC.out _ S3.out) | (with_reducible exact CC.out _ S2.out) | (with_reducible exact CC.out _ S1.out)) (first
    | (go_at_call 30; refine (FU.out _).mono ?_; rintro e w2 ⟨p, os, rfl, A, hB⟩; have S2 := hid (KS.out _ _ S1.out hB); have R2 := hid (RO.out w2 p os _ (TT.out _ S2.out) A); clear hB A)
    | (go_at_call 29; (try rw [WK]); refine R2.out.mono ?_; rintro e w3 ⟨y, rfl, hR, hB⟩; have S3 := hid (KS.out _ _ S2.out hB); clear hB))
  all_goals (go_wp2_with fail; go_ret; exact ⟨_, rfl, hR, BS.out _ S3.out⟩)

set_option maxRecDepth 100000 in
theorem scale_any (d n : Int) (w : World) (hT : Tab w) (h0 : 0 ≤ d) (h1 : d < 18446744073709551616) :
    Calls Tryz.prog 8 #[.int .u64 d, .int .i64 n] w fun e w' => ∃ r, e = .returned (.int .u64 r) ∧ Ie.ScaleIs d n r ∧ Below w.heap.size w w' := by
  have NN := hid (fun (wx : World) => mnan_any d wx h0 h1)
  have NI := hid (fun (wx : World) => minfinite_any d wx h0 h1)
  rcases Ie.kinds d with h | ⟨h, h', h''⟩ | ⟨_, _, h⟩
  · have E : Hid (Ie.ScaleIs d n 9221120237041090560) := ⟨fun _ => rfl, fun g => (by simp only [Ie.isn, Ie.isi, decide_eq_true_iff] at h g; omega), fun g => (by simp only [Ie.isn, Ie.fin, decide_eq_true_iff] at h g; omega)⟩
    rw [h] at NN
    clear h
    go_enter Tryz.func8, Tryz.ntmps8
    go_wp2_with fail
    refine (NN.out _).mono ?_
    rintro e wz ⟨rfl, hz⟩
    replace hz := hz.symm
    subst hz
    go_wp2_with fail
    go_ret
    exact ⟨_, rfl, E.out, Below.refl _ _⟩
  · have E : Hid (Ie.ScaleIs d n d) := ⟨fun g => (by rw [h] at g; cases g), fun _ => rfl, fun g => absurd g h''⟩
    rw [h] at NN
    rw [h'] at NI
    clear h h' h''
    go_enter Tryz.func8, Tryz.ntmps8
    go_wp2_with fail
    refine (NN.out _).mono ?_
    rintro e wz ⟨rfl, hz⟩
    replace hz := hz.symm
    subst hz
    go_wp2_with fail
    refine (NI.out _).mono ?_
    rintro e wz ⟨rfl, hz⟩
    replace hz := hz.symm
    subst hz
    go_wp2_with fail
    go_ret
    exact ⟨_, rfl, E.out, Below.refl _ _⟩
  · refine (scale_fin d n w hT h0 h1 h).mono ?_
    rintro e w' ⟨x, rfl, hR, hB⟩
    refine ⟨_, rfl, ⟨fun g => ?_, fun g => ?_, fun _ => ⟨x, rfl, hR.out⟩⟩, hB⟩
    · rw [(Ie.fin_kinds h).1] at g; cases g
    · rw [(Ie.fin_kinds h).2] at g; cases g
end Go.Proofs.YtmakkfekomnpbaaGreatDoor

namespace Go.Proofs.YtmakkfekomnpbaaGreatDoor
open Go.RowKit Go.Deep

theorem mask_low (x : Int) (r : Nat) (hr : r ≤ 63) (h0 : 0 ≤ x) (h1 : x < 18446744073709551616) : bits .and .u64 x (2 ^ r - 1) = x % 2 ^ r := by
  obtain ⟨n, rfl⟩ := Int.eq_ofNat_of_zero_le h0
  have hP : ((2 ^ r : Nat) : Int) = (2 : Int) ^ r := by simp
  have hp : 0 < 2 ^ r := Nat.pow_pos (by omega)
  have hm : (2 : Int) ^ r - 1 = ((2 ^ r - 1 : Nat) : Int) := by omega
  have hle : 2 ^ r ≤ 2 ^ 63 := Nat.pow_le_pow_right (by omega) hr
  have e63 : 2 ^ 63 = 9223372036854775808 := by decide
  have h := bits_and_u64_nat n (2 ^ r - 1) (by omega) (by omega)
  rw [hm, h, Nat.and_two_pow_sub_one_eq_mod, ← hP]
  omega

set_option maxRecDepth 100000 in
set_option maxHeartbeats 1000000 in
/-- From the number of its digits on it is the number itself. -/
theorem low_all (p : Option Addr) (n cap : Nat) (zs : List Int) (k : Int) (L : Nat) (w : World) (ha : Arg w p n cap zs) (tz : Nm.tsize zs ≤ 4096) (hk : 0 ≤ k) (hL : blen (Nm.trim zs) = (L : Int)) (hb : (L : Int) ≤ k) :
    Calls Tryz.prog 141 #[.slice p n cap, .int .i64 k] w fun e w' => ∃ r os, e = .returned (.tuple #[.slice r (List.length os) (List.length os), .int .i64 0]) ∧ Ans w.heap.size w' r os (Nm.val zs) ∧ Below w.heap.size w w' := by
  have HT := hid (lshift_ok p n cap zs k w ha tz hk)
  have HB := hid (bitLen_n L p _ _ (Nm.trim zs) w ha.trim' hL)
  have TR := trim_any p _ _ (Nm.trim zs) w ha.trim'
  rw [Nm.val_trim] at TR
  have HTR := hid TR
  clear hL ha TR
  go_enter Tryz.func141, Tryz.ntmps141
  go_wp2_with fail
  refine HT.out.mono ?_
  rintro e w' ⟨rfl, rfl⟩
  go_wp2_with fail
  refine HB.out.mono ?_
  rintro e w' ⟨rfl, rfl⟩
  go_wp2_with fail
  refine HTR.out.mono ?_
  rintro e w1 ⟨r, os, rfl, -, hans, hb1⟩
  have HA := hid hans
  have D1 := hid hb1
  clear hans hb1
  go_wp2_with fail
  go_ret2
  exact ⟨r, os, rfl, HA.out, D1.out⟩

set_option maxRecDepth 100000 in
set_option maxHeartbeats 1000000 in
theorem low_ok (p : Option Addr) (n cap : Nat) (zs : List Int) (kk : Int) (k L : Nat) (w : World) (ha : Arg w p n cap zs) (tz : Nm.tsize zs ≤ 4096) (hkk : kk = (k : Int)) (hL : blen (Nm.trim zs) = (L : Int)) (hLt : L ≤ 64 * Nm.tsize zs) (hb : k < L) :
    Calls Tryz.prog 141 #[.slice p n cap, .int .i64 kk] w fun e w' => ∃ r os, e = .returned (.tuple #[.slice r (List.length os) (List.length os), .int .i64 0]) ∧ Ans w.heap.size w' r os (Nm.val zs % 2 ^ k) ∧ Below w.heap.size w w' := by
  have hk0 : 0 ≤ kk := by omega
  have T1 := lshift_ok p n cap zs kk w ha tz hk0
  have B1 := bitLen_n L p _ _ (Nm.trim zs) w ha.trim' hL
  obtain ⟨N, HN⟩ : ∃ N, Hid (Nm.tsize zs = N) := ⟨_, rfl⟩
  rw [HN.out] at T1 B1 hLt
  have HT := hid T1
  have HB := hid B1
  have hN1 : N ≤ 4096 := by rw [← HN.out]; exact tz
  have hb1 : ¬ (L : Int) ≤ kk := by omega
  obtain ⟨sk, hsk⟩ : ∃ sk, k / 64 = sk := ⟨_, rfl⟩
  obtain ⟨r, hr⟩ : ∃ r, k % 64 = r := ⟨_, rfl⟩
  have r1 : kk / 64 = (sk : Int) := by omega
  have r2 : kk % 64 = (r : Int) := by omega
  have hr63 : r ≤ 63 := by omega
  have hskN : sk < N := by omega
  have hskN' : (sk : Int) < (N : Int) := by omega
  have hkb : kk ≤ 262144 := by omega
  have KE : Hid (k = 64 * sk + r) := by show _ = _; omega
  have L1 := hid ((Nm.trim_length zs).trans HN.out)
  have A5 := hid ha.2.2.2.2.trim
  obtain ⟨b, off, rfl, hbw, HC⟩ := ha.2.2.2.1.trim.at (by rw [L1.out]; omega)
  have V := hid (Nm.val_trim zs)
  have LT := hid (ha.2.2.2.1.trim.take sk)
  have TL : Hid (((Nm.trim zs).take sk).length = sk) := by rw [Hid, List.length_take, L1.out]; omega
  obtain ⟨x, X⟩ : ∃ x, Hid (x = (Nm.trim zs).getD sk 0) := ⟨_, rfl⟩
  have hxc := HC.out sk (by rw [L1.out]; exact hskN)
  rw [← X.out] at hxc
  have HXC := hid hxc
  have hx0 := A5.out.at sk
  rw [← X.out] at hx0
  obtain ⟨hx0, hx1⟩ := hx0
  have hP0 := Nm.two_pos r
  have hP63 : (2 : Int) ^ r ≤ 9223372036854775808 := by
    have := Nm.two_mono (show r ≤ 63 by omega)
    have e : (2 : Int) ^ 63 = 9223372036854775808 := by decide
    omega
  obtain ⟨y, hy⟩ : ∃ y, bits .and .u64 x (2 ^ r - 1) = y := ⟨_, rfl⟩
  have YE := hid ((mask_low x r hr63 hx0 hx1).symm.trans hy)
  have y0 : 0 ≤ y := by rw [← YE.out]; exact Int.emod_nonneg _ (by omega)
  have y1 : y < 2 ^ r := by rw [← YE.out]; exact Int.emod_lt_of_pos _ hP0
  have hw1 : IntKind.u64.wrap (2 ^ r) = 2 ^ r := by rw [Sh.wrap_mod]; omega
  have QE : Hid (Nm.val zs % 2 ^ k = Nm.val ((Nm.trim zs).take sk) + Nm.pw sk * y) := by
    have h1 := Nm.val_drop (Nm.trim zs) sk (by rw [L1.out]; omega)
    have h2 := Nm.val_bd _ (A5.out.take sk)
    rw [TL.out] at h2
    have h3 : Nm.val ((Nm.trim zs).drop sk) = x + 18446744073709551616 * Nm.val ((Nm.trim zs).drop (sk + 1)) := by
      rw [X.out, List.drop_eq_getElem_cons (by rw [L1.out]; exact hskN), Nm.val]
      simp [List.getD, L1.out, hskN]
    have hp := Nm.pw_pos sk
    have c1 := Int.emod_add_mul_ediv x (2 ^ r)
    rw [YE.out] at c1
    have hPQ := Sh.split64 r hr63
    have e1 : Nm.val zs = Nm.val ((Nm.trim zs).take sk) + Nm.pw sk * y + 2 ^ k * (x / 2 ^ r + 2 ^ (64 - r) * Nm.val ((Nm.trim zs).drop (sk + 1))) := by
      rw [KE.out, Nm.two_add, ← Nm.pw_two, Int.mul_assoc, Int.mul_add (2 ^ r), ← Int.mul_assoc (2 ^ r), hPQ, ← V.out, h1, h3]
      have : x + 18446744073709551616 * Nm.val ((Nm.trim zs).drop (sk + 1)) = y + (2 ^ r * (x / 2 ^ r) + 18446744073709551616 * Nm.val ((Nm.trim zs).drop (sk + 1))) := by omega
      rw [this, Int.mul_add]
      omega
    have e2 : 0 ≤ Nm.pw sk * y := Int.mul_nonneg (by omega) y0
    have e3 : Nm.pw sk * (y + 1) ≤ Nm.pw sk * 2 ^ r := Int.mul_le_mul_of_nonneg_left (by omega) (by omega)
    rw [Int.mul_add, Int.mul_one, Nm.pw_two, ← Nm.two_add, ← KE.out, ← Nm.pw_two] at e3
    show _ = _
    rw [e1, Int.add_mul_emod_self_left, Int.emod_eq_of_lt (by omega) (by omega)]
  have Y64 : Hid (0 ≤ y ∧ y < 18446744073709551616) := by show _ ∧ _; omega
  clear T1 B1 ha tz hL hkk hsk hr hLt hb hxc y0 y1
  go_enter Tryz.func141, Tryz.ntmps141
  go_wp2_with fail
  refine HT.out.mono ?_
  rintro e w' ⟨rfl, rfl⟩
  go_wp2_with fail
  refine HB.out.mono ?_
  rintro e w' ⟨rfl, rfl⟩
  go_wp2_with fail
  refine (widened_any _ sk _ 1 1 ((Nm.trim zs).take sk) _ rfl TL.out (by omega) LT.out).mono ?_
  rintro e w1 ⟨rfl, ho, hb2, hz2⟩
  have hxc1 : w1.cell? ⟨b, off + sk, none⟩ = some (.int .u64 x) := (hb2.cell (p := ⟨b, off + sk, none⟩) hbw).trans HXC.out
  obtain ⟨u, hu⟩ : ∃ u, w1.cell? ⟨w'.heap.size, sk, none⟩ = some (.int .u64 u) := ⟨_, ho.cell sk (by rw [List.length_append, TL.out]; simp)⟩
  have hfr := ho.free sk
  have O1 := hid (ho.set sk y)
  have LL : ((Nm.trim zs).take sk ++ List.replicate 1 0).length = sk + 1 := by rw [List.length_append, TL.out, List.length_replicate]
  have O2 : Hid ((((Nm.trim zs).take sk ++ List.replicate 1 0).set sk y).length = sk + 1) := by rw [Hid, List.length_set, LL]
  have O3 := hid (((A5.out.take sk).append (Nm.Limbs.replicate 1)).set sk Y64.out.1 Y64.out.2)
  have O4 : Hid (Nm.val (((Nm.trim zs).take sk ++ List.replicate 1 0).set sk y) = Nm.val zs % 2 ^ k) := by
    have e0 : ((Nm.trim zs).take sk ++ List.replicate 1 0).getD sk 0 = 0 := by
      rw [List.getD, List.getElem?_append_right (by rw [TL.out]; omega), TL.out, Nat.sub_self]
      rfl
    rw [Hid, Nm.val_set _ _ _ (by omega), e0, Int.sub_zero, Nm.val_append, Nm.val_replicate, Int.mul_zero, Int.add_zero, QE.out]
  have O5 := hid (hb2.setCell (p := ⟨w'.heap.size, sk, none⟩) (Nat.le_refl _) (.int .u64 y))
  clear ho hb2 hz2 LL
  go_wp2_with fail
  refine (trimmed_any _ (sk + 1) (sk + 1) (((Nm.trim zs).take sk ++ List.replicate 1 0).set sk y) _ O2.out (Nat.le_refl _) (by omega) O1.out.lies).mono ?_
  rintro e w3 ⟨rfl, rfl⟩
  go_wp2_with fail
  go_ret2
  refine ⟨some ⟨w'.heap.size, 0, none⟩, Nm.trim (((Nm.trim zs).take sk ++ List.replicate 1 0).set sk y), ret_two (Nm.trim_length _).symm, ⟨O1.out.lies.trim, O3.out.trim, ?_, ?_, ?_⟩, O5.out⟩
  · rw [Nm.trim_trim, Nm.trim_length]
  · rw [Nm.val_trim, O4.out]
  · intro a h
    cases h
    exact Nat.le_refl _
end Go.Proofs.YtmakkfekomnpbaaGreatDoor

/-
  Low, whatever the number of bits.
-/
namespace Go.Proofs.YtmakkfekomnpbaaGreatDoor
open Go.RowKit Go.Deep

theorem low_any (p : Option Addr) (n cap : Nat) (zs : List Int) (kk : Int) (k : Nat) (w : World) (ha : Arg w p n cap zs) (tz : Nm.tsize zs ≤ 4096) (hkk : kk = (k : Int)) :
    Calls Tryz.prog 141 #[.slice p n cap, .int .i64 kk] w fun e w' => ∃ r os, e = .returned (.tuple #[.slice r (List.length os) (List.length os), .int .i64 0]) ∧ Ans w.heap.size w' r os (Nm.val zs % 2 ^ k) ∧ Below w.heap.size w w' := by
  obtain ⟨L, hL, BL, hl, _⟩ := blen_is zs ha.2.2.2.2
  have hv0 := (Nm.val_bd zs ha.2.2.2.2).1
  rw [← blen_trim_eq] at hL
  by_cases hb : k < L
  · exact low_ok p n cap zs kk k L w ha tz hkk hL hl hb
  · have hlt : Nm.val zs < 2 ^ k := by
      have := BL.1
      have := Nm.two_mono (show L ≤ k by omega)
      omega
    rw [Int.emod_eq_of_lt hv0 hlt]
    exact low_all p n cap zs kk L w ha tz (by omega) hL (by omega)
end Go.Proofs.YtmakkfekomnpbaaGreatDoor
