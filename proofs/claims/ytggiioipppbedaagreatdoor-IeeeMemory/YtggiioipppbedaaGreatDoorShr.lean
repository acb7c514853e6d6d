/-
  Shr.
-/
import Derived.Test.YtggiioipppbedaaGreatDoorShl
import Derived.Test.YtggiioipppbedaaGreatDoorTrailW
namespace Go.Proofs.YtggiioipppbedaaGreatDoor
open Go.RowKit Go.Deep

namespace Sh
theorem val_at (zs : List Int) (i : Nat) (hi : i < zs.length) : Nm.val (zs.drop i) = zs.getD i 0 + 18446744073709551616 * Nm.val (zs.drop (i + 1)) := by
  rw [List.drop_eq_getElem_cons hi, Nm.val]
  simp [List.getD, hi]

/-- One limb moved down by r binary digits, with what came down from above: the limb s, and what goes on. -/
theorem down (x V sp : Int) (r : Nat) (hr : r ≤ 63) (x0 : 0 ≤ x) (x1 : x < 18446744073709551616) (hsp : sp = V % 2 ^ r * 2 ^ (64 - r)) :
    ∃ q s sp', x / 2 ^ r = q ∧ bits .or .u64 q sp = s ∧ IntKind.u64.wrap (x * 2 ^ (64 - r)) = sp' ∧ (0 ≤ s ∧ s < 18446744073709551616) ∧ (0 ≤ sp' ∧ sp' < 18446744073709551616) ∧
      Hid (s + 18446744073709551616 * (V / 2 ^ r) = (x + 18446744073709551616 * V) / 2 ^ r) ∧ Hid (sp' = (x + 18446744073709551616 * V) % 2 ^ r * 2 ^ (64 - r)) := by
  have hP := Nm.two_pos r
  have hQ := Nm.two_pos (64 - r)
  have hPQ := split64 r hr
  have hpe : (2 : Int) ^ (64 - r) = 2 ^ (64 - r) := rfl
  have d2 := Int.emod_nonneg V (show (2 : Int) ^ r ≠ 0 by omega)
  have d3 := Int.emod_lt_of_pos V hP
  have q0 : 0 ≤ x / 2 ^ r := Int.ediv_nonneg x0 (by omega)
  have q1 : x / 2 ^ r < 2 ^ (64 - r) := by
    rw [Int.ediv_lt_iff_lt_mul hP, Int.mul_comm, hPQ]
    exact x1
  have e1 : (V % 2 ^ r + 1) * 2 ^ (64 - r) ≤ 2 ^ r * 2 ^ (64 - r) := Int.mul_le_mul_of_nonneg_right (by omega) (by omega)
  rw [Int.add_mul, Int.one_mul, hPQ] at e1
  have e2 : 0 ≤ V % 2 ^ r * 2 ^ (64 - r) := Int.mul_nonneg d2 (by omega)
  -- 'or' with the summands the other way round
  have hO : bits .or .u64 (x / 2 ^ r) sp = x / 2 ^ r + sp := by
    have h := or_sum (V % 2 ^ r) (x / 2 ^ r) (64 - r) d2 q0 q1 (by omega) (by omega)
    rw [← hsp] at h
    obtain ⟨a, ha⟩ := Int.eq_ofNat_of_zero_le q0
    obtain ⟨c, hc⟩ := Int.eq_ofNat_of_zero_le (show 0 ≤ sp by omega)
    rw [ha, hc] at h ⊢
    rw [bits_or_u64_nat c a (by omega) (by omega)] at h
    rw [bits_or_u64_nat a c (by omega) (by omega), Nat.or_comm, h]
    omega
  refine ⟨_, _, _, rfl, hO, rfl, by omega, ?_, ?_, ?_⟩
  · rw [wrap_mod]; omega
  · show _ = _
    have a1 : (x + 18446744073709551616 * V) / 2 ^ r = x / 2 ^ r + 2 ^ (64 - r) * V := by
      rw [← hPQ, Int.mul_assoc, Int.add_mul_ediv_left _ _ (by omega)]
    have a2 := Int.emod_add_mul_ediv V (2 ^ r)
    have a3 : 2 ^ (64 - r) * V = V % 2 ^ r * 2 ^ (64 - r) + 18446744073709551616 * (V / 2 ^ r) := by
      have : 2 ^ (64 - r) * (V % 2 ^ r + 2 ^ r * (V / 2 ^ r)) = 2 ^ (64 - r) * V := by rw [a2]
      rw [Int.mul_add, ← Int.mul_assoc, Int.mul_comm (2 ^ (64 - r)) (2 ^ r), hPQ, Int.mul_comm (2 ^ (64 - r)) (V % 2 ^ r)] at this
      omega
    rw [a1, a3, hsp]
    omega
  · show _ = _
    have b1 : (x + 18446744073709551616 * V) % 2 ^ r = x % 2 ^ r := by
      rw [← hPQ, Int.mul_assoc, Int.add_mul_emod_self_left]
    rw [b1, wrap_mod]
    have c1 := Int.emod_add_mul_ediv x (2 ^ r)
    have c2 := Int.emod_nonneg x (show (2 : Int) ^ r ≠ 0 by omega)
    have c3 := Int.emod_lt_of_pos x hP
    have c4 : (x % 2 ^ r + 1) * 2 ^ (64 - r) ≤ 2 ^ r * 2 ^ (64 - r) := Int.mul_le_mul_of_nonneg_right (by omega) (by omega)
    rw [Int.add_mul, Int.one_mul, hPQ] at c4
    have c5 : 0 ≤ x % 2 ^ r * 2 ^ (64 - r) := Int.mul_nonneg c2 (by omega)
    have c6 : x * 2 ^ (64 - r) = x % 2 ^ r * 2 ^ (64 - r) + 18446744073709551616 * (x / 2 ^ r) := by
      have : (x % 2 ^ r + 2 ^ r * (x / 2 ^ r)) * 2 ^ (64 - r) = x * 2 ^ (64 - r) := by rw [c1]
      rw [Int.add_mul, Int.mul_right_comm, hPQ] at this
      omega
    omega

/-- Whether anything is lost: by the lowest digit 1. -/
theorem lost_iff {v : Int} {t n : Nat} (h : Nm.Trl v t) (hv : 0 < v) : decide ((t : Int) < (n : Int)) = decide (v % 2 ^ n ≠ 0) := by
  rcases h with ⟨h, _⟩ | ⟨m, hm⟩
  · omega
  · rw [Bool.eq_iff_iff]
    simp only [decide_eq_true_eq]
    constructor
    · intro hlt h0
      obtain ⟨c, hc⟩ := Nat.exists_eq_add_of_lt (show t < n by omega)
      obtain ⟨k, hk⟩ := Int.dvd_of_emod_eq_zero h0
      rw [hm, hc, Nat.add_assoc, Nm.two_add, Int.mul_assoc] at hk
      exact Nm.odd_unique (Int.eq_of_mul_eq_mul_left (by have := Nm.two_pos t; omega) hk)
    · intro h0
      rcases Nat.lt_or_ge t n with hlt | hge
      · omega
      · exfalso
        obtain ⟨c, hc⟩ := Nat.exists_eq_add_of_le hge
        apply h0
        rw [hm, hc, Nm.two_add, Int.mul_assoc]
        exact Int.mul_emod_right _ _
end Sh

/-- Behind the limbs from j on: they are moved down; below j the limbs are as they were. -/
def DownInv (g M : Nat) (w : World) (ys : List Int) (r j : Nat) (sp : Int) (os : List Int) (wr : World) : Prop :=
  Own wr g os ∧ os.length = M ∧ Nm.Limbs os ∧ (∀ t, t < j → os.getD t 0 = ys.getD t 0) ∧ Nm.val (os.drop j) = Nm.val (ys.drop j) / 2 ^ r ∧ sp = Nm.val (ys.drop j) % 2 ^ r * 2 ^ (64 - r) ∧ Below g w wr

theorem DownInv.step {g M : Nat} {w : World} {ys : List Int} {r t : Nat} {sp : Int} {os : List Int} {wr : World} (h : DownInv g M w ys r (t + 1) sp os wr) (hM : ys.length = M) (ht : t < M) {x s sp' : Int} (hx : x = ys.getD t 0) (hs0 : 0 ≤ s ∧ s < 18446744073709551616)
    (e1 : s + 18446744073709551616 * (Nm.val (ys.drop (t + 1)) / 2 ^ r) = (x + 18446744073709551616 * Nm.val (ys.drop (t + 1))) / 2 ^ r) (e2 : sp' = (x + 18446744073709551616 * Nm.val (ys.drop (t + 1))) % 2 ^ r * 2 ^ (64 - r)) :
    DownInv g M w ys r t sp' (os.set t s) (wr.setCell ⟨g, t, none⟩ (.int .u64 s)) := by
  obtain ⟨h1, h2, h3, h4, h5, h6, h7⟩ := h
  have hv := Sh.val_at ys t (by omega)
  rw [← hx] at hv
  refine ⟨h1.set t s, by simpa using h2, h3.set t hs0.1 hs0.2, ?_, ?_, by rw [hv]; exact e2, h7.setCell (p := ⟨g, t, none⟩) (Nat.le_refl _) _⟩
  · intro i hi
    rw [Nm.getD_set _ _ _ _ (by omega), if_neg (by omega)]
    exact h4 i (by omega)
  · rw [Sh.val_at (os.set t s) t (by simpa using (show t < os.length by omega)), Nm.getD_set _ _ _ _ (by omega), if_pos rfl, hv, ← e1]
    rw [List.drop_set_of_lt (by omega), h5]

theorem ret_shr {p : Option Addr} {a b : Nat} {l l' : Bool} (h : a = b) (hl : l = l') : Ending.returned (.tuple #[.slice p a a, .bool l, .int .i64 0]) = .returned (.tuple #[.slice p b b, .bool l', .int .i64 0]) := by rw [h, hl]

set_option maxRecDepth 100000 in
set_option maxHeartbeats 1000000 in
/-- From the number of its digits on nothing is left. -/
theorem shr_all (p : Option Addr) (n cap : Nat) (zs : List Int) (k : Int) (L : Nat) (w : World) (ha : Arg w p n cap zs) (tz : Nm.tsize zs ≤ 4096) (hk : 0 ≤ k) (hL : blen (Nm.trim zs) = (L : Int)) (hb : (L : Int) ≤ k) :
    Calls Tryz.prog 77 #[.slice p n cap, .int .i64 k] w fun e w' => e = .returned (.tuple #[.slice none 0 0, .bool (decide (0 < Nm.tsize zs)), .int .i64 0]) ∧ w' = w := by
  have HT := hid (lshift_ok p n cap zs k w ha tz hk)
  have HB := hid (bitLen_n L p _ _ (Nm.trim zs) w ha.trim' hL)
  clear hL ha
  go_enter Tryz.func77, Tryz.ntmps77
  go_wp2_with fail
  refine HT.out.mono ?_
  rintro e w' ⟨rfl, rfl⟩
  go_wp2_with fail
  refine HB.out.mono ?_
  rintro e w' ⟨rfl, rfl⟩
  go_wp2_with fail
  go_ret3
  exact ⟨by first | rfl | simp, rfl⟩

set_option maxRecDepth 100000 in
set_option maxHeartbeats 1000000 in
theorem shr_ok (p : Option Addr) (n cap : Nat) (zs : List Int) (kk : Int) (k L : Nat) (w : World) (ha : Arg w p n cap zs) (hT : Tab w) (tz : Nm.tsize zs ≤ 4096) (hkk : kk = (k : Int)) (hL : blen (Nm.trim zs) = (L : Int)) (hLt : L ≤ 64 * Nm.tsize zs) (hb : k < L) :
    Calls Tryz.prog 77 #[.slice p n cap, .int .i64 kk] w fun e w' => ∃ r os, e = .returned (.tuple #[.slice r (List.length os) (List.length os), .bool (decide (Nm.val zs % 2 ^ k ≠ 0)), .int .i64 0]) ∧ Ans w.heap.size w' r os (Nm.val zs / 2 ^ k) ∧ Below w.heap.size w w' := by
  have hk0 : 0 ≤ kk := by omega
  have T1 := lshift_ok p n cap zs kk w ha tz hk0
  have B1 := bitLen_n L p _ _ (Nm.trim zs) w ha.trim' hL
  have hvpos : 0 < Nm.val zs := by
    have h1 := (Nm.val_bd zs ha.2.2.2.2).1
    rcases (show Nm.val zs = 0 ∨ 0 < Nm.val zs by omega) with h | h
    · have := (Nm.tsize_zero_iff ha.2.2.2.2).2 h
      omega
    · exact h
  obtain ⟨N, HN⟩ : ∃ N, Hid (Nm.tsize zs = N) := ⟨_, rfl⟩
  rw [HN.out] at T1 B1 hLt
  have HT := hid T1
  have HB := hid B1
  have hN1 : N ≤ 4096 := by rw [← HN.out]; exact tz
  have hb1 : ¬ (L : Int) ≤ kk := by omega
  obtain ⟨sk, hsk⟩ : ∃ sk, k / 64 = sk := ⟨_, rfl⟩
  obtain ⟨r, hr⟩ : ∃ r, k % 64 = r := ⟨_, rfl⟩
  have r1 : kk / 64 = (sk : Int) := by omega
  have r2 : kk % 64 = (r : Int) := by omega
  have hr63 : r ≤ 63 := by omega
  have hskN : sk < N := by omega
  have hskN' : (sk : Int) < (N : Int) := by omega
  have hkb : kk ≤ 262144 := by omega
  have KE : Hid (k = 64 * sk + r) := by show _ = _; omega
  have KK := hid hkk
  have L1 := hid ((Nm.trim_length zs).trans HN.out)
  have A5 := hid ha.2.2.2.2.trim
  have AT := ha.trim'
  rw [HN.out] at AT
  have HAT := hid AT
  obtain ⟨b, off, rfl, hbw, HC⟩ := ha.2.2.2.1.trim.at (by rw [L1.out]; omega)
  have V := hid (Nm.val_trim zs)
  have LD : Hid (Lies w (some ⟨b, off + sk, none⟩) ((Nm.trim zs).drop sk)) := .inr ⟨b, off + sk, rfl, fun i hi => by
    rw [List.length_drop] at hi
    rw [show off + sk + i = off + (sk + i) by omega, HC.out (sk + i) (by omega)]
    simp [List.getD]⟩
  have YL : Hid (((Nm.trim zs).drop sk).length = N - sk) := by rw [Hid, List.length_drop, L1.out]
  have YY := hid (A5.out.drop sk)
  have HTAB := hid hT
  have HV := hid hvpos
  have QE : Hid (Nm.val zs / 2 ^ k = Nm.val ((Nm.trim zs).drop sk) / 2 ^ r) := by
    have h1 := Nm.val_drop (Nm.trim zs) sk (by rw [L1.out]; omega)
    have h2 := Nm.val_bd _ (A5.out.take sk)
    rw [List.length_take, L1.out, Nat.min_eq_left (by omega)] at h2
    have hp := Nm.pw_pos sk
    show _ = _
    rw [KE.out, Nm.two_add, ← Nm.pw_two, ← Int.ediv_ediv_of_nonneg (by omega), ← V.out, h1, Int.add_mul_ediv_left _ _ (by omega), Int.ediv_eq_zero_of_lt h2.1 h2.2, Int.zero_add]
  clear T1 B1 ha tz hL hkk hsk hr hT hvpos hLt hb AT
  go_enter Tryz.func77, Tryz.ntmps77
  go_wp2_with fail
  refine HT.out.mono ?_
  rintro e w' ⟨rfl, rfl⟩
  go_wp2_with fail
  refine HB.out.mono ?_
  rintro e w' ⟨rfl, rfl⟩
  go_wp2_with fail
  refine (widened_any _ (N - sk) _ 0 0 ((Nm.trim zs).drop sk) _ rfl YL.out (by omega) LD.out).mono ?_
  rintro e w1 ⟨rfl, ho, hb2, hz2⟩
  rw [List.replicate_zero, List.append_nil] at ho
  have I0 : DownInv w'.heap.size (N - sk) w' ((Nm.trim zs).drop sk) r (N - sk) 0 ((Nm.trim zs).drop sk) w1 := by
    have e : ((Nm.trim zs).drop sk).drop (N - sk) = [] := List.drop_eq_nil_of_le (by rw [YL.out]; omega)
    exact ⟨ho, YL.out, YY.out, fun _ _ => rfl, by rw [e]; simp [Nm.val], by rw [e]; simp [Nm.val], hb2⟩
  have HI0 := hid I0
  clear ho hb2 hz2 I0
  go_wp2_with fail
  go_loopw [11, 12] (fun a i wr => ∃ (j : Nat) (sp : Int) (os : List Int), j ≤ N - sk ∧ i = .int .i64 ((j : Int) - 1) ∧ a = .int .u64 sp ∧ DownInv w'.heap.size (N - sk) w' ((Nm.trim zs).drop sk) r j sp os wr) (fun _ i _ => (intOf i + 1).toNat)
  case atStart => exact ⟨N - sk, 0, _, Nat.le_refl _, by go_num, rfl, HI0.out⟩
  case round =>
    clear HI0
    obtain ⟨j, sp, os, hj, rfl, rfl, I⟩ := hrel
    by_cases hj0 : j = 0
    · subst hj0
      obtain ⟨i1, i2, i3, i4, i5, i6, i7⟩ := I
      rw [List.drop_zero, List.drop_zero] at i5
      have O1 := hid i1
      have O3 := hid i3
      have O5 : Hid (Nm.val os = Nm.val zs / 2 ^ k) := by rw [Hid, QE.out]; exact i5
      have O7 := hid i7
      have TR := hid (trimmed_any (some ⟨w'.heap.size, 0, none⟩) (N - sk) (N - sk) os wr i2 (Nat.le_refl _) (by omega) i1.lies)
      have TL := hid (trail_any _ N N (Nm.trim zs) wr (HAT.out.below i7 (Nat.le_refl _)) (HTAB.out.below i7))
      clear i1 i2 i3 i4 i5 i6 i7
      go_wp2_with fail
      refine TR.out.mono ?_
      rintro e w3 ⟨rfl, rfl⟩
      go_wp2_with fail
      refine TL.out.mono ?_
      rintro e w3 ⟨t, rfl, htr, rfl⟩
      rw [V.out] at htr
      have LO := hid (Sh.lost_iff (n := k) htr HV.out)
      clear htr
      go_wp2_with fail
      go_ret3
      refine ⟨some ⟨w'.heap.size, 0, none⟩, Nm.trim os, ret_shr (Nm.trim_length os).symm (by rw [KK.out]; exact LO.out), ⟨O1.out.lies.trim, O3.out.trim, ?_, ?_, ?_⟩, O7.out⟩
      · rw [Nm.trim_trim, Nm.trim_length]
      · rw [Nm.val_trim, O5.out]
      · intro a h
        cases h
        exact ⟨Nat.le_refl _, fun _ o => O1.out.free o⟩
    · obtain ⟨t, rfl⟩ : ∃ t, j = t + 1 := ⟨j - 1, by omega⟩
      have hxo := I.2.2.2.1 t (by omega)
      obtain ⟨x, hxc, X⟩ : ∃ x, wr.cell? ⟨w'.heap.size, t, none⟩ = some (.int .u64 x) ∧ Hid (x = ((Nm.trim zs).drop sk).getD t 0) := ⟨_, I.1.cell t (by have := I.2.1; omega), hxo⟩
      have hfr := I.1.free t
      have hx0 := YY.out.at t
      rw [← X.out] at hx0
      obtain ⟨hx0, hx1⟩ := hx0
      obtain ⟨q, s, sp', u1, u2, u3, us, usp, E1, E2⟩ := Sh.down x (Nm.val (((Nm.trim zs).drop sk).drop (t + 1))) sp r hr63 hx0 hx1 I.2.2.2.2.2.1
      have I2 := I.step YL.out (by omega) X.out us E1.out E2.out
      have htN : (t : Int) < ((N - sk : Nat) : Int) := by omega
      clear I hxo E1 E2 us usp
      go_wp2
      go_roundw
      case rel => exact ⟨t, sp', _, by omega, by go_num, rfl, I2⟩
      case measure => simp [intOf]
end Go.Proofs.YtggiioipppbedaaGreatDoor
