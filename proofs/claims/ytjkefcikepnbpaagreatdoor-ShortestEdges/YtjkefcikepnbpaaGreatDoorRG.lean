/-
  Texts put together: LCmpK, Shr, BitW, IShiftA, INear1, INear2, IRoundN, IRound, KWide, KRow.
-/
import Derived.Test.YtjkefcikepnbpaaGreatDoorRA
import Derived.Test.YtjkefcikepnbpaaGreatDoorRC
import Derived.Test.YtjkefcikepnbpaaGreatDoorIWalk1C
import Derived.Test.YtjkefcikepnbpaaGreatDoorINum2
import Derived.Test.YtjkefcikepnbpaaGreatDoorBits
import Derived.Test.YtjkefcikepnbpaaGreatDoorBitsA
import Derived.Test.YtjkefcikepnbpaaGreatDoorV0
import Derived.Test.YtjkefcikepnbpaaGreatDoorKNum2
import Derived.Deep.Cut
import Derived.Deep.RegionHeld3
import Derived.Test.YtjkefcikepnbpaaGreatDoorRB
namespace Go.Proofs.YtjkefcikepnbpaaGreatDoor
open Go.RowKit Go.Deep
namespace Sh

/-- A decimal's number in units of 10^-K. -/
def uk (K : Nat) (d : Sc.D) : Int := dv d.ds * 10 ^ (d.e + K).toNat
/-- A normal decimal above nothing. -/
structure Pk (K : Nat) (d : Sc.D) : Prop where
  neg : d.neg = false
  lo : -(K : Int) ≤ d.e
  nml : Fx.Nml d.ds
theorem Pk.pos {K : Nat} {d : Sc.D} (h : Pk K d) : 0 < uk K d := Int.mul_pos (nml_pos h.nml) (Fx.p_pos _)
theorem uk_place {K : Nat} {d : Sc.D} (h : Pk K d) : 10 ^ (Sc.pl d + K - 1).toNat ≤ uk K d ∧ uk K d < 10 ^ (Sc.pl d + K).toNat := by
  obtain ⟨n, hn⟩ := h.nml.len
  have b1 := Fx.head_low h.nml.digs hn h.nml.head
  have b2 := (dv_bd h.nml.digs).2
  have p := Fx.p_pos (d.e + K).toNat
  have lo := h.lo
  unfold Sc.pl uk
  rw [hn] at b2 ⊢
  constructor
  · rw [show (d.e + ((n + 1 : Nat) : Int) + K - 1).toNat = n + (d.e + K).toNat by omega, Int.pow_add]
    exact Int.mul_le_mul_of_nonneg_right b1 (Int.le_of_lt p)
  · rw [show (d.e + ((n + 1 : Nat) : Int) + K).toNat = (n + 1) + (d.e + K).toNat by omega, Int.pow_add]
    exact Int.mul_lt_mul_of_pos_right b2 p
theorem mck_le {K : Nat} {a b : Sc.D} (ha : Pk K a) (hb : Pk K b) (h : Sc.mc a b ≤ 0) : uk K a ≤ uk K b := by
  have la := ha.lo
  have lb := hb.lo
  unfold Sc.mc at h
  split at h
  · rename_i hp
    have hl : Sc.pl a < Sc.pl b := by rcases Sc.cmpI_c (Sc.pl a) (Sc.pl b) with k | k | k <;> omega
    have h1 := (uk_place ha).2
    have h2 := (uk_place hb).1
    have h3 := Fx.p_le (show (Sc.pl a + K).toNat ≤ (Sc.pl b + K - 1).toNat by omega)
    omega
  · rename_i hp
    have hl : Sc.pl a = Sc.pl b := by omega
    unfold Sc.pl at hl
    obtain ⟨M, hM⟩ : ∃ M, M = max a.ds.length b.ds.length := ⟨_, rfl⟩
    have := lex_le a.ds b.ds M ha.nml.digs hb.nml.digs (by omega) (by omega) h
    unfold uk
    obtain ⟨s, hs⟩ : ∃ s, (a.e + K).toNat = M - a.ds.length + s := ⟨(a.e + K).toNat - (M - a.ds.length), by omega⟩
    have hs2 : (b.e + K).toNat = M - b.ds.length + s := by omega
    rw [hs, hs2, Int.pow_add, Int.pow_add, ← Int.mul_assoc, ← Int.mul_assoc]
    exact Int.mul_le_mul_of_nonneg_right this (Int.le_of_lt (Fx.p_pos _))
theorem Pk.inj {K : Nat} {a b : Sc.D} (ha : Pk K a) (hb : Pk K b) (h : uk K a = uk K b) : Sc.mc a b = 0 := by
  obtain ⟨e1, e2⟩ := Fx.nml_one ha.nml hb.nml h
  have l1 := ha.lo
  have l2 := hb.lo
  exact (Sc.mc_zero a b).2 ⟨e1, by omega⟩
theorem cmpk {K : Nat} {a b : Sc.D} (ha : Pk K a) (hb : Pk K b) : Sc.cmpD a b = Sc.cmpI (uk K a) (uk K b) := by
  have sg : ∀ d : Sc.D, Pk K d → Sc.sgn d = 1 := fun d h => by rw [Sc.sgn, if_neg (nml_ne h.nml), h.neg]; rfl
  unfold Sc.cmpD
  rw [sg a ha, sg b hb, if_neg (by omega), ha.neg, if_neg Bool.false_ne_true]
  have l1 := mck_le ha hb
  have l2 := mck_le hb ha
  have an := Sc.mc_anti a b
  have eq := ha.inj hb
  have eq2 : Sc.mc a b = 0 → uk K a = uk K b := fun c => by have := l1 (by omega); have := l2 (by omega); omega
  rcases Sc.mc_b a b with c | c | c <;> rcases Sc.cmpI_c (uk K a) (uk K b) with k | k | k <;> omega
end Sh
end Go.Proofs.YtjkefcikepnbpaaGreatDoor

namespace Go.Proofs.YtjkefcikepnbpaaGreatDoor
open Go.RowKit Go.Deep

namespace Sh
theorem val_at (zs : List Int) (i : Nat) (hi : i < zs.length) : Nm.val (zs.drop i) = zs.getD i 0 + 18446744073709551616 * Nm.val (zs.drop (i + 1)) := by
  rw [List.drop_eq_getElem_cons hi, Nm.val]
  simp [List.getD, hi]

/-- One limb moved down by r binary digits, with what came down from above: the limb s, and what goes on. -/
theorem down (x V sp : Int) (r : Nat) (hr : r ≤ 63) (x0 : 0 ≤ x) (x1 : x < 18446744073709551616) (hsp : sp = V % 2 ^ r * 2 ^ (64 - r)) :
    ∃ q s sp', x / 2 ^ r = q ∧ bits .or .u64 q sp = s ∧ IntKind.u64.wrap (x * 2 ^ (64 - r)) = sp' ∧ (0 ≤ s ∧ s < 18446744073709551616) ∧ (0 ≤ sp' ∧ sp' < 18446744073709551616) ∧
      Hid (s + 18446744073709551616 * (V / 2 ^ r) = (x + 18446744073709551616 * V) / 2 ^ r) ∧ Hid (sp' = (x + 18446744073709551616 * V) % 2 ^ r * 2 ^ (64 - r)) := by
  have hP := Nm.two_pos r
  have hQ := Nm.two_pos (64 - r)
  have hPQ := split64 r hr
  have hpe : (2 : Int) ^ (64 - r) = 2 ^ (64 - r) := rfl
  have d2 := Int.emod_nonneg V (show (2 : Int) ^ r ≠ 0 by omega)
  have d3 := Int.emod_lt_of_pos V hP
  have q0 : 0 ≤ x / 2 ^ r := Int.ediv_nonneg x0 (by omega)
  have q1 : x / 2 ^ r < 2 ^ (64 - r) := by
    rw [Int.ediv_lt_iff_lt_mul hP, Int.mul_comm, hPQ]
    exact x1
  have e1 : (V % 2 ^ r + 1) * 2 ^ (64 - r) ≤ 2 ^ r * 2 ^ (64 - r) := Int.mul_le_mul_of_nonneg_right (by omega) (by omega)
  rw [Int.add_mul, Int.one_mul, hPQ] at e1
  have e2 : 0 ≤ V % 2 ^ r * 2 ^ (64 - r) := Int.mul_nonneg d2 (by omega)
  -- 'or' with the summands the other way round
  have hO : bits .or .u64 (x / 2 ^ r) sp = x / 2 ^ r + sp := by
    have h := or_sum (V % 2 ^ r) (x / 2 ^ r) (64 - r) d2 q0 q1 (by omega) (by omega)
    rw [← hsp] at h
    obtain ⟨a, ha⟩ := Int.eq_ofNat_of_zero_le q0
    obtain ⟨c, hc⟩ := Int.eq_ofNat_of_zero_le (show 0 ≤ sp by omega)
    rw [ha, hc] at h ⊢
    rw [bits_or_u64_nat c a (by omega) (by omega)] at h
    rw [bits_or_u64_nat a c (by omega) (by omega), Nat.or_comm, h]
    omega
  refine ⟨_, _, _, rfl, hO, rfl, by omega, ?_, ?_, ?_⟩
  · rw [wrap_mod]; omega
  · show _ = _
    have a1 : (x + 18446744073709551616 * V) / 2 ^ r = x / 2 ^ r + 2 ^ (64 - r) * V := by
      rw [← hPQ, Int.mul_assoc, Int.add_mul_ediv_left _ _ (by omega)]
    have a2 := Int.emod_add_mul_ediv V (2 ^ r)
    have a3 : 2 ^ (64 - r) * V = V % 2 ^ r * 2 ^ (64 - r) + 18446744073709551616 * (V / 2 ^ r) := by
      have : 2 ^ (64 - r) * (V % 2 ^ r + 2 ^ r * (V / 2 ^ r)) = 2 ^ (64 - r) * V := by rw [a2]
      rw [Int.mul_add, ← Int.mul_assoc, Int.mul_comm (2 ^ (64 - r)) (2 ^ r), hPQ, Int.mul_comm (2 ^ (64 - r)) (V % 2 ^ r)] at this
      omega
    rw [a1, a3, hsp]
    omega
  · show _ = _
    have b1 : (x + 18446744073709551616 * V) % 2 ^ r = x % 2 ^ r := by
      rw [← hPQ, Int.mul_assoc, Int.add_mul_emod_self_left]
    rw [b1, wrap_mod]
    have c1 := Int.emod_add_mul_ediv x (2 ^ r)
    have c2 := Int.emod_nonneg x (show (2 : Int) ^ r ≠ 0 by omega)
    have c3 := Int.emod_lt_of_pos x hP
    have c4 : (x % 2 ^ r + 1) * 2 ^ (64 - r) ≤ 2 ^ r * 2 ^ (64 - r) := Int.mul_le_mul_of_nonneg_right (by omega) (by omega)
    rw [Int.add_mul, Int.one_mul, hPQ] at c4
    have c5 : 0 ≤ x % 2 ^ r * 2 ^ (64 - r) := Int.mul_nonneg c2 (by omega)
    have c6 : x * 2 ^ (64 - r) = x % 2 ^ r * 2 ^ (64 - r) + 18446744073709551616 * (x / 2 ^ r) := by
      have : (x % 2 ^ r + 2 ^ r * (x / 2 ^ r)) * 2 ^ (64 - r) = x * 2 ^ (64 - r) := by rw [c1]
      rw [Int.add_mul, Int.mul_right_comm, hPQ] at this
      omega
    omega

/-- Whether anything is lost: by the lowest digit 1. -/
theorem lost_iff {v : Int} {t n : Nat} (h : Nm.Trl v t) (hv : 0 < v) : decide ((t : Int) < (n : Int)) = decide (v % 2 ^ n ≠ 0) := by
  rcases h with ⟨h, _⟩ | ⟨m, hm⟩
  · omega
  · rw [Bool.eq_iff_iff]
    simp only [decide_eq_true_eq]
    constructor
    · intro hlt h0
      obtain ⟨c, hc⟩ := Nat.exists_eq_add_of_lt (show t < n by omega)
      obtain ⟨k, hk⟩ := Int.dvd_of_emod_eq_zero h0
      rw [hm, hc, Nat.add_assoc, Nm.two_add, Int.mul_assoc] at hk
      exact Nm.odd_unique (Int.eq_of_mul_eq_mul_left (by have := Nm.two_pos t; omega) hk)
    · intro h0
      rcases Nat.lt_or_ge t n with hlt | hge
      · omega
      · exfalso
        obtain ⟨c, hc⟩ := Nat.exists_eq_add_of_le hge
        apply h0
        rw [hm, hc, Nm.two_add, Int.mul_assoc]
        exact Int.mul_emod_right _ _
end Sh

/-- Behind the limbs from j on: they are moved down; below j the limbs are as they were. -/
def DownInv (g M : Nat) (w : World) (ys : List Int) (r j : Nat) (sp : Int) (os : List Int) (wr : World) : Prop :=
  Own wr g os ∧ os.length = M ∧ Nm.Limbs os ∧ (∀ t, t < j → os.getD t 0 = ys.getD t 0) ∧ Nm.val (os.drop j) = Nm.val (ys.drop j) / 2 ^ r ∧ sp = Nm.val (ys.drop j) % 2 ^ r * 2 ^ (64 - r) ∧ Below g w wr

theorem DownInv.step {g M : Nat} {w : World} {ys : List Int} {r t : Nat} {sp : Int} {os : List Int} {wr : World} (h : DownInv g M w ys r (t + 1) sp os wr) (hM : ys.length = M) (ht : t < M) {x s sp' : Int} (hx : x = ys.getD t 0) (hs0 : 0 ≤ s ∧ s < 18446744073709551616)
    (e1 : s + 18446744073709551616 * (Nm.val (ys.drop (t + 1)) / 2 ^ r) = (x + 18446744073709551616 * Nm.val (ys.drop (t + 1))) / 2 ^ r) (e2 : sp' = (x + 18446744073709551616 * Nm.val (ys.drop (t + 1))) % 2 ^ r * 2 ^ (64 - r)) :
    DownInv g M w ys r t sp' (os.set t s) (wr.setCell ⟨g, t, none⟩ (.int .u64 s)) := by
  obtain ⟨h1, h2, h3, h4, h5, h6, h7⟩ := h
  have hv := Sh.val_at ys t (by omega)
  rw [← hx] at hv
  refine ⟨h1.set t s, by simpa using h2, h3.set t hs0.1 hs0.2, ?_, ?_, by rw [hv]; exact e2, h7.setCell (p := ⟨g, t, none⟩) (Nat.le_refl _) _⟩
  · intro i hi
    rw [Nm.getD_set _ _ _ _ (by omega), if_neg (by omega)]
    exact h4 i (by omega)
  · rw [Sh.val_at (os.set t s) t (by simpa using (show t < os.length by omega)), Nm.getD_set _ _ _ _ (by omega), if_pos rfl, hv, ← e1]
    rw [List.drop_set_of_lt (by omega), h5]

theorem ret_shr {p : Option Addr} {a b : Nat} {l l' : Bool} (h : a = b) (hl : l = l') : Ending.returned (.tuple #[.slice p a a, .bool l, .int .i64 0]) = .returned (.tuple #[.slice p b b, .bool l', .int .i64 0]) := by rw [h, hl]

set_option maxRecDepth 100000 in
set_option maxHeartbeats 1000000 in
/-- From the number of its digits on nothing is left. -/
theorem shr_all (p : Option Addr) (n cap : Nat) (zs : List Int) (k : Int) (L : Nat) (w : World) (ha : Arg w p n cap zs) (tz : Nm.tsize zs ≤ 4096) (hk : 0 ≤ k) (hL : blen (Nm.trim zs) = (L : Int)) (hb : (L : Int) ≤ k) :
    Calls Tryz.prog 209 #[.slice p n cap, .int .i64 k] w fun e w' => e = .returned (.tuple #[.slice none 0 0, .bool (decide (0 < Nm.tsize zs)), .int .i64 0]) ∧ w' = w := by
  have HT := hid (lshift_ok p n cap zs k w ha tz hk)
  have HB := hid (bitLen_n L p _ _ (Nm.trim zs) w ha.trim' hL)
  clear hL ha
  go_enter Tryz.func209, Tryz.ntmps209
  go_wp2_with fail
  refine HT.out.mono ?_
  rintro e w' ⟨rfl, rfl⟩
  go_wp2_with fail
  refine HB.out.mono ?_
  rintro e w' ⟨rfl, rfl⟩
  go_wp2_with fail
  go_ret3
  exact ⟨by first | rfl | simp, rfl⟩

set_option maxRecDepth 100000 in
set_option maxHeartbeats 1000000 in
theorem shr_ok (p : Option Addr) (n cap : Nat) (zs : List Int) (kk : Int) (k L : Nat) (w : World) (ha : Arg w p n cap zs) (hT : Tab w) (tz : Nm.tsize zs ≤ 4096) (hkk : kk = (k : Int)) (hL : blen (Nm.trim zs) = (L : Int)) (hLt : L ≤ 64 * Nm.tsize zs) (hb : k < L) :
    Calls Tryz.prog 209 #[.slice p n cap, .int .i64 kk] w fun e w' => ∃ r os, e = .returned (.tuple #[.slice r (List.length os) (List.length os), .bool (decide (Nm.val zs % 2 ^ k ≠ 0)), .int .i64 0]) ∧ Ans w.heap.size w' r os (Nm.val zs / 2 ^ k) ∧ Below w.heap.size w w' := by
  have hk0 : 0 ≤ kk := by omega
  have T1 := lshift_ok p n cap zs kk w ha tz hk0
  have B1 := bitLen_n L p _ _ (Nm.trim zs) w ha.trim' hL
  have hvpos : 0 < Nm.val zs := by
    have h1 := (Nm.val_bd zs ha.2.2.2.2).1
    rcases (show Nm.val zs = 0 ∨ 0 < Nm.val zs by omega) with h | h
    · have := (Nm.tsize_zero_iff ha.2.2.2.2).2 h
      omega
    · exact h
  obtain ⟨N, HN⟩ : ∃ N, Hid (Nm.tsize zs = N) := ⟨_, rfl⟩
  rw [HN.out] at T1 B1 hLt
  have HT := hid T1
  have HB := hid B1
  have hN1 : N ≤ 4096 := by rw [← HN.out]; exact tz
  have hb1 : ¬ (L : Int) ≤ kk := by omega
  obtain ⟨sk, hsk⟩ : ∃ sk, k / 64 = sk := ⟨_, rfl⟩
  obtain ⟨r, hr⟩ : ∃ r, k % 64 = r := ⟨_, rfl⟩
  have r1 : kk / 64 = (sk : Int) := by omega
  have r2 : kk % 64 = (r : Int) := by omega
  have hr63 : r ≤ 63 := by omega
  have hskN : sk < N := by omega
  have hskN' : (sk : Int) < (N : Int) := by omega
  have hkb : kk ≤ 262144 := by omega
  have KE : Hid (k = 64 * sk + r) := by show _ = _; omega
  have KK := hid hkk
  have L1 := hid ((Nm.trim_length zs).trans HN.out)
  have A5 := hid ha.2.2.2.2.trim
  have AT := ha.trim'
  rw [HN.out] at AT
  have HAT := hid AT
  obtain ⟨b, off, rfl, hbw, HC⟩ := ha.2.2.2.1.trim.at (by rw [L1.out]; omega)
  have V := hid (Nm.val_trim zs)
  have LD : Hid (Lies w (some ⟨b, off + sk, none⟩) ((Nm.trim zs).drop sk)) := .inr ⟨b, off + sk, rfl, fun i hi => by
    rw [List.length_drop] at hi
    rw [show off + sk + i = off + (sk + i) by omega, HC.out (sk + i) (by omega)]
    simp [List.getD]⟩
  have YL : Hid (((Nm.trim zs).drop sk).length = N - sk) := by rw [Hid, List.length_drop, L1.out]
  have YY := hid (A5.out.drop sk)
  have HTAB := hid hT
  have HV := hid hvpos
  have QE : Hid (Nm.val zs / 2 ^ k = Nm.val ((Nm.trim zs).drop sk) / 2 ^ r) := by
    have h1 := Nm.val_drop (Nm.trim zs) sk (by rw [L1.out]; omega)
    have h2 := Nm.val_bd _ (A5.out.take sk)
    rw [List.length_take, L1.out, Nat.min_eq_left (by omega)] at h2
    have hp := Nm.pw_pos sk
    show _ = _
    rw [KE.out, Nm.two_add, ← Nm.pw_two, ← Int.ediv_ediv_of_nonneg (by omega), ← V.out, h1, Int.add_mul_ediv_left _ _ (by omega), Int.ediv_eq_zero_of_lt h2.1 h2.2, Int.zero_add]
  clear T1 B1 ha tz hL hkk hsk hr hT hvpos hLt hb AT
  go_enter Tryz.func209, Tryz.ntmps209
  go_wp2_with fail
  refine HT.out.mono ?_
  rintro e w' ⟨rfl, rfl⟩
  go_wp2_with fail
  refine HB.out.mono ?_
  rintro e w' ⟨rfl, rfl⟩
  go_wp2_with fail
  refine (widened_any _ (N - sk) _ 0 0 ((Nm.trim zs).drop sk) _ rfl YL.out (by omega) LD.out).mono ?_
  rintro e w1 ⟨rfl, ho, hb2, hz2⟩
  rw [List.replicate_zero, List.append_nil] at ho
  have I0 : DownInv w'.heap.size (N - sk) w' ((Nm.trim zs).drop sk) r (N - sk) 0 ((Nm.trim zs).drop sk) w1 := by
    have e : ((Nm.trim zs).drop sk).drop (N - sk) = [] := List.drop_eq_nil_of_le (by rw [YL.out]; omega)
    exact ⟨ho, YL.out, YY.out, fun _ _ => rfl, by rw [e]; simp [Nm.val], by rw [e]; simp [Nm.val], hb2⟩
  have HI0 := hid I0
  clear ho hb2 hz2 I0
  go_wp2_with fail
  go_loopw [11, 12] (fun a i wr => ∃ (j : Nat) (sp : Int) (os : List Int), j ≤ N - sk ∧ i = .int .i64 ((j : Int) - 1) ∧ a = .int .u64 sp ∧ DownInv w'.heap.size (N - sk) w' ((Nm.trim zs).drop sk) r j sp os wr) (fun _ i _ => (intOf i + 1).toNat)
  case atStart => exact ⟨N - sk, 0, _, Nat.le_refl _, by go_num, rfl, HI0.out⟩
  case round =>
    clear HI0
    obtain ⟨j, sp, os, hj, rfl, rfl, I⟩ := hrel
    by_cases hj0 : j = 0
    · subst hj0
      obtain ⟨i1, i2, i3, i4, i5, i6, i7⟩ := I
      rw [List.drop_zero, List.drop_zero] at i5
      have O1 := hid i1
      have O3 := hid i3
      have O5 : Hid (Nm.val os = Nm.val zs / 2 ^ k) := by rw [Hid, QE.out]; exact i5
      have O7 := hid i7
      have TR := hid (trimmed_any (some ⟨w'.heap.size, 0, none⟩) (N - sk) (N - sk) os wr i2 (Nat.le_refl _) (by omega) i1.lies)
      have TL := hid (trail_any _ N N (Nm.trim zs) wr (HAT.out.below i7 (Nat.le_refl _)) (HTAB.out.below i7))
      clear i1 i2 i3 i4 i5 i6 i7
      go_wp2_with fail
      refine TR.out.mono ?_
      rintro e w3 ⟨rfl, rfl⟩
      go_wp2_with fail
      refine TL.out.mono ?_
      rintro e w3 ⟨t, rfl, htr, rfl⟩
      rw [V.out] at htr
      have LO := hid (Sh.lost_iff (n := k) htr HV.out)
      clear htr
      go_wp2_with fail
      go_ret3
      refine ⟨some ⟨w'.heap.size, 0, none⟩, Nm.trim os, ret_shr (Nm.trim_length os).symm (by rw [KK.out]; exact LO.out), ⟨O1.out.lies.trim, O3.out.trim, ?_, ?_, ?_⟩, O7.out⟩
      · rw [Nm.trim_trim, Nm.trim_length]
      · rw [Nm.val_trim, O5.out]
      · intro a h
        cases h
        exact Nat.le_refl _
    · obtain ⟨t, rfl⟩ : ∃ t, j = t + 1 := ⟨j - 1, by omega⟩
      have hxo := I.2.2.2.1 t (by omega)
      obtain ⟨x, hxc, X⟩ : ∃ x, wr.cell? ⟨w'.heap.size, t, none⟩ = some (.int .u64 x) ∧ Hid (x = ((Nm.trim zs).drop sk).getD t 0) := ⟨_, I.1.cell t (by have := I.2.1; omega), hxo⟩
      have hfr := I.1.free t
      have hx0 := YY.out.at t
      rw [← X.out] at hx0
      obtain ⟨hx0, hx1⟩ := hx0
      obtain ⟨q, s, sp', u1, u2, u3, us, usp, E1, E2⟩ := Sh.down x (Nm.val (((Nm.trim zs).drop sk).drop (t + 1))) sp r hr63 hx0 hx1 I.2.2.2.2.2.1
      have I2 := I.step YL.out (by omega) X.out us E1.out E2.out
      have htN : (t : Int) < ((N - sk : Nat) : Int) := by omega
      clear I hxo E1 E2 us usp
      go_wp2
      go_roundw
      case rel => exact ⟨t, sp', _, by omega, by go_num, rfl, I2⟩
      case measure => simp [intOf]
end Go.Proofs.YtjkefcikepnbpaaGreatDoor

namespace Go.Proofs.YtjkefcikepnbpaaGreatDoor
open Go.RowKit Go.Deep

theorem one_bit (x : Int) (h0 : 0 ≤ x) (h1 : x < 18446744073709551616) : bits .and .u64 x 1 = x % 2 := by
  obtain ⟨n, rfl⟩ := Int.eq_ofNat_of_zero_le h0
  have h := bits_and_u64_nat n 1 (by omega) (by omega)
  have e : n &&& 1 = n % 2 := Nat.and_two_pow_sub_one_eq_mod n 1
  rw [e] at h
  rw [show (1 : Int) = ((1 : Nat) : Int) from rfl, h]
  omega

set_option maxRecDepth 100000 in
set_option maxHeartbeats 1000000 in
/-- One binary digit. -/
theorem bit_any (p : Option Addr) (n cap : Nat) (zs : List Int) (i : Nat) (ii : Int) (w : World) (ha : Arg w p n cap zs) (hi : ii ≤ 9223372036854775807) (hii : ii = (i : Int)) :
    Calls Tryz.prog 218 #[.slice p n cap, .int .i64 ii] w fun e w' => e = .returned (.int .i64 (Nm.val zs / 2 ^ i % 2)) ∧ w' = w := by
  obtain ⟨a1, a2, a3, a4, a5⟩ := ha
  have hi0 : 0 ≤ ii := by omega
  by_cases hk : n ≤ i / 64
  · have E : Hid (Nm.val zs / 2 ^ i % 2 = 0) := by
      have h1 := Nm.val_bd zs a5
      have h2 : Nm.pw zs.length ≤ 2 ^ i := by rw [Nm.pw_two]; exact Nm.two_mono (by omega)
      show _ = _
      rw [Int.ediv_eq_zero_of_lt h1.1 (by omega)]
      rfl
    have hk' : (n : Int) ≤ ii / 64 := by omega
    clear a1 a4 a5 hii hk
    go_enter Tryz.func218, Tryz.ntmps218
    go_wp2
    go_ret
    exact ⟨retI E.out.symm, rfl⟩
  · obtain ⟨k, hke⟩ : ∃ k, i / 64 = k := ⟨_, rfl⟩
    obtain ⟨r, hre⟩ : ∃ r, i % 64 = r := ⟨_, rfl⟩
    have hir : i = 64 * k + r := by omega
    have E := hid (Nm.bit_at zs i k r hir (by omega) a5 (by omega))
    obtain ⟨b, off, rfl, hc⟩ : ∃ b off, p = some ⟨b, off, none⟩ ∧ w.cell? ⟨b, off + k, none⟩ = some (.int .u64 (zs.getD k 0)) := by
      rcases a4 with h | ⟨b, off, hp, h⟩
      · rw [h] at a1
        simp at a1
        omega
      · exact ⟨b, off, hp, h k (by omega)⟩
    obtain ⟨x, X⟩ : ∃ x, Hid (x = zs.getD k 0) := ⟨_, rfl⟩
    rw [← X.out] at hc E
    have hx := a5.at k
    rw [← X.out] at hx
    obtain ⟨hx0, hx1⟩ := hx
    have q0 : 0 ≤ x / 2 ^ r := Int.ediv_nonneg hx0 (by have := Nm.two_pos r; omega)
    have q1 : x / 2 ^ r < 18446744073709551616 := by
      have : x / 2 ^ r ≤ x := Int.ediv_le_self _ hx0
      omega
    obtain ⟨y, hy⟩ : ∃ y, x / 2 ^ r = y := ⟨_, rfl⟩
    rw [hy] at q0 q1 E
    have hb := one_bit y q0 q1
    have h64 : ii / 64 = (k : Int) := by omega
    have h65 : ii % 64 = (r : Int) := by omega
    have hkn : (k : Int) < (n : Int) := by omega
    have hr63 : r ≤ 63 := by omega
    have y2 : 0 ≤ y % 2 := by omega
    have y3 : y % 2 ≤ 1 := by omega
    clear hir hke hre hk a1 a4 a5 X hii
    go_enter Tryz.func218, Tryz.ntmps218
    go_wp2
    go_ret
    exact ⟨retI E.out.symm, rfl⟩

theorem bit_neg (p : Option Addr) (n cap : Nat) (i : Int) (w : World) (hi : i < 0) :
    Calls Tryz.prog 218 #[.slice p n cap, .int .i64 i] w fun e w' => e = .returned (.int .i64 0) ∧ w' = w := by
  go_enter Tryz.func218, Tryz.ntmps218
  go_wp2
  go_ret
  exact ⟨rfl, rfl⟩
end Go.Proofs.YtjkefcikepnbpaaGreatDoor

namespace Go.Proofs.YtjkefcikepnbpaaGreatDoor
open Go.RowKit Go.Deep

theorem blen_trim_eq (zs : List Int) : blen (Nm.trim zs) = blen zs := by
  unfold blen
  rw [Nm.trim_trim]
  by_cases h : Nm.tsize zs = 0
  · rw [if_pos h, if_pos h]
  · rw [if_neg h, if_neg h]
    have e : (Nm.trim zs).getD (Nm.tsize zs - 1) 0 = zs.getD (Nm.tsize zs - 1) 0 := by rw [Nm.trim, Nm.getD_take, if_pos (by omega)]
    rw [e]

theorem pw_4096 : Nm.pw 4096 = 2 ^ 262144 := Nm.pw_two 4096

theorem two_lt {a b : Nat} (h : (2 : Int) ^ a < 2 ^ b) : a < b := by
  rcases Nat.lt_or_ge a b with h1 | h1
  · exact h1
  · have := Nm.two_mono h1
    omega

/-- So many digits as the number times 2^k. -/
theorem BLen.up {v : Int} {L : Nat} (k : Nat) (h : Nm.BLen v L) (hv : 0 < v) : Nm.BLen (v * 2 ^ k) (L + k) := by
  have hp := Nm.two_pos k
  have h1 := h.2.2 hv
  refine ⟨?_, fun h0 => ?_, fun _ => ⟨by omega, ?_⟩⟩
  · rw [Nm.two_add]
    exact Int.mul_lt_mul_of_pos_right h.1 hp
  · rcases Int.mul_eq_zero.1 h0 with h2 | h2 <;> omega
  · rw [show L + k - 1 = L - 1 + k by omega, Nm.two_add]
    exact Int.mul_le_mul_of_nonneg_right h1.2 (by omega)

theorem Trl.up {v : Int} {t : Nat} (k : Nat) (h : Nm.Trl v t) (hv : 0 < v) : Nm.Trl (v * 2 ^ k) (t + k) := by
  rcases h with ⟨h, _⟩ | ⟨m, hm⟩
  · omega
  · right
    exact ⟨m, by rw [hm, Nm.two_add, Int.mul_right_comm]⟩

theorem tsize_pos {zs : List Int} (hz : Nm.Limbs zs) (hv : 0 < Nm.val zs) : 0 < Nm.tsize zs := by
  rcases Nat.eq_zero_or_pos (Nm.tsize zs) with h | h
  · have := (Nm.tsize_zero_iff hz).1 h
    omega
  · exact h

theorem shl_any (p : Option Addr) (n cap : Nat) (zs : List Int) (kk : Int) (k : Nat) (w : World) (ha : Arg w p n cap zs) (tz : Nm.tsize zs ≤ 4096) (hkk : kk = (k : Int)) (hb : Nm.val zs * 2 ^ k < Nm.pw 4096) :
    Calls Tryz.prog 58 #[.slice p n cap, .int .i64 kk] w fun e w' => ∃ r os, e = .returned (.tuple #[.slice r (List.length os) (List.length os), .int .i64 0]) ∧ Ans w.heap.size w' r os (Nm.val zs * 2 ^ k) ∧ Below w.heap.size w w' := by
  have hv0 := (Nm.val_bd zs ha.2.2.2.2).1
  by_cases hz : Nm.tsize zs = 0
  · have hv := (Nm.tsize_zero_iff ha.2.2.2.2).1 hz
    refine (shl_zero p n cap zs kk w ha (by omega) hz).mono ?_
    rintro e w' ⟨rfl, rfl⟩
    exact ⟨none, [], rfl, ⟨Lies.nil _ _, Nm.Limbs.nil, rfl, by rw [hv, Int.zero_mul]; rfl, fun a h => by cases h⟩, Below.refl _ _⟩
  · obtain ⟨L, hL, BL, _, _⟩ := blen_is zs ha.2.2.2.2
    rw [← blen_trim_eq] at hL
    have hv : 0 < Nm.val zs := by
      rcases (show Nm.val zs = 0 ∨ 0 < Nm.val zs by omega) with h | h
      · exact absurd ((Nm.tsize_zero_iff ha.2.2.2.2).2 h) hz
      · exact h
    have hu := (BLen.up k BL hv).2.2 (Int.mul_pos hv (Nm.two_pos k))
    rw [pw_4096] at hb
    have hlt := two_lt (show (2 : Int) ^ (L + k - 1) < 2 ^ 262144 by omega)
    exact shl_ok p n cap zs kk k L w ha tz hkk (by omega) hL (by omega)

theorem shl_over (p : Option Addr) (n cap : Nat) (zs : List Int) (kk : Int) (k : Nat) (w : World) (ha : Arg w p n cap zs) (tz : Nm.tsize zs ≤ 4096) (hkk : kk = (k : Int)) (hk1 : kk ≤ 9223372036854775807) (hb : Nm.pw 4096 ≤ Nm.val zs * 2 ^ k) :
    Calls Tryz.prog 58 #[.slice p n cap, .int .i64 kk] w fun e w' => e = .returned (.tuple #[.slice none 0 0, .int .i64 2]) ∧ w' = w := by
  have hv0 := (Nm.val_bd zs ha.2.2.2.2).1
  have hp := Nm.pw_pos 4096
  have hv : 0 < Nm.val zs := by
    rcases (show Nm.val zs = 0 ∨ 0 < Nm.val zs by omega) with h | h
    · rw [h, Int.zero_mul] at hb; omega
    · exact h
  obtain ⟨L, hL, BL, _, _⟩ := blen_is zs ha.2.2.2.2
  rw [← blen_trim_eq] at hL
  have hu := (BLen.up k BL hv).1
  rw [pw_4096] at hb
  have hlt := two_lt (show (2 : Int) ^ 262144 < 2 ^ (L + k) by omega)
  exact shl_big p n cap zs kk L w ha tz (by omega) hk1 (tsize_pos ha.2.2.2.2 hv) hL (by omega)

theorem shr_any (p : Option Addr) (n cap : Nat) (zs : List Int) (kk : Int) (k : Nat) (w : World) (ha : Arg w p n cap zs) (hT : Tab w) (tz : Nm.tsize zs ≤ 4096) (hkk : kk = (k : Int)) :
    Calls Tryz.prog 209 #[.slice p n cap, .int .i64 kk] w fun e w' => ∃ r os, e = .returned (.tuple #[.slice r (List.length os) (List.length os), .bool (decide (Nm.val zs % 2 ^ k ≠ 0)), .int .i64 0]) ∧ Ans w.heap.size w' r os (Nm.val zs / 2 ^ k) ∧ Below w.heap.size w w' := by
  obtain ⟨L, hL, BL, hl, _⟩ := blen_is zs ha.2.2.2.2
  have hv0 := (Nm.val_bd zs ha.2.2.2.2).1
  rw [← blen_trim_eq] at hL
  by_cases hb : k < L
  · exact shr_ok p n cap zs kk k L w ha hT tz hkk hL hl hb
  · have hlt : Nm.val zs < 2 ^ k := by
      have := BL.1
      have := Nm.two_mono (show L ≤ k by omega)
      omega
    refine (shr_all p n cap zs kk L w ha tz (by omega) hL (by omega)).mono ?_
    rintro e w' ⟨rfl, rfl⟩
    refine ⟨none, [], ?_, ⟨Lies.nil _ _, Nm.Limbs.nil, rfl, by rw [Int.ediv_eq_zero_of_lt hv0 hlt]; rfl, fun a h => by cases h⟩, Below.refl _ _⟩
    have e : decide (0 < Nm.tsize zs) = decide (Nm.val zs % 2 ^ k ≠ 0) := by
      rw [Int.emod_eq_of_lt hv0 hlt, Bool.eq_iff_iff]
      simp only [decide_eq_true_eq]
      have := Nm.tsize_zero_iff ha.2.2.2.2
      omega
    rw [e]
    rfl
end Go.Proofs.YtjkefcikepnbpaaGreatDoor

/-
  ieee: scaled, roundsUp.
-/
namespace Go.Proofs.YtjkefcikepnbpaaGreatDoor
open Go Go.RowKit Go.Deep

theorem toU_is (p : Option Addr) (n cap : Nat) (zs : List Int) (w : World) (ha : Arg w p n cap zs) (V : Int) (hV : Nm.val zs = V) (h : V < 18446744073709551616) :
    Calls Tryz.prog 150 #[.slice p n cap] w fun e w' => e = .returned (.tuple #[.int .u64 V, .bool true]) ∧ w' = w := by
  have h1 := toUint_any p n cap zs w ha
  rw [toU_val ha.2.2.2.2 (by rw [hV]; exact h), hV] at h1
  have h2 : Nm.tsize zs ≤ 1 := (Nm.tsize_le_iff ha.2.2.2.2 1).2 (by rw [hV]; exact h)
  simpa [h2] using h1

set_option maxRecDepth 100000 in
set_option maxHeartbeats 1000000 in
theorem scaled_up (p : Option Addr) (n cap : Nat) (zs : List Int) (w : World) (ha : Arg w p n cap zs) (V s : Int) (j : Nat) (hV : Nm.val zs = V) (hs : s = (j : Int)) (hj : 0 < j) (hj2 : j ≤ 64) (h : V * 2 ^ j < 18446744073709551616) :
    Calls Tryz.prog 210 #[.slice p n cap, .int .i64 s] w fun e w' => e = .returned (.int .u64 (V * 2 ^ j)) ∧ w' = w := by
  subst hs
  have v0 : 0 ≤ V := by rw [← hV]; exact (Nm.val_bd zs ha.2.2.2.2).1
  have hp := Nm.two_pos j
  have v1 : V < 18446744073709551616 := by
    have : V * 1 ≤ V * 2 ^ j := Int.mul_le_mul_of_nonneg_left (by omega) v0
    omega
  have T := hid (toU_is p n cap zs w ha V hV v1)
  have m0 : 0 ≤ V * 2 ^ j := Int.mul_nonneg v0 (by omega)
  have W : IntKind.u64.wrap (V * 2 ^ j) = V * 2 ^ j := by rw [IntKind.wrap_u64]; omega
  have hj' : (0 : Int) < (j : Int) := by omega
  have hj3 : (j : Int) ≤ 64 := by omega
  clear ha hV hp v1 h m0 hj
  go_enter Tryz.func210, Tryz.ntmps210
  go_wp2_with fail
  refine T.out.mono ?_
  rintro e w' ⟨rfl, rfl⟩
  go_wp2_with fail
  go_ret
  exact ⟨rfl, rfl⟩

set_option maxRecDepth 100000 in
set_option maxHeartbeats 1000000 in
theorem scaled_down (p : Option Addr) (n cap : Nat) (zs : List Int) (w : World) (ha : Arg w p n cap zs) (hT : Tab w) (tz : Nm.tsize zs ≤ 4096) (V s : Int) (k : Nat) (hV : Nm.val zs = V) (hs : s = -(k : Int)) (hk : k ≤ 8000000) (h : V / 2 ^ k < 18446744073709551616) :
    Calls Tryz.prog 210 #[.slice p n cap, .int .i64 s] w fun e w' => e = .returned (.int .u64 (V / 2 ^ k)) ∧ Below w.heap.size w w' := by
  subst hs
  have H := hid (fun (kk : Int) (hkk : kk = (k : Int)) => shr_any p n cap zs kk k w ha hT tz hkk)
  have hk0 : ¬ (0 : Int) < -(k : Int) := by omega
  have hk1 : (k : Int) ≤ 8000000 := by omega
  have HV := hid hV
  have HH := hid h
  clear ha hT tz hV h hk
  go_enter Tryz.func210, Tryz.ntmps210
  go_wp2_with fail
  refine (H.out _ (by omega)).mono ?_
  rintro e w' ⟨r, os, rfl, A, hB⟩
  rw [HV.out] at A
  have A1 : os.length ≤ 17592186044416 := by
    have := (Nm.tsize_le_iff A.2.1 1).2 (by rw [A.2.2.2.1]; exact HH.out)
    rw [A.2.2.1] at this
    omega
  have T := hid (toU_is r _ _ os w' (A.arg A1) _ A.2.2.2.1 HH.out)
  have HB := hid hB
  clear A A1 hB H
  go_wp2_with fail
  refine T.out.mono ?_
  rintro e w'' ⟨rfl, rfl⟩
  go_wp2_with fail
  go_ret
  exact ⟨rfl, HB.out⟩

theorem up_none (p : Option Addr) (n cap : Nat) (w : World) (s : Int) (half : Bool) (hs : s ≤ 0) (hs2 : -8000000 ≤ s) :
    Calls Tryz.prog 211 #[.slice p n cap, .int .i64 s, .bool half] w fun e w' => e = .returned (.bool false) ∧ w' = w := by
  have H := hid (fun (i : Int) (hi : i < 0) => bit_neg p n cap i w hi)
  go_enter Tryz.func211, Tryz.ntmps211
  go_wp2_with fail
  refine (H.out _ (by omega)).mono ?_
  rintro e w' ⟨rfl, rfl⟩
  go_wp2_with fail
  go_ret
  exact ⟨rfl, rfl⟩

set_option maxRecDepth 100000 in
set_option maxHeartbeats 1000000 in
theorem up_some (p : Option Addr) (n cap : Nat) (zs : List Int) (w : World) (ha : Arg w p n cap zs) (hT : Tab w) (V s : Int) (k : Nat) (half : Bool) (hV : Nm.val zs = V) (hv : 0 < V) (hs : s = (k : Int) + 1) (hk : k ≤ 8000000) :
    Calls Tryz.prog 211 #[.slice p n cap, .int .i64 s, .bool half] w fun e w' => ∃ up, e = .returned (.bool up) ∧ (up = true ↔ (V / 2 ^ k % 2 = 1 ∧ (half = true ∨ V % 2 ^ k ≠ 0))) ∧ w' = w := by
  subst hs
  obtain ⟨b, hb⟩ : ∃ b, V / 2 ^ k % 2 = b := ⟨_, rfl⟩
  have H : Hid (∀ i : Int, i = (k : Int) → Calls Tryz.prog 218 #[.slice p n cap, .int .i64 i] w fun e w' => e = .returned (.int .i64 b) ∧ w' = w) := by
    intro i hi
    have := bit_any p n cap zs k i w ha (by omega) hi
    rw [hV, hb] at this
    exact this
  have T := hid (trail_any p n cap zs w ha hT)
  have HV := hid hV
  have hb2 : b = 0 ∨ b = 1 := by omega
  have HB := hid hb
  have hvv := hid hv
  have hk1 : (k : Int) ≤ 8000000 := by omega
  clear ha hT hV hb hv hk
  rcases hb2 with rfl | rfl
  · go_enter Tryz.func211, Tryz.ntmps211
    go_wp2_with fail
    refine (H.out _ (by omega)).mono ?_
    rintro e w' ⟨rfl, rfl⟩
    go_wp2_with fail
    go_ret
    exact ⟨false, rfl, ⟨fun h => (by cases h), fun h => (by have := HB.out; omega)⟩, rfl⟩
  · cases half
    · go_enter Tryz.func211, Tryz.ntmps211
      go_wp2_with fail
      refine (H.out _ (by omega)).mono ?_
      rintro e w' ⟨rfl, rfl⟩
      go_wp2_with fail
      refine T.out.mono ?_
      rintro e w' ⟨t, rfl, ht, rfl⟩
      rw [HV.out] at ht
      have E := hid (Sh.lost_iff (n := k) ht hvv.out)
      clear ht
      go_wp2_with fail
      go_ret
      refine ⟨_, rfl, ?_, rfl⟩
      have E1 : (t : Int) < (k : Int) ↔ V % 2 ^ k ≠ 0 := by simpa only [decide_eq_decide] using E.out
      rw [decide_eq_true_iff]
      constructor
      · intro h
        exact ⟨HB.out, .inr (E1.1 (by omega))⟩
      · rintro ⟨_, h | h⟩
        · cases h
        · have := E1.2 h
          omega
    · go_enter Tryz.func211, Tryz.ntmps211
      go_wp2_with fail
      refine (H.out _ (by omega)).mono ?_
      rintro e w' ⟨rfl, rfl⟩
      go_wp2_with fail
      go_ret
      refine ⟨true, rfl, ?_, rfl⟩
      have := HB.out
      simp [this]
end Go.Proofs.YtjkefcikepnbpaaGreatDoor

/-
  ieee: nearest (made by mknear.py).
-/
namespace Go.Proofs.YtjkefcikepnbpaaGreatDoor
open Go Go.RowKit Go.Deep

set_option maxRecDepth 100000 in
set_option maxHeartbeats 2000000 in
theorem nearest_up (p : Option Addr) (n cap : Nat) (zs : List Int) (w : World) (ha : Arg w p n cap zs) (hT : Tab w) (tz : Nm.tsize zs ≤ 4096) (V e u : Int) (L j U : Nat) (more : Bool) (hV : Nm.val zs = V) (hL : blen zs = (L : Int)) (hL0 : 0 < L) (hL2 : L ≤ 262144) (hbig : (L : Int) + e ≤ 1024) (hsm : -8000000 ≤ e)
    (hj : e - u = (j : Int)) (hj2 : j ≤ 64) (hU : u + 1074 = (U : Int)) (hU2 : U ≤ 2045) (hm : V * 2 ^ j < 9007199254740992) (hmax : ((L : Int) + e - 53 < -1074 ∧ u = -1074) ∨ (-1074 ≤ (L : Int) + e - 53 ∧ u = (L : Int) + e - 53)) :
    Calls Tryz.prog 204 #[.slice p n cap, .int .i64 e, .bool more] w fun r w' => r = .returned (.int .u64 ((U : Int) * 4503599627370496 + V * 2 ^ j)) ∧ Below w.heap.size w w' := by
  have v0 : 0 ≤ V := by rw [← hV]; exact (Nm.val_bd zs ha.2.2.2.2).1
  have BL : Hid (Calls Tryz.prog 77 #[.slice p n cap] w fun e w' => e = .returned (.int .i64 (L : Int)) ∧ w' = w) := by
    have := bitLen_any p n cap zs w ha
    rw [hL] at this
    exact this
  obtain ⟨m, hme⟩ : ∃ m, V * 2 ^ j = m := ⟨_, rfl⟩
  have SC : Hid (∀ s : Int, s = (j : Int) → Calls Tryz.prog 210 #[.slice p n cap, .int .i64 s] w fun e w' => e = .returned (.int .u64 m) ∧ Below w.heap.size w w') := by
    intro s hs
    rcases Nat.eq_zero_or_pos j with hj0 | hj0
    · subst hj0
      have e1 : V / 2 ^ 0 = m := by rw [← hme, Int.pow_zero, Int.mul_one, Int.ediv_one]
      have := scaled_down p n cap zs w ha hT tz V s 0 hV (by omega) (by omega) (by rw [e1]; omega)
      rw [e1] at this
      exact this
    · have := scaled_up p n cap zs w ha V s j hV hs hj0 hj2 (by omega)
      rw [hme] at this
      refine this.mono ?_
      rintro e' w' ⟨rfl, rfl⟩
      exact ⟨rfl, Below.refl _ _⟩
  have RU := hid (fun (wx : World) (s : Int) (half : Bool) (h : s ≤ 0) (h2 : -8000000 ≤ s) => up_none p n cap wx s half h h2)
  have m0 : 0 ≤ m := by rw [← hme]; exact Int.mul_nonneg v0 (by have := Nm.two_pos j; omega)
  rw [hme] at hm ⊢
  have B := Ib.one_and m m0 (by omega)
  have l0 : ((L : Int) == 0) = false := by rw [beq_eq_false_iff_ne]; omega
  have l1 : ¬ 1024 < (L : Int) + e := by omega
  have l2 : (L : Int) ≤ 262144 := by omega
  clear ha hV hL hme hL2 v0 hT tz
  rcases hmax with ⟨h, rfl⟩ | ⟨h, rfl⟩ <;> cases more
  · go_enter Tryz.func204, Tryz.ntmps204
    go_wp2_with fail
    refine BL.out.mono ?_
    rintro e' w' ⟨rfl, rfl⟩
    go_wp2_with fail
    refine (SC.out _ (by omega)).mono ?_
    rintro e' w' ⟨rfl, HB⟩
    have HB := hid HB
    go_wp2_with fail
    refine (RU.out _ _ _ (by omega) (by omega)).mono ?_
    rintro e' w' ⟨rfl, rfl⟩
    go_wp2_with fail
    go_ret
    exact ⟨i_retU (by omega), HB.out⟩
  · go_enter Tryz.func204, Tryz.ntmps204
    go_wp2_with fail
    refine BL.out.mono ?_
    rintro e' w' ⟨rfl, rfl⟩
    go_wp2_with fail
    refine (SC.out _ (by omega)).mono ?_
    rintro e' w' ⟨rfl, HB⟩
    have HB := hid HB
    go_wp2_with fail
    refine (RU.out _ _ _ (by omega) (by omega)).mono ?_
    rintro e' w' ⟨rfl, rfl⟩
    go_wp2_with fail
    go_ret
    exact ⟨i_retU (by omega), HB.out⟩
  · go_enter Tryz.func204, Tryz.ntmps204
    go_wp2_with fail
    refine BL.out.mono ?_
    rintro e' w' ⟨rfl, rfl⟩
    go_wp2_with fail
    refine (SC.out _ (by omega)).mono ?_
    rintro e' w' ⟨rfl, HB⟩
    have HB := hid HB
    go_wp2_with fail
    refine (RU.out _ _ _ (by omega) (by omega)).mono ?_
    rintro e' w' ⟨rfl, rfl⟩
    go_wp2_with fail
    go_ret
    exact ⟨i_retU (by omega), HB.out⟩
  · go_enter Tryz.func204, Tryz.ntmps204
    go_wp2_with fail
    refine BL.out.mono ?_
    rintro e' w' ⟨rfl, rfl⟩
    go_wp2_with fail
    refine (SC.out _ (by omega)).mono ?_
    rintro e' w' ⟨rfl, HB⟩
    have HB := hid HB
    go_wp2_with fail
    refine (RU.out _ _ _ (by omega) (by omega)).mono ?_
    rintro e' w' ⟨rfl, rfl⟩
    go_wp2_with fail
    go_ret
    exact ⟨i_retU (by omega), HB.out⟩

set_option maxRecDepth 100000 in
set_option maxHeartbeats 2000000 in
theorem nearest_down (p : Option Addr) (n cap : Nat) (zs : List Int) (w : World) (ha : Arg w p n cap zs) (hT : Tab w) (tz : Nm.tsize zs ≤ 4096) (V e u : Int) (L k U : Nat) (more : Bool) (hV : Nm.val zs = V) (hv : 0 < V) (hL : blen zs = (L : Int)) (hL0 : 0 < L) (hL2 : L ≤ 262144) (hbig : (L : Int) + e ≤ 1024) (hsm : -7000000 ≤ e)
    (hk : u - e = (k : Int) + 1) (hU : u + 1074 = (U : Int)) (hU2 : U ≤ 2045) (hm : V / 2 ^ (k + 1) < 9007199254740992) (hmax : ((L : Int) + e - 53 < -1074 ∧ u = -1074) ∨ (-1074 ≤ (L : Int) + e - 53 ∧ u = (L : Int) + e - 53)) :
    Calls Tryz.prog 204 #[.slice p n cap, .int .i64 e, .bool more] w fun r w' => ∃ up : Bool, r = .returned (.int .u64 ((U : Int) * 4503599627370496 + V / 2 ^ (k + 1) + if up = true then 1 else 0)) ∧
      (up = true ↔ (V / 2 ^ k % 2 = 1 ∧ ((more = true ∨ V / 2 ^ (k + 1) % 2 = 1) ∨ V % 2 ^ k ≠ 0))) ∧ Below w.heap.size w w' := by
  have BL : Hid (Calls Tryz.prog 77 #[.slice p n cap] w fun e w' => e = .returned (.int .i64 (L : Int)) ∧ w' = w) := by
    have := bitLen_any p n cap zs w ha
    rw [hL] at this
    exact this
  obtain ⟨m, hme⟩ : ∃ m, V / 2 ^ (k + 1) = m := ⟨_, rfl⟩
  have SC : Hid (∀ s : Int, s = -((k + 1 : Nat) : Int) → Calls Tryz.prog 210 #[.slice p n cap, .int .i64 s] w fun e w' => e = .returned (.int .u64 m) ∧ Below w.heap.size w w') := by
    intro s hs
    have := scaled_down p n cap zs w ha hT tz V s (k + 1) hV hs (by omega) (by omega)
    rw [hme] at this
    exact this
  have RS : Hid (∀ w' : World, Below w.heap.size w w' → ∀ (s : Int) (half : Bool), s = (k : Int) + 1 → Calls Tryz.prog 211 #[.slice p n cap, .int .i64 s, .bool half] w' fun e w'' => ∃ up, e = .returned (.bool up) ∧ (up = true ↔ (V / 2 ^ k % 2 = 1 ∧ (half = true ∨ V % 2 ^ k ≠ 0))) ∧ w'' = w') := by
    intro w' hB s half hs
    exact up_some p n cap zs w' (ha.below hB (Nat.le_refl _)) (hT.below hB) V s k half hV hv hs (by omega)
  have m0 : 0 ≤ m := by rw [← hme]; exact Int.ediv_nonneg (by omega) (by have := Nm.two_pos (k + 1); omega)
  rw [hme] at hm ⊢
  have B := Ib.one_and m m0 (by omega)
  have l0 : ((L : Int) == 0) = false := by rw [beq_eq_false_iff_ne]; omega
  have l1 : ¬ 1024 < (L : Int) + e := by omega
  have l2 : (L : Int) ≤ 262144 := by omega
  clear ha hV hL hme hL2 hT tz hv
  rcases hmax with ⟨h, rfl⟩ | ⟨h, rfl⟩ <;> cases more
  · go_enter Tryz.func204, Tryz.ntmps204
    go_wp2_with fail
    refine BL.out.mono ?_
    rintro e' w' ⟨rfl, rfl⟩
    go_wp2_with fail
    refine (SC.out _ (by omega)).mono ?_
    rintro e' w' ⟨rfl, HB⟩
    have RU := hid (RS.out w' HB)
    have HB := hid HB
    go_wp2_with fail
    refine (RU.out _ _ (by omega)).mono ?_
    rintro e' w'' ⟨up, rfl, hup, rfl⟩
    have UP := hid hup
    clear hup
    cases up
    · go_wp2_with fail
      go_ret
      exact ⟨false, i_retU (by simp; omega), by simpa using UP.out, HB.out⟩
    · go_wp2_with fail
      go_ret
      exact ⟨true, i_retU (by simp; omega), by simpa using UP.out, HB.out⟩
  · go_enter Tryz.func204, Tryz.ntmps204
    go_wp2_with fail
    refine BL.out.mono ?_
    rintro e' w' ⟨rfl, rfl⟩
    go_wp2_with fail
    refine (SC.out _ (by omega)).mono ?_
    rintro e' w' ⟨rfl, HB⟩
    have RU := hid (RS.out w' HB)
    have HB := hid HB
    go_wp2_with fail
    refine (RU.out _ _ (by omega)).mono ?_
    rintro e' w'' ⟨up, rfl, hup, rfl⟩
    have UP := hid hup
    clear hup
    cases up
    · go_wp2_with fail
      go_ret
      exact ⟨false, i_retU (by simp; omega), by simpa using UP.out, HB.out⟩
    · go_wp2_with fail
      go_ret
      exact ⟨true, i_retU (by simp; omega), by simpa using UP.out, HB.out⟩
  · go_enter Tryz.func204, Tryz.ntmps204
    go_wp2_with fail
    refine BL.out.mono ?_
    rintro e' w' ⟨rfl, rfl⟩
    go_wp2_with fail
    refine (SC.out _ (by omega)).mono ?_
    rintro e' w' ⟨rfl, HB⟩
    have RU := hid (RS.out w' HB)
    have HB := hid HB
    go_wp2_with fail
    refine (RU.out _ _ (by omega)).mono ?_
    rintro e' w'' ⟨up, rfl, hup, rfl⟩
    have UP := hid hup
    clear hup
    cases up
    · go_wp2_with fail
      go_ret
      exact ⟨false, i_retU (by simp; omega), by simpa using UP.out, HB.out⟩
    · go_wp2_with fail
      go_ret
      exact ⟨true, i_retU (by simp; omega), by simpa using UP.out, HB.out⟩
  · go_enter Tryz.func204, Tryz.ntmps204
    go_wp2_with fail
    refine BL.out.mono ?_
    rintro e' w' ⟨rfl, rfl⟩
    go_wp2_with fail
    refine (SC.out _ (by omega)).mono ?_
    rintro e' w' ⟨rfl, HB⟩
    have RU := hid (RS.out w' HB)
    have HB := hid HB
    go_wp2_with fail
    refine (RU.out _ _ (by omega)).mono ?_
    rintro e' w'' ⟨up, rfl, hup, rfl⟩
    have UP := hid hup
    clear hup
    cases up
    · go_wp2_with fail
      go_ret
      exact ⟨false, i_retU (by simp; omega), by simpa using UP.out, HB.out⟩
    · go_wp2_with fail
      go_ret
      exact ⟨true, i_retU (by simp; omega), by simpa using UP.out, HB.out⟩

set_option maxRecDepth 100000 in
theorem nearest_any (p : Option Addr) (n cap : Nat) (zs : List Int) (w : World) (ha : Arg w p n cap zs) (hT : Tab w) (tz : Nm.tsize zs ≤ 4096) (V e : Int) (more : Bool) (hV : Nm.val zs = V) (h0 : -7000000 ≤ e) (h1 : e ≤ 7000000) :
    Calls Tryz.prog 204 #[.slice p n cap, .int .i64 e, .bool more] w fun r w' => ∃ x, r = .returned (.int .u64 x) ∧ Ie.Rnd V 1 e more x ∧ Below w.heap.size w w' := by
  obtain ⟨L, hL, BL, hl, _⟩ := blen_is zs ha.2.2.2.2
  have v0 : 0 ≤ V := by rw [← hV]; exact (Nm.val_bd zs ha.2.2.2.2).1
  rw [hV] at BL
  have hL2 : L ≤ 262144 := by omega
  have B : Hid (Calls Tryz.prog 77 #[.slice p n cap] w fun e w' => e = .returned (.int .i64 (L : Int)) ∧ w' = w) := by
    have := bitLen_any p n cap zs w ha
    rw [hL] at this
    exact this
  rcases (show V = 0 ∨ 0 < V by omega) with hv | hv
  · have hL0 : L = 0 := BL.2.1 hv
    subst hL0
    have R := hid (Ie.rnd_zero 1 e more (by omega))
    rw [hv]
    clear ha hT tz hV hL BL hl hL2 v0 hv
    go_enter Tryz.func204, Tryz.ntmps204
    go_wp2_with fail
    refine B.out.mono ?_
    rintro e' w' ⟨rfl, rfl⟩
    go_wp2_with fail
    go_ret
    exact ⟨0, rfl, R.out, Below.refl _ _⟩
  · obtain ⟨hL1, hp⟩ := BL.2.2 hv
    rcases (show 1024 < (L : Int) + e ∨ (L : Int) + e ≤ 1024 by omega) with hb | hb
    · have R := hid (Ie.rnd_inf V 1 e (L - 1) 0 more hp (by decide) (by omega))
      have l0 : ((L : Int) == 0) = false := by rw [beq_eq_false_iff_ne]; omega
      have l2 : (L : Int) ≤ 262144 := by omega
      clear ha hT tz hV hL BL hl hL2 v0 hv hp hL1
      go_enter Tryz.func204, Tryz.ntmps204
      go_wp2_with fail
      refine B.out.mono ?_
      rintro e' w' ⟨rfl, rfl⟩
      go_wp2_with fail
      go_ret
      exact ⟨_, rfl, R.out, Below.refl _ _⟩
    · obtain ⟨u, hu⟩ : ∃ u : Int, ((L : Int) + e - 53 < -1074 ∧ u = -1074) ∨ (-1074 ≤ (L : Int) + e - 53 ∧ u = (L : Int) + e - 53) := by
        rcases (show (L : Int) + e - 53 < -1074 ∨ -1074 ≤ (L : Int) + e - 53 by omega) with h | h
        · exact ⟨_, .inl ⟨h, rfl⟩⟩
        · exact ⟨_, .inr ⟨h, rfl⟩⟩
      obtain ⟨U, hU⟩ : ∃ U : Nat, u + 1074 = (U : Int) := ⟨(u + 1074).toNat, by omega⟩
      have e53 : (2 : Int) ^ 53 = 9007199254740992 := by decide
      rcases (show u ≤ e ∨ e < u by omega) with hd | hd
      · obtain ⟨j, hj⟩ : ∃ j : Nat, e - u = (j : Int) := ⟨(e - u).toNat, by omega⟩
        have hj53 : L + j ≤ 53 := by omega
        have hm : V * 2 ^ j < 9007199254740992 := by
          have g1 : V * 2 ^ j < 2 ^ (L + j) := by rw [Nm.two_add]; exact Int.mul_lt_mul_of_pos_right BL.1 (Nm.two_pos j)
          have g2 := Nm.two_mono hj53
          omega
        refine (nearest_up p n cap zs w ha hT tz V e u L j U more hV hL (by omega) hL2 hb (by omega) hj (by omega) hU (by omega) hm hu).mono ?_
        rintro r w' ⟨rfl, hB⟩
        exact ⟨_, rfl, Ie.rnd_exact V e L j U more hv hp hL1 BL.1 hj53 (by omega) (by omega) (by omega), hB⟩
      · obtain ⟨k, hk⟩ : ∃ k : Nat, u - e = (k : Int) + 1 := ⟨(u - e - 1).toNat, by omega⟩
        have hk53 : L ≤ k + 1 + 53 := by omega
        have hm : V / 2 ^ (k + 1) < 9007199254740992 := by
          rw [Int.ediv_lt_iff_lt_mul (Nm.two_pos _)]
          have g := Nm.two_mono hk53
          rw [Nm.two_add, e53] at g
          rw [Int.mul_comm]
          have := BL.1
          omega
        refine (nearest_down p n cap zs w ha hT tz V e u L k U more hV hv hL (by omega) hL2 hb (by omega) hk hU (by omega) hm hu).mono ?_
        rintro r w' ⟨up, rfl, hup, hB⟩
        refine ⟨_, rfl, Ie.rnd_cut V e L (k + 1) U more up hv hp hL1 BL.1 (by omega) (by omega) (by omega) (by omega) ?_, hB⟩
        rw [hup, Nat.add_sub_cancel]
        constructor
        · rintro ⟨g1, (g | g) | g⟩
          · exact ⟨by omega, g1, .inl g⟩
          · exact ⟨by omega, g1, .inr (.inl g)⟩
          · exact ⟨by omega, g1, .inr (.inr g)⟩
        · rintro ⟨_, g1, g | g | g⟩
          · exact ⟨g1, .inl (.inl g)⟩
          · exact ⟨g1, .inl (.inr g)⟩
          · exact ⟨g1, .inr g⟩
end Go.Proofs.YtjkefcikepnbpaaGreatDoor

/-
  ieee: Round.
-/
namespace Go.Proofs.YtjkefcikepnbpaaGreatDoor
open Go Go.RowKit Go.Deep

namespace Ie
theorem win_ok {n d e x : Int} {more : Bool} (L M : Nat) (n0 : 0 ≤ n) (hn : n < 2 ^ L) (d0 : 0 < d) (hd : d ≤ 2 ^ M) (hL : L ≤ 262144) (hM : M ≤ 262144) (h : Rnd n d (win e) more x) : Rnd n d e more x := by
  rcases (show win e = e ∨ (win e = 2097152 ∧ 2097152 < e) ∨ (win e = -2097152 ∧ e < -2097152) by simp only [win]; omega) with g | ⟨g, g'⟩ | ⟨g, g'⟩
  · rw [g] at h; exact h
  · rw [g] at h
    rcases (show n = 0 ∨ 0 < n by omega) with h0 | h0
    · subst h0
      have := h.one d0 d0 (rnd_zero d 2097152 more d0) (a := 0) (a' := 0) (by omega) rfl
      rw [this]
      exact rnd_zero d e more d0
    · have p0 : (2 : Int) ^ 0 ≤ n := by rw [Int.pow_zero]; omega
      have := h.one d0 d0 (rnd_inf n d 2097152 0 M more p0 hd (by omega)) (a := 0) (a' := 0) (by omega) rfl
      rw [this]
      exact rnd_inf n d e 0 M more p0 hd (by omega)
  · rw [g] at h
    have p0 : (2 : Int) ^ 0 ≤ d := by rw [Int.pow_zero]; omega
    have := h.one d0 d0 (rnd_small n d (-2097152) L 0 more hn p0 (by omega)) (a := 0) (a' := 0) (by omega) rfl
    rw [this]
    exact rnd_small n d e L 0 more hn p0 (by omega)

theorem win_bd (e : Int) : -2097152 ≤ win e ∧ win e ≤ 2097152 := by simp only [win]; omega
end Ie
end Go.Proofs.YtjkefcikepnbpaaGreatDoor

/-
  ieee: Round.
-/
namespace Go.Proofs.YtjkefcikepnbpaaGreatDoor
open Go Go.RowKit Go.Deep


set_option maxRecDepth 100000 in
set_option maxHeartbeats 2000000 in
theorem round_any (neg : Bool) (p : Option Addr) (n cap : Nat) (zs : List Int) (w : World) (ha : Arg w p n cap zs) (hT : Tab w) (tz : Nm.tsize zs ≤ 4096) (V e : Int) (more : Bool) (hV : Nm.val zs = V) :
    Calls Tryz.prog 200 #[.bool neg, .slice p n cap, .int .i64 e, .bool more] w fun r w' => ∃ x, r = .returned (.tuple #[.int .u64 (Ie.sg neg x), .int .i64 0]) ∧ Ie.Rnd V 1 e more x ∧ Below w.heap.size w w' := by
  obtain ⟨L, hL, BL, hl, _⟩ := blen_is zs ha.2.2.2.2
  rw [hV] at BL
  have B1 := hid (bitLen_n L p n cap zs w ha hL)
  have v0 : 0 ≤ V := by rw [← hV]; exact (Nm.val_bd zs ha.2.2.2.2).1
  have WI := hid (fun (x : Int) => Ie.win_ok (n := V) (d := 1) (e := e) (x := x) (more := more) L 0 v0 BL.1 (by omega) (by decide) (by omega) (by omega))
  have W0 := hid (within_any e w)
  obtain ⟨we, hwe⟩ : ∃ we, Ie.win e = we := ⟨_, rfl⟩
  have wb := Ie.win_bd e
  rw [hwe] at wb W0 WI
  have NR := hid (nearest_any p n cap zs w ha hT tz V we more hV (by omega) (by omega))
  have l1 : decide (262144 < (L : Int)) = false := by simp; omega
  clear ha hT tz hV hL BL hl v0 hwe wb
  go_enter Tryz.func200, Tryz.ntmps200
  go_wp2_with fail
  refine B1.out.mono ?_
  rintro e' w' ⟨rfl, rfl⟩
  go_wp2_with fail
  refine W0.out.mono ?_
  rintro e' w' ⟨rfl, rfl⟩
  go_wp2_with fail
  refine NR.out.mono ?_
  rintro e' w1 ⟨x, rfl, R, hB⟩
  have bd := R.bd
  have R1 := hid (WI.out x R)
  have SG := hid (signed_any neg x w1 bd.1 (by omega))
  have HB := hid hB
  clear R bd hB
  go_wp2_with fail
  refine SG.out.mono ?_
  rintro e' w2 ⟨rfl, rfl⟩
  go_wp2_with fail
  go_ret2
  exact ⟨x, rfl, R1.out, HB.out⟩
end Go.Proofs.YtjkefcikepnbpaaGreatDoor

namespace Go.Proofs.YtjkefcikepnbpaaGreatDoor
open Go Go.RowKit Go.Deep

/-- Two limbs in a box, three limbs in a box. -/
def At2 (w : World) (b : Nat) (x y : Int) : Prop := w.heap[b]? = some (.cells #[.int .u64 x, .int .u64 y] 249 (0, 0))
def At3 (w : World) (b : Nat) (x y z : Int) : Prop := w.heap[b]? = some (.cells #[.int .u64 x, .int .u64 y, .int .u64 z] 247 (0, 0))
def wideV (x y : Int) : Value := .agg #[.int .u64 x, .int .u64 y]
def prodV (x y z : Int) : Value := .agg #[.int .u64 x, .int .u64 y, .int .u64 z]

theorem At2.below {B : Nat} {w w' : World} {b : Nat} {x y : Int} (h : At2 w b x y) (hB : Below B w w') (hb : b < B) : At2 w' b x y := by
  rw [At2, hB.block b hb]; exact h
theorem At3.below {B : Nat} {w w' : World} {b : Nat} {x y z : Int} (h : At3 w b x y z) (hB : Below B w w') (hb : b < B) : At3 w' b x y z := by
  rw [At3, hB.block b hb]; exact h
theorem At2.lt {w : World} {b : Nat} {x y : Int} (h : At2 w b x y) : b < w.heap.size := by
  rcases Nat.lt_or_ge b w.heap.size with hl | hl
  · exact hl
  · simp [At2, Array.getElem?_eq_none hl] at h
theorem At3.lt {w : World} {b : Nat} {x y z : Int} (h : At3 w b x y z) : b < w.heap.size := by
  rcases Nat.lt_or_ge b w.heap.size with hl | hl
  · exact hl
  · simp [At3, Array.getElem?_eq_none hl] at h
theorem At2.cells {w : World} {b : Nat} {x y : Int} (h : At2 w b x y) :
    (w.cell? ⟨b, 0, none⟩ = some (.int .u64 x) ∧ w.cell? ⟨b, 1, none⟩ = some (.int .u64 y)) ∧ w.frozen? ⟨b, 0, none⟩ = false ∧ w.frozen? ⟨b, 1, none⟩ = false := by
  simp only [At2] at h
  refine ⟨⟨?_, ?_⟩, ?_, ?_⟩ <;> simp [World.cell?, World.frozen?, h]
theorem At3.cells {w : World} {b : Nat} {x y z : Int} (h : At3 w b x y z) :
    (w.cell? ⟨b, 0, none⟩ = some (.int .u64 x) ∧ w.cell? ⟨b, 1, none⟩ = some (.int .u64 y) ∧ w.cell? ⟨b, 2, none⟩ = some (.int .u64 z)) ∧ w.frozen? ⟨b, 0, none⟩ = false ∧ w.frozen? ⟨b, 1, none⟩ = false ∧ w.frozen? ⟨b, 2, none⟩ = false := by
  simp only [At3] at h
  refine ⟨⟨?_, ?_, ?_⟩, ?_, ?_, ?_⟩ <;> simp [World.cell?, World.frozen?, h]
theorem At2.arg {w : World} {b : Nat} {x y : Int} (h : At2 w b x y) (x0 : 0 ≤ x) (x1 : x < 18446744073709551616) (y0 : 0 ≤ y) (y1 : y < 18446744073709551616) : Arg w (some ⟨b, 0, none⟩) 2 2 [x, y] := by
  refine ⟨rfl, Nat.le_refl _, by omega, .inr ⟨b, 0, rfl, fun i hi => ?_⟩, Nm.Limbs.mk x0 x1 (Nm.Limbs.mk y0 y1 Nm.Limbs.nil)⟩
  obtain ⟨⟨c0, c1⟩, _⟩ := h.cells
  rcases (show i = 0 ∨ i = 1 by simp at hi; omega) with rfl | rfl
  · exact c0
  · exact c1
theorem At3.arg {w : World} {b : Nat} {x y z : Int} (h : At3 w b x y z) (x0 : 0 ≤ x) (x1 : x < 18446744073709551616) (y0 : 0 ≤ y) (y1 : y < 18446744073709551616) (z0 : 0 ≤ z) (z1 : z < 18446744073709551616) : Arg w (some ⟨b, 0, none⟩) 3 3 [x, y, z] := by
  refine ⟨rfl, Nat.le_refl _, by omega, .inr ⟨b, 0, rfl, fun i hi => ?_⟩, Nm.Limbs.mk x0 x1 (Nm.Limbs.mk y0 y1 (Nm.Limbs.mk z0 z1 Nm.Limbs.nil))⟩
  obtain ⟨⟨c0, c1, c2⟩, _⟩ := h.cells
  rcases (show i = 0 ∨ i = 1 ∨ i = 2 by simp at hi; omega) with rfl | rfl | rfl
  · exact c0
  · exact c1
  · exact c2

/-- The number of three limbs. -/
def n3 (a b c : Int) : Int := a + 18446744073709551616 * b + 340282366920938463463374607431768211456 * c
def n2 (a b : Int) : Int := a + 18446744073709551616 * b
def Bd (x : Int) : Prop := 0 ≤ x ∧ x < 18446744073709551616

theorem inTable_any (q : Int) (w : World) :
    Calls Tryz.prog 228 #[.int .i64 q] w fun e w' => e = .returned (.bool (decide (-342 ≤ q ∧ q ≤ 308))) ∧ w' = w := by
  by_cases h : -342 ≤ q
  · by_cases k : q ≤ 308
    · rw [decide_eq_true (show -342 ≤ q ∧ q ≤ 308 from ⟨h, k⟩)]
      go_enter Tryz.func228, Tryz.ntmps228
      go_wp2_with fail
      go_ret
      exact ⟨rfl, rfl⟩
    · rw [decide_eq_false (show ¬ (-342 ≤ q ∧ q ≤ 308) by omega)]
      go_enter Tryz.func228, Tryz.ntmps228
      go_wp2_with fail
      go_ret
      exact ⟨rfl, rfl⟩
  · rw [decide_eq_false (show ¬ (-342 ≤ q ∧ q ≤ 308) by omega)]
    go_enter Tryz.func228, Tryz.ntmps228
    go_wp2_with fail
    go_ret
    exact ⟨rfl, rfl⟩

theorem exact_any9 (q : Int) (w : World) :
    Calls Tryz.prog 230 #[.int .i64 q] w fun e w' => e = .returned (.bool (decide (0 ≤ q ∧ q ≤ 55))) ∧ w' = w := by
  by_cases h : 0 ≤ q
  · by_cases k : q ≤ 55
    · rw [decide_eq_true (show 0 ≤ q ∧ q ≤ 55 from ⟨h, k⟩)]
      go_enter Tryz.func230, Tryz.ntmps230
      go_wp2_with fail
      go_ret
      exact ⟨rfl, rfl⟩
    · rw [decide_eq_false (show ¬ (0 ≤ q ∧ q ≤ 55) by omega)]
      go_enter Tryz.func230, Tryz.ntmps230
      go_wp2_with fail
      go_ret
      exact ⟨rfl, rfl⟩
  · rw [decide_eq_false (show ¬ (0 ≤ q ∧ q ≤ 55) by omega)]
    go_enter Tryz.func230, Tryz.ntmps230
    go_wp2_with fail
    go_ret
    exact ⟨rfl, rfl⟩

set_option maxRecDepth 100000 in
set_option maxHeartbeats 1000000 in
theorem head_any (a b c : Int) (w : World) :
    Calls Tryz.prog 234 #[prodV a b c] w fun e w' => e = .returned (wideV b c) ∧ Below w.heap.size w w' := by
  unfold prodV wideV
  go_enter Tryz.func234, Tryz.ntmps234
  go_wp2_with fail
  refine bodyPost_ret (results_cell_row rfl _ _ (w.heap.size + 1) 249 _ (0, 0) _ rfl (heap_alloc2_new _ _ _) Tryz.underlying249 rfl (by kernel_rfl)) rfl ?_
  exact ⟨rfl, below_on (alloc_b _ _) (alloc_b _ _)⟩

theorem mid3 (w : World) (A B C : Obj) : (((w.alloc A).alloc B).alloc C).heap[w.heap.size + 1]? = some B := by
  rw [heap_alloc_old _ _ (by show w.heap.size + 1 < ((w.heap.push A).push B).size; simp)]
  exact heap_alloc2_new w A B

theorem times_num {w x y h l h2 l2 s c : Int} (w0 : Bd w) (x0 : Bd x) (y0 : Bd y) (hl : Bd h ∧ Bd l) (hl2 : Bd h2 ∧ Bd l2) (e1 : l + 18446744073709551616 * h = w * x) (e2 : l2 + 18446744073709551616 * h2 = w * y)
    (hs : s = (l2 + h + 0) % 18446744073709551616) (hc : c = (l2 + h + 0) / 18446744073709551616) : Bd (h2 + c) ∧ n3 l s (h2 + c) = w * n2 x y := by
  unfold Bd at *
  have hd : w * n2 x y = w * x + 18446744073709551616 * (w * y) := by unfold n2; rw [Int.mul_add, Int.mul_left_comm]
  have b1 : w * x ≤ 18446744073709551615 * 18446744073709551615 := Int.mul_le_mul (by omega) (by omega) (by omega) (by omega)
  have b2 : w * y ≤ 18446744073709551615 * 18446744073709551615 := Int.mul_le_mul (by omega) (by omega) (by omega) (by omega)
  rw [hd, ← e1, ← e2]
  rw [← e1] at b1
  rw [← e2] at b2
  unfold n3
  refine ⟨⟨by omega, by omega⟩, by omega⟩

set_option maxRecDepth 100000 in
set_option maxHeartbeats 1000000 in
theorem ptimes_any (v x y : Int) (w : World) (hv : Bd v) (hx : Bd x) (hy : Bd y) :
    Calls Tryz.prog 226 #[.int .u64 v, wideV x y] w fun e w' => ∃ a b c, e = .returned (prodV a b c) ∧ (Bd a ∧ Bd b ∧ Bd c) ∧ n3 a b c = v * n2 x y ∧ Below w.heap.size w w' := by
  have M1 := hid (fun wx => mul64 v x hv.1 hv.2 hx.1 hx.2 wx)
  have M2 := hid (fun wx => mul64 v y hv.1 hv.2 hy.1 hy.2 wx)
  have HV := hid (And.intro hv (And.intro hx hy))
  clear hv hx hy
  unfold prodV wideV
  go_enter Tryz.func226, Tryz.ntmps226
  go_wp2_with fail
  refine (M1.out _).mono ?_
  rintro e w1 ⟨h, l, rfl, b1, e1, _, rfl⟩
  have B1 := hid b1
  clear b1
  go_wp2_with fail
  refine (M2.out _).mono ?_
  rintro e w1 ⟨h2, l2, rfl, b2, e2, _, rfl⟩
  have b1 := B1.out
  obtain ⟨s, hs⟩ : ∃ s, s = (l2 + h + 0) % 18446744073709551616 := ⟨_, rfl⟩
  obtain ⟨c, hc⟩ : ∃ c, c = (l2 + h + 0) / 18446744073709551616 := ⟨_, rfl⟩
  have AD := add64' l2 h 0 s c (by omega) (by omega) (by omega) (by omega) hs hc
  have N := hid (times_num HV.out.1 HV.out.2.1 HV.out.2.2 ⟨⟨by omega, by omega⟩, by omega, by omega⟩ ⟨⟨by omega, by omega⟩, by omega, by omega⟩ e1.out e2.out hs hc)
  have F : Hid ((Bd l ∧ Bd s ∧ Bd (h2 + c)) ∧ n3 l s (h2 + c) = v * n2 x y) := ⟨⟨⟨by omega, by omega⟩, ⟨by omega, by omega⟩, N.out.1⟩, N.out.2⟩
  have c0 : 0 ≤ h2 + c := N.out.1.1
  have c1 : h2 + c < 18446744073709551616 := N.out.1.2
  clear e1 e2 hs hc b1 b2 N
  go_wp2_with fail
  refine bodyPost_ret (results_cell_row rfl _ _ (w.heap.size + 1) 247 _ (0, 0) _ rfl (mid3 _ _ _ _) Tryz.underlying247 rfl (by kernel_rfl)) rfl ?_
  exact ⟨_, _, _, rfl, F.out.1, F.out.2, below_on (below_on (alloc_b _ _) (alloc_b _ _)) (alloc_b _ _)⟩

theorem plus_num {a b c v s k s1 k1 : Int} (ha : Bd a) (hb : Bd b) (hc : Bd c) (hv : Bd v) (hN : n3 a b c + v < 6277101735386680763835789423207666416102355444464034512896)
    (hs : s = (a + v + 0) % 18446744073709551616) (hk : k = (a + v + 0) / 18446744073709551616) (hs1 : s1 = (b + 0 + k) % 18446744073709551616) (hk1 : k1 = (b + 0 + k) / 18446744073709551616) :
    (Bd s ∧ Bd s1 ∧ Bd (c + k1)) ∧ n3 s s1 (c + k1) = n3 a b c + v := by
  unfold Bd n3 at *
  refine ⟨⟨⟨by omega, by omega⟩, ⟨by omega, by omega⟩, by omega, by omega⟩, by omega⟩

set_option maxRecDepth 100000 in
set_option maxHeartbeats 1000000 in
theorem pplus_any (a b c v : Int) (w : World) (ha : Bd a) (hb : Bd b) (hc : Bd c) (hv : Bd v) (hN : n3 a b c + v < 6277101735386680763835789423207666416102355444464034512896) :
    Calls Tryz.prog 231 #[prodV a b c, .int .u64 v] w fun e w' => ∃ x y z, e = .returned (prodV x y z) ∧ (Bd x ∧ Bd y ∧ Bd z) ∧ n3 x y z = n3 a b c + v ∧ Below w.heap.size w w' := by
  obtain ⟨s, hs⟩ : ∃ s, s = (a + v + 0) % 18446744073709551616 := ⟨_, rfl⟩
  obtain ⟨k, hk⟩ : ∃ k, k = (a + v + 0) / 18446744073709551616 := ⟨_, rfl⟩
  obtain ⟨s1, hs1⟩ : ∃ s, s = (b + 0 + k) % 18446744073709551616 := ⟨_, rfl⟩
  obtain ⟨k1, hk1⟩ : ∃ k1, k1 = (b + 0 + k) / 18446744073709551616 := ⟨_, rfl⟩
  have F := hid (plus_num ha hb hc hv hN hs hk hs1 hk1)
  have A1 := add64' a v 0 s k ha.1 hv.1 (by omega) (by omega) hs hk
  have A2 := add64' b 0 k s1 k1 hb.1 (by omega) (by unfold Bd at *; omega) (by unfold Bd at *; omega) hs1 hk1
  have c0 : 0 ≤ c + k1 := F.out.1.2.2.1
  have c1 : c + k1 < 18446744073709551616 := F.out.1.2.2.2
  clear hs hk hs1 hk1 hN ha hb hc hv
  unfold prodV
  go_enter Tryz.func231, Tryz.ntmps231
  go_wp2_with fail
  refine bodyPost_ret (results_cell_row rfl _ _ (w.heap.size + 1) 247 _ (0, 0) _ rfl (heap_alloc2_new _ _ _) Tryz.underlying247 rfl (by kernel_rfl)) rfl ?_
  exact ⟨_, _, _, rfl, F.out.1, F.out.2, below_on (alloc_b _ _) (alloc_b _ _)⟩

theorem n3_val (a b c : Int) : Nm.val [a, b, c] = n3 a b c := by unfold n3; simp only [Nm.val]; omega
theorem n2_val (a b : Int) : Nm.val [a, b] = n2 a b := by unfold n2; simp only [Nm.val]; omega
theorem ts3 (a b c : Int) : Nm.tsize [a, b, c] ≤ 4096 := Nat.le_trans (Nm.tsize_le _) (by simp)
theorem ts2 (a b : Int) : Nm.tsize [a, b] ≤ 4096 := Nat.le_trans (Nm.tsize_le _) (by simp)

set_option maxRecDepth 100000 in
set_option maxHeartbeats 1000000 in
theorem pround_any (a b c e : Int) (w : World) (hT : Tab w) (h : Bd a ∧ Bd b ∧ Bd c) :
    Calls Tryz.prog 227 #[prodV a b c, .int .i64 e] w fun r w' => ∃ x, r = .returned (.int .u64 x) ∧ Ie.Rnd (n3 a b c) 1 e false x ∧ Below w.heap.size w w' := by
  have R := hid (round_any false (some ⟨w.heap.size, 0, none⟩) 3 3 [a, b, c] (w.alloc (.cells #[.int .u64 a, .int .u64 b, .int .u64 c] 247)) (At3.arg (heap_alloc_new w _) h.1.1 h.1.2 h.2.1.1 h.2.1.2 h.2.2.1 h.2.2.2) (hT.below (alloc_b _ _)) (ts3 _ _ _) (n3 a b c) e false (n3_val a b c))
  clear h hT
  unfold prodV
  go_enter Tryz.func227, Tryz.ntmps227
  go_wp2_with fail
  refine R.out.mono ?_
  rintro r w1 ⟨x, rfl, hR, hB⟩
  have F := hid (And.intro hR (below_on (alloc_b _ _) hB))
  clear hR hB
  unfold Ie.sg
  go_wp2_with fail
  go_ret
  exact ⟨x, rfl, F.out⟩

/-- Two products in their boxes. -/
def TP (w wx : World) (a b c x y z : Int) : Prop := Below w.heap.size w wx ∧ At3 wx w.heap.size a b c ∧ At3 wx (w.heap.size + 1) x y z
theorem TP.new (w : World) (a b c x y z : Int) : TP w ((w.alloc (.cells #[.int .u64 a, .int .u64 b, .int .u64 c] 247)).alloc (.cells #[.int .u64 x, .int .u64 y, .int .u64 z] 247)) a b c x y z :=
  ⟨below_on (alloc_b _ _) (alloc_b _ _), heap_alloc2_old _ _ _, heap_alloc2_new _ _ _⟩
theorem TP.on {w wx wy : World} {a b c x y z : Int} (h : TP w wx a b c x y z) (k : Below wx.heap.size wx wy) : TP w wy a b c x y z :=
  ⟨below_on h.1 k, h.2.1.below k h.2.1.lt, h.2.2.below k h.2.2.lt⟩
theorem TP.drew {w wx : World} {a b c x y z : Int} (h : TP w wx a b c x y z) : TP w wx.drew a b c x y z := ⟨⟨h.1.1, h.1.2, h.1.3, h.1.4, h.1.5⟩, h.2.1, h.2.2⟩
theorem TP.flat {w wx : World} {a b c x y z : Int} (h : TP w wx a b c x y z) :
    (wx.cell? ⟨w.heap.size, 0, none⟩ = some (.int .u64 a) ∧ wx.cell? ⟨w.heap.size, 1, none⟩ = some (.int .u64 b) ∧ wx.cell? ⟨w.heap.size, 2, none⟩ = some (.int .u64 c)) ∧
    wx.cell? ⟨w.heap.size + 1, 0, none⟩ = some (.int .u64 x) ∧ wx.cell? ⟨w.heap.size + 1, 1, none⟩ = some (.int .u64 y) ∧ wx.cell? ⟨w.heap.size + 1, 2, none⟩ = some (.int .u64 z) :=
  ⟨h.2.1.cells.1, h.2.2.cells.1⟩

theorem eq_wide (a b c d : Int) (w : World) : (Op.equalIn 10000 249 (.agg #[.int .u64 a, .int .u64 b]) (.agg #[.int .u64 c, .int .u64 d])).run Tryz.prog w = .ok (decide (a = c ∧ b = d)) w := by
  have u3 := Tryz.underlying22
  have a3 := Tryz.isAgg22
  have z3 := Tryz.sizeOf22
  rw [show (10000 : Nat) = 9999 + 1 from rfl, Op.equalIn]
  simp only [Sem.run_bind, run_underlying Tryz.underlying249, Result.andThen_ok]
  simp only [Std.Legacy.Range.forIn_eq_forIn_range', Std.Legacy.Range.size, Nat.sub_zero, Nat.add_sub_cancel, Nat.div_one, List.range'_succ, List.range'_zero, List.forIn_cons, List.forIn_nil]
  go_simp
  by_cases h1 : a = c <;> by_cases h2 : b = d <;> simp [h1, h2]

set_option maxRecDepth 100000 in
set_option maxHeartbeats 4000000 in
theorem same_any9 (a b c x y z : Int) (w : World) :
    Calls Tryz.prog 232 #[prodV a b c, prodV x y z] w fun r w' => r = .returned (.bool (decide (a ≠ 0 ∧ b = y ∧ c = z))) ∧ Below w.heap.size w w' := by
  have Z := hid (TP.new w a b c x y z)
  have H1 := hid (fun wx => head_any a b c wx)
  have H2 := hid (fun wx => head_any x y z wx)
  by_cases h : a = 0
  · subst h
    rw [decide_eq_false (show ¬ ((0 : Int) ≠ 0 ∧ b = y ∧ c = z) by omega)]
    clear H1 H2
    unfold prodV
    go_enter Tryz.func232, Tryz.ntmps232
    go_upto_region 1 with fail
    go_quiet (fail)
    all_goals go_wp2_with fail
    all_goals go_ret
    exact ⟨rfl, ⟨Z.out.1.1, Z.out.1.2, Z.out.1.3, Z.out.1.4, Z.out.1.5⟩⟩
  · have hb : (a == 0) = false := by rw [beq_eq_false_iff_ne]; exact h
    have hn : (a != 0) = true := by rw [bne, hb]; rfl
    have EQ := eq_wide b c y z
    have DE : decide (a ≠ 0 ∧ b = y ∧ c = z) = decide (b = y ∧ c = z) := by simp [h]
    rw [DE]
    obtain ⟨t, ht⟩ : ∃ t, decide (b = y ∧ c = z) = t := ⟨_, rfl⟩
    rw [ht] at EQ ⊢
    clear ht DE
    unfold wideV at H1 H2
    unfold prodV at *
    go_enter Tryz.func232, Tryz.ntmps232
    go_upto_region 1 with fail
    generalize ((w.alloc (Obj.cells #[Value.int IntKind.u64 a, Value.int IntKind.u64 b, Value.int IntKind.u64 c] 247)).alloc (Obj.cells #[Value.int IntKind.u64 x, Value.int IntKind.u64 y, Value.int IntKind.u64 z] 247)) = wz at *
    have ZD := hid Z.out.drew
    obtain ⟨⟨c0, c1, c2⟩, c3, c4, c5⟩ := ZD.out.flat
    go_region_held3 (fun wx => (wx.cell? ⟨w.heap.size, 0, none⟩ = some (.int .u64 a) ∧ wx.cell? ⟨w.heap.size, 1, none⟩ = some (.int .u64 b) ∧ wx.cell? ⟨w.heap.size, 2, none⟩ = some (.int .u64 c)) ∧ wx.cell? ⟨w.heap.size + 1, 0, none⟩ = some (.int .u64 x) ∧ wx.cell? ⟨w.heap.size + 1, 1, none⟩ = some (.int .u64 y) ∧ wx.cell? ⟨w.heap.size + 1, 2, none⟩ = some (.int .u64 z)) (first | (with_reducible exact Z2.out.flat) | (with_reducible exact Z1.out.flat) | (with_reducible exact ZD.out.flat)) (first
      | (go_at_call 234; first
        | (with_reducible refine (H1.out _).mono ?_; rintro r w2 ⟨rfl, hB⟩; first | (have Z2 := hid (Z1.out.on hB); clear hB) | (have Z1 := hid (ZD.out.on hB); clear hB))
        | (with_reducible refine (H2.out _).mono ?_; rintro r w2 ⟨rfl, hB⟩; first | (have Z2 := hid (Z1.out.on hB); clear hB) | (have Z1 := hid (ZD.out.on hB); clear hB))))
    all_goals go_wp2_with fail
    all_goals go_ret
    all_goals exact ⟨rfl, Z2.out.1⟩
end Go.Proofs.YtjkefcikepnbpaaGreatDoor

namespace Go.Proofs.YtjkefcikepnbpaaGreatDoor
open Go Go.RowKit Go.Deep

def lo64 (P : Int) : Int := P % 18446744073709551616
def hi64 (P : Int) : Int := P / 18446744073709551616
theorem n2_split (P : Int) : n2 (lo64 P) (hi64 P) = P := by unfold n2 lo64 hi64; omega
theorem bd_split {P : Int} (h0 : 0 ≤ P) (h1 : P < 340282366920938463463374607431768211456) : Bd (lo64 P) ∧ Bd (hi64 P) := by unfold Bd lo64 hi64; omega

theorem Ans.two {B : Nat} {w : World} {r : Option Addr} {os : List Int} {P : Int} (h : Ans B w r os P) (h0 : 170141183460469231731687303715884105728 ≤ P) (h1 : P < 340282366920938463463374607431768211456) :
    ∃ b off, os = [lo64 P, hi64 P] ∧ r = some ⟨b, off, none⟩ ∧ w.cell? ⟨b, off, none⟩ = some (.int .u64 (lo64 P)) ∧ w.cell? ⟨b, off + 1, none⟩ = some (.int .u64 (hi64 P)) ∧ B ≤ b ∧ b < w.heap.size := by
  obtain ⟨hl, hz, ht, hv, hb⟩ := h
  have hx : os = [lo64 P, hi64 P] := by
    match os, hz, ht, hv with
    | [], _, _, hv => simp [Nm.val] at hv; omega
    | [x], hz, _, hv =>
      have := hz x (by simp)
      simp [Nm.val] at hv
      omega
    | [x, y], hz, _, hv =>
      have := hz x (by simp)
      have := hz y (by simp)
      simp [Nm.val] at hv
      unfold lo64 hi64
      congr 1
      · omega
      · congr 1; omega
    | x :: y :: z :: l, hz, ht, hv =>
      exfalso
      have k := (Nm.tsize_le_iff hz 2).2 (by rw [hv]; simp [Nm.pw]; omega)
      rw [ht] at k
      simp at k
  subst hx
  rcases hl with hl | ⟨b, off, hp, hc⟩
  · simp at hl
  · have c0 := hc 0 (by simp)
    have c1 := hc 1 (by simp)
    refine ⟨b, off, rfl, hp, c0, c1, hb _ hp, ?_⟩
    exact cell_lt c0

/-- The room for the row. -/
def RR (w wx : World) (x y : Int) : Prop := Below w.heap.size w wx ∧ At2 wx w.heap.size x y
theorem RR.new (w : World) : RR w (w.alloc (.cells #[.int .u64 0, .int .u64 0] 249)) 0 0 := ⟨alloc_b _ _, heap_alloc_new _ _⟩
theorem RR.on {w wx wy : World} {x y : Int} (h : RR w wx x y) (k : Below wx.heap.size wx wy) : RR w wy x y := ⟨below_on h.1 k, h.2.below k h.2.lt⟩
theorem RR.drew {w wx : World} {x y : Int} (h : RR w wx x y) : RR w wx.drew x y := ⟨⟨h.1.1, h.1.2, h.1.3, h.1.4, h.1.5⟩, h.2⟩
theorem RR.put {w wx : World} {x y : Int} (h : RR w wx x y) (u v : Int) : RR w ((wx.setCell ⟨w.heap.size, 0, none⟩ (.int .u64 u)).setCell ⟨w.heap.size, 1, none⟩ (.int .u64 v)) u v := by
  refine ⟨(h.1.setCell (p := ⟨w.heap.size, 0, none⟩) (Nat.le_refl _) _).setCell (p := ⟨w.heap.size, 1, none⟩) (Nat.le_refl _) _, ?_⟩
  have h0 := set1 (o := 0) (v := .int .u64 u) (c' := #[.int .u64 u, .int .u64 y]) h.2 (by simp [Array.setIfInBounds])
  exact set1 (o := 1) (v := .int .u64 v) (c' := #[.int .u64 u, .int .u64 v]) h0 (by simp [Array.setIfInBounds])

def RowTold (q : Int) (w : World) (e : Ending) (w' : World) : Prop := e = .returned (.tuple #[wideV (lo64 (Ie.rowP q)) (hi64 (Ie.rowP q)), .int .i64 (Ie.rowE q)]) ∧ Below w.heap.size w w'

theorem five_pw {n : Nat} (h : n ≤ 342) : (5 : Int) ^ n < Nm.pw 4096 := by
  have g := Ie.five_le h
  have k : (5 : Int) ^ 342 < 2 ^ 800 := by decide +kernel
  have e := Nm.pw_two 4096
  have m := Nm.two_mono (show 800 ≤ 64 * 4096 by decide)
  rw [e]
  generalize (2 : Int) ^ 800 = x at *
  generalize (2 : Int) ^ (64 * 4096) = y at *
  omega

theorem arg_lit9 {w : World} {g : Nat} {x : Int} (h : w.heap[g]? = some (.cells #[.int .u64 x] 22 (0, 0))) (h0 : 0 ≤ x) (h1 : x < 18446744073709551616) : Arg w (some ⟨g, 0, none⟩) 1 1 [x] := by
  refine ⟨rfl, Nat.le_refl _, by omega, .inr ⟨g, 0, rfl, fun i hi => ?_⟩, Nm.Limbs.mk h0 h1 Nm.Limbs.nil⟩
  obtain rfl : i = 0 := by simpa using hi
  simp [World.cell?, h]

theorem two_pw {u : Nat} (h : u < 262144) : (2 : Int) ^ u < Nm.pw 4096 := by
  have g := Nm.two_mono (show u + 1 ≤ 64 * 4096 by omega)
  rw [Nm.pw_two]
  rw [Int.pow_succ] at g
  have := Nm.two_pos u
  generalize (2 : Int) ^ u = x at *
  generalize (2 : Int) ^ (64 * 4096) = y at *
  omega

set_option maxRecDepth 100000 in
set_option maxHeartbeats 2000000 in
theorem rowBelow_any (k : Int) (n : Nat) (w : World) (hk : k = (n : Int)) (n0 : 0 < n) (n1 : n ≤ 342) :
    Calls Tryz.prog 233 #[.int .i64 k] w fun e w' => RowTold (-k) w e w' := by
  have P5 := hid (fun wx => pow5_gives k n wx hk (by omega))
  have f1 := hid (five_pw n1)
  have RE : Hid (Ie.rowE (-k) = -((Ie.bl n : Int) + 127)) := by rw [Hid, Ie.rowE, if_neg (by omega), show (-(-k)).toNat = n by omega]
  have RP : Hid (Ie.rowP (-k) = 2 ^ (Ie.bl n + 127) / 5 ^ n) := by rw [Hid, Ie.rowP, if_neg (by omega), show (-(-k)).toNat = n by omega]
  have RI := hid (Ie.row_is (q := -k) (by omega) (by omega))
  have LB := hid (Ie.row_len n1 (Ie.bl_is n))
  have Z := hid (RR.new w)
  clear hk n0 n1
  go_enter Tryz.func233, Tryz.ntmps233
  go_wp2_with fail
  refine (P5.out _).mono ?_
  rintro e w1 ⟨h | h, hB⟩
  · obtain ⟨h1, r, os, rfl, A⟩ := h
    have Z1 := hid (Z.out.on hB)
    have ag := A.argT f1.out
    have ts := A.tsT f1.out
    obtain ⟨L, hL, BL, _, _⟩ := blen_is os ag.2.2.2.2
    rw [A.2.2.2.1] at BL
    have hLe : L = Ie.bl n := BL.unique (by have := Ie.five_pos n; omega) (Ie.bl_is n)
    have BN := hid (bitLen_n L r os.length os.length os w1 ag hL)
    have lb := LB.out
    rw [← hLe] at lb RE RP
    have l0 : (1 : Int) ≤ L := by omega
    have l1 : (L : Int) ≤ 800 := by omega
    obtain ⟨up, hup⟩ : ∃ up : Nat, up = L + 127 := ⟨_, rfl⟩
    rw [← hup] at RP
    have e1 : (L : Int) + 128 - 1 = (up : Int) := by omega
    have AL : Hid (Arg (w1.alloc (.cells #[.int .u64 1] 22)) (some ⟨w1.heap.size, 0, none⟩) 1 1 [1]) := arg_lit9 (heap_alloc_new _ _) (by omega) (by omega)
    have SL : Hid (Calls Tryz.prog 58 #[.slice (some ⟨w1.heap.size, 0, none⟩) 1 1, .int .i64 (up : Int)] (w1.alloc (.cells #[.int .u64 1] 22)) fun e w' => ∃ r os, e = .returned (.tuple #[.slice r (List.length os) (List.length os), .int .i64 0]) ∧ Ans w1.heap.size w' r os (2 ^ up) ∧ Below w1.heap.size w1 w') := by
      obtain ⟨M, hM, BM, _, _⟩ := blen_is (Nm.trim [1]) AL.out.2.2.2.2.trim
      have hv : Nm.val (Nm.trim [1]) = 1 := by decide
      rw [hv] at BM
      have hm : M ≤ 1 := by
        have := BM.2.2 (by omega)
        rcases (show M ≤ 1 ∨ 2 ≤ M by omega) with g | g
        · exact g
        · have := Nm.two_mono (show 1 ≤ M - 1 by omega)
          omega
      refine (shl_ok _ 1 1 [1] (up : Int) up M _ AL.out (by decide) rfl (by decide) hM (by omega)).mono ?_
      rintro e w' ⟨r, os, rfl, A2, hB2⟩
      rw [show Nm.val [1] = 1 by decide, Int.one_mul] at A2
      exact ⟨r, os, rfl, A2.up (alloc_b _ _).size, below_on (alloc_b _ _) hB2⟩
    have GA := hid ag
    have TS := hid ts
    have AA := hid A
    have tp : Hid ((2 : Int) ^ up < Nm.pw 4096) := two_pw (by omega)
    clear hB h1 ag ts hL BL hLe lb LB A AL P5 hup Z
    go_wp2_with fail
    refine BN.out.mono ?_
    rintro e w' ⟨rfl, rfl⟩
    go_wp2_with fail
    refine SL.out.mono ?_
    rintro e w2 ⟨r2, os2, rfl, A2, hB2⟩
    have Z2 := hid (Z1.out.on hB2)
    have DM := hid (divMod_ok r2 r _ _ _ _ os2 os w2 (A2.argT tp.out) (GA.out.below hB2 (Nat.le_refl _)) (A2.tsT tp.out) TS.out (by
      rcases Nat.eq_zero_or_pos (Nm.tsize os) with g | g
      · have := (Nm.tsize_zero_iff GA.out.2.2.2.2).1 g
        have := AA.out.2.2.2.1
        have := Ie.five_pos n
        omega
      · exact g))
    rw [A2.2.2.2.1, AA.out.2.2.2.1] at DM
    clear A2 hB2 SL BN GA TS AA tp f1 Z1
    go_wp2_with fail
    refine DM.out.mono ?_
    rintro e w3 ⟨r3, os3, r4, os4, rfl, A3, _, hB3⟩
    have Z3 := hid (Z2.out.on hB3)
    rw [← RP.out] at A3
    obtain ⟨b, off, rfl, rfl, c0, c1, b0, b1⟩ := A3.two RI.out.lo RI.out.hi
    obtain ⟨⟨d0, d1⟩, g0, g1⟩ := Z3.out.drew.2.cells
    obtain ⟨⟨d0', d1'⟩, g0', g1'⟩ := Z3.out.2.cells
    have k0 : w3.drew.cell? ⟨b, off, none⟩ = some (.int .u64 (lo64 (Ie.rowP (-k)))) := c0
    have k1 : w3.drew.cell? ⟨b, off + 1, none⟩ = some (.int .u64 (hi64 (Ie.rowP (-k)))) := c1
    have ne : b ≠ w.heap.size := by have := Z2.out.2.lt; omega
    have F : Hid (∀ w', Below w.heap.size w w' → RowTold (-k) w (.returned (.tuple #[.agg #[.int .u64 (lo64 (Ie.rowP (-k))), .int .u64 (hi64 (Ie.rowP (-k)))], .int .i64 (-(up : Int))])) w') := fun w' h => ⟨by rw [RE.out, ← e1, show -((L : Int) + 127) = -((L : Int) + 128 - 1) by omega]; rfl, h⟩
    have u0 : (0 : Int) ≤ up := by omega
    have u1 : (up : Int) ≤ 1000 := by omega
    generalize lo64 (Ie.rowP (-k)) = x at *
    generalize hi64 (Ie.rowP (-k)) = y at *
    clear c0 c1 A3 hB3 DM RI RE RP Z2 b0 b1 e1 l0 l1
    go_upto_region 5 with fail
    go_region
    all_goals go_wp2_with fail
    refine bodyPost_ret (results_row_tmp rfl _ _ w.heap.size 249 _ (0, 0) _ rfl (Z3.out.put _ _).drew.2 Tryz.underlying249 rfl (by kernel_rfl)) rfl ?_
    exact F.out _ (Z3.out.put _ _).drew.1
  · exfalso
    have := f1.out
    have := h.1
    omega
set_option maxRecDepth 100000 in
set_option maxHeartbeats 2000000 in
theorem row_any (q : Int) (w : World) (hT : Tab w) (q0 : -342 ≤ q) (q1 : q ≤ 308) :
    Calls Tryz.prog 229 #[.int .i64 q] w fun e w' => RowTold q w e w' := by
  have Z := hid (RR.new w)
  by_cases hq : q < 0
  · have RB := hid (fun wx => rowBelow_any (-q) (-q).toNat wx (by omega) (by omega) (by omega))
    rw [Int.neg_neg] at RB
    clear q1 hT
    go_enter Tryz.func229, Tryz.ntmps229
    go_wp2_with fail
    refine (RB.out _).mono ?_
    rintro e w3 ⟨rfl, hB⟩
    have Z3 := hid (Z.out.on hB)
    have F : Hid (∀ w', Below w.heap.size w w' → RowTold q w (.returned (.tuple #[.agg #[.int .u64 (lo64 (Ie.rowP q)), .int .u64 (hi64 (Ie.rowP q))], .int .i64 (Ie.rowE q)])) w') := fun w' h => ⟨rfl, h⟩
    unfold wideV
    obtain ⟨⟨d0, d1⟩, g0, g1⟩ := Z3.out.2.cells
    generalize lo64 (Ie.rowP q) = x at *
    generalize hi64 (Ie.rowP q) = y at *
    generalize Ie.rowE q = ee at *
    clear hB RB Z
    go_wp2_with fail
    (try simp only [Exit.inBlock, Exit.then])
    refine bodyPost_ret (results_row_tmp rfl _ _ w.heap.size 249 _ (0, 0) _ rfl (Z3.out.put _ _).2 Tryz.underlying249 rfl (by kernel_rfl)) rfl ?_
    exact F.out _ (Z3.out.put _ _).1
  · obtain ⟨n, hn⟩ := Int.eq_ofNat_of_zero_le (show 0 ≤ q by omega)
    have P5 := hid (fun wx => pow5_gives q n wx hn (by omega))
    have f1 := hid (five_pw (show n ≤ 342 by omega))
    have RE : Hid (Ie.rowE q = (Ie.bl n : Int) - 128) := by rw [Hid, Ie.rowE, if_pos (by omega), show q.toNat = n by omega]
    have RI := hid (Ie.row_is (q := q) (by omega) (by omega))
    have LB := hid (Ie.row_len (show n ≤ 342 by omega) (Ie.bl_is n))
    have R1 : Hid (Ie.bl n < 128 → Ie.rowP q = 5 ^ n * 2 ^ (128 - Ie.bl n)) := fun h => by rw [Ie.rowP, if_pos (by omega), show q.toNat = n by omega, if_pos (by omega)]
    have R2 : Hid (128 ≤ Ie.bl n → Ie.rowP q = 5 ^ n / 2 ^ (Ie.bl n - 128)) := fun h => by
      rw [Ie.rowP, if_pos (by omega), show q.toNat = n by omega]
      split
      · rw [show Ie.bl n - 128 = 0 by omega, show 128 - Ie.bl n = 0 by omega]; simp
      · rfl
    have HT := hid hT
    clear hn hT
    have hq0 : 0 ≤ q := by omega
    go_enter Tryz.func229, Tryz.ntmps229
    go_wp2_with fail
    refine (P5.out _).mono ?_
    rintro e w1 ⟨h | h, hB⟩
    · obtain ⟨h1, r, os, rfl, A⟩ := h
      have Z1 := hid (Z.out.on hB)
      have ag := A.argT f1.out
      have ts := A.tsT f1.out
      obtain ⟨L, hL, BL, hL64, _⟩ := blen_is os ag.2.2.2.2
      have tz : 0 < Nm.tsize os := by
        rcases Nat.eq_zero_or_pos (Nm.tsize os) with g | g
        · have := (Nm.tsize_zero_iff ag.2.2.2.2).1 g
          have := A.2.2.2.1
          have := Ie.five_pos n
          omega
        · exact g
      have hLt : blen (Nm.trim os) = (L : Int) := by
        rw [show Nm.trim os = os by unfold Nm.trim; rw [A.2.2.1, List.take_length]]; exact hL
      have hv := A.2.2.2.1
      rw [hv] at BL
      have hLe : L = Ie.bl n := BL.unique (by have := Ie.five_pos n; omega) (Ie.bl_is n)
      have BN := hid (bitLen_n L r os.length os.length os w1 ag hL)
      have lb := LB.out
      rw [← hLe] at lb RE R1 R2
      have l0 : (1 : Int) ≤ L := by omega
      have l1 : (L : Int) ≤ 800 := by omega
      by_cases h128 : L < 128
      · have RP := hid (R1.out h128)
        obtain ⟨kk, hkk⟩ : ∃ kk : Nat, kk = 128 - L := ⟨_, rfl⟩
        rw [← hkk] at RP
        have e1 : -((L : Int) - 128) = (kk : Int) := by omega
        have e2 : (L : Int) - 128 < 0 := by omega
        have SL : Hid (Calls Tryz.prog 58 #[.slice r (List.length os) (List.length os), .int .i64 (kk : Int)] w1 fun e w' => ∃ r os, e = .returned (.tuple #[.slice r (List.length os) (List.length os), .int .i64 0]) ∧ Ans w1.heap.size w' r os (Ie.rowP q) ∧ Below w1.heap.size w1 w') := by
          refine (shl_ok r _ _ os (kk : Int) kk L w1 ag ts rfl tz hLt (by omega)).mono ?_
          rintro e w' ⟨r, os, rfl, A2, hB2⟩
          rw [hv, ← RP.out] at A2
          exact ⟨r, os, rfl, A2, hB2⟩
        clear hB h1 ag ts hL BL hLe lb LB A P5 Z R1 R2 RP hLt hL64 tz hv f1 HT h128 hkk
        go_wp2_with fail
        refine BN.out.mono ?_
        rintro e w' ⟨rfl, rfl⟩
        go_wp2_with fail
        refine SL.out.mono ?_
        rintro e w3 ⟨r2, os2, rfl, A3, hB3⟩
        have Z3 := hid (Z1.out.on hB3)
        obtain ⟨b, off, rfl, rfl, c0, c1, b0, b1⟩ := A3.two RI.out.lo RI.out.hi
        obtain ⟨⟨d0, d1⟩, g0, g1⟩ := Z3.out.drew.2.cells
        obtain ⟨⟨d0', d1'⟩, g0', g1'⟩ := Z3.out.2.cells
        have k0 : w3.drew.cell? ⟨b, off, none⟩ = some (.int .u64 (lo64 (Ie.rowP q))) := c0
        have k1 : w3.drew.cell? ⟨b, off + 1, none⟩ = some (.int .u64 (hi64 (Ie.rowP q))) := c1
        have ne : b ≠ w.heap.size := by have := Z1.out.2.lt; omega
        have F : Hid (∀ w', Below w.heap.size w w' → RowTold q w (.returned (.tuple #[.agg #[.int .u64 (lo64 (Ie.rowP q)), .int .u64 (hi64 (Ie.rowP q))], .int .i64 ((L : Int) - 128)])) w') := fun w' h => ⟨by rw [RE.out]; rfl, h⟩
        generalize lo64 (Ie.rowP q) = x at *
        generalize hi64 (Ie.rowP q) = y at *
        clear c0 c1 A3 hB3 SL RI RE b0 b1 Z1
        go_upto_region 8 with fail
        go_region
        all_goals go_wp2_with fail
        refine bodyPost_ret (results_row_tmp rfl _ _ w.heap.size 249 _ (0, 0) _ rfl (Z3.out.put _ _).drew.2 Tryz.underlying249 rfl (by kernel_rfl)) rfl ?_
        exact F.out _ (Z3.out.put _ _).drew.1
      · have RP := hid (R2.out (by omega))
        obtain ⟨kk, hkk⟩ : ∃ kk : Nat, kk = L - 128 := ⟨_, rfl⟩
        rw [← hkk] at RP
        have e1 : (L : Int) - 128 = (kk : Int) := by omega
        have e2 : ¬ ((L : Int) - 128 < 0) := by omega
        have e3 : (0 : Int) ≤ kk := by omega
        have SL : Hid (Calls Tryz.prog 209 #[.slice r (List.length os) (List.length os), .int .i64 (kk : Int)] w1 fun e w' => ∃ r os b, e = .returned (.tuple #[.slice r (List.length os) (List.length os), .bool b, .int .i64 0]) ∧ Ans w1.heap.size w' r os (Ie.rowP q) ∧ Below w1.heap.size w1 w') := by
          refine (shr_ok r _ _ os (kk : Int) kk L w1 ag (HT.out.below Z1.out.1) ts rfl hLt hL64 (by omega)).mono ?_
          rintro e w' ⟨r, os, rfl, A2, hB2⟩
          rw [hv, ← RP.out] at A2
          exact ⟨r, os, _, rfl, A2, hB2⟩
        clear hB h1 ag ts hL BL hLe lb LB A P5 Z R1 R2 RP hLt hL64 tz hv f1 HT h128 hkk
        go_wp2_with fail
        refine BN.out.mono ?_
        rintro e w' ⟨rfl, rfl⟩
        go_wp2_with fail
        refine SL.out.mono ?_
        rintro e w3 ⟨r2, os2, bb, rfl, A3, hB3⟩
        have Z3 := hid (Z1.out.on hB3)
        obtain ⟨b, off, rfl, rfl, c0, c1, b0, b1⟩ := A3.two RI.out.lo RI.out.hi
        obtain ⟨⟨d0, d1⟩, g0, g1⟩ := Z3.out.drew.2.cells
        obtain ⟨⟨d0', d1'⟩, g0', g1'⟩ := Z3.out.2.cells
        have k0 : w3.drew.cell? ⟨b, off, none⟩ = some (.int .u64 (lo64 (Ie.rowP q))) := c0
        have k1 : w3.drew.cell? ⟨b, off + 1, none⟩ = some (.int .u64 (hi64 (Ie.rowP q))) := c1
        have ne : b ≠ w.heap.size := by have := Z1.out.2.lt; omega
        have F : Hid (∀ w', Below w.heap.size w w' → RowTold q w (.returned (.tuple #[.agg #[.int .u64 (lo64 (Ie.rowP q)), .int .u64 (hi64 (Ie.rowP q))], .int .i64 (kk : Int)])) w') := fun w' h => ⟨by rw [RE.out, e1]; rfl, h⟩
        generalize lo64 (Ie.rowP q) = x at *
        generalize hi64 (Ie.rowP q) = y at *
        clear c0 c1 A3 hB3 SL RI RE b0 b1 Z1
        go_upto_region 8 with fail
        go_region
        all_goals go_wp2_with fail
        refine bodyPost_ret (results_row_tmp rfl _ _ w.heap.size 249 _ (0, 0) _ rfl (Z3.out.put _ _).drew.2 Tryz.underlying249 rfl (by kernel_rfl)) rfl ?_
        exact F.out _ (Z3.out.put _ _).drew.1
    · exfalso
      have := f1.out
      have := h.1
      omega
end Go.Proofs.YtjkefcikepnbpaaGreatDoor
