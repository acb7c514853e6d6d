/-
  Texts put together: TrimW, Low, ShiftAny, Ref11, Ref12.
-/
import Derived.Test.YtffkopijfelacaaDoorWalk1
import Derived.Test.YtffkopijfelacaaDoorShl
import Derived.Test.YtffkopijfelacaaDoorShr
import Derived.Test.YtffkopijfelacaaDoorTrailW
import Derived.Test.YtffkopijfelacaaDoorBitW
import Derived.Test.YtffkopijfelacaaDoorMulAddW
import Derived.Test.YtffkopijfelacaaDoorRef10
namespace Go.Proofs.YtffkopijfelacaaDoor
open Go.RowKit Go.Deep

/-- Trim: the trimmed list, in new memory. -/
theorem trim_any (p : Option Addr) (n cap : Nat) (zs : List Int) (w : World) (ha : Arg w p n cap zs) :
    Calls Tryd.prog 28 #[.slice p n cap] w fun e w' => ∃ r os, e = .returned (.slice r (List.length os) (List.length os)) ∧ os = Nm.trim zs ∧ Ans w.heap.size w' r os (Nm.val zs) ∧ Below w.heap.size w w' := by
  obtain ⟨a1, a2, a3, a4, a5⟩ := ha
  have tl := Nm.tsize_le zs
  go_enter Tryd.func28, Tryd.ntmps28
  go_wp2_with fail
  refine (trimmed_any p n cap zs _ a1 a2 (by omega) a4).mono ?_
  rintro e w' ⟨rfl, rfl⟩
  go_wp2_with fail
  refine (widened_any p (Nm.tsize zs) (Nm.tsize zs) 0 0 (Nm.trim zs) _ rfl (Nm.trim_length zs) (by omega) a4.trim).mono ?_
  rintro e w1 ⟨rfl, ho, hb1, hz1⟩
  have HO := hid ho
  have HB := hid hb1
  clear ho hb1 hz1 tl
  go_wp2
  go_ret
  refine ⟨some ⟨w'.heap.size, 0, none⟩, Nm.trim zs, ?_, rfl, ⟨?_, a5.trim, ?_, Nm.val_trim zs, ?_⟩, HB.out⟩
  · rw [Nm.trim_length]; rfl
  · have := HO.out
    simp only [List.replicate_zero, List.append_nil] at this
    exact this.lies
  · rw [Nm.trim_trim, Nm.trim_length]
  · intro a h
    cases h
    exact Nat.le_refl _
end Go.Proofs.YtffkopijfelacaaDoor

namespace Go.Proofs.YtffkopijfelacaaDoor
open Go.RowKit Go.Deep

theorem mask_low (x : Int) (r : Nat) (hr : r ≤ 63) (h0 : 0 ≤ x) (h1 : x < 18446744073709551616) : bits .and .u64 x (2 ^ r - 1) = x % 2 ^ r := by
  obtain ⟨n, rfl⟩ := Int.eq_ofNat_of_zero_le h0
  have hP : ((2 ^ r : Nat) : Int) = (2 : Int) ^ r := by simp
  have hp : 0 < 2 ^ r := Nat.pow_pos (by omega)
  have hm : (2 : Int) ^ r - 1 = ((2 ^ r - 1 : Nat) : Int) := by omega
  have hle : 2 ^ r ≤ 2 ^ 63 := Nat.pow_le_pow_right (by omega) hr
  have e63 : 2 ^ 63 = 9223372036854775808 := by decide
  have h := bits_and_u64_nat n (2 ^ r - 1) (by omega) (by omega)
  rw [hm, h, Nat.and_two_pow_sub_one_eq_mod, ← hP]
  omega

set_option maxRecDepth 100000 in
set_option maxHeartbeats 1000000 in
/-- From the number of its digits on it is the number itself. -/
theorem low_all (p : Option Addr) (n cap : Nat) (zs : List Int) (k : Int) (L : Nat) (w : World) (ha : Arg w p n cap zs) (tz : Nm.tsize zs ≤ 4096) (hk : 0 ≤ k) (hL : blen (Nm.trim zs) = (L : Int)) (hb : (L : Int) ≤ k) :
    Calls Tryd.prog 41 #[.slice p n cap, .int .i64 k] w fun e w' => ∃ r os, e = .returned (.tuple #[.slice r (List.length os) (List.length os), .int .i64 0]) ∧ Ans w.heap.size w' r os (Nm.val zs) ∧ Below w.heap.size w w' := by
  have HT := hid (lshift_ok p n cap zs k w ha tz hk)
  have HB := hid (bitLen_n L p _ _ (Nm.trim zs) w ha.trim' hL)
  have TR := trim_any p _ _ (Nm.trim zs) w ha.trim'
  rw [Nm.val_trim] at TR
  have HTR := hid TR
  clear hL ha TR
  go_enter Tryd.func41, Tryd.ntmps41
  go_wp2_with fail
  refine HT.out.mono ?_
  rintro e w' ⟨rfl, rfl⟩
  go_wp2_with fail
  refine HB.out.mono ?_
  rintro e w' ⟨rfl, rfl⟩
  go_wp2_with fail
  refine HTR.out.mono ?_
  rintro e w1 ⟨r, os, rfl, -, hans, hb1⟩
  have HA := hid hans
  have D1 := hid hb1
  clear hans hb1
  go_wp2_with fail
  go_ret2
  exact ⟨r, os, rfl, HA.out, D1.out⟩

set_option maxRecDepth 100000 in
set_option maxHeartbeats 1000000 in
theorem low_ok (p : Option Addr) (n cap : Nat) (zs : List Int) (kk : Int) (k L : Nat) (w : World) (ha : Arg w p n cap zs) (tz : Nm.tsize zs ≤ 4096) (hkk : kk = (k : Int)) (hL : blen (Nm.trim zs) = (L : Int)) (hLt : L ≤ 64 * Nm.tsize zs) (hb : k < L) :
    Calls Tryd.prog 41 #[.slice p n cap, .int .i64 kk] w fun e w' => ∃ r os, e = .returned (.tuple #[.slice r (List.length os) (List.length os), .int .i64 0]) ∧ Ans w.heap.size w' r os (Nm.val zs % 2 ^ k) ∧ Below w.heap.size w w' := by
  have hk0 : 0 ≤ kk := by omega
  have T1 := lshift_ok p n cap zs kk w ha tz hk0
  have B1 := bitLen_n L p _ _ (Nm.trim zs) w ha.trim' hL
  obtain ⟨N, HN⟩ : ∃ N, Hid (Nm.tsize zs = N) := ⟨_, rfl⟩
  rw [HN.out] at T1 B1 hLt
  have HT := hid T1
  have HB := hid B1
  have hN1 : N ≤ 4096 := by rw [← HN.out]; exact tz
  have hb1 : ¬ (L : Int) ≤ kk := by omega
  obtain ⟨sk, hsk⟩ : ∃ sk, k / 64 = sk := ⟨_, rfl⟩
  obtain ⟨r, hr⟩ : ∃ r, k % 64 = r := ⟨_, rfl⟩
  have r1 : kk / 64 = (sk : Int) := by omega
  have r2 : kk % 64 = (r : Int) := by omega
  have hr63 : r ≤ 63 := by omega
  have hskN : sk < N := by omega
  have hskN' : (sk : Int) < (N : Int) := by omega
  have hkb : kk ≤ 262144 := by omega
  have KE : Hid (k = 64 * sk + r) := by show _ = _; omega
  have L1 := hid ((Nm.trim_length zs).trans HN.out)
  have A5 := hid ha.2.2.2.2.trim
  obtain ⟨b, off, rfl, hbw, HC⟩ := ha.2.2.2.1.trim.at (by rw [L1.out]; omega)
  have V := hid (Nm.val_trim zs)
  have LT := hid (ha.2.2.2.1.trim.take sk)
  have TL : Hid (((Nm.trim zs).take sk).length = sk) := by rw [Hid, List.length_take, L1.out]; omega
  obtain ⟨x, X⟩ : ∃ x, Hid (x = (Nm.trim zs).getD sk 0) := ⟨_, rfl⟩
  have hxc := HC.out sk (by rw [L1.out]; exact hskN)
  rw [← X.out] at hxc
  have HXC := hid hxc
  have hx0 := A5.out.at sk
  rw [← X.out] at hx0
  obtain ⟨hx0, hx1⟩ := hx0
  have hP0 := Nm.two_pos r
  have hP63 : (2 : Int) ^ r ≤ 9223372036854775808 := by
    have := Nm.two_mono (show r ≤ 63 by omega)
    have e : (2 : Int) ^ 63 = 9223372036854775808 := by decide
    omega
  obtain ⟨y, hy⟩ : ∃ y, bits .and .u64 x (2 ^ r - 1) = y := ⟨_, rfl⟩
  have YE := hid ((mask_low x r hr63 hx0 hx1).symm.trans hy)
  have y0 : 0 ≤ y := by rw [← YE.out]; exact Int.emod_nonneg _ (by omega)
  have y1 : y < 2 ^ r := by rw [← YE.out]; exact Int.emod_lt_of_pos _ hP0
  have hw1 : IntKind.u64.wrap (2 ^ r) = 2 ^ r := by rw [Sh.wrap_mod]; omega
  have QE : Hid (Nm.val zs % 2 ^ k = Nm.val ((Nm.trim zs).take sk) + Nm.pw sk * y) := by
    have h1 := Nm.val_drop (Nm.trim zs) sk (by rw [L1.out]; omega)
    have h2 := Nm.val_bd _ (A5.out.take sk)
    rw [TL.out] at h2
    have h3 : Nm.val ((Nm.trim zs).drop sk) = x + 18446744073709551616 * Nm.val ((Nm.trim zs).drop (sk + 1)) := by
      rw [X.out, List.drop_eq_getElem_cons (by rw [L1.out]; exact hskN), Nm.val]
      simp [List.getD, L1.out, hskN]
    have hp := Nm.pw_pos sk
    have c1 := Int.emod_add_mul_ediv x (2 ^ r)
    rw [YE.out] at c1
    have hPQ := Sh.split64 r hr63
    have e1 : Nm.val zs = Nm.val ((Nm.trim zs).take sk) + Nm.pw sk * y + 2 ^ k * (x / 2 ^ r + 2 ^ (64 - r) * Nm.val ((Nm.trim zs).drop (sk + 1))) := by
      rw [KE.out, Nm.two_add, ← Nm.pw_two, Int.mul_assoc, Int.mul_add (2 ^ r), ← Int.mul_assoc (2 ^ r), hPQ, ← V.out, h1, h3]
      have : x + 18446744073709551616 * Nm.val ((Nm.trim zs).drop (sk + 1)) = y + (2 ^ r * (x / 2 ^ r) + 18446744073709551616 * Nm.val ((Nm.trim zs).drop (sk + 1))) := by omega
      rw [this, Int.mul_add]
      omega
    have e2 : 0 ≤ Nm.pw sk * y := Int.mul_nonneg (by omega) y0
    have e3 : Nm.pw sk * (y + 1) ≤ Nm.pw sk * 2 ^ r := Int.mul_le_mul_of_nonneg_left (by omega) (by omega)
    rw [Int.mul_add, Int.mul_one, Nm.pw_two, ← Nm.two_add, ← KE.out, ← Nm.pw_two] at e3
    show _ = _
    rw [e1, Int.add_mul_emod_self_left, Int.emod_eq_of_lt (by omega) (by omega)]
  have Y64 : Hid (0 ≤ y ∧ y < 18446744073709551616) := by show _ ∧ _; omega
  clear T1 B1 ha tz hL hkk hsk hr hLt hb hxc y0 y1
  go_enter Tryd.func41, Tryd.ntmps41
  go_wp2_with fail
  refine HT.out.mono ?_
  rintro e w' ⟨rfl, rfl⟩
  go_wp2_with fail
  refine HB.out.mono ?_
  rintro e w' ⟨rfl, rfl⟩
  go_wp2_with fail
  refine (widened_any _ sk _ 1 1 ((Nm.trim zs).take sk) _ rfl TL.out (by omega) LT.out).mono ?_
  rintro e w1 ⟨rfl, ho, hb2, hz2⟩
  have hxc1 : w1.cell? ⟨b, off + sk, none⟩ = some (.int .u64 x) := (hb2.cell (p := ⟨b, off + sk, none⟩) hbw).trans HXC.out
  obtain ⟨u, hu⟩ : ∃ u, w1.cell? ⟨w'.heap.size, sk, none⟩ = some (.int .u64 u) := ⟨_, ho.cell sk (by rw [List.length_append, TL.out]; simp)⟩
  have hfr := ho.free sk
  have O1 := hid (ho.set sk y)
  have LL : ((Nm.trim zs).take sk ++ List.replicate 1 0).length = sk + 1 := by rw [List.length_append, TL.out, List.length_replicate]
  have O2 : Hid ((((Nm.trim zs).take sk ++ List.replicate 1 0).set sk y).length = sk + 1) := by rw [Hid, List.length_set, LL]
  have O3 := hid (((A5.out.take sk).append (Nm.Limbs.replicate 1)).set sk Y64.out.1 Y64.out.2)
  have O4 : Hid (Nm.val (((Nm.trim zs).take sk ++ List.replicate 1 0).set sk y) = Nm.val zs % 2 ^ k) := by
    have e0 : ((Nm.trim zs).take sk ++ List.replicate 1 0).getD sk 0 = 0 := by
      rw [List.getD, List.getElem?_append_right (by rw [TL.out]; omega), TL.out, Nat.sub_self]
      rfl
    rw [Hid, Nm.val_set _ _ _ (by omega), e0, Int.sub_zero, Nm.val_append, Nm.val_replicate, Int.mul_zero, Int.add_zero, QE.out]
  have O5 := hid (hb2.setCell (p := ⟨w'.heap.size, sk, none⟩) (Nat.le_refl _) (.int .u64 y))
  clear ho hb2 hz2 LL
  go_wp2_with fail
  refine (trimmed_any _ (sk + 1) (sk + 1) (((Nm.trim zs).take sk ++ List.replicate 1 0).set sk y) _ O2.out (Nat.le_refl _) (by omega) O1.out.lies).mono ?_
  rintro e w3 ⟨rfl, rfl⟩
  go_wp2_with fail
  go_ret2
  refine ⟨some ⟨w'.heap.size, 0, none⟩, Nm.trim (((Nm.trim zs).take sk ++ List.replicate 1 0).set sk y), ret_two (Nm.trim_length _).symm, ⟨O1.out.lies.trim, O3.out.trim, ?_, ?_, ?_⟩, O5.out⟩
  · rw [Nm.trim_trim, Nm.trim_length]
  · rw [Nm.val_trim, O4.out]
  · intro a h
    cases h
    exact Nat.le_refl _
end Go.Proofs.YtffkopijfelacaaDoor

namespace Go.Proofs.YtffkopijfelacaaDoor
open Go.RowKit Go.Deep

theorem blen_trim_eq (zs : List Int) : blen (Nm.trim zs) = blen zs := by
  unfold blen
  rw [Nm.trim_trim]
  by_cases h : Nm.tsize zs = 0
  · rw [if_pos h, if_pos h]
  · rw [if_neg h, if_neg h]
    have e : (Nm.trim zs).getD (Nm.tsize zs - 1) 0 = zs.getD (Nm.tsize zs - 1) 0 := by rw [Nm.trim, Nm.getD_take, if_pos (by omega)]
    rw [e]

theorem pw_4096 : Nm.pw 4096 = 2 ^ 262144 := Nm.pw_two 4096

theorem two_lt {a b : Nat} (h : (2 : Int) ^ a < 2 ^ b) : a < b := by
  rcases Nat.lt_or_ge a b with h1 | h1
  · exact h1
  · have := Nm.two_mono h1
    omega

/-- So many digits as the number times 2^k. -/
theorem BLen.up {v : Int} {L : Nat} (k : Nat) (h : Nm.BLen v L) (hv : 0 < v) : Nm.BLen (v * 2 ^ k) (L + k) := by
  have hp := Nm.two_pos k
  have h1 := h.2.2 hv
  refine ⟨?_, fun h0 => ?_, fun _ => ⟨by omega, ?_⟩⟩
  · rw [Nm.two_add]
    exact Int.mul_lt_mul_of_pos_right h.1 hp
  · rcases Int.mul_eq_zero.1 h0 with h2 | h2 <;> omega
  · rw [show L + k - 1 = L - 1 + k by omega, Nm.two_add]
    exact Int.mul_le_mul_of_nonneg_right h1.2 (by omega)

theorem Trl.up {v : Int} {t : Nat} (k : Nat) (h : Nm.Trl v t) (hv : 0 < v) : Nm.Trl (v * 2 ^ k) (t + k) := by
  rcases h with ⟨h, _⟩ | ⟨m, hm⟩
  · omega
  · right
    exact ⟨m, by rw [hm, Nm.two_add, Int.mul_right_comm]⟩

theorem tsize_pos {zs : List Int} (hz : Nm.Limbs zs) (hv : 0 < Nm.val zs) : 0 < Nm.tsize zs := by
  rcases Nat.eq_zero_or_pos (Nm.tsize zs) with h | h
  · have := (Nm.tsize_zero_iff hz).1 h
    omega
  · exact h

theorem shl_any (p : Option Addr) (n cap : Nat) (zs : List Int) (kk : Int) (k : Nat) (w : World) (ha : Arg w p n cap zs) (tz : Nm.tsize zs ≤ 4096) (hkk : kk = (k : Int)) (hb : Nm.val zs * 2 ^ k < Nm.pw 4096) :
    Calls Tryd.prog 38 #[.slice p n cap, .int .i64 kk] w fun e w' => ∃ r os, e = .returned (.tuple #[.slice r (List.length os) (List.length os), .int .i64 0]) ∧ Ans w.heap.size w' r os (Nm.val zs * 2 ^ k) ∧ Below w.heap.size w w' := by
  have hv0 := (Nm.val_bd zs ha.2.2.2.2).1
  by_cases hz : Nm.tsize zs = 0
  · have hv := (Nm.tsize_zero_iff ha.2.2.2.2).1 hz
    refine (shl_zero p n cap zs kk w ha (by omega) hz).mono ?_
    rintro e w' ⟨rfl, rfl⟩
    exact ⟨none, [], rfl, ⟨Lies.nil _ _, Nm.Limbs.nil, rfl, by rw [hv, Int.zero_mul]; rfl, fun a h => by cases h⟩, Below.refl _ _⟩
  · obtain ⟨L, hL, BL, _, _⟩ := blen_is zs ha.2.2.2.2
    rw [← blen_trim_eq] at hL
    have hv : 0 < Nm.val zs := by
      rcases (show Nm.val zs = 0 ∨ 0 < Nm.val zs by omega) with h | h
      · exact absurd ((Nm.tsize_zero_iff ha.2.2.2.2).2 h) hz
      · exact h
    have hu := (BLen.up k BL hv).2.2 (Int.mul_pos hv (Nm.two_pos k))
    rw [pw_4096] at hb
    have hlt := two_lt (show (2 : Int) ^ (L + k - 1) < 2 ^ 262144 by omega)
    exact shl_ok p n cap zs kk k L w ha tz hkk (by omega) hL (by omega)

theorem shl_over (p : Option Addr) (n cap : Nat) (zs : List Int) (kk : Int) (k : Nat) (w : World) (ha : Arg w p n cap zs) (tz : Nm.tsize zs ≤ 4096) (hkk : kk = (k : Int)) (hk1 : kk ≤ 9223372036854775807) (hb : Nm.pw 4096 ≤ Nm.val zs * 2 ^ k) :
    Calls Tryd.prog 38 #[.slice p n cap, .int .i64 kk] w fun e w' => e = .returned (.tuple #[.slice none 0 0, .int .i64 2]) ∧ w' = w := by
  have hv0 := (Nm.val_bd zs ha.2.2.2.2).1
  have hp := Nm.pw_pos 4096
  have hv : 0 < Nm.val zs := by
    rcases (show Nm.val zs = 0 ∨ 0 < Nm.val zs by omega) with h | h
    · rw [h, Int.zero_mul] at hb; omega
    · exact h
  obtain ⟨L, hL, BL, _, _⟩ := blen_is zs ha.2.2.2.2
  rw [← blen_trim_eq] at hL
  have hu := (BLen.up k BL hv).1
  rw [pw_4096] at hb
  have hlt := two_lt (show (2 : Int) ^ 262144 < 2 ^ (L + k) by omega)
  exact shl_big p n cap zs kk L w ha tz (by omega) hk1 (tsize_pos ha.2.2.2.2 hv) hL (by omega)

theorem shr_any (p : Option Addr) (n cap : Nat) (zs : List Int) (kk : Int) (k : Nat) (w : World) (ha : Arg w p n cap zs) (hT : Tab w) (tz : Nm.tsize zs ≤ 4096) (hkk : kk = (k : Int)) :
    Calls Tryd.prog 39 #[.slice p n cap, .int .i64 kk] w fun e w' => ∃ r os, e = .returned (.tuple #[.slice r (List.length os) (List.length os), .bool (decide (Nm.val zs % 2 ^ k ≠ 0)), .int .i64 0]) ∧ Ans w.heap.size w' r os (Nm.val zs / 2 ^ k) ∧ Below w.heap.size w w' := by
  obtain ⟨L, hL, BL, hl, _⟩ := blen_is zs ha.2.2.2.2
  have hv0 := (Nm.val_bd zs ha.2.2.2.2).1
  rw [← blen_trim_eq] at hL
  by_cases hb : k < L
  · exact shr_ok p n cap zs kk k L w ha hT tz hkk hL hl hb
  · have hlt : Nm.val zs < 2 ^ k := by
      have := BL.1
      have := Nm.two_mono (show L ≤ k by omega)
      omega
    refine (shr_all p n cap zs kk L w ha tz (by omega) hL (by omega)).mono ?_
    rintro e w' ⟨rfl, rfl⟩
    refine ⟨none, [], ?_, ⟨Lies.nil _ _, Nm.Limbs.nil, rfl, by rw [Int.ediv_eq_zero_of_lt hv0 hlt]; rfl, fun a h => by cases h⟩, Below.refl _ _⟩
    have e : decide (0 < Nm.tsize zs) = decide (Nm.val zs % 2 ^ k ≠ 0) := by
      rw [Int.emod_eq_of_lt hv0 hlt, Bool.eq_iff_iff]
      simp only [decide_eq_true_eq]
      have := Nm.tsize_zero_iff ha.2.2.2.2
      omega
    rw [e]
    rfl

theorem low_any (p : Option Addr) (n cap : Nat) (zs : List Int) (kk : Int) (k : Nat) (w : World) (ha : Arg w p n cap zs) (tz : Nm.tsize zs ≤ 4096) (hkk : kk = (k : Int)) :
    Calls Tryd.prog 41 #[.slice p n cap, .int .i64 kk] w fun e w' => ∃ r os, e = .returned (.tuple #[.slice r (List.length os) (List.length os), .int .i64 0]) ∧ Ans w.heap.size w' r os (Nm.val zs % 2 ^ k) ∧ Below w.heap.size w w' := by
  obtain ⟨L, hL, BL, hl, _⟩ := blen_is zs ha.2.2.2.2
  have hv0 := (Nm.val_bd zs ha.2.2.2.2).1
  rw [← blen_trim_eq] at hL
  by_cases hb : k < L
  · exact low_ok p n cap zs kk k L w ha tz hkk hL hl hb
  · have hlt : Nm.val zs < 2 ^ k := by
      have := BL.1
      have := Nm.two_mono (show L ≤ k by omega)
      omega
    rw [Int.emod_eq_of_lt hv0 hlt]
    exact low_all p n cap zs kk L w ha tz (by omega) hL (by omega)
end Go.Proofs.YtffkopijfelacaaDoor

namespace Go.Proofs.YtffkopijfelacaaDoor
open Go.RowKit Go.Deep

/-- A fact that the walk cannot open. -/
structure Shut (p : Prop) : Prop where
  out : p

/-- Where the digits are too many the product is too great. -/
theorem prod_big {x y : Int} {a b : Nat} (hx0 : 0 ≤ x) (hy0 : 0 ≤ y) (hx : Nm.BLen x a) (hy : Nm.BLen y b) (h : 262145 < a + b) (ha : a ≤ 262144) (hb : b ≤ 262144) : Nm.pw 4096 ≤ x * y := by
  have px : 0 < x := by
    rcases (show x = 0 ∨ 0 < x by omega) with h0 | h0
    · have := hx.2.1 h0; omega
    · exact h0
  have py : 0 < y := by
    rcases (show y = 0 ∨ 0 < y by omega) with h0 | h0
    · have := hy.2.1 h0; omega
    · exact h0
  have h1 := (hx.2.2 px).2
  have h2 := (hy.2.2 py).2
  have h3 : (2 : Int) ^ (a - 1) * 2 ^ (b - 1) ≤ x * y := Int.mul_le_mul h1 h2 (by have := Nm.two_pos (b - 1); omega) hx0
  rw [← Nm.two_add] at h3
  have h4 := Nm.two_mono (show 262144 ≤ a - 1 + (b - 1) by omega)
  rw [pw_4096]
  omega

theorem blen_le {x : Int} {a : Nat} (hx : Nm.BLen x a) (h0 : 0 ≤ x) (h : x < Nm.pw 4096) : a ≤ 262144 := by
  rcases (show x = 0 ∨ 0 < x by omega) with h1 | h1
  · have := hx.2.1 h1; omega
  · have h2 := (hx.2.2 h1).2
    rw [pw_4096] at h
    have := two_lt (show (2 : Int) ^ (a - 1) < 2 ^ 262144 by omega)
    omega

set_option maxHeartbeats 1000000 in
theorem refMul_any (p q : Option Addr) (n cap m cap' : Nat) (za zb : List Int) (w : World) (ha : Arg w p n cap za) (hb : Arg w q m cap' zb) :
    Calls Tryd.prog 20 #[.slice p n cap, .slice q m cap'] w fun e w' => Tells (4096 < Nm.tsize za ∨ 4096 < Nm.tsize zb ∨ Nm.pw 4096 ≤ Nm.val za * Nm.val zb) 2 (Nm.val za * Nm.val zb) w e w' := by
  have HA := hid ha
  have HB := hid hb
  by_cases h1 : 4096 < Nm.tsize za
  · have S1 := hid (refBig_is true p n cap za w ha (by simpa using h1))
    have E : Hid (Tells (4096 < Nm.tsize za ∨ 4096 < Nm.tsize zb ∨ Nm.pw 4096 ≤ Nm.val za * Nm.val zb) 2 (Nm.val za * Nm.val zb) w (.returned (.tuple #[.slice none 0 0, .int .i64 2])) w) := Tells.bad (.inl h1) (Below.refl _ _)
    clear ha hb h1 HA HB
    go_enter Tryd.func20, Tryd.ntmps20
    go_wp2_with fail
    refine S1.out.mono ?_
    rintro e w' ⟨rfl, rfl⟩
    go_wp2
    go_ret2
    exact E.out
  have S1 := hid (refBig_is false p n cap za w ha (by simp; omega))
  by_cases h2 : 4096 < Nm.tsize zb
  · have S2 := hid (refBig_is true q m cap' zb w hb (by simpa using h2))
    have E : Hid (Tells (4096 < Nm.tsize za ∨ 4096 < Nm.tsize zb ∨ Nm.pw 4096 ≤ Nm.val za * Nm.val zb) 2 (Nm.val za * Nm.val zb) w (.returned (.tuple #[.slice none 0 0, .int .i64 2])) w) := Tells.bad (.inr (.inl h2)) (Below.refl _ _)
    clear ha hb h1 h2 HA HB
    go_enter Tryd.func20, Tryd.ntmps20
    go_wp2_with fail
    refine S1.out.mono ?_
    rintro e w' ⟨rfl, rfl⟩
    go_wp2_with fail
    refine S2.out.mono ?_
    rintro e w' ⟨rfl, rfl⟩
    go_wp2
    go_ret2
    exact E.out
  have S2 := hid (refBig_is false q m cap' zb w hb (by simp; omega))
  have T1 : Hid (Nm.tsize za ≤ 4096) := by show _ ≤ _; omega
  have T2 : Hid (Nm.tsize zb ≤ 4096) := by show _ ≤ _; omega
  have x0 := hid (Nm.val_bd za ha.2.2.2.2).1
  have y0 := hid (Nm.val_bd zb hb.2.2.2.2).1
  have x1 := Shut.mk ((Nm.tsize_le_iff ha.2.2.2.2 4096).1 T1.out)
  have y1 := Shut.mk ((Nm.tsize_le_iff hb.2.2.2.2 4096).1 T2.out)
  clear ha hb h1 h2
  go_enter Tryd.func20, Tryd.ntmps20
  go_wp2_with fail
  refine S1.out.mono ?_
  rintro e w' ⟨rfl, rfl⟩
  go_wp2_with fail
  refine S2.out.mono ?_
  rintro e w' ⟨rfl, rfl⟩
  go_wp2_with fail
  refine (refBitLen_any p n cap za _ HA.out).mono ?_
  rintro e w2 ⟨⟨a, rfl, BA⟩, rfl⟩
  have HBA := hid BA
  have la := blen_le BA x0.out x1.out
  clear BA
  go_wp2_with fail
  refine (refBitLen_any q m cap' zb _ HB.out).mono ?_
  rintro e w3 ⟨⟨b, rfl, BB⟩, rfl⟩
  have HBB := hid BB
  have lb := blen_le BB y0.out y1.out
  clear BB
  by_cases hab : 262145 < a + b
  · have hab' : (262145 : Int) < (a : Int) + (b : Int) := by omega
    have E : Hid (Tells (4096 < Nm.tsize za ∨ 4096 < Nm.tsize zb ∨ Nm.pw 4096 ≤ Nm.val za * Nm.val zb) 2 (Nm.val za * Nm.val zb) w3 (.returned (.tuple #[.slice none 0 0, .int .i64 2])) w3) := Tells.bad (.inr (.inr (prod_big x0.out y0.out HBA.out HBB.out hab la lb))) (Below.refl _ _)
    clear hab
    go_wp2
    go_ret2
    exact E.out
  · have hab' : ¬ (262145 : Int) < (a : Int) + (b : Int) := by omega
    clear hab
    go_wp2_with fail
    refine (times_any p q n cap m cap' za zb _ HA.out HB.out (by have := T1.out; omega) (by have := T2.out; omega)).mono ?_
    rintro e w1 ⟨r, os, rfl, hA, hb1⟩
    have l1 : os.length ≤ 8192 := by
      have h := (Nm.tsize_le_iff hA.2.1 8192).2 (by
        rw [hA.2.2.2.1, show (8192 : Nat) = 4096 + 4096 from rfl, Nm.pw_add]
        have a1 := x1.out; have a2 := y1.out; have a3 := x0.out; have a4 := y0.out
        have p := Nm.pw_pos 4096
        have h5 : Nm.val za * Nm.val zb ≤ (Nm.pw 4096 - 1) * Nm.pw 4096 := Int.mul_le_mul (by omega) (by omega) a4 (by omega)
        rw [Int.sub_mul] at h5
        omega)
      rw [hA.2.2.1] at h
      exact h
    have TI : Hid (Nm.val za * Nm.val zb < Nm.pw 4096 ↔ Nm.tsize os ≤ 4096) := by rw [Hid, ← hA.2.2.2.1]; exact (Nm.tsize_le_iff hA.2.1 4096).symm
    have AA := hid (hA.arg (by omega))
    have A := hid hA
    have D := hid hb1
    clear hA hb1
    by_cases h3 : 4096 < Nm.tsize os
    · have S3 := hid (refBig_is true r _ _ os w1 AA.out (by simpa using h3))
      have E : Hid (Tells (4096 < Nm.tsize za ∨ 4096 < Nm.tsize zb ∨ Nm.pw 4096 ≤ Nm.val za * Nm.val zb) 2 (Nm.val za * Nm.val zb) w3 (.returned (.tuple #[.slice none 0 0, .int .i64 2])) w1) := Tells.bad (.inr (.inr (by have := TI.out; omega))) D.out
      clear h3
      go_wp2_with fail
      refine S3.out.mono ?_
      rintro e w2 ⟨rfl, rfl⟩
      go_wp2
      go_ret2
      exact E.out
    · have S3 := hid (refBig_is false r _ _ os w1 AA.out (by simp; omega))
      have E : Hid (Tells (4096 < Nm.tsize za ∨ 4096 < Nm.tsize zb ∨ Nm.pw 4096 ≤ Nm.val za * Nm.val zb) 2 (Nm.val za * Nm.val zb) w3 (.returned (.tuple #[.slice r (List.length os) (List.length os), .int .i64 0])) w1) := Tells.good (by have := TI.out; have := T1.out; have := T2.out; omega) A.out D.out
      clear h3
      go_wp2_with fail
      refine S3.out.mono ?_
      rintro e w2 ⟨rfl, rfl⟩
      go_wp2
      go_ret2
      exact E.out
end Go.Proofs.YtffkopijfelacaaDoor

namespace Go.Proofs.YtffkopijfelacaaDoor
open Go.RowKit Go.Deep

theorem val_zero_of {zs : List Int} (h : ∀ j, zs.getD j 0 = 0) : Nm.val zs = 0 := by
  rw [← Nm.val_take_of_zero zs 0 (fun j _ => h j)]
  rfl

set_option maxRecDepth 20000 in
set_option maxHeartbeats 2000000 in
theorem refTrail_any (p : Option Addr) (n cap : Nat) (zs : List Int) (w : World) (ha : Arg w p n cap zs) :
    Calls Tryd.prog 16 #[.slice p n cap] w fun e w' => (∃ t : Nat, e = .returned (.int .i64 (t : Int)) ∧ Nm.Trl (Nm.val zs) t) ∧ w' = w := by
  obtain ⟨a1, a2, a3, a4, a5⟩ := ha
  rcases a4 with rfl | ⟨b, off, rfl, hcell⟩
  · have hn0 : n = 0 := by simpa using a1.symm
    subst hn0
    clear a1 a5
    go_enter Tryd.func16, Tryd.ntmps16
    go_wp2
    refine wp_loop_rounds 1 ?_
    rw [rounds_succ]
    go_wp2
    go_ret
    exact ⟨⟨0, rfl, .inl ⟨rfl, rfl⟩⟩, rfl⟩
  · have H : Hid (zs.length = n) := a1
    have HC : Hid (∀ i, i < zs.length → w.cell? ⟨b, off + i, none⟩ = some (.int .u64 (zs.getD i 0))) := hcell
    have HL := hid a5
    clear a1 hcell a5
    go_enter Tryd.func16, Tryd.ntmps16
    go_wp2
    go_loop [3] (fun i => ∃ k : Nat, k ≤ n ∧ i = .int .i64 k ∧ Hid (∀ j, j < k → zs.getD j 0 = 0)) (fun i => n - (intOf i).toNat)
    case atStart => exact ⟨0, Nat.zero_le _, rfl, fun j hj => by omega⟩
    case round =>
      obtain ⟨k, hk, rfl, Z⟩ := hrel
      by_cases hlt : k < n
      · have hlt' : (k : Int) < (n : Int) := by omega
        obtain ⟨x, hx, X⟩ : ∃ x, w.cell? ⟨b, off + k, none⟩ = some (.int .u64 x) ∧ Hid (x = zs.getD k 0) := ⟨_, HC.out k (by have := H.out; omega), rfl⟩
        have hx0 : 0 ≤ x := by have := HL.out.at k; have := X.out; omega
        have hx1 : x < 18446744073709551616 := by have := HL.out.at k; have := X.out; omega
        by_cases hz : x = 0
        · have hz' : (x != 0) = false := by simp [hz]
          have Z2 : Hid (∀ j, j < k + 1 → zs.getD j 0 = 0) := by
            intro j hj
            by_cases e : j = k
            · rw [e, ← X.out]; exact hz
            · exact Z.out j (by omega)
          clear hz
          go_wp2
          go_round
          case rel => exact ⟨k + 1, by omega, by go_num, Z2.out⟩
          case measure => simp [intOf]; omega
        · have hz' : (x != 0) = true := by simp [hz]
          have XP : Hid (0 < x) := by show 0 < x; omega
          have FIN : Hid (∀ (c : Nat) (m : Int), x = 2 ^ c * (2 * m + 1) → c ≤ 63 → Nm.Trl (Nm.val zs) (64 * k + c)) := fun c m h hc => Nm.trl_at zs k c m (by have := H.out; omega) Z.out (by rw [← X.out]; exact h) hc
          have CB : Hid (∀ (c : Nat) (y : Int), 1 ≤ y → x = 2 ^ c * y → c ≤ 63) := by
            intro c y hy h
            rcases Nat.lt_or_ge c 64 with h1 | h1
            · omega
            · exfalso
              have h2 := Nm.two_mono h1
              rw [Nm.two_64] at h2
              have h3 : (2 : Int) ^ c * 1 ≤ 2 ^ c * y := Int.mul_le_mul_of_nonneg_left hy (by omega)
              omega
          have hkb : k ≤ 17592186044416 := by omega
          clear hz
          go_wp2_with fail
          go_loop [4, 5] (fun s y => ∃ (c S : Nat) (v : Int), Hid (S = 64 * k + c) ∧ S ≤ 1125899906842688 ∧ s = .int .i64 S ∧ y = .int .u64 v ∧ 1 ≤ v ∧ v ≤ x ∧ Hid (x = 2 ^ c * v)) (fun _ y => (intOf y).toNat)
          case atStart => exact ⟨0, 64 * k, x, rfl, by omega, by first | rfl | go_num, rfl, by have := XP.out; omega, by omega, by simp [Hid]⟩
          case round =>
            obtain ⟨c, S, v, HS, hS, rfl, rfl, hv1, hv2, HX⟩ := hrel
            have hc63 := CB.out c v hv1 HX.out
            by_cases hodd : v % 2 = 0
            · have hodd' : (v % 2 == 0) = true := by simp [hodd]
              obtain ⟨u, hu, U⟩ : ∃ u, v / 2 = u ∧ Hid (u = v / 2) := ⟨_, rfl, rfl⟩
              have hu1 : 1 ≤ u := by omega
              have huv : u < v := by omega
              have HX2 : Hid (x = 2 ^ (c + 1) * u) := by
                rw [Hid, Nm.two_succ, HX.out, Int.mul_assoc, Int.mul_left_comm]
                congr 1
                omega
              have hc2 := CB.out (c + 1) u hu1 HX2.out
              have hS2 : S + 1 ≤ 1125899906842688 := by have := HS.out; omega
              clear hodd
              go_wp2
              go_round
              case rel => exact ⟨c + 1, S + 1, u, by have := HS.out; show _ = _; omega, hS2, by go_num, by rw [hu], hu1, by omega, HX2.out⟩
              case measure => simp [intOf]; omega
            · have hodd' : (v % 2 == 0) = false := by simp; omega
              have E : Hid (Nm.Trl (Nm.val zs) S) := by
                rw [HS.out]
                exact FIN.out c (v / 2) (by rw [HX.out]; congr 1; omega) hc63
              clear hodd
              go_wp2
              go_ret
              exact ⟨⟨S, rfl, E.out⟩, rfl⟩
      · have hlt' : ¬ (k : Int) < (n : Int) := by omega
        have E : Hid (Nm.Trl (Nm.val zs) 0) := by
          refine .inl ⟨val_zero_of (fun j => ?_), rfl⟩
          by_cases hj : j < k
          · exact Z.out j hj
          · simp [List.getD, List.getElem?_eq_none (show zs.length ≤ j by have := H.out; omega)]
        go_wp2
        go_ret
        exact ⟨⟨0, rfl, E.out⟩, rfl⟩
end Go.Proofs.YtffkopijfelacaaDoor
