/-
  Texts put together: NLow, NDiv, NAsk0, NAsk1.
-/
import Derived.Test.YtmglogncpfoldaaDoorRB
import Derived.Laws.Rows
namespace Go.Proofs.YtmglogncpfoldaaDoor
open Go.RowKit Go.Deep

theorem low_tell (p : Option Addr) (n cap : Nat) (za : List Int) (kk : Int) (w : World) (ha : Arg w p n cap za) :
    Calls Tryd.prog 44 #[.slice p n cap, .int .i64 kk] w fun e w' => Tells (4096 < Nm.tsize za ∨ kk < 0) (shErr za) (Nm.val za % 2 ^ kk.toNat) w e w' := by
  by_cases h : 4096 < Nm.tsize za ∨ kk < 0
  · refine (low_bad p n cap za kk w ha h _ rfl).mono ?_
    rintro e w' ⟨rfl, rfl⟩
    exact Tells.bad h (Below.refl _ _)
  · refine (low_any p n cap za kk kk.toNat w ha (by omega) (by omega)).mono ?_
    rintro e w' ⟨r, os, rfl, A, hB⟩
    exact Tells.good h A hB

theorem low_half {x : Int} {i : Nat} : x % 2 ^ i + x / 2 ^ i % 2 * 2 ^ i = x % 2 ^ (i + 1) := by
  have e : (2 : Int) ^ (i + 1) = 2 ^ i * 2 := by rw [Nm.two_add]; rfl
  have hp := Nm.two_pos i
  have h1 := Int.emod_add_mul_ediv x (2 ^ i)
  have h2 := Int.emod_add_mul_ediv (x / 2 ^ i) 2
  have h3 := Int.emod_nonneg x (b := 2 ^ i) (by omega)
  have h4 := Int.emod_lt_of_pos x hp
  have h5 : x = (x % 2 ^ i + x / 2 ^ i % 2 * 2 ^ i) + 2 ^ i * 2 * (x / 2 ^ i / 2) := by
    rw [Int.mul_assoc, Int.add_assoc, Int.mul_comm (x / 2 ^ i % 2), ← Int.mul_add, h2, h1]
  rw [e]
  have h6 : 0 ≤ x / 2 ^ i % 2 * 2 ^ i ∧ x / 2 ^ i % 2 * 2 ^ i ≤ 2 ^ i := by
    rcases (show x / 2 ^ i % 2 = 0 ∨ x / 2 ^ i % 2 = 1 by omega) with c | c <;> rw [c] <;> omega
  have ha : 0 ≤ x % 2 ^ i + x / 2 ^ i % 2 * 2 ^ i ∧ x % 2 ^ i + x / 2 ^ i % 2 * 2 ^ i < 2 ^ i * 2 := by omega
  generalize x % 2 ^ i + x / 2 ^ i % 2 * 2 ^ i = a at h5 ha ⊢
  have h7 : 0 ≤ a ∧ a < 2 ^ i * 2 := ha
  generalize x / 2 ^ i / 2 = q at h5
  rw [h5, Int.add_mul_emod_self_left, Int.emod_eq_of_lt h7.1 h7.2]

set_option maxRecDepth 100000 in
set_option maxHeartbeats 2000000 in
theorem refLow_any (p : Option Addr) (n cap : Nat) (za : List Int) (kk : Int) (w : World) (ha : Arg w p n cap za) (hk1 : kk ≤ 9223372036854775807) :
    Calls Tryd.prog 30 #[.slice p n cap, .int .i64 kk] w fun e w' => Tells (4096 < Nm.tsize za ∨ kk < 0) (shErr za) (Nm.val za % 2 ^ kk.toNat) w e w' := by
  by_cases h1 : 4096 < Nm.tsize za
  · have S1 := hid (refBig_is true p n cap za w ha (by simpa using h1))
    have E : Hid (Tells (4096 < Nm.tsize za ∨ kk < 0) (shErr za) (Nm.val za % 2 ^ kk.toNat) w (.returned (.tuple #[.slice none 0 0, .int .i64 2])) w) := by
      have e : shErr za = 2 := if_pos h1
      rw [e]; exact Tells.bad (.inl h1) (Below.refl _ _)
    clear ha h1
    go_enter Tryd.func30, Tryd.ntmps30
    go_wp2_with fail
    refine S1.out.mono ?_
    rintro e w' ⟨rfl, rfl⟩
    go_wp2
    go_ret2
    exact E.out
  have S1 := hid (refBig_is false p n cap za w ha (by simp; omega))
  by_cases h2 : kk < 0
  · have E : Hid (Tells (4096 < Nm.tsize za ∨ kk < 0) (shErr za) (Nm.val za % 2 ^ kk.toNat) w (.returned (.tuple #[.slice none 0 0, .int .i64 1])) w) := by
      have e : shErr za = 1 := if_neg h1
      rw [e]; exact Tells.bad (.inr h2) (Below.refl _ _)
    clear ha h1
    go_enter Tryd.func30, Tryd.ntmps30
    go_wp2_with fail
    refine S1.out.mono ?_
    rintro e w' ⟨rfl, rfl⟩
    go_wp2
    go_ret2
    exact E.out
  have NB : Hid (¬ (4096 < Nm.tsize za ∨ kk < 0)) := by show ¬ _; omega
  obtain ⟨k, HK⟩ : ∃ k : Nat, Hid (kk = (k : Int)) := ⟨kk.toNat, by show _ = _; omega⟩
  have HKN : Hid (kk.toNat = k) := by have := HK.out; show _ = _; omega
  have TO := refTrim_own p n cap za w ha
  obtain ⟨N, HN⟩ : ∃ N, Hid (Nm.tsize za = N) := ⟨_, rfl⟩
  rw [HN.out] at TO
  have HTO := hid TO
  have hN1 : N ≤ 4096 := by have := HN.out; omega
  have L1 := hid ((Nm.trim_length za).trans HN.out)
  have A5 := hid ha.2.2.2.2.trim
  have V := hid (Nm.val_trim za)
  have bd := Nm.val_bd _ ha.2.2.2.2.trim
  rw [V.out, L1.out] at bd
  have BD := hid bd
  clear ha h1 TO bd
  go_enter Tryd.func30, Tryd.ntmps30
  go_wp2_with fail
  refine S1.out.mono ?_
  rintro e w' ⟨rfl, rfl⟩
  go_wp2_with fail
  refine HTO.out.mono ?_
  rintro e w1 ⟨rfl, OW, B1⟩
  clear HTO
  by_cases hL : 64 * (N : Int) ≤ kk
  · have E : Hid (Tells (4096 < Nm.tsize za ∨ kk < 0) (shErr za) (Nm.val za % 2 ^ kk.toNat) w' (.returned (.tuple #[.slice (some ⟨w'.heap.size, 0, none⟩) N N, .int .i64 0])) w1) := by
      have h := Tells.good (P := 4096 < Nm.tsize za ∨ kk < 0) (E := shErr za) (T := Nm.val za % 2 ^ kk.toNat) (w := w') (w' := w1) (r := some ⟨w'.heap.size, 0, none⟩) (os := Nm.trim za) NB.out ⟨OW.lies, A5.out, by rw [Nm.trim_trim, Nm.trim_length], by
        rw [V.out, HKN.out, Int.emod_eq_of_lt BD.out.1 (Int.lt_of_lt_of_le BD.out.2 (by rw [Nm.pw_two]; exact Nm.two_mono (by have := HK.out; omega)))], fun a h => by cases h; exact ⟨Nat.le_refl _, fun _ o => OW.free o⟩⟩ B1
      rw [L1.out] at h
      exact h
    clear OW B1
    go_wp2
    go_ret2
    exact E.out
  · obtain ⟨sk, hsk⟩ : ∃ sk, k / 64 = sk := ⟨_, rfl⟩
    obtain ⟨r, hr⟩ : ∃ r, k % 64 = r := ⟨_, rfl⟩
    have KK := HK.out
    have r1 : kk / 64 = (sk : Int) := by omega
    have r2 : kk % 64 = (r : Int) := by omega
    have hr63 : r ≤ 63 := by omega
    have hskN : sk < N := by omega
    have hskN' : (sk : Int) < (N : Int) := by omega
    have hkb : kk ≤ 262144 := by omega
    have hk0 : 0 ≤ kk := by omega
    have KE : Hid (k = 64 * sk + r) := by show _ = _; omega
    clear KK hsk hr h2
    obtain ⟨x, X⟩ : ∃ x, Hid (x = (Nm.trim za).getD sk 0) := ⟨_, rfl⟩
    have hxc := OW.cell sk (by rw [L1.out]; exact hskN)
    rw [← X.out] at hxc
    have hx0 := A5.out.at sk
    rw [← X.out] at hx0
    obtain ⟨hx0, hx1⟩ := hx0
    obtain ⟨g, hg⟩ : ∃ g, w'.heap.size = g := ⟨_, rfl⟩
    rw [hg] at OW hxc
    simp only [hg]
    have HB1 := hid B1
    have HOW := hid OW
    clear OW B1
    go_wp2_with fail
    go_loop [8, 9, 10, 11] (fun a b c d => ∃ (t : Nat) (W K F : Int), t ≤ r ∧ d = .int .i64 (t : Int) ∧ a = .int .u64 W ∧ b = .int .u64 K ∧ c = .int .u64 F ∧ (0 ≤ W ∧ W < 18446744073709551616) ∧ (0 ≤ K ∧ K < F) ∧ (1 ≤ F ∧ F ≤ 9223372036854775808) ∧ Hid (W = x / 2 ^ t ∧ K = x % 2 ^ t ∧ F = 2 ^ t)) (fun _ _ _ d => r - (intOf d).toNat)
    case atStart => exact ⟨0, x, 0, 1, by omega, rfl, rfl, rfl, rfl, ⟨hx0, hx1⟩, by omega, by omega, by show _ ∧ _; simp [Int.emod_one]⟩
    case round =>
      obtain ⟨t, W, K, F, ht, rfl, rfl, rfl, rfl, ⟨w0, w1'⟩, ⟨k0, k1⟩, ⟨f0, f1⟩, HI⟩ := hrel
      by_cases hd : t = r
      · subst hd
        have YE := HI.out.2.1
        have QE : Hid (Nm.val za % 2 ^ k = Nm.val ((Nm.trim za).take sk) + Nm.pw sk * K) := by
          have TL : ((Nm.trim za).take sk).length = sk := by rw [List.length_take, L1.out]; omega
          have h1 := Nm.val_drop (Nm.trim za) sk (by rw [L1.out]; omega)
          have h2 := Nm.val_bd _ (A5.out.take sk)
          rw [TL] at h2
          have h3 : Nm.val ((Nm.trim za).drop sk) = x + 18446744073709551616 * Nm.val ((Nm.trim za).drop (sk + 1)) := by
            rw [X.out, List.drop_eq_getElem_cons (by rw [L1.out]; exact hskN), Nm.val]
            simp [List.getD, L1.out, hskN]
          have hp := Nm.pw_pos sk
          have c1 := Int.emod_add_mul_ediv x (2 ^ t)
          rw [← YE] at c1
          have hPQ := Sh.split64 t hr63
          have e1 : Nm.val za = Nm.val ((Nm.trim za).take sk) + Nm.pw sk * K + 2 ^ k * (x / 2 ^ t + 2 ^ (64 - t) * Nm.val ((Nm.trim za).drop (sk + 1))) := by
            rw [KE.out, Nm.two_add, ← Nm.pw_two, Int.mul_assoc, Int.mul_add (2 ^ t), ← Int.mul_assoc (2 ^ t), hPQ, ← V.out, h1, h3]
            have : x + 18446744073709551616 * Nm.val ((Nm.trim za).drop (sk + 1)) = K + (2 ^ t * (x / 2 ^ t) + 18446744073709551616 * Nm.val ((Nm.trim za).drop (sk + 1))) := by omega
            rw [this, Int.mul_add]
            omega
          have e2 : 0 ≤ Nm.pw sk * K := Int.mul_nonneg (by omega) k0
          have kF : K < 2 ^ t := by rw [← HI.out.2.2]; exact k1
          have e3 : Nm.pw sk * (K + 1) ≤ Nm.pw sk * 2 ^ t := Int.mul_le_mul_of_nonneg_left (by omega) (by omega)
          rw [Int.mul_add, Int.mul_one, Nm.pw_two, ← Nm.two_add, ← KE.out, ← Nm.pw_two] at e3
          show _ = _
          rw [e1, Int.add_mul_emod_self_left, Int.emod_eq_of_lt (by omega) (by omega)]
        have gl := HOW.out.lt
        have bm : Below w1.heap.size w1 (w1.alloc (.cells #[.int .u64 K] 28)) := (Below.refl _ _).alloc (Nat.le_refl _) _
        have hl : Lies (w1.alloc (.cells #[.int .u64 K] 28)) (some ⟨w1.heap.size, 0, none⟩) [K] := (Own.alloc w1 [K]).lies
        obtain ⟨w2, ap, ow, be, sz⟩ := append64 g N sk (Nm.trim za) (some ⟨w1.heap.size, 0, none⟩) 1 1 [K] 27 _ L1.out rfl (by omega) (Own.below HOW.out bm gl) hl
        have TL : ((Nm.trim za).take sk ++ [K]).length = sk + 1 := by rw [List.length_append, List.length_take, L1.out]; simp; omega
        have LI2 : Lies w2 (some ⟨g, 0, none⟩) ((Nm.trim za).take sk ++ [K]) := by
          have := ow.lies.take (sk + 1)
          rwa [List.take_left' TL] at this
        have A2 := hid (show Arg w2 (some ⟨g, 0, none⟩) (sk + 1) N ((Nm.trim za).take sk ++ [K]) from ⟨TL, by omega, by omega, LI2, (A5.out.take sk).append (Nm.Limbs.mk k0 (by omega) Nm.Limbs.nil)⟩)
        have VQ : Hid (Nm.val ((Nm.trim za).take sk ++ [K]) = Nm.val za % 2 ^ k) := by
          have TL0 : ((Nm.trim za).take sk).length = sk := by rw [List.length_take, L1.out]; omega
          show _ = _
          rw [Nm.val_append, TL0, QE.out]
          simp [Nm.val]
        have B2 : Below w'.heap.size w' w2 := HB1.out.trans ((bm.mono (by have := HB1.out.size; omega)).trans (be.mono (by omega)))
        have HB2 := hid B2
        have TR := hid (refTrim_any (some ⟨g, 0, none⟩) (sk + 1) N _ w2 A2.out)
        clear B2 LI2 TL hl bm gl QE YE ow be sz HB1 HOW hg
        have AP := hid ap
        clear ap
        go_wp2_with (at_builtin; refine wpList_append_row rfl _ _ rfl AP.out (by rfl) (by rfl) ?_; clear AP)
        refine TR.out.mono ?_
        rintro e w3 ⟨r3, os, rfl, -, hA, hB3⟩
        have E : Hid (Tells (4096 < Nm.tsize za ∨ kk < 0) (shErr za) (Nm.val za % 2 ^ kk.toNat) w' (.returned (.tuple #[.slice r3 (List.length os) (List.length os), .int .i64 0])) w3) := by
          rw [VQ.out] at hA
          exact Tells.good NB.out (by rw [HKN.out]; exact ⟨hA.1, hA.2.1, hA.2.2.1, hA.2.2.2.1, fun a h => ⟨Nat.le_trans HB2.out.size (hA.2.2.2.2 a h).1, (hA.2.2.2.2 a h).2⟩⟩) (HB2.out.trans (hB3.mono HB2.out.size))
        clear hA hB3 TR
        go_wp2
        go_ret2
        exact E.out
      · have htr : (t : Int) < (r : Int) := by omega
        have F62 : F ≤ 4611686018427387904 := by
          rw [HI.out.2.2]
          have := Nm.two_mono (show t ≤ 62 by omega)
          have e : (2 : Int) ^ 62 = 4611686018427387904 := by decide
          omega
        obtain ⟨M, HM⟩ : ∃ M, Hid (W % 2 * F = M) := ⟨_, rfl⟩
        have m2 : M = 0 ∨ M = F := by
          rw [← HM.out]
          rcases (show W % 2 = 0 ∨ W % 2 = 1 by omega) with c | c <;> rw [c] <;> omega
        have hM1 : IntKind.u64.wrap (W % 2 * F) = M := by rw [HM.out, Sh.wrap_mod]; omega
        have hM2 : IntKind.u64.wrap (K + M) = K + M := by rw [Sh.wrap_mod]; omega
        have hM3 : IntKind.u64.wrap (F * 2) = F * 2 := by rw [Sh.wrap_mod]; omega
        have NX : Hid (W / 2 = x / 2 ^ (t + 1) ∧ K + M = x % 2 ^ (t + 1) ∧ F * 2 = 2 ^ (t + 1)) := by
          obtain ⟨i1, i2, i3⟩ := HI.out
          refine ⟨by rw [i1]; exact half_more x t, ?_, by rw [i3, Nm.two_add]; rfl⟩
          rw [← low_half, ← HM.out, i1, i2, i3]
        clear HI HM
        go_wp2
        go_round
        case rel => exact ⟨t + 1, W / 2, K + M, F * 2, by omega, by go_num, rfl, rfl, rfl, by omega, by omega, by omega, NX.out⟩
        case measure => simp [intOf]; omega
end Go.Proofs.YtmglogncpfoldaaDoor

namespace Go.Proofs.YtmglogncpfoldaaDoor
open Go.RowKit Go.Deep

theorem dv_bit (x : Int) (k : Nat) (hk : k ≤ 63) :
    ∃ A b, IntKind.u64.wrap (x * 2 ^ k) = A ∧ A / 9223372036854775808 = b ∧ (0 ≤ A ∧ A < 18446744073709551616) ∧ (b = 0 ∨ b = 1) ∧ Hid (x / 2 ^ (63 - k) = 2 * (x / 2 ^ (64 - k)) + b) := by
  have p1 := Nm.two_pos k
  have p2 := Nm.two_pos (63 - k)
  have p3 := Nm.two_pos (64 - k)
  have e64 := Sh.split64 k hk
  have e63 : (2 : Int) ^ (64 - k) = 2 ^ (63 - k) * 2 := by rw [show 64 - k = (63 - k) + 1 by omega, Nm.two_add]; rfl
  have h63 : (2 : Int) ^ k * 2 ^ (63 - k) = 9223372036854775808 := by rw [← Nm.two_add, show k + (63 - k) = 63 by omega]; decide
  have m1 := Int.emod_add_mul_ediv x (2 ^ (64 - k))
  have m2 := Int.emod_nonneg x (b := 2 ^ (64 - k)) (by omega)
  have m3 := Int.emod_lt_of_pos x p3
  generalize x % 2 ^ (64 - k) = m at m1 m2 m3
  generalize x / 2 ^ (64 - k) = q at m1 ⊢
  have hA : IntKind.u64.wrap (x * 2 ^ k) = m * 2 ^ k := by
    rw [Sh.wrap_mod, ← m1, Int.add_mul, Int.mul_right_comm, Int.mul_comm (2 ^ (64 - k)) (2 ^ k), e64, Int.add_mul_emod_self_left, Int.emod_eq_of_lt (Int.mul_nonneg m2 (by omega))]
    have : m * 2 ^ k < 2 ^ (64 - k) * 2 ^ k := Int.mul_lt_mul_of_pos_right m3 p1
    rw [Int.mul_comm (2 ^ (64 - k)), e64] at this
    exact this
  have hA0 : 0 ≤ m * 2 ^ k := Int.mul_nonneg m2 (by omega)
  have hA1 : m * 2 ^ k < 18446744073709551616 := by
    have : m * 2 ^ k < 2 ^ (64 - k) * 2 ^ k := Int.mul_lt_mul_of_pos_right m3 p1
    rw [Int.mul_comm (2 ^ (64 - k)), e64] at this
    exact this
  have hb : m * 2 ^ k / 9223372036854775808 = m / 2 ^ (63 - k) := by
    rw [← h63, Int.mul_comm m]
    exact Int.mul_ediv_mul_of_pos _ _ p1
  refine ⟨m * 2 ^ k, m / 2 ^ (63 - k), hA, hb, ⟨hA0, hA1⟩, ?_, ?_⟩
  · rw [← hb]; omega
  · show _ = _
    rw [← m1, e63, Int.mul_assoc, Int.add_mul_ediv_left _ _ (by omega)]
    omega

theorem or_low (R b : Int) (hb : b = 0 ∨ b = 1) : ∃ A, IntKind.u64.wrap (R * 2) = A ∧ bits .or .u64 A b = A + b ∧ Hid (A = R * 2 % 18446744073709551616) ∧ (0 ≤ A ∧ A ≤ 18446744073709551614) := by
  refine ⟨_, rfl, ?_, by rw [Sh.wrap_mod]; rfl, by rw [Sh.wrap_mod]; omega⟩
  rw [Sh.wrap_mod]
  have e : R * 2 % 18446744073709551616 = (R % 9223372036854775808) * 2 ^ 1 := by omega
  rw [e]
  exact Sh.or_sum (R % 9223372036854775808) b 1 (by omega) (by omega) (by omega) (by omega) (by omega)

/-- The quotient's block while a limb is worked out. -/
def DI (g i : Nat) (w : World) (os : List Int) (Q : Int) (wr : World) : Prop := Own wr g (os.set i Q) ∧ Below g w wr

theorem DI.set {g i : Nat} {w wr : World} {os : List Int} {Q : Int} (h : DI g i w os Q wr) (v : Int) : DI g i w os v (wr.setCell ⟨g, i, none⟩ (.int .u64 v)) := by
  refine ⟨?_, h.2.setCell (p := ⟨g, i, none⟩) (Nat.le_refl _) _⟩
  have := h.1.set i v
  rwa [List.set_set] at this

theorem dv_next {rr x d R Q b c : Int} {u : Nat} (hu : u ≤ 63) (h : Q < 2 ^ u ∧ Q * d + R = rr * 2 ^ u + x / 2 ^ (64 - u)) (hb : x / 2 ^ (63 - u) = 2 * (x / 2 ^ (64 - u)) + b) (hc : c = 0 ∨ c = 1) :
    Q * 2 + c < 2 ^ (u + 1) ∧ (Q * 2 + c) * d + (R * 2 + b - c * d) = rr * 2 ^ (u + 1) + x / 2 ^ (64 - (u + 1)) := by
  have e : (2 : Int) ^ (u + 1) = 2 ^ u * 2 := by rw [Nm.two_add]; rfl
  rw [show 64 - (u + 1) = 63 - u by omega, hb, e, ← Int.mul_assoc, Int.add_mul, Int.mul_right_comm]
  obtain ⟨h1, h2⟩ := h
  refine ⟨by omega, ?_⟩
  generalize Q * d = a at *
  generalize c * d = f at *
  generalize rr * 2 ^ u = g at *
  generalize x / 2 ^ (64 - u) = y at *
  omega

theorem DivInv.step2 {g n : Nat} {w : World} {xs : List Int} {d : Int} {t : Nat} {r : Int} {os : List Int} {wr w' : World} (h : DivInv g n w xs d (t + 1) r os wr) (hx : t < xs.length) (ht : t < n) {q r' x : Int} (ho : DI g t w os q w')
    (hxe : x = xs.getD t 0) (hq : q * d + r' = r * 18446744073709551616 + x) (hq0 : 0 ≤ q ∧ q < 18446744073709551616) (hr : 0 ≤ r' ∧ r' < d) :
    DivInv g n w xs d t r' (os.set t q) w' := by
  obtain ⟨h1, h2, h3, h4, h5, h6, h7⟩ := h
  refine ⟨ho.1, by simpa using h2, h3.set t hq0.1 hq0.2, ?_, ?_, hr, ho.2⟩
  · rw [Nm.val_set _ _ _ (by omega), h5 t (by omega), Int.sub_zero, Int.add_mul, Int.mul_assoc]
    rw [Nm.val_take_succ xs t hx, ← hxe, Nm.pw_succ] at h4
    have e : Nm.pw t * (q * d + r') = Nm.pw t * (r * 18446744073709551616 + x) := by rw [hq]
    rw [Int.mul_add, Int.mul_add] at e
    have e2 : 18446744073709551616 * Nm.pw t * r = Nm.pw t * (r * 18446744073709551616) := by rw [Int.mul_assoc, Int.mul_left_comm, Int.mul_comm 18446744073709551616 r]
    omega
  · intro i hi
    rw [Nm.getD_set _ _ _ _ (by omega), if_neg (by omega)]
    exact h5 i (by omega)

set_option maxRecDepth 100000 in
set_option maxHeartbeats 4000000 in
theorem refDivSmall_ok (p : Option Addr) (n cap : Nat) (zs : List Int) (d : Int) (w : World) (ha : Arg w p n cap zs) (tz : Nm.tsize zs ≤ 4096) (hd0 : 0 < d) (hd1 : d < 18446744073709551616) :
    Calls Tryd.prog 26 #[.slice p n cap, .int .u64 d] w fun e w' =>
      ∃ r os rest, e = .returned (.tuple #[.slice r (List.length os) (List.length os), .int .u64 rest, .int .i64 0]) ∧ Ans w.heap.size w' r os (Nm.val os) ∧ (0 ≤ rest ∧ rest < d) ∧ Hid (Nm.val os * d + rest = Nm.val zs) ∧ Below w.heap.size w w' := by
  have S1 := hid (refBig_is false p n cap zs w ha (by simp; omega))
  obtain ⟨a1, a2, a3, a4, a5⟩ := ha
  obtain ⟨N, HN⟩ : ∃ N, Hid (Nm.tsize zs = N) := ⟨_, rfl⟩
  have T1 := refSize_any p n cap zs w a1 (by omega) a4
  rw [HN.out] at T1
  have hN : N ≤ 4096 := by rw [← HN.out]; exact tz
  have hNn : N ≤ n := by have := Nm.tsize_le zs; have := HN.out; omega
  have L1 := hid ((Nm.trim_length zs).trans HN.out)
  have hmk := make64 N (by omega) w
  have ho : Own (w.alloc (.cells (madeCells #[.int .u64 0] N) 28)) w.heap.size (List.replicate N 0) := by
    rw [made_zero]; exact Own.alloc w _
  have hb0 : Below w.heap.size w (w.alloc (.cells (madeCells #[.int .u64 0] N) 28)) := (Below.refl _ _).alloc (Nat.le_refl _) _
  obtain ⟨W0, hW0⟩ : ∃ W0, w.alloc (.cells (madeCells #[.int .u64 0] N) 28) = W0 := ⟨_, rfl⟩
  have I0 : DivInv w.heap.size N w (Nm.trim zs) d N 0 (List.replicate N 0) W0 := by
    rw [← hW0]
    exact ⟨ho, by simp, Nm.Limbs.replicate _, by rw [Nm.val_replicate, Int.zero_mul, Int.mul_zero, List.take_of_length_le (by rw [L1.out]; omega)]; omega, fun i _ => getD_replicate _ _, ⟨by omega, hd0⟩, hb0⟩
  have hd : (d == 0) = false := by rw [beq_eq_false_iff_ne]; omega
  have A5 := hid a5.trim
  have A4 := hid a4.trim
  have V := hid (Nm.val_trim zs)
  have HT := hid T1
  have HI0 := hid I0
  clear T1 tz ho hb0 a4 a5 I0
  rw [hW0] at hmk
  clear hW0
  have fin : ∀ (os : List Int) (r : Int) (wr : World), DivInv w.heap.size N w (Nm.trim zs) d 0 r os wr →
      Arg wr (some ⟨w.heap.size, 0, none⟩) N N os ∧ (0 ≤ r ∧ r < d) ∧ (Nm.val os * d + r = Nm.val zs) ∧ Below w.heap.size w wr := by
    intro os r wr I
    obtain ⟨i1, i2, i3, i4, i5, i6, i7⟩ := I
    refine ⟨⟨i2, Nat.le_refl _, by omega, i1.lies, i3⟩, i6, ?_, i7⟩
    rw [← V.out, ← i4]
    simp [Nm.pw, Nm.val]
  have FIN := hid fin
  clear fin
  have hC : Hid (0 < N → ∃ b off, p = some ⟨b, off, none⟩ ∧ b < w.heap.size ∧ ∀ i, i < N → w.cell? ⟨b, off + i, none⟩ = some (.int .u64 ((Nm.trim zs).getD i 0))) := by
    intro h0
    obtain ⟨b, off, hp, hbw, HC⟩ := A4.out.at (by rw [L1.out]; omega)
    exact ⟨b, off, hp, hbw, fun i hi => HC.out i (by rw [L1.out]; exact hi)⟩
  go_enter Tryd.func26, Tryd.ntmps26
  go_wp2_with fail
  refine S1.out.mono ?_
  rintro e w' ⟨rfl, rfl⟩
  go_wp2_with fail
  refine HT.out.mono ?_
  rintro e w'' ⟨rfl, rfl⟩
  clear HT S1
  obtain ⟨g, hg⟩ : ∃ g, w''.heap.size = g := ⟨_, rfl⟩
  rw [hg] at hmk HI0 FIN
  go_wp2_with fail
  clear hmk
  go_loopw [9, 10, 11, 12] (fun a i _ _ wr => ∃ (j : Nat) (rr : Int) (os : List Int), j ≤ N ∧ i = .int .i64 ((j : Int) - 1) ∧ a = .int .u64 rr ∧ Hid (DivInv g N w'' (Nm.trim zs) d j rr os wr)) (fun _ i _ _ _ => (intOf i + 1).toNat)
  case atStart => exact ⟨N, 0, _, Nat.le_refl _, rfl, rfl, HI0.out⟩
  case round =>
    clear HI0
    obtain ⟨j, rr, os, hj, rfl, rfl, I⟩ := hrel
    by_cases hj0 : j = 0
    · subst hj0
      obtain ⟨F1, F2, F3, F4⟩ := FIN.out _ _ _ I.out
      have TR := hid (refTrim_any _ N N os wr F1)
      have HF2 := hid F2
      have HF3 := hid F3
      have HF4 := hid F4
      clear F1 F2 F3 F4 I FIN
      go_wp2_with fail
      refine TR.out.mono ?_
      rintro e w3 ⟨r3, o3, rfl, -, hA, hB⟩
      have A3 := hid (show Ans w''.heap.size w3 r3 o3 (Nm.val o3) from ⟨hA.1, hA.2.1, hA.2.2.1, rfl, fun a h => ⟨Nat.le_trans (by have := HF4.out.size; omega) (hA.2.2.2.2 a h).1, (hA.2.2.2.2 a h).2⟩⟩)
      have E3 : Hid (Nm.val o3 * d + rr = Nm.val zs) := by have := hA.2.2.2.1; show _ = _; rw [this]; exact HF3.out
      have B3 : Hid (Below w''.heap.size w'' w3) := by rw [hg]; exact HF4.out.trans (hB.mono (by have := HF4.out.size; omega))
      clear hA hB TR
      go_wp2
      go_ret3
      exact ⟨r3, o3, rr, rfl, A3.out, HF2.out, E3.out, B3.out⟩
    · obtain ⟨t, rfl⟩ : ∃ t, j = t + 1 := ⟨j - 1, by omega⟩
      obtain ⟨b, off, rfl, hbw, HC⟩ := hC.out (by omega)
      obtain ⟨x, HX⟩ : ∃ x, Hid (x = (Nm.trim zs).getD t 0) := ⟨_, rfl⟩
      have hcx : Hid (w''.cell? ⟨b, off + t, none⟩ = some (.int .u64 x)) := by rw [HX.out]; exact HC t (by omega)
      have hx0 := A5.out.at t
      rw [← HX.out] at hx0
      obtain ⟨hx0, hx1⟩ := hx0
      obtain ⟨hr0, hr1⟩ := I.out.2.2.2.2.2.1
      have htN : (t : Int) < (N : Int) := by omega
      have htn : (t : Int) < (n : Int) := by omega
      have D0 : Hid (DI g t w'' os 0 wr) := by
        obtain ⟨i1, i2, i3, i4, i5, i6, i7⟩ := I.out
        refine ⟨?_, i7⟩
        have e : os.set t 0 = os := by
          apply List.ext_getElem?
          intro k
          rw [List.getElem?_set]
          by_cases hk : t = k
          · subst hk
            have := i5 t (by omega)
            rw [List.getD, List.getElem?_eq_getElem (by omega)] at this
            rw [if_pos rfl, if_pos (by omega), List.getElem?_eq_getElem (by omega)]
            simp at this
            rw [this]
          · rw [if_neg hk]
        rw [e]; exact i1
      have E0 : Hid ((0 : Int) < 2 ^ 0 ∧ 0 * d + rr = rr * 2 ^ 0 + x / 2 ^ (64 - 0)) := by
        have e2 : (2 : Int) ^ (64 - 0) = 18446744073709551616 := by decide
        have e : x / 2 ^ (64 - 0) = 0 := Int.ediv_eq_zero_of_lt hx0 (by rw [e2]; exact hx1)
        rw [e]
        exact ⟨by decide, by simp⟩
      clear HC
      go_wp2_with fail
      go_loopw [9, 11, 12] (fun a k _ wr => ∃ (u : Nat) (R Q : Int), u ≤ 64 ∧ k = .int .i64 (u : Int) ∧ a = .int .u64 R ∧ (0 ≤ R ∧ R < d) ∧ (0 ≤ Q ∧ Q < 18446744073709551616) ∧ Hid (Q < 2 ^ u ∧ Q * d + R = rr * 2 ^ u + x / 2 ^ (64 - u)) ∧ Hid (DI g t w'' os Q wr)) (fun _ k _ _ => 64 - (intOf k).toNat)
      case atStart => exact ⟨0, rr, 0, by omega, rfl, rfl, ⟨hr0, hr1⟩, by omega, E0.out, D0.out⟩
      case round =>
        clear D0
        obtain ⟨u, R, Q, hu, rfl, rfl, ⟨R0, R1⟩, ⟨Q0, Q1⟩, EQ, D⟩ := hrel
        by_cases hend : u = 64
        · subst hend
          have E64 : Q * d + R = rr * 18446744073709551616 + x := by
            have h := EQ.out.2
            have e2 : (2 : Int) ^ 64 = 18446744073709551616 := by decide
            have e3 : x / 2 ^ (64 - 64) = x := by simp
            rw [e2, e3] at h
            exact h
          have NX := hid (I.out.step2 (by rw [L1.out]; omega) (by omega) D.out HX.out E64 ⟨Q0, Q1⟩ ⟨R0, R1⟩)
          clear D E64 EQ
          go_wp2
          go_roundw
          case rel => exact ⟨t, R, _, by omega, by go_num, rfl, NX.out⟩
          case measure => simp [intOf]
        · have hu64 : (u : Int) < 64 := by omega
          obtain ⟨A, bt, hA, hbt, ⟨A0, A1⟩, hb01, HBT⟩ := dv_bit x u (by omega)
          obtain ⟨B, hB, hor, HBv, ⟨B0, B1⟩⟩ := or_low R bt hb01
          have hcx' : wr.cell? ⟨b, off + t, none⟩ = some (.int .u64 x) := (D.out.2.cell (p := ⟨b, off + t, none⟩) (by rw [← hg]; exact hbw)).trans hcx.out
          have hcq : wr.cell? ⟨g, t, none⟩ = some (.int .u64 Q) := by
            have := D.out.1.cell t (by rw [List.length_set]; have := I.out.2.1; omega)
            rw [this, List.getD, List.getElem?_set, if_pos rfl, if_pos (by have := I.out.2.1; omega)]
            rfl
          have hfr := D.out.1.free t
          have Q63 : Q < 9223372036854775808 := by
            have h1 := EQ.out.1
            have h2 := Nm.two_mono (show u ≤ 63 by omega)
            have e : (2 : Int) ^ 63 = 9223372036854775808 := by decide
            omega
          have hQ2 : IntKind.u64.wrap (Q * 2) = Q * 2 := by rw [Sh.wrap_mod]; omega
          have hQ3 : IntKind.u64.wrap (Q * 2 + 1) = Q * 2 + 1 := by rw [Sh.wrap_mod]; omega
          have D1 := hid (D.out.set (Q * 2))
          have D2 := hid ((D.out.set (Q * 2)).set (Q * 2 + 1))
          have N0 := hid (dv_next (c := 0) (by omega) EQ.out HBT.out (.inl rfl))
          have N1 := hid (dv_next (c := 1) (by omega) EQ.out HBT.out (.inr rfl))
          clear D EQ
          by_cases hge : d ≤ R * 2 + bt
          · have hsub : IntKind.u64.wrap (B + bt - d) = R * 2 + bt - d := by
              have := HBv.out
              rw [Sh.wrap_mod]
              omega
            have N2 : Hid (Q * 2 + 1 < 2 ^ (u + 1) ∧ (Q * 2 + 1) * d + (R * 2 + bt - d) = rr * 2 ^ (u + 1) + x / 2 ^ (64 - (u + 1))) := by
              have h := N1.out
              rw [Int.one_mul] at h
              exact h
            by_cases htop : 9223372036854775808 ≤ R
            · have hT : R / 9223372036854775808 = 1 := by omega
              clear N0 N1 HBv
              go_wp2
              go_roundw
              case rel => exact ⟨u + 1, R * 2 + bt - d, Q * 2 + 1, by omega, by go_num, rfl, by omega, by omega, N2.out, D2.out⟩
              case measure => simp [intOf]; omega
            · have hT : R / 9223372036854775808 = 0 := by omega
              have hge2 : d ≤ B + bt := by have := HBv.out; omega
              clear N0 N1 HBv
              go_wp2
              go_roundw
              case rel => exact ⟨u + 1, R * 2 + bt - d, Q * 2 + 1, by omega, by go_num, rfl, by omega, by omega, N2.out, D2.out⟩
              case measure => simp [intOf]; omega
          · have hT : R / 9223372036854775808 = 0 := by omega
            have hge2 : ¬ d ≤ B + bt := by have := HBv.out; omega
            have N2 : Hid (Q * 2 < 2 ^ (u + 1) ∧ (Q * 2) * d + (B + bt) = rr * 2 ^ (u + 1) + x / 2 ^ (64 - (u + 1))) := by
              have h := N0.out
              have e : B = R * 2 := by have := HBv.out; omega
              rw [Int.zero_mul, Int.sub_zero, Int.add_zero] at h
              rw [e]
              exact h
            have hb0 : 0 ≤ B + bt := by omega
            clear N0 N1 HBv
            go_wp2
            go_roundw
            case rel => exact ⟨u + 1, B + bt, Q * 2, by omega, by go_num, rfl, by omega, by omega, N2.out, D1.out⟩
            case measure => simp [intOf]; omega
end Go.Proofs.YtmglogncpfoldaaDoor

/-
  NatExact: asked and wanted, their ground (made by mknask.py).
-/
namespace Go.Proofs.YtmglogncpfoldaaDoor
open Go Go.RowKit Go.Deep

/-- What a call answers: a natural's number, a limb, a number, a yes, an error. -/
structure AV1 where
  v : Int
  u : Int
  i : Int
  b : Bool
  e : Int

def ansOf1 (l : Value) (u i : Int) (b : Bool) (e : Int) : Value := .agg #[l, .int .u64 u, .int .i64 i, .bool b, .int .i64 e]

def opOf1 (K : Int) (A B : Value) (M C N : Int) : Value := .agg #[.int .i64 K, A, B, .int .u64 M, .int .u64 C, .int .i64 N]

/-- A list that is answered. -/
def LT (w w' : World) (pl : Option Addr) (os : List Int) (v : Int) : Prop := Ans w.heap.size w' pl os v ∧ os.length ≤ 17592186044000

def NTold (a : AV1) (w : World) (r : Ending) (w' : World) : Prop := ∃ pl os, r = .returned (ansOf1 (.slice pl (List.length os) (List.length os)) a.u a.i a.b a.e) ∧ LT w w' pl os a.v ∧ Below w.heap.size w w'

theorem lt_nil (w w' : World) : LT w w' none [] 0 := ⟨⟨Lies.nil _ _, Nm.Limbs.nil, rfl, rfl, fun a h => by cases h⟩, by simp⟩

theorem alloc_belowN (w : World) (g : Obj) : Below w.heap.size w (w.alloc g) := Below.alloc (Below.refl _ _) (Nat.le_refl _) g
theorem alloc2_belowN (w : World) (g g' : Obj) : Below w.heap.size w ((w.alloc g).alloc g') := Below.alloc (alloc_belowN w g) (alloc_belowN w g).size g'
theorem alloc3_belowN (w : World) (g g' g'' : Obj) : Below w.heap.size w (((w.alloc g).alloc g').alloc g'') := Below.alloc (alloc2_belowN w g g') (alloc2_belowN w g g').size g''
theorem alloc4_belowN (w : World) (g g' g'' g3 : Obj) : Below w.heap.size w ((((w.alloc g).alloc g').alloc g'').alloc g3) := Below.alloc (alloc3_belowN w g g' g'') (alloc3_belowN w g g' g'').size g3

theorem heap_mid (w : World) (g : Obj) (c : Array Value) (t : Nat) (g'' : Obj) : (((w.alloc g).alloc (.cells c t)).alloc g'').heap[w.heap.size + 1]? = some (.cells c t (0, 0)) := by
  have e : (w.alloc g).heap.size = w.heap.size + 1 := by simp
  have := heap_alloc2_old (w.alloc g) (.cells c t) g''
  rw [e] at this
  exact this

theorem mid_keptN {w w' : World} {g : Obj} {c c' : Array Value} {t t' : Nat} (h : Below (((w.alloc g).alloc (.cells c t)).alloc (.cells c' t')).heap.size (((w.alloc g).alloc (.cells c t)).alloc (.cells c' t')) w') :
    w'.heap[w.heap.size + 1]? = some (.cells c t (0, 0)) ∧ w'.heap[w.heap.size + 1 + 1]? = some (.cells c' t' (0, 0)) := by
  have e : ((w.alloc g).alloc (.cells c t)).heap.size = w.heap.size + 1 + 1 := by simp
  constructor
  · rw [h.block _ (by simp)]; exact heap_mid _ _ _ _ _
  · rw [h.block _ (by simp)]
    have := heap_alloc_new ((w.alloc g).alloc (.cells c t)) (.cells c' t')
    rw [e] at this
    exact this

theorem heap4N (w : World) (g g' g'' : Obj) (c : Array Value) (t : Nat) : ((((w.alloc g).alloc g').alloc g'').alloc (.cells c t)).heap[w.heap.size + 1 + 1 + 1]? = some (.cells c t (0, 0)) := by
  have e : (((w.alloc g).alloc g').alloc g'').heap.size = w.heap.size + 1 + 1 + 1 := by simp
  have := heap_alloc_new (((w.alloc g).alloc g').alloc g'') (.cells c t)
  rw [e] at this
  exact this

theorem below3of4 {w w' : World} {g g' g'' g3 : Obj} (h : Below ((((w.alloc g).alloc g').alloc g'').alloc g3).heap.size ((((w.alloc g).alloc g').alloc g'').alloc g3) w') : Below (((w.alloc g).alloc g').alloc g'').heap.size (((w.alloc g).alloc g').alloc g'') w' :=
  (alloc_belowN _ g3).trans (h.mono (alloc_belowN _ g3).size)

theorem row_cells5 {w : World} {b : Nat} {v0 v1 v2 v3 v4 : Value} {t : Nat} (h : w.heap[b]? = some (.cells #[v0, v1, v2, v3, v4] t (0, 0))) : (w.cell? ⟨b, 0, none⟩ = some v0 ∧ w.cell? ⟨b, 1, none⟩ = some v1 ∧ w.cell? ⟨b, 2, none⟩ = some v2 ∧ w.cell? ⟨b, 3, none⟩ = some v3 ∧ w.cell? ⟨b, 4, none⟩ = some v4) ∧ ∀ o, w.frozen? ⟨b, o, none⟩ = false := by
  refine ⟨⟨?_, ?_, ?_, ?_, ?_⟩, fun o => ?_⟩ <;> simp [World.cell?, World.frozen?, h]

theorem set_farN {w : World} {b b' o : Nat} {v : Value} {x : Option Obj} (h : w.heap[b]? = x) (ne : b' ≠ b) : (w.setCell ⟨b', o, none⟩ v).heap[b]? = x := by
  simp [World.setCell, Array.getElem?_modify, ne, h]

theorem set_oneN {w : World} {b o t : Nat} {v : Value} {c c' : Array Value} (h : w.heap[b]? = some (.cells c t (0, 0))) (e : c.setIfInBounds o v = c') : (w.setCell ⟨b, o, none⟩ v).heap[b]? = some (.cells c' t (0, 0)) := by
  subst e
  simp [World.setCell, Array.getElem?_modify, h]

theorem set_row5 {w : World} {b t : Nat} {v0 v1 v2 v3 v4 u0 u1 u2 u3 u4 : Value} (h : w.heap[b]? = some (.cells #[v0, v1, v2, v3, v4] t (0, 0))) :
    (((((w.setCell ⟨b, 0, none⟩ u0).setCell ⟨b, 1, none⟩ u1).setCell ⟨b, 2, none⟩ u2).setCell ⟨b, 3, none⟩ u3).setCell ⟨b, 4, none⟩ u4).heap[b]? = some (.cells #[u0, u1, u2, u3, u4] t (0, 0)) := by
  have h0 := set_oneN (o := 0) (v := u0) (c' := #[u0, v1, v2, v3, v4]) h (by simp [Array.setIfInBounds])
  have h1 := set_oneN (o := 1) (v := u1) (c' := #[u0, u1, v2, v3, v4]) h0 (by simp [Array.setIfInBounds])
  have h2 := set_oneN (o := 2) (v := u2) (c' := #[u0, u1, u2, v3, v4]) h1 (by simp [Array.setIfInBounds])
  have h3 := set_oneN (o := 3) (v := u3) (c' := #[u0, u1, u2, u3, v4]) h2 (by simp [Array.setIfInBounds])
  exact set_oneN (o := 4) (v := u4) (c' := #[u0, u1, u2, u3, u4]) h3 (by simp [Array.setIfInBounds])

theorem set_belowN {B : Nat} {w w' : World} {b o : Nat} {v : Value} (h : Below B w w') (hb : B ≤ b) : Below B w (w'.setCell ⟨b, o, none⟩ v) := h.setCell (p := ⟨b, o, none⟩) hb v

theorem Ans.upN {B B' : Nat} {w : World} {p : Option Addr} {ys : List Int} {n : Int} (h : Ans B w p ys n) (hB : B' ≤ B) : Ans B' w p ys n :=
  ⟨h.1, h.2.1, h.2.2.1, h.2.2.2.1, fun a ha => ⟨Nat.le_trans hB (h.2.2.2.2 a ha).1, (h.2.2.2.2 a ha).2⟩⟩

theorem ans_setN {B : Nat} {w : World} {p : Option Addr} {os : List Int} {v : Int} (h : Ans B w p os v) {b o : Nat} (hb : b < B) (u : Value) : Ans B (w.setCell ⟨b, o, none⟩ u) p os v := by
  obtain ⟨h1, h2, h3, h4, h5⟩ := h
  refine ⟨?_, h2, h3, h4, fun a ha => ⟨(h5 a ha).1, fun h0 o => by rw [World.frozen?_setCell]; exact (h5 a ha).2 h0 o⟩⟩
  rcases h1 with c | ⟨b', off, hp, hc⟩
  · exact .inl c
  · refine .inr ⟨b', off, hp, fun i hi => ?_⟩
    have hge := (h5 _ hp).1
    have := hc i hi
    have ne : b ≠ b' := by
      intro e
      subst e
      exact absurd hge (by simpa using hb)
    rw [World.cell?] at this ⊢
    simp only [World.setCell, Array.getElem?_modify]
    rw [if_neg ne]
    exact this
end Go.Proofs.YtmglogncpfoldaaDoor

/-
  asked and wanted: kinds 1, 2, 3, 4 (made by mknask.py).
-/
namespace Go.Proofs.YtmglogncpfoldaaDoor
open Go Go.RowKit Go.Deep

set_option maxRecDepth 100000 in
set_option maxHeartbeats 4000000 in
theorem nasked1 (p q : Option Addr) (n k cap cap' : Nat) (M C N : Int) (w : World) (v : Int)
    (H : ∀ wx : World, Below w.heap.size w wx → Calls Tryd.prog 31 #[.slice p n cap] wx fun r w' => ∃ pl os, r = .returned (.slice pl (List.length os) (List.length os)) ∧ LT wx w' pl os v ∧ Below wx.heap.size wx w') :
    Calls Tryd.prog 9 #[opOf1 1 (.slice p n cap) (.slice q k cap') M C N] w fun r w' => NTold ⟨v, 0, 0, false, 0⟩ w r w' := by
  simp only [opOf1, NTold, ansOf1]
  have H := hid H
  go_enter Tryd.func9, Tryd.ntmps9
  go_wp2_with fail
  refine (H.out _ (alloc3_belowN _ _ _ _)).mono ?_
  rintro r w' ⟨pl, os, rfl, ⟨hA, hL⟩, hw⟩
  have HA : Hid (Ans (w.heap.size + 3) w' pl os v) := by
    have e := hA
    simp at e
    exact e
  have HL := hid hL
  clear hA hL
  obtain ⟨g2, g3⟩ := mid_keptN hw
  obtain ⟨⟨a0, a1, a2, a3, a4⟩, af⟩ := row_cells5 g2
  obtain ⟨⟨b0, b1, b2, b3, b4⟩, bf⟩ := row_cells5 g3
  have af0 := af 0
  have bf0 := bf 0
  have af1 := af 1
  have bf1 := bf 1
  have af2 := af 2
  have bf2 := bf 2
  have af3 := af 3
  have bf3 := bf 3
  have af4 := af 4
  have bf4 := bf 4
  have HB := hid ((alloc3_belowN _ _ _ _).trans (hw.mono (alloc3_belowN _ _ _ _).size))
  have G2 := hid g2
  clear H hw g2 g3 af bf
  go_wp2_with fail
  (try simp only [Exit.inBlock, Exit.then])
  refine bodyPost_ret (results_cell_row rfl _ _ (w.heap.size + 1) 34 _ (0, 0) _ rfl (set_row5 (by repeat (first | (with_reducible exact G2.out) | (with_reducible refine set_farN ?_ (by omega))))) Tryd.underlying34 rfl (by kernel_rfl)) rfl ?_
  exact ⟨pl, os, rfl, ⟨Ans.upN (B := w.heap.size + 3) (by repeat (first | (with_reducible exact HA.out) | (with_reducible refine ans_setN ?_ (by omega) _))) (by omega), HL.out⟩, by repeat (first | (with_reducible exact HB.out) | (with_reducible refine set_belowN ?_ (by omega)))⟩

set_option maxRecDepth 100000 in
set_option maxHeartbeats 4000000 in
theorem nwanted1 (p q : Option Addr) (n k cap cap' : Nat) (M C N : Int) (w : World) (v : Int)
    (H : ∀ wx : World, Below w.heap.size w wx → Calls Tryd.prog 15 #[.slice p n cap] wx fun r w' => ∃ pl os, r = .returned (.slice pl (List.length os) (List.length os)) ∧ LT wx w' pl os v ∧ Below wx.heap.size wx w') :
    Calls Tryd.prog 8 #[opOf1 1 (.slice p n cap) (.slice q k cap') M C N] w fun r w' => NTold ⟨v, 0, 0, false, 0⟩ w r w' := by
  simp only [opOf1, NTold, ansOf1]
  have H := hid H
  go_enter Tryd.func8, Tryd.ntmps8
  go_wp2_with fail
  refine (H.out _ (alloc3_belowN _ _ _ _)).mono ?_
  rintro r w' ⟨pl, os, rfl, ⟨hA, hL⟩, hw⟩
  have HA : Hid (Ans (w.heap.size + 3) w' pl os v) := by
    have e := hA
    simp at e
    exact e
  have HL := hid hL
  clear hA hL
  obtain ⟨g2, g3⟩ := mid_keptN hw
  obtain ⟨⟨a0, a1, a2, a3, a4⟩, af⟩ := row_cells5 g2
  obtain ⟨⟨b0, b1, b2, b3, b4⟩, bf⟩ := row_cells5 g3
  have af0 := af 0
  have bf0 := bf 0
  have af1 := af 1
  have bf1 := bf 1
  have af2 := af 2
  have bf2 := bf 2
  have af3 := af 3
  have bf3 := bf 3
  have af4 := af 4
  have bf4 := bf 4
  have HB := hid ((alloc3_belowN _ _ _ _).trans (hw.mono (alloc3_belowN _ _ _ _).size))
  have G2 := hid g2
  clear H hw g2 g3 af bf
  go_wp2_with fail
  (try simp only [Exit.inBlock, Exit.then])
  refine bodyPost_ret (results_cell_row rfl _ _ (w.heap.size + 1) 34 _ (0, 0) _ rfl (set_row5 (by repeat (first | (with_reducible exact G2.out) | (with_reducible refine set_farN ?_ (by omega))))) Tryd.underlying34 rfl (by kernel_rfl)) rfl ?_
  exact ⟨pl, os, rfl, ⟨Ans.upN (B := w.heap.size + 3) (by repeat (first | (with_reducible exact HA.out) | (with_reducible refine ans_setN ?_ (by omega) _))) (by omega), HL.out⟩, by repeat (first | (with_reducible exact HB.out) | (with_reducible refine set_belowN ?_ (by omega)))⟩

set_option maxRecDepth 100000 in
set_option maxHeartbeats 4000000 in
theorem nasked2 (p q : Option Addr) (n k cap cap' : Nat) (M C N : Int) (w : World) (v : Int)
    (H : ∀ wx : World, Below w.heap.size w wx → Calls Tryd.prog 32 #[.int .u64 M] wx fun r w' => ∃ pl os, r = .returned (.slice pl (List.length os) (List.length os)) ∧ LT wx w' pl os v ∧ Below wx.heap.size wx w') :
    Calls Tryd.prog 9 #[opOf1 2 (.slice p n cap) (.slice q k cap') M C N] w fun r w' => NTold ⟨v, 0, 0, false, 0⟩ w r w' := by
  simp only [opOf1, NTold, ansOf1]
  have H := hid H
  go_enter Tryd.func9, Tryd.ntmps9
  go_wp2_with fail
  refine (H.out _ (alloc3_belowN _ _ _ _)).mono ?_
  rintro r w' ⟨pl, os, rfl, ⟨hA, hL⟩, hw⟩
  have HA : Hid (Ans (w.heap.size + 3) w' pl os v) := by
    have e := hA
    simp at e
    exact e
  have HL := hid hL
  clear hA hL
  obtain ⟨g2, g3⟩ := mid_keptN hw
  obtain ⟨⟨a0, a1, a2, a3, a4⟩, af⟩ := row_cells5 g2
  obtain ⟨⟨b0, b1, b2, b3, b4⟩, bf⟩ := row_cells5 g3
  have af0 := af 0
  have bf0 := bf 0
  have af1 := af 1
  have bf1 := bf 1
  have af2 := af 2
  have bf2 := bf 2
  have af3 := af 3
  have bf3 := bf 3
  have af4 := af 4
  have bf4 := bf 4
  have HB := hid ((alloc3_belowN _ _ _ _).trans (hw.mono (alloc3_belowN _ _ _ _).size))
  have G2 := hid g2
  clear H hw g2 g3 af bf
  go_wp2_with fail
  (try simp only [Exit.inBlock, Exit.then])
  refine bodyPost_ret (results_cell_row rfl _ _ (w.heap.size + 1) 34 _ (0, 0) _ rfl (set_row5 (by repeat (first | (with_reducible exact G2.out) | (with_reducible refine set_farN ?_ (by omega))))) Tryd.underlying34 rfl (by kernel_rfl)) rfl ?_
  exact ⟨pl, os, rfl, ⟨Ans.upN (B := w.heap.size + 3) (by repeat (first | (with_reducible exact HA.out) | (with_reducible refine ans_setN ?_ (by omega) _))) (by omega), HL.out⟩, by repeat (first | (with_reducible exact HB.out) | (with_reducible refine set_belowN ?_ (by omega)))⟩

set_option maxRecDepth 100000 in
set_option maxHeartbeats 4000000 in
theorem nwanted2 (p q : Option Addr) (n k cap cap' : Nat) (M C N : Int) (w : World) (v : Int)
    (H : ∀ wx : World, Below w.heap.size w wx → Calls Tryd.prog 16 #[.int .u64 M] wx fun r w' => ∃ pl os, r = .returned (.slice pl (List.length os) (List.length os)) ∧ LT wx w' pl os v ∧ Below wx.heap.size wx w') :
    Calls Tryd.prog 8 #[opOf1 2 (.slice p n cap) (.slice q k cap') M C N] w fun r w' => NTold ⟨v, 0, 0, false, 0⟩ w r w' := by
  simp only [opOf1, NTold, ansOf1]
  have H := hid H
  go_enter Tryd.func8, Tryd.ntmps8
  go_wp2_with fail
  refine (H.out _ (alloc3_belowN _ _ _ _)).mono ?_
  rintro r w' ⟨pl, os, rfl, ⟨hA, hL⟩, hw⟩
  have HA : Hid (Ans (w.heap.size + 3) w' pl os v) := by
    have e := hA
    simp at e
    exact e
  have HL := hid hL
  clear hA hL
  obtain ⟨g2, g3⟩ := mid_keptN hw
  obtain ⟨⟨a0, a1, a2, a3, a4⟩, af⟩ := row_cells5 g2
  obtain ⟨⟨b0, b1, b2, b3, b4⟩, bf⟩ := row_cells5 g3
  have af0 := af 0
  have bf0 := bf 0
  have af1 := af 1
  have bf1 := bf 1
  have af2 := af 2
  have bf2 := bf 2
  have af3 := af 3
  have bf3 := bf 3
  have af4 := af 4
  have bf4 := bf 4
  have HB := hid ((alloc3_belowN _ _ _ _).trans (hw.mono (alloc3_belowN _ _ _ _).size))
  have G2 := hid g2
  clear H hw g2 g3 af bf
  go_wp2_with fail
  (try simp only [Exit.inBlock, Exit.then])
  refine bodyPost_ret (results_cell_row rfl _ _ (w.heap.size + 1) 34 _ (0, 0) _ rfl (set_row5 (by repeat (first | (with_reducible exact G2.out) | (with_reducible refine set_farN ?_ (by omega))))) Tryd.underlying34 rfl (by kernel_rfl)) rfl ?_
  exact ⟨pl, os, rfl, ⟨Ans.upN (B := w.heap.size + 3) (by repeat (first | (with_reducible exact HA.out) | (with_reducible refine ans_setN ?_ (by omega) _))) (by omega), HL.out⟩, by repeat (first | (with_reducible exact HB.out) | (with_reducible refine set_belowN ?_ (by omega)))⟩

set_option maxRecDepth 100000 in
set_option maxHeartbeats 4000000 in
theorem nasked3 (p q : Option Addr) (n k cap cap' : Nat) (M C N : Int) (w : World) (U : Int) (B : Bool)
    (H : ∀ wx : World, Below w.heap.size w wx → Calls Tryd.prog 33 #[.slice p n cap] wx fun r w' => r = .returned (.tuple #[.int .u64 U, .bool B]) ∧ Below wx.heap.size wx w') :
    Calls Tryd.prog 9 #[opOf1 3 (.slice p n cap) (.slice q k cap') M C N] w fun r w' => NTold ⟨0, U, 0, B, 0⟩ w r w' := by
  simp only [opOf1, NTold, ansOf1]
  have H := hid H
  go_enter Tryd.func9, Tryd.ntmps9
  go_wp2_with fail
  refine (H.out _ (alloc3_belowN _ _ _ _)).mono ?_
  rintro r w' ⟨rfl, hw⟩
  obtain ⟨g2, g3⟩ := mid_keptN hw
  obtain ⟨⟨a0, a1, a2, a3, a4⟩, af⟩ := row_cells5 g2
  obtain ⟨⟨b0, b1, b2, b3, b4⟩, bf⟩ := row_cells5 g3
  have af0 := af 0
  have bf0 := bf 0
  have af1 := af 1
  have bf1 := bf 1
  have af2 := af 2
  have bf2 := bf 2
  have af3 := af 3
  have bf3 := bf 3
  have af4 := af 4
  have bf4 := bf 4
  have HB := hid ((alloc3_belowN _ _ _ _).trans (hw.mono (alloc3_belowN _ _ _ _).size))
  have G2 := hid g2
  clear H hw g2 g3 af bf
  go_wp2_with fail
  (try simp only [Exit.inBlock, Exit.then])
  refine bodyPost_ret (results_cell_row rfl _ _ (w.heap.size + 1) 34 _ (0, 0) _ rfl (set_row5 (by repeat (first | (with_reducible exact G2.out) | (with_reducible refine set_farN ?_ (by omega))))) Tryd.underlying34 rfl (by kernel_rfl)) rfl ?_
  exact ⟨none, [], rfl, lt_nil _ _, by repeat (first | (with_reducible exact HB.out) | (with_reducible refine set_belowN ?_ (by omega)))⟩

set_option maxRecDepth 100000 in
set_option maxHeartbeats 4000000 in
theorem nwanted3 (p q : Option Addr) (n k cap cap' : Nat) (M C N : Int) (w : World) (U : Int) (B : Bool)
    (H : ∀ wx : World, Below w.heap.size w wx → Calls Tryd.prog 17 #[.slice p n cap] wx fun r w' => r = .returned (.tuple #[.int .u64 U, .bool B]) ∧ Below wx.heap.size wx w') :
    Calls Tryd.prog 8 #[opOf1 3 (.slice p n cap) (.slice q k cap') M C N] w fun r w' => NTold ⟨0, U, 0, B, 0⟩ w r w' := by
  simp only [opOf1, NTold, ansOf1]
  have H := hid H
  go_enter Tryd.func8, Tryd.ntmps8
  go_wp2_with fail
  refine (H.out _ (alloc3_belowN _ _ _ _)).mono ?_
  rintro r w' ⟨rfl, hw⟩
  obtain ⟨g2, g3⟩ := mid_keptN hw
  obtain ⟨⟨a0, a1, a2, a3, a4⟩, af⟩ := row_cells5 g2
  obtain ⟨⟨b0, b1, b2, b3, b4⟩, bf⟩ := row_cells5 g3
  have af0 := af 0
  have bf0 := bf 0
  have af1 := af 1
  have bf1 := bf 1
  have af2 := af 2
  have bf2 := bf 2
  have af3 := af 3
  have bf3 := bf 3
  have af4 := af 4
  have bf4 := bf 4
  have HB := hid ((alloc3_belowN _ _ _ _).trans (hw.mono (alloc3_belowN _ _ _ _).size))
  have G2 := hid g2
  clear H hw g2 g3 af bf
  go_wp2_with fail
  (try simp only [Exit.inBlock, Exit.then])
  refine bodyPost_ret (results_cell_row rfl _ _ (w.heap.size + 1) 34 _ (0, 0) _ rfl (set_row5 (by repeat (first | (with_reducible exact G2.out) | (with_reducible refine set_farN ?_ (by omega))))) Tryd.underlying34 rfl (by kernel_rfl)) rfl ?_
  exact ⟨none, [], rfl, lt_nil _ _, by repeat (first | (with_reducible exact HB.out) | (with_reducible refine set_belowN ?_ (by omega)))⟩

set_option maxRecDepth 100000 in
set_option maxHeartbeats 4000000 in
theorem nasked4 (p q : Option Addr) (n k cap cap' : Nat) (M C N : Int) (w : World) (V : Int)
    (H : ∀ wx : World, Below w.heap.size w wx → Calls Tryd.prog 34 #[.slice p n cap] wx fun r w' => r = .returned (.int .i64 V) ∧ Below wx.heap.size wx w') :
    Calls Tryd.prog 9 #[opOf1 4 (.slice p n cap) (.slice q k cap') M C N] w fun r w' => NTold ⟨0, 0, V, false, 0⟩ w r w' := by
  simp only [opOf1, NTold, ansOf1]
  have H := hid H
  go_enter Tryd.func9, Tryd.ntmps9
  go_wp2_with fail
  refine (H.out _ (alloc3_belowN _ _ _ _)).mono ?_
  rintro r w' ⟨rfl, hw⟩
  obtain ⟨g2, g3⟩ := mid_keptN hw
  obtain ⟨⟨a0, a1, a2, a3, a4⟩, af⟩ := row_cells5 g2
  obtain ⟨⟨b0, b1, b2, b3, b4⟩, bf⟩ := row_cells5 g3
  have af0 := af 0
  have bf0 := bf 0
  have af1 := af 1
  have bf1 := bf 1
  have af2 := af 2
  have bf2 := bf 2
  have af3 := af 3
  have bf3 := bf 3
  have af4 := af 4
  have bf4 := bf 4
  have HB := hid ((alloc3_belowN _ _ _ _).trans (hw.mono (alloc3_belowN _ _ _ _).size))
  have G2 := hid g2
  clear H hw g2 g3 af bf
  go_wp2_with fail
  (try simp only [Exit.inBlock, Exit.then])
  refine bodyPost_ret (results_cell_row rfl _ _ (w.heap.size + 1) 34 _ (0, 0) _ rfl (set_row5 (by repeat (first | (with_reducible exact G2.out) | (with_reducible refine set_farN ?_ (by omega))))) Tryd.underlying34 rfl (by kernel_rfl)) rfl ?_
  exact ⟨none, [], rfl, lt_nil _ _, by repeat (first | (with_reducible exact HB.out) | (with_reducible refine set_belowN ?_ (by omega)))⟩

set_option maxRecDepth 100000 in
set_option maxHeartbeats 4000000 in
theorem nwanted4 (p q : Option Addr) (n k cap cap' : Nat) (M C N : Int) (w : World) (V : Int)
    (H : ∀ wx : World, Below w.heap.size w wx → Calls Tryd.prog 18 #[.slice p n cap] wx fun r w' => r = .returned (.int .i64 V) ∧ Below wx.heap.size wx w') :
    Calls Tryd.prog 8 #[opOf1 4 (.slice p n cap) (.slice q k cap') M C N] w fun r w' => NTold ⟨0, 0, V, false, 0⟩ w r w' := by
  simp only [opOf1, NTold, ansOf1]
  have H := hid H
  go_enter Tryd.func8, Tryd.ntmps8
  go_wp2_with fail
  refine (H.out _ (alloc3_belowN _ _ _ _)).mono ?_
  rintro r w' ⟨rfl, hw⟩
  obtain ⟨g2, g3⟩ := mid_keptN hw
  obtain ⟨⟨a0, a1, a2, a3, a4⟩, af⟩ := row_cells5 g2
  obtain ⟨⟨b0, b1, b2, b3, b4⟩, bf⟩ := row_cells5 g3
  have af0 := af 0
  have bf0 := bf 0
  have af1 := af 1
  have bf1 := bf 1
  have af2 := af 2
  have bf2 := bf 2
  have af3 := af 3
  have bf3 := bf 3
  have af4 := af 4
  have bf4 := bf 4
  have HB := hid ((alloc3_belowN _ _ _ _).trans (hw.mono (alloc3_belowN _ _ _ _).size))
  have G2 := hid g2
  clear H hw g2 g3 af bf
  go_wp2_with fail
  (try simp only [Exit.inBlock, Exit.then])
  refine bodyPost_ret (results_cell_row rfl _ _ (w.heap.size + 1) 34 _ (0, 0) _ rfl (set_row5 (by repeat (first | (with_reducible exact G2.out) | (with_reducible refine set_farN ?_ (by omega))))) Tryd.underlying34 rfl (by kernel_rfl)) rfl ?_
  exact ⟨none, [], rfl, lt_nil _ _, by repeat (first | (with_reducible exact HB.out) | (with_reducible refine set_belowN ?_ (by omega)))⟩

end Go.Proofs.YtmglogncpfoldaaDoor
