/-
  layer 2's reference: power, Pow, Pow5, Pow10.
-/
import Derived.Test.YthfechigdiefpaaQTimes2
import Derived.Test.YthfechigdiefpaaQPow2
namespace Go.Proofs.Ythfechigdiefpaa
open Go.RowKit Go.Deep

/-- A number and true, or false: it is too big. -/
def GivesB (T : Int) (w : World) (e : Ending) (w' : World) : Prop :=
  ((T < Nm.pw 4096 ∧ ∃ r os, e = .returned (.tuple #[.slice r (List.length os) (List.length os), .bool true]) ∧ Ans w.heap.size w' r os T) ∨ (Nm.pw 4096 ≤ T ∧ e = .returned (.tuple #[.slice none 0 0, .bool false]))) ∧ Below w.heap.size w w'

/-- A fact that no step looks into. -/
structure ShutQ (p : Prop) : Prop where
  out : p

/-- A product that has too many limbs by its factors' lengths. -/
theorem long_mul {xs ys : List Int} (hx : Nm.Limbs xs) (hy : Nm.Limbs ys) (h1 : 0 < Nm.tsize xs) (h2 : 0 < Nm.tsize ys) {k : Nat} (h : k + 2 ≤ Nm.tsize xs + Nm.tsize ys) : Nm.pw k ≤ Nm.val xs * Nm.val ys := by
  have a1 := Nm.val_ge_top hx h1
  have a2 := Nm.val_ge_top hy h2
  have p1 := Nm.pw_pos (Nm.tsize xs - 1)
  have p2 := Nm.pw_pos (Nm.tsize ys - 1)
  have h3 : Nm.pw (Nm.tsize xs - 1) * Nm.pw (Nm.tsize ys - 1) ≤ Nm.val xs * Nm.val ys := Int.mul_le_mul a1 a2 (by omega) (by omega)
  rw [← Nm.pw_add] at h3
  exact Int.le_trans (Nm.pw_mono (by omega)) h3

theorem Ans.tpos {B : Nat} {w : World} {p : Option Addr} {ys : List Int} {n : Int} (h : Ans B w p ys n) (hn : 1 ≤ n) : 0 < Nm.tsize ys := by
  have h1 := Nm.tsize_zero_iff h.2.1
  have h2 := h.2.2.2.1
  omega

/-- The length of an answer tells whether it is too big. -/
theorem Ans.over {B : Nat} {w : World} {p : Option Addr} {ys : List Int} {n : Int} (h : Ans B w p ys n) : 4096 < ys.length ↔ Nm.pw 4096 ≤ n := by
  have h1 := Nm.tsize_le_iff h.2.1 4096
  rw [h.2.2.1, h.2.2.2.1] at h1
  constructor
  · intro h2
    rcases Int.lt_or_le n (Nm.pw 4096) with c | c
    · have := h1.2 c; omega
    · exact c
  · intro h2
    rcases Nat.lt_or_ge 4096 ys.length with c | c
    · exact c
    · have := h1.1 c
      exact absurd (Int.lt_of_lt_of_le this h2) (Int.lt_irrefl _)

theorem half_pow (A : Int) (n : Nat) (b : Nat) (hb : n % 2 = b) : A ^ (n / 2) * A ^ (n / 2) * A ^ b = A ^ n := by
  rw [← Int.pow_add, ← Int.pow_add]
  congr 1
  omega

set_option maxRecDepth 100000 in
set_option maxHeartbeats 8000000 in
theorem rpower_any (p : Option Addr) (m cap : Nat) (zs : List Int) (A : Int) (hA : Nm.val zs = A) (hA1 : 1 ≤ A) (tz : Nm.tsize zs ≤ 4096) (n : Nat) : ∀ (w : World), Arg w p m cap zs → n < 9223372036854775808 →
    Calls Try.prog 53 #[.slice p m cap, .int .i64 (n : Int)] w fun e w' => GivesB (A ^ n) w e w' := by
  induction n using Nat.strongRecOn with
  | _ n ih =>
  intro w ha hn
  by_cases h0 : n = 0
  · subst h0
    have D : Below w.heap.size w (w.alloc (.cells #[.int .u64 1] 26)) := (Below.refl _ _).alloc (Nat.le_refl _) _
    have F : Hid (GivesB (A ^ 0) w (.returned (.tuple #[.slice (some ⟨w.heap.size, 0, none⟩) 1 1, .bool true])) (w.alloc (.cells #[.int .u64 1] 26))) := by
      rw [Int.pow_zero]
      exact ⟨.inl ⟨one_lt_pw, some ⟨w.heap.size, 0, none⟩, [1], rfl, ⟨(Own.alloc w [1]).lies, limb_one (by omega), by simp [Nm.tsize], by simp [Nm.val], fun a h => by cases h; exact Nat.le_refl _⟩⟩, D⟩
    clear ih D ha hA hA1 tz
    go_enter Try.func53, Try.ntmps53
    go_wp2_with fail
    go_ret2
    exact F.out
  · have IH := hid (ih (n / 2) (by omega) w ha (by omega))
    have hn0 : ((n : Int) == 0) = false := by rw [beq_eq_false_iff_ne]; omega
    obtain ⟨k, hk⟩ : ∃ k, n / 2 = k := ⟨_, rfl⟩
    obtain ⟨b, hb⟩ : ∃ b, n % 2 = b := ⟨_, rfl⟩
    have HP := half_pow A n b hb
    rw [hk] at IH HP
    have q1 : (n : Int) / 2 = (k : Int) := by omega
    have q1t : (n : Int).tdiv 2 = (k : Int) := by rw [Int.tdiv_eq_ediv_of_nonneg (by omega)]; exact q1
    have q2 : (n : Int) % 2 = (b : Int) := by omega
    have q2t : (n : Int).tmod 2 = (b : Int) := by rw [Int.tmod_eq_emod_of_nonneg (by omega)]; exact q2
    have hb1 : b = 0 ∨ b = 1 := by omega
    have a2 := ha.2.1
    have a3 := ha.2.2.1
    have hn63 : (n : Int) < 9223372036854775808 := by omega
    have HA := hid ha
    have HV := hid hA
    have H1 := hid hA1
    have HZ := hid tz
    have HHP := hid HP
    have HKL := Pn.pow_mono hA1 (show k ≤ n by omega)
    have HK := hid HKL
    obtain ⟨TA, hTA⟩ : ∃ T, Hid (Nm.tsize zs = T) := ⟨_, rfl⟩
    have hTA0 : Hid (0 < Nm.tsize zs) := by
      have h1 := Nm.tsize_zero_iff ha.2.2.2.2
      show _ < _
      omega
    have TAb : (TA : Int) ≤ 4096 := by have := hTA.out; omega
    have PK := hid (Pn.pow_pos' hA1 k)
    clear ih ha hA hA1 tz hk hb HP h0 HKL hn
    go_enter Try.func53, Try.ntmps53
    go_wp2_with fail
    refine IH.out.mono ?_
    rintro e w1 ⟨h | h, d1⟩
    · obtain ⟨hs, r, os, rfl, A1⟩ := h
      have HB1 := hid A1
      have HS : ShutQ (A ^ k < Nm.pw 4096) := ⟨hs⟩
      have D1 := hid d1
      have hw1 : Hid (w.heap.size ≤ w1.heap.size) := d1.size
      obtain ⟨l, hl⟩ : ∃ l, os.length = l := ⟨_, rfl⟩
      have los : (l : Int) ≤ 4096 := by have := A1.small hs; omega
      have AL : Hid (Arg w1 r l l os) := ⟨hl, Nat.le_refl _, by omega, A1.1, A1.2.1⟩
      have TL : Hid (Nm.tsize os = l) := A1.2.2.1.trans hl
      rw [hl]
      have HA1 := hid (HA.out.below d1 (Nat.le_refl _))
      clear hs A1 d1 IH hl
      by_cases h2 : 4096 < 2 * (l : Int) - 1
      · have F : Hid (GivesB (A ^ n) w (.returned (.tuple #[.slice none 0 0, .bool false])) w1) := by
          refine ⟨.inr ⟨?_, rfl⟩, D1.out⟩
          have h3 := long_mul (k := 4096) HB1.out.2.1 HB1.out.2.1 (HB1.out.tpos PK.out) (HB1.out.tpos PK.out) (by rw [TL.out]; omega)
          rw [HB1.out.2.2.2.1, ← Int.pow_add] at h3
          refine Int.le_trans h3 (Pn.pow_mono H1.out ?_)
          omega
        go_wp2_with fail
        go_ret2
        exact F.out
      · have h2' : Hid (2 * (l : Int) - 1 ≤ 4096) := by show _ ≤ _; omega
        have h2d : decide (4096 < 2 * (l : Int) - 1) = false := by simp; omega
        have TI := hid (refTimes_any r r l l l l os os w1 AL.out AL.out (by rw [TL.out]; omega) (by rw [TL.out]; omega))
        rw [HB1.out.2.2.2.1] at TI
        clear h2
        go_wp2_with fail
        refine TI.out.mono ?_
        rintro e w2 ⟨r2, us, rfl, A2, d2⟩
        have HB2 := hid A2
        have D2 := hid (chain D1.out d2 (Nat.le_refl _))
        have HA2 := hid (HA1.out.below d2 (Nat.le_refl _))
        have lus : Hid (us.length ≤ 8192) := by
          show _ ≤ _
          rw [← A2.2.2.1]
          refine (Nm.tsize_le_iff A2.2.1 8192).2 ?_
          rw [A2.2.2.2.1]
          have h1 := HS.out
          have h2 : A ^ k * A ^ k < Nm.pw 4096 * Nm.pw 4096 := by
            have p0 := PK.out
            have : A ^ k * A ^ k ≤ A ^ k * Nm.pw 4096 := Int.mul_le_mul_of_nonneg_left (by omega) (by omega)
            have h3 : A ^ k * Nm.pw 4096 < Nm.pw 4096 * Nm.pw 4096 := Int.mul_lt_mul_of_pos_right h1 (Nm.pw_pos 4096)
            omega
          rw [← Nm.pw_add] at h2
          exact h2
        have P2 : Hid (1 ≤ A ^ k * A ^ k) := by
          show _ ≤ _
          rw [← Int.pow_add]
          exact Pn.pow_pos' H1.out _
        clear A2 d2 TI HA1 HB1 D1 h2d
        rcases hb1 with rfl | rfl
        · have E : Hid (A ^ k * A ^ k = A ^ n) := by have := HHP.out; rw [Int.pow_zero, Int.mul_one] at this; exact this
          rw [E.out] at HB2
          by_cases h3 : 4096 < us.length
          · have h3' : (4096 : Int) < (us.length : Int) := by omega
            have F : Hid (GivesB (A ^ n) w (.returned (.tuple #[.slice none 0 0, .bool false])) w2) := ⟨.inr ⟨HB2.out.over.1 h3, rfl⟩, D2.out⟩
            clear h3
            go_wp2_with fail
            go_ret2
            exact F.out
          · have h3d : decide (4096 < (us.length : Int)) = false := by simp; omega
            have h3b : (us.length : Int) < 10000 := by omega
            have H3 : Hid ((us.length : Int) ≤ 4096) := by show _ ≤ _; omega
            have F : Hid (GivesB (A ^ n) w (.returned (.tuple #[.slice r2 (List.length us) (List.length us), .bool true])) w2) := by
              have hlt : A ^ n < Nm.pw 4096 := by
                rcases Int.lt_or_le (A ^ n) (Nm.pw 4096) with c | c
                · exact c
                · exact absurd (HB2.out.over.2 c) h3
              exact ⟨.inl ⟨hlt, r2, us, rfl, HB2.out.upT hw1.out⟩, D2.out⟩
            clear h3
            go_wp2_with fail
            go_ret2
            exact F.out
        · have E : Hid (A ^ k * A ^ k * A = A ^ n) := by have := HHP.out; rw [Int.pow_succ, Int.pow_zero, Int.one_mul] at this; exact this
          by_cases h3 : 4096 < us.length
          · have h3' : (4096 : Int) < (us.length : Int) := by omega
            have F : Hid (GivesB (A ^ n) w (.returned (.tuple #[.slice none 0 0, .bool false])) w2) := by
              refine ⟨.inr ⟨?_, rfl⟩, D2.out⟩
              have h4 := HB2.out.over.1 h3
              rw [← E.out]
              have h5 : A ^ k * A ^ k * 1 ≤ A ^ k * A ^ k * A := Int.mul_le_mul_of_nonneg_left H1.out (by have := P2.out; omega)
              rw [Int.mul_one] at h5
              exact Int.le_trans h4 h5
            clear h3
            go_wp2_with fail
            go_ret2
            exact F.out
          · have h3d : decide (4096 < (us.length : Int)) = false := by simp; omega
            have h3b : (us.length : Int) < 10000 := by omega
            have H3 : Hid ((us.length : Int) ≤ 4096) := by show _ ≤ _; omega
            have T2 := top_any p m cap zs w2 HA2.out.1 (by omega) HA2.out.2.2.2.1
            rw [hTA.out] at T2
            have HT2 := hid T2
            clear T2
            go_wp2_with fail
            refine HT2.out.mono ?_
            rintro e w3 ⟨rfl, rfl⟩
            have H3' := H3.out
            by_cases h4 : 4096 < (us.length : Int) + (TA : Int) - 1
            · have F : Hid (GivesB (A ^ n) w (.returned (.tuple #[.slice none 0 0, .bool false])) w3) := by
                refine ⟨.inr ⟨?_, rfl⟩, D2.out⟩
                have h5 := long_mul (k := 4096) HB2.out.2.1 HA2.out.2.2.2.2 (HB2.out.tpos P2.out) hTA0.out (by rw [HB2.out.2.2.1, hTA.out]; omega)
                rw [HB2.out.2.2.2.1, HV.out, E.out] at h5
                exact h5
              clear h3 H3'
              go_wp2_with fail
              go_ret2
              exact F.out
            · have h4d : decide (4096 < (us.length : Int) + (TA : Int) - 1) = false := by simp; omega
              have TI := hid (refTimes_any r2 p _ _ m cap us zs w3 (HB2.out.arg (by have := lus.out; omega)) HA2.out (by rw [HB2.out.2.2.1]; have := lus.out; omega) (by have := HZ.out; omega))
              rw [HB2.out.2.2.2.1, HV.out, E.out] at TI
              clear h3 h4 H3'
              go_wp2_with fail
              refine TI.out.mono ?_
              rintro e w4 ⟨r4, vs, rfl, A4, d4⟩
              have HB4 := hid A4
              have hw3 : Hid (w.heap.size ≤ w3.heap.size) := D2.out.size
              have D4 := hid (chain D2.out d4 (Nat.le_refl _))
              clear A4 d4 TI
              by_cases h5 : 4096 < vs.length
              · have h5' : (4096 : Int) < (vs.length : Int) := by omega
                have F : Hid (GivesB (A ^ n) w (.returned (.tuple #[.slice none 0 0, .bool false])) w4) := ⟨.inr ⟨HB4.out.over.1 h5, rfl⟩, D4.out⟩
                clear h5
                go_wp2_with fail
                go_ret2
                exact F.out
              · have h5d : decide (4096 < (vs.length : Int)) = false := by simp; omega
                have F : Hid (GivesB (A ^ n) w (.returned (.tuple #[.slice r4 (List.length vs) (List.length vs), .bool true])) w4) := by
                  have hlt : A ^ n < Nm.pw 4096 := by
                    rcases Int.lt_or_le (A ^ n) (Nm.pw 4096) with c | c
                    · exact c
                    · exact absurd (HB4.out.over.2 c) h5
                  exact ⟨.inl ⟨hlt, r4, vs, rfl, HB4.out.upT hw3.out⟩, D4.out⟩
                clear h5
                go_wp2_with fail
                go_ret2
                exact F.out
    · obtain ⟨hs, rfl⟩ := h
      have F : Hid (GivesB (A ^ n) w (.returned (.tuple #[.slice none 0 0, .bool false])) w1) := ⟨.inr ⟨Int.le_trans hs HK.out, rfl⟩, d1⟩
      clear hs d1 IH
      go_wp2_with fail
      go_ret2
      exact F.out
end Go.Proofs.Ythfechigdiefpaa
