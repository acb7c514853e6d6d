/-
  Texts put together: QRPow, QRLog, QLogIs, QLogSame, QPow2, QRPow2, QRPow5, QRPow3, QPow5, QPowSays, QRootNum.
-/
import Derived.Test.YtmihjiiagpkciaaDoorRD
import Derived.Test.YtmihjiiagpkciaaDoorRB
import Derived.Deep.CutBlock
import Derived.Deep.QuietTactic
import Derived.BigQuiet
import Derived.Test.YtmihjiiagpkciaaDoorFromW
import Derived.Test.YtmihjiiagpkciaaDoorWalk2a
import Derived.Test.YtmihjiiagpkciaaDoorQSame
import Derived.Test.YtmihjiiagpkciaaDoorQLaw
import Derived.Test.YtmihjiiagpkciaaDoorNums
namespace Go.Proofs.YtmihjiiagpkciaaDoor
open Go.RowKit Go.Deep

/-- A number and true, or false: it is too big. -/
def GivesB (T : Int) (w : World) (e : Ending) (w' : World) : Prop :=
  ((T < Nm.pw 4096 ∧ ∃ r os, e = .returned (.tuple #[.slice r (List.length os) (List.length os), .bool true]) ∧ Ans w.heap.size w' r os T) ∨ (Nm.pw 4096 ≤ T ∧ e = .returned (.tuple #[.slice none 0 0, .bool false]))) ∧ Below w.heap.size w w'

/-- A fact that no step looks into. -/
structure ShutQ (p : Prop) : Prop where
  out : p

/-- A product that has too many limbs by its factors' lengths. -/
theorem long_mul {xs ys : List Int} (hx : Nm.Limbs xs) (hy : Nm.Limbs ys) (h1 : 0 < Nm.tsize xs) (h2 : 0 < Nm.tsize ys) {k : Nat} (h : k + 2 ≤ Nm.tsize xs + Nm.tsize ys) : Nm.pw k ≤ Nm.val xs * Nm.val ys := by
  have a1 := Nm.val_ge_top hx h1
  have a2 := Nm.val_ge_top hy h2
  have p1 := Nm.pw_pos (Nm.tsize xs - 1)
  have p2 := Nm.pw_pos (Nm.tsize ys - 1)
  have h3 : Nm.pw (Nm.tsize xs - 1) * Nm.pw (Nm.tsize ys - 1) ≤ Nm.val xs * Nm.val ys := Int.mul_le_mul a1 a2 (by omega) (by omega)
  rw [← Nm.pw_add] at h3
  exact Int.le_trans (Nm.pw_mono (by omega)) h3

theorem Ans.tpos {B : Nat} {w : World} {p : Option Addr} {ys : List Int} {n : Int} (h : Ans B w p ys n) (hn : 1 ≤ n) : 0 < Nm.tsize ys := by
  have h1 := Nm.tsize_zero_iff h.2.1
  have h2 := h.2.2.2.1
  omega

/-- The length of an answer tells whether it is too big. -/
theorem Ans.over {B : Nat} {w : World} {p : Option Addr} {ys : List Int} {n : Int} (h : Ans B w p ys n) : 4096 < ys.length ↔ Nm.pw 4096 ≤ n := by
  have h1 := Nm.tsize_le_iff h.2.1 4096
  rw [h.2.2.1, h.2.2.2.1] at h1
  constructor
  · intro h2
    rcases Int.lt_or_le n (Nm.pw 4096) with c | c
    · have := h1.2 c; omega
    · exact c
  · intro h2
    rcases Nat.lt_or_ge 4096 ys.length with c | c
    · exact c
    · have := h1.1 c
      exact absurd (Int.lt_of_lt_of_le this h2) (Int.lt_irrefl _)

theorem half_pow (A : Int) (n : Nat) (b : Nat) (hb : n % 2 = b) : A ^ (n / 2) * A ^ (n / 2) * A ^ b = A ^ n := by
  rw [← Int.pow_add, ← Int.pow_add]
  congr 1
  omega

set_option maxRecDepth 100000 in
set_option maxHeartbeats 8000000 in
theorem rpower_any (p : Option Addr) (m cap : Nat) (zs : List Int) (A : Int) (hA : Nm.val zs = A) (hA1 : 1 ≤ A) (tz : Nm.tsize zs ≤ 4096) (n : Nat) : ∀ (w : World), Arg w p m cap zs → n < 9223372036854775808 →
    Calls Tryd.prog 49 #[.slice p m cap, .int .i64 (n : Int)] w fun e w' => GivesB (A ^ n) w e w' := by
  induction n using Nat.strongRecOn with
  | _ n ih =>
  intro w ha hn
  by_cases h0 : n = 0
  · subst h0
    have D : Below w.heap.size w (w.alloc (.cells #[.int .u64 1] 26)) := (Below.refl _ _).alloc (Nat.le_refl _) _
    have F : Hid (GivesB (A ^ 0) w (.returned (.tuple #[.slice (some ⟨w.heap.size, 0, none⟩) 1 1, .bool true])) (w.alloc (.cells #[.int .u64 1] 26))) := by
      rw [Int.pow_zero]
      exact ⟨.inl ⟨one_lt_pw, some ⟨w.heap.size, 0, none⟩, [1], rfl, ⟨(Own.alloc w [1]).lies, limb_one (by omega), by simp [Nm.tsize], by simp [Nm.val], fun a h => by cases h; exact ⟨Nat.le_refl _, fun _ o => (Own.alloc w [1]).free o⟩⟩⟩, D⟩
    clear ih D ha hA hA1 tz
    go_enter Tryd.func49, Tryd.ntmps49
    go_wp2_with fail
    go_ret2
    exact F.out
  · have IH := hid (ih (n / 2) (by omega) w ha (by omega))
    have hn0 : ((n : Int) == 0) = false := by rw [beq_eq_false_iff_ne]; omega
    obtain ⟨k, hk⟩ : ∃ k, n / 2 = k := ⟨_, rfl⟩
    obtain ⟨b, hb⟩ : ∃ b, n % 2 = b := ⟨_, rfl⟩
    have HP := half_pow A n b hb
    rw [hk] at IH HP
    have q1 : (n : Int) / 2 = (k : Int) := by omega
    have q1t : (n : Int).tdiv 2 = (k : Int) := by rw [Int.tdiv_eq_ediv_of_nonneg (by omega)]; exact q1
    have q2 : (n : Int) % 2 = (b : Int) := by omega
    have q2t : (n : Int).tmod 2 = (b : Int) := by rw [Int.tmod_eq_emod_of_nonneg (by omega)]; exact q2
    have hb1 : b = 0 ∨ b = 1 := by omega
    have a2 := ha.2.1
    have a3 := ha.2.2.1
    have hn63 : (n : Int) < 9223372036854775808 := by omega
    have HA := hid ha
    have HV := hid hA
    have H1 := hid hA1
    have HZ := hid tz
    have HHP := hid HP
    have HKL := Pn.pow_mono hA1 (show k ≤ n by omega)
    have HK := hid HKL
    obtain ⟨TA, hTA⟩ : ∃ T, Hid (Nm.tsize zs = T) := ⟨_, rfl⟩
    have hTA0 : Hid (0 < Nm.tsize zs) := by
      have h1 := Nm.tsize_zero_iff ha.2.2.2.2
      show _ < _
      omega
    have TAb : (TA : Int) ≤ 4096 := by have := hTA.out; omega
    have PK := hid (Pn.pow_pos' hA1 k)
    clear ih ha hA hA1 tz hk hb HP h0 HKL hn
    go_enter Tryd.func49, Tryd.ntmps49
    go_wp2_with fail
    refine IH.out.mono ?_
    rintro e w1 ⟨h | h, d1⟩
    · obtain ⟨hs, r, os, rfl, A1⟩ := h
      have HB1 := hid A1
      have HS : ShutQ (A ^ k < Nm.pw 4096) := ⟨hs⟩
      have D1 := hid d1
      have hw1 : Hid (w.heap.size ≤ w1.heap.size) := d1.size
      obtain ⟨l, hl⟩ : ∃ l, os.length = l := ⟨_, rfl⟩
      have los : (l : Int) ≤ 4096 := by have := A1.small hs; omega
      have AL : Hid (Arg w1 r l l os) := ⟨hl, Nat.le_refl _, by omega, A1.1, A1.2.1⟩
      have TL : Hid (Nm.tsize os = l) := A1.2.2.1.trans hl
      rw [hl]
      have HA1 := hid (HA.out.below d1 (Nat.le_refl _))
      clear hs A1 d1 IH hl
      by_cases h2 : 4096 < 2 * (l : Int) - 1
      · have F : Hid (GivesB (A ^ n) w (.returned (.tuple #[.slice none 0 0, .bool false])) w1) := by
          refine ⟨.inr ⟨?_, rfl⟩, D1.out⟩
          have h3 := long_mul (k := 4096) HB1.out.2.1 HB1.out.2.1 (HB1.out.tpos PK.out) (HB1.out.tpos PK.out) (by rw [TL.out]; omega)
          rw [HB1.out.2.2.2.1, ← Int.pow_add] at h3
          refine Int.le_trans h3 (Pn.pow_mono H1.out ?_)
          omega
        go_wp2_with fail
        go_ret2
        exact F.out
      · have h2' : Hid (2 * (l : Int) - 1 ≤ 4096) := by show _ ≤ _; omega
        have h2d : decide (4096 < 2 * (l : Int) - 1) = false := by simp; omega
        have TI := hid (refTimes_any r r l l l l os os w1 AL.out AL.out (by rw [TL.out]; omega) (by rw [TL.out]; omega))
        rw [HB1.out.2.2.2.1] at TI
        clear h2
        go_wp2_with fail
        refine TI.out.mono ?_
        rintro e w2 ⟨r2, us, rfl, A2, d2⟩
        have HB2 := hid A2
        have D2 := hid (chain D1.out d2 (Nat.le_refl _))
        have HA2 := hid (HA1.out.below d2 (Nat.le_refl _))
        have lus : Hid (us.length ≤ 8192) := by
          show _ ≤ _
          rw [← A2.2.2.1]
          refine (Nm.tsize_le_iff A2.2.1 8192).2 ?_
          rw [A2.2.2.2.1]
          have h1 := HS.out
          have h2 : A ^ k * A ^ k < Nm.pw 4096 * Nm.pw 4096 := by
            have p0 := PK.out
            have : A ^ k * A ^ k ≤ A ^ k * Nm.pw 4096 := Int.mul_le_mul_of_nonneg_left (by omega) (by omega)
            have h3 : A ^ k * Nm.pw 4096 < Nm.pw 4096 * Nm.pw 4096 := Int.mul_lt_mul_of_pos_right h1 (Nm.pw_pos 4096)
            omega
          rw [← Nm.pw_add] at h2
          exact h2
        have P2 : Hid (1 ≤ A ^ k * A ^ k) := by
          show _ ≤ _
          rw [← Int.pow_add]
          exact Pn.pow_pos' H1.out _
        clear A2 d2 TI HA1 HB1 D1 h2d
        rcases hb1 with rfl | rfl
        · have E : Hid (A ^ k * A ^ k = A ^ n) := by have := HHP.out; rw [Int.pow_zero, Int.mul_one] at this; exact this
          rw [E.out] at HB2
          by_cases h3 : 4096 < us.length
          · have h3' : (4096 : Int) < (us.length : Int) := by omega
            have F : Hid (GivesB (A ^ n) w (.returned (.tuple #[.slice none 0 0, .bool false])) w2) := ⟨.inr ⟨HB2.out.over.1 h3, rfl⟩, D2.out⟩
            clear h3
            go_wp2_with fail
            go_ret2
            exact F.out
          · have h3d : decide (4096 < (us.length : Int)) = false := by simp; omega
            have h3b : (us.length : Int) < 10000 := by omega
            have H3 : Hid ((us.length : Int) ≤ 4096) := by show _ ≤ _; omega
            have F : Hid (GivesB (A ^ n) w (.returned (.tuple #[.slice r2 (List.length us) (List.length us), .bool true])) w2) := by
              have hlt : A ^ n < Nm.pw 4096 := by
                rcases Int.lt_or_le (A ^ n) (Nm.pw 4096) with c | c
                · exact c
                · exact absurd (HB2.out.over.2 c) h3
              exact ⟨.inl ⟨hlt, r2, us, rfl, HB2.out.upT hw1.out⟩, D2.out⟩
            clear h3
            go_wp2_with fail
            go_ret2
            exact F.out
        · have E : Hid (A ^ k * A ^ k * A = A ^ n) := by have := HHP.out; rw [Int.pow_succ, Int.pow_zero, Int.one_mul] at this; exact this
          by_cases h3 : 4096 < us.length
          · have h3' : (4096 : Int) < (us.length : Int) := by omega
            have F : Hid (GivesB (A ^ n) w (.returned (.tuple #[.slice none 0 0, .bool false])) w2) := by
              refine ⟨.inr ⟨?_, rfl⟩, D2.out⟩
              have h4 := HB2.out.over.1 h3
              rw [← E.out]
              have h5 : A ^ k * A ^ k * 1 ≤ A ^ k * A ^ k * A := Int.mul_le_mul_of_nonneg_left H1.out (by have := P2.out; omega)
              rw [Int.mul_one] at h5
              exact Int.le_trans h4 h5
            clear h3
            go_wp2_with fail
            go_ret2
            exact F.out
          · have h3d : decide (4096 < (us.length : Int)) = false := by simp; omega
            have h3b : (us.length : Int) < 10000 := by omega
            have H3 : Hid ((us.length : Int) ≤ 4096) := by show _ ≤ _; omega
            have T2 := top_any p m cap zs w2 HA2.out.1 (by omega) HA2.out.2.2.2.1
            rw [hTA.out] at T2
            have HT2 := hid T2
            clear T2
            go_wp2_with fail
            refine HT2.out.mono ?_
            rintro e w3 ⟨rfl, rfl⟩
            have H3' := H3.out
            by_cases h4 : 4096 < (us.length : Int) + (TA : Int) - 1
            · have F : Hid (GivesB (A ^ n) w (.returned (.tuple #[.slice none 0 0, .bool false])) w3) := by
                refine ⟨.inr ⟨?_, rfl⟩, D2.out⟩
                have h5 := long_mul (k := 4096) HB2.out.2.1 HA2.out.2.2.2.2 (HB2.out.tpos P2.out) hTA0.out (by rw [HB2.out.2.2.1, hTA.out]; omega)
                rw [HB2.out.2.2.2.1, HV.out, E.out] at h5
                exact h5
              clear h3 H3'
              go_wp2_with fail
              go_ret2
              exact F.out
            · have h4d : decide (4096 < (us.length : Int) + (TA : Int) - 1) = false := by simp; omega
              have TI := hid (refTimes_any r2 p _ _ m cap us zs w3 (HB2.out.arg (by have := lus.out; omega)) HA2.out (by rw [HB2.out.2.2.1]; have := lus.out; omega) (by have := HZ.out; omega))
              rw [HB2.out.2.2.2.1, HV.out, E.out] at TI
              clear h3 h4 H3'
              go_wp2_with fail
              refine TI.out.mono ?_
              rintro e w4 ⟨r4, vs, rfl, A4, d4⟩
              have HB4 := hid A4
              have hw3 : Hid (w.heap.size ≤ w3.heap.size) := D2.out.size
              have D4 := hid (chain D2.out d4 (Nat.le_refl _))
              clear A4 d4 TI
              by_cases h5 : 4096 < vs.length
              · have h5' : (4096 : Int) < (vs.length : Int) := by omega
                have F : Hid (GivesB (A ^ n) w (.returned (.tuple #[.slice none 0 0, .bool false])) w4) := ⟨.inr ⟨HB4.out.over.1 h5, rfl⟩, D4.out⟩
                clear h5
                go_wp2_with fail
                go_ret2
                exact F.out
              · have h5d : decide (4096 < (vs.length : Int)) = false := by simp; omega
                have F : Hid (GivesB (A ^ n) w (.returned (.tuple #[.slice r4 (List.length vs) (List.length vs), .bool true])) w4) := by
                  have hlt : A ^ n < Nm.pw 4096 := by
                    rcases Int.lt_or_le (A ^ n) (Nm.pw 4096) with c | c
                    · exact c
                    · exact absurd (HB4.out.over.2 c) h5
                  exact ⟨.inl ⟨hlt, r4, vs, rfl, HB4.out.upT hw3.out⟩, D4.out⟩
                clear h5
                go_wp2_with fail
                go_ret2
                exact F.out
    · obtain ⟨hs, rfl⟩ := h
      have F : Hid (GivesB (A ^ n) w (.returned (.tuple #[.slice none 0 0, .bool false])) w1) := ⟨.inr ⟨Int.le_trans hs HK.out, rfl⟩, d1⟩
      clear hs d1 IH
      go_wp2_with fail
      go_ret2
      exact F.out
end Go.Proofs.YtmihjiiagpkciaaDoor

namespace Go.Proofs.YtmihjiiagpkciaaDoor
open Go.RowKit Go.Deep

theorem top_isT (T : Nat) (p : Option Addr) (n cap : Nat) (zs : List Int) (w : World) (ha : Arg w p n cap zs) (hT : Nm.tsize zs = T) :
    Calls Tryd.prog 16 #[.slice p n cap] w fun e w' => e = .returned (.int .i64 (T : Int)) ∧ w' = w := by
  rw [← hT]
  exact top_any p n cap zs w ha.1 (by have := ha.2.1; have := ha.2.2.1; omega) ha.2.2.2.1

theorem rlog_big (p : Option Addr) (m cap : Nat) (zs : List Int) (b : Int) (w : World) (ha : Arg w p m cap zs) (tz : 4096 < Nm.tsize zs) :
    Calls Tryd.prog 28 #[.slice p m cap, .int .u64 b] w fun e w' => e = .returned (.tuple #[.int .i64 0, .int .i64 2]) ∧ w' = w := by
  obtain ⟨N, HN⟩ : ∃ N, Hid (Nm.tsize zs = N) := ⟨_, rfl⟩
  have hN : (4096 : Int) < (N : Int) := by have := HN.out; omega
  have HL := hid (top_isT N p m cap zs w ha HN.out)
  clear ha tz
  go_enter Tryd.func28, Tryd.ntmps28
  go_wp2_with fail
  refine HL.out.mono ?_
  rintro e w' ⟨rfl, rfl⟩
  go_wp2_with fail
  go_ret2
  exact ⟨rfl, rfl⟩

theorem rlog_zero (p : Option Addr) (m cap : Nat) (zs : List Int) (b : Int) (w : World) (ha : Arg w p m cap zs) (tz : Nm.tsize zs = 0) :
    Calls Tryd.prog 28 #[.slice p m cap, .int .u64 b] w fun e w' => e = .returned (.tuple #[.int .i64 0, .int .i64 4]) ∧ w' = w := by
  have HL := hid (top_isT 0 p m cap zs w ha tz)
  clear ha tz
  go_enter Tryd.func28, Tryd.ntmps28
  go_wp2_with fail
  refine HL.out.mono ?_
  rintro e w' ⟨rfl, rfl⟩
  go_wp2_with fail
  refine HL.out.mono ?_
  rintro e w' ⟨rfl, rfl⟩
  go_wp2_with fail
  go_ret2
  exact ⟨rfl, rfl⟩

theorem rlog_arg (p : Option Addr) (m cap : Nat) (zs : List Int) (b : Int) (w : World) (ha : Arg w p m cap zs) (tz : Nm.tsize zs ≤ 4096) (t0 : 0 < Nm.tsize zs) (hb : b < 2) :
    Calls Tryd.prog 28 #[.slice p m cap, .int .u64 b] w fun e w' => e = .returned (.tuple #[.int .i64 0, .int .i64 1]) ∧ w' = w := by
  obtain ⟨N, HN⟩ : ∃ N, Hid (Nm.tsize zs = N) := ⟨_, rfl⟩
  have hN : (N : Int) ≤ 4096 := by have := HN.out; omega
  have hN1 : (0 : Int) < (N : Int) := by have := HN.out; omega
  have hN2 : ((N : Int) == 0) = false := by rw [beq_eq_false_iff_ne]; omega
  have HL := hid (top_isT N p m cap zs w ha HN.out)
  clear ha tz t0
  go_enter Tryd.func28, Tryd.ntmps28
  go_wp2_with fail
  refine HL.out.mono ?_
  rintro e w' ⟨rfl, rfl⟩
  go_wp2_with fail
  refine HL.out.mono ?_
  rintro e w' ⟨rfl, rfl⟩
  go_wp2_with fail
  go_ret2
  exact ⟨rfl, rfl⟩

theorem RowIn.pos {w : World} {mv : Value} {e : Option Addr × List Int} {V : Int} (h : RowIn w mv e V) (hV : 1 ≤ V) : 0 < Nm.tsize e.2 := by
  rcases Nat.eq_zero_or_pos (Nm.tsize e.2) with c | c
  · have := (Nm.tsize_le_iff h.2.1 0).1 (by omega)
    rw [h.2.2.2.1] at this
    simp only [Nm.pw] at this
    omega
  · exact c

theorem square_lt {x : Int} {k : Nat} (h0 : 0 ≤ x) (h : x < Nm.pw k) : x * x < Nm.pw (k + k) := by
  rw [Nm.pw_add]
  have h1 : x * x ≤ x * Nm.pw k := Int.mul_le_mul_of_nonneg_left (by omega) h0
  have h2 : x * Nm.pw k < Nm.pw k * Nm.pw k := Int.mul_lt_mul_of_pos_right h (Nm.pw_pos k)
  omega

/-- What is there behind the first loop. -/
def AllIn (base : Nat) (b A : Int) (w0 : World) (mv : Value) (w : World) : Prop := ∃ l, RowsIn base b A mv l w ∧ A < b ^ (2 ^ l.length) ∧ l.length ≤ 18 ∧ Below base w0 w

set_option maxRecDepth 100000 in
set_option maxHeartbeats 4000000 in
theorem rlog_ok (p : Option Addr) (m cap : Nat) (za : List Int) (A b : Int) (w : World) (ha : Arg w p m cap za) (hA : Nm.val za = A) (tz : Nm.tsize za ≤ 4096) (t0 : 0 < Nm.tsize za) (hb0 : 2 ≤ b) (hb1 : b < 18446744073709551616) :
    Calls Tryd.prog 28 #[.slice p m cap, .int .u64 b] w fun e w' => Told A b w e w' := by
  obtain ⟨N, HN⟩ : ∃ N, Hid (Nm.tsize za = N) := ⟨_, rfl⟩
  have hN : (N : Int) ≤ 4096 := by have := HN.out; omega
  have hN1 : (0 : Int) < (N : Int) := by have := HN.out; omega
  have hN2 : ((N : Int) == 0) = false := by rw [beq_eq_false_iff_ne]; omega
  have HL := hid (top_isT N p m cap za w ha HN.out)
  have hAs : ShutL (A < Nm.pw 4096) := ⟨by rw [← hA]; exact (Nm.tsize_le_iff ha.2.2.2.2 4096).1 tz⟩
  have hAN : Hid (A < Nm.pw N) := by show _ < _; rw [← hA]; exact (Nm.tsize_le_iff ha.2.2.2.2 N).1 (by have := HN.out; omega)
  have hA1 : Hid (1 ≤ A) := by show _ ≤ _; rw [← hA]; exact pos_of_tsize ha.2.2.2.2 t0
  have HV := hid hA
  have HA := hid ha
  have HT := hid tz
  have HB0 := hid hb0
  have lb : Hid (Nm.Limbs [b] ∧ Nm.tsize [b] = 1 ∧ Nm.val [b] = b) := by
    refine ⟨limb_one (by omega), ?_, by simp [Nm.val]⟩
    have h1 := Nm.tsize_le [b]
    have h2 := (Nm.tsize_le_iff (zs := [b]) (limb_one (by omega)) 0)
    simp only [Nm.pw, Nm.val, List.length_cons, List.length_nil] at h1 h2
    omega
  have P0 : Hid (RowIn (w.alloc (.cells #[.int .u64 b] 26)) (.slice none 0 0) (some ⟨w.heap.size, 0, none⟩, [b]) (b ^ (2 ^ 0))) := by
    show RowIn _ _ _ _
    rw [Nat.pow_zero, Int.pow_succ, Int.pow_zero, Int.one_mul]
    have ho := Own.alloc w [b]
    exact ⟨ho.lies, lb.out.1, lb.out.2.1, lb.out.2.2, fun a ha => by cases ha; exact ⟨ho.lt, by simp [Value.ownBlock]⟩⟩
  have D0 : Hid (Below w.heap.size w (w.alloc (.cells #[.int .u64 b] 26))) := (Below.refl _ _).alloc (Nat.le_refl _) _
  clear ha hA tz t0 hb1 lb
  go_enter Tryd.func28, Tryd.ntmps28
  go_wp2_with fail
  refine HL.out.mono ?_
  rintro e w' ⟨rfl, rfl⟩
  go_wp2_with fail
  refine HL.out.mono ?_
  rintro e w' ⟨rfl, rfl⟩
  go_upto_block 0 with fail
  go_cut [6, 7] from 22 to 39 (fun s q wx => ∃ mv, s = mv ∧ Hid (AllIn w'.heap.size b A w' mv wx))
  case first =>
    go_wp2_with fail
    go_loopg [6, 7] 20 (fun x c a wr => ∃ (mv : Value) (l : List (Option Addr × List Int)) (r : Option Addr) (us : List Int), a = .slice r (List.length us) (List.length us) ∧ c = mv ∧ Hid (x + l.length = 20) ∧ Hid (us.length ≤ 8192) ∧ Hid (RowsIn w'.heap.size b A mv l wr) ∧ Hid (Below w'.heap.size w' wr) ∧ Hid (RowIn wr mv (r, us) (b ^ (2 ^ l.length))))
    case atStart => exact ⟨.slice none 0 0, [], some ⟨w'.heap.size, 0, none⟩, [b], rfl, rfl, rfl, by show _ ≤ _; simp, ⟨World.ownsRow_nil _ _ _ _, fun i e h => by simp at h⟩, D0.out, P0.out⟩
    case round =>
      clear P0 D0 HL
      obtain ⟨mv, l, r, us, rfl, hmv, GK, LU, RI, D, HR⟩ := hrel
      have hmv := hmv.symm
      subst hmv
      have L18 := hid (RI.out.few HB0.out hAs.out)
      have HAr := hid (HA.out.below D.out (Nat.le_refl _))
      obtain ⟨c, hc0⟩ : ∃ c, cmpI (b ^ (2 ^ l.length)) A = c := ⟨_, rfl⟩
      have HC := hid hc0
      clear hc0
      have CM := hid (order_is c r p _ _ m cap us za wr (HR.out.arg (by have := LU.out; simp only; omega)) HAr.out (by rw [show Nm.val us = b ^ (2 ^ l.length) from HR.out.2.2.2.1, HV.out]; exact HC.out))
      clear HAr
      by_cases hgt : A < b ^ (2 ^ l.length)
      · have hc : c = 1 := by rw [← HC.out]; exact cmpI_gt hgt
        have HG := hid hgt
        subst hc
        clear hgt
        go_wp2_with fail
        refine CM.out.mono ?_
        rintro e w1 ⟨rfl, d1⟩
        have F : Hid (AllIn w'.heap.size b A w' mv w1) := ⟨l, RI.out.below d1, HG.out, L18.out, chain D.out d1 (Nat.le_refl _)⟩
        clear d1
        go_wp2_with fail
        go_meet
        exact ⟨mv, rfl, F⟩
      · have hcle : c ≤ 0 := by
          rw [← HC.out]
          rcases (show b ^ (2 ^ l.length) = A ∨ b ^ (2 ^ l.length) < A by omega) with h | h
          · rw [cmpI_eq h]; omega
          · rw [cmpI_lt h]; omega
        have HLE : Hid (b ^ (2 ^ l.length) ≤ A) := by show _ ≤ _; omega
        clear hgt
        go_wp2_with fail
        refine CM.out.mono ?_
        rintro e w1 ⟨rfl, d1⟩
        have RI1 := RI.out.below d1
        have HR1 := HR.out.below d1
        have D1 := hid (chain D.out d1 (Nat.le_refl _))
        obtain ⟨mv', w2, ap, j1, j2, j3, j4, j5⟩ := pushRow w'.heap.size l.length mv (l.map rowV) (rowV (r, us)) w1 (by have := L18.out; omega) rfl D1.out.size RI1.own
        have AP : Hid ((Builtin.append_ #[27, 27] 27 #[mv, .slice (some ⟨w1.heap.size, 0, none⟩) 1 1]).run Tryd.prog (w1.alloc (.cells #[.slice r (List.length us) (List.length us)] 24)) = .ok mv' w2) := ap
        have D2 := hid (D1.out.trans j2)
        have HR2 := hid (HR1.pushed j3 j4 j5)
        have RI2 : Hid (RowsIn w'.heap.size b A mv' (l ++ [(r, us)]) w2) := by
          refine ⟨by simpa using j1, fun i e he => ?_⟩
          by_cases hi : i < l.length
          · rw [List.getElem?_append_left hi] at he
            exact ⟨(RI1.row i e he).1.pushed j3 j4 j5, (RI1.row i e he).2⟩
          · have hlt := (List.getElem?_eq_some_iff.1 he).1
            simp only [List.length_append, List.length_cons, List.length_nil] at hlt
            have hi2 : i = l.length := by omega
            subst hi2
            rw [List.getElem?_append_right (by omega), Nat.sub_self] at he
            simp at he
            subst he
            exact ⟨HR1.pushed j3 j4 j5, HLE.out⟩
        have BP := hid (show 0 < b ^ (2 ^ (l.length + 1)) from Int.pow_pos (by have := HB0.out; omega))
        obtain ⟨T, HTT⟩ : ∃ T, Hid (Nm.tsize us = T) := ⟨_, rfl⟩
        have hT1 : (1 : Int) ≤ (T : Int) := by
          have h1 := HR2.out.pos (show 1 ≤ b ^ (2 ^ l.length) by have : 0 < b ^ (2 ^ l.length) := Int.pow_pos (by have := HB0.out; omega); omega)
          have h2 := HTT.out
          simp only at h1
          omega
        have hT4 : (T : Int) ≤ 4096 := by
          have h1 := (Nm.tsize_le_iff HR2.out.2.1 4096).2 (by rw [HR2.out.2.2.2.1]; exact Int.lt_of_le_of_lt HLE.out hAs.out)
          have h2 := HTT.out
          simp only at h1
          omega
        have A2 := hid (HR2.out.arg (by have := LU.out; simp only; omega))
        have TP := hid (top_isT T r _ _ us w2 A2.out HTT.out)
        have TA := hid (top_isT N p m cap za w2 (HA.out.below D2.out (Nat.le_refl _)) HN.out)
        have RF : Hid (AllIn w'.heap.size b A w' mv' w2 ∨ 2 * ((T : Int) - 1) < (N : Int)) := by
          rcases (show (N : Int) ≤ 2 * ((T : Int) - 1) ∨ 2 * ((T : Int) - 1) < (N : Int) by omega) with h | h
          · left
            refine ⟨l ++ [(r, us)], RI2.out, ?_, RI2.out.few HB0.out hAs.out, D2.out⟩
            have h3 := long_mul (k := N) HR2.out.2.1 HR2.out.2.1 (by have := HTT.out; simp only; omega) (by have := HTT.out; simp only; omega) (by have := HTT.out; simp only; omega)
            rw [HR2.out.2.2.2.1, Ln.square] at h3
            rw [List.length_append]
            exact Int.lt_of_lt_of_le hAN.out h3
          · exact .inr h
        have TM := hid (refTimes_any r r _ _ _ _ us us w2 A2.out A2.out (by have := HTT.out; omega) (by have := HTT.out; omega))
        have SB : Hid (b ^ (2 ^ (l.length + 1)) < Nm.pw 8192) := by
          show _ < _
          rw [← Ln.square]
          exact square_lt (k := 4096) (Int.le_of_lt (Int.pow_pos (by have := HB0.out; omega))) (Int.lt_of_le_of_lt HLE.out hAs.out)
        clear ap j1 j2 j3 j4 j5 RI1 HR1 d1 CM RI D HR A2
        by_cases hbr : 2 * ((T : Int) - 1) < (N : Int)
        · clear RF
          go_wp2_with (at_builtin; refine wpList_append_l rfl _ _ rfl AP.out (by rfl) (by rfl) ?_; clear AP)
          refine TP.out.mono ?_
          rintro e w3 ⟨rfl, rfl⟩
          go_wp2_with fail
          refine TA.out.mono ?_
          rintro e w3 ⟨rfl, rfl⟩
          go_wp2_with fail
          refine TM.out.mono ?_
          rintro e w4 ⟨r4, us4, rfl, A4, d4⟩
          rw [show Nm.val us = b ^ (2 ^ l.length) from HR2.out.2.2.2.1, Ln.square] at A4
          have RI4 := hid (RI2.out.below d4)
          have D4 := hid (chain D2.out d4 (Nat.le_refl _))
          have N4 : Hid (RowIn w4 mv' (r4, us4) (b ^ (2 ^ (l.length + 1)))) := A4.row rfl RI2.out.own BP.out
          have LU4 : Hid (us4.length ≤ 8192) := by
            show _ ≤ _
            have h1 := (Nm.tsize_le_iff A4.2.1 8192).2 (by rw [A4.2.2.2.1]; exact SB.out)
            have h2 := A4.2.2.1
            omega
          clear A4 d4 TM TP TA
          go_wp2_with fail
          go_roundg (19 - l.length)
          case measure => have := GK.out; have := L18.out; omega
          case rel => exact ⟨mv', l ++ [(r, us)], r4, us4, rfl, rfl, by show _ = _; have := L18.out; rw [List.length_append]; simp only [List.length_cons, List.length_nil]; omega, LU4.out, RI4.out, D4.out, by rw [List.length_append]; exact N4.out⟩
        · have F : Hid (AllIn w'.heap.size b A w' mv' w2) := by
            rcases RF.out with h | h
            · exact h
            · exact absurd h hbr
          have hbr' : (N : Int) ≤ 2 * ((T : Int) - 1) := by omega
          clear RF hbr
          go_wp2_with (at_builtin; refine wpList_append_l rfl _ _ rfl AP.out (by rfl) (by rfl) ?_; clear AP)
          refine TP.out.mono ?_
          rintro e w3 ⟨rfl, rfl⟩
          go_wp2_with fail
          refine TA.out.mono ?_
          rintro e w3 ⟨rfl, rfl⟩
          go_wp2_with fail
          go_meet
          exact ⟨mv', rfl, F⟩
  case rest =>
    clear P0 D0 HL
    obtain ⟨mv, hmv, F2⟩ := hcut
    have hmv := hmv.symm
    subst hmv
    obtain ⟨l, f1, f2, f3, f4⟩ := F2.out
    obtain ⟨pm, cp, hmv⟩ := f1.shape
    subst hmv
    obtain ⟨k, HK⟩ : ∃ k, Hid (l.length = k) := ⟨_, rfl⟩
    have hk18 : (k : Int) ≤ 18 := by have := HK.out; omega
    have HW0 : Hid (Ln.Way A b 0 k) := by
      rw [HK.out] at f2
      exact Ln.Way.first hA1.out f2
    have d3 : Below wc.heap.size wc (wc.alloc (.cells #[.int .u64 1] 26)) := (Below.refl _ _).alloc (Nat.le_refl _) _
    have RI3 := hid (f1.below d3)
    have D3 := hid (chain f4 d3 (Nat.le_refl _))
    have HA3 : Hid (Ans w'.heap.size (wc.alloc (.cells #[.int .u64 1] 26)) (some ⟨wc.heap.size, 0, none⟩) [1] (b ^ 0)) := by
      have ho := Own.alloc wc [1]
      refine ⟨ho.lies, limb_one (by omega), by decide, ?_, fun a ha => by cases ha; exact ⟨f4.size, fun _ o => ho.free o⟩⟩
      rw [Int.pow_zero]
      simp [Nm.val]
    rw [HK.out] at RI3
    rw [HK.out]
    clear F2 f1 f2 f3 f4 d3
    go_wp2_with fail
    go_loopg [8, 9, 10] k (fun j c o i wr => ∃ (n : Nat) (r : Option Addr) (os : List Int), c = .int .i64 (n : Int) ∧ o = .slice r (List.length os) (List.length os) ∧ i = .int .i64 ((j : Int) - 1) ∧ j ≤ k ∧ Hid (RowsIn w'.heap.size b A (.slice pm k cp) l wr) ∧ Hid (Ans w'.heap.size wr r os (b ^ n)) ∧ Hid (Ln.Way A b n j) ∧ Hid (Below w'.heap.size w' wr))
    case atStart => exact ⟨0, _, [1], rfl, rfl, by go_num, Nat.le_refl _, RI3.out, HA3.out, HW0.out, D3.out⟩
    case round =>
      clear RI3 HA3 HW0 D3
      obtain ⟨n, r, os, rfl, rfl, rfl, hj, RI, HR, HW, D⟩ := hrel
      cases gk with
      | zero =>
        have F : Hid (Told A b w' (.returned (.tuple #[.int .i64 (n : Int), .int .i64 0])) wr) := ⟨n, rfl, HW.out.last, D.out⟩
        clear RI HR HW D
        go_wp2_with fail
        go_ret2
        exact F.out
      | succ s =>
        have hs18 : (s : Int) < 18 := by omega
        have hsk : (s : Int) < (k : Int) := by omega
        have hn := exp_small hb0 HW.out.1 hAs.out
        have hbn : ShutL (b ^ n < Nm.pw 4096) := ⟨Int.lt_of_le_of_lt HW.out.1 hAs.out⟩
        obtain ⟨gm, q, us, hpm, hcell, hq, hqA⟩ := RI.out.at (s := s) (by have := HK.out; omega)
        subst hpm
        have lus : Nm.tsize us ≤ 4096 := (Nm.tsize_le_iff hq.2.1 4096).2 (by rw [show Nm.val us = b ^ (2 ^ s) from hq.2.2.2.1]; exact Int.lt_of_le_of_lt hqA hAs.out)
        have AR := hid (HR.out.argT hbn.out)
        have AQ := hid (hq.arg (by have := hq.2.2.1; simp only at this ⊢; omega))
        have AA := hid (HA.out.below D.out (Nat.le_refl _))
        have lq := hid hq.2.2.2.1
        have hlq := hid hq.2.1
        have LQ := hid lus
        obtain ⟨Tn, HTn⟩ : ∃ T, Hid (Nm.tsize os = T) := ⟨_, rfl⟩
        obtain ⟨Tq, HTq⟩ : ∃ T, Hid (Nm.tsize us = T) := ⟨_, rfl⟩
        have hTn4 : (Tn : Int) ≤ 4096 := by have := HR.out.tsT hbn.out; have := HTn.out; omega
        have hTq4 : (Tq : Int) ≤ 4096 := by have := HTq.out; omega
        have hTn1 : (1 : Int) ≤ (Tn : Int) := by
          have h1 := HR.out.tpos (show 1 ≤ b ^ n by have : 0 < b ^ n := Int.pow_pos (by omega); omega)
          have := HTn.out
          omega
        have hTq1 : (1 : Int) ≤ (Tq : Int) := by
          have h1 := hq.pos (show 1 ≤ b ^ (2 ^ s) by have : 0 < b ^ (2 ^ s) := Int.pow_pos (by omega); omega)
          have := HTq.out
          simp only at h1
          omega
        have LM : Hid ((N : Int) ≤ (Tn : Int) + (Tq : Int) - 2 → A < b ^ n * b ^ (2 ^ s)) := by
          intro h
          have h3 := long_mul (k := N) HR.out.2.1 hq.2.1 (by have := HTn.out; omega) (by have := HTq.out; simp only; omega) (by have := HTq.out; have := HTn.out; simp only; omega)
          rw [HR.out.2.2.2.1, hq.2.2.2.1] at h3
          exact Int.lt_of_lt_of_le hAN.out h3
        obtain ⟨PP, HP⟩ : ∃ P : Int, Hid (2 ^ s = P) := ⟨_, rfl⟩
        have hPN : Hid (((2 ^ s : Nat) : Int) = PP) := by show _ = _; rw [← HP.out]; simp
        have hP1 : 1 ≤ PP := by have := Nm.two_pos s; rw [HP.out] at this; omega
        have hP2 : PP ≤ 131072 := by
          have h2 := Nm.two_mono (show s ≤ 17 by omega)
          rw [show (2 : Int) ^ 17 = 131072 by decide, HP.out] at h2
          exact h2
        have q1 : IntKind.i64.wrap (2 ^ s) = PP := by
          rw [HP.out, IntKind.wrap_i64]
          omega
        rw [show ((s + 1 : Nat) : Int) - 1 = (s : Int) by omega]
        clear hq hqA lus
        have T1 : Hid (∀ x, Calls Tryd.prog 16 #[.slice r (List.length os) (List.length os)] (wr.drewN x) fun e w' => e = .returned (.int .i64 (Tn : Int)) ∧ w' = wr.drewN x) := fun x => top_isT Tn r _ _ os _ (AR.out.drew x) HTn.out
        have T2 : Hid (∀ x, Calls Tryd.prog 16 #[.slice q (List.length us) (List.length us)] (wr.drewN x) fun e w' => e = .returned (.int .i64 (Tq : Int)) ∧ w' = wr.drewN x) := fun x => top_isT Tq q _ _ us _ (AQ.out.drew x) HTq.out
        have T3 : Hid (∀ x, Calls Tryd.prog 16 #[.slice p m cap] (wr.drewN x) fun e w' => e = .returned (.int .i64 (N : Int)) ∧ w' = wr.drewN x) := fun x => top_isT N p m cap za _ (AA.out.drew x) HN.out
        by_cases hbr : (N : Int) ≤ (Tn : Int) + (Tq : Int) - 2
        · have HW2 := hid (HW.out.skip (LM.out hbr))
          clear HW LM
          go_wp2_with fail
          go_quiet ((go_at_call 16; first | with_reducible exact Calls.quiet_of_same (T1.out _) | with_reducible exact Calls.quiet_of_same (T2.out _) | with_reducible exact Calls.quiet_of_same (T3.out _)))
          have DB : Hid (Below wr.heap.size wr (wr.drewN nq)) := below_drewN (Below.refl _ _) nq
          generalize wr.drewN nq = wq at *
          have RI5 := hid (RI.out.below DB.out)
          have HR5 := hid (HR.out.below DB.out (Nat.le_refl _))
          have D5 := hid (chain D.out DB.out (Nat.le_refl _))
          clear RI HR D DB hcell
          go_wp2_with fail
          go_roundg s
          case measure => omega
          case rel => exact ⟨n, r, os, rfl, rfl, by go_num, by omega, RI5.out, HR5.out, HW2.out, D5.out⟩
        · have hbr' : (Tn : Int) + (Tq : Int) - 2 < (N : Int) := by omega
          clear LM hbr
          go_wp2_with fail
          go_quiet ((go_at_call 16; first | with_reducible exact Calls.quiet_of_same (T1.out _) | with_reducible exact Calls.quiet_of_same (T2.out _) | with_reducible exact Calls.quiet_of_same (T3.out _)))
          have DB : Hid (Below wr.heap.size wr (wr.drewN nq)) := below_drewN (Below.refl _ _) nq
          have hcell2 : (wr.drewN nq).cell? ⟨gm, s, none⟩ = some (.slice q (List.length us) (List.length us)) := hcell
          have AR2 := hid (AR.out.drew nq)
          have AQ2 := hid (AQ.out.drew nq)
          clear hcell AR AQ AA
          generalize wr.drewN nq = wq at *
          have RI3 := hid (RI.out.below DB.out)
          have HR3 := hid (HR.out.below DB.out (Nat.le_refl _))
          have D3 := hid (chain D.out DB.out (Nat.le_refl _))
          have TM := hid (refTimes_any r q _ _ _ _ os us wq AR2.out AQ2.out (by have := HTn.out; omega) (by have := HTq.out; omega))
          clear RI HR D DB
          go_wp2_with fail
          refine TM.out.mono ?_
          rintro e w4 ⟨r4, us4, rfl, A4, d4⟩
          rw [show Nm.val us = b ^ (2 ^ s) from lq.out, show Nm.val os = b ^ n from HR3.out.2.2.2.1] at A4
          have HX : Hid (Ans w'.heap.size w4 r4 us4 (b ^ n * b ^ (2 ^ s))) := ⟨A4.1, A4.2.1, A4.2.2.1, A4.2.2.2.1, fun a ha => ⟨Nat.le_trans D3.out.size (A4.2.2.2.2 a ha).1, (A4.2.2.2.2 a ha).2⟩⟩
          have RI4 := hid (RI3.out.below d4)
          have HR4 := hid (HR3.out.below d4 (Nat.le_refl _))
          have D4 := hid (chain D3.out d4 (Nat.le_refl _))
          have HA4 := hid (HA.out.below D4.out (Nat.le_refl _))
          obtain ⟨c, hc0⟩ : ∃ c, cmpI (b ^ n * b ^ (2 ^ s)) A = c := ⟨_, rfl⟩
          have HC := hid hc0
          clear hc0
          have LX : Hid (us4.length ≤ 8192) := by
            show _ ≤ _
            have h1 := (Nm.tsize_le_iff A4.2.1 8192).2 (by
              rw [A4.2.2.2.1, show (8192 : Nat) = 4096 + 4096 from rfl, Nm.pw_add]
              have z1 : 0 < b ^ n := Int.pow_pos (by omega)
              have z2 : b ^ (2 ^ s) < Nm.pw 4096 := by rw [← lq.out]; exact (Nm.tsize_le_iff hlq.out 4096).1 LQ.out
              have z3 : b ^ n * b ^ (2 ^ s) ≤ b ^ n * Nm.pw 4096 := Int.mul_le_mul_of_nonneg_left (Int.le_of_lt z2) (Int.le_of_lt z1)
              have z4 : b ^ n * Nm.pw 4096 < Nm.pw 4096 * Nm.pw 4096 := Int.mul_lt_mul_of_pos_right hbn.out (Nm.pw_pos 4096)
              exact Int.lt_of_le_of_lt z3 z4)
            have h2 := A4.2.2.1
            omega
          have CM := hid (order_is c r4 p _ _ m cap us4 za w4 (A4.arg (by have := LX.out; omega)) HA4.out (by rw [show Nm.val us4 = b ^ n * b ^ (2 ^ s) from A4.2.2.2.1, HV.out]; exact HC.out))
          clear A4 d4 TM RI3 HR3 D3 HA4 hcell2 AR2 AQ2
          by_cases hgt : A < b ^ n * b ^ (2 ^ s)
          · have hc : c = 1 := by rw [← HC.out]; exact cmpI_gt hgt
            have HW2 := hid (HW.out.skip hgt)
            subst hc
            clear hgt HW
            go_wp2_with fail
            refine CM.out.mono ?_
            rintro e w5 ⟨rfl, d5⟩
            have RI5 := hid (RI4.out.below d5)
            have HR5 := hid (HR4.out.below d5 (Nat.le_refl _))
            have D5 := hid (chain D4.out d5 (Nat.le_refl _))
            clear d5 CM RI4 HR4 D4
            go_wp2_with fail
            go_roundg s
            case measure => omega
            case rel => exact ⟨n, r, os, rfl, rfl, by go_num, by omega, RI5.out, HR5.out, HW2.out, D5.out⟩
          · have hcle : c ≤ 0 := by
              rw [← HC.out]
              rcases (show b ^ n * b ^ (2 ^ s) = A ∨ b ^ n * b ^ (2 ^ s) < A by omega) with h | h
              · rw [cmpI_eq h]; omega
              · rw [cmpI_lt h]; omega
            have HW2 := hid (HW.out.take (Int.not_lt.1 hgt))
            have hPP : Hid (((n + 2 ^ s : Nat) : Int) = (n : Int) + PP) := by show _ = _; rw [Int.natCast_add, hPN.out]
            clear hgt HW
            go_wp2_with fail
            refine CM.out.mono ?_
            rintro e w5 ⟨rfl, d5⟩
            have RI5 := hid (RI4.out.below d5)
            have HX5 := hid (HX.out.below d5 (Nat.le_refl _))
            have D5 := hid (chain D4.out d5 (Nat.le_refl _))
            clear d5 CM RI4 HR4 D4
            go_wp2_with fail
            go_roundg s
            case measure => omega
            case rel => exact ⟨n + 2 ^ s, r4, us4, by rw [hPP.out], rfl, by go_num, by omega, RI5.out, by rw [Int.pow_add]; exact HX5.out, HW2.out, D5.out⟩
end Go.Proofs.YtmihjiiagpkciaaDoor

namespace Go.Proofs.YtmihjiiagpkciaaDoor
open Go.RowKit Go.Deep

/-- What is told of a logarithm: the number and the error. -/
inductive LogIs (zs : List Int) (b : Int) : Int → Int → Prop
  | big : 4096 < Nm.tsize zs → LogIs zs b 0 2
  | zero : Nm.tsize zs = 0 → LogIs zs b 0 4
  | arg : Nm.tsize zs ≤ 4096 → 0 < Nm.tsize zs → b < 2 → LogIs zs b 0 1
  | ok (n : Nat) : Nm.tsize zs ≤ 4096 → 0 < Nm.tsize zs → 2 ≤ b → Ln.IsLog (Nm.val zs) b n → LogIs zs b (n : Int) 0

theorem LogIs.one {zs : List Int} {b n e n' e' : Int} (h : LogIs zs b n e) (k : LogIs zs b n' e') : n = n' ∧ e = e' := by
  cases h <;> cases k <;> first | exact ⟨rfl, rfl⟩ | omega | skip
  rename_i m h1 h2 h3 h4 m' k1 k2 k3 k4
  exact ⟨by rw [Ln.unique h3 h4 k4], rfl⟩

/-- Both fit the results' type. -/
theorem LogIs.small {zs : List Int} {b n e : Int} (hl : Nm.Limbs zs) (h : LogIs zs b n e) : 0 ≤ n ∧ n ≤ 262143 := by
  cases h with
  | big _ => omega
  | zero _ => omega
  | arg _ _ _ => omega
  | ok m h1 h2 h3 h4 =>
    have := exp_small h3 h4.1 ((Nm.tsize_le_iff hl 4096).1 h1)
    omega

def LogSays (zs : List Int) (b : Int) (w : World) (e : Ending) (w' : World) : Prop := ∃ n E, e = .returned (.tuple #[.int .i64 n, .int .i64 E]) ∧ LogIs zs b n E ∧ Below w.heap.size w w'

theorem log_says (p : Option Addr) (m cap : Nat) (zs : List Int) (b : Int) (w : World) (ha : Arg w p m cap zs) (hb1 : b < 18446744073709551616) :
    Calls Tryd.prog 21 #[.slice p m cap, .int .u64 b] w fun e w' => LogSays zs b w e w' := by
  by_cases h1 : 4096 < Nm.tsize zs
  · refine (log_big p m cap zs b w ha h1).mono ?_
    rintro e w' ⟨rfl, rfl⟩
    exact ⟨_, _, rfl, .big h1, Below.refl _ _⟩
  by_cases h2 : Nm.tsize zs = 0
  · refine (log_zero p m cap zs b w ha h2).mono ?_
    rintro e w' ⟨rfl, rfl⟩
    exact ⟨_, _, rfl, .zero h2, Below.refl _ _⟩
  by_cases h3 : b < 2
  · refine (log_arg p m cap zs b w ha (by omega) (by omega) h3).mono ?_
    rintro e w' ⟨rfl, rfl⟩
    exact ⟨_, _, rfl, .arg (by omega) (by omega) h3, Below.refl _ _⟩
  · refine (log_ok p m cap zs _ b w ha rfl (by omega) (by omega) (by omega) hb1).mono ?_
    rintro e w' ⟨n, rfl, k, d⟩
    exact ⟨_, _, rfl, .ok n (by omega) (by omega) (by omega) k, d⟩

end Go.Proofs.YtmihjiiagpkciaaDoor

namespace Go.Proofs.YtmihjiiagpkciaaDoor
open Go.RowKit Go.Deep

theorem rlog_says (p : Option Addr) (m cap : Nat) (zs : List Int) (b : Int) (w : World) (ha : Arg w p m cap zs) (hb1 : b < 18446744073709551616) :
    Calls Tryd.prog 28 #[.slice p m cap, .int .u64 b] w fun e w' => LogSays zs b w e w' := by
  by_cases h1 : 4096 < Nm.tsize zs
  · refine (rlog_big p m cap zs b w ha h1).mono ?_
    rintro e w' ⟨rfl, rfl⟩
    exact ⟨_, _, rfl, .big h1, Below.refl _ _⟩
  by_cases h2 : Nm.tsize zs = 0
  · refine (rlog_zero p m cap zs b w ha h2).mono ?_
    rintro e w' ⟨rfl, rfl⟩
    exact ⟨_, _, rfl, .zero h2, Below.refl _ _⟩
  by_cases h3 : b < 2
  · refine (rlog_arg p m cap zs b w ha (by omega) (by omega) h3).mono ?_
    rintro e w' ⟨rfl, rfl⟩
    exact ⟨_, _, rfl, .arg (by omega) (by omega) h3, Below.refl _ _⟩
  · refine (rlog_ok p m cap zs _ b w ha rfl (by omega) (by omega) (by omega) hb1).mono ?_
    rintro e w' ⟨n, rfl, k, d⟩
    exact ⟨_, _, rfl, .ok n (by omega) (by omega) (by omega) k, d⟩
end Go.Proofs.YtmihjiiagpkciaaDoor

/-
  quot: Pow10.
-/
namespace Go.Proofs.YtmihjiiagpkciaaDoor
open Go.RowKit Go.Deep

theorem pow10_gives (k : Int) (n : Nat) (w : World) (hk : k = (n : Int)) (hk1 : k ≤ 9223372036854775807) :
    Calls Tryd.prog 20 #[.int .i64 k] w fun e w' => Gives (10 ^ n) w e w' := by
  have hb : Below w.heap.size w (w.alloc (.cells #[.int .u64 10] 26)) := (Below.refl _ _).alloc (Nat.le_refl _) _
  have A : Arg (w.alloc (.cells #[.int .u64 10] 26)) (some ⟨w.heap.size, 0, none⟩) 1 1 [10] := ⟨rfl, Nat.le_refl _, by omega, (Own.alloc w [10]).lies, limb_one (by omega)⟩
  have P := hid (pow_gives _ 1 1 [10] 10 k n _ A (by simp [Nm.tsize]) (by simp [Nm.val]) hk hk1)
  have HB := hid hb
  clear hb A hk
  go_enter Tryd.func20, Tryd.ntmps20
  go_wp2_with fail
  refine P.out.mono ?_
  rintro e w1 ⟨h | h, hb1⟩
  · obtain ⟨h1, r, os, rfl, A1⟩ := h
    have G : Hid (Gives (10 ^ n) w (.returned (.tuple #[.slice r (List.length os) (List.length os), .int .i64 0])) w1) := ⟨.inl ⟨h1, r, os, rfl, A1.upT HB.out.size⟩, chain HB.out hb1 (Nat.le_refl _)⟩
    clear h1 A1 hb1
    go_wp2_with fail
    go_ret2
    exact G.out
  · obtain ⟨h1, rfl⟩ := h
    have G : Hid (Gives (10 ^ n) w (.returned (.tuple #[.slice none 0 0, .int .i64 2])) w1) := ⟨.inr ⟨h1, rfl⟩, chain HB.out hb1 (Nat.le_refl _)⟩
    clear h1 hb1
    go_wp2_with fail
    go_ret2
    exact G.out
end Go.Proofs.YtmihjiiagpkciaaDoor

namespace Go.Proofs.YtmihjiiagpkciaaDoor
open Go.RowKit Go.Deep

theorem pval_one (x : Int) : Nm.val [x] = x := by simp [Nm.val]


theorem rsame_is (s : Bool) (p q : Option Addr) (n cap m cap' : Nat) (zs ys : List Int) (w : World) (ha : Arg w p n cap zs) (hb : Arg w q m cap' ys) (hs : decide (Nm.val zs = Nm.val ys) = s) :
    Calls Tryd.prog 48 #[.slice p n cap, .slice q m cap'] w fun e w' => e = .returned (.bool s) ∧ Below w.heap.size w w' := by
  obtain ⟨c, hc⟩ : ∃ c, cmpI (Nm.val zs) (Nm.val ys) = c := ⟨_, rfl⟩
  have E : Hid ((c == 0) = s) := by
    rw [Hid, ← hs, ← hc, cmpI]
    by_cases h1 : Nm.val zs < Nm.val ys
    · rw [if_pos h1]; simp; omega
    · rw [if_neg h1]
      by_cases h2 : Nm.val zs = Nm.val ys
      · rw [if_pos h2]; simp [h2]
      · rw [if_neg h2]; simp [h2]
  have O := hid (order_is c p q n cap m cap' zs ys w ha hb hc)
  clear hc hs ha hb
  go_enter Tryd.func48, Tryd.ntmps48
  go_wp2_with fail
  refine O.out.mono ?_
  rintro e w1 ⟨rfl, d1⟩
  have D1 := hid d1
  clear d1 O
  go_wp2_with fail
  go_ret
  exact ⟨ret_bool E.out, D1.out⟩

theorem rpow_big (p : Option Addr) (m cap : Nat) (zs : List Int) (k : Int) (w : World) (ha : Arg w p m cap zs) (tz : 4096 < Nm.tsize zs) :
    Calls Tryd.prog 24 #[.slice p m cap, .int .i64 k] w fun e w' => e = .returned (.tuple #[.slice none 0 0, .int .i64 2]) ∧ w' = w := by
  have a2 := ha.2.1
  have a3 := ha.2.2.1
  have h1' : (4096 : Int) < (Nm.tsize zs : Int) := by omega
  have L1 := hid (top_any p m cap zs w ha.1 (by omega) ha.2.2.2.1)
  clear ha tz
  go_enter Tryd.func24, Tryd.ntmps24
  go_wp2_with fail
  refine L1.out.mono ?_
  rintro e w' ⟨rfl, rfl⟩
  go_wp2_with fail
  go_ret2
  exact ⟨rfl, rfl⟩

theorem rpow_neg (p : Option Addr) (m cap : Nat) (zs : List Int) (k : Int) (w : World) (ha : Arg w p m cap zs) (tz : Nm.tsize zs ≤ 4096) (hk : k < 0) :
    Calls Tryd.prog 24 #[.slice p m cap, .int .i64 k] w fun e w' => e = .returned (.tuple #[.slice none 0 0, .int .i64 1]) ∧ w' = w := by
  have a2 := ha.2.1
  have a3 := ha.2.2.1
  have h1' : (Nm.tsize zs : Int) ≤ 4096 := by omega
  have L1 := hid (top_any p m cap zs w ha.1 (by omega) ha.2.2.2.1)
  clear ha tz
  go_enter Tryd.func24, Tryd.ntmps24
  go_wp2_with fail
  refine L1.out.mono ?_
  rintro e w' ⟨rfl, rfl⟩
  go_wp2_with fail
  go_ret2
  exact ⟨rfl, rfl⟩

set_option maxRecDepth 100000 in
set_option maxHeartbeats 2000000 in
theorem rpow_gives (p : Option Addr) (m cap : Nat) (zs : List Int) (A k : Int) (n : Nat) (w : World) (ha : Arg w p m cap zs) (tz : Nm.tsize zs ≤ 4096) (hA : Nm.val zs = A) (hk : k = (n : Int)) (hk1 : k < 9223372036854775808) :
    Calls Tryd.prog 24 #[.slice p m cap, .int .i64 k] w fun e w' => Gives (A ^ n) w e w' := by
  have a2 := ha.2.1
  have a3 := ha.2.2.1
  obtain ⟨N, HN⟩ : ∃ N, Hid (Nm.tsize zs = N) := ⟨_, rfl⟩
  have hN : decide (4096 < (N : Int)) = false := by have := HN.out; simp; omega
  have T := top_any p m cap zs w ha.1 (by omega) ha.2.2.2.1
  rw [HN.out] at T
  have L1 := hid T
  have hb : Below w.heap.size w (w.alloc (.cells #[.int .u64 1] 26)) := (Below.refl _ _).alloc (Nat.le_refl _) _
  have A1 : Arg (w.alloc (.cells #[.int .u64 1] 26)) (some ⟨w.heap.size, 0, none⟩) 1 1 [1] := ⟨rfl, Nat.le_refl _, by omega, (Own.alloc w [1]).lies, limb_one (by omega)⟩
  have N1 : Ans w.heap.size (w.alloc (.cells #[.int .u64 1] 26)) (some ⟨w.heap.size, 0, none⟩) [1] 1 := ⟨(Own.alloc w [1]).lies, limb_one (by omega), by simp [Nm.tsize], by simp [Nm.val], fun a h => by cases h; exact ⟨Nat.le_refl _, fun _ o => (Own.alloc w [1]).free o⟩⟩
  have HA1 := hid A1
  have HN1 := hid N1
  have HB := hid hb
  have HA := hid (ha.below hb (Nat.le_refl _))
  have A0 := (Nm.val_bd zs ha.2.2.2.2).1
  have hzz := Nm.tsize_zero_iff ha.2.2.2.2
  rw [hA] at A0 hzz
  have HV := hid hA
  have HT := hid tz
  subst hk
  clear T hb A1 N1 ha tz hA
  by_cases h0 : n = 0
  · subst h0
    have F : Hid (Gives (A ^ 0) w (.returned (.tuple #[.slice (some ⟨w.heap.size, 0, none⟩) 1 1, .int .i64 0])) (w.alloc (.cells #[.int .u64 1] 26))) := by
      rw [Int.pow_zero]
      exact ⟨.inl ⟨one_lt_pw, _, [1], rfl, HN1.out⟩, HB.out⟩
    clear hzz
    go_enter Tryd.func24, Tryd.ntmps24
    go_wp2_with fail
    refine L1.out.mono ?_
    rintro e w' ⟨rfl, rfl⟩
    go_wp2_with fail
    go_ret2
    exact F.out
  have hn0 : ((n : Int) == 0) = false := by rw [beq_eq_false_iff_ne]; omega
  have HK1 := hid hk1
  have hnn : decide ((n : Int) < 0) = false := by simp
  clear hk1
  by_cases h1 : A = 1
  · have SA := hid (rsame_is true p _ m cap 1 1 zs [1] _ HA.out HA1.out (by rw [HV.out, pval_one, h1]; simp))
    have E : Hid (A ^ n = 1) := by rw [Hid, h1, Int.one_pow]
    clear h1 hzz h0
    go_enter Tryd.func24, Tryd.ntmps24
    go_wp2_with fail
    refine L1.out.mono ?_
    rintro e w' ⟨rfl, rfl⟩
    go_wp2_with fail
    refine SA.out.mono ?_
    rintro e w2 ⟨rfl, d2⟩
    have F : Hid (Gives (A ^ n) w' (.returned (.tuple #[.slice (some ⟨w'.heap.size, 0, none⟩) 1 1, .int .i64 0])) w2) := by
      rw [E.out]
      exact ⟨.inl ⟨one_lt_pw, _, [1], rfl, HN1.out.below d2 (Nat.le_refl _)⟩, chain HB.out d2 (Nat.le_refl _)⟩
    clear d2
    go_wp2_with fail
    go_ret2
    exact F.out
  have SA := hid (rsame_is false p _ m cap 1 1 zs [1] _ HA.out HA1.out (by rw [HV.out, pval_one]; simp [h1]))
  by_cases h2 : N = 0
  · have hA0 : A = 0 := hzz.1 (by rw [HN.out]; exact h2)
    have E : Hid (A ^ n = 0) := by
      obtain ⟨n', rfl⟩ : ∃ n', n = n' + 1 := ⟨n - 1, by omega⟩
      rw [Hid, hA0, Int.pow_succ, Int.mul_zero]
    subst h2
    clear h1 hzz hA0 h0
    go_enter Tryd.func24, Tryd.ntmps24
    go_wp2_with fail
    refine L1.out.mono ?_
    rintro e w' ⟨rfl, rfl⟩
    go_wp2_with fail
    refine SA.out.mono ?_
    rintro e w2 ⟨rfl, d2⟩
    have T2 := top_any p m cap zs w2 HA.out.1 (by omega) (HA.out.below d2 (Nat.le_refl _)).2.2.2.1
    rw [HN.out] at T2
    have HT2 := hid T2
    have F : Hid (Gives (A ^ n) w' (.returned (.tuple #[.slice none 0 0, .int .i64 0])) w2) := by
      rw [E.out]
      exact ⟨.inl ⟨by have := one_lt_pw; exact Int.lt_trans (by omega) this, none, [], rfl, ans_none _ _ _ (fun a h => by cases h)⟩, chain HB.out d2 (Nat.le_refl _)⟩
    clear d2 T2
    go_wp2_with fail
    refine HT2.out.mono ?_
    rintro e w3 ⟨rfl, rfl⟩
    go_wp2_with fail
    go_ret2
    exact F.out
  · have hN0 : ((N : Int) == 0) = false := by rw [beq_eq_false_iff_ne]; omega
    have HA1' : Hid (1 ≤ A) := by
      show _ ≤ _
      rcases (show A = 0 ∨ 1 ≤ A by omega) with h | h
      · exact absurd (HN.out.symm.trans (hzz.2 h)) h2
      · exact h
    clear h1 hzz h0 h2
    go_enter Tryd.func24, Tryd.ntmps24
    go_wp2_with fail
    refine L1.out.mono ?_
    rintro e w' ⟨rfl, rfl⟩
    go_wp2_with fail
    refine SA.out.mono ?_
    rintro e w2 ⟨rfl, d2⟩
    have HA2 := hid (HA.out.below d2 (Nat.le_refl _))
    have D2 := hid (chain HB.out d2 (Nat.le_refl _))
    have T2 := top_any p m cap zs w2 HA2.out.1 (by omega) HA2.out.2.2.2.1
    rw [HN.out] at T2
    have HT2 := hid T2
    have PW := hid (rpower_any p m cap zs A HV.out HA1'.out HT.out n w2 HA2.out (by have := HK1.out; omega))
    clear d2 T2
    go_wp2_with fail
    refine HT2.out.mono ?_
    rintro e w3 ⟨rfl, rfl⟩
    go_wp2_with fail
    refine PW.out.mono ?_
    rintro e w4 ⟨h | h, d4⟩
    · obtain ⟨h1, r, os, rfl, A4⟩ := h
      have F : Hid (Gives (A ^ n) w' (.returned (.tuple #[.slice r (List.length os) (List.length os), .int .i64 0])) w4) := ⟨.inl ⟨h1, r, os, rfl, A4.upT D2.out.size⟩, chain D2.out d4 (Nat.le_refl _)⟩
      clear h1 A4 d4
      go_wp2_with fail
      go_ret2
      exact F.out
    · obtain ⟨h1, rfl⟩ := h
      have F : Hid (Gives (A ^ n) w' (.returned (.tuple #[.slice none 0 0, .int .i64 2])) w4) := ⟨.inr ⟨h1, rfl⟩, chain D2.out d4 (Nat.le_refl _)⟩
      clear h1 d4
      go_wp2_with fail
      go_ret2
      exact F.out
end Go.Proofs.YtmihjiiagpkciaaDoor

namespace Go.Proofs.YtmihjiiagpkciaaDoor
open Go.RowKit Go.Deep

theorem rpow5_gives (k : Int) (n : Nat) (w : World) (hk : k = (n : Int)) (hk1 : k < 9223372036854775808) :
    Calls Tryd.prog 25 #[.int .i64 k] w fun e w' => Gives (5 ^ n) w e w' := by
  have hb : Below w.heap.size w (w.alloc (.cells #[.int .u64 5] 26)) := (Below.refl _ _).alloc (Nat.le_refl _) _
  have A : Arg (w.alloc (.cells #[.int .u64 5] 26)) (some ⟨w.heap.size, 0, none⟩) 1 1 [5] := ⟨rfl, Nat.le_refl _, by omega, (Own.alloc w [5]).lies, limb_one (by omega)⟩
  have P := hid (rpow_gives _ 1 1 [5] 5 k n _ A (by simp [Nm.tsize]) (by simp [Nm.val]) hk hk1)
  have HB := hid hb
  clear hb A hk hk1
  go_enter Tryd.func25, Tryd.ntmps25
  go_wp2_with fail
  refine P.out.mono ?_
  rintro e w1 ⟨h | h, hb1⟩
  · obtain ⟨h1, r, os, rfl, A1⟩ := h
    have G : Hid (Gives (5 ^ n) w (.returned (.tuple #[.slice r (List.length os) (List.length os), .int .i64 0])) w1) := ⟨.inl ⟨h1, r, os, rfl, A1.upT HB.out.size⟩, chain HB.out hb1 (Nat.le_refl _)⟩
    clear h1 A1 hb1
    go_wp2_with fail
    go_ret2
    exact G.out
  · obtain ⟨h1, rfl⟩ := h
    have G : Hid (Gives (5 ^ n) w (.returned (.tuple #[.slice none 0 0, .int .i64 2])) w1) := ⟨.inr ⟨h1, rfl⟩, chain HB.out hb1 (Nat.le_refl _)⟩
    clear h1 hb1
    go_wp2_with fail
    go_ret2
    exact G.out

end Go.Proofs.YtmihjiiagpkciaaDoor

namespace Go.Proofs.YtmihjiiagpkciaaDoor
open Go.RowKit Go.Deep

theorem rpow10_gives (k : Int) (n : Nat) (w : World) (hk : k = (n : Int)) (hk1 : k < 9223372036854775808) :
    Calls Tryd.prog 26 #[.int .i64 k] w fun e w' => Gives (10 ^ n) w e w' := by
  have hb : Below w.heap.size w (w.alloc (.cells #[.int .u64 10] 26)) := (Below.refl _ _).alloc (Nat.le_refl _) _
  have A : Arg (w.alloc (.cells #[.int .u64 10] 26)) (some ⟨w.heap.size, 0, none⟩) 1 1 [10] := ⟨rfl, Nat.le_refl _, by omega, (Own.alloc w [10]).lies, limb_one (by omega)⟩
  have P := hid (rpow_gives _ 1 1 [10] 10 k n _ A (by simp [Nm.tsize]) (by simp [Nm.val]) hk hk1)
  have HB := hid hb
  clear hb A hk hk1
  go_enter Tryd.func26, Tryd.ntmps26
  go_wp2_with fail
  refine P.out.mono ?_
  rintro e w1 ⟨h | h, hb1⟩
  · obtain ⟨h1, r, os, rfl, A1⟩ := h
    have G : Hid (Gives (10 ^ n) w (.returned (.tuple #[.slice r (List.length os) (List.length os), .int .i64 0])) w1) := ⟨.inl ⟨h1, r, os, rfl, A1.upT HB.out.size⟩, chain HB.out hb1 (Nat.le_refl _)⟩
    clear h1 A1 hb1
    go_wp2_with fail
    go_ret2
    exact G.out
  · obtain ⟨h1, rfl⟩ := h
    have G : Hid (Gives (10 ^ n) w (.returned (.tuple #[.slice none 0 0, .int .i64 2])) w1) := ⟨.inr ⟨h1, rfl⟩, chain HB.out hb1 (Nat.le_refl _)⟩
    clear h1 hb1
    go_wp2_with fail
    go_ret2
    exact G.out

theorem five_neg (k : Int) (w : World) (hk : k < 0) : Calls Tryd.prog 19 #[.int .i64 k] w fun e w' => e = .returned (.tuple #[.slice none 0 0, .int .i64 1]) ∧ Below w.heap.size w w' := by
  have hb : Below w.heap.size w (w.alloc (.cells #[.int .u64 5] 26)) := (Below.refl _ _).alloc (Nat.le_refl _) _
  have A : Arg (w.alloc (.cells #[.int .u64 5] 26)) (some ⟨w.heap.size, 0, none⟩) 1 1 [5] := ⟨rfl, Nat.le_refl _, by omega, (Own.alloc w [5]).lies, limb_one (by omega)⟩
  have P := hid (pow_neg _ 1 1 [5] k _ A (by simp [Nm.tsize]) hk)
  have HB := hid hb
  clear hb A
  go_enter Tryd.func19, Tryd.ntmps19
  go_wp2_with fail
  refine P.out.mono ?_
  rintro e w1 ⟨rfl, rfl⟩
  go_wp2_with fail
  go_ret2
  exact ⟨rfl, HB.out⟩

theorem ten_neg (k : Int) (w : World) (hk : k < 0) : Calls Tryd.prog 20 #[.int .i64 k] w fun e w' => e = .returned (.tuple #[.slice none 0 0, .int .i64 1]) ∧ Below w.heap.size w w' := by
  have hb : Below w.heap.size w (w.alloc (.cells #[.int .u64 10] 26)) := (Below.refl _ _).alloc (Nat.le_refl _) _
  have A : Arg (w.alloc (.cells #[.int .u64 10] 26)) (some ⟨w.heap.size, 0, none⟩) 1 1 [10] := ⟨rfl, Nat.le_refl _, by omega, (Own.alloc w [10]).lies, limb_one (by omega)⟩
  have P := hid (pow_neg _ 1 1 [10] k _ A (by simp [Nm.tsize]) hk)
  have HB := hid hb
  clear hb A
  go_enter Tryd.func20, Tryd.ntmps20
  go_wp2_with fail
  refine P.out.mono ?_
  rintro e w1 ⟨rfl, rfl⟩
  go_wp2_with fail
  go_ret2
  exact ⟨rfl, HB.out⟩

theorem rfive_neg (k : Int) (w : World) (hk : k < 0) : Calls Tryd.prog 25 #[.int .i64 k] w fun e w' => e = .returned (.tuple #[.slice none 0 0, .int .i64 1]) ∧ Below w.heap.size w w' := by
  have hb : Below w.heap.size w (w.alloc (.cells #[.int .u64 5] 26)) := (Below.refl _ _).alloc (Nat.le_refl _) _
  have A : Arg (w.alloc (.cells #[.int .u64 5] 26)) (some ⟨w.heap.size, 0, none⟩) 1 1 [5] := ⟨rfl, Nat.le_refl _, by omega, (Own.alloc w [5]).lies, limb_one (by omega)⟩
  have P := hid (rpow_neg _ 1 1 [5] k _ A (by simp [Nm.tsize]) hk)
  have HB := hid hb
  clear hb A
  go_enter Tryd.func25, Tryd.ntmps25
  go_wp2_with fail
  refine P.out.mono ?_
  rintro e w1 ⟨rfl, rfl⟩
  go_wp2_with fail
  go_ret2
  exact ⟨rfl, HB.out⟩

theorem rten_neg (k : Int) (w : World) (hk : k < 0) : Calls Tryd.prog 26 #[.int .i64 k] w fun e w' => e = .returned (.tuple #[.slice none 0 0, .int .i64 1]) ∧ Below w.heap.size w w' := by
  have hb : Below w.heap.size w (w.alloc (.cells #[.int .u64 10] 26)) := (Below.refl _ _).alloc (Nat.le_refl _) _
  have A : Arg (w.alloc (.cells #[.int .u64 10] 26)) (some ⟨w.heap.size, 0, none⟩) 1 1 [10] := ⟨rfl, Nat.le_refl _, by omega, (Own.alloc w [10]).lies, limb_one (by omega)⟩
  have P := hid (rpow_neg _ 1 1 [10] k _ A (by simp [Nm.tsize]) hk)
  have HB := hid hb
  clear hb A
  go_enter Tryd.func26, Tryd.ntmps26
  go_wp2_with fail
  refine P.out.mono ?_
  rintro e w1 ⟨rfl, rfl⟩
  go_wp2_with fail
  go_ret2
  exact ⟨rfl, HB.out⟩
end Go.Proofs.YtmihjiiagpkciaaDoor

namespace Go.Proofs.YtmihjiiagpkciaaDoor
open Go.RowKit Go.Deep

theorem pow5_gives (k : Int) (n : Nat) (w : World) (hk : k = (n : Int)) (hk1 : k ≤ 9223372036854775807) :
    Calls Tryd.prog 19 #[.int .i64 k] w fun e w' => Gives (5 ^ n) w e w' := by
  have hb : Below w.heap.size w (w.alloc (.cells #[.int .u64 5] 26)) := (Below.refl _ _).alloc (Nat.le_refl _) _
  have A : Arg (w.alloc (.cells #[.int .u64 5] 26)) (some ⟨w.heap.size, 0, none⟩) 1 1 [5] := ⟨rfl, Nat.le_refl _, by omega, (Own.alloc w [5]).lies, limb_one (by omega)⟩
  have P := hid (pow_gives _ 1 1 [5] 5 k n _ A (by simp [Nm.tsize]) (by simp [Nm.val]) hk hk1)
  have HB := hid hb
  clear hb A hk
  go_enter Tryd.func19, Tryd.ntmps19
  go_wp2_with fail
  refine P.out.mono ?_
  rintro e w1 ⟨h | h, hb1⟩
  · obtain ⟨h1, r, os, rfl, A1⟩ := h
    have G : Hid (Gives (5 ^ n) w (.returned (.tuple #[.slice r (List.length os) (List.length os), .int .i64 0])) w1) := ⟨.inl ⟨h1, r, os, rfl, A1.upT HB.out.size⟩, chain HB.out hb1 (Nat.le_refl _)⟩
    clear h1 A1 hb1
    go_wp2_with fail
    go_ret2
    exact G.out
  · obtain ⟨h1, rfl⟩ := h
    have G : Hid (Gives (5 ^ n) w (.returned (.tuple #[.slice none 0 0, .int .i64 2])) w1) := ⟨.inr ⟨h1, rfl⟩, chain HB.out hb1 (Nat.le_refl _)⟩
    clear h1 hb1
    go_wp2_with fail
    go_ret2
    exact G.out
end Go.Proofs.YtmihjiiagpkciaaDoor

namespace Go.Proofs.YtmihjiiagpkciaaDoor
open Go.RowKit Go.Deep

theorem alike_zero (w : World) : Calls Tryd.prog 9 #[.slice none 0 0, .slice none 0 0] w fun e w' => e = .returned (.bool true) ∧ Below w.heap.size w w' :=
  alike_is true none none 0 0 0 0 [] [] w ⟨rfl, Nat.le_refl _, by omega, Lies.nil _ _, Nm.Limbs.nil⟩ ⟨rfl, Nat.le_refl _, by omega, Lies.nil _ _, Nm.Limbs.nil⟩ rfl

/-- What one of the three calls answers: an error, with nothing; or a number. -/
def Says (E T : Int) (B : Nat) (r : Option Addr) (os : List Int) (w : World) : Prop := (E = 0 ∧ T < Nm.pw 4096 ∧ Ans B w r os T) ∨ (E ≠ 0 ∧ r = none ∧ os = [])

theorem Says.below {E T : Int} {B : Nat} {r : Option Addr} {os : List Int} {w w' : World} (h : Says E T B r os w) (hb : Below w.heap.size w w') : Says E T B r os w' := by
  rcases h with ⟨h1, h2, h3⟩ | h
  · exact .inl ⟨h1, h2, h3.below hb (Nat.le_refl _)⟩
  · exact .inr h

theorem says_alike {E T : Int} {B B' : Nat} {r s : Option Addr} {os us : List Int} {w : World} (h : Says E T B r os w) (k : Says E T B' s us w) :
    Calls Tryd.prog 9 #[.slice r (List.length os) (List.length os), .slice s (List.length us) (List.length us)] w fun e w' => e = .returned (.bool true) ∧ Below w.heap.size w w' := by
  rcases h with ⟨h1, h2, h3⟩ | ⟨h1, rfl, rfl⟩
  · rcases k with ⟨_, _, k3⟩ | ⟨k1, _, _⟩
    · exact alike_ans h3 k3 (by have := h3.small h2; omega)
    · exact absurd h1 k1
  · rcases k with ⟨k1, _, _⟩ | ⟨_, rfl, rfl⟩
    · exact absurd k1 h1
    · exact alike_zero w

/-- The error of a power: the size of what came in, its exponent, the size of the answer. -/
noncomputable def powE (big : Prop) (k T : Int) : Int := by
  classical
  exact if big then 2 else if k < 0 then 1 else if Nm.pw 4096 ≤ T then 2 else 0

theorem Gives.says {T k : Int} {n : Nat} {big : Prop} {w : World} {e : Ending} {w' : World} (hb : ¬ big) (hk : 0 ≤ k) (h : Gives T w e w') (_hn : k.toNat = n) :
    ∃ r os, e = .returned (.tuple #[.slice r (List.length os) (List.length os), .int .i64 (powE big k T)]) ∧ Hid (Says (powE big k T) T w.heap.size r os w') ∧ Below w.heap.size w w' := by
  obtain ⟨h | h, hbl⟩ := h
  · obtain ⟨h1, r, os, rfl, h2⟩ := h
    have e0 : powE big k T = 0 := by
      simp only [powE]
      rw [if_neg hb, if_neg (by omega), if_neg (Int.not_le.2 h1)]
    rw [e0]
    exact ⟨r, os, rfl, .inl ⟨rfl, h1, h2⟩, hbl⟩
  · obtain ⟨h1, rfl⟩ := h
    have e0 : powE big k T = 2 := by
      simp only [powE]
      rw [if_neg hb, if_neg (by omega), if_pos h1]
    rw [e0]
    exact ⟨none, [], rfl, .inr ⟨by omega, rfl, rfl⟩, hbl⟩

theorem says_big {big : Prop} {k T : Int} (hb : big) : powE big k T = 2 := by
  simp only [powE]
  rw [if_pos hb]

theorem says_neg {big : Prop} {k T : Int} (hb : ¬ big) (hk : k < 0) : powE big k T = 1 := by
  simp only [powE]
  rw [if_neg hb, if_pos hk]

/-- What Pow answers, whatever comes in. -/
def SaysAll (big : Prop) (k T : Int) (w : World) (e : Ending) (w' : World) : Prop :=
  ∃ r os, e = .returned (.tuple #[.slice r (List.length os) (List.length os), .int .i64 (powE big k T)]) ∧ Hid (Says (powE big k T) T w.heap.size r os w') ∧ Below w.heap.size w w'

theorem says_two {big : Prop} {k T : Int} {w w' : World} (hb : big) (hbl : Below w.heap.size w w') : SaysAll big k T w (.returned (.tuple #[.slice none 0 0, .int .i64 2])) w' := by
  refine ⟨none, [], by rw [says_big hb]; rfl, ?_, hbl⟩
  rw [says_big hb]
  exact .inr ⟨by omega, rfl, rfl⟩

theorem says_one {big : Prop} {k T : Int} {w w' : World} (hb : ¬ big) (hk : k < 0) (hbl : Below w.heap.size w w') : SaysAll big k T w (.returned (.tuple #[.slice none 0 0, .int .i64 1])) w' := by
  refine ⟨none, [], by rw [says_neg hb hk]; rfl, ?_, hbl⟩
  rw [says_neg hb hk]
  exact .inr ⟨by omega, rfl, rfl⟩

theorem pow_says (p : Option Addr) (m cap : Nat) (zs : List Int) (A k : Int) (w : World) (ha : Arg w p m cap zs) (hA : Nm.val zs = A) (hk : k ≤ 9223372036854775807) :
    Calls Tryd.prog 18 #[.slice p m cap, .int .i64 k] w fun e w' => SaysAll (4096 < Nm.tsize zs) k (A ^ k.toNat) w e w' := by
  by_cases hb : 4096 < Nm.tsize zs
  · refine (pow_big p m cap zs k w ha hb).mono ?_
    rintro e w' ⟨rfl, rfl⟩
    exact says_two hb (Below.refl _ _)
  by_cases hn : k < 0
  · refine (pow_neg p m cap zs k w ha (by omega) hn).mono ?_
    rintro e w' ⟨rfl, rfl⟩
    exact says_one hb hn (Below.refl _ _)
  · exact (pow_gives p m cap zs A k k.toNat w ha (by omega) hA (by omega) hk).mono fun e w' h => h.says hb (by omega) rfl

theorem rpow_says (p : Option Addr) (m cap : Nat) (zs : List Int) (A k : Int) (w : World) (ha : Arg w p m cap zs) (hA : Nm.val zs = A) (hk : k ≤ 9223372036854775807) :
    Calls Tryd.prog 24 #[.slice p m cap, .int .i64 k] w fun e w' => SaysAll (4096 < Nm.tsize zs) k (A ^ k.toNat) w e w' := by
  by_cases hb : 4096 < Nm.tsize zs
  · refine (rpow_big p m cap zs k w ha hb).mono ?_
    rintro e w' ⟨rfl, rfl⟩
    exact says_two hb (Below.refl _ _)
  by_cases hn : k < 0
  · refine (rpow_neg p m cap zs k w ha (by omega) hn).mono ?_
    rintro e w' ⟨rfl, rfl⟩
    exact says_one hb hn (Below.refl _ _)
  · exact (rpow_gives p m cap zs A k k.toNat w ha (by omega) hA (by omega) (by omega)).mono fun e w' h => h.says hb (by omega) rfl

theorem five_says (k : Int) (w : World) (hk : k ≤ 9223372036854775807) : Calls Tryd.prog 19 #[.int .i64 k] w fun e w' => SaysAll False k (5 ^ k.toNat) w e w' := by
  by_cases hn : k < 0
  · refine (five_neg k w hn).mono ?_
    rintro e w' ⟨rfl, hb⟩
    exact says_one (fun h => h) hn hb
  · exact (pow5_gives k k.toNat w (by omega) hk).mono fun e w' h => h.says (fun h => h) (by omega) rfl

theorem rfive_says (k : Int) (w : World) (hk : k ≤ 9223372036854775807) : Calls Tryd.prog 25 #[.int .i64 k] w fun e w' => SaysAll False k (5 ^ k.toNat) w e w' := by
  by_cases hn : k < 0
  · refine (rfive_neg k w hn).mono ?_
    rintro e w' ⟨rfl, hb⟩
    exact says_one (fun h => h) hn hb
  · exact (rpow5_gives k k.toNat w (by omega) (by omega)).mono fun e w' h => h.says (fun h => h) (by omega) rfl

theorem ten_says (k : Int) (w : World) (hk : k ≤ 9223372036854775807) : Calls Tryd.prog 20 #[.int .i64 k] w fun e w' => SaysAll False k (10 ^ k.toNat) w e w' := by
  by_cases hn : k < 0
  · refine (ten_neg k w hn).mono ?_
    rintro e w' ⟨rfl, hb⟩
    exact says_one (fun h => h) hn hb
  · exact (pow10_gives k k.toNat w (by omega) hk).mono fun e w' h => h.says (fun h => h) (by omega) rfl

theorem rten_says (k : Int) (w : World) (hk : k ≤ 9223372036854775807) : Calls Tryd.prog 26 #[.int .i64 k] w fun e w' => SaysAll False k (10 ^ k.toNat) w e w' := by
  by_cases hn : k < 0
  · refine (rten_neg k w hn).mono ?_
    rintro e w' ⟨rfl, hb⟩
    exact says_one (fun h => h) hn hb
  · exact (rpow10_gives k k.toNat w (by omega) (by omega)).mono fun e w' h => h.says (fun h => h) (by omega) rfl
end Go.Proofs.YtmihjiiagpkciaaDoor

namespace Go.Proofs.YtmihjiiagpkciaaDoor
namespace Rn

/-- The root R of what has been brought down, and what is left of it. -/
def Inv (P R S : Int) : Prop := 0 ≤ R ∧ 0 ≤ S ∧ R * R + S = P ∧ S ≤ 2 * R

theorem step_one {P R S pr : Int} (h : Inv P R S) (p1 : pr ≤ 3) (hge : 4 * R + 1 ≤ 4 * S + pr) : Inv (4 * P + pr) (2 * R + 1) (4 * S + pr - (4 * R + 1)) := by
  obtain ⟨h1, h2, h3, h4⟩ := h
  refine ⟨by omega, by omega, ?_, by omega⟩
  have e : (2 * R + 1) * (2 * R + 1) = 4 * (R * R) + 4 * R + 1 := by
    rw [Int.add_mul, Int.mul_add, Int.one_mul, Int.mul_one, Int.mul_assoc, Int.mul_left_comm R]
    omega
  rw [e]
  omega

theorem step_zero {P R S pr : Int} (h : Inv P R S) (p0 : 0 ≤ pr) (hlt : 4 * S + pr < 4 * R + 1) : Inv (4 * P + pr) (2 * R) (4 * S + pr) := by
  obtain ⟨h1, h2, h3, h4⟩ := h
  refine ⟨by omega, by omega, ?_, by omega⟩
  have e : (2 * R) * (2 * R) = 4 * (R * R) := by
    rw [Int.mul_assoc, Int.mul_left_comm R]
    omega
  rw [e]
  omega

theorem four (t : Nat) : (4 : Int) ^ t = 2 ^ (2 * t) := by rw [Int.pow_mul]; rfl

theorem down (A : Int) (t : Nat) : A / 4 ^ t = 4 * (A / 4 ^ (t + 1)) + A / 4 ^ t % 4 := by
  have : A / 4 ^ (t + 1) = A / 4 ^ t / 4 := by
    rw [Int.pow_succ, Int.ediv_ediv_of_nonneg (Int.le_of_lt (Int.pow_pos (by omega)))]
  omega

/-- The pair of binary digits t of a number, in its limb. -/
theorem pair_at (zs : List Int) (t k e sh : Nat) (ht : t = 32 * k + e) (he : e < 32) (hsh : sh = 2 * e) (hz : Nm.Limbs zs) (hk : k < zs.length) : Nm.val zs / 4 ^ t % 4 = zs.getD k 0 / 2 ^ sh % 4 := by
  have h1 := Nm.val_drop zs k (by omega)
  have h2 := Nm.val_bd _ (hz.take k)
  rw [List.length_take, Nat.min_eq_left (by omega)] at h2
  have e1 : (4 : Int) ^ t = Nm.pw k * 2 ^ sh := by
    rw [four, Nm.pw_two, ← Nm.two_add]
    congr 1
    omega
  have hp := Nm.pw_pos k
  have e2 : Nm.val zs / Nm.pw k = Nm.val (zs.drop k) := by
    rw [h1, Int.add_mul_ediv_left _ _ (by omega), Int.ediv_eq_zero_of_lt h2.1 h2.2, Int.zero_add]
  rw [e1, ← Int.ediv_ediv_of_nonneg (Int.le_of_lt hp), e2]
  obtain ⟨z, r, hzr⟩ : ∃ z r, zs.drop k = z :: r := ⟨_, _, List.drop_eq_getElem_cons hk⟩
  have e3 : zs.getD k 0 = z := by
    have : (zs.drop k).getD 0 0 = z := by rw [hzr]; rfl
    rw [← this]
    simp [List.getD, List.getElem?_drop]
  rw [hzr, e3]
  show (z + 18446744073709551616 * Nm.val r) / 2 ^ sh % 4 = _
  have e4 : (18446744073709551616 : Int) = 2 ^ sh * (4 * 2 ^ (62 - sh)) := by
    rw [show (4 : Int) = 2 ^ 2 from rfl, ← Nm.two_add, ← Nm.two_add, show sh + (2 + (62 - sh)) = 64 by omega, Nm.two_64]
  rw [e4, Int.mul_assoc, Int.add_mul_ediv_left _ _ (by have := Nm.two_pos sh; omega), Int.mul_assoc]
  omega

theorem start (A : Int) (n : Nat) (h0 : 0 ≤ A) (h : A < Nm.pw n) : A / 4 ^ (32 * n) = 0 := by
  have e : (4 : Int) ^ (32 * n) = Nm.pw n := by rw [four, Nm.pw_two]; congr 1; omega
  rw [e]
  exact Int.ediv_eq_zero_of_lt h0 h

/-- There is but one whole root. -/
theorem unique {A R R' : Int} (h0 : 0 ≤ R) (h1 : R * R ≤ A) (h2 : A < (R + 1) * (R + 1)) (k0 : 0 ≤ R') (k1 : R' * R' ≤ A) (k2 : A < (R' + 1) * (R' + 1)) : R = R' := by
  rcases (show R = R' ∨ R + 1 ≤ R' ∨ R' + 1 ≤ R by omega) with h | h | h
  · exact h
  · exfalso
    have : (R + 1) * (R + 1) ≤ R' * R' := Int.mul_le_mul h h (by omega) (by omega)
    omega
  · exfalso
    have : (R' + 1) * (R' + 1) ≤ R * R := Int.mul_le_mul h h (by omega) (by omega)
    omega

theorem Inv.root {A R S : Int} (h : Inv A R S) : 0 ≤ R ∧ R * R ≤ A ∧ A < (R + 1) * (R + 1) := by
  obtain ⟨h1, h2, h3, h4⟩ := h
  refine ⟨h1, by omega, ?_⟩
  have e : (R + 1) * (R + 1) = R * R + 2 * R + 1 := by rw [Int.add_mul, Int.mul_add, Int.one_mul, Int.mul_one]; omega
  omega
end Rn
end Go.Proofs.YtmihjiiagpkciaaDoor
