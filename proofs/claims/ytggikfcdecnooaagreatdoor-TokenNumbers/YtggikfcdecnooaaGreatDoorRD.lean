/-
  Texts put together: QRPow, QRPow2, QRPow3, ZRef9, TrailW, ZRef6, ZRef13, PoR3, ZRef7, PoR4, ZLess.
-/
import Derived.Test.YtggikfcdecnooaaGreatDoorRC
import Derived.Test.YtggikfcdecnooaaGreatDoorRB
import Derived.Test.YtggikfcdecnooaaGreatDoorRA
import Derived.Test.YtggikfcdecnooaaGreatDoorZRef3
import Derived.Test.YtggikfcdecnooaaGreatDoorTimesNum
import Derived.Shelf.Spec.TrailingZeros
import Derived.Laws.Bits64b
import Derived.Lib.ItoaNum
import Derived.Test.YtggikfcdecnooaaGreatDoorWalk5
import Derived.Test.YtggikfcdecnooaaGreatDoorZDecA
import Derived.Test.YtggikfcdecnooaaGreatDoorV0
import Derived.Deep.LoopGhost
namespace Go.Proofs.YtggikfcdecnooaaGreatDoor
open Go.RowKit Go.Deep

/-- A number and true, or false: it is too big. -/
def GivesB (T : Int) (w : World) (e : Ending) (w' : World) : Prop :=
  ((T < Nm.pw 4096 ∧ ∃ r os, e = .returned (.tuple #[.slice r (List.length os) (List.length os), .bool true]) ∧ Ans w.heap.size w' r os T) ∨ (Nm.pw 4096 ≤ T ∧ e = .returned (.tuple #[.slice none 0 0, .bool false]))) ∧ Below w.heap.size w w'

/-- A fact that no step looks into. -/
structure ShutQ (p : Prop) : Prop where
  out : p

/-- A product that has too many limbs by its factors' lengths. -/
theorem long_mul {xs ys : List Int} (hx : Nm.Limbs xs) (hy : Nm.Limbs ys) (h1 : 0 < Nm.tsize xs) (h2 : 0 < Nm.tsize ys) {k : Nat} (h : k + 2 ≤ Nm.tsize xs + Nm.tsize ys) : Nm.pw k ≤ Nm.val xs * Nm.val ys := by
  have a1 := Nm.val_ge_top hx h1
  have a2 := Nm.val_ge_top hy h2
  have p1 := Nm.pw_pos (Nm.tsize xs - 1)
  have p2 := Nm.pw_pos (Nm.tsize ys - 1)
  have h3 : Nm.pw (Nm.tsize xs - 1) * Nm.pw (Nm.tsize ys - 1) ≤ Nm.val xs * Nm.val ys := Int.mul_le_mul a1 a2 (by omega) (by omega)
  rw [← Nm.pw_add] at h3
  exact Int.le_trans (Nm.pw_mono (by omega)) h3

theorem Ans.tpos {B : Nat} {w : World} {p : Option Addr} {ys : List Int} {n : Int} (h : Ans B w p ys n) (hn : 1 ≤ n) : 0 < Nm.tsize ys := by
  have h1 := Nm.tsize_zero_iff h.2.1
  have h2 := h.2.2.2.1
  omega

/-- The length of an answer tells whether it is too big. -/
theorem Ans.over {B : Nat} {w : World} {p : Option Addr} {ys : List Int} {n : Int} (h : Ans B w p ys n) : 4096 < ys.length ↔ Nm.pw 4096 ≤ n := by
  have h1 := Nm.tsize_le_iff h.2.1 4096
  rw [h.2.2.1, h.2.2.2.1] at h1
  constructor
  · intro h2
    rcases Int.lt_or_le n (Nm.pw 4096) with c | c
    · have := h1.2 c; omega
    · exact c
  · intro h2
    rcases Nat.lt_or_ge 4096 ys.length with c | c
    · exact c
    · have := h1.1 c
      exact absurd (Int.lt_of_lt_of_le this h2) (Int.lt_irrefl _)

theorem half_pow (A : Int) (n : Nat) (b : Nat) (hb : n % 2 = b) : A ^ (n / 2) * A ^ (n / 2) * A ^ b = A ^ n := by
  rw [← Int.pow_add, ← Int.pow_add]
  congr 1
  omega

set_option maxRecDepth 100000 in
set_option maxHeartbeats 8000000 in
theorem rpower_any (p : Option Addr) (m cap : Nat) (zs : List Int) (A : Int) (hA : Nm.val zs = A) (hA1 : 1 ≤ A) (tz : Nm.tsize zs ≤ 4096) (n : Nat) : ∀ (w : World), Arg w p m cap zs → n < 9223372036854775808 →
    Calls Tryz.prog 168 #[.slice p m cap, .int .i64 (n : Int)] w fun e w' => GivesB (A ^ n) w e w' := by
  induction n using Nat.strongRecOn with
  | _ n ih =>
  intro w ha hn
  by_cases h0 : n = 0
  · subst h0
    have D : Below w.heap.size w (w.alloc (.cells #[.int .u64 1] 22)) := (Below.refl _ _).alloc (Nat.le_refl _) _
    have F : Hid (GivesB (A ^ 0) w (.returned (.tuple #[.slice (some ⟨w.heap.size, 0, none⟩) 1 1, .bool true])) (w.alloc (.cells #[.int .u64 1] 22))) := by
      rw [Int.pow_zero]
      exact ⟨.inl ⟨one_lt_pw, some ⟨w.heap.size, 0, none⟩, [1], rfl, ⟨(Own.alloc w [1]).lies, limb_one (by omega), by simp [Nm.tsize], by simp [Nm.val], fun a h => by cases h; exact Nat.le_refl _⟩⟩, D⟩
    clear ih D ha hA hA1 tz
    go_enter Tryz.func168, Tryz.ntmps168
    go_wp2_with fail
    go_ret2
    exact F.out
  · have IH := hid (ih (n / 2) (by omega) w ha (by omega))
    have hn0 : ((n : Int) == 0) = false := by rw [beq_eq_false_iff_ne]; omega
    obtain ⟨k, hk⟩ : ∃ k, n / 2 = k := ⟨_, rfl⟩
    obtain ⟨b, hb⟩ : ∃ b, n % 2 = b := ⟨_, rfl⟩
    have HP := half_pow A n b hb
    rw [hk] at IH HP
    have q1 : (n : Int) / 2 = (k : Int) := by omega
    have q1t : (n : Int).tdiv 2 = (k : Int) := by rw [Int.tdiv_eq_ediv_of_nonneg (by omega)]; exact q1
    have q2 : (n : Int) % 2 = (b : Int) := by omega
    have q2t : (n : Int).tmod 2 = (b : Int) := by rw [Int.tmod_eq_emod_of_nonneg (by omega)]; exact q2
    have hb1 : b = 0 ∨ b = 1 := by omega
    have a2 := ha.2.1
    have a3 := ha.2.2.1
    have hn63 : (n : Int) < 9223372036854775808 := by omega
    have HA := hid ha
    have HV := hid hA
    have H1 := hid hA1
    have HZ := hid tz
    have HHP := hid HP
    have HKL := Pn.pow_mono hA1 (show k ≤ n by omega)
    have HK := hid HKL
    obtain ⟨TA, hTA⟩ : ∃ T, Hid (Nm.tsize zs = T) := ⟨_, rfl⟩
    have hTA0 : Hid (0 < Nm.tsize zs) := by
      have h1 := Nm.tsize_zero_iff ha.2.2.2.2
      show _ < _
      omega
    have TAb : (TA : Int) ≤ 4096 := by have := hTA.out; omega
    have PK := hid (Pn.pow_pos' hA1 k)
    clear ih ha hA hA1 tz hk hb HP h0 HKL hn
    go_enter Tryz.func168, Tryz.ntmps168
    go_wp2_with fail
    refine IH.out.mono ?_
    rintro e w1 ⟨h | h, d1⟩
    · obtain ⟨hs, r, os, rfl, A1⟩ := h
      have HB1 := hid A1
      have HS : ShutQ (A ^ k < Nm.pw 4096) := ⟨hs⟩
      have D1 := hid d1
      have hw1 : Hid (w.heap.size ≤ w1.heap.size) := d1.size
      obtain ⟨l, hl⟩ : ∃ l, os.length = l := ⟨_, rfl⟩
      have los : (l : Int) ≤ 4096 := by have := A1.small hs; omega
      have AL : Hid (Arg w1 r l l os) := ⟨hl, Nat.le_refl _, by omega, A1.1, A1.2.1⟩
      have TL : Hid (Nm.tsize os = l) := A1.2.2.1.trans hl
      rw [hl]
      have HA1 := hid (HA.out.below d1 (Nat.le_refl _))
      clear hs A1 d1 IH hl
      by_cases h2 : 4096 < 2 * (l : Int) - 1
      · have F : Hid (GivesB (A ^ n) w (.returned (.tuple #[.slice none 0 0, .bool false])) w1) := by
          refine ⟨.inr ⟨?_, rfl⟩, D1.out⟩
          have h3 := long_mul (k := 4096) HB1.out.2.1 HB1.out.2.1 (HB1.out.tpos PK.out) (HB1.out.tpos PK.out) (by rw [TL.out]; omega)
          rw [HB1.out.2.2.2.1, ← Int.pow_add] at h3
          refine Int.le_trans h3 (Pn.pow_mono H1.out ?_)
          omega
        go_wp2_with fail
        go_ret2
        exact F.out
      · have h2' : Hid (2 * (l : Int) - 1 ≤ 4096) := by show _ ≤ _; omega
        have h2d : decide (4096 < 2 * (l : Int) - 1) = false := by simp; omega
        have TI := hid (refTimes_any r r l l l l os os w1 AL.out AL.out (by rw [TL.out]; omega) (by rw [TL.out]; omega))
        rw [HB1.out.2.2.2.1] at TI
        clear h2
        go_wp2_with fail
        refine TI.out.mono ?_
        rintro e w2 ⟨r2, us, rfl, A2, d2⟩
        have HB2 := hid A2
        have D2 := hid (chain D1.out d2 (Nat.le_refl _))
        have HA2 := hid (HA1.out.below d2 (Nat.le_refl _))
        have lus : Hid (us.length ≤ 8192) := by
          show _ ≤ _
          rw [← A2.2.2.1]
          refine (Nm.tsize_le_iff A2.2.1 8192).2 ?_
          rw [A2.2.2.2.1]
          have h1 := HS.out
          have h2 : A ^ k * A ^ k < Nm.pw 4096 * Nm.pw 4096 := by
            have p0 := PK.out
            have : A ^ k * A ^ k ≤ A ^ k * Nm.pw 4096 := Int.mul_le_mul_of_nonneg_left (by omega) (by omega)
            have h3 : A ^ k * Nm.pw 4096 < Nm.pw 4096 * Nm.pw 4096 := Int.mul_lt_mul_of_pos_right h1 (Nm.pw_pos 4096)
            omega
          rw [← Nm.pw_add] at h2
          exact h2
        have P2 : Hid (1 ≤ A ^ k * A ^ k) := by
          show _ ≤ _
          rw [← Int.pow_add]
          exact Pn.pow_pos' H1.out _
        clear A2 d2 TI HA1 HB1 D1 h2d
        rcases hb1 with rfl | rfl
        · have E : Hid (A ^ k * A ^ k = A ^ n) := by have := HHP.out; rw [Int.pow_zero, Int.mul_one] at this; exact this
          rw [E.out] at HB2
          by_cases h3 : 4096 < us.length
          · have h3' : (4096 : Int) < (us.length : Int) := by omega
            have F : Hid (GivesB (A ^ n) w (.returned (.tuple #[.slice none 0 0, .bool false])) w2) := ⟨.inr ⟨HB2.out.over.1 h3, rfl⟩, D2.out⟩
            clear h3
            go_wp2_with fail
            go_ret2
            exact F.out
          · have h3d : decide (4096 < (us.length : Int)) = false := by simp; omega
            have h3b : (us.length : Int) < 10000 := by omega
            have H3 : Hid ((us.length : Int) ≤ 4096) := by show _ ≤ _; omega
            have F : Hid (GivesB (A ^ n) w (.returned (.tuple #[.slice r2 (List.length us) (List.length us), .bool true])) w2) := by
              have hlt : A ^ n < Nm.pw 4096 := by
                rcases Int.lt_or_le (A ^ n) (Nm.pw 4096) with c | c
                · exact c
                · exact absurd (HB2.out.over.2 c) h3
              exact ⟨.inl ⟨hlt, r2, us, rfl, HB2.out.upT hw1.out⟩, D2.out⟩
            clear h3
            go_wp2_with fail
            go_ret2
            exact F.out
        · have E : Hid (A ^ k * A ^ k * A = A ^ n) := by have := HHP.out; rw [Int.pow_succ, Int.pow_zero, Int.one_mul] at this; exact this
          by_cases h3 : 4096 < us.length
          · have h3' : (4096 : Int) < (us.length : Int) := by omega
            have F : Hid (GivesB (A ^ n) w (.returned (.tuple #[.slice none 0 0, .bool false])) w2) := by
              refine ⟨.inr ⟨?_, rfl⟩, D2.out⟩
              have h4 := HB2.out.over.1 h3
              rw [← E.out]
              have h5 : A ^ k * A ^ k * 1 ≤ A ^ k * A ^ k * A := Int.mul_le_mul_of_nonneg_left H1.out (by have := P2.out; omega)
              rw [Int.mul_one] at h5
              exact Int.le_trans h4 h5
            clear h3
            go_wp2_with fail
            go_ret2
            exact F.out
          · have h3d : decide (4096 < (us.length : Int)) = false := by simp; omega
            have h3b : (us.length : Int) < 10000 := by omega
            have H3 : Hid ((us.length : Int) ≤ 4096) := by show _ ≤ _; omega
            have T2 := top_any p m cap zs w2 HA2.out.1 (by omega) HA2.out.2.2.2.1
            rw [hTA.out] at T2
            have HT2 := hid T2
            clear T2
            go_wp2_with fail
            refine HT2.out.mono ?_
            rintro e w3 ⟨rfl, rfl⟩
            have H3' := H3.out
            by_cases h4 : 4096 < (us.length : Int) + (TA : Int) - 1
            · have F : Hid (GivesB (A ^ n) w (.returned (.tuple #[.slice none 0 0, .bool false])) w3) := by
                refine ⟨.inr ⟨?_, rfl⟩, D2.out⟩
                have h5 := long_mul (k := 4096) HB2.out.2.1 HA2.out.2.2.2.2 (HB2.out.tpos P2.out) hTA0.out (by rw [HB2.out.2.2.1, hTA.out]; omega)
                rw [HB2.out.2.2.2.1, HV.out, E.out] at h5
                exact h5
              clear h3 H3'
              go_wp2_with fail
              go_ret2
              exact F.out
            · have h4d : decide (4096 < (us.length : Int) + (TA : Int) - 1) = false := by simp; omega
              have TI := hid (refTimes_any r2 p _ _ m cap us zs w3 (HB2.out.arg (by have := lus.out; omega)) HA2.out (by rw [HB2.out.2.2.1]; have := lus.out; omega) (by have := HZ.out; omega))
              rw [HB2.out.2.2.2.1, HV.out, E.out] at TI
              clear h3 h4 H3'
              go_wp2_with fail
              refine TI.out.mono ?_
              rintro e w4 ⟨r4, vs, rfl, A4, d4⟩
              have HB4 := hid A4
              have hw3 : Hid (w.heap.size ≤ w3.heap.size) := D2.out.size
              have D4 := hid (chain D2.out d4 (Nat.le_refl _))
              clear A4 d4 TI
              by_cases h5 : 4096 < vs.length
              · have h5' : (4096 : Int) < (vs.length : Int) := by omega
                have F : Hid (GivesB (A ^ n) w (.returned (.tuple #[.slice none 0 0, .bool false])) w4) := ⟨.inr ⟨HB4.out.over.1 h5, rfl⟩, D4.out⟩
                clear h5
                go_wp2_with fail
                go_ret2
                exact F.out
              · have h5d : decide (4096 < (vs.length : Int)) = false := by simp; omega
                have F : Hid (GivesB (A ^ n) w (.returned (.tuple #[.slice r4 (List.length vs) (List.length vs), .bool true])) w4) := by
                  have hlt : A ^ n < Nm.pw 4096 := by
                    rcases Int.lt_or_le (A ^ n) (Nm.pw 4096) with c | c
                    · exact c
                    · exact absurd (HB4.out.over.2 c) h5
                  exact ⟨.inl ⟨hlt, r4, vs, rfl, HB4.out.upT hw3.out⟩, D4.out⟩
                clear h5
                go_wp2_with fail
                go_ret2
                exact F.out
    · obtain ⟨hs, rfl⟩ := h
      have F : Hid (GivesB (A ^ n) w (.returned (.tuple #[.slice none 0 0, .bool false])) w1) := ⟨.inr ⟨Int.le_trans hs HK.out, rfl⟩, d1⟩
      clear hs d1 IH
      go_wp2_with fail
      go_ret2
      exact F.out
end Go.Proofs.YtggikfcdecnooaaGreatDoor

namespace Go.Proofs.YtggikfcdecnooaaGreatDoor
open Go.RowKit Go.Deep

theorem pval_one (x : Int) : Nm.val [x] = x := by simp [Nm.val]


theorem rsame_is (s : Bool) (p q : Option Addr) (n cap m cap' : Nat) (zs ys : List Int) (w : World) (ha : Arg w p n cap zs) (hb : Arg w q m cap' ys) (hs : decide (Nm.val zs = Nm.val ys) = s) :
    Calls Tryz.prog 167 #[.slice p n cap, .slice q m cap'] w fun e w' => e = .returned (.bool s) ∧ Below w.heap.size w w' := by
  obtain ⟨c, hc⟩ : ∃ c, cmpI (Nm.val zs) (Nm.val ys) = c := ⟨_, rfl⟩
  have E : Hid ((c == 0) = s) := by
    rw [Hid, ← hs, ← hc, cmpI]
    by_cases h1 : Nm.val zs < Nm.val ys
    · rw [if_pos h1]; simp; omega
    · rw [if_neg h1]
      by_cases h2 : Nm.val zs = Nm.val ys
      · rw [if_pos h2]; simp [h2]
      · rw [if_neg h2]; simp [h2]
  have O := hid (order_is c p q n cap m cap' zs ys w ha hb hc)
  clear hc hs ha hb
  go_enter Tryz.func167, Tryz.ntmps167
  go_wp2_with fail
  refine O.out.mono ?_
  rintro e w1 ⟨rfl, d1⟩
  have D1 := hid d1
  clear d1 O
  go_wp2_with fail
  go_ret
  exact ⟨ret_bool E.out, D1.out⟩

theorem rpow_big (p : Option Addr) (m cap : Nat) (zs : List Int) (k : Int) (w : World) (ha : Arg w p m cap zs) (tz : 4096 < Nm.tsize zs) :
    Calls Tryz.prog 150 #[.slice p m cap, .int .i64 k] w fun e w' => e = .returned (.tuple #[.slice none 0 0, .int .i64 2]) ∧ w' = w := by
  have a2 := ha.2.1
  have a3 := ha.2.2.1
  have h1' : (4096 : Int) < (Nm.tsize zs : Int) := by omega
  have L1 := hid (top_any p m cap zs w ha.1 (by omega) ha.2.2.2.1)
  clear ha tz
  go_enter Tryz.func150, Tryz.ntmps150
  go_wp2_with fail
  refine L1.out.mono ?_
  rintro e w' ⟨rfl, rfl⟩
  go_wp2_with fail
  go_ret2
  exact ⟨rfl, rfl⟩

theorem rpow_neg (p : Option Addr) (m cap : Nat) (zs : List Int) (k : Int) (w : World) (ha : Arg w p m cap zs) (tz : Nm.tsize zs ≤ 4096) (hk : k < 0) :
    Calls Tryz.prog 150 #[.slice p m cap, .int .i64 k] w fun e w' => e = .returned (.tuple #[.slice none 0 0, .int .i64 1]) ∧ w' = w := by
  have a2 := ha.2.1
  have a3 := ha.2.2.1
  have h1' : (Nm.tsize zs : Int) ≤ 4096 := by omega
  have L1 := hid (top_any p m cap zs w ha.1 (by omega) ha.2.2.2.1)
  clear ha tz
  go_enter Tryz.func150, Tryz.ntmps150
  go_wp2_with fail
  refine L1.out.mono ?_
  rintro e w' ⟨rfl, rfl⟩
  go_wp2_with fail
  go_ret2
  exact ⟨rfl, rfl⟩

set_option maxRecDepth 100000 in
set_option maxHeartbeats 2000000 in
theorem rpow_gives (p : Option Addr) (m cap : Nat) (zs : List Int) (A k : Int) (n : Nat) (w : World) (ha : Arg w p m cap zs) (tz : Nm.tsize zs ≤ 4096) (hA : Nm.val zs = A) (hk : k = (n : Int)) (hk1 : k < 9223372036854775808) :
    Calls Tryz.prog 150 #[.slice p m cap, .int .i64 k] w fun e w' => Gives (A ^ n) w e w' := by
  have a2 := ha.2.1
  have a3 := ha.2.2.1
  obtain ⟨N, HN⟩ : ∃ N, Hid (Nm.tsize zs = N) := ⟨_, rfl⟩
  have hN : decide (4096 < (N : Int)) = false := by have := HN.out; simp; omega
  have T := top_any p m cap zs w ha.1 (by omega) ha.2.2.2.1
  rw [HN.out] at T
  have L1 := hid T
  have hb : Below w.heap.size w (w.alloc (.cells #[.int .u64 1] 22)) := (Below.refl _ _).alloc (Nat.le_refl _) _
  have A1 : Arg (w.alloc (.cells #[.int .u64 1] 22)) (some ⟨w.heap.size, 0, none⟩) 1 1 [1] := ⟨rfl, Nat.le_refl _, by omega, (Own.alloc w [1]).lies, limb_one (by omega)⟩
  have N1 : Ans w.heap.size (w.alloc (.cells #[.int .u64 1] 22)) (some ⟨w.heap.size, 0, none⟩) [1] 1 := ⟨(Own.alloc w [1]).lies, limb_one (by omega), by simp [Nm.tsize], by simp [Nm.val], fun a h => by cases h; exact Nat.le_refl _⟩
  have HA1 := hid A1
  have HN1 := hid N1
  have HB := hid hb
  have HA := hid (ha.below hb (Nat.le_refl _))
  have A0 := (Nm.val_bd zs ha.2.2.2.2).1
  have hzz := Nm.tsize_zero_iff ha.2.2.2.2
  rw [hA] at A0 hzz
  have HV := hid hA
  have HT := hid tz
  subst hk
  clear T hb A1 N1 ha tz hA
  by_cases h0 : n = 0
  · subst h0
    have F : Hid (Gives (A ^ 0) w (.returned (.tuple #[.slice (some ⟨w.heap.size, 0, none⟩) 1 1, .int .i64 0])) (w.alloc (.cells #[.int .u64 1] 22))) := by
      rw [Int.pow_zero]
      exact ⟨.inl ⟨one_lt_pw, _, [1], rfl, HN1.out⟩, HB.out⟩
    clear hzz
    go_enter Tryz.func150, Tryz.ntmps150
    go_wp2_with fail
    refine L1.out.mono ?_
    rintro e w' ⟨rfl, rfl⟩
    go_wp2_with fail
    go_ret2
    exact F.out
  have hn0 : ((n : Int) == 0) = false := by rw [beq_eq_false_iff_ne]; omega
  have HK1 := hid hk1
  have hnn : decide ((n : Int) < 0) = false := by simp
  clear hk1
  by_cases h1 : A = 1
  · have SA := hid (rsame_is true p _ m cap 1 1 zs [1] _ HA.out HA1.out (by rw [HV.out, pval_one, h1]; simp))
    have E : Hid (A ^ n = 1) := by rw [Hid, h1, Int.one_pow]
    clear h1 hzz h0
    go_enter Tryz.func150, Tryz.ntmps150
    go_wp2_with fail
    refine L1.out.mono ?_
    rintro e w' ⟨rfl, rfl⟩
    go_wp2_with fail
    refine SA.out.mono ?_
    rintro e w2 ⟨rfl, d2⟩
    have F : Hid (Gives (A ^ n) w' (.returned (.tuple #[.slice (some ⟨w'.heap.size, 0, none⟩) 1 1, .int .i64 0])) w2) := by
      rw [E.out]
      exact ⟨.inl ⟨one_lt_pw, _, [1], rfl, HN1.out.below d2 (Nat.le_refl _)⟩, chain HB.out d2 (Nat.le_refl _)⟩
    clear d2
    go_wp2_with fail
    go_ret2
    exact F.out
  have SA := hid (rsame_is false p _ m cap 1 1 zs [1] _ HA.out HA1.out (by rw [HV.out, pval_one]; simp [h1]))
  by_cases h2 : N = 0
  · have hA0 : A = 0 := hzz.1 (by rw [HN.out]; exact h2)
    have E : Hid (A ^ n = 0) := by
      obtain ⟨n', rfl⟩ : ∃ n', n = n' + 1 := ⟨n - 1, by omega⟩
      rw [Hid, hA0, Int.pow_succ, Int.mul_zero]
    subst h2
    clear h1 hzz hA0 h0
    go_enter Tryz.func150, Tryz.ntmps150
    go_wp2_with fail
    refine L1.out.mono ?_
    rintro e w' ⟨rfl, rfl⟩
    go_wp2_with fail
    refine SA.out.mono ?_
    rintro e w2 ⟨rfl, d2⟩
    have T2 := top_any p m cap zs w2 HA.out.1 (by omega) (HA.out.below d2 (Nat.le_refl _)).2.2.2.1
    rw [HN.out] at T2
    have HT2 := hid T2
    have F : Hid (Gives (A ^ n) w' (.returned (.tuple #[.slice none 0 0, .int .i64 0])) w2) := by
      rw [E.out]
      exact ⟨.inl ⟨by have := one_lt_pw; exact Int.lt_trans (by omega) this, none, [], rfl, ans_none _ _ _ (fun a h => by cases h)⟩, chain HB.out d2 (Nat.le_refl _)⟩
    clear d2 T2
    go_wp2_with fail
    refine HT2.out.mono ?_
    rintro e w3 ⟨rfl, rfl⟩
    go_wp2_with fail
    go_ret2
    exact F.out
  · have hN0 : ((N : Int) == 0) = false := by rw [beq_eq_false_iff_ne]; omega
    have HA1' : Hid (1 ≤ A) := by
      show _ ≤ _
      rcases (show A = 0 ∨ 1 ≤ A by omega) with h | h
      · exact absurd (HN.out.symm.trans (hzz.2 h)) h2
      · exact h
    clear h1 hzz h0 h2
    go_enter Tryz.func150, Tryz.ntmps150
    go_wp2_with fail
    refine L1.out.mono ?_
    rintro e w' ⟨rfl, rfl⟩
    go_wp2_with fail
    refine SA.out.mono ?_
    rintro e w2 ⟨rfl, d2⟩
    have HA2 := hid (HA.out.below d2 (Nat.le_refl _))
    have D2 := hid (chain HB.out d2 (Nat.le_refl _))
    have T2 := top_any p m cap zs w2 HA2.out.1 (by omega) HA2.out.2.2.2.1
    rw [HN.out] at T2
    have HT2 := hid T2
    have PW := hid (rpower_any p m cap zs A HV.out HA1'.out HT.out n w2 HA2.out (by have := HK1.out; omega))
    clear d2 T2
    go_wp2_with fail
    refine HT2.out.mono ?_
    rintro e w3 ⟨rfl, rfl⟩
    go_wp2_with fail
    refine PW.out.mono ?_
    rintro e w4 ⟨h | h, d4⟩
    · obtain ⟨h1, r, os, rfl, A4⟩ := h
      have F : Hid (Gives (A ^ n) w' (.returned (.tuple #[.slice r (List.length os) (List.length os), .int .i64 0])) w4) := ⟨.inl ⟨h1, r, os, rfl, A4.upT D2.out.size⟩, chain D2.out d4 (Nat.le_refl _)⟩
      clear h1 A4 d4
      go_wp2_with fail
      go_ret2
      exact F.out
    · obtain ⟨h1, rfl⟩ := h
      have F : Hid (Gives (A ^ n) w' (.returned (.tuple #[.slice none 0 0, .int .i64 2])) w4) := ⟨.inr ⟨h1, rfl⟩, chain D2.out d4 (Nat.le_refl _)⟩
      clear h1 d4
      go_wp2_with fail
      go_ret2
      exact F.out
end Go.Proofs.YtggikfcdecnooaaGreatDoor

namespace Go.Proofs.YtggikfcdecnooaaGreatDoor
open Go.RowKit Go.Deep

theorem rpow10_gives (k : Int) (n : Nat) (w : World) (hk : k = (n : Int)) (hk1 : k < 9223372036854775808) :
    Calls Tryz.prog 131 #[.int .i64 k] w fun e w' => Gives (10 ^ n) w e w' := by
  have hb : Below w.heap.size w (w.alloc (.cells #[.int .u64 10] 22)) := (Below.refl _ _).alloc (Nat.le_refl _) _
  have A : Arg (w.alloc (.cells #[.int .u64 10] 22)) (some ⟨w.heap.size, 0, none⟩) 1 1 [10] := ⟨rfl, Nat.le_refl _, by omega, (Own.alloc w [10]).lies, limb_one (by omega)⟩
  have P := hid (rpow_gives _ 1 1 [10] 10 k n _ A (by simp [Nm.tsize]) (by simp [Nm.val]) hk hk1)
  have HB := hid hb
  clear hb A hk hk1
  go_enter Tryz.func131, Tryz.ntmps131
  go_wp2_with fail
  refine P.out.mono ?_
  rintro e w1 ⟨h | h, hb1⟩
  · obtain ⟨h1, r, os, rfl, A1⟩ := h
    have G : Hid (Gives (10 ^ n) w (.returned (.tuple #[.slice r (List.length os) (List.length os), .int .i64 0])) w1) := ⟨.inl ⟨h1, r, os, rfl, A1.upT HB.out.size⟩, chain HB.out hb1 (Nat.le_refl _)⟩
    clear h1 A1 hb1
    go_wp2_with fail
    go_ret2
    exact G.out
  · obtain ⟨h1, rfl⟩ := h
    have G : Hid (Gives (10 ^ n) w (.returned (.tuple #[.slice none 0 0, .int .i64 2])) w1) := ⟨.inr ⟨h1, rfl⟩, chain HB.out hb1 (Nat.le_refl _)⟩
    clear h1 hb1
    go_wp2_with fail
    go_ret2
    exact G.out

end Go.Proofs.YtggikfcdecnooaaGreatDoor

namespace Go.Proofs.YtggikfcdecnooaaGreatDoor
open Go.RowKit Go.Deep


set_option maxRecDepth 20000 in
set_option maxRecDepth 100000 in
set_option maxHeartbeats 4000000 in
theorem times_any (p q : Option Addr) (n cap m cap' : Nat) (za zb : List Int) (w : World) (ha : Arg w p n cap za) (hb : Arg w q m cap' zb) (hn : Nm.tsize za ≤ 1099511627776) (hm : Nm.tsize zb ≤ 1099511627776) :
    Calls Tryz.prog 100 #[.slice p n cap, .slice q m cap'] w fun e w' => ∃ r os, e = .returned (.slice r (List.length os) (List.length os)) ∧ Ans w.heap.size w' r os (Nm.val za * Nm.val zb) ∧ Below w.heap.size w w' := by
  have HA := hid ha
  have HB0 := hid hb
  clear ha hb
  go_enter Tryz.func100, Tryz.ntmps100
  go_wp2_with fail
  refine (halves_any p n cap za _ HA.out (by have := HA.out.2.1; have := HA.out.2.2.1; omega)).mono ?_
  rintro e w1 ⟨xs, rfl, lx, hx, vx, kx, bx⟩
  have HB1 := hid (HB0.out.below bx (Nat.le_refl _))
  have D1 := hid bx
  obtain ⟨l1, LX⟩ : ∃ l1, Hid (xs.length = l1) := ⟨_, rfl⟩
  have LX0 := hid lx
  have HX := hid hx
  have VX := hid vx
  have kx1 : l1 ≤ 2 * Nm.tsize za := by have := LX.out; omega
  rw [LX.out]
  clear lx hx vx kx bx HB0
  go_wp2_with fail
  refine (halves_any q m cap' zb _ HB1.out (by have := HB1.out.2.1; have := HB1.out.2.2.1; omega)).mono ?_
  rintro e w2 ⟨ys, rfl, ly, hy, vy, ky, by_⟩
  have D2 := hid (chain D1.out by_ (Nat.le_refl _))
  obtain ⟨l2, LY⟩ : ∃ l2, Hid (ys.length = l2) := ⟨_, rfl⟩
  have HY := hid hy
  have VY := hid vy
  have ky1 : l2 ≤ 2 * Nm.tsize zb := by have := LY.out; omega
  obtain ⟨g1, G1⟩ : ∃ g1, w.heap.size = g1 := ⟨_, rfl⟩
  obtain ⟨g2, G2⟩ : ∃ g2, w1.heap.size = g2 := ⟨_, rfl⟩
  have LX2 := LX0.out.below by_ (Nat.le_refl _)
  rw [G1] at LX2
  have ly2 := ly
  rw [G2] at ly2
  have CX : Hid (∀ i, i < l1 → w2.cell? ⟨g1, i, none⟩ = some (.int .u64 (xs.getD i 0))) := fun i hi => by have := LX2.cells i (by have := LX.out; omega); rwa [Nat.zero_add] at this
  have CY : Hid (∀ i, i < l2 → w2.cell? ⟨g2, i, none⟩ = some (.int .u64 (ys.getD i 0))) := fun i hi => by have := ly2.cells i (by have := LY.out; omega); rwa [Nat.zero_add] at this
  obtain ⟨g, Gg⟩ : ∃ g, Hid (w2.heap.size = g) := ⟨_, rfl⟩
  have BX : Hid (∀ {j : Nat}, j < l1 → g1 < g) := fun {j} hj => by rw [← Gg.out]; exact cell_lt (CX.out j hj)
  have BY : Hid (∀ {j : Nat}, j < l2 → g2 < g) := fun {j} hj => by rw [← Gg.out]; exact cell_lt (CY.out j hj)
  rw [LY.out, G1, G2]
  clear ly hy vy ky by_ LX0 LX2 ly2 HB1 D1 G2
  by_cases hz : l1 = 0 ∨ l2 = 0
  · have V0 : Hid (Nm.val za * Nm.val zb = 0) := by
      rw [Hid, ← VX.out, ← VY.out]
      rcases hz with h | h
      · rw [List.eq_nil_of_length_eq_zero (LX.out.trans h)]; simp [Nm.v32]
      · rw [List.eq_nil_of_length_eq_zero (LY.out.trans h)]; simp [Nm.v32]
    have bm := (Below.refl w2.heap.size w2).alloc (Nat.le_refl _) (.cells #[] 22)
    have D3 := hid (chain D2.out bm (Nat.le_refl _))
    have GS : Hid (w.heap.size ≤ g) := by rw [← Gg.out]; exact D2.out.size
    clear bm
    have fin : ∀ x : World, Below w.heap.size w x → ∃ r os, Ending.returned (.slice (some ⟨g, 0, none⟩) 0 0) = .returned (.slice r (List.length os) (List.length os)) ∧ Ans w.heap.size x r os (Nm.val za * Nm.val zb) ∧ Below w.heap.size w x := fun x hx => ⟨some ⟨g, 0, none⟩, [], rfl, ⟨Lies.nil _ _, Nm.Limbs.nil, rfl, V0.out.symm, fun a h => by cases h; exact GS.out⟩, hx⟩
    have FIN := hid fin
    clear fin
    by_cases h1 : l1 = 0
    · subst h1
      go_wp2
      go_ret
      rw [Gg.out]
      exact FIN.out _ D3.out
    · have h2 : l2 = 0 := by omega
      subst h2
      have h1' : ¬ (l1 : Int) = 0 := by omega
      have h1'' : ((l1 : Int) == 0) = false := by rw [beq_eq_false_iff_ne]; exact h1'
      go_wp2
      go_ret
      rw [Gg.out]
      exact FIN.out _ D3.out
  · have h1 : ¬ (l1 : Int) = 0 := by omega
    have h2 : ¬ (l2 : Int) = 0 := by omega
    have h1' : ((l1 : Int) == 0) = false := by rw [beq_eq_false_iff_ne]; exact h1
    have h2' : ((l2 : Int) == 0) = false := by rw [beq_eq_false_iff_ne]; exact h2
    have hmk := make64 (l1 + l2) (by omega) w2
    rw [show ((l1 + l2 : Nat) : Int) = (l1 : Int) + (l2 : Int) by omega, Gg.out] at hmk
    have bm := hid ((Below.refl w2.heap.size w2).alloc (Nat.le_refl _) (.cells (madeCells #[.int .u64 0] (l1 + l2)) 22))
    have gm : Own (w2.alloc (.cells (madeCells #[.int .u64 0] (l1 + l2)) 22)) w2.heap.size (List.replicate (l1 + l2) 0) := by rw [made_zero]; exact Own.alloc w2 _
    rw [Gg.out] at bm gm
    generalize w2.alloc (.cells (madeCells #[.int .u64 0] (l1 + l2)) 22) = wm at hmk bm gm
    have I0 : Hid (TimesInv g (l1 + l2) w2 (Nm.v32 (xs.take 0) * Nm.v32 ys) 0 0 (0 + l2) (List.replicate (l1 + l2) 0) wm) := ⟨gm, by simp, Nm.Halves.zeros _, by rw [Nm.v32_zeros]; simp [Nm.v32], fun t _ => getD_replicate _ _, bm.out⟩
    clear gm bm hz
    go_wp2
    clear hmk
    obtain ⟨K, HK⟩ : ∃ K, Hid (l1 + l2 = K) := ⟨_, rfl⟩
    have I1 := I0.out
    rw [HK.out] at I1 ⊢
    have J0 := hid I1
    clear I0 I1
    have hKb : K ≤ 35184372088832 := by have := HK.out; omega
    go_loopw [8] (fun i wr => ∃ (k : Nat) (ps : List Int), k ≤ l1 ∧ i = .int .i64 k ∧ Hid (TimesInv g K w2 (Nm.v32 (xs.take k) * Nm.v32 ys) 0 k (k + l2) ps wr)) (fun i _ => l1 - (intOf i).toNat)
    case atStart => exact ⟨0, _, Nat.zero_le _, rfl, J0.out⟩
    case round =>
      obtain ⟨k, ps, hk, rfl, TI⟩ := hrel
      by_cases hlt : k < l1
      · have hlt' : (k : Int) < (l1 : Int) := by omega
        obtain ⟨x, X⟩ : ∃ x, Hid (x = xs.getD k 0) := ⟨_, rfl⟩
        have hx0 : 0 ≤ x := by have := HX.out.at k; have := X.out; omega
        have hx1 : x < 4294967296 := by have := HX.out.at k; have := X.out; omega
        obtain ⟨V, HV⟩ : ∃ V, Hid (V = Nm.v32 (xs.take k) * Nm.v32 ys) := ⟨_, rfl⟩
        have TJ : Hid (TimesInv g K w2 (V + Nm.p32 k * (x * Nm.v32 (ys.take 0))) 0 (k + 0) (k + l2) ps wr) := by
          have h := TI.out
          rw [← HV.out] at h
          simp only [List.take_zero, Nm.v32, Int.mul_zero, Int.add_zero, Nat.add_zero]
          exact h
        clear TI
        go_wp2_with fail
        go_loopw [9, 10] (fun c j wr => ∃ (t : Nat) (cc : Int) (ps : List Int), t ≤ l2 ∧ j = .int .i64 t ∧ c = .int .u64 cc ∧ 0 ≤ cc ∧ cc < 4294967296 ∧ Hid (TimesInv g K w2 (V + Nm.p32 k * (x * Nm.v32 (ys.take t))) cc (k + t) (k + l2) ps wr)) (fun _ j _ => l2 - (intOf j).toNat)
        case atStart => exact ⟨0, 0, ps, Nat.zero_le _, rfl, rfl, by omega, by omega, TJ.out⟩
        case round =>
          clear TJ ps
          obtain ⟨t, cc, ps, ht, rfl, rfl, hc0, hc1, TI⟩ := hrel
          obtain ⟨o1, o2, o3, o4, o5, o6⟩ := TI.out
          by_cases htl : t < l2
          · have htl' : (t : Int) < (l2 : Int) := by omega
            have hx : wr.cell? ⟨g1, k, none⟩ = some (.int .u64 x) := by rw [X.out]; exact (o6.cell (p := ⟨g1, k, none⟩) (BX.out hlt)).trans (CX.out k hlt)
            obtain ⟨y, hy, Y⟩ : ∃ y, wr.cell? ⟨g2, t, none⟩ = some (.int .u64 y) ∧ Hid (y = ys.getD t 0) := ⟨_, (o6.cell (p := ⟨g2, t, none⟩) (BY.out htl)).trans (CY.out t htl), rfl⟩
            have hkt : k + t < K := by have := HK.out; omega
            obtain ⟨pv, hpv, PV⟩ : ∃ pv, wr.cell? ⟨g, k + t, none⟩ = some (.int .u64 pv) ∧ Hid (pv = ps.getD (k + t) 0) := ⟨_, o1.cell (k + t) (by omega), rfl⟩
            have hfr := o1.free (k + t)
            have hy0 : 0 ≤ y := by have := HY.out.at t; have := Y.out; omega
            have hy1 : y < 4294967296 := by have := HY.out.at t; have := Y.out; omega
            have hp0 : 0 ≤ pv := by have := o3.at (k + t); have := PV.out; omega
            have hp1 : pv < 4294967296 := by have := o3.at (k + t); have := PV.out; omega
            have hxy0 : 0 ≤ x * y := Int.mul_nonneg hx0 hy0
            have hxy1 : x * y ≤ 4294967295 * 4294967295 := Int.mul_le_mul (by omega) (by omega) hy0 (by omega)
            obtain ⟨m0, hm0, M0⟩ : ∃ m0, IntKind.u64.wrap (x * y) = m0 ∧ Hid (m0 = x * y) := ⟨_, by rw [IntKind.wrap_u64, Int.emod_eq_of_lt (by omega) (by omega)], rfl⟩
            have hm00 : 0 ≤ m0 := by have := M0.out; omega
            have hm01 : m0 ≤ 18446744065119617025 := by have := M0.out; omega
            obtain ⟨m1, hm1, M1⟩ : ∃ m1, IntKind.u64.wrap (m0 + pv) = m1 ∧ Hid (m1 = m0 + pv) := ⟨_, by rw [IntKind.wrap_u64, Int.emod_eq_of_lt (by omega) (by omega)], rfl⟩
            have hm10 : 0 ≤ m1 := by have := M1.out; omega
            have hm11 : m1 ≤ 18446744069414584320 := by have := M1.out; omega
            obtain ⟨tt, htt, TT⟩ : ∃ tt, IntKind.u64.wrap (m1 + cc) = tt ∧ Hid (tt = m1 + cc) := ⟨_, by rw [IntKind.wrap_u64, Int.emod_eq_of_lt (by omega) (by omega)], rfl⟩
            have htt0 : 0 ≤ tt := by have := TT.out; omega
            have htt1 : tt ≤ 18446744073709551615 := by have := TT.out; omega
            obtain ⟨lo, hlo, LO⟩ : ∃ lo, bits .and .u64 tt 4294967295 = lo ∧ Hid (lo = tt % 4294967296) := ⟨_, r_mask32 tt (by omega) (by omega), rfl⟩
            obtain ⟨hi, hhi, HI⟩ : ∃ hi, tt / 4294967296 = hi ∧ Hid (hi = tt / 4294967296) := ⟨_, rfl, rfl⟩
            have BLO : Hid ((0 ≤ lo ∧ lo < 4294967296) ∧ 0 ≤ hi ∧ hi < 4294967296) := by have := LO.out; have := HI.out; show _ ∧ _; omega
            have ST : Hid (lo + 4294967296 * hi = x * ys.getD t 0 + pv + cc) := by
              have h1 := LO.out; have h2 := HI.out; have h3 := TT.out; have h4 := M1.out; have h5 := M0.out
              rw [Hid, ← Y.out]; omega
            have O1 := hid o1
            have O2 := hid o2
            have O3 := hid o3
            have O4 := hid o4
            have O5 := hid o5
            have O6 := hid o6
            have hkt' : (k : Int) + (t : Int) < (K : Int) := by omega
            clear o1 o2 o3 o4 o5 o6 TI hxy0 hxy1
            go_wp2_with fail
            go_quiet (fail)
            have hpv2 : (wr.drewN nq).cell? ⟨g, k + t, none⟩ = some (.int .u64 pv) := hpv
            have hfr2 : (wr.drewN nq).frozen? ⟨g, k + t, none⟩ = false := hfr
            have P1 : Hid (Own (wr.drewN nq) g ps) := O1.out
            have P6 := hid (below_drewN O6.out nq)
            clear hx hy hpv hfr O1 O6
            generalize wr.drewN nq = wq at *
            go_wp2
            go_roundw
            case rel =>
              refine ⟨t + 1, hi, ps.set (k + t) lo, by omega, by go_num, by first | rfl | rw [hhi], BLO.out.2.1, BLO.out.2.2, P1.out.set _ _, by rw [List.length_set]; exact O2.out, O3.out.set _ BLO.out.1.1 BLO.out.1.2, ?_, ?_, P6.out.setCell (Nat.le_refl _) _⟩
              · exact Nm.times_digit (by have := O2.out; omega) PV.out O4.out ST.out
              · intro s hs
                rw [Nm.getD_set ps (k + t) s lo (by have := O2.out; omega), if_neg (by omega)]
                exact O5.out s hs
            case measure => simp [intOf]; omega
          · have htl' : ¬ (t : Int) < (l2 : Int) := by omega
            obtain rfl : t = l2 := by omega
            rw [List.take_of_length_le (by have := LY.out; omega)] at o4
            have hkt : k + t < K := by have := HK.out; omega
            obtain ⟨pv, hpv⟩ : ∃ pv, wr.cell? ⟨g, k + t, none⟩ = some (.int .u64 pv) := ⟨_, o1.cell (k + t) (by omega)⟩
            have hfr := o1.free (k + t)
            have Z0 := o5 (k + t) (Nat.le_refl _)
            have NX : Hid (TimesInv g K w2 (Nm.v32 (xs.take (k + 1)) * Nm.v32 ys) 0 (k + 1) (k + 1 + t) (ps.set (k + t) cc) (wr.setCell ⟨g, k + t, none⟩ (.int .u64 cc))) := by
              refine ⟨o1.set _ _, by rw [List.length_set]; exact o2, o3.set _ hc0 hc1, ?_, ?_, o6.setCell (Nat.le_refl _) _⟩
              · rw [Nm.v32_set ps (k + t) cc (by omega), Z0, Nm.v32_take_next, ← X.out, Int.add_mul, ← HV.out, Int.mul_zero, Int.add_zero, Int.sub_zero, Int.mul_assoc]
                exact o4
              · intro s hs
                rw [Nm.getD_set ps (k + t) s cc (by omega), if_neg (by omega)]
                exact o5 s (by omega)
            have hkt' : (k : Int) + (t : Int) < (K : Int) := by omega
            clear o1 o2 o3 o4 o5 o6 TI Z0
            go_wp2
            go_roundw
            case rel => exact ⟨k + 1, _, by omega, by go_num, NX.out⟩
            case measure => simp [intOf]; omega
      · have hlt' : ¬ (k : Int) < (l1 : Int) := by omega
        obtain rfl : k = l1 := by omega
        obtain ⟨o1, o2, o3, o4, o5, o6⟩ := TI.out
        rw [List.take_of_length_le (by have := LX.out; omega), VX.out, VY.out, Int.mul_zero, Int.add_zero] at o4
        have D3 := hid (chain D2.out (by rw [Gg.out]; exact o6) (Nat.le_refl _))
        have AG : Hid (Arg wr (some ⟨g, 0, none⟩) K K ps) := ⟨o2, Nat.le_refl _, by have := HK.out; omega, o1.lies, o3.limbs⟩
        have hw3 : Hid (w.heap.size ≤ wr.heap.size) := D3.out.size
        have HV := hid o4
        have HS := hid o3
        clear o1 o2 o3 o4 o5 o6 TI
        go_wp2_with fail
        refine (rlimbs_any _ K K ps _ AG.out HS.out).mono ?_
        rintro e w4 ⟨r, os, rfl, hA, hb⟩
        rw [HV.out] at hA
        have A4 := hid (hA.mono hw3.out)
        have D4 := hid (chain D3.out hb (Nat.le_refl _))
        clear hA hb
        go_wp2
        go_ret
        exact ⟨r, os, rfl, A4.out, D4.out⟩
end Go.Proofs.YtggikfcdecnooaaGreatDoor

namespace Go.Proofs.YtggikfcdecnooaaGreatDoor
open Go.RowKit Go.Deep

/-- The kit's contract for TrailingZeros64, laid at this program. -/
def tzRen : Go.Shelf.Ren := ⟨fun _ => 147, fun t => if t = 22 then 22 else if t = 25 then 47 else if t = 54 then 179 else if t = 5 then 5 else if t = 4 then 4 else if t = 0 then 0 else 3, fun _ => 5⟩
theorem tzLays : Lays7.n29 Tryz.prog tzRen where
  mixed := by kernel_rfl
  f29 := by kernel_rfl
  t0 := by kernel_rfl
  a0 := fun _ => by kernel_rfl
  z0 := fun _ => by kernel_rfl
  v0 := fun _ => by kernel_rfl
  i0 := by kernel_rfl
  t3 := by kernel_rfl
  a3 := fun _ => by kernel_rfl
  z3 := fun _ => by kernel_rfl
  v3 := fun _ => by kernel_rfl
  i3 := by kernel_rfl
  t4 := by kernel_rfl
  a4 := fun _ => by kernel_rfl
  z4 := fun _ => by kernel_rfl
  v4 := fun _ => by kernel_rfl
  i4 := by kernel_rfl
  t5 := by kernel_rfl
  a5 := fun _ => by kernel_rfl
  z5 := fun _ => by kernel_rfl
  v5 := fun _ => by kernel_rfl
  i5 := by kernel_rfl
  t22 := by kernel_rfl
  a22 := fun _ => by kernel_rfl
  z22 := fun _ => by kernel_rfl
  v22 := fun _ => by kernel_rfl
  i22 := by kernel_rfl
  t25 := by kernel_rfl
  a25 := fun _ => by kernel_rfl
  z25 := fun _ => by kernel_rfl
  v25 := fun _ => by kernel_rfl
  i25 := by kernel_rfl
  t54 := by kernel_rfl
  a54 := fun _ => by kernel_rfl
  z54 := fun _ => by kernel_rfl
  g1 := by kernel_rfl

/-- The table that TrailingZeros64 reads. -/
def Tab (w : World) : Prop := TabAt 5 Lib.deBruijn64tab w

theorem Tab.below {w w' : World} (h : Tab w) (hb : Below w.heap.size w w') : Tab w' := by
  intro j hj
  have hc := h j hj
  rw [hb.cell (p := ⟨5, j, none⟩) (cell_lt hc)]
  exact hc

theorem tz64 (x : Int) (w : World) (h0 : 0 < x) (h1 : x < 18446744073709551616) (hT : Tab w) :
    Calls Tryz.prog 147 #[.int .u64 x] w fun e w' => ∃ (t : Nat) (m : Int), e = .returned (.int .i64 t) ∧ t ≤ 63 ∧ Hid (x = 2 ^ t * (2 * m + 1)) ∧ w' = w := by
  obtain ⟨n, rfl⟩ := Int.eq_ofNat_of_zero_le (show 0 ≤ x by omega)
  refine (Any7.bits_TrailingZeros64 tzLays n (by omega) w (fun _ => hT)).mono ?_
  rintro e w' ⟨rfl, rfl⟩
  obtain ⟨m, hm, hlt⟩ := Lib.ctzFrom_spec 64 n (by omega) (by simpa using (show n < 18446744073709551616 by omega))
  refine ⟨Lib.ctzFrom 64 n, m, by rw [Lib.ctz, if_neg (by omega)], by omega, ?_, rfl⟩
  show (n : Int) = _
  have e : ((2 ^ Lib.ctzFrom 64 n * (2 * m + 1) : Nat) : Int) = 2 ^ Lib.ctzFrom 64 n * (2 * (m : Int) + 1) := by simp
  rw [← e, ← hm]

end Go.Proofs.YtggikfcdecnooaaGreatDoor

namespace Go.Proofs.YtggikfcdecnooaaGreatDoor
open Go.RowKit Go.Deep

theorem cmp_at3 {zs ys : List Int} (hz : Nm.Limbs zs) (hy : Nm.Limbs ys) (hl : (Nm.trim zs).length = (Nm.trim ys).length) (t : Nat) (ht : t < (Nm.trim zs).length) (he : ∀ i, t + 1 ≤ i → (Nm.trim zs).getD i 0 = (Nm.trim ys).getD i 0) {x y : Int}
    (hx : x = (Nm.trim zs).getD t 0) (hy' : y = (Nm.trim ys).getD t 0) : (x < y → cmpI (Nm.val zs) (Nm.val ys) = -1) ∧ (y < x → cmpI (Nm.val zs) (Nm.val ys) = 1) := by
  refine ⟨fun h => ?_, fun h => ?_⟩
  · rw [← cmp_at hz hy hl t ht he hx hy' (by omega)]
    simp [sgn]; omega
  · rw [← cmp_at hz hy hl t ht he hx hy' (by omega)]
    simp [sgn, h]

set_option maxRecDepth 100000 in
set_option maxHeartbeats 2000000 in
theorem refCmp_any (p q : Option Addr) (n cap m cap' : Nat) (zs ys : List Int) (w : World) (ha : Arg w p n cap zs) (hb : Arg w q m cap' ys) :
    Calls Tryz.prog 69 #[.slice p n cap, .slice q m cap'] w fun e w' => e = .returned (.int .i64 (cmpI (Nm.val zs) (Nm.val ys))) ∧ Below w.heap.size w w' := by
  obtain ⟨a1, a2, a3, a4, a5⟩ := ha
  obtain ⟨b1, b2, b3, b4, b5⟩ := hb
  have tl := Nm.tsize_le zs
  have tl' := Nm.tsize_le ys
  have S1 := hid (refSize_any p n cap zs w a1 (by omega) a4)
  have S2 := hid (refSize_any q m cap' ys w b1 (by omega) b4)
  by_cases h1 : Nm.tsize zs < Nm.tsize ys
  · have E := hid (cmpI_lt (val_lt_of_tsize a5 b5 h1))
    have h1' : (Nm.tsize zs : Int) < (Nm.tsize ys : Int) := by omega
    clear h1
    go_enter Tryz.func69, Tryz.ntmps69
    go_wp2_with fail
    refine S1.out.mono ?_
    rintro e w' ⟨rfl, rfl⟩
    go_wp2_with fail
    refine S2.out.mono ?_
    rintro e w' ⟨rfl, rfl⟩
    go_wp2
    go_ret
    exact ⟨ret_i64 E.out.symm, Below.refl _ _⟩
  by_cases h2 : Nm.tsize ys < Nm.tsize zs
  · have E := hid (cmpI_gt (val_lt_of_tsize b5 a5 h2))
    have h1' : ¬ (Nm.tsize zs : Int) < (Nm.tsize ys : Int) := by omega
    have h2' : (Nm.tsize ys : Int) < (Nm.tsize zs : Int) := by omega
    clear h1 h2
    go_enter Tryz.func69, Tryz.ntmps69
    go_wp2_with fail
    refine S1.out.mono ?_
    rintro e w' ⟨rfl, rfl⟩
    go_wp2_with fail
    refine S2.out.mono ?_
    rintro e w' ⟨rfl, rfl⟩
    go_wp2
    go_ret
    exact ⟨ret_i64 E.out.symm, Below.refl _ _⟩
  obtain ⟨N, HN⟩ : ∃ N, Hid (Nm.tsize zs = N) := ⟨_, rfl⟩
  have HN' : Hid (Nm.tsize ys = N) := by have := HN.out; exact (show Nm.tsize ys = N by omega)
  have T1 := S1.out
  have T2 := S2.out
  rw [HN.out] at T1
  rw [HN'.out] at T2
  have HT1 := hid T1
  have HT2 := hid T2
  have hN : N ≤ 17592186044416 := by have := HN.out; omega
  have L1 := hid (Nm.trim_length zs)
  have L2 := hid (Nm.trim_length ys)
  clear h1 h2 tl tl' T1 T2 S1 S2
  have FIN : Hid (Nm.trim zs = Nm.trim ys → cmpI (Nm.val zs) (Nm.val ys) = 0) := fun h => cmpI_eq (by rw [← Nm.val_trim zs, ← Nm.val_trim ys, h])
  by_cases h0 : N = 0
  · subst h0
    go_enter Tryz.func69, Tryz.ntmps69
    go_wp2_with fail
    refine HT1.out.mono ?_
    rintro e w' ⟨rfl, rfl⟩
    go_wp2_with fail
    refine HT2.out.mono ?_
    rintro e w' ⟨rfl, rfl⟩
    go_wp2_with fail
    refine wp_loop_rounds 1 ?_
    rw [rounds_succ]
    go_wp2
    go_ret
    exact ⟨ret_i64 (FIN.out (by rw [List.eq_nil_of_length_eq_zero (L1.out.trans HN.out), List.eq_nil_of_length_eq_zero (L2.out.trans HN'.out)])).symm, Below.refl _ _⟩
  · obtain ⟨b, off, rfl, hbw, HC⟩ := a4.trim.at (by have := L1.out; have := HN.out; omega)
    obtain ⟨b', off', rfl, hbw', HC'⟩ := b4.trim.at (by have := L2.out; have := HN'.out; omega)
    have hNn : N ≤ n := by have := HN.out; have := Nm.tsize_le zs; omega
    have hNm : N ≤ m := by have := HN'.out; have := Nm.tsize_le ys; omega
    go_enter Tryz.func69, Tryz.ntmps69
    go_wp2_with fail
    refine HT1.out.mono ?_
    rintro e w' ⟨rfl, rfl⟩
    go_wp2_with fail
    refine HT2.out.mono ?_
    rintro e w' ⟨rfl, rfl⟩
    go_wp2_with fail
    go_loopw [7] (fun i wr => ∃ j : Nat, j ≤ N ∧ i = .int .i64 ((j : Int) - 1) ∧ Hid (∀ t, j ≤ t → (Nm.trim zs).getD t 0 = (Nm.trim ys).getD t 0) ∧ Below w'.heap.size w' wr) (fun i _ => (intOf i + 1).toNat)
    case atStart => exact ⟨N, Nat.le_refl _, rfl, fun t ht => by rw [List.getD, List.getElem?_eq_none (by have := L1.out; have := HN.out; omega), List.getD, List.getElem?_eq_none (by have := L2.out; have := HN'.out; omega)], Below.refl _ _⟩
    case round =>
      obtain ⟨j, hj, rfl, hE, hB⟩ := hrel
      by_cases hj0 : j = 0
      · subst hj0
        have HB := hid hB
        clear hB
        go_wp2
        go_ret
        refine ⟨ret_i64 (FIN.out ?_).symm, HB.out⟩
        have e := Nm.drop_eq_of_getD (by rw [L1.out, L2.out, HN.out, HN'.out]) 0 hE.out
        simpa using e
      · obtain ⟨t, rfl⟩ : ∃ t, j = t + 1 := ⟨j - 1, by omega⟩
        obtain ⟨x, hx, X⟩ : ∃ x, wr.cell? ⟨b, off + t, none⟩ = some (.int .u64 x) ∧ Hid (x = (Nm.trim zs).getD t 0) := ⟨_, (hB.cell (p := ⟨b, off + t, none⟩) hbw).trans (HC.out t (by have := L1.out; have := HN.out; omega)), rfl⟩
        obtain ⟨y, hy, Y⟩ : ∃ y, wr.cell? ⟨b', off' + t, none⟩ = some (.int .u64 y) ∧ Hid (y = (Nm.trim ys).getD t 0) := ⟨_, (hB.cell (p := ⟨b', off' + t, none⟩) hbw').trans (HC'.out t (by have := L2.out; have := HN'.out; omega)), rfl⟩
        have HB := hid hB
        have CM := hid (cmp_at3 a5 b5 (by rw [L1.out, L2.out, HN.out, HN'.out]) t (by rw [L1.out, HN.out]; omega) hE.out X.out Y.out)
        clear hB
        have htn : (t : Int) < (n : Int) := by omega
        have htm : (t : Int) < (m : Int) := by omega
        by_cases hxy : x < y
        · go_wp2_with fail
          go_quiet (fail)
          go_wp2
          go_ret
          exact ⟨ret_i64 (CM.out.1 hxy).symm, below_drewN HB.out _⟩
        · go_wp2_with fail
          go_quiet (fail)
          have hx2 : (wr.drewN nq).cell? ⟨b, off + t, none⟩ = some (.int .u64 x) := hx
          have hy2 : (wr.drewN nq).cell? ⟨b', off' + t, none⟩ = some (.int .u64 y) := hy
          have HB2 := hid (below_drewN HB.out nq)
          clear hx hy HB
          generalize wr.drewN nq = wq at *
          by_cases hyx : y < x
          · go_wp2_with fail
            go_quiet (fail)
            go_wp2
            go_ret
            exact ⟨ret_i64 (CM.out.2 hyx).symm, below_drewN HB2.out _⟩
          · have EQ : Hid (x = y) := by show _ = _; omega
            go_wp2_with fail
            go_quiet (fail)
            go_wp2
            go_roundw
            case rel =>
              refine ⟨t, by omega, by go_num, fun i hi => ?_, below_drewN HB2.out _⟩
              by_cases e : i = t
              · subst e; rw [← X.out, ← Y.out]; exact EQ.out
              · exact hE.out i (by omega)
            case measure => simp [intOf]
end Go.Proofs.YtggikfcdecnooaaGreatDoor

namespace Go.Proofs.YtggikfcdecnooaaGreatDoor
open Go.RowKit Go.Deep

namespace Nm
theorem p32_pow : ∀ z, p32 z = 2 ^ (32 * z)
  | 0 => rfl
  | z + 1 => by
    rw [show 32 * (z + 1) = 32 * z + 32 by omega, two_add, ← p32_pow z]
    simp only [p32]
    rw [Int.mul_comm, show (2 : Int) ^ 32 = 4294967296 by decide]

theorem lift_step {ss xs : List Int} {z j : Nat} {F c c' lo : Int} (hl : ss.length = z + j) (h : v32 ss + p32 (z + j) * c = p32 z * (F * v32 (xs.take j))) (hs : lo + 4294967296 * c' = xs.getD j 0 * F + c) :
    v32 (ss ++ [lo]) + p32 (z + (j + 1)) * c' = p32 z * (F * v32 (xs.take (j + 1))) := by
  rw [v32_snoc, v32_take_next, hl, Int.mul_add F, Int.mul_add (p32 z)]
  have e1 : p32 (z + (j + 1)) * c' = p32 (z + j) * (4294967296 * c') := by
    rw [← Nat.add_assoc]; simp only [p32]; rw [Int.mul_comm 4294967296 (p32 (z + j)), Int.mul_assoc]
  have e2 : p32 z * (F * (p32 j * xs.getD j 0)) = p32 (z + j) * (xs.getD j 0 * F) := by
    rw [p32_add, Int.mul_left_comm F, ← Int.mul_assoc, Int.mul_comm F]
  have e3 : p32 (z + j) * (lo + 4294967296 * c') = p32 (z + j) * (xs.getD j 0 * F + c) := by rw [hs]
  rw [Int.mul_add, Int.mul_add] at e3
  omega
end Nm

set_option maxRecDepth 20000 in
set_option maxRecDepth 100000 in
set_option maxHeartbeats 4000000 in
theorem lift_any (p : Option Addr) (n cap : Nat) (za : List Int) (kk : Int) (k : Nat) (w : World) (ha : Arg w p n cap za) (hn : Nm.tsize za ≤ 1099511627776) (hkk : kk = (k : Int)) (hk : k ≤ 4194304) :
    Calls Tryz.prog 102 #[.slice p n cap, .int .i64 kk] w fun e w' => ∃ r os, e = .returned (.slice r (List.length os) (List.length os)) ∧ Ans w.heap.size w' r os (Nm.val za * 2 ^ k) ∧ Below w.heap.size w w' := by
  have HA := hid ha
  have hk0 : 0 ≤ kk := by omega
  have hk1 : kk ≤ 4194304 := by omega
  obtain ⟨z, HZ⟩ : ∃ z : Nat, Hid (kk / 32 = (z : Int) ∧ z = k / 32) := ⟨k / 32, by show _ ∧ _; omega⟩
  obtain ⟨r, HR⟩ : ∃ r : Nat, Hid (kk % 32 = (r : Int) ∧ r = k % 32) := ⟨k % 32, by show _ ∧ _; omega⟩
  have KZ : Hid (k = 32 * z + r) := by have := HZ.out; have := HR.out; show _ = _; omega
  have hz8 : z ≤ 131072 := by have := HZ.out; omega
  have hr31 : r ≤ 31 := by have := HR.out; omega
  clear ha hkk hk
  go_enter Tryz.func102, Tryz.ntmps102
  go_wp2_with fail
  refine (halves_any p n cap za _ HA.out (by have := HA.out.2.1; have := HA.out.2.2.1; omega)).mono ?_
  rintro e w1 ⟨xs, rfl, lx, hx, vx, kx, bx⟩
  have D1 := hid bx
  obtain ⟨l1, LX⟩ : ∃ l1, Hid (xs.length = l1) := ⟨_, rfl⟩
  have HX := hid hx
  have VX := hid vx
  have kx1 : l1 ≤ 2 * Nm.tsize za := by have := LX.out; omega
  obtain ⟨g1, G1⟩ : ∃ g1, w.heap.size = g1 := ⟨_, rfl⟩
  have lx2 := lx
  rw [G1] at lx2
  have CX : Hid (∀ i, i < l1 → w1.cell? ⟨g1, i, none⟩ = some (.int .u64 (xs.getD i 0))) := fun i hi => by have := lx2.cells i (by have := LX.out; omega); rwa [Nat.zero_add] at this
  obtain ⟨g, Gg⟩ : ∃ g, Hid (w1.heap.size = g) := ⟨_, rfl⟩
  have BX : Hid (∀ {j : Nat}, j < l1 → g1 < g) := fun {j} hj => by rw [← Gg.out]; exact cell_lt (CX.out j hj)
  rw [LX.out, G1]
  clear lx lx2 hx vx kx bx
  by_cases hz : l1 = 0
  · have V0 : Hid (Nm.val za * 2 ^ k = 0) := by
      rw [Hid, ← VX.out, List.eq_nil_of_length_eq_zero (LX.out.trans hz)]; simp [Nm.v32]
    have D3 := hid (chain D1.out ((Below.refl w1.heap.size w1).alloc (Nat.le_refl _) (.cells #[] 22)) (Nat.le_refl _))
    have GS : Hid (w.heap.size ≤ g) := by rw [← Gg.out]; exact D1.out.size
    have FIN : Hid (∀ x : World, Below w.heap.size w x → ∃ r os, Ending.returned (.slice (some ⟨g, 0, none⟩) 0 0) = .returned (.slice r (List.length os) (List.length os)) ∧ Ans w.heap.size x r os (Nm.val za * 2 ^ k) ∧ Below w.heap.size w x) := fun x hx => ⟨some ⟨g, 0, none⟩, [], rfl, ⟨Lies.nil _ _, Nm.Limbs.nil, rfl, V0.out.symm, fun a h => by cases h; exact GS.out⟩, hx⟩
    subst hz
    go_wp2
    go_ret
    rw [Gg.out]
    exact FIN.out _ D3.out
  · have h1' : ((l1 : Int) == 0) = false := by rw [beq_eq_false_iff_ne]; omega
    obtain ⟨C, HC⟩ : ∃ C, Hid (z + l1 + 1 = C) := ⟨_, rfl⟩
    have hmk := make64_room (z + l1 + 1) (by omega) w1
    rw [show ((z + l1 + 1 : Nat) : Int) = kk / 32 + (l1 : Int) + 1 by have := HZ.out; omega, HC.out, Gg.out] at hmk
    have bm := hid ((Below.refl w1.heap.size w1).alloc (Nat.le_refl _) (.cells (madeCells #[.int .u64 0] C) 22))
    have gm := hid (Grown.made w1 C)
    rw [Gg.out] at bm gm
    generalize w1.alloc (.cells (madeCells #[.int .u64 0] C) 22) = wm at hmk bm gm
    have hCb : C ≤ 35184372088832 := by have := HC.out; omega
    go_wp2
    clear hmk
    go_loopw [6, 7] (fun a i wr => ∃ j : Nat, j ≤ z ∧ i = .int .i64 j ∧ a = .slice (some ⟨g, 0, none⟩) j C ∧ Hid (Grown wr g (List.replicate j 0) (C - j)) ∧ Below g w1 wr) (fun _ i _ => z - (intOf i).toNat)
    case atStart => exact ⟨0, Nat.zero_le _, rfl, rfl, gm.out, bm.out⟩
    case round =>
      obtain ⟨j, hj, rfl, rfl, G, hB⟩ := hrel
      by_cases hlt : j < z
      · have hlt' : (j : Int) < kk / 32 := by have := HZ.out; omega
        have G' := G.out
        rw [show C - j = (C - j - 1) + 1 by have := HC.out; omega] at G'
        obtain ⟨w2, ap, gr, be, sz⟩ := push64 g j (C - j - 1) C (List.replicate j 0) 0 wr (by simp) (by have := HC.out; omega) G'
        have AP := hid ap
        have GR := hid gr
        have BE := hid (hB.trans be)
        clear ap gr be sz hB G G'
        go_wp2_with (at_builtin; refine wpList_append_row rfl _ _ rfl AP.out (by rfl) (by rfl) ?_; clear AP)
        go_roundw
        case rel =>
          refine ⟨j + 1, by omega, by go_num, rfl, ?_, BE.out⟩
          have := GR.out
          rw [← List.replicate_succ'] at this
          exact this
        case measure => simp [intOf]; omega
      · have hlt' : ¬ (j : Int) < kk / 32 := by have := HZ.out; omega
        obtain rfl : j = z := by omega
        have HB := hid hB
        clear hB
        go_wp2
        go_loop [8, 9] (fun f i => ∃ (t : Nat) (F : Int), t ≤ r ∧ i = .int .i64 t ∧ f = .int .u64 F ∧ 1 ≤ F ∧ F ≤ 2147483648 ∧ Hid (F = 2 ^ t)) (fun _ i => r - (intOf i).toNat)
        case atStart => exact ⟨0, 1, Nat.zero_le _, rfl, rfl, by omega, by omega, rfl⟩
        case round =>
          obtain ⟨t, F, ht, rfl, rfl, hF0, hF1, HF⟩ := hrel
          by_cases htl : t < r
          · have htl' : (t : Int) < kk % 32 := by have := HR.out; omega
            obtain ⟨F2, hF2, FF⟩ : ∃ F2, IntKind.u64.wrap (F * 2) = F2 ∧ Hid (F2 = F * 2) := ⟨_, by rw [IntKind.wrap_u64, Int.emod_eq_of_lt (by omega) (by omega)], rfl⟩
            have E2 : Hid (F2 = 2 ^ (t + 1)) := by rw [Hid, FF.out, HF.out, Nm.two_succ, Int.mul_comm]
            have hF20 : 1 ≤ F2 := by have := FF.out; omega
            have hF21 : F2 ≤ 2147483648 := by
              rw [E2.out]
              have := Nm.two_mono (show t + 1 ≤ 31 by omega)
              have e : (2 : Int) ^ 31 = 2147483648 := by decide
              omega
            go_wp2
            go_round
            case rel => exact ⟨t + 1, F2, by omega, by go_num, by first | rfl | rw [hF2], hF20, hF21, E2.out⟩
            case measure => simp [intOf]; omega
          · have htl' : ¬ (t : Int) < kk % 32 := by have := HR.out; omega
            obtain rfl : t = r := by omega
            have FV : Hid (Nm.p32 j * (F * Nm.v32 xs) = Nm.val za * 2 ^ k) := by
              rw [Hid, Nm.p32_pow, HF.out, VX.out, KZ.out, Nm.two_add, ← Int.mul_assoc, Int.mul_comm]
            go_wp2
            go_loopw [6, 10, 11] (fun a c i wr => ∃ (i' : Nat) (cc : Int) (ss : List Int), i' ≤ l1 ∧ i = .int .i64 i' ∧ a = .slice (some ⟨g, 0, none⟩) (j + i') C ∧ c = .int .u64 cc ∧ 0 ≤ cc ∧ cc < 4294967296 ∧ Hid (Grown wr g ss (C - (j + i'))) ∧ Hid (ss.length = j + i') ∧ Hid (Nm.Halves ss) ∧ Hid (Nm.v32 ss + Nm.p32 (j + i') * cc = Nm.p32 j * (F * Nm.v32 (xs.take i'))) ∧ Below g w1 wr) (fun _ _ i _ => l1 - (intOf i).toNat)
            case atStart => exact ⟨0, 0, List.replicate j 0, Nat.zero_le _, rfl, rfl, rfl, by omega, by omega, G.out, by simp [Hid], Nm.Halves.zeros _, by simp [Hid, Nm.v32_zeros, Nm.v32], HB.out⟩
            case round =>
              obtain ⟨i', cc, ss, hi', rfl, rfl, rfl, hc0, hc1, G3, L, HS, V, hB⟩ := hrel
              have G' := G3.out
              rw [show C - (j + i') = (C - (j + i') - 1) + 1 by have := HC.out; omega] at G'
              by_cases hl : i' < l1
              · have hl' : (i' : Int) < (l1 : Int) := by omega
                obtain ⟨x, hx, X⟩ : ∃ x, wr.cell? ⟨g1, i', none⟩ = some (.int .u64 x) ∧ Hid (x = xs.getD i' 0) := ⟨_, (hB.cell (p := ⟨g1, i', none⟩) (BX.out hl)).trans (CX.out i' hl), rfl⟩
                have hx0 : 0 ≤ x := by have := HX.out.at i'; have := X.out; omega
                have hx1 : x < 4294967296 := by have := HX.out.at i'; have := X.out; omega
                have hxf0 : 0 ≤ x * F := Int.mul_nonneg hx0 (by omega)
                have hxf1 : x * F ≤ 4294967295 * 2147483648 := Int.mul_le_mul (by omega) hF1 (by omega) (by omega)
                obtain ⟨m0, hm0, M0⟩ : ∃ m0, IntKind.u64.wrap (x * F) = m0 ∧ Hid (m0 = x * F) := ⟨_, by rw [IntKind.wrap_u64, Int.emod_eq_of_lt (by omega) (by omega)], rfl⟩
                have hm00 : 0 ≤ m0 := by have := M0.out; omega
                have hm01 : m0 ≤ 9223372034707292160 := by have := M0.out; omega
                obtain ⟨tt, htt, TT⟩ : ∃ tt, IntKind.u64.wrap (m0 + cc) = tt ∧ Hid (tt = m0 + cc) := ⟨_, by rw [IntKind.wrap_u64, Int.emod_eq_of_lt (by omega) (by omega)], rfl⟩
                have htt0 : 0 ≤ tt := by have := TT.out; omega
                have htt1 : tt ≤ 9223372039002259455 := by have := TT.out; omega
                obtain ⟨lo, hlo, LO⟩ : ∃ lo, bits .and .u64 tt 4294967295 = lo ∧ Hid (lo = tt % 4294967296) := ⟨_, r_mask32 tt (by omega) (by omega), rfl⟩
                obtain ⟨hi, hhi, HI⟩ : ∃ hi, tt / 4294967296 = hi ∧ Hid (hi = tt / 4294967296) := ⟨_, rfl, rfl⟩
                have BLO : Hid ((0 ≤ lo ∧ lo < 4294967296) ∧ 0 ≤ hi ∧ hi < 4294967296) := by have := LO.out; have := HI.out; show _ ∧ _; omega
                have ST : Hid (lo + 4294967296 * hi = xs.getD i' 0 * F + cc) := by
                  have h1 := LO.out; have h2 := HI.out; have h3 := TT.out; have h5 := M0.out
                  rw [Hid, ← X.out]; omega
                obtain ⟨w2, ap, gr, be, sz⟩ := push64 g (j + i') (C - (j + i') - 1) C ss lo wr L.out (by have := HC.out; omega) G'
                have AP := hid ap
                have GR := hid gr
                have BE := hid (hB.trans be)
                clear ap gr be sz hB G3 G' hxf0 hxf1
                go_wp2_with (at_builtin; refine wpList_append_row rfl _ _ rfl AP.out (by rfl) (by rfl) ?_; clear AP)
                go_roundw
                case rel =>
                  refine ⟨i' + 1, hi, ss ++ [lo], by omega, by go_num, rfl, by first | rfl | rw [hhi], BLO.out.2.1, BLO.out.2.2, GR.out, ?_, HS.out.snoc BLO.out.1.1 BLO.out.1.2, ?_, BE.out⟩
                  · have := L.out; simp only [Hid, List.length_append, List.length_cons, List.length_nil]; omega
                  · exact Nm.lift_step L.out V.out ST.out
                case measure => simp [intOf]; omega
              · have hl' : ¬ (i' : Int) < (l1 : Int) := by omega
                obtain ⟨w3, ap, gr, be, sz⟩ := push64 g (j + i') (C - (j + i') - 1) C ss cc wr L.out (by have := HC.out; omega) G'
                have AP := hid ap
                have D3 := hid (chain D1.out (by rw [Gg.out]; exact hB.trans be) (Nat.le_refl _))
                have VV : Hid (Nm.v32 (ss ++ [cc]) = Nm.val za * 2 ^ k) := by
                  have := V.out
                  rw [List.take_of_length_le (by have := LX.out; omega), FV.out] at this
                  rw [Hid, Nm.v32_snoc, L.out]
                  exact this
                have HS2 := hid (HS.out.snoc hc0 hc1)
                have AG : Hid (Arg w3 (some ⟨g, 0, none⟩) (j + i' + 1) C (ss ++ [cc])) := ⟨by simp [L.out], by have := HC.out; omega, by have := HC.out; omega, gr.lies, HS2.out.limbs⟩
                have hw3 : Hid (w.heap.size ≤ w3.heap.size) := D3.out.size
                clear ap gr be sz hB G3 G'
                go_wp2_with (at_builtin; refine wpList_append_row rfl _ _ rfl AP.out (by rfl) (by rfl) ?_; clear AP)
                refine (rlimbs_any _ (j + i' + 1) C (ss ++ [cc]) _ AG.out HS2.out).mono ?_
                rintro e w4 ⟨r4, os, rfl, hA, hb⟩
                rw [VV.out] at hA
                have A4 := hid (hA.mono hw3.out)
                have D4 := hid (chain D3.out hb (Nat.le_refl _))
                clear hA hb
                go_wp2
                go_ret
                exact ⟨r4, os, rfl, A4.out, D4.out⟩
end Go.Proofs.YtggikfcdecnooaaGreatDoor

namespace Go.Proofs.YtggikfcdecnooaaGreatDoor
open Go Go.RowKit Go.Deep Go.Shelf

theorem pw_bd {a b : Nat} (h : 4 * a + b < 262144) : (10 : Int) ^ a * 2 ^ b < Nm.pw 4096 := by
  rw [Nm.pw_two]
  obtain ⟨K, hK⟩ : ∃ K : Nat, 64 * 4096 = K := ⟨_, rfl⟩
  rw [hK]
  have hK2 : 4 * a + b < K := by omega
  clear hK h
  have h1 : (10 : Int) ^ a ≤ 2 ^ (4 * a) := by
    have : (10 ^ a : Nat) ≤ 16 ^ a := Nat.pow_le_pow_left (by omega) a
    rw [show (16 : Nat) = 2 ^ 4 from rfl, ← Nat.pow_mul] at this
    exact_mod_cast this
  have h2 : (10 : Int) ^ a * 2 ^ b ≤ 2 ^ (4 * a) * 2 ^ b := Int.mul_le_mul_of_nonneg_right h1 (Int.le_of_lt (Int.pow_pos (by omega)))
  rw [← Int.pow_add] at h2
  have h3 : (2 : Int) ^ (4 * a + b) < 2 ^ K := by
    have : (2 ^ (4 * a + b) : Nat) < 2 ^ K := Nat.pow_lt_pow_right (by omega) hK2
    exact_mod_cast this
  omega
theorem pw_bdm {m : Int} {a b : Nat} (m0 : 0 ≤ m) (m1 : m < 18446744073709551616) (h : 4 * a + b < 262000) : m * 10 ^ a * 2 ^ b < Nm.pw 4096 := by
  have h1 := pw_bd (a := a) (b := b + 64) (by omega)
  have p1 : (0 : Int) < 10 ^ a * 2 ^ b := Int.mul_pos (Int.pow_pos (by omega)) (Int.pow_pos (by omega))
  have h2 : m * (10 ^ a * 2 ^ b) ≤ 18446744073709551616 * (10 ^ a * 2 ^ b) := Int.mul_le_mul_of_nonneg_right (by omega) (Int.le_of_lt p1)
  rw [Int.pow_add, show (2 : Int) ^ 64 = 18446744073709551616 from rfl, ← Int.mul_assoc, Int.mul_comm] at h1
  rw [Int.mul_assoc]
  omega

def TenTold (k : Nat) (w : World) (e : Ending) (w' : World) : Prop := ∃ r os, e = .returned (.slice r (List.length os) (List.length os)) ∧ Ans w.heap.size w' r os (10 ^ k) ∧ Below w.heap.size w w'
set_option maxRecDepth 100000 in
theorem xten_any (k : Int) (w : World) (hk : k ≤ 10000) (hk0 : -9223372036854775808 ≤ k) : Calls Tryz.prog 101 #[.int .i64 k] w fun e w' => TenTold k.toNat w e w' := by
  have G : ∀ (n : Nat), n ≤ 10000 → ∀ e w', Gives (10 ^ n) w e w' → ∃ r os, e = .returned (.tuple #[.slice r (List.length os) (List.length os), .int .i64 0]) ∧ Ans w.heap.size w' r os (10 ^ n) ∧ Below w.heap.size w w' := by
    rintro n hn e w' ⟨h | h, hb⟩
    · obtain ⟨-, r, os, he, ha⟩ := h
      exact ⟨r, os, he, ha, hb⟩
    · have := pw_bd (a := n) (b := 0) (by omega)
      rw [Int.pow_zero, Int.mul_one] at this
      omega
  by_cases h : k < 0
  · have P := hid ((rpow10_gives 0 0 w rfl (by omega)).mono (G 0 (by omega)))
    rw [show k.toNat = 0 by omega]
    clear G hk
    go_enter Tryz.func101, Tryz.ntmps101
    go_wp2_with fail
    with_reducible refine P.out.mono ?_
    rintro e w1 ⟨r, os, rfl, a, b⟩
    have F : Hid (TenTold 0 w (.returned (.slice r (List.length os) (List.length os))) w1) := ⟨r, os, rfl, a, b⟩
    clear a b P
    go_wp2_with fail
    go_ret
    exact F.out
  · have P := hid ((rpow10_gives k k.toNat w (by omega) (by omega)).mono (G k.toNat (by omega)))
    clear G hk
    generalize k.toNat = n at *
    go_enter Tryz.func101, Tryz.ntmps101
    go_wp2_with fail
    with_reducible refine P.out.mono ?_
    rintro e w1 ⟨r, os, rfl, a, b⟩
    have F : Hid (TenTold n w (.returned (.slice r (List.length os) (List.length os))) w1) := ⟨r, os, rfl, a, b⟩
    clear a b P
    go_wp2_with fail
    go_ret
    exact F.out

def ScTold (m x e : Int) (w : World) (en : Ending) (w' : World) : Prop := ∃ r os s us, en = .returned (.tuple #[.slice r (List.length os) (List.length os), .slice s (List.length us) (List.length us)]) ∧ Ans w.heap.size w' r os (m * 10 ^ (-e).toNat * 2 ^ x.toNat) ∧ Ans w.heap.size w' s us (10 ^ e.toNat * 2 ^ (-x).toNat) ∧ Below w.heap.size w w'
set_option maxRecDepth 100000 in
set_option maxHeartbeats 2000000 in
theorem xscaled_any (m x e : Int) (w : World) (m0 : 0 ≤ m) (m1 : m < 18446744073709551616) (x0 : -2000 ≤ x) (x1 : x ≤ 2000) (e0 : -10000 ≤ e) (e1 : e ≤ 10000) :
    Calls Tryz.prog 64 #[.int .u64 m, .int .i64 x, .int .i64 e] w fun en w' => ScTold m x e w en w' := by
  have bA := hid (alloc_b w (.cells #[.int .u64 m] 22))
  have A0 : Hid (Arg (w.alloc (.cells #[.int .u64 m] 22)) (some ⟨w.heap.size, 0, none⟩) 1 1 [m]) := ⟨rfl, Nat.le_refl _, by omega, (Own.alloc w [m]).lies, limb_one ⟨m0, m1⟩⟩
  have T1 := hid (fun W' => xten_any (-e) W' (by omega) (by omega))
  have T2 := hid (fun W' => xten_any e W' (by omega) (by omega))
  have p1 : Hid ((10 : Int) ^ (-e).toNat < Nm.pw 4096) := by have := pw_bd (a := (-e).toNat) (b := 0) (by omega); rw [Int.pow_zero, Int.mul_one] at this; exact this
  have p2 : Hid ((10 : Int) ^ e.toNat < Nm.pw 4096) := by have := pw_bd (a := e.toNat) (b := 0) (by omega); rw [Int.pow_zero, Int.mul_one] at this; exact this
  have p3 : Hid (m * (10 : Int) ^ (-e).toNat < Nm.pw 4096) := by have := pw_bdm (a := (-e).toNat) (b := 0) m0 m1 (by omega); rw [Int.pow_zero, Int.mul_one] at this; exact this
  have LX : Hid (0 ≤ x → x.toNat ≤ 2000 ∧ x = (x.toNat : Int) ∧ (-x).toNat = 0) := fun h => ⟨by omega, by omega, by omega⟩
  have LY : Hid (¬ 0 ≤ x → (-x).toNat ≤ 2000 ∧ -x = ((-x).toNat : Int) ∧ x.toNat = 0) := fun h => ⟨by omega, by omega, by omega⟩
  obtain ⟨ee, hee⟩ : ∃ ee, -e = ee := ⟨_, rfl⟩
  rw [hee] at T1
  replace hee := hid hee
  clear m0 m1
  go_enter Tryz.func64, Tryz.ntmps64
  go_wp2_with fail
  (try rw [hee.out])
  with_reducible refine (T1.out _).mono ?_
  rintro en w1 ⟨r1, o1, rfl, a1, b1⟩
  rw [← hee.out] at a1
  have TM := hid (times_any _ r1 1 1 _ _ [m] o1 w1 (A0.out.below b1 (Nat.le_refl _)) (a1.argT p1.out) (Nat.le_trans (Nm.tsize_le _) (by simp)) (Nat.le_trans (a1.tsT p1.out) (by omega)))
  have B1 := hid (below_on bA.out b1)
  have V1 := hid a1.2.2.2.1
  clear a1 b1 T1 A0 bA
  go_wp2_with fail
  with_reducible refine TM.out.mono ?_
  rintro en w2 ⟨r2, o2, rfl, a2, b2⟩
  rw [V1.out, show Nm.val [m] = m by simp [Nm.val]] at a2
  have B2 := hid (below_on B1.out b2)
  have A2 := hid (a2.upT B1.out.size)
  clear a2 b2 TM V1
  go_wp2_with fail
  with_reducible refine (T2.out _).mono ?_
  rintro en w3 ⟨r3, o3, rfl, a3, b3⟩
  have B3 := hid (below_on B2.out b3)
  have A3 := hid (a3.upT B2.out.size)
  have A4 := hid (A2.out.below b3 (Nat.le_refl _))
  clear a3 b3 T2 A2 B1 B2
  by_cases hx : 0 ≤ x
  · obtain ⟨l1, l2, l3⟩ := LX.out hx
    have LF := hid (lift_any r2 _ _ o2 x x.toNat w3 (A4.out.argT p3.out) (Nat.le_trans (A4.out.tsT p3.out) (by omega)) l2 (by omega))
    have F : Hid (∀ r4 o4 w4, Ans w3.heap.size w4 r4 o4 (Nm.val o2 * 2 ^ x.toNat) → Below w3.heap.size w3 w4 → ScTold m x e w (.returned (.tuple #[.slice r4 (List.length o4) (List.length o4), .slice r3 (List.length o3) (List.length o3)])) w4) := by
      intro r4 o4 w4 a4 b4
      rw [A4.out.2.2.2.1] at a4
      refine ⟨r4, o4, r3, o3, rfl, a4.upT B3.out.size, ?_, below_on B3.out b4⟩
      rw [l3, Int.pow_zero, Int.mul_one]
      exact A3.out.below b4 (Nat.le_refl _)
    clear LX LY l1 l2 l3 A3 A4 B3 p1 p2 p3
    go_wp2_with fail
    with_reducible refine LF.out.mono ?_
    rintro en w4 ⟨r4, o4, rfl, a4, b4⟩
    have G := hid (F.out _ _ _ a4 b4)
    clear a4 b4 LF F
    go_wp2_with fail
    go_ret2
    exact G.out
  · obtain ⟨l1, l2, l3⟩ := LY.out (by omega)
    have LF := hid (lift_any r3 _ _ o3 (-x) (-x).toNat w3 (A3.out.argT p2.out) (Nat.le_trans (A3.out.tsT p2.out) (by omega)) l2 (by omega))
    have F : Hid (∀ r4 o4 w4, Ans w3.heap.size w4 r4 o4 (Nm.val o3 * 2 ^ (-x).toNat) → Below w3.heap.size w3 w4 → ScTold m x e w (.returned (.tuple #[.slice r2 (List.length o2) (List.length o2), .slice r4 (List.length o4) (List.length o4)])) w4) := by
      intro r4 o4 w4 a4 b4
      rw [A3.out.2.2.2.1] at a4
      refine ⟨r2, o2, r4, o4, rfl, ?_, a4.upT B3.out.size, below_on B3.out b4⟩
      rw [l3, Int.pow_zero, Int.mul_one]
      exact A4.out.below b4 (Nat.le_refl _)
    clear LX LY l1 l2 l3 A3 A4 B3 p1 p2 p3
    go_wp2_with fail
    with_reducible refine LF.out.mono ?_
    rintro en w4 ⟨r4, o4, rfl, a4, b4⟩
    have G := hid (F.out _ _ _ a4 b4)
    clear a4 b4 LF F
    go_wp2_with fail
    go_ret2
    exact G.out

/-- Is m * 2^x at least 10^e? -/
def Po.atl (m x e : Int) : Bool := decide (10 ^ e.toNat * 2 ^ (-x).toNat ≤ m * 10 ^ (-e).toNat * 2 ^ x.toNat)
set_option maxRecDepth 100000 in
theorem xatLeast_any (m x e : Int) (w : World) (m0 : 0 ≤ m) (m1 : m < 18446744073709551616) (x0 : -2000 ≤ x) (x1 : x ≤ 2000) (e0 : -10000 ≤ e) (e1 : e ≤ 10000) :
    Calls Tryz.prog 63 #[.int .u64 m, .int .i64 x, .int .i64 e] w fun en w' => en = .returned (.bool (Po.atl m x e)) ∧ Below w.heap.size w w' := by
  have SC := hid (xscaled_any m x e w m0 m1 x0 x1 e0 e1)
  have q1 : Hid (m * 10 ^ (-e).toNat * 2 ^ x.toNat < Nm.pw 4096) := pw_bdm m0 m1 (by omega)
  have q2 : Hid ((10 : Int) ^ e.toNat * 2 ^ (-x).toNat < Nm.pw 4096) := pw_bd (by omega)
  have E : Hid (Po.atl m x e = decide (0 ≤ cmpI (m * 10 ^ (-e).toNat * 2 ^ x.toNat) (10 ^ e.toNat * 2 ^ (-x).toNat))) := by
    show Po.atl m x e = _
    unfold Po.atl cmpI
    congr 1
    apply propext
    split
    · omega
    · split <;> omega
  clear m0 m1 x0 x1 e0 e1
  unfold ScTold at SC
  generalize m * 10 ^ (-e).toNat * 2 ^ x.toNat = N at *
  generalize (10 : Int) ^ e.toNat * 2 ^ (-x).toNat = D at *
  generalize Po.atl m x e = bb at *
  go_enter Tryz.func63, Tryz.ntmps63
  go_wp2_with fail
  with_reducible refine SC.out.mono ?_
  rintro en w1 ⟨r, os, s, us, rfl, a1, a2, b1⟩
  have CM := hid (refCmp_any r s _ _ _ _ os us w1 (a1.argT q1.out) (a2.argT q2.out))
  rw [a1.2.2.2.1, a2.2.2.2.1] at CM
  have B1 := hid b1
  clear a1 a2 b1 SC q1 q2
  generalize cmpI N D = cc at *
  go_wp2_with fail
  with_reducible refine CM.out.mono ?_
  rintro en w2 ⟨rfl, b2⟩
  have B2 := hid (below_on B1.out b2)
  clear b2 B1 CM
  go_wp2_with fail
  go_ret
  exact ⟨by rw [E.out]; rfl, B2.out⟩
end Go.Proofs.YtggikfcdecnooaaGreatDoor

namespace Go.Proofs.YtggikfcdecnooaaGreatDoor
open Go.RowKit Go.Deep

theorem half_more (x0 : Int) (c : Nat) : x0 / 2 ^ c / 2 = x0 / 2 ^ (c + 1) := by
  rw [Nm.two_add, ← Int.ediv_ediv_of_nonneg (by have := Nm.two_pos c; omega)]
  rfl

set_option maxRecDepth 20000 in
set_option maxRecDepth 100000 in
set_option maxHeartbeats 2000000 in
theorem refBitLen_any (p : Option Addr) (n cap : Nat) (zs : List Int) (w : World) (ha : Arg w p n cap zs) :
    Calls Tryz.prog 62 #[.slice p n cap] w fun e w' => (∃ L : Nat, e = .returned (.int .i64 (L : Int)) ∧ Nm.BLen (Nm.val zs) L) ∧ w' = w := by
  obtain ⟨a1, a2, a3, a4, a5⟩ := ha
  have tl := Nm.tsize_le zs
  have S1 := refSize_any p n cap zs w a1 (by omega) a4
  by_cases h0 : Nm.tsize zs = 0
  · rw [h0] at S1
    have HS := hid S1
    have hv := (Nm.tsize_zero_iff a5).1 h0
    have B0 : Hid (Nm.BLen (Nm.val zs) 0) := ⟨by rw [hv]; decide, fun _ => rfl, fun h => by omega⟩
    clear S1 h0 hv
    go_enter Tryz.func62, Tryz.ntmps62
    go_wp2_with fail
    refine HS.out.mono ?_
    rintro e w' ⟨rfl, rfl⟩
    go_wp2
    go_ret
    exact ⟨⟨0, rfl, B0.out⟩, rfl⟩
  · obtain ⟨t, ht⟩ : ∃ t, Nm.tsize zs = t + 1 := ⟨Nm.tsize zs - 1, by omega⟩
    obtain ⟨b, off, rfl, hbw, HC⟩ := a4.at (by omega)
    obtain ⟨x0, hx, X⟩ : ∃ x0, w.cell? ⟨b, off + t, none⟩ = some (.int .u64 x0) ∧ Hid (x0 = zs.getD t 0) := ⟨_, HC.out t (by omega), rfl⟩
    have hx0 : 0 ≤ x0 := by have := a5.at t; have := X.out; omega
    have hx1 : x0 < 18446744073709551616 := by have := a5.at t; have := X.out; omega
    have XP : Hid (0 < x0) := by
      have h := Nm.tsize_top zs (by omega)
      rw [ht, Nat.add_sub_cancel, ← X.out] at h
      show 0 < x0
      omega
    have FIN : Hid (∀ c : Nat, x0 / 2 ^ c = 0 → (c = 0 ∨ 2 ^ (c - 1) ≤ x0) → Nm.BLen (Nm.val zs) (64 * t + c)) := by
      intro c h1 h2
      have hp := Nm.two_pos c
      have hlt : x0 < 2 ^ c := by
        rcases Int.lt_or_le x0 (2 ^ c) with h | h
        · exact h
        · have : 1 ≤ x0 / 2 ^ c := (Int.le_ediv_iff_mul_le hp).2 (by omega)
          omega
      have hc : 1 ≤ c := by
        rcases Nat.eq_zero_or_pos c with h | h
        · subst h
          have := XP.out
          have e : (2 : Int) ^ 0 = 1 := rfl
          omega
        · exact h
      have h3 : (2 : Int) ^ (c - 1) ≤ x0 := by
        rcases h2 with h | h
        · omega
        · exact h
      exact Nm.blen_at zs t c a5 ht hc (by rw [← X.out]; exact h3) (by rw [← X.out]; exact hlt)
    have CB : Hid (∀ c : Nat, 2 ^ (c - 1) ≤ x0 → c ≤ 64) := by
      intro c h
      have h2 : (2 : Int) ^ (c - 1) < 2 ^ 64 := by rw [Nm.two_64]; omega
      rcases Nat.lt_or_ge (c - 1) 64 with h3 | h3
      · omega
      · have := Nm.two_mono h3
        omega
    rw [ht] at S1
    have hS : ((t + 1 : Nat) : Int) = (t : Int) + 1 := by omega
    rw [hS] at S1
    have HS := hid S1
    have htn : (t : Int) < (n : Int) := by omega
    have htb : t ≤ 17592186044416 := by omega
    clear S1 h0 hS ht tl a4
    go_enter Tryz.func62, Tryz.ntmps62
    go_wp2_with fail
    refine HS.out.mono ?_
    rintro e w' ⟨rfl, rfl⟩
    go_wp2_with fail
    go_loop [4, 5] (fun s y => ∃ (c S : Nat) (x : Int), Hid (S = 64 * t + c) ∧ S ≤ 1125899906842688 ∧ s = .int .i64 S ∧ y = .int .u64 x ∧ 0 ≤ x ∧ x ≤ x0 ∧ Hid (x = x0 / 2 ^ c) ∧ Hid (c = 0 ∨ 2 ^ (c - 1) ≤ x0)) (fun _ y => (intOf y).toNat)
    case atStart => exact ⟨0, 64 * t, x0, rfl, by omega, by first | rfl | go_num, rfl, hx0, by omega, by simp [Hid], .inl rfl⟩
    case round =>
      obtain ⟨c, S, x, HSS, hS, rfl, rfl, h1, h2, HX, HCc⟩ := hrel
      by_cases hz : x = 0
      · have hz' : ¬ (0 : Int) < x := by omega
        have E : Hid (Nm.BLen (Nm.val zs) S) := by rw [HSS.out]; exact FIN.out c (by rw [← HX.out]; exact hz) HCc.out
        clear hz
        go_wp2
        go_ret
        exact ⟨⟨S, rfl, E.out⟩, rfl⟩
      · have hz' : (0 : Int) < x := by omega
        have P1 : Hid (2 ^ c ≤ x0) := by
          have h := HX.out
          have hp := Nm.two_pos c
          have : 1 ≤ x0 / 2 ^ c := by omega
          have := (Int.le_ediv_iff_mul_le hp).1 this
          show _ ≤ _
          omega
        have hc64 : c + 1 ≤ 64 := CB.out (c + 1) (by rw [Nat.add_sub_cancel]; exact P1.out)
        have hS2 : S + 1 ≤ 1125899906842688 := by have := HSS.out; omega
        obtain ⟨y, hy, Y⟩ : ∃ y, x / 2 = y ∧ Hid (y = x / 2) := ⟨_, rfl, rfl⟩
        have hy0 : 0 ≤ y := by omega
        have hyx : y < x := by omega
        have YX : Hid (y = x0 / 2 ^ (c + 1)) := by rw [Hid, Y.out, HX.out, half_more]
        clear hz
        go_wp2
        go_round
        case rel => exact ⟨c + 1, S + 1, y, by have := HSS.out; show _ = _; omega, hS2, by go_num, by rw [hy], hy0, by omega, YX.out, .inr (by rw [Nat.add_sub_cancel]; exact P1.out)⟩
        case measure => simp [intOf]; omega
end Go.Proofs.YtggikfcdecnooaaGreatDoor

namespace Go.Proofs.YtggikfcdecnooaaGreatDoor
open Go Go.RowKit Go.Deep Go.Shelf

theorem Po.blen_bd {m : Int} {L : Nat} (m1 : 0 < m) (m2 : m < 18446744073709551616) (h : Nm.BLen m L) : 1 ≤ L ∧ L ≤ 64 := by
  obtain ⟨a, b⟩ := h.2.2 m1
  refine ⟨a, ?_⟩
  rcases Nat.lt_or_ge 64 L with c | c
  · exfalso
    have : (2 : Int) ^ 64 ≤ 2 ^ (L - 1) := by
      have q : (2 ^ 64 : Nat) ≤ 2 ^ (L - 1) := Nat.pow_le_pow_right (by omega) (by omega)
      exact_mod_cast q
    have e : (2 : Int) ^ 64 = 18446744073709551616 := rfl
    omega
  · exact c

set_option maxRecDepth 100000 in
set_option maxHeartbeats 4000000 in
theorem xtens_any (m x K : Int) (w : World) (m0 : 0 < m) (m1 : m < 18446744073709551616) (x0 : -1100 ≤ x) (x1 : x ≤ 1000) (hK : ∀ k, -1000 ≤ k → k ≤ 1000 → Po.atl m x k = decide (k ≤ K)) (k0 : -400 ≤ K) (k1 : K ≤ 400) :
    Calls Tryz.prog 40 #[.int .u64 m, .int .i64 x] w fun e w' => e = .returned (.int .i64 K) ∧ Below w.heap.size w w' := by
  have bA := hid (alloc_b w (.cells #[.int .u64 m] 22))
  have A0 : Arg (w.alloc (.cells #[.int .u64 m] 22)) (some ⟨w.heap.size, 0, none⟩) 1 1 [m] := ⟨rfl, Nat.le_refl _, by omega, (Own.alloc w [m]).lies, limb_one ⟨by omega, m1⟩⟩
  have BL := hid (refBitLen_any _ 1 1 [m] _ A0)
  have AL : Hid (∀ W' k, -1000 ≤ k → k ≤ 1000 → Calls Tryz.prog 63 #[.int .u64 m, .int .i64 x, .int .i64 k] W' fun en w' => en = .returned (.bool (decide (k ≤ K))) ∧ Below W'.heap.size W' w') := by
    intro W' k h1 h2
    have := xatLeast_any m x k W' (by omega) m1 (by omega) (by omega) (by omega) (by omega)
    rw [hK k h1 h2] at this
    exact this
  have LB : Hid (∀ L : Nat, Nm.BLen (Nm.val [m]) L → 1 ≤ L ∧ L ≤ 64) := fun L h => Po.blen_bd m0 m1 (by rw [show Nm.val [m] = m by simp [Nm.val]] at h; exact h)
  clear A0 hK m0 m1
  go_enter Tryz.func40, Tryz.ntmps40
  go_wp2_with fail
  with_reducible refine BL.out.mono ?_
  rintro e w1 ⟨⟨L, rfl, hL⟩, hw⟩
  obtain ⟨l1, l2⟩ := LB.out L hL
  rw [hw]
  clear hw hL LB BL w1
  have li1 : (1 : Int) ≤ (L : Int) := by omega
  have li2 : (L : Int) ≤ 64 := by omega
  clear l1 l2
  obtain ⟨q, hq, q0, q1⟩ : ∃ q, (((L : Int) - 1 + x) * 30103).tdiv 100000 = q ∧ -800 ≤ q ∧ q ≤ 800 := by
    refine ⟨_, rfl, ?_, ?_⟩
    · rcases (show 0 ≤ ((L : Int) - 1 + x) * 30103 ∨ ((L : Int) - 1 + x) * 30103 < 0 by omega) with c | c
      · have := Int.tdiv_nonneg c (show (0 : Int) ≤ 100000 by omega); omega
      · have e : (((L : Int) - 1 + x) * 30103).tdiv 100000 = -((-(((L : Int) - 1 + x) * 30103)).tdiv 100000) := by rw [Int.neg_tdiv]; omega
        rw [e, Int.tdiv_eq_ediv_of_nonneg (by omega)]
        omega
    · rcases (show 0 ≤ ((L : Int) - 1 + x) * 30103 ∨ ((L : Int) - 1 + x) * 30103 < 0 by omega) with c | c
      · rw [Int.tdiv_eq_ediv_of_nonneg c]; omega
      · have e : (((L : Int) - 1 + x) * 30103).tdiv 100000 = -((-(((L : Int) - 1 + x) * 30103)).tdiv 100000) := by rw [Int.neg_tdiv]; omega
        rw [e, Int.tdiv_eq_ediv_of_nonneg (by omega)]
        omega
  go_wp2_with fail
  go_loopg [6] (q - K).toNat (fun g v wr => ∃ j : Int, v = .int .i64 j ∧ (j - K).toNat = g ∧ -900 ≤ j ∧ j ≤ 900 ∧ Hid (Below w.heap.size w wr))
  case atStart => exact ⟨q, by first | rfl | rw [hq], rfl, by omega, by omega, bA⟩
  case round =>
    obtain ⟨j, rfl, hg, j0, j1, B1⟩ := hrel
    clear bA hq
    by_cases hj : j ≤ K
    · have hd : decide (j ≤ K) = true := decide_eq_true hj
      have A1 := hid (AL.out wr j (by omega) (by omega))
      rw [hd] at A1
      replace hg := hid hg
      go_wp2_with fail
      with_reducible refine A1.out.mono ?_
      rintro e w2 ⟨rfl, b2⟩
      have B2 := hid (below_on B1.out b2)
      clear b2 A1 B1 hg hd
      go_wp2_with fail
      go_loopg [6] (K - j).toNat (fun g v wr => ∃ i : Int, v = .int .i64 i ∧ (K - i).toNat = g ∧ i ≤ K ∧ -900 ≤ i ∧ Hid (Below w.heap.size w wr))
      case atStart => exact ⟨j, rfl, rfl, hj, j0, B2⟩
      case round =>
        obtain ⟨i, rfl, hgi, hi, i0, B3⟩ := hrel
        clear B2
        by_cases hi1 : i + 1 ≤ K
        · have hd : decide (i + 1 ≤ K) = true := decide_eq_true hi1
          have A1 := hid (AL.out wr (i + 1) (by omega) (by omega))
          rw [hd] at A1
          replace hgi := hid hgi
          go_wp2_with fail
          with_reducible refine A1.out.mono ?_
          rintro e w4 ⟨rfl, b4⟩
          have B4 := hid (below_on B3.out b4)
          clear b4 A1 B3 hd
          go_wp2_with fail
          go_roundg ((K - (i + 1)).toNat)
          case measure => have := hgi.out; omega
          case rel => exact ⟨i + 1, rfl, rfl, hi1, by omega, B4⟩
        · have hd : decide (i + 1 ≤ K) = false := decide_eq_false hi1
          have A1 := hid (AL.out wr (i + 1) (by omega) (by omega))
          rw [hd] at A1
          have hiK : Hid (i = K) := by show i = K; omega
          replace hgi := hid hgi
          go_wp2_with fail
          with_reducible refine A1.out.mono ?_
          rintro e w4 ⟨rfl, b4⟩
          have B4 := hid (below_on B3.out b4)
          clear b4 A1 B3 hd
          go_wp2_with fail
          go_ret
          exact ⟨by have q := hiK.out; rw [← q]; rfl, B4.out⟩
    · have hd : decide (j ≤ K) = false := decide_eq_false hj
      have A1 := hid (AL.out wr j (by omega) (by omega))
      rw [hd] at A1
      replace hg := hid hg
      go_wp2_with fail
      with_reducible refine A1.out.mono ?_
      rintro e w2 ⟨rfl, b2⟩
      have B2 := hid (below_on B1.out b2)
      clear b2 A1 B1 hd
      go_wp2_with fail
      go_roundg ((j - 1 - K).toNat)
      case measure => have := hg.out; omega
      case rel => exact ⟨j - 1, rfl, rfl, by omega, by omega, B2⟩
end Go.Proofs.YtggikfcdecnooaaGreatDoor

namespace Go.Proofs.YtggikfcdecnooaaGreatDoor
open Go.RowKit Go.Deep

namespace Nm
theorem v32_lt : ∀ zs : List Int, Halves zs → v32 zs < p32 zs.length
  | [], _ => by simp [v32, p32]
  | z :: zs, h => by
    have h1 := v32_lt zs (fun x hx => h x (List.mem_cons_of_mem _ hx))
    have h2 := h z List.mem_cons_self
    simp only [v32, List.length_cons, p32]
    omega

theorem v32_split : ∀ (zs : List Int) (k : Nat), v32 zs = v32 (zs.take k) + p32 k * v32 (zs.drop k)
  | zs, 0 => by simp [v32, p32]
  | [], k + 1 => by simp [v32]
  | z :: zs, k + 1 => by
    have := v32_split zs k
    simp only [List.take_succ_cons, List.drop_succ_cons, v32, p32]
    rw [Int.mul_assoc]
    omega

theorem Halves.drop {zs : List Int} (h : Halves zs) (k : Nat) : Halves (zs.drop k) := fun z hz => h z (List.mem_of_mem_drop hz)

theorem less_step {ss xs ys : List Int} {j : Nat} {c c' lo : Int} (hl : ss.length = j) (h : v32 ss + p32 j * (-c) = v32 (xs.take j) - v32 (ys.take j)) (hs : lo + 4294967296 * (-c') = (-c) + xs.getD j 0 + (-ys.getD j 0)) :
    v32 (ss ++ [lo]) + p32 (j + 1) * (-c') = v32 (xs.take (j + 1)) - v32 (ys.take (j + 1)) := by
  rw [v32_snoc, v32_take_next, v32_take_next, hl]
  have e : p32 j * (lo + 4294967296 * (-c')) = p32 j * ((-c) + xs.getD j 0 + (-ys.getD j 0)) := by rw [hs]
  rw [Int.mul_add, Int.mul_add, Int.mul_add, Int.mul_neg (p32 j) (ys.getD j 0)] at e
  have e2 : p32 (j + 1) * (-c') = p32 j * (4294967296 * (-c')) := by simp only [p32]; rw [Int.mul_comm 4294967296 (p32 j), Int.mul_assoc]
  omega

theorem less_end {ss xs ys : List Int} {l : Nat} {c A B : Int} (hl : ss.length = l) (hx : xs.length = l) (hs : Halves ss) (hy : Halves ys) (vx : v32 xs = A) (vy : v32 ys = B) (hc : 0 ≤ c) (hle : B ≤ A) (h : v32 ss + p32 l * (-c) = v32 (xs.take l) - v32 (ys.take l)) : v32 ss = A - B := by
  rw [List.take_of_length_le (by omega), vx] at h
  have h1 := v32_split ys l
  have h2 := v32_lt ss hs
  have h3 := v32_nonneg _ (hy.drop l)
  have h4 := p32_pos l
  rw [hl] at h2
  rw [vy] at h1
  rw [Int.mul_neg] at h
  obtain ⟨r, hr⟩ : ∃ r, v32 (ys.drop l) = r := ⟨_, rfl⟩
  rw [hr] at h1 h3
  have e : p32 l * (c + r) = p32 l * c + p32 l * r := Int.mul_add _ _ _
  have h5 : c + r = 0 := by
    rcases (show c + r = 0 ∨ 1 ≤ c + r by omega) with h6 | h6
    · exact h6
    · have h7 : p32 l * 1 ≤ p32 l * (c + r) := Int.mul_le_mul_of_nonneg_left h6 (by omega)
      omega
  rw [h5, Int.mul_zero] at e
  omega
end Nm

set_option maxRecDepth 20000 in
set_option maxHeartbeats 4000000 in
theorem less_any (p q : Option Addr) (n cap m cap' : Nat) (za zb : List Int) (w : World) (ha : Arg w p n cap za) (hb : Arg w q m cap' zb) (hn : Nm.tsize za ≤ 1099511627776) (hle : Nm.val zb ≤ Nm.val za) :
    Calls Tryz.prog 70 #[.slice p n cap, .slice q m cap'] w fun e w' => ∃ r os, e = .returned (.slice r (List.length os) (List.length os)) ∧ Ans w.heap.size w' r os (Nm.val za - Nm.val zb) ∧ Below w.heap.size w w' := by
  have LE := hid hle
  clear hle
  have HA := hid ha
  have HB0 := hid hb
  clear ha hb
  go_enter Tryz.func70, Tryz.ntmps70
  go_wp2_with fail
  refine (halves_any p n cap za _ HA.out (by have := HA.out.2.1; have := HA.out.2.2.1; omega)).mono ?_
  rintro e w1 ⟨xs, rfl, lx, hx, vx, kx, bx⟩
  have HB1 := hid (HB0.out.below bx (Nat.le_refl _))
  have D1 := hid bx
  obtain ⟨l1, LX⟩ : ∃ l1, Hid (xs.length = l1) := ⟨_, rfl⟩
  have LX0 := hid lx
  have HX := hid hx
  have VX := hid vx
  have kx1 : l1 ≤ 2 * Nm.tsize za := by have := LX.out; omega
  rw [LX.out]
  clear lx hx vx kx bx HB0
  go_wp2_with fail
  refine (halves_any q m cap' zb _ HB1.out (by have := HB1.out.2.1; have := HB1.out.2.2.1; omega)).mono ?_
  rintro e w2 ⟨ys, rfl, ly, hy, vy, ky, by_⟩
  have D2 := hid (chain D1.out by_ (Nat.le_refl _))
  obtain ⟨l2, LY⟩ : ∃ l2, Hid (ys.length = l2) := ⟨_, rfl⟩
  have HY := hid hy
  have VY := hid vy
  have ky1 : l2 ≤ 2 * Nm.tsize zb := by have := LY.out; omega
  obtain ⟨g1, G1⟩ : ∃ g1, w.heap.size = g1 := ⟨_, rfl⟩
  obtain ⟨g2, G2⟩ : ∃ g2, w1.heap.size = g2 := ⟨_, rfl⟩
  have LX2 := LX0.out.below by_ (Nat.le_refl _)
  rw [G1] at LX2
  have ly2 := ly
  rw [G2] at ly2
  have CX : Hid (∀ i, i < l1 → w2.cell? ⟨g1, i, none⟩ = some (.int .u64 (xs.getD i 0))) := fun i hi => by have := LX2.cells i (by have := LX.out; omega); rwa [Nat.zero_add] at this
  have CY : Hid (∀ i, i < l2 → w2.cell? ⟨g2, i, none⟩ = some (.int .u64 (ys.getD i 0))) := fun i hi => by have := ly2.cells i (by have := LY.out; omega); rwa [Nat.zero_add] at this
  obtain ⟨g, Gg⟩ : ∃ g, Hid (w2.heap.size = g) := ⟨_, rfl⟩
  have BX : Hid (∀ {j : Nat}, j < l1 → g1 < g) := fun {j} hj => by rw [← Gg.out]; exact cell_lt (CX.out j hj)
  have BY : Hid (∀ {j : Nat}, j < l2 → g2 < g) := fun {j} hj => by rw [← Gg.out]; exact cell_lt (CY.out j hj)
  rw [LY.out, G1, G2]
  clear ly hy vy ky by_ LX0 LX2 ly2 HB1 D1 G2
  have hmk := make64_room l1 (by omega) w2
  rw [Gg.out] at hmk
  have bm := hid ((Below.refl w2.heap.size w2).alloc (Nat.le_refl _) (.cells (madeCells #[.int .u64 0] l1) 22))
  have gm := hid (Grown.made w2 l1)
  rw [Gg.out] at bm gm
  generalize w2.alloc (.cells (madeCells #[.int .u64 0] l1) 22) = wm at hmk bm gm
  go_wp2
  clear hmk
  go_loopw [7, 8, 9] (fun a c i wr => ∃ (j : Nat) (cc : Int) (ss : List Int), j ≤ l1 ∧ i = .int .i64 j ∧ a = .slice (some ⟨g, 0, none⟩) j l1 ∧ c = .int .u64 cc ∧ 0 ≤ cc ∧ cc ≤ 1 ∧ Hid (Grown wr g ss (l1 - j)) ∧ Hid (ss.length = j) ∧ Hid (Nm.Halves ss) ∧ Hid (Nm.v32 ss + Nm.p32 j * (-cc) = Nm.v32 (xs.take j) - Nm.v32 (ys.take j)) ∧ Below g w2 wr) (fun _ _ i _ => l1 - (intOf i).toNat)
  case atStart => exact ⟨0, 0, [], Nat.zero_le _, rfl, rfl, rfl, by omega, by omega, gm.out, rfl, Nm.Halves.nil, rfl, bm.out⟩
  case round =>
    obtain ⟨j, cc, ss, hj, rfl, rfl, rfl, hc0, hc1, G, L, HS, V, hB⟩ := hrel
    by_cases h1 : j < l1
    · obtain ⟨x, hx, X⟩ : ∃ x, wr.cell? ⟨g1, j, none⟩ = some (.int .u64 x) ∧ Hid (x = xs.getD j 0) := ⟨_, (hB.cell (p := ⟨g1, j, none⟩) (BX.out h1)).trans (CX.out j h1), rfl⟩
      have hx0 : 0 ≤ x := by have := HX.out.at j; have := X.out; omega
      have hx1 : x < 4294967296 := by have := HX.out.at j; have := X.out; omega
      have h1' : (j : Int) < (l1 : Int) := by omega
      have G' := G.out
      rw [show l1 - j = (l1 - j - 1) + 1 by omega] at G'
      by_cases h2 : j < l2
      · skip
        obtain ⟨y, hy, Y⟩ : ∃ y, wr.cell? ⟨g2, j, none⟩ = some (.int .u64 y) ∧ Hid (y = ys.getD j 0) := ⟨_, (hB.cell (p := ⟨g2, j, none⟩) (BY.out h2)).trans (CY.out j h2), rfl⟩
        have hy0 : 0 ≤ y := by have := HY.out.at j; have := Y.out; omega
        have hy1 : y < 4294967296 := by have := HY.out.at j; have := Y.out; omega
        have h2' : (j : Int) < (l2 : Int) := by omega
        obtain ⟨o, ho, O⟩ : ∃ o, IntKind.u64.wrap (cc + y) = o ∧ Hid (o = cc + y) := ⟨_, by rw [IntKind.wrap_u64, Int.emod_eq_of_lt (by omega) (by omega)], rfl⟩
        have ho0 : 0 ≤ o := by have := O.out; omega
        have ho1 : o ≤ 4294967296 := by have := O.out; omega
        by_cases hd : x < o
        · skip
          obtain ⟨d, hd1, DD⟩ : ∃ d, IntKind.u64.wrap (x + 4294967296) = d ∧ Hid (d = x + 4294967296) := ⟨_, by rw [IntKind.wrap_u64, Int.emod_eq_of_lt (by omega) (by omega)], rfl⟩
          have hd2 : 4294967296 ≤ d := by have := DD.out; omega
          have hd3 : d < 8589934592 := by have := DD.out; omega
          obtain ⟨z, hz, Z⟩ : ∃ z, IntKind.u64.wrap (d - o) = z ∧ Hid (z = d - o) := ⟨_, by rw [IntKind.wrap_u64, Int.emod_eq_of_lt (by omega) (by omega)], rfl⟩
          have BZ : Hid (0 ≤ z ∧ z < 4294967296) := by have := Z.out; have := DD.out; show _ ∧ _; omega
          have ST : Hid (z + 4294967296 * (-1) = (-cc) + x + (-y)) := by have := Z.out; have := DD.out; have := O.out; show _ = _; omega
          obtain ⟨w2, ap, gr, be, sz⟩ := push64 g j (l1 - j - 1) l1 ss z wr L.out (by omega) G'
          have AP := hid ap
          have GR := hid gr
          have BE := hid (hB.trans be)
          clear ap gr be sz hB G G'
          go_wp2_with (at_builtin; refine wpList_append_row rfl _ _ rfl AP.out (by rfl) (by rfl) ?_; clear AP)
          go_roundw
          case rel =>
            refine ⟨j + 1, 1, ss ++ [z], by omega, by go_num, rfl, rfl, by omega, by omega, GR.out, ?_, HS.out.snoc BZ.out.1 BZ.out.2, ?_, BE.out⟩
            · have := L.out; simp only [Hid, List.length_append, List.length_cons, List.length_nil]; omega
            · exact Nm.less_step L.out V.out (by rw [← X.out, ← Y.out]; exact ST.out)
          case measure => simp [intOf]; omega
        · skip
          obtain ⟨z, hz, Z⟩ : ∃ z, IntKind.u64.wrap (x - o) = z ∧ Hid (z = x - o) := ⟨_, by rw [IntKind.wrap_u64, Int.emod_eq_of_lt (by omega) (by omega)], rfl⟩
          have BZ : Hid (0 ≤ z ∧ z < 4294967296) := by have := Z.out; show _ ∧ _; omega
          have ST : Hid (z + 4294967296 * (-0) = (-cc) + x + (-y)) := by have := Z.out; have := O.out; show _ = _; omega
          obtain ⟨w2, ap, gr, be, sz⟩ := push64 g j (l1 - j - 1) l1 ss z wr L.out (by omega) G'
          have AP := hid ap
          have GR := hid gr
          have BE := hid (hB.trans be)
          clear ap gr be sz hB G G'
          go_wp2_with (at_builtin; refine wpList_append_row rfl _ _ rfl AP.out (by rfl) (by rfl) ?_; clear AP)
          go_roundw
          case rel =>
            refine ⟨j + 1, 0, ss ++ [z], by omega, by go_num, rfl, rfl, by omega, by omega, GR.out, ?_, HS.out.snoc BZ.out.1 BZ.out.2, ?_, BE.out⟩
            · have := L.out; simp only [Hid, List.length_append, List.length_cons, List.length_nil]; omega
            · exact Nm.less_step L.out V.out (by rw [← X.out, ← Y.out]; exact ST.out)
          case measure => simp [intOf]; omega
      · skip
        obtain ⟨y, hy0, Y⟩ : ∃ y : Int, y = 0 ∧ Hid (y = ys.getD j 0) := ⟨0, rfl, by simp [Hid, List.getD, List.getElem?_eq_none (show ys.length ≤ j by have := LY.out; omega)]⟩
        have h2' : ¬ (j : Int) < (l2 : Int) := by omega
        have O : Hid (cc = cc + y) := by show _ = _; omega
        by_cases hd : x < cc
        · skip
          obtain ⟨d, hd1, DD⟩ : ∃ d, IntKind.u64.wrap (x + 4294967296) = d ∧ Hid (d = x + 4294967296) := ⟨_, by rw [IntKind.wrap_u64, Int.emod_eq_of_lt (by omega) (by omega)], rfl⟩
          have hd2 : 4294967296 ≤ d := by have := DD.out; omega
          have hd3 : d < 8589934592 := by have := DD.out; omega
          obtain ⟨z, hz, Z⟩ : ∃ z, IntKind.u64.wrap (d - cc) = z ∧ Hid (z = d - cc) := ⟨_, by rw [IntKind.wrap_u64, Int.emod_eq_of_lt (by omega) (by omega)], rfl⟩
          have BZ : Hid (0 ≤ z ∧ z < 4294967296) := by have := Z.out; have := DD.out; show _ ∧ _; omega
          have ST : Hid (z + 4294967296 * (-1) = (-cc) + x + (-y)) := by have := Z.out; have := DD.out; have := O.out; show _ = _; omega
          obtain ⟨w2, ap, gr, be, sz⟩ := push64 g j (l1 - j - 1) l1 ss z wr L.out (by omega) G'
          have AP := hid ap
          have GR := hid gr
          have BE := hid (hB.trans be)
          clear ap gr be sz hB G G'
          go_wp2_with (at_builtin; refine wpList_append_row rfl _ _ rfl AP.out (by rfl) (by rfl) ?_; clear AP)
          go_roundw
          case rel =>
            refine ⟨j + 1, 1, ss ++ [z], by omega, by go_num, rfl, rfl, by omega, by omega, GR.out, ?_, HS.out.snoc BZ.out.1 BZ.out.2, ?_, BE.out⟩
            · have := L.out; simp only [Hid, List.length_append, List.length_cons, List.length_nil]; omega
            · exact Nm.less_step L.out V.out (by rw [← X.out, ← Y.out]; exact ST.out)
          case measure => simp [intOf]; omega
        · skip
          obtain ⟨z, hz, Z⟩ : ∃ z, IntKind.u64.wrap (x - cc) = z ∧ Hid (z = x - cc) := ⟨_, by rw [IntKind.wrap_u64, Int.emod_eq_of_lt (by omega) (by omega)], rfl⟩
          have BZ : Hid (0 ≤ z ∧ z < 4294967296) := by have := Z.out; show _ ∧ _; omega
          have ST : Hid (z + 4294967296 * (-0) = (-cc) + x + (-y)) := by have := Z.out; have := O.out; show _ = _; omega
          obtain ⟨w2, ap, gr, be, sz⟩ := push64 g j (l1 - j - 1) l1 ss z wr L.out (by omega) G'
          have AP := hid ap
          have GR := hid gr
          have BE := hid (hB.trans be)
          clear ap gr be sz hB G G'
          go_wp2_with (at_builtin; refine wpList_append_row rfl _ _ rfl AP.out (by rfl) (by rfl) ?_; clear AP)
          go_roundw
          case rel =>
            refine ⟨j + 1, 0, ss ++ [z], by omega, by go_num, rfl, rfl, by omega, by omega, GR.out, ?_, HS.out.snoc BZ.out.1 BZ.out.2, ?_, BE.out⟩
            · have := L.out; simp only [Hid, List.length_append, List.length_cons, List.length_nil]; omega
            · exact Nm.less_step L.out V.out (by rw [← X.out, ← Y.out]; exact ST.out)
          case measure => simp [intOf]; omega
    · have h1' : ¬ (j : Int) < (l1 : Int) := by omega
      obtain rfl : j = l1 := by omega
      have D3 := hid (chain D2.out (by rw [Gg.out]; exact hB) (Nat.le_refl _))
      have VV : Hid (Nm.v32 ss = Nm.val za - Nm.val zb) := Nm.less_end L.out LX.out HS.out HY.out VX.out VY.out hc0 LE.out V.out
      have AG : Hid (Arg wr (some ⟨g, 0, none⟩) j j ss) := ⟨L.out, Nat.le_refl _, by omega, G.out.lies, HS.out.limbs⟩
      have hw3 : Hid (w.heap.size ≤ wr.heap.size) := D3.out.size
      clear hB G
      go_wp2_with fail
      refine (rlimbs_any _ j j ss _ AG.out HS.out).mono ?_
      rintro e w4 ⟨r, os, rfl, hA, hb⟩
      rw [VV.out] at hA
      have A4 := hid (hA.mono hw3.out)
      have D4 := hid (chain D3.out hb (Nat.le_refl _))
      clear hA hb
      go_wp2
      go_ret
      exact ⟨r, os, rfl, A4.out, D4.out⟩
end Go.Proofs.YtggikfcdecnooaaGreatDoor
