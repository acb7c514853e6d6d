/-
  The shortest digits: seventeen figures are enough; where the digits lie; the neighbours.
-/
import Derived.Test.YtonnlimmjelldaaGreatDoorLNum
namespace Go.Proofs.YtonnlimmjelldaaGreatDoor
open Go.RowKit Go.Deep
namespace Sh

/-- The place of a number's head. -/
noncomputable def pl (U : Int) : Int := (dd U).e + ln U
theorem place {U : Int} (h : 0 < U) : 10 ^ (pl U + 1074).toNat ≤ U ∧ U < 10 ^ (pl U + 1075).toNat ∧ -1074 ≤ pl U := by
  have o := dd_is (Int.le_of_lt h)
  have n := o.1.nml (by rw [o.2]; exact h)
  have p := uv_place n o.1.lo
  rw [o.2] at p
  have := ln_pos (Int.le_of_lt h)
  have := o.1.lo
  exact ⟨p.1, p.2, by unfold pl; omega⟩
theorem st_pl (U : Int) (n : Nat) : st U n = 10 ^ (pl U - n + 1075).toNat := by
  unfold st pl
  rw [show (dd U).e + ((ln U : Int) - (n : Int)) + 1075 = (dd U).e + (ln U : Int) - (n : Int) + 1075 by omega]

theorem room_lo : (10 : Int) ^ 751 ≤ 2 * 5 ^ 1075 := by decide +kernel
theorem room_hi : (2 : Int) ^ 2099 * 5 ^ 1075 ≤ 10 ^ 1384 := by decide +kernel
theorem V_place {a : Int} (h0 : 0 < a) (h1 : a < 9218868437227405312) : -323 ≤ pl (V a) ∧ pl (V a) ≤ 309 := by
  obtain ⟨p1, p2, p3⟩ := place (V_pos h0)
  have l1 : (10 : Int) ^ 751 ≤ V a := by
    have h2 := Ie.vl_le (x := 1) (y := a) (by omega) (by omega)
    have h3 : Ie.vl 1 = 2 := by decide
    rw [h3] at h2
    have h4 := Int.mul_le_mul_of_nonneg_right h2 (Int.le_of_lt T5_pos)
    have h5 : (10 : Int) ^ 751 ≤ 2 * T5 := room_lo
    exact Int.le_trans h5 h4
  have l2 : V a < 10 ^ 1384 := by
    have h2 := (Ie.vl_lt_iff (x := a) (y := 9218868437227405312) (by omega) (by omega)).2 h1
    have h3 : Ie.vl 9218868437227405312 = 2 ^ 2099 := by decide +kernel
    rw [h3] at h2
    have h4 := Int.mul_lt_mul_of_pos_right h2 T5_pos
    have h5 : (2 : Int) ^ 2099 * T5 ≤ 10 ^ 1384 := room_hi
    exact Int.lt_of_lt_of_le h4 h5
  have q1 := Fx.p_lt (Int.lt_of_le_of_lt l1 p2)
  have q2 := Fx.p_lt (Int.lt_of_le_of_lt p1 l2)
  omega

theorem wn17 {a : Int} (ha : 0 < a) : (wn a 17).isSome = true := by
  rcases Nat.lt_or_ge 17 (ln (V a)) with hl | hl
  · refine wn_of (k := k1 (V a) (st (V a) 17)) ha ?_
    obtain ⟨p1, p2, p3⟩ := place (V_pos ha)
    have hpl : pl (V a) = (dd (V a)).e + ln (V a) := rfl
    have lo := (dd_is (V_nn (Int.le_of_lt ha))).1.lo
    have hS : 10000000000000000 * st (V a) 17 ≤ V a := by
      rw [st_pl]
      refine Int.le_trans (Int.le_of_eq ?_) p1
      rw [show (10000000000000000 : Int) = 10 ^ 16 by decide, ← Int.pow_add]
      congr 1
      omega
    obtain ⟨d1, d2, d3⟩ := divS (U := V a) (st_pos (V a) 17)
    have sp := st_pos (V a) 17
    obtain ⟨g, hg⟩ : ∃ g, (2 : Int) ^ Ie.ex a * T5 = g := ⟨_, rfl⟩
    have gp : 0 < g := by rw [← hg]; exact Int.mul_pos (Nm.two_pos _) T5_pos
    have mb := Ie.man_nn a (Int.le_of_lt ha)
    have hB : B a = V a + g := by rw [B, V, Ie.md_eq, Int.add_mul, hg]
    have hV : V a = 2 * Ie.man a * g := by rw [V, Ie.vl, ← hg]; generalize T5 = t; generalize (2 : Int) ^ Ie.ex a = y; generalize Ie.man a = z; ac_rfl
    have key : ∀ c : Int, A a + c = V a → c ≤ g → st (V a) 17 < 2 * c → inB a (k1 (V a) (st (V a) 17) * st (V a) 17) = true := by
      intro c h1 h2 h3
      generalize st (V a) 17 = S at *
      have e1 : (V a / S + 1) * S = V a / S * S + S := by rw [Int.add_mul, Int.one_mul]
      have A0 := A_V ha
      unfold k1
      split
      · rename_i hu
        rw [e1]
        have := of_decide_eq_true hu
        exact decide_eq_true (.inl (by omega))
      · rename_i hu
        have : ¬ (S < 2 * (V a % S) ∨ (S = 2 * (V a % S) ∧ (V a / S) % 2 = 1)) := fun q => hu (decide_eq_true q)
        exact decide_eq_true (.inl (by omega))
    by_cases hp : Ie.man a = 4503599627370496 ∧ 0 < Ie.ex a
    · have hm := Ie.md_pred' a ha hp
      obtain ⟨f, hf⟩ : ∃ f, (2 : Int) ^ (Ie.ex a - 1) * T5 = f := ⟨_, rfl⟩
      have hgf : g = 2 * f := by
        obtain ⟨x, hx⟩ : ∃ x, Ie.ex a = x + 1 := ⟨Ie.ex a - 1, by omega⟩
        rw [← hg, ← hf, hx, Nat.add_sub_cancel, Int.pow_succ]
        generalize T5 = t
        generalize (2 : Int) ^ x = y
        ac_rfl
      have hA : A a = 18014398509481983 * f := by rw [A, if_neg (by omega), B, hm, ← hf, Int.mul_assoc]
      rw [hp.1] at hV
      exact key f (by omega) (by omega) (by omega)
    · have hm := Ie.md_pred a ha hp
      have hA : A a + g = V a := by
        rw [A, if_neg (by omega), B, hm, V, Ie.vl, ← hg, ← Int.add_mul]
        congr 1
        rw [Int.sub_mul, Int.one_mul]
        omega
      have hle : 2 * Ie.man a * g ≤ 18014398509481982 * g := Int.mul_le_mul_of_nonneg_right (by omega) (Int.le_of_lt gp)
      exact key g hA (Int.le_refl _) (by omega)
  · unfold wn
    rw [if_pos hl]
    rfl

/-- The decimal of k times a power of ten. -/
theorem dd_pow {k : Int} {s n : Nat} (hk : 0 < k) (hn : 1 ≤ n) (h : k ≤ 10 ^ n) : (dd (k * 10 ^ s)).ds.length ≤ n ∧ (s : Int) ≤ (dd (k * 10 ^ s)).e + 1075 ∧ ((dd (k * 10 ^ s)).e + 1075 = s → dv (dd (k * 10 ^ s)).ds = k) := by
  obtain ⟨xs, j, h1, h2⟩ := Fx.nml_ex k.toNat (by omega)
  have hk2 : ((k.toNat : Nat) : Int) = k := by omega
  rw [hk2] at h2
  have o : Ok ⟨false, xs, (j : Int) + s - 1075⟩ := ⟨rfl, by simp; omega, .inr h1⟩
  have hu : uv ⟨false, xs, (j : Int) + s - 1075⟩ = k * 10 ^ s := by
    simp only [uv]
    rw [show ((j : Int) + (s : Int) - 1075 + 1075).toNat = j + s by omega, Int.pow_add, ← Int.mul_assoc, h2]
  have e := o.is
  rw [hu] at e
  rw [← e]
  refine ⟨?_, by simp; omega, fun g => ?_⟩
  · show xs.length ≤ n
    obtain ⟨m, hm⟩ := h1.len
    have b := Fx.head_low h1.digs hm h1.head
    have j1 : (1 : Int) ≤ 10 ^ j := Fx.p_pos j
    have vp := nml_pos h1
    have b2 : dv xs * 1 ≤ dv xs * 10 ^ j := Int.mul_le_mul_of_nonneg_left j1 (Int.le_of_lt vp)
    rcases (show dv xs < 10 ^ n ∨ dv xs = 10 ^ n by omega) with c | c
    · have := Fx.p_lt (Int.lt_of_le_of_lt b c)
      omega
    · exfalso
      obtain ⟨q, rfl⟩ : ∃ q, n = q + 1 := ⟨n - 1, by omega⟩
      have := h1.mod
      rw [c, Int.pow_succ] at this
      omega
  · have hj : j = 0 := by
      have : (j : Int) + s - 1075 + 1075 = s := g
      omega
    subst hj
    rw [Int.pow_zero, Int.mul_one] at h2
    exact h2

theorem wn_pos {a : Int} {n : Nat} {U : Int} (ha : 0 < a) (h : wn a n = some U) : 0 < U := by
  have i := of_decide_eq_true (wn_in (Int.le_of_lt ha) h)
  have := A_pos ha
  omega
/-- The two about the number. -/
theorem k_room {a : Int} {n : Nat} (ha : 0 < a) (hn : 1 ≤ n) (hl : n < ln (V a)) : 1 ≤ V a / st (V a) n ∧ V a / st (V a) n + 1 ≤ 10 ^ n ∧ 0 < V a % st (V a) n ∧ st (V a) n = 10 ^ (pl (V a) - n + 1075).toNat ∧ 0 ≤ pl (V a) - n + 1075 := by
  obtain ⟨p1, p2, p3⟩ := place (V_pos ha)
  have o := dd_is (V_nn (Int.le_of_lt ha))
  have lo := o.1.lo
  have nm := o.1.nml (by rw [o.2]; exact V_pos ha)
  have hpl : pl (V a) = (dd (V a)).e + ln (V a) := rfl
  have sp := st_pos (V a) n
  have e0 := st_pl (V a) n
  have q0 : 0 ≤ pl (V a) - n + 1075 := by omega
  refine ⟨?_, ?_, ?_, e0, q0⟩
  · refine (Int.le_ediv_iff_mul_le sp).2 ?_
    rw [Int.one_mul, e0]
    exact Int.le_trans (Fx.p_le (by omega)) p1
  · have : V a / st (V a) n < 10 ^ n := by
      refine (Int.ediv_lt_iff_lt_mul sp).2 ?_
      rw [e0, ← Int.pow_add]
      refine Int.lt_of_lt_of_le p2 (Fx.p_le (by omega))
    omega
  · rcases (show V a % st (V a) n = 0 ∨ 0 < V a % st (V a) n by have := (divS (U := V a) sp).2.1; omega) with c | c
    · exfalso
      obtain ⟨d1, _, _⟩ := divS (U := V a) sp
      rw [c, Int.add_zero] at d1
      have hv : dv (dd (V a)).ds * 10 ^ ((dd (V a)).e + 1075).toNat = V a := o.2
      have e1 : st (V a) n = 10 ^ (ln (V a) - n) * 10 ^ ((dd (V a)).e + 1075).toNat := by rw [e0, ← Int.pow_add]; congr 1; omega
      generalize V a / st (V a) n = z at d1
      have hv := hv.trans (d1.trans (show z * st (V a) n = z * 10 ^ (ln (V a) - n) * 10 ^ ((dd (V a)).e + 1075).toNat by rw [e1, Int.mul_assoc]))
      have hz := Int.eq_of_mul_eq_mul_right (by have := Fx.p_pos ((dd (V a)).e + 1075).toNat; omega) hv
      obtain ⟨q, hq⟩ : ∃ q, ln (V a) - n = q + 1 := ⟨ln (V a) - n - 1, by omega⟩
      rw [hq, Int.pow_succ] at hz
      have := nm.mod
      rw [hz, ← Int.mul_assoc] at this
      omega
    · exact c

theorem k_one (U S : Int) (k : Int) (h : k = k1 U S ∨ k = k2 U S) : k = U / S ∨ k = U / S + 1 := by
  rcases k_form U S with c | c <;> rcases h with g | g <;> omega

/-- Where the digits that are told lie. -/
theorem wn_room {a : Int} {n : Nat} {U : Int} (ha : 0 < a) (hn : 1 ≤ n) (h : wn a n = some U) : Fx.Nml (dd U).ds ∧ (dd U).ds.length ≤ n ∧ pl (V a) - n ≤ (dd U).e ∧ (dd U).e ≤ pl (V a) := by
  have up := wn_pos ha h
  have o := dd_is (Int.le_of_lt up)
  have nm := o.1.nml (by rw [o.2]; exact up)
  refine ⟨nm, ?_⟩
  rcases wn_form h with c | ⟨hl, c⟩
  · subst c
    have hl : ln (V a) ≤ n ∨ n < ln (V a) := by omega
    rcases hl with hl | hl
    · have hpl : pl (V a) = (dd (V a)).e + ln (V a) := rfl
      have := ln_pos (V_nn (Int.le_of_lt ha))
      exact ⟨hl, by omega, by omega⟩
    · exfalso
      unfold wn at h
      rw [if_neg (by omega)] at h
      have kr := k_room ha hn hl
      obtain ⟨d1, d2, d3⟩ := divS (U := V a) (st_pos (V a) n)
      have e1 : (V a / st (V a) n + 1) * st (V a) n = V a / st (V a) n * st (V a) n + st (V a) n := by rw [Int.add_mul, Int.one_mul]
      have : ∃ k, (k = k1 (V a) (st (V a) n) ∨ k = k2 (V a) (st (V a) n)) ∧ k * st (V a) n = V a := by
        split at h
        · exact ⟨_, .inl rfl, Option.some.inj h⟩
        · split at h
          · exact ⟨_, .inr rfl, Option.some.inj h⟩
          · exact absurd h (by simp)
      obtain ⟨k, hk, hk2⟩ := this
      rcases k_one _ _ _ hk with g | g <;> rw [g] at hk2 <;> omega
  · obtain ⟨r1, r2, r3, r4, r5⟩ := k_room ha hn hl
    obtain ⟨k, hk, hU⟩ : ∃ k, (k = k1 (V a) (st (V a) n) ∨ k = k2 (V a) (st (V a) n)) ∧ U = k * st (V a) n := by
      rcases c with c | ⟨_, c⟩
      · exact ⟨_, .inl rfl, c⟩
      · exact ⟨_, .inr rfl, c⟩
    have kb := k_one _ _ _ hk
    have d := dd_pow (k := k) (s := (pl (V a) - n + 1075).toNat) (n := n) (by omega) hn (by omega)
    rw [← r4, ← hU] at d
    refine ⟨d.1, by omega, ?_⟩
    obtain ⟨q1, q2, q3⟩ := place up
    obtain ⟨p1, p2, p3⟩ := place (V_pos ha)
    have hb : U ≤ 10 ^ (pl (V a) + 1075).toNat := by
      rw [hU, r4]
      have := Int.mul_le_mul_of_nonneg_right (show k ≤ 10 ^ n by omega) (Int.le_of_lt (Fx.p_pos (pl (V a) - n + 1075).toNat))
      rw [← Int.pow_add] at this
      refine Int.le_trans this (Fx.p_le (by omega))
    have hpu : pl U ≤ pl (V a) + 1 := by
      rcases (show pl U ≤ pl (V a) + 1 ∨ pl (V a) + 1 < pl U by omega) with g | g
      · exact g
      · have g1 : (pl U + 1074).toNat = (pl (V a) + 1075).toNat + ((pl U + 1074).toNat - (pl (V a) + 1075).toNat - 1) + 1 := by omega
        rw [g1, Int.pow_succ, Int.pow_add] at q1
        have z1 := Fx.p_pos (pl (V a) + 1075).toNat
        have z2 : (1 : Int) ≤ 10 ^ ((pl U + 1074).toNat - (pl (V a) + 1075).toNat - 1) := Fx.p_pos _
        have z3 := Int.mul_le_mul_of_nonneg_left z2 (Int.le_of_lt z1)
        omega
    have hpl : pl U = (dd U).e + ln U := rfl
    have := ln_pos (Int.le_of_lt up)
    omega

/-- No neighbour in the last place that reads back lies nearer; if one is as near, the last digit is even. -/
theorem wn_near {a : Int} {n : Nat} {U W : Int} (ha : 0 < a) (hn : 1 ≤ n) (h : wn a n = some U) (hW : W = U + 10 ^ ((dd U).e + 1075).toNat ∨ W = U - 10 ^ ((dd U).e + 1075).toNat) (hi : inB a W = true) :
    (U - V a).natAbs ≤ (W - V a).natAbs ∧ ((U - V a).natAbs = (W - V a).natAbs → dv (dd U).ds % 2 = 0) := by
  have up := wn_pos ha h
  have pp := Fx.p_pos ((dd U).e + 1075).toNat
  rcases wn_form h with c | ⟨hl, c⟩
  · omega
  · obtain ⟨r1, r2, r3, r4, r5⟩ := k_room ha hn hl
    obtain ⟨k, hk, hU⟩ : ∃ k, (k = k1 (V a) (st (V a) n) ∨ (inB a (k1 (V a) (st (V a) n) * st (V a) n) = false ∧ k = k2 (V a) (st (V a) n))) ∧ U = k * st (V a) n := by
      rcases c with c | ⟨c', c⟩
      · exact ⟨_, .inl rfl, c⟩
      · exact ⟨_, .inr ⟨c', rfl⟩, c⟩
    have kb := k_one _ _ k (by rcases hk with g | g; exact .inl g; exact .inr g.2)
    have d := dd_pow (k := k) (s := (pl (V a) - n + 1075).toNat) (n := n) (by omega) hn (by omega)
    rw [← r4, ← hU] at d
    have d2 := d.2.1
    have d3 := d.2.2
    obtain ⟨t, ht⟩ : ∃ t : Nat, ((dd U).e + 1075).toNat = (pl (V a) - n + 1075).toNat + t := ⟨((dd U).e + 1075).toNat - (pl (V a) - n + 1075).toNat, by omega⟩
    have hP : (10 : Int) ^ ((dd U).e + 1075).toNat = 10 ^ t * st (V a) n := by rw [ht, r4, Int.pow_add, Int.mul_comm]
    have t1 : (1 : Int) ≤ 10 ^ t := Fx.p_pos t
    obtain ⟨m, hm, hmW⟩ : ∃ m, (m = k + 10 ^ t ∨ m = k - 10 ^ t) ∧ W = m * st (V a) n := by
      rcases hW with g | g
      · exact ⟨k + 10 ^ t, .inl rfl, by rw [g, hP, hU, Int.add_mul]⟩
      · exact ⟨k - 10 ^ t, .inr rfl, by rw [g, hP, hU, Int.sub_mul]⟩
    have hmk : m ≠ k := by omega
    have even : (m = k + 1 ∨ m = k - 1) → k % 2 = 0 → dv (dd U).ds % 2 = 0 := by
      intro g1 g2
      have t0 : t = 0 := by
        rcases Nat.eq_zero_or_pos t with q | q
        · exact q
        · have := Fx.p_le (show 1 ≤ t from q)
          rw [Int.pow_one] at this
          omega
      rw [d3 (by omega)]
      exact g2
    obtain ⟨v1, v2, v3⟩ := divS (U := V a) (st_pos (V a) n)
    have sp := st_pos (V a) n
    have i0 : ∀ z : Int, inB a (z * st (V a) n) = true → z ≤ V a / st (V a) n → inB a (V a / st (V a) n * st (V a) n) = true := fun z q1 q2 => inB_dn q1 (by omega) (Int.mul_le_mul_of_nonneg_right q2 (Int.le_of_lt sp))
    have i1 : ∀ z : Int, inB a (z * st (V a) n) = true → V a / st (V a) n + 1 ≤ z → inB a ((V a / st (V a) n + 1) * st (V a) n) = true := fun z q1 q2 => inB_up q1 (by rw [Int.add_mul, Int.one_mul]; omega) (Int.mul_le_mul_of_nonneg_right q2 (Int.le_of_lt sp)) ha
    rw [hmW] at hi
    have low : ∀ z : Int, z ≤ V a / st (V a) n - 1 → z * st (V a) n ≤ V a / st (V a) n * st (V a) n - st (V a) n := by
      intro z q
      have := Int.mul_le_mul_of_nonneg_right q (Int.le_of_lt sp)
      rw [Int.sub_mul, Int.one_mul] at this
      exact this
    have high : ∀ z : Int, V a / st (V a) n + 2 ≤ z → V a / st (V a) n * st (V a) n + 2 * st (V a) n ≤ z * st (V a) n := by
      intro z q
      have := Int.mul_le_mul_of_nonneg_right q (Int.le_of_lt sp)
      rw [Int.add_mul] at this
      exact this
    have e1 : (V a / st (V a) n + 1) * st (V a) n = V a / st (V a) n * st (V a) n + st (V a) n := by rw [Int.add_mul, Int.one_mul]
    have hup : (upB (V a) (st (V a) n) = true ∧ (st (V a) n < 2 * (V a % st (V a) n) ∨ (st (V a) n = 2 * (V a % st (V a) n) ∧ (V a / st (V a) n) % 2 = 1))) ∨ (upB (V a) (st (V a) n) = false ∧ ¬ (st (V a) n < 2 * (V a % st (V a) n) ∨ (st (V a) n = 2 * (V a % st (V a) n) ∧ (V a / st (V a) n) % 2 = 1))) := by
      unfold upB
      by_cases q : (st (V a) n < 2 * (V a % st (V a) n) ∨ (st (V a) n = 2 * (V a % st (V a) n) ∧ (V a / st (V a) n) % 2 = 1))
      · exact .inl ⟨decide_eq_true q, q⟩
      · exact .inr ⟨decide_eq_false q, q⟩
    have kk1 : (upB (V a) (st (V a) n) = true → k1 (V a) (st (V a) n) = V a / st (V a) n + 1 ∧ k2 (V a) (st (V a) n) = V a / st (V a) n) ∧ (upB (V a) (st (V a) n) = false → k1 (V a) (st (V a) n) = V a / st (V a) n ∧ k2 (V a) (st (V a) n) = V a / st (V a) n + 1) := by
      unfold k1 k2
      constructor
      · intro q; rw [if_pos q, if_pos q]; exact ⟨rfl, rfl⟩
      · intro q; rw [q, if_neg Bool.false_ne_true, if_neg Bool.false_ne_true]; exact ⟨rfl, rfl⟩
    have i0m := i0 m hi
    have i1m := i1 m hi
    have lm := low m
    have hm' := high m
    clear i0 i1 low high hi d d2 d3 ht hP t1 hm r1 r2 r4 r5 hl c h hn ha pp up hW
    generalize V a / st (V a) n = H at *
    generalize V a % st (V a) n = r at *
    generalize hSS : st (V a) n = S at *
    generalize V a = VV at *
    clear hSS
    have same : ∀ z : Int, m = z → m * S = z * S := fun z q => by rw [q]
    have sameK : ∀ z : Int, k = z → k * S = z * S := fun z q => by rw [q]
    have mk : m ≠ k := hmk
    clear hmk
    rcases hup with ⟨hu, hu2⟩ | ⟨hu, hu2⟩
    · obtain ⟨x1, x2⟩ := kk1.1 hu
      rw [x1] at hk
      rw [x2] at hk
      clear kk1 hu
      rcases hk with g | ⟨g, g'⟩
      · have uk := sameK _ g
        rcases (show m ≤ H - 1 ∨ m = H ∨ H + 2 ≤ m by omega) with q | q | q
        · have := lm q; clear even i0m i1m lm hm' same sameK; exact ⟨by omega, fun _ => by omega⟩
        · have := same _ q; exact ⟨by clear even i0m i1m lm hm' same sameK; omega, fun w => even (by omega) (by clear even i0m i1m lm hm' same sameK; omega)⟩
        · have := hm' q; clear even i0m i1m lm hm' same sameK; exact ⟨by omega, fun _ => by omega⟩
      · have uk := sameK _ g'
        rcases (show m ≤ H - 1 ∨ H + 1 ≤ m by omega) with q | q
        · have := lm q; clear even i0m i1m lm hm' same sameK; exact ⟨by omega, fun _ => by omega⟩
        · rw [i1m q] at g; exact absurd g (by decide)
    · obtain ⟨x1, x2⟩ := kk1.2 hu
      rw [x1] at hk
      rw [x2] at hk
      clear kk1 hu
      rcases hk with g | ⟨g, g'⟩
      · have uk := sameK _ g
        rcases (show m ≤ H - 1 ∨ m = H + 1 ∨ H + 2 ≤ m by omega) with q | q | q
        · have := lm q; clear even i0m i1m lm hm' same sameK; exact ⟨by omega, fun _ => by omega⟩
        · have := same _ q; exact ⟨by clear even i0m i1m lm hm' same sameK; omega, fun w => even (by omega) (by clear even i0m i1m lm hm' same sameK; omega)⟩
        · have := hm' q; clear even i0m i1m lm hm' same sameK; exact ⟨by omega, fun _ => by omega⟩
      · have uk := sameK _ g'
        rcases (show m ≤ H ∨ H + 2 ≤ m by omega) with q | q
        · rw [i0m q] at g; exact absurd g (by decide)
        · have := hm' q; clear even i0m i1m lm hm' same sameK; exact ⟨by omega, fun _ => by omega⟩
end Sh
end Go.Proofs.YtonnlimmjelldaaGreatDoor
