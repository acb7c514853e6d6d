/-
  Texts put together: LGapN, PoNearN, PoNearF, PoPads, VWhole, LPlaced, LRowLt, LGap, LLess, LModest.
-/
import Derived.Test.YtaoaniigbooihaaGreatDoorRH
import Derived.Laws.BitsLemmas
import Derived.Test.YtaoaniigbooihaaGreatDoorRG
import Derived.Test.YtaoaniigbooihaaGreatDoorNMem
import Derived.Test.YtaoaniigbooihaaGreatDoorRD
import Derived.Deep.DeepCutAuto
import Derived.BigQuiet
import Derived.Test.YtaoaniigbooihaaGreatDoorFRow3
import Derived.Test.YtaoaniigbooihaaGreatDoorRB
import Derived.Deep.RegionHeld3
import Derived.Deep.CutBlock
import Derived.OwnWalk
import Derived.Deep.CutRange
import Derived.Test.YtaoaniigbooihaaGreatDoorVStr
import Derived.Deep.LoopGhost
import Derived.Lib.AppendIntMem
namespace Go.Proofs.YtaoaniigbooihaaGreatDoor
open Go.RowKit Go.Deep
namespace Sh

theorem dg_at : ∀ (n : Nat) (T : Int) (i : Nat), i < n → (Dn.dg 10 n T).getD i 0 = T / 10 ^ (n - 1 - i) % 10
  | 0, T, i, h => by omega
  | n + 1, T, i, h => by
    rw [Dn.dg_head (by omega)]
    cases i with
    | zero => simp
    | succ i =>
      have := dg_at n (T % 10 ^ n) i (by omega)
      simp only [List.getD_cons_succ]
      rw [this, show n + 1 - 1 - (i + 1) = n - 1 - i by omega]
      obtain ⟨k, hk⟩ : ∃ k, n = (n - 1 - i) + (k + 1) := ⟨i, by omega⟩
      generalize n - 1 - i = j at *
      subst hk
      have p1 := Fx.p_pos j
      have p2 := Fx.p_pos k
      have h1 := Int.emod_add_mul_ediv T (10 ^ (j + (k + 1)))
      generalize T % 10 ^ (j + (k + 1)) = r at *
      generalize T / 10 ^ (j + (k + 1)) = q at *
      rw [← h1, Int.pow_add, Int.pow_succ, show (10 : Int) ^ j * (10 ^ k * 10) * q = 10 ^ j * (10 ^ k * q * 10) by ac_rfl, Int.add_mul_ediv_left _ _ (by omega)]
      omega
theorem dg_len (n : Nat) (T : Int) : (Dn.dg 10 n T).length = n := Dn.dg_length 10 n T
theorem dg_bd (n : Nat) (T : Int) (i : Nat) (h : i < n) : 0 ≤ (Dn.dg 10 n T).getD i 0 ∧ (Dn.dg 10 n T).getD i 0 < 10 := by rw [dg_at n T i h]; omega

/-- One place of a difference. -/
theorem sub_step {X Y P b x y : Int} (hP : 0 < P) (hb : b = if X % P < Y % P then 1 else 0) (hx : x = X / P % 10) (hy : y = Y / P % 10) :
    (x < y + b → x + 10 - (y + b) = (X - Y) / P % 10 ∧ X % (P * 10) < Y % (P * 10)) ∧ (y + b ≤ x → x - (y + b) = (X - Y) / P % 10 ∧ ¬ X % (P * 10) < Y % (P * 10)) := by
  obtain ⟨d1, d2, d3⟩ := divS (U := X) hP
  obtain ⟨e1, e2, e3⟩ := divS (U := Y) hP
  have m1 : X % (P * 10) = X % P + P * (X / P % 10) := by
    have h1 := Int.mul_ediv_add_emod (X / P) 10
    have e : X = P * 10 * (X / P / 10) + (X % P + P * (X / P % 10)) := by
      have : P * 10 * (X / P / 10) + (X % P + P * (X / P % 10)) = P * (10 * (X / P / 10) + X / P % 10) + X % P := by rw [Int.mul_add, Int.mul_assoc]; omega
      rw [this, h1, Int.mul_comm]
      exact d1
    have q1 := Int.emod_nonneg (X / P) (show (10 : Int) ≠ 0 by decide)
    have q2 := Int.emod_lt_of_pos (X / P) (show (0 : Int) < 10 by decide)
    have q3 : P * (X / P % 10) ≤ P * 9 := Int.mul_le_mul_of_nonneg_left (by omega) (by omega)
    have q4 : 0 ≤ P * (X / P % 10) := Int.mul_nonneg (by omega) q1
    conv => lhs; rw [e]
    rw [Int.add_comm, Int.add_mul_emod_self_left]
    exact Int.emod_eq_of_lt (by omega) (by omega)
  have m2 : Y % (P * 10) = Y % P + P * (Y / P % 10) := by
    have h1 := Int.mul_ediv_add_emod (Y / P) 10
    have e : Y = P * 10 * (Y / P / 10) + (Y % P + P * (Y / P % 10)) := by
      have : P * 10 * (Y / P / 10) + (Y % P + P * (Y / P % 10)) = P * (10 * (Y / P / 10) + Y / P % 10) + Y % P := by rw [Int.mul_add, Int.mul_assoc]; omega
      rw [this, h1, Int.mul_comm]
      exact e1
    have q1 := Int.emod_nonneg (Y / P) (show (10 : Int) ≠ 0 by decide)
    have q2 := Int.emod_lt_of_pos (Y / P) (show (0 : Int) < 10 by decide)
    have q3 : P * (Y / P % 10) ≤ P * 9 := Int.mul_le_mul_of_nonneg_left (by omega) (by omega)
    have q4 : 0 ≤ P * (Y / P % 10) := Int.mul_nonneg (by omega) q1
    conv => lhs; rw [e]
    rw [Int.add_comm, Int.add_mul_emod_self_left]
    exact Int.emod_eq_of_lt (by omega) (by omega)
  have dq : (X - Y) / P = X / P - Y / P - b := by
    have e : X - Y = (X % P - Y % P + b * P) + (X / P - Y / P - b) * P := by rw [Int.sub_mul, Int.sub_mul]; omega
    rw [e, Int.add_mul_ediv_right _ _ (by omega)]
    have : (X % P - Y % P + b * P) / P = 0 := by
      apply Int.ediv_eq_zero_of_lt
      · rw [hb]; split <;> omega
      · rw [hb]; split <;> omega
    omega
  rw [m1, m2, ← hx, ← hy, dq]
  have bb : b = 0 ∨ b = 1 := by rw [hb]; split <;> omega
  have bx : x % 10 = x ∧ y % 10 = y := by omega
  have xy : (X / P - Y / P - b) % 10 = (x - y - b) % 10 := by omega
  have key : ∀ z : Int, z = x - y → P * x = P * y + P * z := fun z h => by rw [← Int.mul_add]; congr 1; omega
  have k1 := key (x - y) rfl
  have hbi : (X % P < Y % P ∧ b = 1) ∨ (¬ X % P < Y % P ∧ b = 0) := by
    rw [hb]; split
    · rename_i h; exact .inl ⟨h, rfl⟩
    · rename_i h; exact .inr ⟨h, rfl⟩
  constructor
  · intro h
    refine ⟨by omega, ?_⟩
    rcases (show x - y ≤ -1 ∨ x - y = 0 by omega) with c | c
    · have := Int.mul_le_mul_of_nonneg_left c (Int.le_of_lt hP)
      omega
    · rw [c, Int.mul_zero] at k1
      omega
  · intro h
    refine ⟨by omega, ?_⟩
    rcases (show 1 ≤ x - y ∨ x - y = 0 by omega) with c | c
    · have := Int.mul_le_mul_of_nonneg_left c (Int.le_of_lt hP)
      omega
    · rw [c, Int.mul_zero] at k1
      omega

/-- The row behind k places: the head as it was, the tail the difference's. -/
theorem dg_cut (k m : Nat) (X : Int) : Dn.dg 10 (m + k) X = Dn.dg 10 m (X / 10 ^ k) ++ Dn.dg 10 k X := by rw [Dn.dg_split (by omega), Dn.dg_mod (by omega)]
theorem dg_set (k m : Nat) (X W : Int) (z : Int) (hz : z = W / 10 ^ k % 10) : (Dn.dg 10 (m + 1) (X / 10 ^ k) ++ Dn.dg 10 k W).set m z = Dn.dg 10 m (X / 10 ^ (k + 1)) ++ Dn.dg 10 (k + 1) W := by
  have e1 : Dn.dg 10 (m + 1) (X / 10 ^ k) = Dn.dg 10 m (X / 10 ^ (k + 1)) ++ [X / 10 ^ k % 10] := by
    rw [dg_cut 1 m, Dn.dg_one, Int.pow_one, Int.ediv_ediv_of_nonneg (Int.le_of_lt (Fx.p_pos k)), ← Int.pow_succ]
  have e2 : Dn.dg 10 (k + 1) W = [W / 10 ^ k % 10] ++ Dn.dg 10 k W := by
    rw [Nat.add_comm k 1, dg_cut k 1, Dn.dg_one]
  rw [e1, e2, List.append_assoc, List.set_append_right _ _ (by rw [dg_len]; omega), dg_len, Nat.sub_self, hz]
  rfl

/-- A row's digit at a place. -/
theorem place_dig {n t j : Nat} {T : Int} (h0 : 0 ≤ T) (h1 : T < 10 ^ n) : (t ≤ j → j < t + n → (Dn.dg 10 n T).getD (n - 1 - (j - t)) 0 = T * 10 ^ t / 10 ^ j % 10) ∧ (¬ (t ≤ j ∧ j < t + n) → T * 10 ^ t / 10 ^ j % 10 = 0) := by
  have pt := Fx.p_pos t
  constructor
  · intro a b
    rw [dg_at n T _ (by omega), show n - 1 - (n - 1 - (j - t)) = j - t by omega]
    obtain ⟨k, rfl⟩ : ∃ k, j = t + k := ⟨j - t, by omega⟩
    rw [Nat.add_sub_cancel_left, Int.pow_add, Int.mul_comm T, Int.mul_ediv_mul_of_pos _ _ pt]
  · intro c
    rcases (show j < t ∨ t + n ≤ j by omega) with g | g
    · obtain ⟨k, rfl⟩ : ∃ k, t = j + (k + 1) := ⟨t - j - 1, by omega⟩
      rw [Int.pow_add, show T * (10 ^ j * 10 ^ (k + 1)) = 10 ^ j * (T * 10 ^ (k + 1)) by ac_rfl, Int.mul_ediv_cancel_left _ (by have := Fx.p_pos j; omega), Int.pow_succ, ← Int.mul_assoc]
      omega
    · have : T * 10 ^ t / 10 ^ j = 0 := by
        apply Int.ediv_eq_zero_of_lt (Int.mul_nonneg h0 (Int.le_of_lt pt))
        refine Int.lt_of_lt_of_le (Int.mul_lt_mul_of_pos_right h1 pt) ?_
        rw [← Int.pow_add]
        exact Fx.p_le (by omega)
      rw [this]
      rfl
theorem cmp_dig {A B : Int} {j : Nat} (h : A / 10 ^ (j + 1) = B / 10 ^ (j + 1)) : (A / 10 ^ j % 10 < B / 10 ^ j % 10 → A < B) ∧ (B / 10 ^ j % 10 < A / 10 ^ j % 10 → B < A) ∧ (A / 10 ^ j % 10 = B / 10 ^ j % 10 → A / 10 ^ j = B / 10 ^ j) := by
  have p := Fx.p_pos j
  rw [Int.pow_succ, ← Int.ediv_ediv_of_nonneg (Int.le_of_lt p), ← Int.ediv_ediv_of_nonneg (Int.le_of_lt p)] at h
  have a := Int.mul_ediv_add_emod (A / 10 ^ j) 10
  have b := Int.mul_ediv_add_emod (B / 10 ^ j) 10
  have lt : ∀ U W : Int, U / 10 ^ j < W / 10 ^ j → U < W := by
    intro U W g
    rcases (show U < W ∨ W ≤ U by omega) with c | c
    · exact c
    · have := Int.ediv_le_ediv p c
      omega
  refine ⟨fun g => lt _ _ (by omega), fun g => lt _ _ (by omega), fun g => by omega⟩
end Sh
end Go.Proofs.YtaoaniigbooihaaGreatDoor

namespace Go.Proofs.YtaoaniigbooihaaGreatDoor
open Go Go.RowKit Go.Deep
namespace Fx
theorem big5 : (9007199254740992 : Int) * 5 ^ 1074 ≤ 10 ^ 768 := by decide +kernel
theorem big2 : (9007199254740992 : Int) * 2 ^ 971 ≤ 10 ^ 768 := by decide +kernel
/-- The exact digits of a double are few. -/
theorem X_len {d : Int} (h : Ie.fnt d = true) : (X d).length ≤ 769 := by
  obtain ⟨m0, m1, e0, e1, _⟩ := Ie.fdec d (of_decide_eq_true h)
  rcases (show Ie.dm d = 0 ∨ 0 < Ie.dm d by omega) with c | c
  · rw [(X_zero h c).1]; simp
  · have ex := X_ex h
    have q := ex.eq c
    have lo := ex.lo
    have nm := ex.nml c
    obtain ⟨n, hn⟩ := nm.len
    have hl := head_low nm.digs hn nm.head
    -- the number whose digits these are
    have key : ∃ (T : Int) (z : Nat), 0 < T ∧ T ≤ 10 ^ 768 ∧ Ie.dm d * 2 ^ (Ie.de d + 1074).toNat * F5 = T * 10 ^ z := by
      rcases (show Ie.de d ≤ 0 ∨ 0 < Ie.de d by omega) with g | g
      · obtain ⟨f, hf⟩ : ∃ f : Nat, -(Ie.de d) = (f : Int) := ⟨(-(Ie.de d)).toNat, by omega⟩
        refine ⟨Ie.dm d * 5 ^ f, 1074 - f, Int.mul_pos c (Int.pow_pos (by omega)), ?_, ?_⟩
        · have a1 : Ie.dm d * 5 ^ f ≤ 9007199254740992 * 5 ^ f := Int.mul_le_mul_of_nonneg_right (by omega) (Int.le_of_lt (Int.pow_pos (by omega)))
          have a2 : (5 : Int) ^ f ≤ 5 ^ 1074 := by
            rw [show 1074 = (1074 - f) + f by omega, Int.pow_add]
            have : (1 : Int) ≤ 5 ^ (1074 - f) := Int.pow_pos (by omega)
            have p : (0 : Int) < 5 ^ f := Int.pow_pos (by omega)
            generalize (5 : Int) ^ (1074 - f) = u at *
            have := Int.mul_le_mul_of_nonneg_right this (Int.le_of_lt p)
            omega
          have a3 := Int.mul_le_mul_of_nonneg_left a2 (show (0 : Int) ≤ 9007199254740992 by omega)
          have := big5
          generalize (5 : Int) ^ 1074 = u at *
          generalize (10 : Int) ^ 768 = v at *
          omega
        · rw [show (Ie.de d + 1074).toNat = 1074 - f by omega, F5, show (10 : Int) = 2 * 5 from rfl, Int.mul_pow]
          have e2 : (5 : Int) ^ 1074 = 5 ^ f * 5 ^ (1074 - f) := by rw [← Int.pow_add]; congr 1; omega
          rw [e2]
          generalize (5 : Int) ^ (1074 - f) = u
          generalize (2 : Int) ^ (1074 - f) = v
          ac_rfl
      · obtain ⟨f, hf⟩ : ∃ f : Nat, Ie.de d = (f : Int) := ⟨(Ie.de d).toNat, by omega⟩
        refine ⟨Ie.dm d * 2 ^ f, 1074, Int.mul_pos c (Int.pow_pos (by omega)), ?_, ?_⟩
        · have a1 : Ie.dm d * 2 ^ f ≤ 9007199254740992 * 2 ^ f := Int.mul_le_mul_of_nonneg_right (by omega) (Int.le_of_lt (Int.pow_pos (by omega)))
          have a2 : (2 : Int) ^ f ≤ 2 ^ 971 := by
            rw [show 971 = (971 - f) + f by omega, Int.pow_add]
            have : (1 : Int) ≤ 2 ^ (971 - f) := Int.pow_pos (by omega)
            have p : (0 : Int) < 2 ^ f := Int.pow_pos (by omega)
            generalize (2 : Int) ^ (971 - f) = u at *
            have := Int.mul_le_mul_of_nonneg_right this (Int.le_of_lt p)
            omega
          have a3 := Int.mul_le_mul_of_nonneg_left a2 (show (0 : Int) ≤ 9007199254740992 by omega)
          have := big2
          generalize (2 : Int) ^ 971 = u at *
          generalize (10 : Int) ^ 768 = v at *
          omega
        · rw [show (Ie.de d + 1074).toNat = f + 1074 by omega, F5, show (10 : Int) = 2 * 5 from rfl, Int.mul_pow, Int.pow_add]
          generalize (5 : Int) ^ 1074 = u
          generalize (2 : Int) ^ 1074 = v
          ac_rfl
    obtain ⟨T, z, t0, t1, tq⟩ := key
    rw [tq] at q
    obtain ⟨ys, b, h1, h2⟩ := nml_ex T.toNat (by omega)
    have h2 : dv ys * 10 ^ b = T := by rw [h2]; omega
    rw [← h2, Int.mul_assoc, ← Int.pow_add] at q
    obtain ⟨e2, -⟩ := nml_one nm h1 q
    rw [e2] at hl hn
    have p : (1 : Int) ≤ 10 ^ b := p_pos b
    have yp : 0 ≤ dv ys := (dv_bd h1.digs).1
    have : dv ys ≤ T := by
      rw [← h2]
      have := Int.mul_le_mul_of_nonneg_left p yp
      omega
    have lt : (10 : Int) ^ n < 10 ^ 769 := by
      have : (10 : Int) ^ 769 = 10 ^ 768 * 10 := Int.pow_succ ..
      rw [this]
      have := p_pos 768
      generalize (10 : Int) ^ 768 = v at *
      omega
    have := p_lt lt
    rw [e2, hn]
    omega
end Fx
namespace Po

/-- N units of 10^q are within a half unit of d's exact value, the even number at just a half. -/
def Nrs (N q d : Int) : Prop := ∀ M : Nat, 0 ≤ q + M → 0 ≤ Fx.P d + M →
  2 * (N * 10 ^ (q + M).toNat - dv (Fx.X d) * 10 ^ (Fx.P d + M).toNat) ≤ 10 ^ (q + M).toNat ∧
  2 * (dv (Fx.X d) * 10 ^ (Fx.P d + M).toNat - N * 10 ^ (q + M).toNat) ≤ 10 ^ (q + M).toNat ∧
  ((2 * (N * 10 ^ (q + M).toNat - dv (Fx.X d) * 10 ^ (Fx.P d + M).toNat) = 10 ^ (q + M).toNat ∨ 2 * (dv (Fx.X d) * 10 ^ (Fx.P d + M).toNat - N * 10 ^ (q + M).toNat) = 10 ^ (q + M).toNat) → N % 2 = 0)

/-- Places. -/
theorem nrs_W {d : Int} (hf : Ie.fnt d = true) (n : Nat) : Nrs (dv (Fx.W d n)) (-(n : Int)) d := by
  intro M h1 h2
  obtain ⟨m0, m1, e0, e1, _⟩ := Ie.fdec d (of_decide_eq_true hf)
  have nr := Fx.near_W hf n
  have hD : (0 : Int) < 2 ^ Fx.dn d := Int.pow_pos (by omega)
  obtain ⟨r, hr⟩ : ∃ r : Nat, -(n : Int) + M = (r : Int) := ⟨M - n, by omega⟩
  rw [show (-(n : Int) + M).toNat = r by omega]
  have V : dv (Fx.X d) * 10 ^ (Fx.P d + M).toNat * 2 ^ Fx.dn d = Fx.top d n * 10 ^ r := by
    rcases (show Ie.dm d = 0 ∨ 0 < Ie.dm d by omega) with c | c
    · rw [(Fx.X_zero hf c).1, Fx.top, c]
      simp [dv, Dn.tv]
    · have q := Fx.ex_pow c e0 (Fx.X_ex hf)
      have lo := (Fx.X_ex hf).lo
      rw [← Fx.dn] at q
      refine Int.eq_of_mul_eq_mul_right (a := 10 ^ 1074) (by have := Fx.p_pos 1074; omega) ?_
      have s1 : (10 : Int) ^ (Fx.P d + M).toNat * 10 ^ 1074 = 10 ^ (Fx.P d + 1074).toNat * 10 ^ M := by rw [← Int.pow_add, ← Int.pow_add]; congr 1; omega
      have s2 : (10 : Int) ^ M = 10 ^ n * 10 ^ r := by rw [← Int.pow_add]; congr 1; omega
      generalize (10 : Int) ^ 1074 = z at *
      calc dv (Fx.X d) * 10 ^ (Fx.P d + M).toNat * 2 ^ Fx.dn d * z = dv (Fx.X d) * (10 ^ (Fx.P d + M).toNat * z) * 2 ^ Fx.dn d := by ac_rfl
        _ = dv (Fx.X d) * 10 ^ (Fx.P d + 1074).toNat * 2 ^ Fx.dn d * 10 ^ M := by rw [s1]; ac_rfl
        _ = Fx.top d n * 10 ^ r * z := by rw [q, s2, Fx.top]; ac_rfl
  have hr0 := Fx.p_pos r
  generalize (10 : Int) ^ r = R at *
  generalize dv (Fx.X d) * 10 ^ (Fx.P d + M).toNat = Z at *
  generalize dv (Fx.W d n) = N at *
  generalize Fx.top d n = A at *
  generalize (2 : Int) ^ Fx.dn d = D at *
  obtain ⟨n1, n2, n3⟩ := nr
  -- (N R - Z) D = (N D - A) R
  have E : (N * R - Z) * D = (N * D - A) * R := by rw [Int.sub_mul, Int.sub_mul, V]; congr 1; ac_rfl
  have E' : (Z - N * R) * D = (A - N * D) * R := by rw [Int.sub_mul, Int.sub_mul, V]; congr 1; ac_rfl
  have L1 : 2 * (N * R - Z) * D ≤ R * D := by
    have := Int.mul_le_mul_of_nonneg_right n1 (Int.le_of_lt hr0)
    rw [Int.mul_assoc, E, ← Int.mul_assoc, Int.mul_comm R D]; exact this
  have L2 : 2 * (Z - N * R) * D ≤ R * D := by
    have := Int.mul_le_mul_of_nonneg_right n2 (Int.le_of_lt hr0)
    rw [Int.mul_assoc, E', ← Int.mul_assoc, Int.mul_comm R D]; exact this
  refine ⟨Int.le_of_mul_le_mul_right L1 hD, Int.le_of_mul_le_mul_right L2 hD, fun h => n3 ?_⟩
  rcases h with h | h
  · left
    have : 2 * (N * R - Z) * D = R * D := by rw [h]
    rw [Int.mul_assoc, E, ← Int.mul_assoc, Int.mul_comm R D] at this
    exact Int.eq_of_mul_eq_mul_right (by omega) this
  · right
    have : 2 * (Z - N * R) * D = R * D := by rw [h]
    rw [Int.mul_assoc, E', ← Int.mul_assoc, Int.mul_comm R D] at this
    exact Int.eq_of_mul_eq_mul_right (by omega) this

theorem nrs_exact {N q d : Int} (h : ∀ M : Nat, 0 ≤ q + M → 0 ≤ Fx.P d + M → N * 10 ^ (q + M).toNat = dv (Fx.X d) * 10 ^ (Fx.P d + M).toNat) : Nrs N q d := by
  intro M h1 h2
  rw [h M h1 h2]
  have := Fx.p_pos (q + M).toNat
  generalize (10 : Int) ^ (q + M).toNat = R at *
  refine ⟨by omega, by omega, fun c => by omega⟩

/-- Figures. -/
theorem nrs_G {d : Int} (hf : Ie.fnt d = true) {n : Nat} (h1 : 1 ≤ n) (h2 : n ≤ 4200) : Nrs (dv (Fx.gS d n)) (Fx.gK d n - (n - 1)) d := by
  have r : Fx.rf d n 1 = 0 := Fx.rf_zero.2 ⟨hf, by omega, by omega⟩
  have hx := (Fx.X_digs hf).1
  have l1 := (Fx.X_room hf).2.2.2.2
  unfold Fx.gS Fx.gK
  rw [if_pos r, if_pos r, Int.toNat_natCast]
  rcases Nat.lt_or_ge n (Fx.X d).length with g | g
  · rw [Fx.kp_cut g]
    have hl := Fx.rd_len (Fx.X d) n
    have hv := Fx.rd_dv hx (k := n) (by omega)
    obtain ⟨a1, a2, a3⟩ := Fx.rn_near hx n
    by_cases c : Fx.rn (Fx.X d) n = 10 ^ n
    · rw [if_pos c] at hl
      obtain ⟨j, rfl⟩ : ∃ j, n = j + 1 := ⟨n - 1, by omega⟩
      have rdv : Fx.rd (Fx.X d) (j + 1) = 49 :: List.replicate (j + 1) 48 := by unfold Fx.rd; rw [c, if_pos rfl, Fx.tx_ten]
      rw [if_pos (by rw [hl]; omega), rdv]
      have tk : (49 :: List.replicate (j + 1) (48 : Int)).take (j + 1) = 49 :: List.replicate j 48 := by
        rw [List.take_succ_cons, List.take_replicate, Nat.min_eq_left (by omega)]
      have dvv : dv (49 :: List.replicate j (48 : Int)) = 10 ^ j := by
        rw [dv_cons, dv_zeros, List.length_replicate]; omega
      rw [tk, dvv]
      intro M m1 m2
      -- twice the way is at most a tenth of the unit
      obtain ⟨z, hz⟩ : ∃ z : Nat, Fx.P d + M = (z : Int) := ⟨(Fx.P d + M).toNat, by omega⟩
      obtain ⟨y, hy⟩ : ∃ y : Nat, (Fx.X d).length - (j + 1) = y := ⟨_, rfl⟩
      have eq1 : (((Fx.X d).length : Int) - 1 + Fx.P d + 1 - (((j + 1 : Nat) : Int) - 1) + M).toNat = y + 1 + z := by omega
      rw [show (((Fx.X d).length : Int) - 1 + Fx.P d + 1 - (((j + 1 : Nat) : Int) - 1) + M).toNat = y + 1 + z from eq1, show (Fx.P d + M).toNat = z by omega]
      rw [c, hy] at a1 a2
      have pz := Fx.p_pos z
      have py := Fx.p_pos y
      rw [Int.pow_add, Int.pow_succ]
      rw [show (10 : Int) ^ (j + 1) = 10 ^ j * 10 from Int.pow_succ ..] at a1 a2
      have b1 := Int.mul_le_mul_of_nonneg_right a1 (Int.le_of_lt pz)
      have b2 := Int.mul_le_mul_of_nonneg_right a2 (Int.le_of_lt pz)
      have b3 : 0 < (10 : Int) ^ y * 10 ^ z := Int.mul_pos py pz
      rw [show 2 * (10 ^ j * 10 * 10 ^ y - dv (Fx.X d)) * 10 ^ z = 2 * (10 ^ j * (10 ^ y * 10 * 10 ^ z) - dv (Fx.X d) * 10 ^ z) by
        rw [Int.mul_assoc, Int.sub_mul]; congr 2; ac_rfl] at b1
      rw [show 2 * (dv (Fx.X d) - 10 ^ j * 10 * 10 ^ y) * 10 ^ z = 2 * (dv (Fx.X d) * 10 ^ z - 10 ^ j * (10 ^ y * 10 * 10 ^ z)) by
        rw [Int.mul_assoc, Int.sub_mul]; congr 2; ac_rfl] at b2
      have b4 : (10 : Int) ^ y * 10 * 10 ^ z = 10 * (10 ^ y * 10 ^ z) := by ac_rfl
      generalize 10 ^ j * (10 ^ y * 10 * (10 : Int) ^ z) = u at *
      rw [b4]
      generalize (10 : Int) ^ y * 10 ^ z = v at *
      generalize dv (Fx.X d) * 10 ^ z = t at *
      refine ⟨by omega, by omega, fun h => by omega⟩
    · rw [if_neg c] at hl
      rw [if_neg (by rw [hl]; omega), List.take_of_length_le (by omega), hv]
      intro M m1 m2
      obtain ⟨z, hz⟩ : ∃ z : Nat, Fx.P d + M = (z : Int) := ⟨(Fx.P d + M).toNat, by omega⟩
      obtain ⟨y, hy⟩ : ∃ y : Nat, (Fx.X d).length - n = y := ⟨_, rfl⟩
      rw [show (((Fx.X d).length : Int) - 1 + Fx.P d + 0 - ((n : Int) - 1) + M).toNat = y + z by omega, show (Fx.P d + M).toNat = z by omega]
      rw [hy] at a1 a2 a3
      have pz := Fx.p_pos z
      rw [Int.pow_add]
      have c1 : 2 * (Fx.rn (Fx.X d) n * (10 ^ y * 10 ^ z) - dv (Fx.X d) * 10 ^ z) = 2 * (Fx.rn (Fx.X d) n * 10 ^ y - dv (Fx.X d)) * 10 ^ z := by
        rw [Int.mul_assoc 2, Int.sub_mul]; congr 2; ac_rfl
      have c2 : 2 * (dv (Fx.X d) * 10 ^ z - Fx.rn (Fx.X d) n * (10 ^ y * 10 ^ z)) = 2 * (dv (Fx.X d) - Fx.rn (Fx.X d) n * 10 ^ y) * 10 ^ z := by
        rw [Int.mul_assoc 2, Int.sub_mul]; congr 2; ac_rfl
      rw [c1, c2]
      refine ⟨Int.mul_le_mul_of_nonneg_right a1 (Int.le_of_lt pz), Int.mul_le_mul_of_nonneg_right a2 (Int.le_of_lt pz), fun h => a3 ?_⟩
      rcases h with h | h
      · exact .inl (Int.eq_of_mul_eq_mul_right (by omega) h)
      · exact .inr (Int.eq_of_mul_eq_mul_right (by omega) h)
  · rw [Fx.kp_full g]
    have hl : (Fx.X d ++ List.replicate (n - (Fx.X d).length) 48).length = n := by rw [List.length_append, List.length_replicate]; omega
    rw [if_neg (by rw [hl]; omega), List.take_of_length_le (by omega)]
    refine nrs_exact (fun M m1 m2 => ?_)
    rw [dv_append, dv_zeros, List.length_replicate, Int.add_zero, Int.mul_assoc, ← Int.pow_add]
    congr 2
    omega

/-- A row's normal form. -/
theorem nrm_val {xs : List Int} {q : Int} (neg : Bool) (hd : Digs xs) (hn : xs ≠ []) :
    (Sc.nrm neg xs q).neg = neg ∧ Digs (Sc.nrm neg xs q).ds ∧ (Sc.nrm neg xs q).ds ≠ [] ∧ (Sc.nrm neg xs q).ds.length ≤ xs.length ∧
    ((dv xs = 0 ∧ (Sc.nrm neg xs q).ds = [48] ∧ (Sc.nrm neg xs q).e = 0) ∨ (0 < dv xs ∧ ∃ t : Nat, t < xs.length ∧ (Sc.nrm neg xs q).e = q + t ∧ dv (Sc.nrm neg xs q).ds * 10 ^ t = dv xs ∧ (Sc.nrm neg xs q).ds.length + t ≤ xs.length)) := by
  have xl := List.length_pos_iff.2 hn
  by_cases hz : Sc.lz xs = xs.length
  · have e := Sh.dv_head0 (Sc.lz xs) xs (fun i hi => Sc.lz_at hi) (Sc.lz_le xs)
    rw [hz, List.drop_length] at e
    rw [Sc.nrm_zero hz]
    refine ⟨rfl, ?_, by simp, by simp; omega, .inl ⟨by rw [e]; rfl, rfl, rfl⟩⟩
    intro x hx
    simp at hx
    omega
  · rw [Sc.nrm_pos hz]
    have lt := Sc.lz_tz hz
    have hdd : Digs (xs.drop (Sc.lz xs)) := fun d h => hd d (List.mem_of_mem_drop h)
    have hh : (xs.drop (Sc.lz xs)).getD 0 0 ≠ 48 := by
      have := Sc.lz_end xs
      have e := Sc.pk_drop xs (Sc.lz xs) 0
      rw [Nat.add_zero] at e
      unfold Sc.pk at e this
      rw [e]
      exact this
    have hlen : (xs.drop (Sc.lz xs)).length = xs.length - Sc.lz xs := List.length_drop
    have hv : 0 < dv (xs.drop (Sc.lz xs)) := by
      obtain ⟨n, hn⟩ : ∃ n, (xs.drop (Sc.lz xs)).length = n + 1 := ⟨xs.length - Sc.lz xs - 1, by omega⟩
      have := Fx.head_low hdd hn hh
      have := Fx.p_pos n
      omega
    obtain ⟨kp, nm, v⟩ := Fx.nml_take (ys := xs.drop (Sc.lz xs)) (k := xs.length - Sc.tz xs - Sc.lz xs) hdd hh (by omega) (fun i h1 h2 => by
      have e := Sc.pk_drop xs (Sc.lz xs) i
      unfold Sc.pk at e
      rw [e]
      exact Sc.tz_at (by omega) (by omega)) (fun h => by
      have e := Sc.pk_drop xs (Sc.lz xs) (xs.length - Sc.tz xs - Sc.lz xs - 1)
      have t := Sc.tz_end (ds := xs) (by omega)
      unfold Sc.pk at e t
      rw [e, show Sc.lz xs + (xs.length - Sc.tz xs - Sc.lz xs - 1) = xs.length - Sc.tz xs - 1 by omega]
      exact t) hv
    rw [hlen, show xs.length - Sc.lz xs - (xs.length - Sc.tz xs - Sc.lz xs) = Sc.tz xs by omega] at v
    have e := Sh.dv_head0 (Sc.lz xs) xs (fun i hi => Sc.lz_at hi) (Sc.lz_le xs)
    have ll : ((xs.drop (Sc.lz xs)).take (xs.length - Sc.tz xs - Sc.lz xs)).length = xs.length - Sc.tz xs - Sc.lz xs := by rw [List.length_take, hlen]; omega
    refine ⟨rfl, nm.digs, nm.ne, by show List.length _ ≤ _; rw [ll]; omega, .inr ⟨by rw [e]; exact hv, Sc.tz xs, by omega, rfl, by show dv _ * _ = _; rw [v, e], by show List.length _ + _ ≤ _; rw [ll]; omega⟩⟩

/-- THE GAP AND THE HALF: y the normal form of N units of 10^q. -/
theorem near_fin {N q d : Int} {yd : List Int} {ye : Int} (nr : Nrs N q d) (hd : Digs yd) (hn : yd ≠ []) (q0 : -5000 ≤ q) (q1 : q ≤ 400) (P0 : -5000 ≤ Fx.P d)
    (hy : (N = 0 ∧ yd = [48] ∧ ye = 0) ∨ (0 < N ∧ ∃ t : Nat, ye = q + t ∧ dv yd * 10 ^ t = N))
    {lo m : Int} {t1 t2 sa sb : Nat} (ht1 : ye - lo = (t1 : Int)) (ht2 : Fx.P d - lo = (t2 : Int)) (hsa : lo = m + sa) (hsb : q - 1 = m + sb) :
    ((((dv yd * 10 ^ t1 - dv (Fx.X d) * 10 ^ t2).natAbs : Int) * 10 ^ sa < 5 * 10 ^ sb) ∨ (((dv yd * 10 ^ t1 - dv (Fx.X d) * 10 ^ t2).natAbs : Int) * 10 ^ sa = 5 * 10 ^ sb ∧ (q < ye ∨ (yd.getD (yd.length - 1) 0) % 2 = 0))) := by
  -- all in units of 10^m
  obtain ⟨M, u, hMu⟩ : ∃ M u : Nat, m + M = (u : Int) := ⟨(-m).toNat, m.toNat, by omega⟩
  obtain ⟨n1, n2, n3⟩ := nr M (by omega) (by omega)
  rw [show (q + M).toNat = sb + 1 + u by omega, show (Fx.P d + M).toNat = t2 + sa + u by omega, Int.pow_add 10 (sb + 1) u, Int.pow_add 10 (t2 + sa) u] at n1 n2 n3
  have pu := Fx.p_pos u
  have f1 : 2 * (N * (10 ^ (sb + 1) * 10 ^ u) - dv (Fx.X d) * (10 ^ (t2 + sa) * 10 ^ u)) = 2 * (N * 10 ^ (sb + 1) - dv (Fx.X d) * 10 ^ (t2 + sa)) * 10 ^ u := by
    rw [Int.mul_assoc 2, Int.sub_mul, Int.mul_assoc, Int.mul_assoc]
  have f2 : 2 * (dv (Fx.X d) * (10 ^ (t2 + sa) * 10 ^ u) - N * (10 ^ (sb + 1) * 10 ^ u)) = 2 * (dv (Fx.X d) * 10 ^ (t2 + sa) - N * 10 ^ (sb + 1)) * 10 ^ u := by
    rw [Int.mul_assoc 2, Int.sub_mul, Int.mul_assoc, Int.mul_assoc]
  rw [f1, f2] at n3
  rw [f1] at n1
  rw [f2] at n2
  replace n1 := Int.le_of_mul_le_mul_right n1 pu
  replace n2 := Int.le_of_mul_le_mul_right n2 pu
  replace n3 : (2 * (N * 10 ^ (sb + 1) - dv (Fx.X d) * 10 ^ (t2 + sa)) = 10 ^ (sb + 1) ∨ 2 * (dv (Fx.X d) * 10 ^ (t2 + sa) - N * 10 ^ (sb + 1)) = 10 ^ (sb + 1)) → N % 2 = 0 := by
    rintro (h | h)
    · exact n3 (.inl (by rw [h]))
    · exact n3 (.inr (by rw [h]))
  clear f1 f2
  have Y : dv yd * 10 ^ t1 * 10 ^ sa = N * 10 ^ (sb + 1) := by
    rcases hy with ⟨a, b, c⟩ | ⟨a, t, b, c⟩
    · rw [a, b, show dv [48] = 0 from rfl]; simp
    · rw [← c, Int.mul_assoc, Int.mul_assoc, ← Int.pow_add, ← Int.pow_add]
      congr 2
      omega
  have Z : dv (Fx.X d) * 10 ^ t2 * 10 ^ sa = dv (Fx.X d) * 10 ^ (t2 + sa) := by rw [Int.mul_assoc, ← Int.pow_add]
  have ps := Fx.p_pos sa
  have pb := Fx.p_pos sb
  have G : ((dv yd * 10 ^ t1 - dv (Fx.X d) * 10 ^ t2).natAbs : Int) * 10 ^ sa = ((N * 10 ^ (sb + 1) - dv (Fx.X d) * 10 ^ (t2 + sa)).natAbs : Int) := by
    have e : N * 10 ^ (sb + 1) - dv (Fx.X d) * 10 ^ (t2 + sa) = (dv yd * 10 ^ t1 - dv (Fx.X d) * 10 ^ t2) * 10 ^ sa := by rw [Int.sub_mul, Y, Z]
    rw [e, Int.natAbs_mul, Int.natCast_mul, show (((10 : Int) ^ sa).natAbs : Int) = 10 ^ sa by omega]
  rw [G]
  rw [Int.pow_succ] at n1 n2 n3 ⊢
  have half : ∀ h : N % 2 = 0, q < ye ∨ (yd.getD (yd.length - 1) 0) % 2 = 0 := by
    intro h
    rcases hy with ⟨a, b, c⟩ | ⟨a, t, b, c⟩
    · right; rw [b]; decide
    · rcases Nat.eq_zero_or_pos t with t0 | t0
      · right
        subst t0
        obtain ⟨k, hk⟩ : ∃ k, yd.length = k + 1 := ⟨yd.length - 1, by have := List.length_pos_iff.2 hn; omega⟩
        have dm := Fx.dv_mod hd hk
        rw [hk, Nat.add_sub_cancel]
        rw [Int.pow_zero, Int.mul_one] at c
        omega
      · left; omega
  generalize N * (10 ^ sb * 10) = u at *
  generalize dv (Fx.X d) * 10 ^ (t2 + sa) = v at *
  generalize (10 : Int) ^ sb = b at *
  by_cases c : ((u - v).natAbs : Int) < 5 * b
  · exact .inl c
  · right
    have e : 2 * (u - v) = b * 10 ∨ 2 * (v - u) = b * 10 := by omega
    exact ⟨by omega, half (n3 e)⟩
end Po
end Go.Proofs.YtaoaniigbooihaaGreatDoor

namespace Go.Proofs.YtaoaniigbooihaaGreatDoor
open Go Go.RowKit Go.Deep
namespace Fx
theorem kp_len2 (xs : List Int) (c : Int) : (kp xs c).length ≤ c.toNat + 1 := by
  unfold kp
  split
  · simp
  · split
    · rw [List.length_append, List.length_replicate]; omega
    · rw [rd_len]; split <;> omega
theorem W_len2 {d : Int} (hf : Ie.fnt d = true) (n : Nat) : (W d n).length ≤ n + 311 := by
  obtain ⟨r1, r2, r3, r4, r5⟩ := X_room hf
  have := kp_len2 (X d) ((X d).length + P d + n)
  unfold W
  rw [List.length_append, List.length_replicate]
  omega
end Fx
namespace Po
theorem i64_and31 (n : Int) : bits .and .i64 n 31 = n % 32 := by
  have h31 : (BitVec.ofInt 64 31).toNat = 2 ^ 5 - 1 := by decide
  have key : (BitVec.ofInt 64 n &&& BitVec.ofInt 64 31).toNat = (n % ((2 ^ 64 : Nat) : Int)).toNat % 2 ^ 5 := by
    rw [BitVec.toNat_and, BitVec.toNat_ofInt, h31, Nat.and_two_pow_sub_one_eq_mod]
  show IntKind.i64.wrap ((BitVec.ofInt 64 n &&& BitVec.ofInt 64 31).toNat : Nat) = n % 32
  rw [key, IntKind.wrap_i64]
  omega
theorem bits_near {F : Int} (h0 : 0 ≤ F) (h1 : F ≤ 31) : (0 ≤ bits .or .i64 F 8 ∧ bits .or .i64 F 8 ≤ 31 ∧ Wh.bit (bits .or .i64 F 8) 8 = true) ∧ (0 ≤ bits .andNot .i64 F 6 ∧ bits .andNot .i64 F 6 ≤ 31 ∧ Wh.bit (bits .andNot .i64 F 6) 2 = false ∧ Wh.bit (bits .andNot .i64 F 6) 4 = false ∧ Wh.bit (bits .andNot .i64 F 6) 8 = Wh.bit F 8) := by
  have key : ∀ t : Fin 32, (0 ≤ bits .or .i64 (t.val : Int) 8 ∧ bits .or .i64 (t.val : Int) 8 ≤ 31 ∧ Wh.bit (bits .or .i64 (t.val : Int) 8) 8 = true) ∧ (0 ≤ bits .andNot .i64 (t.val : Int) 6 ∧ bits .andNot .i64 (t.val : Int) 6 ≤ 31 ∧ Wh.bit (bits .andNot .i64 (t.val : Int) 6) 2 = false ∧ Wh.bit (bits .andNot .i64 (t.val : Int) 6) 4 = false ∧ Wh.bit (bits .andNot .i64 (t.val : Int) 6) 8 = Wh.bit (t.val : Int) 8) := by decide
  have := key ⟨F.toNat, by omega⟩
  simp only at this
  rw [show ((F.toNat : Nat) : Int) = F by omega] at this
  exact this

/-- The parts of a body: digits ahead, digits behind, an exponent or none. -/
structure NF (V P d : Int) (hh : Bool) (a b : List Int) (k : Int) (xp : Bool) : Prop where
  da : Digs a
  db : Digs b
  ane : a ≠ []
  la : a.length + b.length ≤ 4420
  lb : b.length ≤ 4200
  k0 : -324 ≤ k
  k1 : k + a.length ≤ 320
  kz : xp = false → k = 0
  kx : k ≤ 308
  txt : bd V hh P d = wrt a b (if xp = true then ex V k else []) hh
  nr : Nrs (dv (a ++ b)) (k - b.length) d
  lp : (V ≠ 103 ∧ V ≠ 71) → (b.length : Int) = pr P
  q0 : -4500 ≤ k - b.length
theorem nf_places {V P d n : Int} {hh : Bool} (hf : Ie.fnt d = true) (n0 : 0 ≤ n) (n1 : n ≤ 4100) (ht : bd V hh P d = wrt (Fx.pA d n) (Fx.pB d n) [] hh) (hp : (V ≠ 103 ∧ V ≠ 71) → n = pr P) : NF V P d hh (Fx.pA d n) (Fx.pB d n) 0 false := by
  have K := plF hf n0 (by omega)
  obtain ⟨m, rfl⟩ := Int.eq_ofNat_of_zero_le n0
  have wl := Fx.W_len2 hf m
  have w0 := Fx.W_len d m
  have e : Fx.pA d m ++ Fx.pB d m = Fx.W d m := by
    rw [Fx.pA, Fx.pB, if_pos K.ok, if_pos K.ok, List.take_append_drop, Int.toNat_natCast]
  have lw : (Fx.pA d m).length + (Fx.pB d m).length = (Fx.W d m).length := by rw [← List.length_append, e]
  have lb := K.lb
  refine ⟨K.a, K.b, K.ane, by omega, by omega, by omega, by omega, fun _ => rfl, by omega, ht, ?_, fun h => by rw [lb]; exact hp h, by omega⟩
  rw [e, lb, show (0 : Int) - m = -(m : Int) by omega]
  exact nrs_W hf m
theorem nf_figures {V P d n : Int} {hh : Bool} (hf : Ie.fnt d = true) (n0 : 1 ≤ n) (n1 : n ≤ 4097) (ht : bd V hh P d = wrt ((Fx.gS d n).take 1) ((Fx.gS d n).drop 1) (ex V (Fx.gK d n)) hh) (hp : (V ≠ 103 ∧ V ≠ 71) → n - 1 = pr P) : NF V P d hh ((Fx.gS d n).take 1) ((Fx.gS d n).drop 1) (Fx.gK d n) true := by
  have K := fgF hf n0 (by omega)
  obtain ⟨m, rfl⟩ := Int.eq_ofNat_of_zero_le (show 0 ≤ n by omega)
  have ln := K.len
  have lo := K.lo
  have hi := K.hi
  have l1 : ((Fx.gS d m).take 1).length = 1 := by rw [List.length_take]; omega
  have l2 : ((Fx.gS d m).drop 1).length = m - 1 := by rw [List.length_drop]; omega
  refine ⟨digs_take K.s _, digs_drop K.s _, take1 (by omega), by omega, by omega, by omega, by omega, (fun h => by cases h), by omega, ht, ?_, fun h => by have := hp h; omega, by omega⟩
  rw [List.take_append_drop, l2, show Fx.gK d m - ((m - 1 : Nat) : Int) = Fx.gK d m - ((m : Int) - 1) by omega]
  exact nrs_G hf (by omega) (by omega)
theorem nf_ex {V P d : Int} {hh : Bool} (hf : Ie.fnt d = true) (hV : okV V = true) (p0 : -1 ≤ P) (p1 : P ≤ 4096) (hg : V = 103 ∨ V = 71 → hh = true) : ∃ a b k xp, NF V P d hh a b k xp := by
  obtain ⟨q0, q1⟩ := pr_bd p0 p1
  have hV := of_decide_eq_true hV
  by_cases c1 : V = 102 ∨ V = 70
  · exact ⟨_, _, _, _, nf_places hf q0 (by omega) (by rw [bd, if_pos c1, bdF]) (fun _ => rfl)⟩
  · by_cases c2 : V = 101 ∨ V = 69
    · exact ⟨_, _, _, _, nf_figures hf (n := pr P + 1) (by omega) (by omega) (by rw [bd, if_neg c1, if_pos c2, bdE]) (fun _ => by omega)⟩
    · have hh1 := hg (by omega)
      subst hh1
      have K := fgF hf (n := max (pr P) 1) (by omega) (by omega)
      have st1 : ∀ xs, st true xs = xs := fun xs => rfl
      by_cases g : -4 ≤ Fx.gK d (max (pr P) 1) ∧ Fx.gK d (max (pr P) 1) < max (pr P) 1
      · exact ⟨_, _, _, _, nf_places hf (n := max (pr P) 1 - 1 - Fx.gK d (max (pr P) 1)) (by omega) (by omega) (by rw [bd, if_neg c1, if_neg c2, bdG, if_pos g, st1]) (fun h => by omega)⟩
      · exact ⟨_, _, _, _, nf_figures hf (n := max (pr P) 1) (by omega) (by omega) (by rw [bd, if_neg c1, if_neg c2, bdG, if_neg g, st1]) (fun h => by omega)⟩

/-- What scan.Whole makes of a text in parts. -/
theorem nf_whl {V P d : Int} {hh : Bool} {a b : List Int} {k : Int} {xp : Bool} (h : NF V P d hh a b k xp) (neg : Bool) :
    Sc.whl ((if neg = true then [45] else []) ++ bd V hh P d) = (Sc.nrm neg (a ++ b) (k - b.length), true) := by
  have al := List.length_pos_iff.2 h.ane
  have k1 := h.k1
  have k0 := h.k0
  obtain ⟨pt, hpt⟩ : ∃ pt : Bool, pt = !(b.isEmpty && !hh) := ⟨_, rfl⟩
  have eb : (if pt = true then b else []) = b := by
    cases b with
    | nil => split <;> rfl
    | cons x l => rw [hpt]; rfl
  have hdd : hd a b hh = a ++ (if pt = true then 46 :: b else []) := by
    unfold hd
    cases b with
    | nil => cases hh <;> rw [hpt] <;> simp
    | cons x l => rw [hpt]; simp
  obtain ⟨el, hel⟩ : ∃ el : Option Int, el = if xp = true then some (if cap V = true then 69 else 101) else none := ⟨_, rfl⟩
  have q := Sc.gmade_whl [] a b [] (if neg = true then 2 else 0) (if k < 0 then 2 else 1) pt el (Fx.tx (if max k (-k) < 100 then 2 else 3) (max k (-k))) (by simp) (digs_dg h.da) (digs_dg h.db) (by omega)
    (fun c hc => by
      rw [hel] at hc
      cases xp with
      | true => have := Option.some.inj hc; split at this <;> omega
      | false => cases hc) ⟨digs_dg (Fx.tx_digs _ _), tx_ne _⟩ tail_nil (by simp)
  have sg : Sc.sgT (if neg = true then 2 else 0) = if neg = true then [45] else [] := by cases neg <;> rfl
  have ng2 : decide ((if neg = true then (2 : Int) else 0) = 2) = neg := by cases neg <;> rfl
  have xg : Sc.exG el (if k < 0 then 2 else 1) (Fx.tx (if max k (-k) < 100 then 2 else 3) (max k (-k))) = if xp = true then ex V k else [] := by
    rw [hel]
    cases xp with
    | true => exact exG_is (by omega) (by omega)
    | false => rfl
  have xv : Sc.exV el (if k < 0 then 2 else 1) (Sc.cap (Fx.tx (if max k (-k) < 100 then 2 else 3) (max k (-k)))) = k := by
    rw [hel]
    cases xp with
    | true => exact exV_is _ (by omega) (by omega)
    | false => rw [h.kz rfl]; rfl
  unfold Sc.gtx at q
  rw [eb, sg, ng2, xg, xv, List.nil_append, List.append_nil] at q
  rw [h.txt, wrt_hd, hdd, ← q]
  simp only [List.append_assoc]
/-- .. and what the law's places makes of it. -/
theorem nf_places_text {V P d : Int} {hh : Bool} {a b : List Int} {k : Int} {xp : Bool} (h : NF V P d hh a b k xp) (neg : Bool) :
    ∃ j, PlI ((if neg = true then [45] else []) ++ bd V hh P d) j k ∧ pn (nst (((if neg = true then [45] else []) ++ bd V hh P d).take j)) = b.length := by
  have la := h.la
  have k0 := h.k0
  have k1 := h.kx
  have hg : ∀ x ∈ (if neg = true then [(45 : Int)] else []), x = 45 := by cases neg <;> simp
  have gl : (if neg = true then [(45 : Int)] else []).length ≤ 1 := by cases neg <;> simp
  rw [h.txt]
  cases xp with
  | true => exact ⟨_, pl_text hg gl h.da h.db (by omega) (by omega) (by omega) (by omega)⟩
  | false =>
    rw [h.kz rfl]
    exact ⟨_, pl_text0 hg gl h.da h.db (by omega) (by omega)⟩
end Po
end Go.Proofs.YtaoaniigbooihaaGreatDoor

namespace Go.Proofs.YtaoaniigbooihaaGreatDoor
open Go Go.RowKit Go.Deep Go.Shelf

namespace Po
theorem bits_pads {F : Int} (h0 : 0 ≤ F) (h1 : F ≤ 31) : (bits .and .i64 F 17 == 16) = (Wh.bit F 16 && !Wh.bit F 1) ∧ (bits .and .i64 F 1 != 0) = Wh.bit F 1 ∧ (0 ≤ bits .andNot .i64 F 16 ∧ bits .andNot .i64 F 16 ≤ 31) ∧ Wh.bit (bits .andNot .i64 F 16) 2 = Wh.bit F 2 ∧ Wh.bit (bits .andNot .i64 F 16) 4 = Wh.bit F 4 ∧ Wh.bit (bits .andNot .i64 F 16) 8 = Wh.bit F 8 := by
  have key : ∀ t : Fin 32, (bits .and .i64 (t.val : Int) 17 == 16) = (Wh.bit (t.val : Int) 16 && !Wh.bit (t.val : Int) 1) ∧ (bits .and .i64 (t.val : Int) 1 != 0) = Wh.bit (t.val : Int) 1 ∧ (0 ≤ bits .andNot .i64 (t.val : Int) 16 ∧ bits .andNot .i64 (t.val : Int) 16 ≤ 31) ∧ Wh.bit (bits .andNot .i64 (t.val : Int) 16) 2 = Wh.bit (t.val : Int) 2 ∧ Wh.bit (bits .andNot .i64 (t.val : Int) 16) 4 = Wh.bit (t.val : Int) 4 ∧ Wh.bit (bits .andNot .i64 (t.val : Int) 16) 8 = Wh.bit (t.val : Int) 8 := by decide
  have := key ⟨F.toNat, by omega⟩
  simp only at this
  rw [show ((F.toNat : Nat) : Int) = F by omega] at this
  exact this
/-- The filling so far. -/
def fl (c : Int) (n j : Nat) : List Int := List.replicate j c ++ List.replicate (n - j) 0
theorem fl_len {c : Int} {n j : Nat} (h : j ≤ n) : (fl c n j).length = n := by simp [fl]; omega
theorem fl_set {c x : Int} {n j : Nat} (h : j < n) : ((fl c n j).set j x) = List.replicate j c ++ x :: List.replicate (n - (j + 1)) 0 := by
  unfold fl
  rw [List.set_append, if_neg (by simp), List.length_replicate, Nat.sub_self]
  obtain ⟨m, hm⟩ : ∃ m, n - j = m + 1 := ⟨n - j - 1, by omega⟩
  rw [hm, List.replicate_succ, List.set_cons_zero, show n - (j + 1) = m by omega]
theorem fl_one {c : Int} {n j : Nat} (h : j < n) : (fl c n j).set j c = fl c n (j + 1) := by
  rw [fl_set h]
  unfold fl
  rw [List.replicate_succ', List.append_assoc]; rfl
theorem fl_two {c x : Int} {n j : Nat} (h : j < n) : ((fl c n j).set j x).set j c = fl c n (j + 1) := by
  rw [List.set_set, fl_one h]
theorem fl_end (c : Int) (n : Nat) : fl c n n = Wh.rep c (n : Int) := by simp [fl, Wh.rep]

/-- The text behind a width. -/
theorem pads_eq {V F W P d : Int} (h : renE V F W P = 0) :
    ∃ L : Nat, (Wh.sgn F (ng d) ++ tb V F P d).length = L ∧ 1 ≤ L ∧ L ≤ 20001 ∧
    (W - L ≤ 0 → ren V F W P d = Wh.sgn F (ng d) ++ tb V F P d) ∧
    (Wh.bit F 1 = true → ren V F W P d = Wh.sgn F (ng d) ++ tb V F P d ++ Wh.rep 32 (W - L)) ∧
    (Wh.bit F 1 = false → Wh.bit F 16 = true → Ie.fnt d = true → ren V F W P d = (Wh.sgn F (ng d) ++ tb V F P d).take (Wh.sgn F (ng d)).length ++ Wh.rep 48 (W - L) ++ (Wh.sgn F (ng d) ++ tb V F P d).drop (Wh.sgn F (ng d)).length) ∧
    (Wh.bit F 1 = false → (Wh.bit F 16 = false ∨ Ie.fnt d = false) → ren V F W P d = Wh.rep 32 (W - L) ++ (Wh.sgn F (ng d) ++ tb V F P d)) := by
  obtain ⟨-, b⟩ := renE_ok h
  obtain ⟨f, w, p⟩ := Wh.chk_ok b
  have k := tb_ok (V := V) (F := F) (d := d) p.1 p.2
  obtain ⟨x, ys, hx, -⟩ := tb_head (V := V) (F := F) (d := d) p.1 p.2
  have s := Wh.sgn_len F (ng d)
  have tl : 1 ≤ (tb V F P d).length := by rw [hx]; simp
  rw [ren_pad h]
  refine ⟨_, rfl, by rw [List.length_append]; omega, by rw [List.length_append]; omega, ?_, ?_, ?_, ?_⟩
  all_goals rw [List.length_append]
  · intro c
    have e : ∀ q, Wh.rep q (W - ((Wh.sgn F (ng d)).length : Int) - ((tb V F P d).length : Int)) = [] := fun q => Wh.rep_neg (by omega)
    unfold Wh.padT
    rw [e, e]
    split
    · simp
    · split <;> simp
  · intro c
    unfold Wh.padT
    rw [if_pos c, show W - ((Wh.sgn F (ng d)).length : Int) - ((tb V F P d).length : Int) = W - (((Wh.sgn F (ng d)).length + (tb V F P d).length : Nat) : Int) by omega]
  · intro c1 c2 c3
    unfold Wh.padT
    rw [if_neg (by rw [c1]; decide), if_pos ⟨c2, c3⟩, show W - ((Wh.sgn F (ng d)).length : Int) - ((tb V F P d).length : Int) = W - (((Wh.sgn F (ng d)).length + (tb V F P d).length : Nat) : Int) by omega]
    simp
  · intro c1 c2
    unfold Wh.padT
    rw [if_neg (by rw [c1]; decide), if_neg (by rintro ⟨q1, q2⟩; rcases c2 with c | c <;> simp [c] at q1 q2), show W - ((Wh.sgn F (ng d)).length : Int) - ((tb V F P d).length : Int) = W - (((Wh.sgn F (ng d)).length + (tb V F P d).length : Nat) : Int) by omega]
    simp
/-- The first byte tells whether a sign stands there. -/
theorem pads_head {V F P d : Int} (p0 : -1 ≤ P) (p1 : P ≤ 4096) : ∃ x, (Wh.sgn F (ng d) ++ tb V F P d).getD 0 0 = x ∧ (0 ≤ x ∧ x < 256) ∧
    ((x = 45 ∧ (Wh.sgn F (ng d)).length = 1) ∨ (x = 43 ∧ (Wh.sgn F (ng d)).length = 1) ∨ (x = 32 ∧ (Wh.sgn F (ng d)).length = 1) ∨ (48 ≤ x ∧ (Wh.sgn F (ng d)).length = 0)) := by
  obtain ⟨y, ys, hx, a, b⟩ := tb_head (V := V) (F := F) (d := d) p0 p1
  unfold Wh.sgn
  split
  · exact ⟨45, rfl, by omega, .inl ⟨rfl, rfl⟩⟩
  · split
    · exact ⟨43, rfl, by omega, .inr (.inl ⟨rfl, rfl⟩)⟩
    · split
      · exact ⟨32, rfl, by omega, .inr (.inr (.inl ⟨rfl, rfl⟩))⟩
      · exact ⟨y, by rw [hx]; rfl, by omega, .inr (.inr (.inr ⟨a, rfl⟩))⟩
end Po

theorem ownb_str {g n : Nat} {W : World} {fs : List Int} (o : OwnB W g fs) (hn : fs.length = n) :
    (convert 47 9 (.slice (some ⟨g, 0, none⟩) n n)).run Tryz.prog W = .ok (.string (strOfNums fs)) W :=
  run_convert_bytes_arg (P := Tryz.prog) W 47 5 Tryz.underlying47 Tryz.underlying5 g 0 n n fs hn (fun i hi => by rw [Nat.zero_add, o.cell i (by omega)]) 9 Tryz.underlying9
end Go.Proofs.YtaoaniigbooihaaGreatDoor

namespace Go.Proofs.YtaoaniigbooihaaGreatDoor
open Go Go.RowKit Go.Deep

set_option maxRecDepth 100000 in
set_option maxHeartbeats 2000000 in
theorem whole_any (s : ByteArray) (xs : List Int) (w : World) (hs : Str s xs) (hn : xs.length ≤ 562949953421312) (hn2 : Sc.some? xs (Sc.run Sc.bl xs 0) → (Sc.lit xs (Sc.run Sc.bl xs 0)).ah.length + (Sc.lit xs (Sc.run Sc.bl xs 0)).bh.length ≤ 281474976710655) :
    Calls Tryz.prog 16 #[.string s] w fun e w' => WhlTold xs w e w' := by
  have hk := Sc.run_le Sc.bl xs 0
  have BL : Hid (∀ wx, Calls Tryz.prog 38 #[.string s, .int .i64 0] wx fun e w' => e = .returned (.int .i64 (Sc.run Sc.bl xs 0 : Nat)) ∧ w' = wx) := fun wx => by
    have := blanks_any s xs 0 wx hs hn (Nat.zero_le _)
    rw [Nat.zero_add] at this
    exact this
  have RD := hid (fun wx => vread_any s xs (Sc.run Sc.bl xs 0) wx hs hn (by omega))
  have NE : Hid (Sc.some? xs (Sc.run Sc.bl xs 0) → (Sc.lit xs (Sc.run Sc.bl xs 0)).en + Sc.run Sc.bl xs (Sc.lit xs (Sc.run Sc.bl xs 0)).en = xs.length → Sc.whl xs = ((Sc.lit xs (Sc.run Sc.bl xs 0)).d, true)) := fun c d => by unfold Sc.whl; rw [if_pos ⟨c, d⟩]
  have NZ : Hid (¬ (Sc.some? xs (Sc.run Sc.bl xs 0) ∧ (Sc.lit xs (Sc.run Sc.bl xs 0)).en + Sc.run Sc.bl xs (Sc.lit xs (Sc.run Sc.bl xs 0)).en = xs.length) → Sc.whl xs = (⟨false, [], 0⟩, false)) := fun c => by unfold Sc.whl; rw [if_neg c]
  have LS := hid (Sc.lit_sc xs (Sc.run Sc.bl xs 0))
  have B2 : Hid (∀ (p : Nat) wx, p = (Sc.lit xs (Sc.run Sc.bl xs 0)).en + Sc.run Sc.bl xs (Sc.lit xs (Sc.run Sc.bl xs 0)).en → Calls Tryz.prog 38 #[.string s, .int .i64 ((Sc.lit xs (Sc.run Sc.bl xs 0)).en : Nat)] wx fun e w' => e = .returned (.int .i64 (p : Nat)) ∧ w' = wx) := fun p wx hp => by
    subst hp
    exact blanks_any s xs _ wx hs hn (Sc.en_le xs _ (by omega))
  have PL : Hid ((Sc.lit xs (Sc.run Sc.bl xs 0)).en + Sc.run Sc.bl xs (Sc.lit xs (Sc.run Sc.bl xs 0)).en ≤ xs.length) := by
    have h1 := Sc.en_le xs (Sc.run Sc.bl xs 0) (by omega)
    have h2 := Sc.run_le Sc.bl xs (Sc.lit xs (Sc.run Sc.bl xs 0)).en
    show _ ≤ _; omega
  have H2 := hid hn2
  have hsz := hs.size
  clear hs hn hn2 hk
  generalize Sc.run Sc.bl xs 0 = K at *
  have ZF : Hid (Sc.whl xs = (⟨false, [], 0⟩, false) → ∀ w', Below w.heap.size w w' → WhlTold xs w (.returned (.tuple #[.agg #[.bool false, .string ⟨#[]⟩, .int .i64 0], .bool false])) w') := fun z w' b => ⟨_, by rw [z], by rw [z]; exact ⟨_, rfl, str_nil0⟩, b⟩
  go_enter Tryz.func16, Tryz.ntmps16
  go_wp2_with fail
  refine (BL.out _).mono ?_
  rintro e w1 ⟨rfl, rfl⟩
  go_wp2_with fail
  refine (RD.out _).mono ?_
  rintro e w1 ⟨h | ⟨h, rfl⟩, hB⟩
  · obtain ⟨hs, A, B, rfl, hA, hB'⟩ := h
    have ST := hid (NSt.new hB (Sc.lit xs K).neg A B (Sc.lit xs K).sc ((Sc.lit xs K).en : Nat))
    have DC := hid (fun wx => ldec_any (Sc.lit xs K).neg A B (Sc.lit xs K).ah (Sc.lit xs K).bh (Sc.lit xs K).sc ((Sc.lit xs K).en : Nat) wx hA hB' (H2.out hs) LS.out.1 LS.out.2)
    clear hB hA hB' H2 LS RD BL
    obtain ⟨⟨c0, c1, c2, c3, c4⟩, ⟨d0, d1, d2⟩, g0, g1, g2⟩ := ST.out.flat
    by_cases hp : (Sc.lit xs K).en + Sc.run Sc.bl xs (Sc.lit xs K).en = xs.length
    · have NE' := hid (NE.out hs hp)
      have B3 := hid (fun wx => B2.out xs.length wx hp.symm)
      have ED : Hid (Sc.nrm (Sc.lit xs K).neg ((Sc.lit xs K).ah ++ (Sc.lit xs K).bh) ((Sc.lit xs K).sc - (Sc.lit xs K).bh.length) = (Sc.whl xs).1) := by rw [NE'.out]; rfl
      have E2 : Hid ((Sc.whl xs).2 = true) := by rw [NE'.out]; rfl
      rw [ED.out] at DC
      have FF : Hid (∀ v, DecIs v (Sc.whl xs).1 → ∃ t, v = .agg #[.bool (Sc.whl xs).1.neg, .string t, .int .i64 (Sc.whl xs).1.e] ∧ Str t (Sc.whl xs).1.ds) := fun v h => h
      have GG : Hid (∀ t w', Str t (Sc.whl xs).1.ds → Below w.heap.size w w' → WhlTold xs w (.returned (.tuple #[.agg #[.bool (Sc.whl xs).1.neg, .string t, .int .i64 (Sc.whl xs).1.e], .bool true])) w') := fun t w' ht b => ⟨_, by rw [E2.out]; rfl, ⟨_, rfl, ht⟩, b⟩
      clear ED E2 NE' NE NZ ZF B2 PL hs hp
      unfold litV at DC ⊢
      generalize Sc.lit xs K = l at *
      go_wp2_with fail
      refine (B3.out _).mono ?_
      rintro e w2 ⟨rfl, rfl⟩
      go_wp2_with fail
      refine (DC.out _).mono ?_
      rintro e w2 ⟨v, rfl, hv, hB⟩
      obtain ⟨t, rfl, ht⟩ := FF.out _ hv
      have HT := hid ht
      have T1 := hid (ST.out.on hB)
      clear hv hB ht c0 c1 c2 c3 c4 d0 d1 d2 g0 g1 g2
      obtain ⟨-, ⟨d0, d1, d2⟩, g0, g1, g2⟩ := T1.out.flat
      go_wp2_with fail
      (try simp only [Exit.inBlock, Exit.then])
      refine bodyPost_ret (results_row_tmp rfl _ _ w.heap.size 39 _ (0, 0) _ rfl (T1.out.put _ _ _).1 Tryz.underlying39 rfl (by kernel_rfl)) rfl ?_
      exact GG.out _ _ HT.out (T1.out.put _ _ _).2
    · have Z2 := hid (ZF.out (NZ.out fun c => hp c.2))
      obtain ⟨p, hpe⟩ : ∃ p, p = (Sc.lit xs K).en + Sc.run Sc.bl xs (Sc.lit xs K).en := ⟨_, rfl⟩
      have B3 := hid (fun wx => B2.out p wx hpe)
      have hpl : (p : Int) < (xs.length : Int) := by have := PL.out; omega
      clear NE NZ ZF B2 PL hs hp hpe DC
      unfold litV
      generalize Sc.lit xs K = l at *
      go_wp2_with fail
      refine (B3.out _).mono ?_
      rintro e w2 ⟨rfl, rfl⟩
      go_wp2_with fail
      (try simp only [Exit.inBlock, Exit.then])
      refine bodyPost_ret (results_row_tmp rfl _ _ w.heap.size 39 _ (0, 0) _ rfl (ST.out.put _ _ _).1 Tryz.underlying39 rfl (by kernel_rfl)) rfl ?_
      exact Z2.out _ (ST.out.put _ _ _).2
  · have ST := hid (NSt.new hB false ⟨#[]⟩ ⟨#[]⟩ 0 0)
    obtain ⟨-, ⟨d0, d1, d2⟩, g0, g1, g2⟩ := ST.out.flat
    have Z2 := hid (ZF.out (NZ.out fun c => h c.1))
    clear hB h H2 LS NE NZ RD BL ZF B2 PL
    unfold litV
    go_wp2_with fail
    (try simp only [Exit.inBlock, Exit.then])
    refine bodyPost_ret (results_row_tmp rfl _ _ w.heap.size 39 _ (0, 0) _ rfl (ST.out.put _ _ _).1 Tryz.underlying39 rfl (by kernel_rfl)) rfl ?_
    exact Z2.out _ (ST.out.put _ _ _).2
end Go.Proofs.YtaoaniigbooihaaGreatDoor

namespace Go.Proofs.YtaoaniigbooihaaGreatDoor
open Go Go.RowKit Go.Deep

namespace Sh
/-- A row that is being filled. -/
def fill (xs : List Int) (lead n i : Nat) : List Int := List.replicate lead 0 ++ (xs.take i).map (fun d => d - 48) ++ List.replicate (n - lead - i) 0
theorem fill_len {xs : List Int} {lead n i : Nat} (h : lead + i ≤ n) (hi : i ≤ xs.length) : (fill xs lead n i).length = n := by
  simp [fill]
  omega
theorem fill_set {xs : List Int} {lead n i : Nat} (h : lead + i < n) (hi : i < xs.length) : (fill xs lead n i).set (lead + i) (xs.getD i 0 - 48) = fill xs lead n (i + 1) := by
  unfold fill
  have e1 : (xs.take (i + 1)).map (fun d => d - 48) = (xs.take i).map (fun d => d - 48) ++ [xs.getD i 0 - 48] := by
    rw [List.take_add_one, List.map_append]
    simp [List.getElem?_eq_getElem hi]
  have e2 : List.replicate (n - lead - i) (0 : Int) = 0 :: List.replicate (n - lead - (i + 1)) 0 := by
    rw [show n - lead - i = (n - lead - (i + 1)) + 1 by omega, List.replicate_succ]
  have hl : (List.replicate lead (0 : Int) ++ (xs.take i).map (fun d => d - 48)).length = lead + i := by simp; omega
  rw [e1, e2, List.set_append_right _ _ (by omega), hl, Nat.sub_self]
  simp
theorem fill_dg {xs : List Int} {lead trail n : Nat} (hd : Digs xs) (h : lead + xs.length + trail = n) : fill xs lead n xs.length = Dn.dg 10 n (dv xs * 10 ^ trail) := by
  have hn := fill_len (xs := xs) (lead := lead) (n := n) (i := xs.length) (by omega) (Nat.le_refl _)
  have hm : ∀ d ∈ fill xs lead n xs.length, 0 ≤ d ∧ d < 10 := by
    intro d q
    unfold fill at q
    rw [List.mem_append, List.mem_append] at q
    rcases q with (q | q) | q
    · rw [(List.mem_replicate.1 q).2]; omega
    · obtain ⟨x, hx, rfl⟩ := List.mem_map.1 q
      have := hd x (List.mem_of_mem_take hx)
      omega
    · rw [(List.mem_replicate.1 q).2]; omega
  have hv : Dn.tv 10 0 (fill xs lead n xs.length) = dv xs * 10 ^ trail := by
    have z : ∀ (k : Nat) (a : Int), Dn.tv 10 a (List.replicate k 0) = a * 10 ^ k := by
      intro k a
      rw [Dn.tv_acc, List.length_replicate]
      have : Dn.tv 10 0 (List.replicate k 0) = 0 := by
        have h2 := Dn.tv_dg (B := 10) (by omega) k 0 (by omega) (Fx.p_pos k)
        rw [Dn.dg_zero (by omega)] at h2
        exact h2
      omega
    unfold fill
    rw [Dn.tv_append, Dn.tv_append, z lead 0, Int.zero_mul, List.take_length, z, show n - lead - xs.length = trail by omega]
    rfl
  rw [← hv]
  exact (Dn.dg_tv (by omega) n _ hn hm).symm
end Sh

/-- What placed tells. -/
def PlTold (n : Nat) (T : Int) (w : World) (r : Ending) (w' : World) : Prop := ∃ g, r = .returned (.slice (some ⟨g, 0, none⟩) n n) ∧ w.heap.size ≤ g ∧ OwnB w' g (Dn.dg 10 n T) ∧ Below w.heap.size w w'

set_option maxRecDepth 100000 in
set_option maxHeartbeats 4000000 in
theorem placed_any (neg : Bool) (s : ByteArray) (xs : List Int) (e lo hi : Int) (lead trail n : Nat) (w : World) (hs : Str s xs) (hd : Digs xs) (h : lead + xs.length + trail = n) (hn : hi - lo = (n : Int)) (ht : e - lo = (trail : Int)) (nb : n ≤ 5000) (l0 : -5000 ≤ lo) (l1 : lo ≤ 5000) :
    Calls Tryz.prog 42 #[.agg #[.bool neg, .string s, .int .i64 e], .int .i64 lo, .int .i64 hi] w fun r w' => PlTold n (dv xs * 10 ^ trail) w r w' := by
  have HS := hid hs
  have hsz := hs.size
  have FD := hid (Sh.fill_dg hd h)
  have HD := hid hd
  have hlead : hi - e - (xs.length : Int) = (lead : Int) := by omega
  have nbi : (n : Int) ≤ 5000 := by omega
  have MK := make8 n (by omega)
  rw [made_zero8] at MK
  have Z0 : List.replicate n (0 : Int) = Sh.fill xs lead n 0 := by
    unfold Sh.fill
    rw [List.take_zero, List.map_nil, List.append_nil, Nat.sub_zero, List.replicate_append_replicate]
    congr 1
    omega
  rw [Z0] at MK
  have r0 := FR3.new w (.bool neg) (.string s) (.int .i64 e)
  have b0 := alloc_b w (.cells #[.bool neg, .string s, .int .i64 e] 39)
  have sz1 : (w.alloc (.cells #[.bool neg, .string s, .int .i64 e] 39)).heap.size = w.heap.size + 1 := Array.size_push ..
  clear hs
  go_enter Tryz.func42, Tryz.ntmps42
  go_wp2_with fail
  have hiB : -10000 ≤ hi ∧ hi ≤ 10000 := by omega
  have eB : -10000 ≤ e ∧ e ≤ 10000 := by omega
  obtain ⟨hi0, hi1⟩ := hiB
  obtain ⟨eB0, eB1⟩ := eB
  have hlb : (xs.length : Int) ≤ 5000 := by omega
  have HL := hid h
  go_loopg [8] xs.length (fun k i wr => ∃ j : Nat, j + k = xs.length ∧ i = .int .i64 j ∧ Hid (OwnB wr (w.heap.size + 1) (Sh.fill xs lead n j) ∧ FR3 wr w.heap.size (.bool neg) (.string s) (.int .i64 e) ∧ Below w.heap.size w wr))
  case atStart =>
    refine ⟨0, by omega, rfl, ?_, ?_, ?_⟩
    · have := OwnB.alloc (w.alloc (.cells #[.bool neg, .string s, .int .i64 e] 39)) (Sh.fill xs lead n 0)
      rw [sz1] at this
      exact this
    · exact r0.below (alloc_b _ _) r0.lt
    · exact b0.trans ((alloc_b _ _).mono b0.size)
  case round =>
    obtain ⟨j, hj, rfl, I⟩ := hrel
    obtain ⟨⟨c0, c1, c2⟩, -⟩ := I.out.2.1.cells
    have hx := HS.out.pk j
    by_cases hjl : j < xs.length
    · have hji : (j : Int) < (xs.length : Int) := by omega
      have dj := digs_at HD.out j hjl
      have ej : Sc.pk xs j = xs.getD j 0 := rfl
      have o := I.out.1
      have cl := o.cell (lead + j) (by rw [Sh.fill_len (by have := HL.out; omega) (by omega)]; have := HL.out; omega)
      have fl := o.free (lead + j)
      have NX : Hid (OwnB (wr.drew.setCell ⟨w.heap.size + 1, lead + j, none⟩ (.int .u8 (xs.getD j 0 - 48))) (w.heap.size + 1) (Sh.fill xs lead n (j + 1)) ∧ FR3 (wr.drew.setCell ⟨w.heap.size + 1, lead + j, none⟩ (.int .u8 (xs.getD j 0 - 48))) w.heap.size (.bool neg) (.string s) (.int .i64 e) ∧ Below w.heap.size w (wr.drew.setCell ⟨w.heap.size + 1, lead + j, none⟩ (.int .u8 (xs.getD j 0 - 48)))) := by
        refine ⟨?_, FR3.far (w := wr.drew) I.out.2.1 (by omega), (below_drewN I.out.2.2 1).setCell (p := ⟨w.heap.size + 1, lead + j, none⟩) (by show w.heap.size ≤ w.heap.size + 1; omega) _⟩
        have q := OwnB.set (w := wr.drew) (g := w.heap.size + 1) o (lead + j) (xs.getD j 0 - 48)
        rw [Sh.fill_set (by have := HL.out; omega) hjl] at q
        exact q
      rw [ej] at hx
      generalize xs.getD j 0 = xj at *
      have W8 : IntKind.u8.wrap (xj - 48) = xj - 48 := by rw [IntKind.wrap_u8]; omega
      have lj : (lead : Int) + (j : Int) < (n : Int) := by have := HL.out; omega
      have d1 : wr.drew.cell? ⟨w.heap.size, 1, none⟩ = some (.string s) := c1
      have d2 : wr.drew.cell? ⟨w.heap.size, 2, none⟩ = some (.int .i64 e) := c2
      have dl : wr.drew.cell? ⟨w.heap.size + 1, lead + j, none⟩ = some (.int .u8 ((Sh.fill xs lead n j).getD (lead + j) 0)) := cl
      have df : wr.drew.frozen? ⟨w.heap.size + 1, lead + j, none⟩ = false := fl
      clear I o ej
      go_upto_region 5 with fail
      go_region
      go_wp2_with fail
      go_roundg (xs.length - (j + 1))
      case measure => omega
      case rel => exact ⟨j + 1, by omega, by go_num, NX.out⟩
    · have hje : j = xs.length := by omega
      have K : Hid (PlTold n (dv xs * 10 ^ trail) w (.returned (.slice (some ⟨w.heap.size + 1, 0, none⟩) n n)) wr) := ⟨_, rfl, by omega, by rw [← FD.out, ← hje]; exact I.out.1, I.out.2.2⟩
      have hji : ¬ (j : Int) < (xs.length : Int) := by omega
      clear I hx hj hje
      go_wp2_with fail
      go_ret
      exact K.out
end Go.Proofs.YtaoaniigbooihaaGreatDoor

namespace Go.Proofs.YtaoaniigbooihaaGreatDoor
open Go Go.RowKit Go.Deep
namespace Sh

/-- A row's bytes. -/
def rb (n : Nat) (T : Int) : List UInt8 := (Dn.dg 10 n T).map fun d => UInt8.ofNat d.toNat
theorem rb_len (n : Nat) (T : Int) : (rb n T).length = n := by simp [rb, dg_len]
theorem rb_cons (n : Nat) (T : Int) : rb (n + 1) T = UInt8.ofNat (T / 10 ^ n % 10).toNat :: rb n (T % 10 ^ n) := by
  unfold rb
  rw [Dn.dg_head (by omega), List.map_cons]
theorem of_lt {a b : Int} (ha : 0 ≤ a ∧ a < 10) (hb : 0 ≤ b ∧ b < 10) : (UInt8.ofNat a.toNat < UInt8.ofNat b.toNat ↔ a < b) ∧ (UInt8.ofNat a.toNat = UInt8.ofNat b.toNat ↔ a = b) := by
  have e1 : (UInt8.ofNat a.toNat).toNat = a.toNat := UInt8.toNat_ofNat_of_lt' (by show a.toNat < 256; omega)
  have e2 : (UInt8.ofNat b.toNat).toNat = b.toNat := UInt8.toNat_ofNat_of_lt' (by show b.toNat < 256; omega)
  constructor
  · rw [UInt8.lt_iff_toNat_lt, e1, e2]; omega
  · rw [← UInt8.toNat_inj, e1, e2]; omega
theorem rb_less : ∀ (n : Nat) (X Y : Int), 0 ≤ X → X < 10 ^ n → 0 ≤ Y → Y < 10 ^ n → Op.bytesLess (rb n X) (rb n Y) = decide (X < Y)
  | 0, X, Y, x0, x1, y0, y1 => by
    rw [Int.pow_zero] at x1 y1
    have : ¬ X < Y := by omega
    rw [decide_eq_false this]
    rfl
  | n + 1, X, Y, x0, x1, y0, y1 => by
    rw [rb_cons, rb_cons]
    have p := Fx.p_pos n
    obtain ⟨a1, a2, a3⟩ := divS (U := X) p
    obtain ⟨b1, b2, b3⟩ := divS (U := Y) p
    have ih := rb_less n (X % 10 ^ n) (Y % 10 ^ n) a2 a3 b2 b3
    rw [Int.pow_succ] at x1 y1
    have qa : 0 ≤ X / 10 ^ n ∧ X / 10 ^ n < 10 := ⟨Int.ediv_nonneg x0 (Int.le_of_lt p), (Int.ediv_lt_iff_lt_mul p).2 (by rw [Int.mul_comm]; exact x1)⟩
    have qb : 0 ≤ Y / 10 ^ n ∧ Y / 10 ^ n < 10 := ⟨Int.ediv_nonneg y0 (Int.le_of_lt p), (Int.ediv_lt_iff_lt_mul p).2 (by rw [Int.mul_comm]; exact y1)⟩
    have ma : X / 10 ^ n % 10 = X / 10 ^ n := by omega
    have mb : Y / 10 ^ n % 10 = Y / 10 ^ n := by omega
    rw [ma, mb]
    obtain ⟨l1, l2⟩ := of_lt qa qb
    show (decide _ || (_ == _ && Op.bytesLess _ _)) = _
    rw [ih, Bool.eq_iff_iff]
    have beq : ((UInt8.ofNat (X / 10 ^ n).toNat == UInt8.ofNat (Y / 10 ^ n).toNat) = true) ↔ X / 10 ^ n = Y / 10 ^ n := by rw [beq_iff_eq]; exact l2
    rw [Bool.or_eq_true, Bool.and_eq_true, decide_eq_true_iff, decide_eq_true_iff, decide_eq_true_iff, beq, l1]
    rcases Int.lt_trichotomy (X / 10 ^ n) (Y / 10 ^ n) with c | c | c
    · have := Int.mul_le_mul_of_nonneg_right (show X / 10 ^ n + 1 ≤ Y / 10 ^ n by omega) (Int.le_of_lt p)
      rw [Int.add_mul, Int.one_mul] at this
      constructor
      · intro _; omega
      · intro _; exact .inl c
    · rw [c] at a1
      constructor
      · rintro (q | ⟨_, q⟩)
        · omega
        · omega
      · intro q; exact .inr ⟨c, by omega⟩
    · have := Int.mul_le_mul_of_nonneg_right (show Y / 10 ^ n + 1 ≤ X / 10 ^ n by omega) (Int.le_of_lt p)
      rw [Int.add_mul, Int.one_mul] at this
      constructor
      · rintro (q | ⟨q, _⟩) <;> omega
      · intro q; omega
end Sh
end Go.Proofs.YtaoaniigbooihaaGreatDoor

namespace Go.Proofs.YtaoaniigbooihaaGreatDoor
open Go Go.RowKit Go.Deep

theorem row_str {W : World} {g n : Nat} {T : Int} (o : OwnB W g (Dn.dg 10 n T)) :
    (convert 47 9 (.slice (some ⟨g, 0, none⟩) n n)).run Tryz.prog W = .ok (.string ⟨(Sh.rb n T).toArray⟩) W := by
  have h := run_convert_bytes_back (P := Tryz.prog) W 47 9 5 ⟨g, 0, none⟩ n (Sh.rb n T) Tryz.underlying47 Tryz.underlying5 Tryz.underlying9 (fun j hj => by
    rw [Lib.add_plain, Nat.zero_add]
    have hj2 : j < n := by rw [Sh.rb_len] at hj; exact hj
    rw [o.cell j (by rw [Sh.dg_len]; exact hj2)]
    have b := Sh.dg_bd n T j hj2
    have e : (Sh.rb n T)[j] = UInt8.ofNat ((Dn.dg 10 n T).getD j 0).toNat := by
      simp [Sh.rb, List.getD, Sh.dg_len, hj2]
    rw [e, UInt8.toNat_ofNat_of_lt' (by show _ < 256; omega)]
    congr 2
    omega)
  rw [Sh.rb_len] at h
  exact h

/-- The borrow behind q places. -/
def Sh.bw (X Y : Int) (q : Nat) : Int := if X % 10 ^ q < Y % 10 ^ q then 1 else 0

def GapTold (n : Nat) (D lo : Int) (w : World) (r : Ending) (w' : World) : Prop := ∃ g, r = .returned (.tuple #[.slice (some ⟨g, 0, none⟩) n n, .int .i64 lo]) ∧ w.heap.size ≤ g ∧ OwnB w' g (Dn.dg 10 n D) ∧ Below w.heap.size w w'

set_option maxRecDepth 100000 in
set_option maxHeartbeats 4000000 in
theorem gap_any (p1 p2 : Bool) (s1 s2 : ByteArray) (xs ys : List Int) (e1 e2 lo hi : Int) (n t1 t2 : Nat) (w : World) (hs1 : Str s1 xs) (hs2 : Str s2 ys) (hd1 : Digs xs) (hd2 : Digs ys)
    (hlo : min e1 e2 = lo) (hhi : max (e1 + (xs.length : Int)) (e2 + (ys.length : Int)) = hi) (hn : hi - lo = (n : Int)) (ht1 : e1 - lo = (t1 : Int)) (ht2 : e2 - lo = (t2 : Int)) (nb : n ≤ 5000) (b0 : -5000 ≤ e1) (b1 : e1 ≤ 3000) (b2 : -5000 ≤ e2) (b3 : e2 ≤ 3000) :
    Calls Tryz.prog 20 #[.agg #[.bool p1, .string s1, .int .i64 e1], .agg #[.bool p2, .string s2, .int .i64 e2]] w fun r w' => GapTold n ((dv xs * 10 ^ t1 - dv ys * 10 ^ t2).natAbs : Int) lo w r w' := by
  obtain ⟨l1, hl1⟩ : ∃ l1 : Nat, l1 + xs.length + t1 = n := ⟨n - xs.length - t1, by omega⟩
  obtain ⟨l2, hl2⟩ : ∃ l2 : Nat, l2 + ys.length + t2 = n := ⟨n - ys.length - t2, by omega⟩
  have P1 := hid (fun wx : World => placed_any p1 s1 xs e1 lo hi l1 t1 n wx hs1 hd1 hl1 hn ht1 nb (by omega) (by omega))
  have P2 := hid (fun wx : World => placed_any p2 s2 ys e2 lo hi l2 t2 n wx hs2 hd2 hl2 hn ht2 nb (by omega) (by omega))
  have z1 := hs1.size
  have z2 := hs2.size
  have bound : ∀ (zs : List Int) (t l : Nat), Digs zs → l + zs.length + t = n → 0 ≤ dv zs * 10 ^ t ∧ dv zs * 10 ^ t < 10 ^ n := by
    intro zs t l hd h
    have b := dv_bd hd
    refine ⟨Int.mul_nonneg b.1 (Int.le_of_lt (Fx.p_pos t)), ?_⟩
    refine Int.lt_of_lt_of_le (Int.mul_lt_mul_of_pos_right b.2 (Fx.p_pos t)) ?_
    rw [← Int.pow_add]
    exact Fx.p_le (by omega)
  have q1 := bound xs t1 l1 hd1 hl1
  have q2 := bound ys t2 l2 hd2 hl2
  have lb1 : (xs.length : Int) ≤ 5000 := by omega
  have lb2 : (ys.length : Int) ≤ 5000 := by omega
  have nbi : (n : Int) ≤ 5000 := by omega
  generalize dv xs * 10 ^ t1 = X at *
  generalize dv ys * 10 ^ t2 = Y at *
  have a1 := alloc_b w (.cells #[.bool p1, .string s1, .int .i64 e1] 39)
  have a2 := alloc_b (w.alloc (.cells #[.bool p1, .string s1, .int .i64 e1] 39)) (.cells #[.bool p2, .string s2, .int .i64 e2] 39)
  have r1 := (FR3.new w (.bool p1) (.string s1) (.int .i64 e1)).below a2 (FR3.new w _ _ _).lt
  have r2 : FR3 ((w.alloc (.cells #[.bool p1, .string s1, .int .i64 e1] 39)).alloc (.cells #[.bool p2, .string s2, .int .i64 e2] 39)) (w.heap.size + 1) (.bool p2) (.string s2) (.int .i64 e2) := by
    have := FR3.new (w.alloc (.cells #[.bool p1, .string s1, .int .i64 e1] 39)) (.bool p2) (.string s2) (.int .i64 e2)
    rwa [show (w.alloc (.cells #[.bool p1, .string s1, .int .i64 e1] 39)).heap.size = w.heap.size + 1 from Array.size_push ..] at this
  have HZ := hid (And.intro r2 (a1.trans (a2.mono a1.size)))
  clear hs1 hs2 hd1 hd2 bound a1 a2 r1 r2 hl1 hl2 ht1 ht2
  go_enter Tryz.func20, Tryz.ntmps20
  go_wp2_with fail
  refine (P1.out _).mono ?_
  rintro e w1 ⟨g1, rfl, hg1, o1, B1⟩
  obtain ⟨⟨c0, c1, c2⟩, -⟩ := (HZ.out.1.below B1 HZ.out.1.lt).cells
  have BW1 := hid (HZ.out.2.trans (B1.mono HZ.out.2.size))
  have O1 := hid o1
  have G1 : Hid (w.heap.size ≤ g1) := Nat.le_trans HZ.out.2.size hg1
  clear B1 o1 hg1 P1 HZ
  go_wp2_with fail
  refine (P2.out _).mono ?_
  rintro e w2 ⟨g2, rfl, hg2, o2, B2⟩
  have o1 := O1.out.below B2 O1.out.lt
  have ne : g1 ≠ g2 := by have := O1.out.lt; omega
  have S1 := row_str o1
  have S2 := row_str o2
  have LT := Sh.rb_less n X Y q1.1 q1.2 q2.1 q2.2
  have T1 : (⟨(Sh.rb n X).toArray⟩ : ByteArray).toList = Sh.rb n X := by rw [ByteArray.toList_eq]
  have T2 : (⟨(Sh.rb n Y).toArray⟩ : ByteArray).toList = Sh.rb n Y := by rw [ByteArray.toList_eq]
  rw [← T1, ← T2] at LT
  have BW2 := hid (BW1.out.trans (B2.mono BW1.out.size))
  have OO := hid (And.intro o1 (And.intro o2 (And.intro ne (And.intro G1.out (Nat.le_trans BW1.out.size hg2)))))
  generalize (⟨(Sh.rb n X).toArray⟩ : ByteArray) = sx at *
  generalize (⟨(Sh.rb n Y).toArray⟩ : ByteArray) = sy at *
  obtain ⟨lt, hlt⟩ : ∃ lt, decide (X < Y) = lt := ⟨_, rfl⟩
  rw [hlt] at LT
  clear T1 T2 c0 c1 c2 P2 B2 o1 o2 ne O1 G1 hg2 BW1
  go_upto_if 43 with fail
  go_cut [8, 9] from 44 to 45 (fun a b wx => ∃ ga gb U V, a = .slice (some ⟨ga, 0, none⟩) n n ∧ b = .slice (some ⟨gb, 0, none⟩) n n ∧ wx = w2 ∧ Hid (OwnB w2 ga (Dn.dg 10 n U) ∧ OwnB w2 gb (Dn.dg 10 n V) ∧ ga ≠ gb ∧ w.heap.size ≤ ga ∧ 0 ≤ V ∧ V ≤ U ∧ U < 10 ^ n ∧ ((X - Y).natAbs : Int) = U - V))
  case first =>
    cases lt
    · have hle := of_decide_eq_false hlt
      go_wp2_with fail
      go_meet
      exact ⟨g1, g2, X, Y, rfl, rfl, rfl, OO.out.1, OO.out.2.1, OO.out.2.2.1, OO.out.2.2.2.1, q2.1, by omega, q1.2, by omega⟩
    · have hle := of_decide_eq_true hlt
      go_wp2_with fail
      go_meet
      exact ⟨g2, g1, Y, X, rfl, rfl, rfl, OO.out.2.1, OO.out.1, fun c => OO.out.2.2.1 c.symm, OO.out.2.2.2.2, q1.1, by omega, q2.2, by omega⟩
  obtain ⟨ga, gb, U, V, h8, h9, hwc, C⟩ := hcut
  subst h8
  subst h9
  subst hwc
  have GG : Hid (∀ w', OwnB w' ga (Dn.dg 10 n (U - V)) → Below w.heap.size w w' → GapTold n ((X - Y).natAbs : Int) lo w (.returned (.tuple #[.slice (some ⟨ga, 0, none⟩) n n, .int .i64 lo])) w') := fun w' o b => ⟨ga, rfl, C.out.2.2.2.1, by rw [C.out.2.2.2.2.2.2.2]; exact o, b⟩
  clear S1 S2 LT OO hlt
  go_wp2_with fail
  go_loopg [10, 11] n (fun k bo i wr => ∃ q : Nat, q + k = n ∧ bo = .int .u8 (Sh.bw U V q) ∧ i = .int .i64 ((k : Int) - 1) ∧ Hid (OwnB wr ga (Dn.dg 10 k (U / 10 ^ q) ++ Dn.dg 10 q (U - V)) ∧ OwnB wr gb (Dn.dg 10 n V) ∧ Below w.heap.size w wr))
  case atStart =>
    refine ⟨0, by omega, ?_, rfl, ?_⟩
    · have : Sh.bw U V 0 = 0 := by
        unfold Sh.bw
        rw [Int.pow_zero, Int.emod_one, Int.emod_one, if_neg (by omega)]
      rw [this]
    · refine ⟨?_, C.out.2.1, BW2.out⟩
      rw [Int.pow_zero, Int.ediv_one, show Dn.dg 10 0 (U - V) = [] from rfl, List.append_nil]
      exact C.out.1
  case round =>
    obtain ⟨q, hq, rfl, rfl, I⟩ := hrel
    cases gk with
    | zero =>
      have hqn : q = n := by omega
      subst hqn
      have K := hid (GG.out wr (by have := I.out.1; rw [show Dn.dg 10 0 (U / 10 ^ q) = [] from rfl, List.nil_append] at this; exact this) I.out.2.2)
      clear I GG
      generalize Sh.bw U V q = bo at *
      go_wp2_with fail
      go_ret2
      exact K.out
    | succ j =>
      rw [show ((j + 1 : Nat) : Int) - 1 = (j : Int) by omega]
      have jn : (j : Int) < (n : Int) := by omega
      obtain ⟨x, hx⟩ : ∃ x, U / 10 ^ q % 10 = x := ⟨_, rfl⟩
      obtain ⟨y, hy⟩ : ∃ y, V / 10 ^ q % 10 = y := ⟨_, rfl⟩
      obtain ⟨b, hb⟩ : ∃ b, Sh.bw U V q = b := ⟨_, rfl⟩
      have bb : b = 0 ∨ b = 1 := by rw [← hb]; unfold Sh.bw; split <;> simp
      obtain ⟨st1, st2⟩ := Sh.sub_step (X := U) (Y := V) (P := 10 ^ q) (Fx.p_pos q) (b := b) (x := x) (y := y) (by rw [← hb]; rfl) hx.symm hy.symm
      have oa := I.out.1
      have ob := I.out.2.1
      have lenA : (Dn.dg 10 (j + 1) (U / 10 ^ q) ++ Dn.dg 10 q (U - V)).length = n := by rw [List.length_append, Sh.dg_len, Sh.dg_len]; omega
      have ca := oa.cell j (by omega)
      have fa := oa.free j
      have ea : (Dn.dg 10 (j + 1) (U / 10 ^ q) ++ Dn.dg 10 q (U - V)).getD j 0 = x := by
        have h1 := Sh.dg_at (j + 1) (U / 10 ^ q) j (by omega)
        rw [show j + 1 - 1 - j = 0 by omega, Int.pow_zero, Int.ediv_one, hx] at h1
        rw [← h1]
        simp [List.getD, List.getElem?_append_left (show j < (Dn.dg 10 (j + 1) (U / 10 ^ q)).length by rw [Sh.dg_len]; omega)]
      rw [ea] at ca
      have cb := ob.cell j (by rw [Sh.dg_len]; omega)
      have eb : (Dn.dg 10 n V).getD j 0 = y := by
        rw [Sh.dg_at n V j (by omega), show n - 1 - j = q by omega, hy]
      rw [eb] at cb
      have xb : 0 ≤ x ∧ x < 10 := by omega
      have yb : 0 ≤ y ∧ y < 10 := by omega
      obtain ⟨xb0, xb1⟩ := xb
      obtain ⟨yb0, yb1⟩ := yb
      have NX : Hid (∀ (z : Int) (w' : World), z = (U - V) / 10 ^ q % 10 → OwnB w' ga ((Dn.dg 10 (j + 1) (U / 10 ^ q) ++ Dn.dg 10 q (U - V)).set j z) → OwnB w' gb (Dn.dg 10 n V) → Below w.heap.size w w' → (OwnB w' ga (Dn.dg 10 j (U / 10 ^ (q + 1)) ++ Dn.dg 10 (q + 1) (U - V)) ∧ OwnB w' gb (Dn.dg 10 n V) ∧ Below w.heap.size w w')) := by
        intro z w' hz o1 o2 o3
        rw [Sh.dg_set q j U (U - V) z hz] at o1
        exact ⟨o1, o2, o3⟩
      have far : ∀ (w' : World) (v : Value), OwnB w' gb (Dn.dg 10 n V) → OwnB (w'.setCell ⟨ga, j, none⟩ v) gb (Dn.dg 10 n V) := by
        intro w' v o
        simp only [OwnB] at *
        simp only [World.setCell, Array.getElem?_modify]
        rw [if_neg C.out.2.2.1]
        exact o
      have gw := C.out.2.2.2.1
      rw [hb]
      by_cases hc : x < y + b
      · obtain ⟨v1, v2⟩ := st1 hc
        have nbw : Hid (Sh.bw U V (q + 1) = 1) := by unfold Sh.bw; rw [Hid, Int.pow_succ, if_pos v2]
        have o1 := oa.set j (x + 10)
        have K := hid (NX.out (x + 10 - (y + b)) _ v1 (by have := o1.set j (x + 10 - (y + b)); rw [List.set_set] at this; exact this) (far _ _ (far _ (.int .u8 (x + 10)) ob)) ((I.out.2.2.setCell (p := ⟨ga, j, none⟩) gw (.int .u8 (x + 10))).setCell (p := ⟨ga, j, none⟩) gw (.int .u8 (x + 10 - (y + b)))))
        clear I oa ob o1 st1 st2 NX far v1 v2 ea eb lenA GG
        go_wp2_with fail
        go_roundg j
        case measure => omega
        case rel => exact ⟨q + 1, by omega, by rw [nbw.out], by go_num, K.out⟩
      · obtain ⟨v1, v2⟩ := st2 (by omega)
        have nbw : Hid (Sh.bw U V (q + 1) = 0) := by unfold Sh.bw; rw [Hid, Int.pow_succ, if_neg v2]
        have K := hid (NX.out (x - (y + b)) _ v1 (oa.set j (x - (y + b))) (far _ _ ob) (I.out.2.2.setCell (p := ⟨ga, j, none⟩) gw (.int .u8 (x - (y + b)))))
        clear I oa ob st1 st2 NX far v1 v2 ea eb lenA GG
        go_wp2_with fail
        go_roundg j
        case measure => omega
        case rel => exact ⟨q + 1, by omega, by rw [nbw.out], by go_num, K.out⟩
end Go.Proofs.YtaoaniigbooihaaGreatDoor

namespace Go.Proofs.YtaoaniigbooihaaGreatDoor
open Go Go.RowKit Go.Deep

set_option maxRecDepth 100000 in
set_option maxHeartbeats 4000000 in
/-- Two rows of digits, held against each other place by place. -/
theorem less_any (ga gb na nb ca cb : Nat) (Ta Tb la lb : Int) (w : World) (oa : OwnB w ga (Dn.dg 10 na Ta)) (ob : OwnB w gb (Dn.dg 10 nb Tb)) (a0 : 0 ≤ Ta) (a1 : Ta < 10 ^ na) (b0 : 0 ≤ Tb) (b1 : Tb < 10 ^ nb)
    (m : Int) (sa sb : Nat) (hsa : la = m + sa) (hsb : lb = m + sb) (hm : sa = 0 ∨ sb = 0) (ba : na ≤ 5000) (bb : nb ≤ 5000) (m0 : -5000 ≤ m) (m1 : m ≤ 5000) (s1 : sa ≤ 10000) (s2 : sb ≤ 10000) :
    Calls Tryz.prog 21 #[.slice (some ⟨ga, 0, none⟩) na ca, .int .i64 la, .slice (some ⟨gb, 0, none⟩) nb cb, .int .i64 lb] w fun r w' => r = .returned (.int .i64 (Sc.cmpI (Ta * 10 ^ sa) (Tb * 10 ^ sb))) ∧ w' = w := by
  obtain ⟨M, hM⟩ : ∃ M, M = max (sa + na) (sb + nb) := ⟨_, rfl⟩
  have PA : Hid (∀ j : Nat, (sa ≤ j → j < sa + na → (Dn.dg 10 na Ta).getD (na - 1 - (j - sa)) 0 = Ta * 10 ^ sa / 10 ^ j % 10) ∧ (¬ (sa ≤ j ∧ j < sa + na) → Ta * 10 ^ sa / 10 ^ j % 10 = 0)) := fun j => Sh.place_dig a0 a1
  have PB : Hid (∀ j : Nat, (sb ≤ j → j < sb + nb → (Dn.dg 10 nb Tb).getD (nb - 1 - (j - sb)) 0 = Tb * 10 ^ sb / 10 ^ j % 10) ∧ (¬ (sb ≤ j ∧ j < sb + nb) → Tb * 10 ^ sb / 10 ^ j % 10 = 0)) := fun j => Sh.place_dig b0 b1
  have top : ∀ (T : Int) (n s : Nat), 0 ≤ T → T < 10 ^ n → s + n ≤ M → T * 10 ^ s / 10 ^ M = 0 := by
    intro T n s h0 h1 h2
    apply Int.ediv_eq_zero_of_lt (Int.mul_nonneg h0 (Int.le_of_lt (Fx.p_pos s)))
    refine Int.lt_of_lt_of_le (Int.mul_lt_mul_of_pos_right h1 (Fx.p_pos s)) ?_
    rw [← Int.pow_add]
    exact Fx.p_le (by omega)
  have E0 : Ta * 10 ^ sa / 10 ^ M = Tb * 10 ^ sb / 10 ^ M := by rw [top Ta na sa a0 a1 (by omega), top Tb nb sb b0 b1 (by omega)]
  obtain ⟨A, hA⟩ : ∃ A, Ta * 10 ^ sa = A := ⟨_, rfl⟩
  obtain ⟨B, hB⟩ : ∃ B, Tb * 10 ^ sb = B := ⟨_, rfl⟩
  rw [hA] at PA
  rw [hB] at PB
  rw [hA, hB] at E0
  rw [hA, hB]
  have mn : min (m + (sa : Int)) (m + (sb : Int)) = m := by omega
  have mx : max (m + (sa : Int) + (na : Int)) (m + (sb : Int) + (nb : Int)) = m + (M : Int) := by omega
  have OA := hid oa
  have OB := hid ob
  have HM := hid hM
  have Mb : (M : Int) ≤ 15000 := by omega
  clear oa ob a0 a1 b0 b1 top hA hB hM
  subst hsa
  subst hsb
  go_enter Tryz.func21, Tryz.ntmps21
  go_wp2_with fail
  go_loopg [10] M (fun k p wr => wr = w ∧ p = .int .i64 (m + (k : Int) - 1) ∧ k ≤ M ∧ Hid (A / 10 ^ k = B / 10 ^ k))
  case atStart => exact ⟨rfl, rfl, Nat.le_refl _, E0⟩
  case round =>
    obtain ⟨hw, hp, hk, I⟩ := hrel
    subst hw
    subst hp
    cases gk with
    | zero =>
      have K : Hid (Sc.cmpI A B = 0) := by
        have q := I.out
        rw [Int.pow_zero, Int.ediv_one, Int.ediv_one] at q
        rw [q]
        rcases Sc.cmpI_c B B with k | k | k
        · omega
        · exact k.2
        · omega
      clear I PA PB OA OB
      go_wp2_with fail
      go_ret
      exact ⟨by rw [K.out]; rfl, rfl⟩
    | succ j =>
      rw [show m + ((j + 1 : Nat) : Int) - 1 = m + (j : Int) by omega]
      obtain ⟨c1, c2, c3⟩ := Sh.cmp_dig I.out
      have pa := PA.out j
      have pb := PB.out j
      obtain ⟨x, hx⟩ : ∃ x, A / 10 ^ j % 10 = x := ⟨_, rfl⟩
      obtain ⟨y, hy⟩ : ∃ y, B / 10 ^ j % 10 = y := ⟨_, rfl⟩
      rw [hx] at pa c1 c2 c3
      rw [hy] at pb c1 c2 c3
      have xb : 0 ≤ x ∧ x < 10 := by omega
      have yb : 0 ≤ y ∧ y < 10 := by omega
      have L1 : Hid (x < y → Sc.cmpI A B = -1) := fun q => by rcases Sc.cmpI_c A B with k | k | k <;> have := c1 q <;> omega
      have L2 : Hid (y < x → Sc.cmpI A B = 1) := fun q => by rcases Sc.cmpI_c A B with k | k | k <;> have := c2 q <;> omega
      have L3 : Hid (x = y → A / 10 ^ j = B / 10 ^ j) := fun q => c3 q
      have jb : (j : Int) ≤ 15000 := by omega
      clear c1 c2 c3 I hx hy
      by_cases ra : sa ≤ j ∧ j < sa + na
      · have ia : sa ≤ j ∧ j < sa + na := ra
        obtain ⟨ka, hka⟩ : ∃ ka : Nat, ka = na - 1 - (j - sa) := ⟨_, rfl⟩
        have za : m + (sa : Int) + (na : Int) - 1 - (m + (j : Int)) = (ka : Int) := by omega
        have wa : (ka : Int) < (na : Int) := by omega
        have ea := pa.1 ia.1 ia.2
        have fa := OA.out.cell ka (by rw [Sh.dg_len]; omega)
        rw [hka, ea, ← hka] at fa
        clear hka ea
        by_cases rb : sb ≤ j ∧ j < sb + nb
        · have ib : sb ≤ j ∧ j < sb + nb := rb
          obtain ⟨kb, hkb⟩ : ∃ kb : Nat, kb = nb - 1 - (j - sb) := ⟨_, rfl⟩
          have zb : m + (sb : Int) + (nb : Int) - 1 - (m + (j : Int)) = (kb : Int) := by omega
          have wb : (kb : Int) < (nb : Int) := by omega
          have eb := pb.1 ib.1 ib.2
          have fb := OB.out.cell kb (by rw [Sh.dg_len]; omega)
          rw [hkb, eb, ← hkb] at fb
          clear hkb eb
          rcases Int.lt_trichotomy x y with q | q | q
          · have K := hid (L1.out q)
            clear L1 L2 L3 PA PB OA OB pa pb
            go_wp2_with fail
            all_goals go_ret
            all_goals exact ⟨by rw [K.out]; rfl, rfl⟩
          · have K := hid (L3.out q)
            have q1 : ¬ x < y := by omega
            have q2 : ¬ y < x := by omega
            clear L1 L2 L3 pa pb
            go_wp2_with fail
            all_goals go_roundg j
            all_goals first | exact ⟨rfl, by go_num, by omega, K.out⟩ | omega
          · have K := hid (L2.out q)
            have q1 : ¬ x < y := by omega
            clear L1 L2 L3 PA PB OA OB pa pb
            go_wp2_with fail
            all_goals go_ret
            all_goals exact ⟨by rw [K.out]; rfl, rfl⟩
        · have xb0 : y = 0 := pb.2 rb
          subst xb0
          rcases (show m + (sb : Int) + (nb : Int) - 1 - (m + (j : Int)) < 0 ∨ (0 ≤ m + (sb : Int) + (nb : Int) - 1 - (m + (j : Int)) ∧ (nb : Int) ≤ m + (sb : Int) + (nb : Int) - 1 - (m + (j : Int))) by omega) with ob | ⟨ob, ob'⟩
          · rcases Int.lt_trichotomy x (0 : Int) with q | q | q
            · have K := hid (L1.out q)
              clear L1 L2 L3 PA PB OA OB pa pb
              go_wp2_with fail
              all_goals go_ret
              all_goals exact ⟨by rw [K.out]; rfl, rfl⟩
            · have K := hid (L3.out q)
              have q1 : ¬ x < (0 : Int) := by omega
              have q2 : ¬ (0 : Int) < x := by omega
              clear L1 L2 L3 pa pb
              go_wp2_with fail
              all_goals go_roundg j
              all_goals first | exact ⟨rfl, by go_num, by omega, K.out⟩ | omega
            · have K := hid (L2.out q)
              have q1 : ¬ x < (0 : Int) := by omega
              clear L1 L2 L3 PA PB OA OB pa pb
              go_wp2_with fail
              all_goals go_ret
              all_goals exact ⟨by rw [K.out]; rfl, rfl⟩
          · rcases Int.lt_trichotomy x (0 : Int) with q | q | q
            · have K := hid (L1.out q)
              clear L1 L2 L3 PA PB OA OB pa pb
              go_wp2_with fail
              all_goals go_ret
              all_goals exact ⟨by rw [K.out]; rfl, rfl⟩
            · have K := hid (L3.out q)
              have q1 : ¬ x < (0 : Int) := by omega
              have q2 : ¬ (0 : Int) < x := by omega
              clear L1 L2 L3 pa pb
              go_wp2_with fail
              all_goals go_roundg j
              all_goals first | exact ⟨rfl, by go_num, by omega, K.out⟩ | omega
            · have K := hid (L2.out q)
              have q1 : ¬ x < (0 : Int) := by omega
              clear L1 L2 L3 PA PB OA OB pa pb
              go_wp2_with fail
              all_goals go_ret
              all_goals exact ⟨by rw [K.out]; rfl, rfl⟩
      · have xa0 : x = 0 := pa.2 ra
        subst xa0
        rcases (show m + (sa : Int) + (na : Int) - 1 - (m + (j : Int)) < 0 ∨ (0 ≤ m + (sa : Int) + (na : Int) - 1 - (m + (j : Int)) ∧ (na : Int) ≤ m + (sa : Int) + (na : Int) - 1 - (m + (j : Int))) by omega) with oa | ⟨oa, oa'⟩
        · by_cases rb : sb ≤ j ∧ j < sb + nb
          · have ib : sb ≤ j ∧ j < sb + nb := rb
            obtain ⟨kb, hkb⟩ : ∃ kb : Nat, kb = nb - 1 - (j - sb) := ⟨_, rfl⟩
            have zb : m + (sb : Int) + (nb : Int) - 1 - (m + (j : Int)) = (kb : Int) := by omega
            have wb : (kb : Int) < (nb : Int) := by omega
            have eb := pb.1 ib.1 ib.2
            have fb := OB.out.cell kb (by rw [Sh.dg_len]; omega)
            rw [hkb, eb, ← hkb] at fb
            clear hkb eb
            rcases Int.lt_trichotomy (0 : Int) y with q | q | q
            · have K := hid (L1.out q)
              clear L1 L2 L3 PA PB OA OB pa pb
              go_wp2_with fail
              all_goals go_ret
              all_goals exact ⟨by rw [K.out]; rfl, rfl⟩
            · have K := hid (L3.out q)
              have q1 : ¬ (0 : Int) < y := by omega
              have q2 : ¬ y < (0 : Int) := by omega
              clear L1 L2 L3 pa pb
              go_wp2_with fail
              all_goals go_roundg j
              all_goals first | exact ⟨rfl, by go_num, by omega, K.out⟩ | omega
            · have K := hid (L2.out q)
              have q1 : ¬ (0 : Int) < y := by omega
              clear L1 L2 L3 PA PB OA OB pa pb
              go_wp2_with fail
              all_goals go_ret
              all_goals exact ⟨by rw [K.out]; rfl, rfl⟩
          · have xb0 : y = 0 := pb.2 rb
            subst xb0
            rcases (show m + (sb : Int) + (nb : Int) - 1 - (m + (j : Int)) < 0 ∨ (0 ≤ m + (sb : Int) + (nb : Int) - 1 - (m + (j : Int)) ∧ (nb : Int) ≤ m + (sb : Int) + (nb : Int) - 1 - (m + (j : Int))) by omega) with ob | ⟨ob, ob'⟩
            · rcases Int.lt_trichotomy (0 : Int) (0 : Int) with q | q | q
              · have K := hid (L1.out q)
                clear L1 L2 L3 PA PB OA OB pa pb
                go_wp2_with fail
                all_goals go_ret
                all_goals exact ⟨by rw [K.out]; rfl, rfl⟩
              · have K := hid (L3.out q)
                have q1 : ¬ (0 : Int) < (0 : Int) := by omega
                have q2 : ¬ (0 : Int) < (0 : Int) := by omega
                clear L1 L2 L3 pa pb
                go_wp2_with fail
                all_goals go_roundg j
                all_goals first | exact ⟨rfl, by go_num, by omega, K.out⟩ | omega
              · have K := hid (L2.out q)
                have q1 : ¬ (0 : Int) < (0 : Int) := by omega
                clear L1 L2 L3 PA PB OA OB pa pb
                go_wp2_with fail
                all_goals go_ret
                all_goals exact ⟨by rw [K.out]; rfl, rfl⟩
            · rcases Int.lt_trichotomy (0 : Int) (0 : Int) with q | q | q
              · have K := hid (L1.out q)
                clear L1 L2 L3 PA PB OA OB pa pb
                go_wp2_with fail
                all_goals go_ret
                all_goals exact ⟨by rw [K.out]; rfl, rfl⟩
              · have K := hid (L3.out q)
                have q1 : ¬ (0 : Int) < (0 : Int) := by omega
                have q2 : ¬ (0 : Int) < (0 : Int) := by omega
                clear L1 L2 L3 pa pb
                go_wp2_with fail
                all_goals go_roundg j
                all_goals first | exact ⟨rfl, by go_num, by omega, K.out⟩ | omega
              · have K := hid (L2.out q)
                have q1 : ¬ (0 : Int) < (0 : Int) := by omega
                clear L1 L2 L3 PA PB OA OB pa pb
                go_wp2_with fail
                all_goals go_ret
                all_goals exact ⟨by rw [K.out]; rfl, rfl⟩
        · by_cases rb : sb ≤ j ∧ j < sb + nb
          · have ib : sb ≤ j ∧ j < sb + nb := rb
            obtain ⟨kb, hkb⟩ : ∃ kb : Nat, kb = nb - 1 - (j - sb) := ⟨_, rfl⟩
            have zb : m + (sb : Int) + (nb : Int) - 1 - (m + (j : Int)) = (kb : Int) := by omega
            have wb : (kb : Int) < (nb : Int) := by omega
            have eb := pb.1 ib.1 ib.2
            have fb := OB.out.cell kb (by rw [Sh.dg_len]; omega)
            rw [hkb, eb, ← hkb] at fb
            clear hkb eb
            rcases Int.lt_trichotomy (0 : Int) y with q | q | q
            · have K := hid (L1.out q)
              clear L1 L2 L3 PA PB OA OB pa pb
              go_wp2_with fail
              all_goals go_ret
              all_goals exact ⟨by rw [K.out]; rfl, rfl⟩
            · have K := hid (L3.out q)
              have q1 : ¬ (0 : Int) < y := by omega
              have q2 : ¬ y < (0 : Int) := by omega
              clear L1 L2 L3 pa pb
              go_wp2_with fail
              all_goals go_roundg j
              all_goals first | exact ⟨rfl, by go_num, by omega, K.out⟩ | omega
            · have K := hid (L2.out q)
              have q1 : ¬ (0 : Int) < y := by omega
              clear L1 L2 L3 PA PB OA OB pa pb
              go_wp2_with fail
              all_goals go_ret
              all_goals exact ⟨by rw [K.out]; rfl, rfl⟩
          · have xb0 : y = 0 := pb.2 rb
            subst xb0
            rcases (show m + (sb : Int) + (nb : Int) - 1 - (m + (j : Int)) < 0 ∨ (0 ≤ m + (sb : Int) + (nb : Int) - 1 - (m + (j : Int)) ∧ (nb : Int) ≤ m + (sb : Int) + (nb : Int) - 1 - (m + (j : Int))) by omega) with ob | ⟨ob, ob'⟩
            · rcases Int.lt_trichotomy (0 : Int) (0 : Int) with q | q | q
              · have K := hid (L1.out q)
                clear L1 L2 L3 PA PB OA OB pa pb
                go_wp2_with fail
                all_goals go_ret
                all_goals exact ⟨by rw [K.out]; rfl, rfl⟩
              · have K := hid (L3.out q)
                have q1 : ¬ (0 : Int) < (0 : Int) := by omega
                have q2 : ¬ (0 : Int) < (0 : Int) := by omega
                clear L1 L2 L3 pa pb
                go_wp2_with fail
                all_goals go_roundg j
                all_goals first | exact ⟨rfl, by go_num, by omega, K.out⟩ | omega
              · have K := hid (L2.out q)
                have q1 : ¬ (0 : Int) < (0 : Int) := by omega
                clear L1 L2 L3 PA PB OA OB pa pb
                go_wp2_with fail
                all_goals go_ret
                all_goals exact ⟨by rw [K.out]; rfl, rfl⟩
            · rcases Int.lt_trichotomy (0 : Int) (0 : Int) with q | q | q
              · have K := hid (L1.out q)
                clear L1 L2 L3 PA PB OA OB pa pb
                go_wp2_with fail
                all_goals go_ret
                all_goals exact ⟨by rw [K.out]; rfl, rfl⟩
              · have K := hid (L3.out q)
                have q1 : ¬ (0 : Int) < (0 : Int) := by omega
                have q2 : ¬ (0 : Int) < (0 : Int) := by omega
                clear L1 L2 L3 pa pb
                go_wp2_with fail
                all_goals go_roundg j
                all_goals first | exact ⟨rfl, by go_num, by omega, K.out⟩ | omega
              · have K := hid (L2.out q)
                have q1 : ¬ (0 : Int) < (0 : Int) := by omega
                clear L1 L2 L3 PA PB OA OB pa pb
                go_wp2_with fail
                all_goals go_ret
                all_goals exact ⟨by rw [K.out]; rfl, rfl⟩
end Go.Proofs.YtaoaniigbooihaaGreatDoor

namespace Go.Proofs.YtaoaniigbooihaaGreatDoor
open Go Go.RowKit Go.Deep

set_option maxRecDepth 100000 in
theorem modest_any (neg : Bool) (s : ByteArray) (xs : List Int) (e : Int) (w : World) (hs : Str s xs) (hl : xs.length ≤ 800) (e0 : -1100 ≤ e) (e1 : e ≤ 400) :
    Calls Tryz.prog 19 #[.agg #[.bool neg, .string s, .int .i64 e]] w fun r w' => r = .returned (.bool true) ∧ Below w.heap.size w w' := by
  have hsz := hs.size
  have hl2 : (xs.length : Int) ≤ 800 := by omega
  have K := hid (alloc_b w (.cells #[.bool neg, .string s, .int .i64 e] 39))
  clear hs
  go_enter Tryz.func19, Tryz.ntmps19
  go_wp2_with fail
  go_ret
  exact ⟨rfl, K.out⟩
end Go.Proofs.YtaoaniigbooihaaGreatDoor
