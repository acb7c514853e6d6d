/-
  THE SHORTEST DIGITS, AS NUMBERS: all decimals in units of 10^-1075.
-/
import Derived.Test.YtonnlimmjelldaaGreatDoorFNum
import Derived.Test.YtonnlimmjelldaaGreatDoorVOrd
import Derived.Test.YtonnlimmjelldaaGreatDoorINum2
namespace Go.Proofs.YtonnlimmjelldaaGreatDoor
open Go.RowKit Go.Deep
namespace Sh

/-- A decimal's number. -/
def uv (d : Sc.D) : Int := dv d.ds * 10 ^ (d.e + 1075).toNat
/-- A normal decimal, not below nothing. -/
structure Ok (d : Sc.D) : Prop where
  neg : d.neg = false
  lo : -1075 ≤ d.e
  form : (d.ds = [48] ∧ d.e = 0) ∨ Fx.Nml d.ds

theorem nml_ne {xs : List Int} (h : Fx.Nml xs) : xs ≠ [48] := fun c => h.head (by rw [c]; rfl)
theorem nml_pos {xs : List Int} (h : Fx.Nml xs) : 0 < dv xs := by
  obtain ⟨n, hn⟩ := h.len
  have := Fx.head_low h.digs hn h.head
  have := Fx.p_pos n
  omega
theorem dv48 : dv [48] = 0 := rfl
theorem uv_zero {d : Sc.D} (h : d.ds = [48]) : uv d = 0 := by rw [uv, h, dv48, Int.zero_mul]
theorem uv_pos {d : Sc.D} (h : Fx.Nml d.ds) : 0 < uv d := Int.mul_pos (nml_pos h) (Fx.p_pos _)
theorem Ok.nn {d : Sc.D} (h : Ok d) : 0 ≤ uv d := by
  rcases h.form with c | c
  · rw [uv_zero c.1]; exact Int.le_refl _
  · exact Int.le_of_lt (uv_pos c)
theorem Ok.nml {d : Sc.D} (h : Ok d) (hp : 0 < uv d) : Fx.Nml d.ds := by
  rcases h.form with c | c
  · rw [uv_zero c.1] at hp; omega
  · exact c
theorem Ok.zero {d : Sc.D} (h : Ok d) (hp : uv d = 0) : d = ⟨false, [48], 0⟩ := by
  rcases h.form with c | c
  · obtain ⟨n, ds, e⟩ := d
    have := h.neg
    simp at this c
    rw [this, c.1, c.2]
  · have := uv_pos c; omega
theorem Ok.inj {a b : Sc.D} (ha : Ok a) (hb : Ok b) (h : uv a = uv b) : a = b := by
  rcases (show uv a = 0 ∨ 0 < uv a by have := ha.nn; omega) with c | c
  · rw [ha.zero c, hb.zero (by omega)]
  · obtain ⟨e1, e2⟩ := Fx.nml_one (ha.nml c) (hb.nml (by omega)) h
    have l1 := ha.lo
    have l2 := hb.lo
    have n1 := ha.neg
    have n2 := hb.neg
    obtain ⟨n, ds, e⟩ := a
    obtain ⟨n', ds', e'⟩ := b
    simp at *
    exact ⟨by rw [n1, n2], e1, by omega⟩
theorem ok_ex (U : Int) (h : 0 ≤ U) : ∃ d, Ok d ∧ uv d = U := by
  rcases (show U = 0 ∨ 0 < U by omega) with c | c
  · exact ⟨⟨false, [48], 0⟩, ⟨rfl, by decide, .inl ⟨rfl, rfl⟩⟩, by rw [uv_zero rfl, c]⟩
  · obtain ⟨xs, a, h1, h2⟩ := Fx.nml_ex U.toNat (by omega)
    refine ⟨⟨false, xs, (a : Int) - 1075⟩, ⟨rfl, by simp; omega, .inr h1⟩, ?_⟩
    simp only [uv]
    rw [show ((a : Int) - 1075 + 1075).toNat = a by omega, h2]
    omega
/-- The normal decimal of U. -/
noncomputable def dd (U : Int) : Sc.D := open Classical in if h : ∃ d, Ok d ∧ uv d = U then Classical.choose h else ⟨false, [48], 0⟩
theorem dd_is {U : Int} (h : 0 ≤ U) : Ok (dd U) ∧ uv (dd U) = U := by
  have k := ok_ex U h
  unfold dd
  rw [dif_pos k]
  exact Classical.choose_spec k
theorem Ok.is {d : Sc.D} (h : Ok d) : d = dd (uv d) := h.inj (dd_is h.nn).1 (dd_is h.nn).2.symm
theorem dd_zero : dd 0 = ⟨false, [48], 0⟩ := (dd_is (Int.le_refl 0)).1.zero (dd_is (Int.le_refl 0)).2

/-- The order of digits. -/
theorem lex_le : ∀ (xs ys : List Int) (M : Nat), Digs xs → Digs ys → xs.length ≤ M → ys.length ≤ M → Sc.lex xs ys ≤ 0 → dv xs * 10 ^ (M - xs.length) ≤ dv ys * 10 ^ (M - ys.length)
  | [], ys, M, _, hy, _, _, _ => by
    have h := Int.mul_nonneg (dv_bd hy).1 (Int.le_of_lt (Fx.p_pos (M - ys.length)))
    rw [show dv [] = 0 from rfl, Int.zero_mul]
    exact h
  | x :: a, [], M, _, _, _, _, h => by simp [Sc.lex] at h
  | x :: a, y :: b, 0, _, _, h, _, _ => by simp at h
  | x :: a, y :: b, M + 1, hx, hy, lx, ly, h => by
    have hxa : Digs a := fun z hz => hx z (by simp [hz])
    have hyb : Digs b := fun z hz => hy z (by simp [hz])
    rw [List.length_cons] at lx ly
    have ea : ∀ (z : Int) (l : List Int), l.length ≤ M → dv (z :: l) * 10 ^ (M + 1 - (z :: l).length) = (z - 48) * 10 ^ M + dv l * 10 ^ (M - l.length) := by
      intro z l hl
      rw [dv_cons, List.length_cons, show M + 1 - (l.length + 1) = M - l.length by omega, Int.add_mul, Int.mul_assoc, ← Int.pow_add, show l.length + (M - l.length) = M by omega]
    rw [ea x a (by omega), ea y b (by omega)]
    simp only [Sc.lex] at h
    rcases Int.lt_trichotomy x y with c | c | c
    · have b1 : dv a * 10 ^ (M - a.length) < 10 ^ a.length * 10 ^ (M - a.length) := Int.mul_lt_mul_of_pos_right (dv_bd hxa).2 (Fx.p_pos _)
      rw [← Int.pow_add, show a.length + (M - a.length) = M by omega] at b1
      have b2 : 0 ≤ dv b * 10 ^ (M - b.length) := Int.mul_nonneg (dv_bd hyb).1 (Int.le_of_lt (Fx.p_pos _))
      have b3 : (x - 48 + 1) * 10 ^ M ≤ (y - 48) * 10 ^ M := Int.mul_le_mul_of_nonneg_right (by omega) (Int.le_of_lt (Fx.p_pos _))
      rw [Int.add_mul, Int.one_mul] at b3
      omega
    · subst c
      rw [if_neg (by omega), if_neg (by omega)] at h
      have := lex_le a b M hxa hyb (by omega) (by omega) h
      omega
    · rw [if_neg (by omega), if_pos c] at h
      omega

/-- U lies between two powers of ten. -/
theorem uv_place {d : Sc.D} (h : Fx.Nml d.ds) (hl : -1075 ≤ d.e) : 10 ^ (Sc.pl d + 1074).toNat ≤ uv d ∧ uv d < 10 ^ (Sc.pl d + 1075).toNat := by
  obtain ⟨n, hn⟩ := h.len
  have b1 := Fx.head_low h.digs hn h.head
  have b2 := (dv_bd h.digs).2
  have p := Fx.p_pos (d.e + 1075).toNat
  unfold Sc.pl uv
  rw [hn] at b2 ⊢
  constructor
  · rw [show (d.e + ((n + 1 : Nat) : Int) + 1074).toNat = n + (d.e + 1075).toNat by omega, Int.pow_add]
    exact Int.mul_le_mul_of_nonneg_right b1 (Int.le_of_lt p)
  · rw [show (d.e + ((n + 1 : Nat) : Int) + 1075).toNat = (n + 1) + (d.e + 1075).toNat by omega, Int.pow_add]
    exact Int.mul_lt_mul_of_pos_right b2 p

theorem mc_le {a b : Sc.D} (ha : Fx.Nml a.ds) (hb : Fx.Nml b.ds) (la : -1075 ≤ a.e) (lb : -1075 ≤ b.e) (h : Sc.mc a b ≤ 0) : uv a ≤ uv b := by
  unfold Sc.mc at h
  split at h
  · rename_i hp
    have hl : Sc.pl a < Sc.pl b := by rcases Sc.cmpI_c (Sc.pl a) (Sc.pl b) with k | k | k <;> omega
    have h1 := (uv_place ha la).2
    have h2 := (uv_place hb lb).1
    have h3 := Fx.p_le (show (Sc.pl a + 1075).toNat ≤ (Sc.pl b + 1074).toNat by omega)
    omega
  · rename_i hp
    have hl : Sc.pl a = Sc.pl b := by omega
    unfold Sc.pl at hl
    obtain ⟨M, hM⟩ : ∃ M, M = max a.ds.length b.ds.length := ⟨_, rfl⟩
    have := lex_le a.ds b.ds M ha.digs hb.digs (by omega) (by omega) h
    unfold uv
    obtain ⟨s, hs⟩ : ∃ s, (a.e + 1075).toNat = M - a.ds.length + s := ⟨(a.e + 1075).toNat - (M - a.ds.length), by omega⟩
    have hs2 : (b.e + 1075).toNat = M - b.ds.length + s := by omega
    rw [hs, hs2, Int.pow_add, Int.pow_add, ← Int.mul_assoc, ← Int.mul_assoc]
    exact Int.mul_le_mul_of_nonneg_right this (Int.le_of_lt (Fx.p_pos _))

theorem mc_uv {a b : Sc.D} (ha : Ok a) (hb : Ok b) (na : Fx.Nml a.ds) (nb : Fx.Nml b.ds) : Sc.mc a b = Sc.cmpI (uv a) (uv b) := by
  have l1 := mc_le na nb ha.lo hb.lo
  have l2 := mc_le nb na hb.lo ha.lo
  have an := Sc.mc_anti a b
  have eq : uv a = uv b → Sc.mc a b = 0 := fun c => by rw [ha.inj hb c]; exact (Sc.mc_zero b b).2 ⟨rfl, rfl⟩
  have eq2 : Sc.mc a b = 0 → uv a = uv b := fun c => by have := l1 (by omega); have := l2 (by omega); omega
  rcases Sc.mc_b a b with c | c | c <;> rcases Sc.cmpI_c (uv a) (uv b) with k | k | k <;> omega

theorem cmp_uv {a b : Sc.D} (ha : Ok a) (hb : Ok b) : Sc.cmpD a b = Sc.cmpI (uv a) (uv b) := by
  have sg : ∀ d : Sc.D, Ok d → (uv d = 0 ∧ Sc.sgn d = 0) ∨ (0 < uv d ∧ Sc.sgn d = 1 ∧ Fx.Nml d.ds) := by
    intro d h
    rcases h.form with c | c
    · exact .inl ⟨uv_zero c.1, by rw [Sc.sgn, if_pos c.1]⟩
    · exact .inr ⟨uv_pos c, by rw [Sc.sgn, if_neg (nml_ne c), h.neg]; rfl, c⟩
  unfold Sc.cmpD
  rcases sg a ha with ⟨a1, a2⟩ | ⟨a1, a2, a3⟩ <;> rcases sg b hb with ⟨b1, b2⟩ | ⟨b1, b2, b3⟩
  · rw [a2, b2, if_neg (by omega), ha.neg, if_neg Bool.false_ne_true, a1, b1]
    have e : a = b := ha.inj hb (by omega)
    rw [e]
    rw [(Sc.mc_zero b b).2 ⟨rfl, rfl⟩]
    rfl
  · rw [a2, b2, if_pos (by omega)]
    rcases Sc.cmpI_c (uv a) (uv b) with k | k | k
    · rw [k.2]; rfl
    · omega
    · omega
  · rw [a2, b2, if_pos (by omega)]
    rcases Sc.cmpI_c (uv a) (uv b) with k | k | k
    · omega
    · omega
    · rw [k.2]; rfl
  · rw [a2, b2, if_neg (by omega), ha.neg, if_neg Bool.false_ne_true]
    exact mc_uv ha hb a3 b3

/-- Five to the 1075. -/
def T5 : Int := 5 ^ 1075
theorem T5_pos : 0 < T5 := by unfold T5; exact Int.pow_pos (by omega)

/-- A double, its bounds. -/
def V (a : Int) : Int := Ie.vl a * T5
def B (a : Int) : Int := Ie.md a * T5
def A (a : Int) : Int := if a = 0 then 0 else B (a - 1)
/-- U reads back. -/
def inB (a U : Int) : Bool := decide ((A a < U ∧ U < B a) ∨ (a % 2 = 0 ∧ A a ≤ U ∧ U ≤ B a))
theorem V_zero : V 0 = 0 := by rw [V, Ie.vl_zero, Int.zero_mul]
theorem V_pos {a : Int} (h : 0 < a) : 0 < V a := by
  have := (Ie.vl_lt_iff (x := 0) (y := a) (by omega) (by omega)).2 h
  rw [Ie.vl_zero] at this
  exact Int.mul_pos this T5_pos
theorem V_nn {a : Int} (h : 0 ≤ a) : 0 ≤ V a := by
  rcases (show a = 0 ∨ 0 < a by omega) with c | c
  · rw [c, V_zero]; exact Int.le_refl _
  · exact Int.le_of_lt (V_pos c)
theorem V_B {a : Int} : V a < B a := Int.mul_lt_mul_of_pos_right (Ie.vl_lt_md a) T5_pos
theorem A_V {a : Int} (h : 0 < a) : A a < V a := by
  have := Ie.md_lt_vl (a - 1) (by omega)
  rw [show a - 1 + 1 = a by omega] at this
  rw [A, if_neg (by omega)]
  exact Int.mul_lt_mul_of_pos_right this T5_pos
theorem A_pos {a : Int} (h : 0 < a) : 0 < A a := by
  rw [A, if_neg (by omega)]
  exact Int.mul_pos (Ie.md_nn (a - 1) (by omega)) T5_pos
theorem inB_V {a : Int} (h : 0 ≤ a) : inB a (V a) = true := by
  unfold inB
  rcases (show a = 0 ∨ 0 < a by omega) with c | c
  · subst c
    have h1 := @V_B 0
    rw [V_zero] at h1 ⊢
    rw [A, if_pos rfl]
    exact decide_eq_true (.inr ⟨rfl, Int.le_refl _, Int.le_of_lt h1⟩)
  · exact decide_eq_true (.inl ⟨A_V c, V_B⟩)
theorem inB_up {a U W : Int} (h : inB a U = true) (h1 : V a ≤ W) (h2 : W ≤ U) (ha : 0 < a) : inB a W = true := by
  have h3 := A_V ha
  have := of_decide_eq_true h
  exact decide_eq_true (by omega)
theorem inB_dn {a U W : Int} (h : inB a U = true) (h1 : W ≤ V a) (h2 : U ≤ W) : inB a W = true := by
  have h3 := @V_B a
  have := of_decide_eq_true h
  exact decide_eq_true (by omega)

/-- How many digits; the last one's place. -/
noncomputable def ln (U : Int) : Nat := (dd U).ds.length
/-- The step of n figures. -/
noncomputable def st (U : Int) (n : Nat) : Int := 10 ^ ((dd U).e + ((ln U : Int) - n) + 1075).toNat
/-- The upper one is nearer (or it is the even one of two). -/
def upB (U S : Int) : Bool := decide (S < 2 * (U % S) ∨ (S = 2 * (U % S) ∧ (U / S) % 2 = 1))
/-- The nearer one, the other one. -/
def k1 (U S : Int) : Int := if upB U S = true then U / S + 1 else U / S
def k2 (U S : Int) : Int := if upB U S = true then U / S else U / S + 1
/-- What within answers. -/
noncomputable def wn (a : Int) (n : Nat) : Option Int :=
  if ln (V a) ≤ n then some (V a)
  else if inB a (k1 (V a) (st (V a) n) * st (V a) n) = true then some (k1 (V a) (st (V a) n) * st (V a) n)
  else if inB a (k2 (V a) (st (V a) n) * st (V a) n) = true then some (k2 (V a) (st (V a) n) * st (V a) n)
  else none

theorem st_pos (U : Int) (n : Nat) : 0 < st U n := Fx.p_pos _
theorem ln_pos {U : Int} (h : 0 ≤ U) : 1 ≤ ln U := by
  have o := (dd_is h).1
  unfold ln
  rcases o.form with c | c
  · rw [c.1]; simp
  · obtain ⟨n, hn⟩ := c.len; omega
theorem st_succ {U : Int} {n : Nat} (h : 0 ≤ U) (hn : n < ln U) : st U n = 10 * st U (n + 1) := by
  have o := (dd_is h).1.lo
  unfold st
  rw [show ((dd U).e + ((ln U : Int) - (n : Nat)) + 1075).toNat = ((dd U).e + ((ln U : Int) - ((n + 1 : Nat) : Int)) + 1075).toNat + 1 by omega, Int.pow_succ, Int.mul_comm]
theorem divS {U S : Int} (h : 0 < S) : U = U / S * S + U % S ∧ 0 ≤ U % S ∧ U % S < S := by
  have h1 := Int.mul_ediv_add_emod U S
  have h2 := Int.emod_nonneg U (show S ≠ 0 by omega)
  have h3 := Int.emod_lt_of_pos U h
  rw [Int.mul_comm] at h1
  omega

theorem wn_in {a : Int} {n : Nat} {U : Int} (ha : 0 ≤ a) (h : wn a n = some U) : inB a U = true := by
  unfold wn at h
  split at h
  · rw [← Option.some.inj h]; exact inB_V ha
  · split at h
    · rw [← Option.some.inj h]; assumption
    · split at h
      · rw [← Option.some.inj h]; assumption
      · exact absurd h (by simp)

/-- Where a multiple of the step reads back, one is found. -/
theorem wn_of {a k : Int} {n : Nat} (ha : 0 < a) (h : inB a (k * st (V a) n) = true) : (wn a n).isSome = true := by
  unfold wn
  split
  · rfl
  · split
    · rfl
    · split
      · rfl
      · exfalso
        rename_i h0 h1 h2
        obtain ⟨d1, d2, d3⟩ := divS (U := V a) (st_pos (V a) n)
        have key : inB a (V a / st (V a) n * st (V a) n) = true ∨ inB a ((V a / st (V a) n + 1) * st (V a) n) = true := by
          rcases (show k * st (V a) n ≤ V a ∨ V a < k * st (V a) n by omega) with c | c
          · left
            refine inB_dn h (by omega) ?_
            have : k ≤ V a / st (V a) n := (Int.le_ediv_iff_mul_le (st_pos _ _)).2 c
            exact Int.mul_le_mul_of_nonneg_right this (Int.le_of_lt (st_pos _ _))
          · right
            refine inB_up h (by rw [Int.add_mul, Int.one_mul]; omega) ?_ ha
            have : V a / st (V a) n < k := (Int.ediv_lt_iff_lt_mul (st_pos _ _)).2 c
            exact Int.mul_le_mul_of_nonneg_right (by omega) (Int.le_of_lt (st_pos _ _))
        unfold k1 at h1
        unfold k2 at h2
        split at h1
        · rw [if_pos (by assumption)] at h2; rcases key with c | c; exact h2 c; exact h1 c
        · rw [if_neg (by assumption)] at h2; rcases key with c | c; exact h1 c; exact h2 c
theorem wn_form {a : Int} {n : Nat} {U : Int} (h : wn a n = some U) : U = V a ∨ (n < ln (V a) ∧ (U = k1 (V a) (st (V a) n) * st (V a) n ∨ (inB a (k1 (V a) (st (V a) n) * st (V a) n) = false ∧ U = k2 (V a) (st (V a) n) * st (V a) n))) := by
  unfold wn at h
  split at h
  · exact .inl (Option.some.inj h).symm
  · refine .inr ⟨by omega, ?_⟩
    split at h
    · exact .inl (Option.some.inj h).symm
    · rename_i hk
      split at h
      · exact .inr ⟨by simpa using hk, (Option.some.inj h).symm⟩
      · exact absurd h (by simp)
theorem k_form (U S : Int) : (k1 U S = U / S ∧ k2 U S = U / S + 1) ∨ (k1 U S = U / S + 1 ∧ k2 U S = U / S) := by
  unfold k1 k2
  split
  · exact .inr ⟨rfl, rfl⟩
  · exact .inl ⟨rfl, rfl⟩

theorem wn_mono {a : Int} {n : Nat} (ha : 0 ≤ a) (h : (wn a n).isSome = true) : (wn a (n + 1)).isSome = true := by
  obtain ⟨U, hU⟩ := Option.isSome_iff_exists.1 h
  rcases (show a = 0 ∨ 0 < a by omega) with c | c
  · subst c
    have : ln (V 0) = 1 := by rw [V_zero, ln, dd_zero]; rfl
    unfold wn
    rw [if_pos (by omega)]
    rfl
  · rcases Nat.lt_or_ge (n + 1) (ln (V a)) with g | g
    · have s := st_succ (V_nn ha) (show n < ln (V a) by omega)
      have i := wn_in ha hU
      rcases wn_form hU with k | ⟨_, k⟩
      · have : wn a n = some (V a) := by rw [hU, k]
        refine wn_of (k := V a / st (V a) (n + 1)) c ?_
        rcases (show inB a (V a / st (V a) (n + 1) * st (V a) (n + 1)) = true ∨ inB a (V a / st (V a) (n + 1) * st (V a) (n + 1)) = false by cases inB a (V a / st (V a) (n + 1) * st (V a) (n + 1)) <;> simp) with q | q
        · exact q
        · exfalso
          unfold wn at this
          rw [if_neg (by omega)] at this
          obtain ⟨d1, d2, d3⟩ := divS (U := V a) (st_pos (V a) (n + 1))
          have mul : ∃ z : Int, V a = z * st (V a) n := by
            split at this
            · exact ⟨_, (Option.some.inj this).symm⟩
            · split at this
              · exact ⟨_, (Option.some.inj this).symm⟩
              · exact absurd this (by simp)
          obtain ⟨z, hz⟩ := mul
          have e : V a / st (V a) (n + 1) = 10 * z := by
            refine Int.ediv_eq_of_eq_mul_left (by have := st_pos (V a) (n + 1); omega) ?_
            have hz2 := hz
            rw [s] at hz2
            rw [show 10 * z * st (V a) (n + 1) = z * (10 * st (V a) (n + 1)) by ac_rfl]
            exact hz2
          rw [e, show 10 * z * st (V a) (n + 1) = z * (10 * st (V a) (n + 1)) by ac_rfl, ← s, ← hz, inB_V ha] at q
          exact absurd q (by decide)
      · obtain ⟨z, hz⟩ : ∃ z : Int, U = z * st (V a) n := by
          rcases k with k | ⟨_, k⟩ <;> exact ⟨_, k⟩
        rw [hz, s, show z * (10 * st (V a) (n + 1)) = z * 10 * st (V a) (n + 1) by ac_rfl] at i
        exact wn_of c i
    · unfold wn
      rw [if_pos g]
      rfl
end Sh
end Go.Proofs.YtonnlimmjelldaaGreatDoor
