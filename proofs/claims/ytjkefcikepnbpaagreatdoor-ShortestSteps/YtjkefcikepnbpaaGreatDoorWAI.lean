/-
  Texts put together: LNum, LNum2, LNum3, VOwn, VSlim.
-/
import Derived.Test.YtjkefcikepnbpaaGreatDoorWAB
import Derived.Test.YtjkefcikepnbpaaGreatDoorWAA
import Derived.Test.YtjkefcikepnbpaaGreatDoorWAD
import Derived.Deep.Cut
import Derived.Deep.RegionHeld3
namespace Go.Proofs.YtjkefcikepnbpaaGreatDoor
open Go.RowKit Go.Deep
namespace Sh

/-- A decimal's number. -/
def uv (d : Sc.D) : Int := dv d.ds * 10 ^ (d.e + 1075).toNat
/-- A normal decimal, not below nothing. -/
structure Ok (d : Sc.D) : Prop where
  neg : d.neg = false
  lo : -1075 ≤ d.e
  form : (d.ds = [48] ∧ d.e = 0) ∨ Fx.Nml d.ds

theorem nml_ne {xs : List Int} (h : Fx.Nml xs) : xs ≠ [48] := fun c => h.head (by rw [c]; rfl)
theorem nml_pos {xs : List Int} (h : Fx.Nml xs) : 0 < dv xs := by
  obtain ⟨n, hn⟩ := h.len
  have := Fx.head_low h.digs hn h.head
  have := Fx.p_pos n
  omega
theorem dv48 : dv [48] = 0 := rfl
theorem uv_zero {d : Sc.D} (h : d.ds = [48]) : uv d = 0 := by rw [uv, h, dv48, Int.zero_mul]
theorem uv_pos {d : Sc.D} (h : Fx.Nml d.ds) : 0 < uv d := Int.mul_pos (nml_pos h) (Fx.p_pos _)
theorem Ok.nn {d : Sc.D} (h : Ok d) : 0 ≤ uv d := by
  rcases h.form with c | c
  · rw [uv_zero c.1]; exact Int.le_refl _
  · exact Int.le_of_lt (uv_pos c)
theorem Ok.nml {d : Sc.D} (h : Ok d) (hp : 0 < uv d) : Fx.Nml d.ds := by
  rcases h.form with c | c
  · rw [uv_zero c.1] at hp; omega
  · exact c
theorem Ok.zero {d : Sc.D} (h : Ok d) (hp : uv d = 0) : d = ⟨false, [48], 0⟩ := by
  rcases h.form with c | c
  · obtain ⟨n, ds, e⟩ := d
    have := h.neg
    simp at this c
    rw [this, c.1, c.2]
  · have := uv_pos c; omega
theorem Ok.inj {a b : Sc.D} (ha : Ok a) (hb : Ok b) (h : uv a = uv b) : a = b := by
  rcases (show uv a = 0 ∨ 0 < uv a by have := ha.nn; omega) with c | c
  · rw [ha.zero c, hb.zero (by omega)]
  · obtain ⟨e1, e2⟩ := Fx.nml_one (ha.nml c) (hb.nml (by omega)) h
    have l1 := ha.lo
    have l2 := hb.lo
    have n1 := ha.neg
    have n2 := hb.neg
    obtain ⟨n, ds, e⟩ := a
    obtain ⟨n', ds', e'⟩ := b
    simp at *
    exact ⟨by rw [n1, n2], e1, by omega⟩
theorem ok_ex (U : Int) (h : 0 ≤ U) : ∃ d, Ok d ∧ uv d = U := by
  rcases (show U = 0 ∨ 0 < U by omega) with c | c
  · exact ⟨⟨false, [48], 0⟩, ⟨rfl, by decide, .inl ⟨rfl, rfl⟩⟩, by rw [uv_zero rfl, c]⟩
  · obtain ⟨xs, a, h1, h2⟩ := Fx.nml_ex U.toNat (by omega)
    refine ⟨⟨false, xs, (a : Int) - 1075⟩, ⟨rfl, by simp; omega, .inr h1⟩, ?_⟩
    simp only [uv]
    rw [show ((a : Int) - 1075 + 1075).toNat = a by omega, h2]
    omega
/-- The normal decimal of U. -/
noncomputable def dd (U : Int) : Sc.D := open Classical in if h : ∃ d, Ok d ∧ uv d = U then Classical.choose h else ⟨false, [48], 0⟩
theorem dd_is {U : Int} (h : 0 ≤ U) : Ok (dd U) ∧ uv (dd U) = U := by
  have k := ok_ex U h
  unfold dd
  rw [dif_pos k]
  exact Classical.choose_spec k
theorem Ok.is {d : Sc.D} (h : Ok d) : d = dd (uv d) := h.inj (dd_is h.nn).1 (dd_is h.nn).2.symm
theorem dd_zero : dd 0 = ⟨false, [48], 0⟩ := (dd_is (Int.le_refl 0)).1.zero (dd_is (Int.le_refl 0)).2

/-- The order of digits. -/
theorem lex_le : ∀ (xs ys : List Int) (M : Nat), Digs xs → Digs ys → xs.length ≤ M → ys.length ≤ M → Sc.lex xs ys ≤ 0 → dv xs * 10 ^ (M - xs.length) ≤ dv ys * 10 ^ (M - ys.length)
  | [], ys, M, _, hy, _, _, _ => by
    have h := Int.mul_nonneg (dv_bd hy).1 (Int.le_of_lt (Fx.p_pos (M - ys.length)))
    rw [show dv [] = 0 from rfl, Int.zero_mul]
    exact h
  | x :: a, [], M, _, _, _, _, h => by simp [Sc.lex] at h
  | x :: a, y :: b, 0, _, _, h, _, _ => by simp at h
  | x :: a, y :: b, M + 1, hx, hy, lx, ly, h => by
    have hxa : Digs a := fun z hz => hx z (by simp [hz])
    have hyb : Digs b := fun z hz => hy z (by simp [hz])
    rw [List.length_cons] at lx ly
    have ea : ∀ (z : Int) (l : List Int), l.length ≤ M → dv (z :: l) * 10 ^ (M + 1 - (z :: l).length) = (z - 48) * 10 ^ M + dv l * 10 ^ (M - l.length) := by
      intro z l hl
      rw [dv_cons, List.length_cons, show M + 1 - (l.length + 1) = M - l.length by omega, Int.add_mul, Int.mul_assoc, ← Int.pow_add, show l.length + (M - l.length) = M by omega]
    rw [ea x a (by omega), ea y b (by omega)]
    simp only [Sc.lex] at h
    rcases Int.lt_trichotomy x y with c | c | c
    · have b1 : dv a * 10 ^ (M - a.length) < 10 ^ a.length * 10 ^ (M - a.length) := Int.mul_lt_mul_of_pos_right (dv_bd hxa).2 (Fx.p_pos _)
      rw [← Int.pow_add, show a.length + (M - a.length) = M by omega] at b1
      have b2 : 0 ≤ dv b * 10 ^ (M - b.length) := Int.mul_nonneg (dv_bd hyb).1 (Int.le_of_lt (Fx.p_pos _))
      have b3 : (x - 48 + 1) * 10 ^ M ≤ (y - 48) * 10 ^ M := Int.mul_le_mul_of_nonneg_right (by omega) (Int.le_of_lt (Fx.p_pos _))
      rw [Int.add_mul, Int.one_mul] at b3
      omega
    · subst c
      rw [if_neg (by omega), if_neg (by omega)] at h
      have := lex_le a b M hxa hyb (by omega) (by omega) h
      omega
    · rw [if_neg (by omega), if_pos c] at h
      omega

/-- U lies between two powers of ten. -/
theorem uv_place {d : Sc.D} (h : Fx.Nml d.ds) (hl : -1075 ≤ d.e) : 10 ^ (Sc.pl d + 1074).toNat ≤ uv d ∧ uv d < 10 ^ (Sc.pl d + 1075).toNat := by
  obtain ⟨n, hn⟩ := h.len
  have b1 := Fx.head_low h.digs hn h.head
  have b2 := (dv_bd h.digs).2
  have p := Fx.p_pos (d.e + 1075).toNat
  unfold Sc.pl uv
  rw [hn] at b2 ⊢
  constructor
  · rw [show (d.e + ((n + 1 : Nat) : Int) + 1074).toNat = n + (d.e + 1075).toNat by omega, Int.pow_add]
    exact Int.mul_le_mul_of_nonneg_right b1 (Int.le_of_lt p)
  · rw [show (d.e + ((n + 1 : Nat) : Int) + 1075).toNat = (n + 1) + (d.e + 1075).toNat by omega, Int.pow_add]
    exact Int.mul_lt_mul_of_pos_right b2 p

theorem mc_le {a b : Sc.D} (ha : Fx.Nml a.ds) (hb : Fx.Nml b.ds) (la : -1075 ≤ a.e) (lb : -1075 ≤ b.e) (h : Sc.mc a b ≤ 0) : uv a ≤ uv b := by
  unfold Sc.mc at h
  split at h
  · rename_i hp
    have hl : Sc.pl a < Sc.pl b := by rcases Sc.cmpI_c (Sc.pl a) (Sc.pl b) with k | k | k <;> omega
    have h1 := (uv_place ha la).2
    have h2 := (uv_place hb lb).1
    have h3 := Fx.p_le (show (Sc.pl a + 1075).toNat ≤ (Sc.pl b + 1074).toNat by omega)
    omega
  · rename_i hp
    have hl : Sc.pl a = Sc.pl b := by omega
    unfold Sc.pl at hl
    obtain ⟨M, hM⟩ : ∃ M, M = max a.ds.length b.ds.length := ⟨_, rfl⟩
    have := lex_le a.ds b.ds M ha.digs hb.digs (by omega) (by omega) h
    unfold uv
    obtain ⟨s, hs⟩ : ∃ s, (a.e + 1075).toNat = M - a.ds.length + s := ⟨(a.e + 1075).toNat - (M - a.ds.length), by omega⟩
    have hs2 : (b.e + 1075).toNat = M - b.ds.length + s := by omega
    rw [hs, hs2, Int.pow_add, Int.pow_add, ← Int.mul_assoc, ← Int.mul_assoc]
    exact Int.mul_le_mul_of_nonneg_right this (Int.le_of_lt (Fx.p_pos _))

theorem mc_uv {a b : Sc.D} (ha : Ok a) (hb : Ok b) (na : Fx.Nml a.ds) (nb : Fx.Nml b.ds) : Sc.mc a b = Sc.cmpI (uv a) (uv b) := by
  have l1 := mc_le na nb ha.lo hb.lo
  have l2 := mc_le nb na hb.lo ha.lo
  have an := Sc.mc_anti a b
  have eq : uv a = uv b → Sc.mc a b = 0 := fun c => by rw [ha.inj hb c]; exact (Sc.mc_zero b b).2 ⟨rfl, rfl⟩
  have eq2 : Sc.mc a b = 0 → uv a = uv b := fun c => by have := l1 (by omega); have := l2 (by omega); omega
  rcases Sc.mc_b a b with c | c | c <;> rcases Sc.cmpI_c (uv a) (uv b) with k | k | k <;> omega

theorem cmp_uv {a b : Sc.D} (ha : Ok a) (hb : Ok b) : Sc.cmpD a b = Sc.cmpI (uv a) (uv b) := by
  have sg : ∀ d : Sc.D, Ok d → (uv d = 0 ∧ Sc.sgn d = 0) ∨ (0 < uv d ∧ Sc.sgn d = 1 ∧ Fx.Nml d.ds) := by
    intro d h
    rcases h.form with c | c
    · exact .inl ⟨uv_zero c.1, by rw [Sc.sgn, if_pos c.1]⟩
    · exact .inr ⟨uv_pos c, by rw [Sc.sgn, if_neg (nml_ne c), h.neg]; rfl, c⟩
  unfold Sc.cmpD
  rcases sg a ha with ⟨a1, a2⟩ | ⟨a1, a2, a3⟩ <;> rcases sg b hb with ⟨b1, b2⟩ | ⟨b1, b2, b3⟩
  · rw [a2, b2, if_neg (by omega), ha.neg, if_neg Bool.false_ne_true, a1, b1]
    have e : a = b := ha.inj hb (by omega)
    rw [e]
    rw [(Sc.mc_zero b b).2 ⟨rfl, rfl⟩]
    rfl
  · rw [a2, b2, if_pos (by omega)]
    rcases Sc.cmpI_c (uv a) (uv b) with k | k | k
    · rw [k.2]; rfl
    · omega
    · omega
  · rw [a2, b2, if_pos (by omega)]
    rcases Sc.cmpI_c (uv a) (uv b) with k | k | k
    · omega
    · omega
    · rw [k.2]; rfl
  · rw [a2, b2, if_neg (by omega), ha.neg, if_neg Bool.false_ne_true]
    exact mc_uv ha hb a3 b3

/-- Five to the 1075. -/
def T5 : Int := 5 ^ 1075
theorem T5_pos : 0 < T5 := by unfold T5; exact Int.pow_pos (by omega)

/-- A double, its bounds. -/
def V (a : Int) : Int := Ie.vl a * T5
def B (a : Int) : Int := Ie.md a * T5
def A (a : Int) : Int := if a = 0 then 0 else B (a - 1)
/-- U reads back. -/
def inB (a U : Int) : Bool := decide ((A a < U ∧ U < B a) ∨ (a % 2 = 0 ∧ A a ≤ U ∧ U ≤ B a))
theorem V_zero : V 0 = 0 := by rw [V, Ie.vl_zero, Int.zero_mul]
theorem V_pos {a : Int} (h : 0 < a) : 0 < V a := by
  have := (Ie.vl_lt_iff (x := 0) (y := a) (by omega) (by omega)).2 h
  rw [Ie.vl_zero] at this
  exact Int.mul_pos this T5_pos
theorem V_nn {a : Int} (h : 0 ≤ a) : 0 ≤ V a := by
  rcases (show a = 0 ∨ 0 < a by omega) with c | c
  · rw [c, V_zero]; exact Int.le_refl _
  · exact Int.le_of_lt (V_pos c)
theorem V_B {a : Int} : V a < B a := Int.mul_lt_mul_of_pos_right (Ie.vl_lt_md a) T5_pos
theorem A_V {a : Int} (h : 0 < a) : A a < V a := by
  have := Ie.md_lt_vl (a - 1) (by omega)
  rw [show a - 1 + 1 = a by omega] at this
  rw [A, if_neg (by omega)]
  exact Int.mul_lt_mul_of_pos_right this T5_pos
theorem A_pos {a : Int} (h : 0 < a) : 0 < A a := by
  rw [A, if_neg (by omega)]
  exact Int.mul_pos (Ie.md_nn (a - 1) (by omega)) T5_pos
theorem inB_V {a : Int} (h : 0 ≤ a) : inB a (V a) = true := by
  unfold inB
  rcases (show a = 0 ∨ 0 < a by omega) with c | c
  · subst c
    have h1 := @V_B 0
    rw [V_zero] at h1 ⊢
    rw [A, if_pos rfl]
    exact decide_eq_true (.inr ⟨rfl, Int.le_refl _, Int.le_of_lt h1⟩)
  · exact decide_eq_true (.inl ⟨A_V c, V_B⟩)
theorem inB_up {a U W : Int} (h : inB a U = true) (h1 : V a ≤ W) (h2 : W ≤ U) (ha : 0 < a) : inB a W = true := by
  have h3 := A_V ha
  have := of_decide_eq_true h
  exact decide_eq_true (by omega)
theorem inB_dn {a U W : Int} (h : inB a U = true) (h1 : W ≤ V a) (h2 : U ≤ W) : inB a W = true := by
  have h3 := @V_B a
  have := of_decide_eq_true h
  exact decide_eq_true (by omega)

/-- How many digits; the last one's place. -/
noncomputable def ln (U : Int) : Nat := (dd U).ds.length
/-- The step of n figures. -/
noncomputable def st (U : Int) (n : Nat) : Int := 10 ^ ((dd U).e + ((ln U : Int) - n) + 1075).toNat
/-- The upper one is nearer (or it is the even one of two). -/
def upB (U S : Int) : Bool := decide (S < 2 * (U % S) ∨ (S = 2 * (U % S) ∧ (U / S) % 2 = 1))
/-- The nearer one, the other one. -/
def k1 (U S : Int) : Int := if upB U S = true then U / S + 1 else U / S
def k2 (U S : Int) : Int := if upB U S = true then U / S else U / S + 1
/-- What within answers. -/
noncomputable def wn (a : Int) (n : Nat) : Option Int :=
  if ln (V a) ≤ n then some (V a)
  else if inB a (k1 (V a) (st (V a) n) * st (V a) n) = true then some (k1 (V a) (st (V a) n) * st (V a) n)
  else if inB a (k2 (V a) (st (V a) n) * st (V a) n) = true then some (k2 (V a) (st (V a) n) * st (V a) n)
  else none

theorem st_pos (U : Int) (n : Nat) : 0 < st U n := Fx.p_pos _
theorem ln_pos {U : Int} (h : 0 ≤ U) : 1 ≤ ln U := by
  have o := (dd_is h).1
  unfold ln
  rcases o.form with c | c
  · rw [c.1]; simp
  · obtain ⟨n, hn⟩ := c.len; omega
theorem st_succ {U : Int} {n : Nat} (h : 0 ≤ U) (hn : n < ln U) : st U n = 10 * st U (n + 1) := by
  have o := (dd_is h).1.lo
  unfold st
  rw [show ((dd U).e + ((ln U : Int) - (n : Nat)) + 1075).toNat = ((dd U).e + ((ln U : Int) - ((n + 1 : Nat) : Int)) + 1075).toNat + 1 by omega, Int.pow_succ, Int.mul_comm]
theorem divS {U S : Int} (h : 0 < S) : U = U / S * S + U % S ∧ 0 ≤ U % S ∧ U % S < S := by
  have h1 := Int.mul_ediv_add_emod U S
  have h2 := Int.emod_nonneg U (show S ≠ 0 by omega)
  have h3 := Int.emod_lt_of_pos U h
  rw [Int.mul_comm] at h1
  omega

theorem wn_in {a : Int} {n : Nat} {U : Int} (ha : 0 ≤ a) (h : wn a n = some U) : inB a U = true := by
  unfold wn at h
  split at h
  · rw [← Option.some.inj h]; exact inB_V ha
  · split at h
    · rw [← Option.some.inj h]; assumption
    · split at h
      · rw [← Option.some.inj h]; assumption
      · exact absurd h (by simp)

/-- Where a multiple of the step reads back, one is found. -/
theorem wn_of {a k : Int} {n : Nat} (ha : 0 < a) (h : inB a (k * st (V a) n) = true) : (wn a n).isSome = true := by
  unfold wn
  split
  · rfl
  · split
    · rfl
    · split
      · rfl
      · exfalso
        rename_i h0 h1 h2
        obtain ⟨d1, d2, d3⟩ := divS (U := V a) (st_pos (V a) n)
        have key : inB a (V a / st (V a) n * st (V a) n) = true ∨ inB a ((V a / st (V a) n + 1) * st (V a) n) = true := by
          rcases (show k * st (V a) n ≤ V a ∨ V a < k * st (V a) n by omega) with c | c
          · left
            refine inB_dn h (by omega) ?_
            have : k ≤ V a / st (V a) n := (Int.le_ediv_iff_mul_le (st_pos _ _)).2 c
            exact Int.mul_le_mul_of_nonneg_right this (Int.le_of_lt (st_pos _ _))
          · right
            refine inB_up h (by rw [Int.add_mul, Int.one_mul]; omega) ?_ ha
            have : V a / st (V a) n < k := (Int.ediv_lt_iff_lt_mul (st_pos _ _)).2 c
            exact Int.mul_le_mul_of_nonneg_right (by omega) (Int.le_of_lt (st_pos _ _))
        unfold k1 at h1
        unfold k2 at h2
        split at h1
        · rw [if_pos (by assumption)] at h2; rcases key with c | c; exact h2 c; exact h1 c
        · rw [if_neg (by assumption)] at h2; rcases key with c | c; exact h1 c; exact h2 c
theorem wn_form {a : Int} {n : Nat} {U : Int} (h : wn a n = some U) : U = V a ∨ (n < ln (V a) ∧ (U = k1 (V a) (st (V a) n) * st (V a) n ∨ (inB a (k1 (V a) (st (V a) n) * st (V a) n) = false ∧ U = k2 (V a) (st (V a) n) * st (V a) n))) := by
  unfold wn at h
  split at h
  · exact .inl (Option.some.inj h).symm
  · refine .inr ⟨by omega, ?_⟩
    split at h
    · exact .inl (Option.some.inj h).symm
    · rename_i hk
      split at h
      · exact .inr ⟨by simpa using hk, (Option.some.inj h).symm⟩
      · exact absurd h (by simp)
theorem k_form (U S : Int) : (k1 U S = U / S ∧ k2 U S = U / S + 1) ∨ (k1 U S = U / S + 1 ∧ k2 U S = U / S) := by
  unfold k1 k2
  split
  · exact .inr ⟨rfl, rfl⟩
  · exact .inl ⟨rfl, rfl⟩

theorem wn_mono {a : Int} {n : Nat} (ha : 0 ≤ a) (h : (wn a n).isSome = true) : (wn a (n + 1)).isSome = true := by
  obtain ⟨U, hU⟩ := Option.isSome_iff_exists.1 h
  rcases (show a = 0 ∨ 0 < a by omega) with c | c
  · subst c
    have : ln (V 0) = 1 := by rw [V_zero, ln, dd_zero]; rfl
    unfold wn
    rw [if_pos (by omega)]
    rfl
  · rcases Nat.lt_or_ge (n + 1) (ln (V a)) with g | g
    · have s := st_succ (V_nn ha) (show n < ln (V a) by omega)
      have i := wn_in ha hU
      rcases wn_form hU with k | ⟨_, k⟩
      · have : wn a n = some (V a) := by rw [hU, k]
        refine wn_of (k := V a / st (V a) (n + 1)) c ?_
        rcases (show inB a (V a / st (V a) (n + 1) * st (V a) (n + 1)) = true ∨ inB a (V a / st (V a) (n + 1) * st (V a) (n + 1)) = false by cases inB a (V a / st (V a) (n + 1) * st (V a) (n + 1)) <;> simp) with q | q
        · exact q
        · exfalso
          unfold wn at this
          rw [if_neg (by omega)] at this
          obtain ⟨d1, d2, d3⟩ := divS (U := V a) (st_pos (V a) (n + 1))
          have mul : ∃ z : Int, V a = z * st (V a) n := by
            split at this
            · exact ⟨_, (Option.some.inj this).symm⟩
            · split at this
              · exact ⟨_, (Option.some.inj this).symm⟩
              · exact absurd this (by simp)
          obtain ⟨z, hz⟩ := mul
          have e : V a / st (V a) (n + 1) = 10 * z := by
            refine Int.ediv_eq_of_eq_mul_left (by have := st_pos (V a) (n + 1); omega) ?_
            have hz2 := hz
            rw [s] at hz2
            rw [show 10 * z * st (V a) (n + 1) = z * (10 * st (V a) (n + 1)) by ac_rfl]
            exact hz2
          rw [e, show 10 * z * st (V a) (n + 1) = z * (10 * st (V a) (n + 1)) by ac_rfl, ← s, ← hz, inB_V ha] at q
          exact absurd q (by decide)
      · obtain ⟨z, hz⟩ : ∃ z : Int, U = z * st (V a) n := by
          rcases k with k | ⟨_, k⟩ <;> exact ⟨_, k⟩
        rw [hz, s, show z * (10 * st (V a) (n + 1)) = z * 10 * st (V a) (n + 1) by ac_rfl] at i
        exact wn_of c i
    · unfold wn
      rw [if_pos g]
      rfl
end Sh
end Go.Proofs.YtjkefcikepnbpaaGreatDoor

namespace Go.Proofs.YtjkefcikepnbpaaGreatDoor
open Go.RowKit Go.Deep
namespace Sh

/-- The place of a number's head. -/
noncomputable def pl (U : Int) : Int := (dd U).e + ln U
theorem place {U : Int} (h : 0 < U) : 10 ^ (pl U + 1074).toNat ≤ U ∧ U < 10 ^ (pl U + 1075).toNat ∧ -1074 ≤ pl U := by
  have o := dd_is (Int.le_of_lt h)
  have n := o.1.nml (by rw [o.2]; exact h)
  have p := uv_place n o.1.lo
  rw [o.2] at p
  have := ln_pos (Int.le_of_lt h)
  have := o.1.lo
  exact ⟨p.1, p.2, by unfold pl; omega⟩
theorem st_pl (U : Int) (n : Nat) : st U n = 10 ^ (pl U - n + 1075).toNat := by
  unfold st pl
  rw [show (dd U).e + ((ln U : Int) - (n : Int)) + 1075 = (dd U).e + (ln U : Int) - (n : Int) + 1075 by omega]

theorem room_lo : (10 : Int) ^ 751 ≤ 2 * 5 ^ 1075 := by decide +kernel
theorem room_hi : (2 : Int) ^ 2099 * 5 ^ 1075 ≤ 10 ^ 1384 := by decide +kernel
theorem V_place {a : Int} (h0 : 0 < a) (h1 : a < 9218868437227405312) : -323 ≤ pl (V a) ∧ pl (V a) ≤ 309 := by
  obtain ⟨p1, p2, p3⟩ := place (V_pos h0)
  have l1 : (10 : Int) ^ 751 ≤ V a := by
    have h2 := Ie.vl_le (x := 1) (y := a) (by omega) (by omega)
    have h3 : Ie.vl 1 = 2 := by decide
    rw [h3] at h2
    have h4 := Int.mul_le_mul_of_nonneg_right h2 (Int.le_of_lt T5_pos)
    have h5 : (10 : Int) ^ 751 ≤ 2 * T5 := room_lo
    exact Int.le_trans h5 h4
  have l2 : V a < 10 ^ 1384 := by
    have h2 := (Ie.vl_lt_iff (x := a) (y := 9218868437227405312) (by omega) (by omega)).2 h1
    have h3 : Ie.vl 9218868437227405312 = 2 ^ 2099 := by decide +kernel
    rw [h3] at h2
    have h4 := Int.mul_lt_mul_of_pos_right h2 T5_pos
    have h5 : (2 : Int) ^ 2099 * T5 ≤ 10 ^ 1384 := room_hi
    exact Int.lt_of_lt_of_le h4 h5
  have q1 := Fx.p_lt (Int.lt_of_le_of_lt l1 p2)
  have q2 := Fx.p_lt (Int.lt_of_le_of_lt p1 l2)
  omega

theorem wn17 {a : Int} (ha : 0 < a) : (wn a 17).isSome = true := by
  rcases Nat.lt_or_ge 17 (ln (V a)) with hl | hl
  · refine wn_of (k := k1 (V a) (st (V a) 17)) ha ?_
    obtain ⟨p1, p2, p3⟩ := place (V_pos ha)
    have hpl : pl (V a) = (dd (V a)).e + ln (V a) := rfl
    have lo := (dd_is (V_nn (Int.le_of_lt ha))).1.lo
    have hS : 10000000000000000 * st (V a) 17 ≤ V a := by
      rw [st_pl]
      refine Int.le_trans (Int.le_of_eq ?_) p1
      rw [show (10000000000000000 : Int) = 10 ^ 16 by decide, ← Int.pow_add]
      congr 1
      omega
    obtain ⟨d1, d2, d3⟩ := divS (U := V a) (st_pos (V a) 17)
    have sp := st_pos (V a) 17
    obtain ⟨g, hg⟩ : ∃ g, (2 : Int) ^ Ie.ex a * T5 = g := ⟨_, rfl⟩
    have gp : 0 < g := by rw [← hg]; exact Int.mul_pos (Nm.two_pos _) T5_pos
    have mb := Ie.man_nn a (Int.le_of_lt ha)
    have hB : B a = V a + g := by rw [B, V, Ie.md_eq, Int.add_mul, hg]
    have hV : V a = 2 * Ie.man a * g := by rw [V, Ie.vl, ← hg]; generalize T5 = t; generalize (2 : Int) ^ Ie.ex a = y; generalize Ie.man a = z; ac_rfl
    have key : ∀ c : Int, A a + c = V a → c ≤ g → st (V a) 17 < 2 * c → inB a (k1 (V a) (st (V a) 17) * st (V a) 17) = true := by
      intro c h1 h2 h3
      generalize st (V a) 17 = S at *
      have e1 : (V a / S + 1) * S = V a / S * S + S := by rw [Int.add_mul, Int.one_mul]
      have A0 := A_V ha
      unfold k1
      split
      · rename_i hu
        rw [e1]
        have := of_decide_eq_true hu
        exact decide_eq_true (.inl (by omega))
      · rename_i hu
        have : ¬ (S < 2 * (V a % S) ∨ (S = 2 * (V a % S) ∧ (V a / S) % 2 = 1)) := fun q => hu (decide_eq_true q)
        exact decide_eq_true (.inl (by omega))
    by_cases hp : Ie.man a = 4503599627370496 ∧ 0 < Ie.ex a
    · have hm := Ie.md_pred' a ha hp
      obtain ⟨f, hf⟩ : ∃ f, (2 : Int) ^ (Ie.ex a - 1) * T5 = f := ⟨_, rfl⟩
      have hgf : g = 2 * f := by
        obtain ⟨x, hx⟩ : ∃ x, Ie.ex a = x + 1 := ⟨Ie.ex a - 1, by omega⟩
        rw [← hg, ← hf, hx, Nat.add_sub_cancel, Int.pow_succ]
        generalize T5 = t
        generalize (2 : Int) ^ x = y
        ac_rfl
      have hA : A a = 18014398509481983 * f := by rw [A, if_neg (by omega), B, hm, ← hf, Int.mul_assoc]
      rw [hp.1] at hV
      exact key f (by omega) (by omega) (by omega)
    · have hm := Ie.md_pred a ha hp
      have hA : A a + g = V a := by
        rw [A, if_neg (by omega), B, hm, V, Ie.vl, ← hg, ← Int.add_mul]
        congr 1
        rw [Int.sub_mul, Int.one_mul]
        omega
      have hle : 2 * Ie.man a * g ≤ 18014398509481982 * g := Int.mul_le_mul_of_nonneg_right (by omega) (Int.le_of_lt gp)
      exact key g hA (Int.le_refl _) (by omega)
  · unfold wn
    rw [if_pos hl]
    rfl

/-- The decimal of k times a power of ten. -/
theorem dd_pow {k : Int} {s n : Nat} (hk : 0 < k) (hn : 1 ≤ n) (h : k ≤ 10 ^ n) : (dd (k * 10 ^ s)).ds.length ≤ n ∧ (s : Int) ≤ (dd (k * 10 ^ s)).e + 1075 ∧ ((dd (k * 10 ^ s)).e + 1075 = s → dv (dd (k * 10 ^ s)).ds = k) := by
  obtain ⟨xs, j, h1, h2⟩ := Fx.nml_ex k.toNat (by omega)
  have hk2 : ((k.toNat : Nat) : Int) = k := by omega
  rw [hk2] at h2
  have o : Ok ⟨false, xs, (j : Int) + s - 1075⟩ := ⟨rfl, by simp; omega, .inr h1⟩
  have hu : uv ⟨false, xs, (j : Int) + s - 1075⟩ = k * 10 ^ s := by
    simp only [uv]
    rw [show ((j : Int) + (s : Int) - 1075 + 1075).toNat = j + s by omega, Int.pow_add, ← Int.mul_assoc, h2]
  have e := o.is
  rw [hu] at e
  rw [← e]
  refine ⟨?_, by simp; omega, fun g => ?_⟩
  · show xs.length ≤ n
    obtain ⟨m, hm⟩ := h1.len
    have b := Fx.head_low h1.digs hm h1.head
    have j1 : (1 : Int) ≤ 10 ^ j := Fx.p_pos j
    have vp := nml_pos h1
    have b2 : dv xs * 1 ≤ dv xs * 10 ^ j := Int.mul_le_mul_of_nonneg_left j1 (Int.le_of_lt vp)
    rcases (show dv xs < 10 ^ n ∨ dv xs = 10 ^ n by omega) with c | c
    · have := Fx.p_lt (Int.lt_of_le_of_lt b c)
      omega
    · exfalso
      obtain ⟨q, rfl⟩ : ∃ q, n = q + 1 := ⟨n - 1, by omega⟩
      have := h1.mod
      rw [c, Int.pow_succ] at this
      omega
  · have hj : j = 0 := by
      have : (j : Int) + s - 1075 + 1075 = s := g
      omega
    subst hj
    rw [Int.pow_zero, Int.mul_one] at h2
    exact h2

theorem wn_pos {a : Int} {n : Nat} {U : Int} (ha : 0 < a) (h : wn a n = some U) : 0 < U := by
  have i := of_decide_eq_true (wn_in (Int.le_of_lt ha) h)
  have := A_pos ha
  omega
/-- The two about the number. -/
theorem k_room {a : Int} {n : Nat} (ha : 0 < a) (hn : 1 ≤ n) (hl : n < ln (V a)) : 1 ≤ V a / st (V a) n ∧ V a / st (V a) n + 1 ≤ 10 ^ n ∧ 0 < V a % st (V a) n ∧ st (V a) n = 10 ^ (pl (V a) - n + 1075).toNat ∧ 0 ≤ pl (V a) - n + 1075 := by
  obtain ⟨p1, p2, p3⟩ := place (V_pos ha)
  have o := dd_is (V_nn (Int.le_of_lt ha))
  have lo := o.1.lo
  have nm := o.1.nml (by rw [o.2]; exact V_pos ha)
  have hpl : pl (V a) = (dd (V a)).e + ln (V a) := rfl
  have sp := st_pos (V a) n
  have e0 := st_pl (V a) n
  have q0 : 0 ≤ pl (V a) - n + 1075 := by omega
  refine ⟨?_, ?_, ?_, e0, q0⟩
  · refine (Int.le_ediv_iff_mul_le sp).2 ?_
    rw [Int.one_mul, e0]
    exact Int.le_trans (Fx.p_le (by omega)) p1
  · have : V a / st (V a) n < 10 ^ n := by
      refine (Int.ediv_lt_iff_lt_mul sp).2 ?_
      rw [e0, ← Int.pow_add]
      refine Int.lt_of_lt_of_le p2 (Fx.p_le (by omega))
    omega
  · rcases (show V a % st (V a) n = 0 ∨ 0 < V a % st (V a) n by have := (divS (U := V a) sp).2.1; omega) with c | c
    · exfalso
      obtain ⟨d1, _, _⟩ := divS (U := V a) sp
      rw [c, Int.add_zero] at d1
      have hv : dv (dd (V a)).ds * 10 ^ ((dd (V a)).e + 1075).toNat = V a := o.2
      have e1 : st (V a) n = 10 ^ (ln (V a) - n) * 10 ^ ((dd (V a)).e + 1075).toNat := by rw [e0, ← Int.pow_add]; congr 1; omega
      generalize V a / st (V a) n = z at d1
      have hv := hv.trans (d1.trans (show z * st (V a) n = z * 10 ^ (ln (V a) - n) * 10 ^ ((dd (V a)).e + 1075).toNat by rw [e1, Int.mul_assoc]))
      have hz := Int.eq_of_mul_eq_mul_right (by have := Fx.p_pos ((dd (V a)).e + 1075).toNat; omega) hv
      obtain ⟨q, hq⟩ : ∃ q, ln (V a) - n = q + 1 := ⟨ln (V a) - n - 1, by omega⟩
      rw [hq, Int.pow_succ] at hz
      have := nm.mod
      rw [hz, ← Int.mul_assoc] at this
      omega
    · exact c

theorem k_one (U S : Int) (k : Int) (h : k = k1 U S ∨ k = k2 U S) : k = U / S ∨ k = U / S + 1 := by
  rcases k_form U S with c | c <;> rcases h with g | g <;> omega

/-- Where the digits that are told lie. -/
theorem wn_room {a : Int} {n : Nat} {U : Int} (ha : 0 < a) (hn : 1 ≤ n) (h : wn a n = some U) : Fx.Nml (dd U).ds ∧ (dd U).ds.length ≤ n ∧ pl (V a) - n ≤ (dd U).e ∧ (dd U).e ≤ pl (V a) := by
  have up := wn_pos ha h
  have o := dd_is (Int.le_of_lt up)
  have nm := o.1.nml (by rw [o.2]; exact up)
  refine ⟨nm, ?_⟩
  rcases wn_form h with c | ⟨hl, c⟩
  · subst c
    have hl : ln (V a) ≤ n ∨ n < ln (V a) := by omega
    rcases hl with hl | hl
    · have hpl : pl (V a) = (dd (V a)).e + ln (V a) := rfl
      have := ln_pos (V_nn (Int.le_of_lt ha))
      exact ⟨hl, by omega, by omega⟩
    · exfalso
      unfold wn at h
      rw [if_neg (by omega)] at h
      have kr := k_room ha hn hl
      obtain ⟨d1, d2, d3⟩ := divS (U := V a) (st_pos (V a) n)
      have e1 : (V a / st (V a) n + 1) * st (V a) n = V a / st (V a) n * st (V a) n + st (V a) n := by rw [Int.add_mul, Int.one_mul]
      have : ∃ k, (k = k1 (V a) (st (V a) n) ∨ k = k2 (V a) (st (V a) n)) ∧ k * st (V a) n = V a := by
        split at h
        · exact ⟨_, .inl rfl, Option.some.inj h⟩
        · split at h
          · exact ⟨_, .inr rfl, Option.some.inj h⟩
          · exact absurd h (by simp)
      obtain ⟨k, hk, hk2⟩ := this
      rcases k_one _ _ _ hk with g | g <;> rw [g] at hk2 <;> omega
  · obtain ⟨r1, r2, r3, r4, r5⟩ := k_room ha hn hl
    obtain ⟨k, hk, hU⟩ : ∃ k, (k = k1 (V a) (st (V a) n) ∨ k = k2 (V a) (st (V a) n)) ∧ U = k * st (V a) n := by
      rcases c with c | ⟨_, c⟩
      · exact ⟨_, .inl rfl, c⟩
      · exact ⟨_, .inr rfl, c⟩
    have kb := k_one _ _ _ hk
    have d := dd_pow (k := k) (s := (pl (V a) - n + 1075).toNat) (n := n) (by omega) hn (by omega)
    rw [← r4, ← hU] at d
    refine ⟨d.1, by omega, ?_⟩
    obtain ⟨q1, q2, q3⟩ := place up
    obtain ⟨p1, p2, p3⟩ := place (V_pos ha)
    have hb : U ≤ 10 ^ (pl (V a) + 1075).toNat := by
      rw [hU, r4]
      have := Int.mul_le_mul_of_nonneg_right (show k ≤ 10 ^ n by omega) (Int.le_of_lt (Fx.p_pos (pl (V a) - n + 1075).toNat))
      rw [← Int.pow_add] at this
      refine Int.le_trans this (Fx.p_le (by omega))
    have hpu : pl U ≤ pl (V a) + 1 := by
      rcases (show pl U ≤ pl (V a) + 1 ∨ pl (V a) + 1 < pl U by omega) with g | g
      · exact g
      · have g1 : (pl U + 1074).toNat = (pl (V a) + 1075).toNat + ((pl U + 1074).toNat - (pl (V a) + 1075).toNat - 1) + 1 := by omega
        rw [g1, Int.pow_succ, Int.pow_add] at q1
        have z1 := Fx.p_pos (pl (V a) + 1075).toNat
        have z2 : (1 : Int) ≤ 10 ^ ((pl U + 1074).toNat - (pl (V a) + 1075).toNat - 1) := Fx.p_pos _
        have z3 := Int.mul_le_mul_of_nonneg_left z2 (Int.le_of_lt z1)
        omega
    have hpl : pl U = (dd U).e + ln U := rfl
    have := ln_pos (Int.le_of_lt up)
    omega

end Sh
end Go.Proofs.YtjkefcikepnbpaaGreatDoor

namespace Go.Proofs.YtjkefcikepnbpaaGreatDoor
open Go.RowKit Go.Deep
namespace Sh

theorem dg_of {xs : List Int} (h : Digs xs) : ∀ x ∈ xs, Sc.dg x = true := fun x hx => Sc.dg_iff.2 (h x hx)
theorem dv_head0 : ∀ (j : Nat) (xs : List Int), (∀ i, i < j → Sc.pk xs i = 48) → j ≤ xs.length → dv xs = dv (xs.drop j)
  | 0, xs, _, _ => by rw [List.drop_zero]
  | j + 1, [], _, h => by simp at h
  | j + 1, x :: xs, h, hl => by
    have hx : x = 48 := h 0 (by omega)
    rw [dv_cons, hx, Int.sub_self, Int.zero_mul, Int.zero_add, List.drop_succ_cons]
    exact dv_head0 j xs (fun i hi => h (i + 1) (by omega)) (by simpa using hl)

/-- The normal form's number. -/
theorem nrm_uv {xs : List Int} {q : Int} (hd : Digs xs) (hq : -1075 ≤ q) : Ok (Sc.nrm false xs q) ∧ uv (Sc.nrm false xs q) = dv xs * 10 ^ (q + 1075).toNat := by
  by_cases hz : Sc.lz xs = xs.length
  · rw [Sc.nrm_zero hz]
    refine ⟨⟨rfl, by show (-1075 : Int) ≤ 0; omega, .inl ⟨rfl, rfl⟩⟩, ?_⟩
    have e := dv_head0 (Sc.lz xs) xs (fun i hi => Sc.lz_at hi) (Sc.lz_le xs)
    rw [hz, List.drop_length] at e
    rw [uv_zero rfl, e, show dv [] = 0 from rfl, Int.zero_mul]
  · rw [Sc.nrm_pos hz]
    have lt := Sc.lz_tz hz
    have hdd : Digs (xs.drop (Sc.lz xs)) := fun d h => hd d (List.mem_of_mem_drop h)
    have hh : (xs.drop (Sc.lz xs)).getD 0 0 ≠ 48 := by
      have := Sc.lz_end xs
      have e := Sc.pk_drop xs (Sc.lz xs) 0
      rw [Nat.add_zero] at e
      unfold Sc.pk at e this
      rw [e]
      exact this
    have hlen : (xs.drop (Sc.lz xs)).length = xs.length - Sc.lz xs := List.length_drop
    have hv : 0 < dv (xs.drop (Sc.lz xs)) := by
      obtain ⟨n, hn⟩ : ∃ n, (xs.drop (Sc.lz xs)).length = n + 1 := ⟨xs.length - Sc.lz xs - 1, by omega⟩
      have := Fx.head_low hdd hn hh
      have := Fx.p_pos n
      omega
    obtain ⟨kp, nm, v⟩ := Fx.nml_take (ys := xs.drop (Sc.lz xs)) (k := xs.length - Sc.tz xs - Sc.lz xs) hdd hh (by omega) (fun i h1 h2 => by
      have e := Sc.pk_drop xs (Sc.lz xs) i
      unfold Sc.pk at e
      rw [e]
      exact Sc.tz_at (by omega) (by omega)) (fun h => by
      have e := Sc.pk_drop xs (Sc.lz xs) (xs.length - Sc.tz xs - Sc.lz xs - 1)
      have t := Sc.tz_end (ds := xs) (by omega)
      unfold Sc.pk at e t
      rw [e, show Sc.lz xs + (xs.length - Sc.tz xs - Sc.lz xs - 1) = xs.length - Sc.tz xs - 1 by omega]
      exact t) hv
    rw [hlen, show xs.length - Sc.lz xs - (xs.length - Sc.tz xs - Sc.lz xs) = Sc.tz xs by omega] at v
    refine ⟨⟨rfl, by show -1075 ≤ q + Sc.tz xs; omega, .inr nm⟩, ?_⟩
    show dv _ * 10 ^ (q + Sc.tz xs + 1075).toNat = _
    rw [dv_head0 (Sc.lz xs) xs (fun i hi => Sc.lz_at hi) (Sc.lz_le xs), ← v, show (q + (Sc.tz xs : Int) + 1075).toNat = Sc.tz xs + (q + 1075).toNat by omega, Int.pow_add, Int.mul_assoc]
theorem nrm_dd {xs : List Int} {q : Int} (hd : Digs xs) (hq : -1075 ≤ q) : Sc.nrm false xs q = dd (dv xs * 10 ^ (q + 1075).toNat) := by
  have h := nrm_uv hd hq
  rw [← h.2]
  exact h.1.is

theorem isdec {xs : List Int} {q : Int} (hd : Digs xs) (hn : xs ≠ []) (h0 : -1075 ≤ q) (h1 : q ≤ 100000) (hl : xs.length ≤ 100000) : Sc.IsDec xs q := ⟨hn, by omega, by omega, dg_of hd, fun _ => by have := Sc.tz_le xs; omega⟩

/-- A row's head and tail. -/
theorem dv_cut {xs : List Int} {n : Nat} : dv xs = dv (xs.take n) * 10 ^ (xs.length - n) + dv (xs.drop n) := by
  conv => lhs; rw [← List.take_append_drop n xs]
  rw [dv_append, List.length_drop]

/-- The tail against a half. -/
def gt5 (t : List Int) : Bool := decide (53 < t.getD 0 0 ∨ (t.getD 0 0 = 53 ∧ 1 < t.length))
theorem tail5 {t : List Int} (hd : Digs t) (hn : t ≠ []) (hl : t.getD (t.length - 1) 0 ≠ 48) : (gt5 t = true ↔ 10 ^ t.length < 2 * dv t) ∧ (t = [53] ↔ 10 ^ t.length = 2 * dv t) := by
  match t, hn with
  | x :: r, _ =>
    have hx := hd x (by simp)
    have hr : Digs r := fun d h => hd d (by simp [h])
    have b := dv_bd hr
    have e1 : (10 : Int) ^ (x :: r).length = 10 ^ r.length * 10 := by rw [List.length_cons, Int.pow_succ]
    have pp := Fx.p_pos r.length
    have g : (x :: r).getD 0 0 = x := rfl
    have rp : r ≠ [] → 0 < dv r := by
      intro c
      obtain ⟨n, hn⟩ : ∃ n, r.length = n + 1 := ⟨r.length - 1, by have := List.length_pos_iff.2 c; omega⟩
      have q := Fx.dv_mod hr hn
      rw [List.length_cons, hn] at hl
      have q2 := Fx.digs_getD hr (show n < r.length by omega)
      have q3 : (x :: r).getD (n + 1 + 1 - 1) 0 = r.getD n 0 := rfl
      rw [q3] at hl
      omega
    have rn : r = [] ∨ r ≠ [] := by by_cases c : r = []; exact .inl c; exact .inr c
    have rl : r ≠ [] → 1 < (x :: r).length := fun c => by have := List.length_pos_iff.2 c; simp; omega
    unfold gt5
    rw [e1, dv_cons, g, decide_eq_true_iff]
    obtain ⟨y, hy⟩ : ∃ y, x - 48 = y := ⟨_, rfl⟩
    rw [hy]
    have lo : y ≤ 4 → y * 10 ^ r.length ≤ 4 * 10 ^ r.length := fun c => Int.mul_le_mul_of_nonneg_right c (Int.le_of_lt pp)
    have hi : 6 ≤ y → 6 * 10 ^ r.length ≤ y * 10 ^ r.length := fun c => Int.mul_le_mul_of_nonneg_right c (Int.le_of_lt pp)
    have mi : y = 5 → y * 10 ^ r.length = 5 * 10 ^ r.length := fun c => by rw [c]
    rcases rn with c | c
    · subst c
      have z : dv [] = 0 := rfl
      simp only [List.length_cons, List.length_nil, z, Int.pow_zero] at *
      constructor
      · omega
      · constructor
        · intro q; simp at q; omega
        · intro q; rw [show x = 53 by omega]
    · have r1 := rp c
      have r2 := rl c
      generalize (10 : Int) ^ r.length = P at *
      generalize y * P = Y at *
      have ne : x :: r ≠ [53] := fun q => c (List.cons.inj q).2
      constructor
      · constructor
        · intro q
          rcases (show y = 5 ∨ 6 ≤ y by omega) with k | k
          · have := mi k; omega
          · have := hi k; omega
        · intro q
          rcases (show y ≤ 4 ∨ 5 ≤ y by omega) with k | k
          · have := lo k; omega
          · omega
      · constructor
        · intro q; exact absurd q ne
        · intro q
          exfalso
          rcases (show y ≤ 4 ∨ y = 5 ∨ 6 ≤ y by omega) with k | k | k
          · have := lo k; omega
          · have := mi k; omega
          · have := hi k; omega

/-- What within looks at: the head's number, the tail, the step. -/
theorem head_is {U : Int} {n : Nat} (h : 0 < U) (h1 : 1 ≤ n) (hn : n < ln U) : dv ((dd U).ds.take n) = U / st U n ∧ (decide (gt5 ((dd U).ds.drop n) = true ∨ ((dd U).ds.drop n = [53] ∧ dv ((dd U).ds.take n) % 2 = 1)) = upB U (st U n)) ∧ dv ((dd U).ds.take n) < 10 ^ n := by
  have o := dd_is (Int.le_of_lt h)
  have nm := o.1.nml (by rw [o.2]; exact h)
  have lo := o.1.lo
  have hv : dv (dd U).ds * 10 ^ ((dd U).e + 1075).toNat = U := o.2
  have hl : (dd U).ds.length = ln U := rfl
  have c := dv_cut (xs := (dd U).ds) (n := n)
  have td : Digs ((dd U).ds.drop n) := fun d q => nm.digs d (List.mem_of_mem_drop q)
  have tt : Digs ((dd U).ds.take n) := fun d q => nm.digs d (List.mem_of_mem_take q)
  have tn : (dd U).ds.drop n ≠ [] := by
    intro q
    have := congrArg List.length q
    rw [List.length_drop] at this
    simp at this
    omega
  have tl : ((dd U).ds.drop n).length = ln U - n := by rw [List.length_drop, hl]
  have tlast : ((dd U).ds.drop n).getD (((dd U).ds.drop n).length - 1) 0 ≠ 48 := by
    have e := Sc.pk_drop (dd U).ds n (((dd U).ds.drop n).length - 1)
    unfold Sc.pk at e
    rw [e, tl, show n + (ln U - n - 1) = (dd U).ds.length - 1 by omega]
    exact nm.last
  obtain ⟨t1, t2⟩ := tail5 td tn tlast
  have tb := dv_bd td
  rw [tl] at t1 t2 tb
  have es : st U n = 10 ^ (ln U - n) * 10 ^ ((dd U).e + 1075).toNat := by
    unfold st
    rw [← Int.pow_add]
    congr 1
    omega
  have p1 := Fx.p_pos (ln U - n)
  have p2 := Fx.p_pos ((dd U).e + 1075).toNat
  have eU : U = dv ((dd U).ds.take n) * st U n + dv ((dd U).ds.drop n) * 10 ^ ((dd U).e + 1075).toNat := by
    rw [hl] at c
    rw [es, ← Int.mul_assoc, ← Int.add_mul, ← c]
    exact hv.symm
  have hb := (dv_bd tt).2
  rw [List.length_take, hl, Nat.min_eq_left (by omega)] at hb
  generalize dv ((dd U).ds.take n) = H at *
  generalize dv ((dd U).ds.drop n) = R at *
  generalize (10 : Int) ^ ((dd U).e + 1075).toNat = Q at *
  generalize (10 : Int) ^ (ln U - n) = P at *
  have sp := st_pos U n
  have r0 : 0 ≤ R * Q := Int.mul_nonneg tb.1 (Int.le_of_lt p2)
  have r1 : R * Q < st U n := by rw [es]; exact Int.mul_lt_mul_of_pos_right tb.2 p2
  have hdv : U / st U n = H := by
    have g1 : H ≤ U / st U n := (Int.le_ediv_iff_mul_le sp).2 (by omega)
    have g2 : U / st U n < H + 1 := (Int.ediv_lt_iff_lt_mul sp).2 (by rw [Int.add_mul, Int.one_mul]; omega)
    omega
  have hmd : U % st U n = R * Q := by
    have := (divS (U := U) sp).1
    rw [hdv] at this
    omega
  refine ⟨hdv.symm, ?_, hb⟩
  unfold upB
  rw [hmd, hdv, es]
  congr 1
  have i1 : 10 ^ 0 * (P * Q) < 2 * (R * Q) ↔ P < 2 * R := by
    rw [show (2 : Int) * (R * Q) = 2 * R * Q by rw [Int.mul_assoc], Int.pow_zero, Int.one_mul]
    exact Int.mul_lt_mul_right p2
  have i2 : P * Q = 2 * (R * Q) ↔ P = 2 * R := by
    rw [show (2 : Int) * (R * Q) = 2 * R * Q by rw [Int.mul_assoc]]
    exact ⟨fun q => Int.eq_of_mul_eq_mul_right (by omega) q, fun q => by rw [q]⟩
  rw [Int.pow_zero, Int.one_mul] at i1
  rw [i1, i2, t1, t2]
end Sh
end Go.Proofs.YtjkefcikepnbpaaGreatDoor

namespace Go.Proofs.YtjkefcikepnbpaaGreatDoor
open Go Go.RowKit Go.Deep

theorem Two3.one {w w' : World} {v0 v1 v2 u0 u1 u2 : Value} (h : Two3 w w' v0 v1 v2 u0 u1 u2) (x : Value) : Two3 w (w'.setCell ⟨w.heap.size, 1, none⟩ x) v0 x v2 u0 u1 u2 :=
  ⟨h.1.setCell (p := ⟨w.heap.size, 1, none⟩) (Nat.le_refl _) x, set1 h.2.1 (by simp [Array.setIfInBounds]), h.2.2.far (by omega)⟩

set_option maxRecDepth 100000 in
theorem own_any (neg : Bool) (s : ByteArray) (e : Int) (w : World) (hs : s.size ≤ 281474976710656) :
    Calls Tryz.prog 62 #[decV neg s e] w fun r w' => r = .returned (decV neg s e) ∧ Below w.heap.size w w' := by
  have C := hid (fun wx => vclone_any s wx hs)
  have Z := hid (Two3.new w (.bool neg) (.string s) (.int .i64 e) (.bool false) (.string ⟨#[]⟩) (.int .i64 0))
  unfold decV
  clear hs
  go_enter Tryz.func62, Tryz.ntmps62
  go_wp2_with fail
  refine (C.out _).mono ?_
  rintro r w1 ⟨rfl, hB⟩
  have S := hid (Z.out.on hB)
  obtain ⟨⟨c0, c1, c2⟩, f0, f1, f2⟩ := S.out.2.1.cells
  obtain ⟨⟨d0, d1, d2⟩, g0, g1, g2⟩ := S.out.2.2.cells
  clear hB Z C
  go_wp2_with fail
  (try simp only [Exit.inBlock, Exit.then])
  refine bodyPost_ret (results_cell_row rfl _ _ (w.heap.size + 1) 25 _ (0, 0) _ rfl ((S.out.one _).putB _ _ _).2.2 Tryz.underlying25 rfl (by kernel_rfl)) rfl ?_
  exact ⟨rfl, ((S.out.one _).putB _ _ _).1⟩

theorem nrm_ds_len (neg : Bool) (ds : List Int) (e : Int) (h : ds.length ≤ 281474976710655) : (Sc.nrm neg ds e).ds.length ≤ 281474976710656 := by
  have := Sc.nrm_len neg ds e
  omega
end Go.Proofs.YtjkefcikepnbpaaGreatDoor

namespace Go.Proofs.YtjkefcikepnbpaaGreatDoor
open Go Go.RowKit Go.Deep

/-- What slim, and Norm, tell of a Dec. -/
def nmd (neg : Bool) (ds : List Int) (e : Int) : Sc.D := if Sc.IsDec ds e then Sc.nrm neg ds e else ⟨false, [], 0⟩
theorem isdec_n {ds : List Int} {e : Int} {neg : Bool} (h1 : ds ≠ []) (h2 : -1152921504606846976 ≤ e) (h3 : e ≤ 1152921504606846976) (h4 : ∀ i, i < ds.length → Sc.dg (Sc.pk ds i) = true) : Sc.IsDec ds e ↔ (Sc.nrm neg ds e).e ≤ 1152921504606846976 := by
  have h4' : ∀ x ∈ ds, Sc.dg x = true := by
    intro x hx
    obtain ⟨i, hi, rfl⟩ := List.mem_iff_getElem.1 hx
    have := h4 i hi
    simpa [Sc.pk, List.getD, hi] using this
  by_cases c : Sc.lz ds = ds.length
  · rw [Sc.nrm_zero c]
    constructor
    · intro _; show (0 : Int) ≤ _; omega
    · intro _; exact ⟨h1, h2, h3, h4', fun h => absurd c h⟩
  · rw [Sc.nrm_pos c]
    constructor
    · intro h; exact h.2.2.2.2 c
    · intro h; exact ⟨h1, h2, h3, h4', fun _ => h⟩

theorem Str.ne {s : ByteArray} {xs : List Int} (h : Str s xs) (hx : xs ≠ []) : s.toList ≠ [] ∧ (s.toList == []) = false ∧ s.toList.isEmpty = false := by
  have e1 : s.toList ≠ [] := by
    intro c
    apply hx
    rw [ByteArray.toList_eq] at c
    rw [← h, c]
    rfl
  exact ⟨e1, by rw [beq_eq_false_iff_ne]; exact e1, by rw [List.isEmpty_eq_false_iff]; exact e1⟩

/-- What slim tells. -/
def SlimTold (neg : Bool) (ds : List Int) (e : Int) (w : World) (r : Ending) (w' : World) : Prop := ∃ v, r = .returned (.tuple #[v, .bool (decide (Sc.IsDec ds e))]) ∧ DecIs v (nmd neg ds e) ∧ Below w.heap.size w w'

theorem Two3.drew {w w' : World} {v0 v1 v2 u0 u1 u2 : Value} (h : Two3 w w' v0 v1 v2 u0 u1 u2) (n : Nat) : Two3 w (w'.drewN n) v0 v1 v2 u0 u1 u2 := ⟨below_drewN h.1 n, h.2.1, h.2.2⟩

set_option maxRecDepth 100000 in
set_option maxHeartbeats 2000000 in
theorem slim_any (neg : Bool) (s : ByteArray) (xs : List Int) (e : Int) (w : World) (hs : Str s xs) (hn : xs.length ≤ 281474976710656) :
    Calls Tryz.prog 61 #[decV neg s e] w fun r w' => SlimTold neg xs e w r w' := by
  have ZF : Hid (¬ Sc.IsDec xs e → ∀ w', Below w.heap.size w w' → SlimTold neg xs e w (.returned (.tuple #[.agg #[.bool false, .string ⟨#[]⟩, .int .i64 0], .bool false])) w') := fun z w' b => ⟨_, by rw [decide_eq_false z], by unfold nmd; rw [if_neg z]; exact ⟨_, rfl, str_nil0⟩, b⟩
  have hsz := hs.size
  by_cases h1 : xs = []
  · have Z2 := hid (ZF.out fun c => c.1 h1)
    have hs0 : s = ⟨#[]⟩ := hs.inj (by rw [h1]; rfl)
    subst hs0
    clear hs h1 ZF hn
    unfold decV
    go_enter Tryz.func61, Tryz.ntmps61
    go_wp2_with fail
    (try simp only [Exit.inBlock, Exit.then])
    refine bodyPost_ret (results_row_tmp rfl _ _ (w.heap.size + 1) 25 _ (0, 0) _ rfl (Two3.new w _ _ _ _ _ _).2.2 Tryz.underlying25 rfl (by kernel_rfl)) rfl ?_
    exact Z2.out _ (Two3.new w _ _ _ _ _ _).1
  · obtain ⟨q1, q2, q3⟩ := hs.ne h1
    by_cases h2 : -1152921504606846976 ≤ e ∧ e ≤ 1152921504606846976
    · obtain ⟨e0, e1⟩ := h2
      have T := hid (fun wx => dtrim_any neg s xs e wx hs hn (by omega) (by omega))
      have ID : Hid ((∀ i, i < xs.length → Sc.dg (Sc.pk xs i) = true) → (Sc.IsDec xs e ↔ (Sc.nrm neg xs e).e ≤ 1152921504606846976)) := isdec_n h1 e0 e1
      have IN : Hid (∀ j, j < xs.length → Sc.dg (Sc.pk xs j) = false → ¬ Sc.IsDec xs e) := fun j hj hd c => by
        have := c.2.2.2.1 (Sc.pk xs j) (by simp [Sc.pk, List.getD, hj])
        rw [hd] at this; exact absurd this (by simp)
      have DG := hid (fun (j : Nat) (wx : World) => digit_any (Sc.pk xs j) wx (hs.atb j).1 (hs.atb j).2)
      have HS := hid hs
      have HN := hid hn
      have NE := hid (Sc.nrm_e neg xs e)
      clear hs hn h1
      unfold decV
      go_enter Tryz.func61, Tryz.ntmps61
      go_wp2_with fail
      go_loop [22] (fun c => ∃ j : Nat, c = .int .i64 j ∧ Hid (j ≤ xs.length ∧ ∀ i, i < j → Sc.dg (Sc.pk xs i) = true)) (fun c => match c with | .int _ j => xs.length - j.toNat | _ => 0)
      case atStart => exact ⟨0, rfl, Nat.zero_le _, fun i hi => by omega⟩
      case round =>
        obtain ⟨j, rfl, I⟩ := hrel
        have hjb : (j : Int) ≤ 281474976710656 := by have := I.out.1; have := HN.out; omega
        by_cases hj : j < xs.length
        · have hji : (j : Int) < (xs.length : Int) := by omega
          have hx := HS.out.pk j
          have D := hid (fun wx => DG.out j wx)
          cases hd : Sc.dg (Sc.pk xs j) with
          | true =>
            rw [hd] at D
            have I2 : Hid (j + 1 ≤ xs.length ∧ ∀ i, i < j + 1 → Sc.dg (Sc.pk xs i) = true) := ⟨by omega, fun i hi => by
              by_cases c : i = j
              · subst c; exact hd
              · exact I.out.2 i (by omega)⟩
            clear hd I
            go_wp2_with fail
            refine (D.out _).mono ?_
            rintro r w1 ⟨rfl, rfl⟩
            go_wp2_with fail
            go_round
            case rel => exact ⟨j + 1, by go_num, I2.out⟩
            case measure => simp; omega
          | false =>
            rw [hd] at D
            have Z2 := hid (ZF.out (IN.out j hj hd))
            clear hd
            go_wp2_with fail
            refine (D.out _).mono ?_
            rintro r w1 ⟨rfl, rfl⟩
            go_wp2_with fail
            (try simp only [Exit.inBlock, Exit.then])
            refine bodyPost_ret (results_row_tmp rfl _ _ (w.heap.size + 1) 25 _ (0, 0) _ rfl (Two3.new w _ _ _ _ _ _).2.2 Tryz.underlying25 rfl (by kernel_rfl)) rfl ?_
            exact Z2.out _ (Two3.new w _ _ _ _ _ _).1
        · have hji : ¬ (j : Int) < (xs.length : Int) := by omega
          have ID2 := hid (ID.out fun i hi => I.out.2 i (by omega))
          have Z := hid (Two3.new w (.bool neg) (.string s) (.int .i64 e) (.bool false) (.string ⟨#[]⟩) (.int .i64 0))
          clear I
          go_wp2_with fail
          refine (T.out _).mono ?_
          rintro r w1 ⟨v, rfl, ⟨t, hv, ht⟩, hB⟩
          unfold decV at hv
          subst hv
          have S := hid ((Z.out.on hB).putA (.bool (Sc.nrm neg xs e).neg) (.string t) (.int .i64 (Sc.nrm neg xs e).e))
          obtain ⟨⟨c0, c1, c2⟩, f0, f1, f2⟩ := (Z.out.on hB).2.1.cells
          obtain ⟨⟨d0, d1, d2⟩, g0, g1, g2⟩ := (Z.out.on hB).2.2.cells
          have HT := hid ht
          clear hB ht Z T
          by_cases hb : (Sc.nrm neg xs e).e ≤ 1152921504606846976
          · have isd := ID2.out.2 hb
            have GG : Hid (∀ w', Below w.heap.size w w' → SlimTold neg xs e w (.returned (.tuple #[.agg #[.bool (Sc.nrm neg xs e).neg, .string t, .int .i64 (Sc.nrm neg xs e).e], .bool true])) w') := fun w' b => ⟨_, by rw [decide_eq_true isd], by unfold nmd; rw [if_pos isd]; exact ⟨t, rfl, HT.out⟩, b⟩
            clear isd ID ID2 IN NE
            generalize Sc.nrm neg xs e = N at *
            go_wp2_with fail
            (try simp only [Exit.inBlock, Exit.then])
            refine bodyPost_ret (results_row_tmp rfl _ _ (w.heap.size + 1) 25 _ (0, 0) _ rfl (S.out.putB _ _ _).2.2 Tryz.underlying25 rfl (by kernel_rfl)) rfl ?_
            exact GG.out _ (S.out.putB _ _ _).1
          · have Z2 := hid (ZF.out fun c => hb (ID2.out.1 c))
            have hb2 : 1152921504606846976 < (Sc.nrm neg xs e).e := by omega
            clear ID ID2 IN NE
            generalize Sc.nrm neg xs e = N at *
            go_wp2_with fail
            (try simp only [Exit.inBlock, Exit.then])
            refine bodyPost_ret (results_row_tmp rfl _ _ (w.heap.size + 1) 25 _ (0, 0) _ rfl (S.out.putB _ _ _).2.2 Tryz.underlying25 rfl (by kernel_rfl)) rfl ?_
            exact Z2.out _ (S.out.putB _ _ _).1
    · have Z2 := hid (ZF.out fun c => h2 ⟨c.2.1, c.2.2.1⟩)
      rcases (show e < -1152921504606846976 ∨ (-1152921504606846976 ≤ e ∧ 1152921504606846976 < e) by omega) with he | ⟨he0, he⟩
      all_goals
        clear hs hn h1 ZF h2
        unfold decV
        go_enter Tryz.func61, Tryz.ntmps61
        go_wp2_with fail
        (try simp only [Exit.inBlock, Exit.then])
        refine bodyPost_ret (results_row_tmp rfl _ _ (w.heap.size + 1) 25 _ (0, 0) _ rfl (Two3.new w _ _ _ _ _ _).2.2 Tryz.underlying25 rfl (by kernel_rfl)) rfl ?_
        exact Z2.out _ (Two3.new w _ _ _ _ _ _).1
end Go.Proofs.YtjkefcikepnbpaaGreatDoor
