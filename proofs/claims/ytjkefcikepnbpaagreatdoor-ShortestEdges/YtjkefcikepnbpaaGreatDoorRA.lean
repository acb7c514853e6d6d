/-
  Texts put together: LNum3, LNum4, IKinds, LNearN, LEqD, Bare, ShA, BitLenW, SmallA, BlenIs, Shl, FShl, NToU, NSpread0, Small, QShift, QGuess, SubA, QTake.
-/
import Derived.Test.YtjkefcikepnbpaaGreatDoorLNum2
import Derived.Test.YtjkefcikepnbpaaGreatDoorIDec
import Derived.Test.YtjkefcikepnbpaaGreatDoorINum2
import Derived.Test.YtjkefcikepnbpaaGreatDoorFRow3
import Derived.Test.YtjkefcikepnbpaaGreatDoorWalk2a
import Derived.Test.YtjkefcikepnbpaaGreatDoorWalk5a
import Derived.Test.YtjkefcikepnbpaaGreatDoorMem
import Derived.Test.YtjkefcikepnbpaaGreatDoorLen
import Derived.Test.YtjkefcikepnbpaaGreatDoorNums
import Derived.Laws.Bits64b
import Derived.Lib.ItoaNum
import Derived.Test.YtjkefcikepnbpaaGreatDoorNMem
import Derived.BigRegion
import Derived.Test.YtjkefcikepnbpaaGreatDoorWalk5
import Derived.Test.YtjkefcikepnbpaaGreatDoorDiv1
import Derived.Test.YtjkefcikepnbpaaGreatDoorBits
import Derived.Shelf.Spec.BitsCarry
namespace Go.Proofs.YtjkefcikepnbpaaGreatDoor
open Go.RowKit Go.Deep
namespace Sh

theorem dg_of {xs : List Int} (h : Digs xs) : ∀ x ∈ xs, Sc.dg x = true := fun x hx => Sc.dg_iff.2 (h x hx)
theorem dv_head0 : ∀ (j : Nat) (xs : List Int), (∀ i, i < j → Sc.pk xs i = 48) → j ≤ xs.length → dv xs = dv (xs.drop j)
  | 0, xs, _, _ => by rw [List.drop_zero]
  | j + 1, [], _, h => by simp at h
  | j + 1, x :: xs, h, hl => by
    have hx : x = 48 := h 0 (by omega)
    rw [dv_cons, hx, Int.sub_self, Int.zero_mul, Int.zero_add, List.drop_succ_cons]
    exact dv_head0 j xs (fun i hi => h (i + 1) (by omega)) (by simpa using hl)

/-- The normal form's number. -/
theorem nrm_uv {xs : List Int} {q : Int} (hd : Digs xs) (hq : -1075 ≤ q) : Ok (Sc.nrm false xs q) ∧ uv (Sc.nrm false xs q) = dv xs * 10 ^ (q + 1075).toNat := by
  by_cases hz : Sc.lz xs = xs.length
  · rw [Sc.nrm_zero hz]
    refine ⟨⟨rfl, by show (-1075 : Int) ≤ 0; omega, .inl ⟨rfl, rfl⟩⟩, ?_⟩
    have e := dv_head0 (Sc.lz xs) xs (fun i hi => Sc.lz_at hi) (Sc.lz_le xs)
    rw [hz, List.drop_length] at e
    rw [uv_zero rfl, e, show dv [] = 0 from rfl, Int.zero_mul]
  · rw [Sc.nrm_pos hz]
    have lt := Sc.lz_tz hz
    have hdd : Digs (xs.drop (Sc.lz xs)) := fun d h => hd d (List.mem_of_mem_drop h)
    have hh : (xs.drop (Sc.lz xs)).getD 0 0 ≠ 48 := by
      have := Sc.lz_end xs
      have e := Sc.pk_drop xs (Sc.lz xs) 0
      rw [Nat.add_zero] at e
      unfold Sc.pk at e this
      rw [e]
      exact this
    have hlen : (xs.drop (Sc.lz xs)).length = xs.length - Sc.lz xs := List.length_drop
    have hv : 0 < dv (xs.drop (Sc.lz xs)) := by
      obtain ⟨n, hn⟩ : ∃ n, (xs.drop (Sc.lz xs)).length = n + 1 := ⟨xs.length - Sc.lz xs - 1, by omega⟩
      have := Fx.head_low hdd hn hh
      have := Fx.p_pos n
      omega
    obtain ⟨kp, nm, v⟩ := Fx.nml_take (ys := xs.drop (Sc.lz xs)) (k := xs.length - Sc.tz xs - Sc.lz xs) hdd hh (by omega) (fun i h1 h2 => by
      have e := Sc.pk_drop xs (Sc.lz xs) i
      unfold Sc.pk at e
      rw [e]
      exact Sc.tz_at (by omega) (by omega)) (fun h => by
      have e := Sc.pk_drop xs (Sc.lz xs) (xs.length - Sc.tz xs - Sc.lz xs - 1)
      have t := Sc.tz_end (ds := xs) (by omega)
      unfold Sc.pk at e t
      rw [e, show Sc.lz xs + (xs.length - Sc.tz xs - Sc.lz xs - 1) = xs.length - Sc.tz xs - 1 by omega]
      exact t) hv
    rw [hlen, show xs.length - Sc.lz xs - (xs.length - Sc.tz xs - Sc.lz xs) = Sc.tz xs by omega] at v
    refine ⟨⟨rfl, by show -1075 ≤ q + Sc.tz xs; omega, .inr nm⟩, ?_⟩
    show dv _ * 10 ^ (q + Sc.tz xs + 1075).toNat = _
    rw [dv_head0 (Sc.lz xs) xs (fun i hi => Sc.lz_at hi) (Sc.lz_le xs), ← v, show (q + (Sc.tz xs : Int) + 1075).toNat = Sc.tz xs + (q + 1075).toNat by omega, Int.pow_add, Int.mul_assoc]
theorem nrm_dd {xs : List Int} {q : Int} (hd : Digs xs) (hq : -1075 ≤ q) : Sc.nrm false xs q = dd (dv xs * 10 ^ (q + 1075).toNat) := by
  have h := nrm_uv hd hq
  rw [← h.2]
  exact h.1.is

theorem isdec {xs : List Int} {q : Int} (hd : Digs xs) (hn : xs ≠ []) (h0 : -1075 ≤ q) (h1 : q ≤ 100000) (hl : xs.length ≤ 100000) : Sc.IsDec xs q := ⟨hn, by omega, by omega, dg_of hd, fun _ => by have := Sc.tz_le xs; omega⟩

/-- A row's head and tail. -/
theorem dv_cut {xs : List Int} {n : Nat} : dv xs = dv (xs.take n) * 10 ^ (xs.length - n) + dv (xs.drop n) := by
  conv => lhs; rw [← List.take_append_drop n xs]
  rw [dv_append, List.length_drop]

/-- The tail against a half. -/
def gt5 (t : List Int) : Bool := decide (53 < t.getD 0 0 ∨ (t.getD 0 0 = 53 ∧ 1 < t.length))
theorem tail5 {t : List Int} (hd : Digs t) (hn : t ≠ []) (hl : t.getD (t.length - 1) 0 ≠ 48) : (gt5 t = true ↔ 10 ^ t.length < 2 * dv t) ∧ (t = [53] ↔ 10 ^ t.length = 2 * dv t) := by
  match t, hn with
  | x :: r, _ =>
    have hx := hd x (by simp)
    have hr : Digs r := fun d h => hd d (by simp [h])
    have b := dv_bd hr
    have e1 : (10 : Int) ^ (x :: r).length = 10 ^ r.length * 10 := by rw [List.length_cons, Int.pow_succ]
    have pp := Fx.p_pos r.length
    have g : (x :: r).getD 0 0 = x := rfl
    have rp : r ≠ [] → 0 < dv r := by
      intro c
      obtain ⟨n, hn⟩ : ∃ n, r.length = n + 1 := ⟨r.length - 1, by have := List.length_pos_iff.2 c; omega⟩
      have q := Fx.dv_mod hr hn
      rw [List.length_cons, hn] at hl
      have q2 := Fx.digs_getD hr (show n < r.length by omega)
      have q3 : (x :: r).getD (n + 1 + 1 - 1) 0 = r.getD n 0 := rfl
      rw [q3] at hl
      omega
    have rn : r = [] ∨ r ≠ [] := by by_cases c : r = []; exact .inl c; exact .inr c
    have rl : r ≠ [] → 1 < (x :: r).length := fun c => by have := List.length_pos_iff.2 c; simp; omega
    unfold gt5
    rw [e1, dv_cons, g, decide_eq_true_iff]
    obtain ⟨y, hy⟩ : ∃ y, x - 48 = y := ⟨_, rfl⟩
    rw [hy]
    have lo : y ≤ 4 → y * 10 ^ r.length ≤ 4 * 10 ^ r.length := fun c => Int.mul_le_mul_of_nonneg_right c (Int.le_of_lt pp)
    have hi : 6 ≤ y → 6 * 10 ^ r.length ≤ y * 10 ^ r.length := fun c => Int.mul_le_mul_of_nonneg_right c (Int.le_of_lt pp)
    have mi : y = 5 → y * 10 ^ r.length = 5 * 10 ^ r.length := fun c => by rw [c]
    rcases rn with c | c
    · subst c
      have z : dv [] = 0 := rfl
      simp only [List.length_cons, List.length_nil, z, Int.pow_zero] at *
      constructor
      · omega
      · constructor
        · intro q; simp at q; omega
        · intro q; rw [show x = 53 by omega]
    · have r1 := rp c
      have r2 := rl c
      generalize (10 : Int) ^ r.length = P at *
      generalize y * P = Y at *
      have ne : x :: r ≠ [53] := fun q => c (List.cons.inj q).2
      constructor
      · constructor
        · intro q
          rcases (show y = 5 ∨ 6 ≤ y by omega) with k | k
          · have := mi k; omega
          · have := hi k; omega
        · intro q
          rcases (show y ≤ 4 ∨ 5 ≤ y by omega) with k | k
          · have := lo k; omega
          · omega
      · constructor
        · intro q; exact absurd q ne
        · intro q
          exfalso
          rcases (show y ≤ 4 ∨ y = 5 ∨ 6 ≤ y by omega) with k | k | k
          · have := lo k; omega
          · have := mi k; omega
          · have := hi k; omega

/-- What within looks at: the head's number, the tail, the step. -/
theorem head_is {U : Int} {n : Nat} (h : 0 < U) (h1 : 1 ≤ n) (hn : n < ln U) : dv ((dd U).ds.take n) = U / st U n ∧ (decide (gt5 ((dd U).ds.drop n) = true ∨ ((dd U).ds.drop n = [53] ∧ dv ((dd U).ds.take n) % 2 = 1)) = upB U (st U n)) ∧ dv ((dd U).ds.take n) < 10 ^ n := by
  have o := dd_is (Int.le_of_lt h)
  have nm := o.1.nml (by rw [o.2]; exact h)
  have lo := o.1.lo
  have hv : dv (dd U).ds * 10 ^ ((dd U).e + 1075).toNat = U := o.2
  have hl : (dd U).ds.length = ln U := rfl
  have c := dv_cut (xs := (dd U).ds) (n := n)
  have td : Digs ((dd U).ds.drop n) := fun d q => nm.digs d (List.mem_of_mem_drop q)
  have tt : Digs ((dd U).ds.take n) := fun d q => nm.digs d (List.mem_of_mem_take q)
  have tn : (dd U).ds.drop n ≠ [] := by
    intro q
    have := congrArg List.length q
    rw [List.length_drop] at this
    simp at this
    omega
  have tl : ((dd U).ds.drop n).length = ln U - n := by rw [List.length_drop, hl]
  have tlast : ((dd U).ds.drop n).getD (((dd U).ds.drop n).length - 1) 0 ≠ 48 := by
    have e := Sc.pk_drop (dd U).ds n (((dd U).ds.drop n).length - 1)
    unfold Sc.pk at e
    rw [e, tl, show n + (ln U - n - 1) = (dd U).ds.length - 1 by omega]
    exact nm.last
  obtain ⟨t1, t2⟩ := tail5 td tn tlast
  have tb := dv_bd td
  rw [tl] at t1 t2 tb
  have es : st U n = 10 ^ (ln U - n) * 10 ^ ((dd U).e + 1075).toNat := by
    unfold st
    rw [← Int.pow_add]
    congr 1
    omega
  have p1 := Fx.p_pos (ln U - n)
  have p2 := Fx.p_pos ((dd U).e + 1075).toNat
  have eU : U = dv ((dd U).ds.take n) * st U n + dv ((dd U).ds.drop n) * 10 ^ ((dd U).e + 1075).toNat := by
    rw [hl] at c
    rw [es, ← Int.mul_assoc, ← Int.add_mul, ← c]
    exact hv.symm
  have hb := (dv_bd tt).2
  rw [List.length_take, hl, Nat.min_eq_left (by omega)] at hb
  generalize dv ((dd U).ds.take n) = H at *
  generalize dv ((dd U).ds.drop n) = R at *
  generalize (10 : Int) ^ ((dd U).e + 1075).toNat = Q at *
  generalize (10 : Int) ^ (ln U - n) = P at *
  have sp := st_pos U n
  have r0 : 0 ≤ R * Q := Int.mul_nonneg tb.1 (Int.le_of_lt p2)
  have r1 : R * Q < st U n := by rw [es]; exact Int.mul_lt_mul_of_pos_right tb.2 p2
  have hdv : U / st U n = H := by
    have g1 : H ≤ U / st U n := (Int.le_ediv_iff_mul_le sp).2 (by omega)
    have g2 : U / st U n < H + 1 := (Int.ediv_lt_iff_lt_mul sp).2 (by rw [Int.add_mul, Int.one_mul]; omega)
    omega
  have hmd : U % st U n = R * Q := by
    have := (divS (U := U) sp).1
    rw [hdv] at this
    omega
  refine ⟨hdv.symm, ?_, hb⟩
  unfold upB
  rw [hmd, hdv, es]
  congr 1
  have i1 : 10 ^ 0 * (P * Q) < 2 * (R * Q) ↔ P < 2 * R := by
    rw [show (2 : Int) * (R * Q) = 2 * R * Q by rw [Int.mul_assoc], Int.pow_zero, Int.one_mul]
    exact Int.mul_lt_mul_right p2
  have i2 : P * Q = 2 * (R * Q) ↔ P = 2 * R := by
    rw [show (2 : Int) * (R * Q) = 2 * R * Q by rw [Int.mul_assoc]]
    exact ⟨fun q => Int.eq_of_mul_eq_mul_right (by omega) q, fun q => by rw [q]⟩
  rw [Int.pow_zero, Int.one_mul] at i1
  rw [i1, i2, t1, t2]
end Sh
end Go.Proofs.YtjkefcikepnbpaaGreatDoor

namespace Go.Proofs.YtjkefcikepnbpaaGreatDoor
open Go.RowKit Go.Deep
namespace Sh

/-- One less than the least number of figures. -/
def IsN (a : Int) (f : Nat) : Prop := f ≤ 16 ∧ (∀ i, i < f → (wn a (i + 1)).isSome = false) ∧ (f < 16 → (wn a (f + 1)).isSome = true)
theorem isn_ex (a : Int) : ∃ f, IsN a f := by
  have key : ∀ k, k ≤ 16 → (∃ f, IsN a f) ∨ (∀ i, i < k → (wn a (i + 1)).isSome = false) := by
    intro k
    induction k with
    | zero => intro _; exact .inr fun i h => by omega
    | succ k ih =>
      intro hk
      rcases ih (by omega) with c | c
      · exact .inl c
      · cases h : (wn a (k + 1)).isSome with
        | true => exact .inl ⟨k, by omega, c, fun _ => h⟩
        | false =>
          refine .inr fun i hi => ?_
          rcases (show i < k ∨ i = k by omega) with q | q
          · exact c i q
          · rw [q]; exact h
  rcases key 16 (by omega) with c | c
  · exact c
  · exact ⟨16, by omega, c, fun h => by omega⟩
theorem IsN.one {a : Int} {f g : Nat} (h : IsN a f) (k : IsN a g) : f = g := by
  rcases Nat.lt_trichotomy f g with c | c | c
  · have h1 := h.2.2 (by have := k.1; omega)
    rw [k.2.1 f c] at h1
    exact absurd h1 (by decide)
  · exact c
  · have h1 := k.2.2 (by have := h.1; omega)
    rw [h.2.1 g c] at h1
    exact absurd h1 (by decide)
noncomputable def n0 (a : Int) : Nat := Classical.choose (isn_ex a)
theorem n0_is (a : Int) : IsN a (n0 a) := Classical.choose_spec (isn_ex a)
/-- What a search by halving tells. -/
theorem isn_of {a : Int} {f : Nat} (ha : 0 ≤ a) (hf : f ≤ 16) (h1 : 0 < f → (wn a f).isSome = false) (h2 : f < 16 → (wn a (f + 1)).isSome = true) : f = n0 a := by
  refine IsN.one ⟨hf, fun i hi => ?_, h2⟩ (n0_is a)
  have up : ∀ k : Nat, (wn a (i + 1)).isSome = true → (wn a (i + 1 + k)).isSome = true := by
    intro k
    induction k with
    | zero => exact fun h => h
    | succ k ih => exact fun h => wn_mono ha (ih h)
  cases h : (wn a (i + 1)).isSome with
  | false => rfl
  | true =>
    have q := up (f - (i + 1)) h
    rw [show i + 1 + (f - (i + 1)) = f by omega, h1 (by omega)] at q
    exact absurd q (by decide)
theorem ln0 : ln (V 0) = 1 := by rw [V_zero, ln, dd_zero]; rfl
theorem wn_zero {n : Nat} (h : 1 ≤ n) : wn 0 n = some 0 := by
  unfold wn
  rw [if_pos (by rw [ln0]; exact h), V_zero]
theorem wn_17 {a : Int} (ha : 0 ≤ a) : (wn a 17).isSome = true := by
  rcases (show a = 0 ∨ 0 < a by omega) with c | c
  · rw [c, wn_zero (by omega)]; rfl
  · exact wn17 c
/-- What Digits tells. -/
noncomputable def dgt (a : Int) : Int := (wn a (n0 a + 1)).getD 0
theorem wn_dgt {a : Int} (ha : 0 ≤ a) : wn a (n0 a + 1) = some (dgt a) := by
  have h : (wn a (n0 a + 1)).isSome = true := by
    obtain ⟨h1, h2, h3⟩ := n0_is a
    rcases (show n0 a < 16 ∨ n0 a = 16 by omega) with c | c
    · exact h3 c
    · rw [c]; exact wn_17 ha
  obtain ⟨U, hU⟩ := Option.isSome_iff_exists.1 h
  unfold dgt
  rw [hU]
  rfl
theorem n0_le (a : Int) : n0 a ≤ 16 := (n0_is a).1
theorem dgt_nn {a : Int} (ha : 0 ≤ a) : 0 ≤ dgt a := by
  rcases (show a = 0 ∨ 0 < a by omega) with c | c
  · have := wn_dgt ha
    subst c
    rw [wn_zero (by omega)] at this
    have := Option.some.inj this
    omega
  · exact Int.le_of_lt (wn_pos c (wn_dgt ha))
theorem dgt_zero : dgt 0 = 0 := by
  have := wn_dgt (Int.le_refl 0)
  rw [wn_zero (by omega)] at this
  exact (Option.some.inj this).symm

/-- Closed ones. -/
theorem dd_eq {D : Sc.D} {U : Int} (h : Ok D) (k : uv D = U) : dd U = D := by rw [← k]; exact h.is.symm
theorem ok_of (xs : List Int) (e : Int) (h1 : (xs.all fun x => decide (48 ≤ x) && decide (x ≤ 57)) = true) (h2 : xs ≠ []) (h3 : xs.getD 0 0 ≠ 48) (h4 : xs.getD (xs.length - 1) 0 ≠ 48) (h5 : -1075 ≤ e) : Ok ⟨false, xs, e⟩ :=
  ⟨rfl, h5, .inr ⟨fun d hd => by have := List.all_eq_true.1 h1 d hd; simpa using this, h2, h3, h4⟩⟩
theorem wn_at {a : Int} {n : Nat} {D : Sc.D} {U S : Int} (hD : dd (V a) = D) (hl : n < D.ds.length) (hS : 10 ^ (D.e + ((D.ds.length : Int) - n) + 1075).toNat = S) (h1 : inB a (k1 (V a) S * S) = true) (hU : k1 (V a) S * S = U) : wn a n = some U := by
  have e1 : ln (V a) = D.ds.length := by rw [ln, hD]
  have e2 : st (V a) n = S := by rw [st, e1, hD, hS]
  unfold wn
  rw [if_neg (by omega), e2, if_pos h1, hU]
theorem wn_not {a : Int} {n : Nat} {D : Sc.D} {S : Int} (hD : dd (V a) = D) (hl : n < D.ds.length) (hS : 10 ^ (D.e + ((D.ds.length : Int) - n) + 1075).toNat = S) (h1 : inB a (k1 (V a) S * S) = false) (h2 : inB a (k2 (V a) S * S) = false) : wn a n = none := by
  have e1 : ln (V a) = D.ds.length := by rw [ln, hD]
  have e2 : st (V a) n = S := by rw [st, e1, hD, hS]
  unfold wn
  rw [if_neg (by omega), e2, if_neg (by rw [h1]; decide), if_neg (by rw [h2]; decide)]
theorem wn_all {a : Int} {n : Nat} {D : Sc.D} (hD : dd (V a) = D) (hl : D.ds.length ≤ n) : wn a n = some (V a) := by
  have e1 : ln (V a) = D.ds.length := by rw [ln, hD]
  unfold wn
  rw [if_pos (by omega)]

/-- The exact digits of the doubles next to 0.1 and 1/3; of 2.5. -/
def tenth : List Int := [49,48,48,48,48,48,48,48,48,48,48,48,48,48,48,48,48,53,53,53,49,49,49,53,49,50,51,49,50,53,55,56,50,55,48,50,49,49,56,49,53,56,51,52,48,52,53,52,49,48,49,53,54,50,53]
def third : List Int := [51,51,51,51,51,51,51,51,51,51,51,51,51,51,51,51,49,52,56,50,57,54,49,54,50,53,54,50,52,55,51,57,48,57,57,50,57,51,57,52,55,50,49,57,56,52,56,54,51,50,56,49,50,53]
def threes : List Int := [51,51,51,51,51,51,51,51,51,51,51,51,51,51,51,51]
set_option maxRecDepth 100000 in
theorem dd01 : dd (V 4591870180066957722) = ⟨false, tenth, -55⟩ := dd_eq (ok_of _ _ (by decide +kernel) (by decide +kernel) (by decide +kernel) (by decide +kernel) (by decide)) (by decide +kernel)
set_option maxRecDepth 100000 in
theorem dd13 : dd (V 4599676419421066581) = ⟨false, third, -54⟩ := dd_eq (ok_of _ _ (by decide +kernel) (by decide +kernel) (by decide +kernel) (by decide +kernel) (by decide)) (by decide +kernel)
set_option maxRecDepth 100000 in
theorem dd25 : dd (V 4612811918334230528) = ⟨false, [50, 53], -1⟩ := dd_eq (ok_of _ _ (by decide +kernel) (by decide +kernel) (by decide +kernel) (by decide +kernel) (by decide)) (by decide +kernel)
theorem wn01 : wn 4591870180066957722 1 = some (10 ^ 1074) := wn_at (S := 10 ^ 1074) dd01 (by decide +kernel) (by decide +kernel) (by decide +kernel) (by decide +kernel)
theorem wn13 : wn 4599676419421066581 16 = some (3333333333333333 * 10 ^ 1059) := wn_at (S := 10 ^ 1059) dd13 (by decide +kernel) (by decide +kernel) (by decide +kernel) (by decide +kernel)
theorem wn25 : wn 4612811918334230528 1 = none := wn_not (S := 10 ^ 1075) dd25 (by decide +kernel) (by decide +kernel) (by decide +kernel) (by decide +kernel)
theorem wn25b : wn 4612811918334230528 2 = some (V 4612811918334230528) := wn_all dd25 (by decide +kernel)
theorem n001 : n0 4591870180066957722 = 0 := (isn_of (by decide) (by decide) (fun h => absurd h (by decide)) (fun _ => by rw [show 0 + 1 = 1 from rfl, wn01]; rfl)).symm
theorem n025 : n0 4612811918334230528 = 1 := (isn_of (by decide) (by decide) (fun _ => by rw [wn25]; rfl) (fun _ => by rw [show 1 + 1 = 2 from rfl, wn25b]; rfl)).symm
theorem dgt01 : dgt 4591870180066957722 = 10 ^ 1074 := by rw [dgt, n001, show 0 + 1 = 1 from rfl, wn01]; rfl
theorem dgt25 : dgt 4612811918334230528 = V 4612811918334230528 := by rw [dgt, n025, show 1 + 1 = 2 from rfl, wn25b]; rfl
set_option maxRecDepth 100000 in
theorem ddt01 : dd (10 ^ 1074) = ⟨false, [49], -1⟩ := dd_eq (ok_of _ _ (by decide +kernel) (by decide +kernel) (by decide +kernel) (by decide +kernel) (by decide)) (by decide +kernel)
set_option maxRecDepth 100000 in
theorem ddt13 : dd (3333333333333333 * 10 ^ 1059) = ⟨false, threes, -16⟩ := dd_eq (ok_of _ _ (by decide +kernel) (by decide +kernel) (by decide +kernel) (by decide +kernel) (by decide)) (by decide +kernel)
theorem in01 : inB 4591870180066957722 (10 ^ 1074) = true := wn_in (by decide) wn01
end Sh
end Go.Proofs.YtjkefcikepnbpaaGreatDoor

/-
  What Decode tells, by the bits without the sign.
-/
namespace Go.Proofs.YtjkefcikepnbpaaGreatDoor
open Go Go.RowKit Go.Deep

namespace Ie
theorem dec_kinds (d : Int) : ∀ r, d % 9223372036854775808 = r →
    (cls d = 0 ∧ dm d = 0 ∧ de d = 0 ∧ r = 0) ∨ (cls d = 1 ∧ dm d = r ∧ de d = -1074 ∧ 0 < r ∧ r < 4503599627370496) ∨ (cls d = 2 ∧ dm d = man r ∧ de d = (ex r : Int) - 1074 ∧ 4503599627370496 ≤ r ∧ r < 9218868437227405312) ∨
    (cls d = 3 ∧ dm d = 0 ∧ de d = 0 ∧ r = 9218868437227405312) ∨ (cls d = 4 ∧ dm d = r - 9218868437227405312 ∧ de d = 0 ∧ 9218868437227405312 < r ∧ r < 9223372036854775808) := by
  intro r hr
  have hf : fld d = r / 4503599627370496 := by simp only [fld]; omega
  have hy : d % 4503599627370496 = r % 4503599627370496 := by omega
  have hm : dm d = if cls d = 2 then 4503599627370496 + r % 4503599627370496 else if cls d = 1 ∨ cls d = 4 then r % 4503599627370496 else 0 := by rw [dm, hy]
  have he : de d = if cls d = 2 then r / 4503599627370496 - 1075 else if cls d = 1 then -1074 else 0 := by rw [de, hf]
  have hc : cls d = if r / 4503599627370496 = 0 then (if r % 4503599627370496 = 0 then 0 else 1) else if r / 4503599627370496 = 2047 then (if r % 4503599627370496 = 0 then 3 else 4) else 2 := by rw [cls, hf, hy]
  by_cases a : r / 4503599627370496 = 0
  · by_cases b : r % 4503599627370496 = 0
    · rw [if_pos a, if_pos b] at hc
      left; rw [hm, he, hc]; exact ⟨rfl, rfl, rfl, by omega⟩
    · rw [if_pos a, if_neg b] at hc
      right; left; rw [hm, he, hc]; exact ⟨rfl, show r % 4503599627370496 = r by omega, rfl, by omega, by omega⟩
  · by_cases a2 : r / 4503599627370496 = 2047
    · by_cases b : r % 4503599627370496 = 0
      · rw [if_neg a, if_pos a2, if_pos b] at hc
        right; right; right; left; rw [hm, he, hc]; exact ⟨rfl, rfl, rfl, by omega⟩
      · rw [if_neg a, if_pos a2, if_neg b] at hc
        right; right; right; right; rw [hm, he, hc]; exact ⟨rfl, show r % 4503599627370496 = _ by omega, rfl, by omega, by omega⟩
    · rw [if_neg a, if_neg a2] at hc
      right; right; left; rw [hm, he, hc]
      refine ⟨rfl, ?_, ?_, by omega, by omega⟩
      · show 4503599627370496 + r % 4503599627370496 = man r
        rw [man, if_neg (by omega)]
      · show r / 4503599627370496 - 1075 = (ex r : Int) - 1074
        rw [ex]; omega
end Ie

namespace Ie
/-- The whole part of a finite double's value. -/
def whp (r : Int) : Int := vl r / 2 ^ 1075

theorem whp_low (r : Int) (k : Nat) (h : (ex r : Int) + k = 1074) : whp r = man r / 2 ^ k := by
  have e1 : vl r = man r * 2 ^ (ex r + 1) := by rw [vl, Nm.two_succ]; ac_rfl
  have e2 : (2 : Int) ^ 1075 = 2 ^ k * 2 ^ (ex r + 1) := by rw [← Nm.two_add]; congr 1; omega
  rw [whp, e1, e2, Int.mul_ediv_mul_of_pos_left _ _ (Nm.two_pos _)]

theorem whp_high (r : Int) (k : Nat) (h : (ex r : Int) = 1074 + k) : whp r = man r * 2 ^ k ∧ vl r = whp r * 2 ^ 1075 := by
  have e1 : vl r = man r * 2 ^ k * 2 ^ 1075 := by
    have e0 : (2 : Int) ^ 1075 = 2 * 2 ^ 1074 := Nm.two_succ 1074
    rw [vl, show ex r = k + 1074 by omega, Nm.two_add, e0]
    generalize (2 : Int) ^ 1074 = P
    generalize (2 : Int) ^ k = Q
    ac_rfl
  have e2 : whp r = man r * 2 ^ k := by rw [whp, e1, Int.mul_ediv_cancel _ (by have := Nm.two_pos 1075; omega)]
  exact ⟨e2, by rw [e2]; exact e1⟩

theorem whp_zero : whp 0 = 0 := by rw [whp, vl_zero, Int.zero_ediv]

theorem shr_min (m : Int) (k : Nat) (h0 : 0 ≤ m) (h1 : m < 9007199254740992) : m / 2 ^ min k 64 = m / 2 ^ k := by
  rcases Nat.le_total k 64 with h | h
  · rw [Nat.min_eq_left h]
  · rw [Nat.min_eq_right h]
    have e53 : (2 : Int) ^ 53 = 9007199254740992 := by decide
    have g1 := Nm.two_mono (show 53 ≤ k by omega)
    have g2 := Nm.two_mono (show 53 ≤ 64 by omega)
    rw [Int.ediv_eq_zero_of_lt h0 (by omega), Int.ediv_eq_zero_of_lt h0 (by omega)]
end Ie
end Go.Proofs.YtjkefcikepnbpaaGreatDoor

namespace Go.Proofs.YtjkefcikepnbpaaGreatDoor
open Go.RowKit Go.Deep
namespace Sh

theorem five_room : (9007199254740992 : Nat) * 5 ^ 1074 < 10 ^ 800 := by decide +kernel
theorem F5_room : 9007199254740992 * Fx.F5 < 10 ^ 800 := by
  have := Int.ofNat_lt.2 five_room
  unfold Fx.F5
  generalize 800 = a, 1074 = b at this ⊢
  rw [Int.natCast_mul, Int.natCast_pow, Int.natCast_pow] at this
  exact this
theorem F5_cut {i : Nat} (h : i ≤ 1074) : Fx.F5 = 5 ^ i * 5 ^ (1074 - i) := by
  unfold Fx.F5
  rw [← Int.pow_add]
  congr 1
  omega
theorem p5_pos (k : Nat) : (0 : Int) < 5 ^ k := Int.pow_pos (by omega)
theorem p5_le {i : Nat} (h : i ≤ 1074) : (5 : Int) ^ (1074 - i) ≤ Fx.F5 := by
  rw [F5_cut h]
  have h1 : (1 : Int) ≤ 5 ^ i := p5_pos i
  have := Int.mul_le_mul_of_nonneg_right h1 (Int.le_of_lt (p5_pos (1074 - i)))
  rwa [Int.one_mul] at this
theorem ten25 (i : Nat) : (10 : Int) ^ i = 2 ^ i * 5 ^ i := by rw [← Int.mul_pow]; rfl

/-- The exact digits of a double are at most 800. -/
theorem ex_short {m e E : Int} {xs : List Int} (h : Fx.Ex m e xs E) (hm : 0 < m) (m1 : m < 9007199254740992) (e1 : e ≤ 971) : xs.length ≤ 800 := by
  have r := h.room hm m1 e1
  rcases (show -491 ≤ E ∨ E < -491 by omega) with c | c
  · omega
  have nm := h.nml hm
  have eq := h.eq hm
  have lo := h.lo
  obtain ⟨i, hi⟩ : ∃ i : Nat, (E + 1074).toNat = i := ⟨_, rfl⟩
  obtain ⟨j, hj⟩ : ∃ j : Nat, (e + 1074).toNat = j := ⟨_, rfl⟩
  have i1 : i ≤ 1073 := by omega
  rw [hi, hj, ten25, F5_cut (show i ≤ 1074 by omega)] at eq
  have A : dv xs * 2 ^ i = m * 2 ^ j * 5 ^ (1074 - i) := by
    apply Int.eq_of_mul_eq_mul_right (Int.ne_of_gt (p5_pos i))
    calc dv xs * 2 ^ i * 5 ^ i = dv xs * (2 ^ i * 5 ^ i) := by rw [Int.mul_assoc]
      _ = m * 2 ^ j * (5 ^ i * 5 ^ (1074 - i)) := eq
      _ = m * 2 ^ j * 5 ^ (1074 - i) * 5 ^ i := by rw [Int.mul_comm (5 ^ i), Int.mul_assoc (m * 2 ^ j)]
  obtain ⟨q, hq⟩ : ∃ q : Nat, 1074 - i = q + 1 := ⟨1073 - i, by omega⟩
  rw [hq] at A
  have two_pos : ∀ k : Nat, (0 : Int) < 2 ^ k := fun k => Int.pow_pos (by omega)
  rcases Nat.lt_or_ge i j with cj | cj
  · exfalso
    obtain ⟨k, hk⟩ : ∃ k : Nat, j = i + (k + 1) := ⟨j - i - 1, by omega⟩
    rw [hk, Int.pow_add] at A
    have B : dv xs = m * 2 ^ k * 5 ^ q * 10 := by
      apply Int.eq_of_mul_eq_mul_right (Int.ne_of_gt (two_pos i))
      rw [A, Int.pow_succ, Int.pow_succ]
      simp only [Int.mul_comm, Int.mul_left_comm, Int.mul_assoc]
      rw [show (10 : Int) = 2 * 5 by rfl]
      simp only [Int.mul_comm, Int.mul_left_comm, Int.mul_assoc]
    exact nm.mod (by rw [B]; exact Int.mul_emod_left _ _)
  · obtain ⟨k, hk⟩ : ∃ k : Nat, i = j + k := ⟨i - j, by omega⟩
    have B : dv xs * 2 ^ k = m * 5 ^ (q + 1) := by
      apply Int.eq_of_mul_eq_mul_right (Int.ne_of_gt (two_pos j))
      rw [hk, Int.pow_add] at A
      calc dv xs * 2 ^ k * 2 ^ j = dv xs * (2 ^ j * 2 ^ k) := by rw [Int.mul_comm (2 ^ j), Int.mul_assoc]
        _ = m * 2 ^ j * 5 ^ (q + 1) := A
        _ = m * 5 ^ (q + 1) * 2 ^ j := by rw [Int.mul_assoc, Int.mul_assoc, Int.mul_comm (2 ^ j)]
    have d0 : 0 ≤ dv xs := (dv_bd nm.digs).1
    have le1 : dv xs ≤ dv xs * 2 ^ k := by
      have h1 : (1 : Int) ≤ 2 ^ k := two_pos k
      have := Int.mul_le_mul_of_nonneg_left h1 d0
      rwa [Int.mul_one] at this
    have le2 : m * 5 ^ (q + 1) ≤ 9007199254740992 * Fx.F5 := by
      have a : (5 : Int) ^ (q + 1) ≤ Fx.F5 := by rw [← hq]; exact p5_le (by omega)
      exact Int.le_trans (Int.mul_le_mul_of_nonneg_left a (by omega)) (Int.mul_le_mul_of_nonneg_right (by omega) (Int.le_of_lt Fx.F5_pos))
    have up : dv xs < 10 ^ 800 := by
      have := F5_room
      generalize (10 : Int) ^ 800 = T at *
      omega
    obtain ⟨n, hn⟩ := nm.len
    have low := Fx.head_low nm.digs hn nm.head
    rcases Nat.lt_or_ge n 800 with z | z
    · omega
    · exfalso
      have : (10 : Int) ^ 800 ≤ 10 ^ n := by
        obtain ⟨t, rfl⟩ : ∃ t, n = 800 + t := ⟨n - 800, by omega⟩
        rw [Int.pow_add]
        have h1 : (1 : Int) ≤ 10 ^ t := Fx.p_pos t
        have h2 : (0 : Int) ≤ 10 ^ 800 := Int.le_of_lt (Fx.p_pos 800)
        generalize (10 : Int) ^ 800 = T at *
        have := Int.mul_le_mul_of_nonneg_left h1 h2
        rwa [Int.mul_one] at this
      generalize (10 : Int) ^ 800 = T at *
      omega

/-- The exact digits' number is the double's. -/
theorem ex_V {d E : Int} {xs : List Int} (h : Fx.Ex (Ie.dm d) (Ie.de d) xs E) (hc : Ie.cls d < 3) (ha : 0 < d % 9223372036854775808) : dv xs * 10 ^ (E + 1075).toNat = V (d % 9223372036854775808) ∧ 0 < Ie.dm d := by
  have key : Ie.dm d = Ie.man (d % 9223372036854775808) ∧ (Ie.de d + 1074).toNat = Ie.ex (d % 9223372036854775808) ∧ 0 < Ie.dm d := by
    rcases Ie.dec_kinds d _ rfl with ⟨_, _, _, c⟩ | ⟨_, b, c, e, f⟩ | ⟨_, b, c, e, f⟩ | ⟨c, _⟩ | ⟨c, _⟩
    · omega
    · rw [b, c]
      refine ⟨?_, ?_, e⟩
      · rw [Ie.man, if_pos f]
      · unfold Ie.ex
        omega
    · rw [b, c]
      refine ⟨rfl, by omega, ?_⟩
      unfold Ie.man
      split <;> omega
    · omega
    · omega
  obtain ⟨k1, k2, k3⟩ := key
  have eq := h.eq k3
  have lo := h.lo
  refine ⟨?_, k3⟩
  rw [k2, k1] at eq
  rw [show (E + 1075).toNat = (E + 1074).toNat + 1 by omega, Int.pow_succ, ← Int.mul_assoc, eq, V, Ie.vl, T5, Fx.F5]
  generalize Ie.man (d % 9223372036854775808) = M
  generalize (2 : Int) ^ Ie.ex (d % 9223372036854775808) = K
  rw [show (5 : Int) ^ 1075 = 5 ^ 1074 * 5 from Int.pow_succ 5 1074]
  generalize (5 : Int) ^ 1074 = Q
  rw [show (10 : Int) = 2 * 5 by rfl]
  simp only [Int.mul_comm, Int.mul_left_comm, Int.mul_assoc]

/-- A neighbour in the last place, and how far it lies. -/
theorem near_cmp {a e f : Int} {xs ys : List Int} {r : Int} {t1 t2 : Nat} (ha : 0 < a) (hx : xs = (dd (dgt a)).ds) (he : e = (dd (dgt a)).e) (hV : dv ys * 10 ^ (f + 1075).toNat = V a) (hf : -1075 ≤ f)
    (h1 : e - min e f = (t1 : Int)) (h2 : f - min e f = (t2 : Int)) (hr : r = dv xs + 1 ∨ r = dv xs - 1) (hi : inB a (r * 10 ^ (e + 1075).toNat) = true) :
    (dv xs * 10 ^ t1 - dv ys * 10 ^ t2).natAbs ≤ (r * 10 ^ t1 - dv ys * 10 ^ t2).natAbs ∧ ((dv xs * 10 ^ t1 - dv ys * 10 ^ t2).natAbs = (r * 10 ^ t1 - dv ys * 10 ^ t2).natAbs → dv xs % 2 = 0) := by
  have wd := wn_dgt (Int.le_of_lt ha)
  have up := wn_pos ha wd
  have o := dd_is (Int.le_of_lt up)
  have eU : dv xs * 10 ^ (e + 1075).toNat = dgt a := by rw [hx, he]; exact o.2
  have el : -1075 ≤ e := by rw [he]; exact o.1.lo
  obtain ⟨s, hs⟩ : ∃ s : Nat, (min e f + 1075).toNat = s := ⟨_, rfl⟩
  have p1 : (10 : Int) ^ (e + 1075).toNat = 10 ^ t1 * 10 ^ s := by rw [← Int.pow_add]; congr 1; omega
  have p2 : (10 : Int) ^ (f + 1075).toNat = 10 ^ t2 * 10 ^ s := by rw [← Int.pow_add]; congr 1; omega
  have W : r * 10 ^ (e + 1075).toNat = dgt a + 10 ^ ((dd (dgt a)).e + 1075).toNat ∨ r * 10 ^ (e + 1075).toNat = dgt a - 10 ^ ((dd (dgt a)).e + 1075).toNat := by
    rw [← he, ← eU]
    rcases hr with q | q
    · left; rw [q, Int.add_mul, Int.one_mul]
    · right; rw [q, Int.sub_mul, Int.one_mul]
  have key := wn_near ha (by omega) wd W hi
  rw [← hx] at key
  have d1 : dgt a - V a = (dv xs * 10 ^ t1 - dv ys * 10 ^ t2) * 10 ^ s := by rw [← eU, ← hV, p1, p2, Int.sub_mul, Int.mul_assoc, Int.mul_assoc]
  have d2 : r * 10 ^ (e + 1075).toNat - V a = (r * 10 ^ t1 - dv ys * 10 ^ t2) * 10 ^ s := by rw [← hV, p1, p2, Int.sub_mul, Int.mul_assoc, Int.mul_assoc]
  rw [d1, d2, Int.natAbs_mul, Int.natAbs_mul] at key
  have sp : 0 < ((10 : Int) ^ s).natAbs := Int.natAbs_pos.2 (Int.ne_of_gt (Fx.p_pos s))
  refine ⟨Nat.le_of_mul_le_mul_right key.1 sp, fun q => key.2 (by rw [q])⟩
/-- Where the shortest digits lie. -/
theorem dgt_room {a : Int} (h0 : 0 < a) (h1 : a < 9218868437227405312) : Fx.Nml (dd (dgt a)).ds ∧ (dd (dgt a)).ds.length ≤ 17 ∧ -400 ≤ (dd (dgt a)).e ∧ (dd (dgt a)).e ≤ 400 := by
  have r := wn_room h0 (by omega) (wn_dgt (Int.le_of_lt h0))
  have p := V_place h0 h1
  have n := n0_le a
  exact ⟨r.1, by omega, by omega, by omega⟩
end Sh
end Go.Proofs.YtjkefcikepnbpaaGreatDoor

namespace Go.Proofs.YtjkefcikepnbpaaGreatDoor
open Go Go.RowKit Go.Deep

theorem leq_dec (a : Bool) (s : ByteArray) (e : Int) (w : World) : (Op.equalIn 10000 25 (.agg #[.bool a, .string s, .int .i64 e]) (.agg #[.bool a, .string s, .int .i64 e])).run Tryz.prog w = .ok true w := by
  have u3 := Tryz.underlying3
  have a3 := Tryz.isAgg3
  have z3 := Tryz.sizeOf3
  have u4 := Tryz.underlying4
  have a4 := Tryz.isAgg4
  have z4 := Tryz.sizeOf4
  have u9 := Tryz.underlying9
  have a9 := Tryz.isAgg9
  have z9 := Tryz.sizeOf9
  have hS : Tryz.prog.underlying 25 = some (.struct (Tryz.prog.fieldsOf 25)) := by kernel_rfl
  rw [show (10000 : Nat) = 9999 + 1 from rfl, run_equalIn_struct w 9999 25 _ _ hS (by kernel_rfl)]
  simp only [Program.fieldsOf, Tryz.underlying25]
  go_simp

end Go.Proofs.YtjkefcikepnbpaaGreatDoor

namespace Go.Proofs.YtjkefcikepnbpaaGreatDoor
open Go.RowKit Go.Deep

/-- Behind j limbs of a * m + c: what is in the block, and the carry beyond, is T; from limb j on the block is 0. -/
def MaInv (g k : Nat) (w : World) (T : Int) (j : Nat) (c : Int) (os : List Int) (wr : World) : Prop :=
  AddInv g k w T j c os wr ∧ (0 ≤ c ∧ c < 18446744073709551616) ∧ ∀ i, j ≤ i → os.getD i 0 = 0

theorem MaInv.step {g k : Nat} {w : World} {T : Int} {j : Nat} {c : Int} {os : List Int} {wr : World} (h : MaInv g k w T j c os wr) (hj : j < k) {x s c' : Int}
    (hs0 : 0 ≤ s ∧ s < 18446744073709551616) (hc0 : 0 ≤ c' ∧ c' < 18446744073709551616) (hs : s + 18446744073709551616 * c' = x + c) :
    MaInv g k w (T + Nm.pw j * x) (j + 1) c' (os.set j s) (wr.setCell ⟨g, j, none⟩ (.int .u64 s)) := by
  obtain ⟨⟨h1, h2, h3, h4, h5, h6⟩, h7, h8⟩ := h
  have hz := h8 j (Nat.le_refl _)
  refine ⟨⟨h1.set j s, by simpa using h2, h3.set j hs0.1 hs0.2, Nm.add_step (by omega) (by omega) h4, h5.setCell (Nat.le_refl _) _, by simpa [World.setCell] using h6⟩, hc0, fun i hi => ?_⟩
  rw [Nm.getD_set _ _ _ _ (by omega), if_neg (by omega)]
  exact h8 i (by omega)

theorem getD_replicate (n i : Nat) : (List.replicate n (0 : Int)).getD i 0 = 0 := by
  simp only [List.getD, List.getElem?_replicate]
  split <;> rfl

/-- Below block g nothing has turned, and block g holds k limbs of T. -/
def Made (g k : Nat) (T : Int) (w w' : World) : Prop := ∃ os, Own w' g os ∧ os.length = k ∧ Nm.Limbs os ∧ Nm.val os = T ∧ Below g w w'

end Go.Proofs.YtjkefcikepnbpaaGreatDoor

namespace Go.Proofs.YtjkefcikepnbpaaGreatDoor
open Go.RowKit Go.Deep

namespace Sh
theorem wrap_mod (x : Int) : IntKind.u64.wrap x = x % 18446744073709551616 := by rw [IntKind.wrap_u64]

/-- Digits that don't meet: 'or' is a sum. -/
theorem or_sum (hi c : Int) (s : Nat) (h0 : 0 ≤ hi) (hc0 : 0 ≤ c) (hc : c < 2 ^ s) (h1 : hi * 2 ^ s < 18446744073709551616) (h2 : c < 18446744073709551616) : bits .or .u64 (hi * 2 ^ s) c = hi * 2 ^ s + c := by
  obtain ⟨a, rfl⟩ := Int.eq_ofNat_of_zero_le h0
  obtain ⟨b, rfl⟩ := Int.eq_ofNat_of_zero_le hc0
  have hP : (2 : Int) ^ s = ((2 ^ s : Nat) : Int) := by simp
  rw [hP] at hc h1 ⊢
  have hb : b < 2 ^ s := by omega
  rw [← Int.natCast_mul] at h1 ⊢
  have h := bits_or_u64_nat (a * 2 ^ s) b (by omega) (by omega)
  rw [h, Nat.mul_comm a, ← Nat.two_pow_add_eq_or_of_lt hb a]
  omega

theorem split64 (r : Nat) (hr : r ≤ 63) : (2 : Int) ^ r * 2 ^ (64 - r) = 18446744073709551616 := by
  rw [← Nm.two_add, show r + (64 - r) = 64 by omega, Nm.two_64]

/-- One limb moved up by r binary digits, with what came up from below: the limb s, and what goes on. -/
theorem up (x sp : Int) (r : Nat) (hr : r ≤ 63) (x0 : 0 ≤ x) (x1 : x < 18446744073709551616) (s0 : 0 ≤ sp) (s1 : sp < 2 ^ r) :
    ∃ A s sp', IntKind.u64.wrap (x * 2 ^ r) = A ∧ bits .or .u64 A sp = s ∧ x / 2 ^ (64 - r) = sp' ∧ (0 ≤ s ∧ s < 18446744073709551616) ∧ (0 ≤ sp' ∧ sp' < 2 ^ r) ∧ Hid (s + 18446744073709551616 * sp' = x * 2 ^ r + sp) := by
  have hP := Nm.two_pos r
  have hQ := Nm.two_pos (64 - r)
  have hPQ := split64 r hr
  obtain ⟨P, hPe⟩ : ∃ P : Int, 2 ^ r = P := ⟨_, rfl⟩
  obtain ⟨Q, hQe⟩ : ∃ Q : Int, 2 ^ (64 - r) = Q := ⟨_, rfl⟩
  have d1 := Int.emod_add_mul_ediv x Q
  have d2 := Int.emod_nonneg x (show Q ≠ 0 by omega)
  have d3 := Int.emod_lt_of_pos x (show 0 < Q by omega)
  have a0 : 0 ≤ x / Q := Int.ediv_nonneg x0 (by omega)
  rw [hPe] at hP s1 hPQ
  rw [hQe] at hQ hPQ
  have a1 : x / Q < P := by
    rw [Int.ediv_lt_iff_lt_mul hQ, hPQ]
    exact x1
  have a4 : x * P = x % Q * P + 18446744073709551616 * (x / Q) := by
    have : (x % Q + Q * (x / Q)) * P = x * P := by rw [d1]
    rw [Int.add_mul, Int.mul_right_comm, Int.mul_comm Q P, hPQ] at this
    omega
  have a5 : (x % Q + 1) * P ≤ Q * P := Int.mul_le_mul_of_nonneg_right (by omega) (by omega)
  rw [Int.add_mul, Int.one_mul, Int.mul_comm Q P, hPQ] at a5
  have a6 : 0 ≤ x % Q * P := Int.mul_nonneg d2 (by omega)
  have hA : IntKind.u64.wrap (x * P) = x % Q * P := by rw [wrap_mod]; omega
  have hO := or_sum (x % Q) sp r d2 s0 (by rw [hPe]; exact s1) (by rw [hPe]; omega) (by omega)
  rw [hPe] at hO
  rw [hPe, hQe]
  exact ⟨_, _, _, hA, hO, rfl, by omega, ⟨a0, a1⟩, show _ = _ by omega⟩
end Sh
end Go.Proofs.YtjkefcikepnbpaaGreatDoor

namespace Go.Proofs.YtjkefcikepnbpaaGreatDoor
open Go.RowKit Go.Deep

/-- The number of binary digits. -/
def blen (zs : List Int) : Int := if Nm.tsize zs = 0 then 0 else ((Nm.tsize zs : Int) - 1) * 64 + Lib.bitLen (zs.getD (Nm.tsize zs - 1) 0).toNat

theorem blen_trim (zs : List Int) (t : Nat) (ht : Nm.tsize zs = t + 1) : blen zs = (t : Int) * 64 + Lib.bitLen ((Nm.trim zs).getD t 0).toNat := by
  have e : (Nm.trim zs).getD t 0 = zs.getD t 0 := by rw [Nm.trim, Nm.getD_take, if_pos (by omega)]
  rw [blen, if_neg (by omega), e, ht]
  simp

theorem retI {a b : Int} (h : a = b) : Ending.returned (.int .i64 a) = .returned (.int .i64 b) := by rw [h]

set_option maxRecDepth 100000 in
set_option maxHeartbeats 1000000 in
theorem bitLen_any (p : Option Addr) (n cap : Nat) (zs : List Int) (w : World) (ha : Arg w p n cap zs) :
    Calls Tryz.prog 77 #[.slice p n cap] w fun e w' => e = .returned (.int .i64 (blen zs)) ∧ w' = w := by
  obtain ⟨a1, a2, a3, a4, a5⟩ := ha
  have tl := Nm.tsize_le zs
  by_cases h0 : Nm.tsize zs = 0
  · have h0' : ((Nm.tsize zs : Int) == 0) = true := by simp [h0]
    have E : Hid (blen zs = 0) := by rw [Hid, blen, if_pos h0]
    clear h0 tl
    go_enter Tryz.func77, Tryz.ntmps77
    go_wp2_with fail
    refine (trimmed_any p n cap zs _ a1 a2 (by omega) a4).mono ?_
    rintro e w' ⟨rfl, rfl⟩
    go_wp2_with fail
    go_ret
    exact ⟨retI E.out.symm, rfl⟩
  · obtain ⟨t, ht⟩ : ∃ t, Nm.tsize zs = t + 1 := ⟨Nm.tsize zs - 1, by omega⟩
    have T1 := trimmed_any p n cap zs w a1 a2 (by omega) a4
    rw [ht] at T1
    have h0' : ((t : Int) + 1 == 0) = false := by rw [beq_eq_false_iff_ne]; omega
    have E := hid (blen_trim zs t ht)
    have L := hid ((Nm.trim_length zs).trans ht)
    obtain ⟨b, off, rfl, hc⟩ : ∃ b off, p = some ⟨b, off, none⟩ ∧ w.cell? ⟨b, off + t, none⟩ = some (.int .u64 ((Nm.trim zs).getD t 0)) := by
      have l := L.out
      rcases a4.trim with h | ⟨b, off, hp, h⟩
      · rw [h] at l
        simp at l
      · exact ⟨b, off, hp, h t (by omega)⟩
    obtain ⟨x, X⟩ : ∃ x, Hid (x = (Nm.trim zs).getD t 0) := ⟨_, rfl⟩
    rw [← X.out] at hc
    have hx0 := a5.trim.at t
    rw [← X.out] at hx0
    obtain ⟨hx0, hx1⟩ := hx0
    have E2 : Hid (blen zs = (t : Int) * 64 + Lib.bitLen x.toNat) := by rw [Hid, X.out]; exact E.out
    obtain ⟨l, hl⟩ : ∃ l, Lib.bitLen x.toNat = l := ⟨_, rfl⟩
    have hl64 : l ≤ 64 := by rw [← hl]; exact bitLen_small _ (by omega)
    have hl64' : (l : Int) ≤ 64 := by omega
    have L64 := len64 x w hx0 hx1
    rw [hl] at L64 E2
    have HT := hid T1
    have HL := hid L64
    have ht44 : (t : Int) < 17592186044416 := by omega
    clear T1 L64 hl E X h0 ht tl a1 a2 a4 a5 L
    go_enter Tryz.func77, Tryz.ntmps77
    go_wp2_with fail
    refine HT.out.mono ?_
    rintro e w' ⟨rfl, rfl⟩
    go_wp2_with fail
    refine HL.out.mono ?_
    rintro e w' ⟨rfl, rfl⟩
    go_wp2_with fail
    go_ret
    exact ⟨retI E2.out.symm, rfl⟩
end Go.Proofs.YtjkefcikepnbpaaGreatDoor

namespace Go.Proofs.YtjkefcikepnbpaaGreatDoor
open Go.RowKit Go.Deep

theorem chain {B : Nat} {w w1 w2 : World} (h : Below B w w1) (k : Below w1.heap.size w1 w2) (hB : B ≤ w.heap.size) : Below B w w2 := h.trans (k.mono (by have := h.size; omega))

theorem Arg.tl {w : World} {p : Option Addr} {n cap : Nat} {zs : List Int} (h : Arg w p n cap zs) : Nm.tsize zs ≤ n := by have := Nm.tsize_le zs; have := h.1; omega

/-- The number of an answer's limbs, by the number itself. -/
theorem Ans.len {B : Nat} {w : World} {p : Option Addr} {ys zs : List Int} {n : Int} (h : Ans B w p ys n) (hz : Nm.Limbs zs) (hv : n = Nm.val zs) : ys.length = Nm.tsize zs := by
  rw [← h.2.2.1]
  exact Nm.tsize_congr h.2.1 hz (h.2.2.2.1.trans hv)
end Go.Proofs.YtjkefcikepnbpaaGreatDoor

namespace Go.Proofs.YtjkefcikepnbpaaGreatDoor
open Go.RowKit Go.Deep

/-- What BitLen tells. -/
theorem blen_is (zs : List Int) (hz : Nm.Limbs zs) : ∃ L : Nat, blen zs = (L : Int) ∧ Nm.BLen (Nm.val zs) L ∧ L ≤ 64 * Nm.tsize zs ∧ (0 < Nm.tsize zs → 64 * Nm.tsize zs < L + 64) := by
  by_cases h0 : Nm.tsize zs = 0
  · have hv := (Nm.tsize_zero_iff hz).1 h0
    exact ⟨0, by rw [blen, if_pos h0]; rfl, ⟨by rw [hv]; decide, fun _ => rfl, fun h => by omega⟩, by omega, fun h => by omega⟩
  · obtain ⟨t, ht⟩ : ∃ t, Nm.tsize zs = t + 1 := ⟨Nm.tsize zs - 1, by omega⟩
    have hx := hz.at t
    have hx0 := Nm.tsize_top zs (by omega)
    rw [show Nm.tsize zs - 1 = t by omega] at hx0
    obtain ⟨n, hn⟩ := Int.eq_ofNat_of_zero_le hx.1
    have hb := Lib.bitLenAux_bounds 64 n (by simpa using (show n < 18446744073709551616 by omega)) (by omega)
    rw [show Lib.bitLenAux 64 n = Lib.bitLen n from rfl] at hb
    have hs := bitLen_small n (by omega)
    obtain ⟨l, hl⟩ : ∃ l, Lib.bitLen n = l := ⟨_, rfl⟩
    rw [hl] at hb hs
    have e1 : ((2 ^ (l - 1) : Nat) : Int) = (2 : Int) ^ (l - 1) := by simp
    have e2 : ((2 ^ l : Nat) : Int) = (2 : Int) ^ l := by simp
    refine ⟨64 * t + l, ?_, Nm.blen_at zs t l hz ht hb.1 (by omega) (by omega), by omega, fun _ => by omega⟩
    rw [blen, if_neg h0, show Nm.tsize zs - 1 = t by omega, hn, Int.toNat_natCast, hl, ht]
    omega
end Go.Proofs.YtjkefcikepnbpaaGreatDoor

namespace Go.Proofs.YtjkefcikepnbpaaGreatDoor
open Go.RowKit Go.Deep

theorem ret_two {p : Option Addr} {a b : Nat} (h : a = b) : Ending.returned (.tuple #[.slice p a a, .int .i64 0]) = .returned (.tuple #[.slice p b b, .int .i64 0]) := by rw [h]

theorem lshift_ok (p : Option Addr) (n cap : Nat) (zs : List Int) (k : Int) (w : World) (ha : Arg w p n cap zs) (tz : Nm.tsize zs ≤ 4096) (hk : 0 ≤ k) :
    Calls Tryz.prog 76 #[.slice p n cap, .int .i64 k] w fun e w' => e = .returned (.tuple #[.slice p (Nm.tsize zs) (Nm.tsize zs), .int .i64 0]) ∧ w' = w := by
  obtain ⟨a1, a2, a3, a4, a5⟩ := ha
  have HT := hid (limited_ok p n cap zs w a1 a2 (by omega) a4 tz)
  go_enter Tryz.func76, Tryz.ntmps76
  go_wp2_with fail
  refine HT.out.mono ?_
  rintro e w' ⟨rfl, rfl⟩
  go_wp2_with fail
  go_ret2
  exact ⟨rfl, rfl⟩

theorem lshift_neg (p : Option Addr) (n cap : Nat) (zs : List Int) (k : Int) (w : World) (ha : Arg w p n cap zs) (tz : Nm.tsize zs ≤ 4096) (hk : k < 0) :
    Calls Tryz.prog 76 #[.slice p n cap, .int .i64 k] w fun e w' => e = .returned (.tuple #[.slice none 0 0, .int .i64 1]) ∧ w' = w := by
  obtain ⟨a1, a2, a3, a4, a5⟩ := ha
  have HT := hid (limited_ok p n cap zs w a1 a2 (by omega) a4 tz)
  go_enter Tryz.func76, Tryz.ntmps76
  go_wp2_with fail
  refine HT.out.mono ?_
  rintro e w' ⟨rfl, rfl⟩
  go_wp2_with fail
  go_ret2
  exact ⟨rfl, rfl⟩

theorem bitLen_n (L : Nat) (p : Option Addr) (n cap : Nat) (zs : List Int) (w : World) (ha : Arg w p n cap zs) (hb : blen zs = (L : Int)) :
    Calls Tryz.prog 77 #[.slice p n cap] w fun e w' => e = .returned (.int .i64 (L : Int)) ∧ w' = w := by
  rw [← hb]
  exact bitLen_any p n cap zs w ha

theorem Arg.trim' {w : World} {p : Option Addr} {n cap : Nat} {zs : List Int} (h : Arg w p n cap zs) : Arg w p (Nm.tsize zs) (Nm.tsize zs) (Nm.trim zs) :=
  ⟨Nm.trim_length zs, Nat.le_refl _, by have := h.tl; have := h.2.1; have := h.2.2.1; omega, h.2.2.2.1.trim, h.2.2.2.2.trim⟩

theorem shl_neg (p : Option Addr) (n cap : Nat) (zs : List Int) (k : Int) (w : World) (ha : Arg w p n cap zs) (tz : Nm.tsize zs ≤ 4096) (hk : k < 0) :
    Calls Tryz.prog 58 #[.slice p n cap, .int .i64 k] w fun e w' => e = .returned (.tuple #[.slice none 0 0, .int .i64 1]) ∧ w' = w := by
  have HT := hid (lshift_neg p n cap zs k w ha tz hk)
  go_enter Tryz.func58, Tryz.ntmps58
  go_wp2_with fail
  refine HT.out.mono ?_
  rintro e w' ⟨rfl, rfl⟩
  go_wp2_with fail
  go_ret2
  exact ⟨rfl, rfl⟩

set_option maxRecDepth 100000 in
set_option maxHeartbeats 1000000 in
/-- What is too big anyway isn't worked out. -/
theorem shl_big (p : Option Addr) (n cap : Nat) (zs : List Int) (k : Int) (L : Nat) (w : World) (ha : Arg w p n cap zs) (tz : Nm.tsize zs ≤ 4096) (hk : 0 ≤ k) (hk1 : k ≤ 9223372036854775807) (hz : 0 < Nm.tsize zs) (hL : blen (Nm.trim zs) = (L : Int)) (hb : 262144 < (L : Int) + k) :
    Calls Tryz.prog 58 #[.slice p n cap, .int .i64 k] w fun e w' => e = .returned (.tuple #[.slice none 0 0, .int .i64 2]) ∧ w' = w := by
  have HT := hid (lshift_ok p n cap zs k w ha tz hk)
  have HB := hid (bitLen_n L p _ _ (Nm.trim zs) w ha.trim' hL)
  have hz' : ((Nm.tsize zs : Int) == 0) = false := by rw [beq_eq_false_iff_ne]; omega
  have hb' : 262144 - k < (L : Int) := by omega
  clear hL ha hb
  go_enter Tryz.func58, Tryz.ntmps58
  go_wp2_with fail
  refine HT.out.mono ?_
  rintro e w' ⟨rfl, rfl⟩
  go_wp2_with fail
  refine HB.out.mono ?_
  rintro e w' ⟨rfl, rfl⟩
  go_wp2_with fail
  go_ret2
  exact ⟨rfl, rfl⟩

theorem shl_zero (p : Option Addr) (n cap : Nat) (zs : List Int) (k : Int) (w : World) (ha : Arg w p n cap zs) (hk : 0 ≤ k) (hz : Nm.tsize zs = 0) :
    Calls Tryz.prog 58 #[.slice p n cap, .int .i64 k] w fun e w' => e = .returned (.tuple #[.slice none 0 0, .int .i64 0]) ∧ w' = w := by
  have HT := lshift_ok p n cap zs k w ha (by omega) hk
  rw [hz] at HT
  have H := hid HT
  clear HT hz ha
  go_enter Tryz.func58, Tryz.ntmps58
  go_wp2_with fail
  refine H.out.mono ?_
  rintro e w' ⟨rfl, rfl⟩
  go_wp2_with fail
  go_ret2
  exact ⟨rfl, rfl⟩

set_option maxRecDepth 100000 in
set_option maxHeartbeats 1000000 in
theorem shl_ok (p : Option Addr) (n cap : Nat) (zs : List Int) (kk : Int) (k : Nat) (L : Nat) (w : World) (ha : Arg w p n cap zs) (tz : Nm.tsize zs ≤ 4096) (hkk : kk = (k : Int)) (hz : 0 < Nm.tsize zs) (hL : blen (Nm.trim zs) = (L : Int)) (hb : L + k ≤ 262144) :
    Calls Tryz.prog 58 #[.slice p n cap, .int .i64 kk] w fun e w' => ∃ r os, e = .returned (.tuple #[.slice r (List.length os) (List.length os), .int .i64 0]) ∧ Ans w.heap.size w' r os (Nm.val zs * 2 ^ k) ∧ Below w.heap.size w w' := by
  have hk0 : 0 ≤ kk := by omega
  have T1 := lshift_ok p n cap zs kk w ha tz hk0
  have B1 := bitLen_n L p _ _ (Nm.trim zs) w ha.trim' hL
  obtain ⟨N, HN⟩ : ∃ N, Hid (Nm.tsize zs = N) := ⟨_, rfl⟩
  rw [HN.out] at T1 B1
  have HT := hid T1
  have HB := hid B1
  have hN0 : 0 < N := by rw [← HN.out]; exact hz
  have hN1 : N ≤ 4096 := by rw [← HN.out]; exact tz
  have hz' : ((N : Int) == 0) = false := by rw [beq_eq_false_iff_ne]; omega
  have hb1 : ¬ 262144 - kk < (L : Int) := by omega
  have hkb : kk ≤ 262144 := by omega
  obtain ⟨sk, hsk⟩ : ∃ sk, k / 64 = sk := ⟨_, rfl⟩
  obtain ⟨r, hr⟩ : ∃ r, k % 64 = r := ⟨_, rfl⟩
  have r1 : kk / 64 = (sk : Int) := by omega
  have r2 : kk % 64 = (r : Int) := by omega
  have hr63 : r ≤ 63 := by omega
  have hskb : sk ≤ 4096 := by omega
  have KE : Hid (k = 64 * sk + r) := by show _ = _; omega
  have L1 := hid ((Nm.trim_length zs).trans HN.out)
  have A5 := hid ha.2.2.2.2.trim
  obtain ⟨b, off, rfl, hbw, HC⟩ := ha.2.2.2.1.trim.at (by rw [L1.out]; exact hN0)
  have V := hid (Nm.val_trim zs)
  clear T1 B1 ha tz hz hL hkk hsk hr
  have hmk := make64 (sk + N + 1) (by omega) w
  have em : ((sk + N + 1 : Nat) : Int) = (sk : Int) + (N : Int) + 1 := by omega
  rw [em] at hmk
  clear em
  have ho : Own (w.alloc (.cells (madeCells #[.int .u64 0] (sk + N + 1)) 22)) w.heap.size (List.replicate (sk + N + 1) 0) := by
    rw [made_zero]; exact Own.alloc w _
  have hb0 : Below w.heap.size w (w.alloc (.cells (madeCells #[.int .u64 0] (sk + N + 1)) 22)) := (Below.refl _ _).alloc (Nat.le_refl _) _
  obtain ⟨W0, hW0⟩ : ∃ W0, w.alloc (.cells (madeCells #[.int .u64 0] (sk + N + 1)) 22) = W0 := ⟨_, rfl⟩
  have HB0 : Hid (Below w.heap.size w W0) := by rw [← hW0]; exact hb0
  have I0 : MaInv w.heap.size (sk + N + 1) W0 (Nm.pw sk * (Nm.val ((Nm.trim zs).take 0) * 2 ^ r)) (sk + 0) 0 (List.replicate (sk + N + 1) 0) W0 := by
    rw [← hW0]
    exact ⟨⟨ho, by simp, Nm.Limbs.replicate _, by simp [Nm.val_replicate, Nm.val], Below.refl _ _, rfl⟩, by omega, fun i _ => getD_replicate _ _⟩
  have P0 := Nm.two_pos r
  have HP0 := hid P0
  clear ho hb0 P0
  rw [hW0] at hmk
  clear hW0
  go_enter Tryz.func58, Tryz.ntmps58
  go_wp2_with fail
  refine HT.out.mono ?_
  rintro e w' ⟨rfl, rfl⟩
  go_wp2_with fail
  refine HB.out.mono ?_
  rintro e w' ⟨rfl, rfl⟩
  go_wp2_with fail
  go_loopw [10, 43] (fun a i wr => ∃ (j : Nat) (sp : Int) (os : List Int), j ≤ N ∧ i = .int .i64 j ∧ a = .int .u64 sp ∧ Hid (sp < 2 ^ r) ∧ MaInv w'.heap.size (sk + N + 1) W0 (Nm.pw sk * (Nm.val ((Nm.trim zs).take j) * 2 ^ r)) (sk + j) sp os wr) (fun _ i _ => N - (intOf i).toNat)
  case atStart => exact ⟨0, 0, _, Nat.zero_le _, rfl, rfl, HP0.out, I0⟩
  case round =>
    clear I0 hmk
    obtain ⟨j, sp, os, hj, rfl, rfl, SP, I⟩ := hrel
    by_cases hlt : j < N
    · obtain ⟨x, hx, X⟩ : ∃ x, wr.cell? ⟨b, off + j, none⟩ = some (.int .u64 x) ∧ Hid (x = (Nm.trim zs).getD j 0) :=
        ⟨_, ((HB0.out.trans I.1.2.2.2.2.1).cell (p := ⟨b, off + j, none⟩) hbw).trans (HC.out j (by rw [L1.out]; exact hlt)), rfl⟩
      have hx0 := A5.out.at j
      rw [← X.out] at hx0
      obtain ⟨hx0, hx1⟩ := hx0
      obtain ⟨y, hyc⟩ : ∃ y, wr.cell? ⟨w'.heap.size, sk + j, none⟩ = some (.int .u64 y) := ⟨_, I.1.1.cell (sk + j) (by have := I.1.2.1; omega)⟩
      have hfr := I.1.1.free (sk + j)
      obtain ⟨hs0, hs1⟩ := I.2.1
      obtain ⟨A, s, sp', u1, u2, u3, us, usp, E⟩ := Sh.up x sp r hr63 hx0 hx1 hs0 SP.out
      have usp1 := hid usp
      have hP64 : (2 : Int) ^ r ≤ 18446744073709551616 := by rw [← Nm.two_64]; exact Nm.two_mono (by omega)
      have I2 := I.step (by omega) (x := x * 2 ^ r) (s := s) (c' := sp') us ⟨usp.1, by omega⟩ E.out
      have T2 : Nm.pw sk * (Nm.val ((Nm.trim zs).take j) * 2 ^ r) + Nm.pw (sk + j) * (x * 2 ^ r) = Nm.pw sk * (Nm.val ((Nm.trim zs).take (j + 1)) * 2 ^ r) := by
        rw [Nm.val_take_succ _ j (by rw [L1.out]; exact hlt), ← X.out, Nm.pw_add, Int.add_mul, Int.mul_add, Int.mul_assoc, Int.mul_assoc]
      rw [T2] at I2
      clear I T2 hP64 us usp E
      go_wp2
      go_roundw
      case rel => exact ⟨j + 1, sp', _, by omega, by go_num, rfl, usp1.out.2, I2⟩
      case measure => simp [intOf]; omega
    · have hjN : j = N := by omega
      subst hjN
      rw [List.take_of_length_le (by rw [L1.out]; omega)] at I
      obtain ⟨⟨i1, i2, i3, i4, i5, i6⟩, i7, i8⟩ := I
      have O1 := hid (i1.set (sk + j) sp)
      have O2 : Hid ((os.set (sk + j) sp).length = sk + j + 1) := by rw [Hid]; simpa using i2
      have O3 := hid (i3.set (sk + j) i7.1 i7.2)
      have O4 : Hid (Nm.val (os.set (sk + j) sp) = Nm.val zs * 2 ^ k) := by
        rw [Hid, Nm.val_set _ _ _ (by omega), i8 (sk + j) (Nat.le_refl _), Int.sub_zero, i4, V.out, Nm.pw_two, Int.mul_left_comm, ← Nm.two_add, ← KE.out]
      have O5 := hid (HB0.out.trans (i5.setCell (p := ⟨w'.heap.size, sk + j, none⟩) (Nat.le_refl _) (.int .u64 sp)))
      obtain ⟨y, hy⟩ : ∃ y, wr.cell? ⟨w'.heap.size, sk + j, none⟩ = some (.int .u64 y) := ⟨_, i1.cell (sk + j) (by omega)⟩
      have hfr := i1.free (sk + j)
      clear i1 i2 i3 i4 i5 i6 i7 i8
      go_wp2_with fail
      refine (trimmed_any _ (sk + j + 1) (sk + j + 1) (os.set (sk + j) sp) _ O2.out (Nat.le_refl _) (by omega) O1.out.lies).mono ?_
      rintro e w3 ⟨rfl, rfl⟩
      go_wp2_with fail
      go_ret2
      refine ⟨some ⟨w'.heap.size, 0, none⟩, Nm.trim (os.set (sk + j) sp), ret_two (Nm.trim_length _).symm, ⟨O1.out.lies.trim, O3.out.trim, ?_, ?_, ?_⟩, O5.out⟩
      · rw [Nm.trim_trim, Nm.trim_length]
      · rw [Nm.val_trim, O4.out]
      · intro a h
        cases h
        exact Nat.le_refl _
end Go.Proofs.YtjkefcikepnbpaaGreatDoor

namespace Go.Proofs.YtjkefcikepnbpaaGreatDoor
open Go.RowKit Go.Deep

theorem fblen_trim (zs : List Int) : blen (Nm.trim zs) = blen zs := by
  unfold blen
  rw [Nm.trim_trim]
  by_cases h : Nm.tsize zs = 0
  · rw [if_pos h, if_pos h]
  · rw [if_neg h, if_neg h]
    have e : (Nm.trim zs).getD (Nm.tsize zs - 1) 0 = zs.getD (Nm.tsize zs - 1) 0 := by rw [Nm.trim, Nm.getD_take, if_pos (by omega)]
    rw [e]

theorem fpw_4096 : Nm.pw 4096 = 2 ^ 262144 := Nm.pw_two 4096

theorem ftwo_lt {a b : Nat} (h : (2 : Int) ^ a < 2 ^ b) : a < b := by
  rcases Nat.lt_or_ge a b with h1 | h1
  · exact h1
  · have := Nm.two_mono h1
    omega

/-- So many digits as the number times 2^k. -/
theorem FBLen.up {v : Int} {L : Nat} (k : Nat) (h : Nm.BLen v L) (hv : 0 < v) : Nm.BLen (v * 2 ^ k) (L + k) := by
  have hp := Nm.two_pos k
  have h1 := h.2.2 hv
  refine ⟨?_, fun h0 => ?_, fun _ => ⟨by omega, ?_⟩⟩
  · rw [Nm.two_add]
    exact Int.mul_lt_mul_of_pos_right h.1 hp
  · rcases Int.mul_eq_zero.1 h0 with h2 | h2 <;> omega
  · rw [show L + k - 1 = L - 1 + k by omega, Nm.two_add]
    exact Int.mul_le_mul_of_nonneg_right h1.2 (by omega)

theorem ftsize_pos {zs : List Int} (hz : Nm.Limbs zs) (hv : 0 < Nm.val zs) : 0 < Nm.tsize zs := by
  rcases Nat.eq_zero_or_pos (Nm.tsize zs) with h | h
  · have := (Nm.tsize_zero_iff hz).1 h
    omega
  · exact h

theorem fshl_any (p : Option Addr) (n cap : Nat) (zs : List Int) (kk : Int) (k : Nat) (w : World) (ha : Arg w p n cap zs) (tz : Nm.tsize zs ≤ 4096) (hkk : kk = (k : Int)) (hb : Nm.val zs * 2 ^ k < Nm.pw 4096) :
    Calls Tryz.prog 58 #[.slice p n cap, .int .i64 kk] w fun e w' => ∃ r os, e = .returned (.tuple #[.slice r (List.length os) (List.length os), .int .i64 0]) ∧ Ans w.heap.size w' r os (Nm.val zs * 2 ^ k) ∧ Below w.heap.size w w' := by
  have hv0 := (Nm.val_bd zs ha.2.2.2.2).1
  by_cases hz : Nm.tsize zs = 0
  · have hv := (Nm.tsize_zero_iff ha.2.2.2.2).1 hz
    refine (shl_zero p n cap zs kk w ha (by omega) hz).mono ?_
    rintro e w' ⟨rfl, rfl⟩
    exact ⟨none, [], rfl, ⟨Lies.nil _ _, Nm.Limbs.nil, rfl, by rw [hv, Int.zero_mul]; rfl, fun a h => by cases h⟩, Below.refl _ _⟩
  · obtain ⟨L, hL, BL, _, _⟩ := blen_is zs ha.2.2.2.2
    rw [← fblen_trim] at hL
    have hv : 0 < Nm.val zs := by
      rcases (show Nm.val zs = 0 ∨ 0 < Nm.val zs by omega) with h | h
      · exact absurd ((Nm.tsize_zero_iff ha.2.2.2.2).2 h) hz
      · exact h
    have hu := (FBLen.up k BL hv).2.2 (Int.mul_pos hv (Nm.two_pos k))
    rw [fpw_4096] at hb
    have hlt := ftwo_lt (show (2 : Int) ^ (L + k - 1) < 2 ^ 262144 by omega)
    exact shl_ok p n cap zs kk k L w ha tz hkk (by omega) hL (by omega)

end Go.Proofs.YtjkefcikepnbpaaGreatDoor

namespace Go.Proofs.YtjkefcikepnbpaaGreatDoor
open Go.RowKit Go.Deep

/-- What ToUint answers: the limb, and whether it is one. -/
def toU (zs : List Int) : Int := if Nm.tsize zs = 1 then zs.getD 0 0 else 0

theorem ret_to {a b : Int} {c d : Bool} (h : a = b) (k : c = d) : Ending.returned (.tuple #[.int .u64 a, .bool c]) = .returned (.tuple #[.int .u64 b, .bool d]) := by rw [h, k]

theorem toUint_any (p : Option Addr) (n cap : Nat) (zs : List Int) (w : World) (ha : Arg w p n cap zs) :
    Calls Tryz.prog 150 #[.slice p n cap] w fun e w' => e = .returned (.tuple #[.int .u64 (toU zs), .bool (decide (Nm.tsize zs ≤ 1))]) ∧ w' = w := by
  obtain ⟨a1, a2, a3, a4, a5⟩ := ha
  have tl := Nm.tsize_le zs
  have S1 := trimmed_any p n cap zs w a1 a2 (by omega) a4
  rcases (show Nm.tsize zs = 0 ∨ Nm.tsize zs = 1 ∨ 1 < Nm.tsize zs by omega) with h | h | h
  · have E : Hid (0 = toU zs ∧ true = decide (Nm.tsize zs ≤ 1)) := by simp [Hid, toU, h]
    rw [h] at S1
    have HS := hid S1
    clear S1 h
    go_enter Tryz.func150, Tryz.ntmps150
    go_wp2_with fail
    refine HS.out.mono ?_
    rintro e w' ⟨rfl, rfl⟩
    go_wp2
    go_ret2
    exact ⟨ret_to E.out.1 E.out.2, rfl⟩
  · have E : Hid (zs.getD 0 0 = toU zs ∧ true = decide (Nm.tsize zs ≤ 1)) := by simp [Hid, toU, h]
    obtain ⟨b, off, rfl, hbw, HC⟩ := a4.at (by omega)
    have hc := HC.out 0 (by omega)
    rw [Nat.add_zero] at hc
    rw [h] at S1
    have HS := hid S1
    clear S1 h
    go_enter Tryz.func150, Tryz.ntmps150
    go_wp2_with fail
    refine HS.out.mono ?_
    rintro e w' ⟨rfl, rfl⟩
    go_wp2
    go_ret2
    exact ⟨ret_to E.out.1 E.out.2, rfl⟩
  · have E : Hid (0 = toU zs ∧ false = decide (Nm.tsize zs ≤ 1)) := by
      refine ⟨?_, ?_⟩
      · rw [toU, if_neg (by omega)]
      · simp; omega
    have h1 : ((Nm.tsize zs : Int) == 0) = false := by rw [beq_eq_false_iff_ne]; omega
    have h2 : ((Nm.tsize zs : Int) == 1) = false := by rw [beq_eq_false_iff_ne]; omega
    have HS := hid S1
    clear S1 h
    go_enter Tryz.func150, Tryz.ntmps150
    go_wp2_with fail
    refine HS.out.mono ?_
    rintro e w' ⟨rfl, rfl⟩
    go_wp2
    go_ret2
    exact ⟨ret_to E.out.1 E.out.2, rfl⟩

theorem toU_val {zs : List Int} (hl : Nm.Limbs zs) (hv : Nm.val zs < 18446744073709551616) : toU zs = Nm.val zs := by
  have h1 : Nm.tsize zs ≤ 1 := (Nm.tsize_le_iff hl 1).2 (by simpa [Nm.pw] using hv)
  by_cases h : Nm.tsize zs = 1
  · rw [toU, if_pos h, ← Nm.val_trim zs, Nm.trim, h]
    cases zs with
    | nil => simp [Nm.val]
    | cons z zs => simp [Nm.val]
  · have h0 : Nm.tsize zs = 0 := by omega
    rw [toU, if_neg h, ← Nm.val_trim zs, Nm.trim, h0]
    simp [Nm.val]
end Go.Proofs.YtjkefcikepnbpaaGreatDoor

namespace Go.Proofs.YtjkefcikepnbpaaGreatDoor
open Go.RowKit Go.Deep

set_option maxRecDepth 100000 in
set_option maxHeartbeats 4000000 in
theorem spread_zero (B : Int) (W g o cap cp n c : Nat) (p pm : Option Addr) (za ds : List Int) (V : Int) (w : World) (h2 : 2 ≤ B) (h36 : B ≤ 36) (hW : W ≤ 63) (hd : OwnB w g ds) (hol : o + W ≤ ds.length) (ha : Arg w p n c za) (hV : Nm.val za = V) (hV1 : V < 18446744073709551616) :
    Calls Tryz.prog 137 #[.slice (some ⟨g, o, none⟩) W cap, .slice p n c, .slice pm 0 cp, .int .u64 B] w fun e w' => e = .returned (.tuple #[]) ∧ OwnB w' g (put ds o (Dn.dg B W V)) ∧ Only g w w' := by
  have hB0 : (B == 0) = false := by rw [beq_eq_false_iff_ne]; omega
  have hV0 : 0 ≤ V := by rw [← hV]; exact (Nm.val_bd za ha.2.2.2.2).1
  have TU : Hid (Calls Tryz.prog 150 #[.slice p n c] w fun e w' => e = .returned (.tuple #[.int .u64 V, .bool (decide (Nm.tsize za ≤ 1))]) ∧ w' = w) := by
    have := toUint_any p n c za w ha
    rw [toU_val ha.2.2.2.2 (by rw [hV]; exact hV1), hV] at this
    exact this
  have hWi : (W : Int) ≤ 63 := by omega
  have OB := hid hd
  have HOL := hid hol
  clear ha hV hd hol
  go_enter Tryz.func137, Tryz.ntmps137
  go_wp2_with fail
  refine TU.out.mono ?_
  rintro e w' ⟨rfl, rfl⟩
  clear TU
  go_wp2_with fail
  go_loopw [8, 10] (fun a i wr => ∃ (j : Nat) (N : Int), a = .int .u64 N ∧ i = .int .i64 ((j : Int) - 1) ∧ j ≤ W ∧ 0 ≤ N ∧ N < 18446744073709551616 ∧ Hid (N = V / B ^ (W - j) ∧ OwnB wr g (put ds (o + j) (Dn.dg B (W - j) V)) ∧ Only g w' wr)) (fun _ i _ => (intOf i + 1).toNat)
  case atStart =>
    refine ⟨W, V, rfl, rfl, Nat.le_refl _, hV0, hV1, ?_, ?_, Only.refl _ _⟩
    · rw [Nat.sub_self, Int.pow_zero, Int.ediv_one]
    · rw [Nat.sub_self, Dn.dg, put_nil]
      exact OB.out
  case round =>
    obtain ⟨j, N, rfl, rfl, hj, hN0, hN1, I⟩ := hrel
    cases j with
    | zero =>
      have F : Hid (OwnB wr g (put ds o (Dn.dg B W V)) ∧ Only g w' wr) := ⟨I.out.2.1, I.out.2.2⟩
      clear I
      go_wp2_with fail
      (try simp only [Exit.inBlock, Exit.then])
      refine bodyPost_ret (results_none rfl _ _ _) rfl ?_
      exact ⟨rfl, F.out⟩
    | succ u =>
      rw [show ((u + 1 : Nat) : Int) - 1 = (u : Int) by omega]
      have hu : (u : Int) < (W : Int) := by omega
      have hB1 : 0 < B := by omega
      obtain ⟨d, hd⟩ : ∃ d, N % B = d := ⟨_, rfl⟩
      obtain ⟨M, hM⟩ : ∃ M, N / B = M := ⟨_, rfl⟩
      have hd0 : 0 ≤ d := by rw [← hd]; exact Int.emod_nonneg _ (by omega)
      have hd1 : d < 36 := by have := Int.emod_lt_of_pos N hB1; omega
      have hM0 : 0 ≤ M := by rw [← hM]; exact Int.ediv_nonneg hN0 (by omega)
      have hM1 : M < 18446744073709551616 := by have := Int.ediv_le_self B hN0; omega
      have hlen : (put ds (o + (u + 1)) (Dn.dg B (W - (u + 1)) V)).length = ds.length := put_length _ _ _ (by rw [Dn.dg_length]; have := HOL.out; omega)
      have ST : Hid (∀ wq, Below wr.heap.size wr wq → OwnB (wq.setCell ⟨g, o + u, none⟩ (.int .u8 d)) g (put ds (o + u) (Dn.dg B (W - u) V)) ∧ Only g w' (wq.setCell ⟨g, o + u, none⟩ (.int .u8 d))) := by
        intro wq hb
        have h1 := (I.out.2.1.below hb I.out.2.1.lt).set (o + u) d
        rw [show o + (u + 1) = o + u + 1 by omega, put_head _ _ _ _ (by rw [Dn.dg_length]; have := HOL.out; omega)] at h1
        have e1 : d :: Dn.dg B (W - (u + 1)) V = Dn.dg B (W - u) V := by
          rw [show W - u = W - (u + 1) + 1 by omega, Dn.dg_head hB1, ← I.out.1, hd, Dn.dg_mod hB1]
        rw [e1] at h1
        exact ⟨h1, (I.out.2.2.trans (Only.of_below hb)).trans (Only.set _ _)⟩
      have EM : Hid (M = V / B ^ (W - u)) := by
        show _ = _
        rw [← hM, I.out.1, show W - u = W - (u + 1) + 1 by omega, Int.pow_succ, Int.ediv_ediv_of_nonneg (Int.le_of_lt (Int.pow_pos hB1))]
      obtain ⟨y, hy⟩ : ∃ y, wr.cell? ⟨g, o + u, none⟩ = some (.int .u8 y) := ⟨_, I.out.2.1.cell (o + u) (by rw [hlen]; have := HOL.out; omega)⟩
      have hfr := I.out.2.1.free (o + u)
      clear I hlen
      go_wp2_with fail
      go_region
      all_goals
        go_wp2
        go_roundw
        case rel => exact ⟨u, M, by first | rfl | rw [hM], by go_num, by omega, hM0, hM1, EM.out, ST.out _ (below_drewN (Below.refl _ _) _)⟩
        case measure => simp [intOf]
end Go.Proofs.YtjkefcikepnbpaaGreatDoor

namespace Go.Proofs.YtjkefcikepnbpaaGreatDoor
open Go.RowKit Go.Deep

theorem cmp_is (c : Int) (p q : Option Addr) (n cap m cap' : Nat) (zs ys : List Int) (w : World) (ha : Arg w p n cap zs) (hb : Arg w q m cap' ys) (hc : cmpI (Nm.val zs) (Nm.val ys) = c) :
    Calls Tryz.prog 149 #[.slice p n cap, .slice q m cap'] w fun e w' => e = .returned (.int .i64 c) ∧ Below w.heap.size w w' := by
  rw [← hc]
  exact cmp_any p q n cap m cap' zs ys w ha hb
end Go.Proofs.YtjkefcikepnbpaaGreatDoor

namespace Go.Proofs.YtjkefcikepnbpaaGreatDoor
open Go.RowKit Go.Deep

/-- Two limbs moved up, as one: digits that don't meet. -/
theorem shift_or (x y : Int) (t u : Nat) (htu : t + u = 64) (_x0 : 0 ≤ x) (y0 : 0 ≤ y) (y1 : y < 18446744073709551616) :
    ∃ A C s : Int, IntKind.u64.wrap (x * 2 ^ t) = A ∧ y / 2 ^ u = C ∧ bits .or .u64 A C = s ∧ Hid (s = x % 2 ^ u * 2 ^ t + y / 2 ^ u) := by
  have hP : (0 : Int) < 2 ^ t := Int.pow_pos (by omega)
  have hQ : (0 : Int) < 2 ^ u := Int.pow_pos (by omega)
  have hPQ : (2 : Int) ^ t * 2 ^ u = 18446744073709551616 := by rw [← Int.pow_add, htu]; rfl
  have h1 := Qd.part_bd (z := x) hP hQ hPQ
  have h2 : 0 ≤ y / 2 ^ u := Int.ediv_nonneg y0 (by omega)
  have h3 : y / 2 ^ u < 2 ^ t := by rw [Int.ediv_lt_iff_lt_mul hQ, hPQ]; exact y1
  have h4 := Int.emod_add_mul_ediv x (2 ^ u)
  have hA : IntKind.u64.wrap (x * 2 ^ t) = x % 2 ^ u * 2 ^ t := by
    have e : x * 2 ^ t = x % 2 ^ u * 2 ^ t + 18446744073709551616 * (x / 2 ^ u) := by
      have : (x % 2 ^ u + 2 ^ u * (x / 2 ^ u)) * 2 ^ t = x * 2 ^ t := by rw [h4]
      rw [Int.add_mul, Int.mul_right_comm, Int.mul_comm (2 ^ u) (2 ^ t), hPQ] at this
      omega
    rw [wrap_mod, e]
    omega
  exact ⟨_, _, _, hA, rfl, rfl, or_sum (x % 2 ^ u) (y / 2 ^ u) t (Int.emod_nonneg x (by omega)) h2 h3 (by omega) (by omega)⟩

theorem ret_u64 {a b : Int} (h : a = b) : Ending.returned (.int .u64 a) = .returned (.int .u64 b) := by rw [h]

set_option maxRecDepth 100000 in
set_option maxHeartbeats 1000000 in
/-- Limb i of the number moved up by t binary digits. -/
theorem shifted_any (p : Option Addr) (n cap : Nat) (zs : List Int) (i t : Nat) (ii tt v : Int) (w : World) (hn : zs.length = n) (hc : n ≤ cap) (hm : cap ≤ 140737488355328) (h : Lies w p zs) (hz : Nm.Limbs zs) (hi : i < n) (ht : t ≤ 63) (hii : ii = (i : Int)) (htt : tt = (t : Int)) (hv : Qd.limb zs (2 ^ t) (2 ^ (64 - t)) i = v) :
    Calls Tryz.prog 177 #[.slice p n cap, .int .i64 ii, .int .i64 tt] w fun e w' => e = .returned (.int .u64 v) ∧ Below w.heap.size w w' := by
  subst hv
  subst hii
  subst htt
  obtain ⟨b, off, rfl, hbw, HC⟩ := h.at (by omega)
  obtain ⟨u, hu⟩ : ∃ u, 64 - t = u := ⟨_, rfl⟩
  rw [hu]
  cases i with
  | zero =>
    obtain ⟨x, hx, X⟩ : ∃ x, w.cell? ⟨b, off, none⟩ = some (.int .u64 x) ∧ Hid (x = zs.getD 0 0) := ⟨_, HC.out 0 (by omega), rfl⟩
    have hx0 := hz.at 0
    rw [← X.out] at hx0
    obtain ⟨A, C, s, r1, r2, r3, R⟩ := shift_or x 0 t u (by omega) hx0.1 (Int.le_refl 0) (by omega)
    have FIN : Hid (A = Qd.limb zs (2 ^ t) (2 ^ u) 0) := by
      show _ = _
      rw [Int.zero_ediv] at r2 R
      subst r2
      have e := Qd.part_bd (z := x) (T := 2 ^ t) (U := 2 ^ u) (Int.pow_pos (by omega)) (Int.pow_pos (by omega)) (by rw [← Int.pow_add, show t + u = 64 by omega]; rfl)
      have o := or_sum (x % 2 ^ u) 0 t (Int.emod_nonneg x (by have : (0 : Int) < 2 ^ u := Int.pow_pos (by omega); omega)) (Int.le_refl 0) (Int.pow_pos (by omega)) (by have : (0 : Int) < 2 ^ t := Int.pow_pos (by omega); omega) (by omega)
      have hA : A = x % 2 ^ u * 2 ^ t := by
        rw [← r1, wrap_mod]
        have h4 := Int.emod_add_mul_ediv x (2 ^ u)
        have hPQ : (2 : Int) ^ t * 2 ^ u = 18446744073709551616 := by rw [← Int.pow_add, show t + u = 64 by omega]; rfl
        have e2 : x * 2 ^ t = x % 2 ^ u * 2 ^ t + 18446744073709551616 * (x / 2 ^ u) := by
          have : (x % 2 ^ u + 2 ^ u * (x / 2 ^ u)) * 2 ^ t = x * 2 ^ t := by rw [h4]
          rw [Int.add_mul, Int.mul_right_comm, Int.mul_comm (2 ^ u) (2 ^ t), hPQ] at this
          omega
        have : (0 : Int) < 2 ^ t := Int.pow_pos (by omega)
        rw [e2]
        omega
      rw [hA, Qd.limb, ← X.out]
      show _ = _ + 0
      omega
    clear r2 r3 R X
    go_enter Tryz.func177, Tryz.ntmps177
    go_wp2
    go_ret
    exact ⟨ret_u64 FIN.out, Below.refl _ _⟩
  | succ j =>
    obtain ⟨x, hx, X⟩ : ∃ x, w.cell? ⟨b, off + (j + 1), none⟩ = some (.int .u64 x) ∧ Hid (x = zs.getD (j + 1) 0) := ⟨_, HC.out (j + 1) (by omega), rfl⟩
    obtain ⟨y, hy, Y⟩ : ∃ y, w.cell? ⟨b, off + j, none⟩ = some (.int .u64 y) ∧ Hid (y = zs.getD j 0) := ⟨_, HC.out j (by omega), rfl⟩
    have hx0 := hz.at (j + 1)
    rw [← X.out] at hx0
    have hy0 := hz.at j
    rw [← Y.out] at hy0
    obtain ⟨hx0, hx1⟩ := hx0
    obtain ⟨hy0, hy1⟩ := hy0
    obtain ⟨A, C, s, r1, r2, r3, R⟩ := shift_or x y t u (by omega) hx0 hy0 hy1
    have r4 : 64 - (t : Int) = (u : Int) := by omega
    have FIN : Hid (s = Qd.limb zs (2 ^ t) (2 ^ u) (j + 1)) := by
      show _ = _
      rw [R.out, Qd.limb, ← X.out, Y.out]
      rfl
    have hij : ((j : Int) + 1 == 0) = false := by rw [beq_eq_false_iff_ne]; omega
    obtain ⟨k, HK⟩ : ∃ k, Hid (k = j + 1) := ⟨_, rfl⟩
    have ek : (((j + 1 : Nat) : Int)) = (k : Int) := by rw [HK.out]
    have ek1 : (k : Int) - 1 = (j : Int) := by rw [HK.out]; omega
    have hk0 : ((k : Int) == 0) = false := by rw [beq_eq_false_iff_ne]; omega
    have hkn : (k : Int) < (n : Int) := by rw [HK.out]; omega
    have hjn : (j : Int) < (n : Int) := by omega
    have hx2 : w.cell? ⟨b, off + k, none⟩ = some (.int .u64 x) := by rw [HK.out]; exact hx
    rw [ek]
    clear R hx hij ek hi hu
    go_enter Tryz.func177, Tryz.ntmps177
    go_wp2_with fail
    go_quiet (fail)
    go_wp2
    go_ret
    exact ⟨ret_u64 FIN.out, below_drewN (Below.refl _ _) _⟩

set_option maxRecDepth 100000 in
set_option maxHeartbeats 1000000 in
/-- The guess made less. -/
theorem lessened_any (Q : Int → Prop) (f s h m l d left : Int) (w : World) (hQ : ∀ q, Q q → Qd.Fits q f s h m l) (f0 : 0 ≤ f) (f1 : f < 18446744073709551616) (s0 : 0 ≤ s) (s1 : s < 18446744073709551616) (l0 : 0 ≤ l) (l1 : l < 18446744073709551616)
    (H : Qd.Over Q f (h * 18446744073709551616 + m) d left) :
    Calls Tryz.prog 178 #[.int .u64 d, .int .u64 left, .int .u64 l, .int .u64 f, .int .u64 s] w fun e w' => ∃ g, e = .returned (.int .u64 g) ∧ (0 ≤ g ∧ g < 18446744073709551616) ∧ Hid (∀ q, Q q → q ≤ g) ∧ w' = w := by
  have HH := hid H
  have HQ := hid hQ
  clear H hQ
  go_enter Tryz.func178, Tryz.ntmps178
  go_wp2_with fail
  go_loop [0, 1] (fun a b => ∃ d left, a = .int .u64 d ∧ b = .int .u64 left ∧ Hid (Qd.Over Q f (h * 18446744073709551616 + m) d left)) (fun a _ => (intOf a).toNat)
  case atStart => exact ⟨d, left, rfl, rfl, HH.out⟩
  case round =>
    clear HH
    obtain ⟨d, left, rfl, rfl, H⟩ := hrel
    obtain ⟨d0, d1⟩ := H.out.1
    obtain ⟨left0, left1⟩ := H.out.2.1
    go_wp2_with fail
    refine (mul64 d s d0 d1 s0 s1 _).mono ?_
    rintro e w' ⟨hh, ll, rfl, ⟨hh0, hh1, ll0, ll1⟩, E, _, rfl⟩
    rcases (show hh < left ∨ (hh = left ∧ ll ≤ l) ∨ (left < hh) ∨ (hh = left ∧ l < ll) by omega) with c | c | c | c
    · go_wp2
      go_ret
      exact ⟨d, rfl, ⟨d0, d1⟩, H.out.2.2.2, rfl⟩
    · obtain ⟨rfl, c⟩ := c
      go_wp2
      go_ret
      exact ⟨d, rfl, ⟨d0, d1⟩, H.out.2.2.2, rfl⟩
    all_goals
      have hc : left * 18446744073709551616 + l < d * s := by
        have := E.out
        omega
      obtain ⟨g1, g2, g3⟩ := Qd.over_down HQ.out l0 f0 H.out hc
      have G3 := hid g3
      have G2 := hid g2
      clear g2 g3
      by_cases hr : left + f < 18446744073709551616
      · have ON := hid (Qd.over_on HQ.out l0 f0 H.out hc hr)
        clear hc
        try (obtain ⟨rfl, c⟩ := c)
        go_wp2
        go_round
        case rel => exact ⟨d - 1, _, rfl, rfl, ON.out⟩
        case measure => simp [intOf]; omega
      · have r1 : IntKind.u64.wrap (left + f) = left + f - 18446744073709551616 := by rw [wrap_mod]; omega
        clear hc
        try (obtain ⟨rfl, c⟩ := c)
        go_wp2
        go_ret
        exact ⟨d - 1, rfl, by omega, G3.out, rfl⟩
end Go.Proofs.YtjkefcikepnbpaaGreatDoor

namespace Go.Proofs.YtjkefcikepnbpaaGreatDoor
open Go.RowKit Go.Deep

/-- Both lists lie where they lay. -/
def Both (w : World) (p q : Option Addr) (ps bs : List Int) : Prop := Lies w p ps ∧ Lies w q bs

theorem Both.below {w w' : World} {p q : Option Addr} {ps bs : List Int} (h : Both w p q ps bs) (hb : Below w.heap.size w w') : Both w' p q ps bs :=
  ⟨h.1.below hb (Nat.le_refl _), h.2.below hb (Nat.le_refl _)⟩

/-- Moved up till its highest binary digit is at the top, the divisor keeps its limbs. -/
theorem room_up {bs : List Int} (hz : Nm.Limbs bs) {k : Nat} (lb : bs.length = k + 2) {T U y : Int} (hT : 0 < T) (hTU : T * U = 18446744073709551616) (hy : bs.getD (k + 1) 0 = y) (hyT : y * T < 18446744073709551616) : Nm.val bs * T < Nm.pw (k + 2) := by
  have h1 := Nm.val_take_succ bs (k + 1) (by omega)
  rw [List.take_of_length_le (by omega), hy] at h1
  have h2 := (Nm.val_bd _ (hz.take (k + 1))).2
  rw [List.length_take, Nat.min_eq_left (by omega)] at h2
  have hyU : y + 1 ≤ U := by
    rcases (show y + 1 ≤ U ∨ U ≤ y by omega) with c | c
    · exact c
    · exfalso
      have : U * T ≤ y * T := Int.mul_le_mul_of_nonneg_right c (by omega)
      rw [Int.mul_comm U T, hTU] at this
      omega
  have h3 : (y + 1) * T ≤ U * T := Int.mul_le_mul_of_nonneg_right hyU (by omega)
  rw [Int.mul_comm U T, hTU] at h3
  have hp := Nm.pw_pos (k + 1)
  have h4 : Nm.pw (k + 1) * ((y + 1) * T) ≤ Nm.pw (k + 1) * 18446744073709551616 := Int.mul_le_mul_of_nonneg_left h3 (by omega)
  have h5 : Nm.val bs < Nm.pw (k + 1) * (y + 1) := by rw [Int.mul_add, Int.mul_one]; omega
  have h6 := Int.mul_lt_mul_of_pos_right h5 hT
  rw [Int.mul_assoc] at h6
  rw [show k + 2 = k + 1 + 1 from rfl, Nm.pw_succ]
  omega

set_option maxRecDepth 100000 in
set_option maxHeartbeats 1000000 in
theorem guess_any (p q : Option Addr) (k n n1 cap cap' : Nat) (ps bs : List Int) (w : World) (hn : n = k + 2) (hn1 : n1 = k + 3) (lb : bs.length = n) (lp : ps.length = n1) (hc : n1 ≤ cap) (hc' : n ≤ cap') (hm : cap ≤ 140737488355328) (hm' : cap' ≤ 140737488355328)
    (hp : Lies w p ps) (hb : Lies w q bs) (hlp : Nm.Limbs ps) (hlb : Nm.Limbs bs) (htop : bs.getD (k + 1) 0 ≠ 0) (hpb : Nm.val ps < Nm.val bs * 18446744073709551616) :
    Calls Tryz.prog 171 #[.slice p n1 cap, .slice q n cap'] w fun e w' => ∃ g, e = .returned (.int .u64 g) ∧ (0 ≤ g ∧ g < 18446744073709551616) ∧ Hid (∀ x, 0 ≤ x → x * Nm.val bs ≤ Nm.val ps → x ≤ g) ∧ Below w.heap.size w w' := by
  obtain ⟨b, off, rfl, hbw, HC⟩ := hb.at (by omega)
  obtain ⟨t1, HT1⟩ : ∃ t1, Hid (t1 = k + 1) := ⟨_, rfl⟩
  have e1 : (n : Int) - 1 = (t1 : Int) := by rw [HT1.out]; omega
  obtain ⟨y, hy, Y⟩ : ∃ y, w.cell? ⟨b, off + t1, none⟩ = some (.int .u64 y) ∧ Hid (y = bs.getD t1 0) := ⟨_, HC.out t1 (by rw [HT1.out]; omega), rfl⟩
  have hy0 := hlb.at t1
  rw [← Y.out] at hy0
  obtain ⟨hy0, hy1⟩ := hy0
  have hyp : 0 < y := by
    have := Y.out
    rw [HT1.out] at this
    omega
  obtain ⟨l, hl⟩ : ∃ l, Lib.bitLen y.toNat = l := ⟨_, rfl⟩
  obtain ⟨t, ht, ht63, _, hyT, hT, hU, hTU⟩ := shift_facts y l hyp hy1 hl
  have LE := lead_any y l w hy0 hy1 hl
  rw [show 64 - (l : Int) = (t : Int) by omega] at LE
  have F := Qd.fits hlb hlp hT hU hTU (k := k) (by omega) (by omega) (room_up hlb (by omega) hT hTU (by rw [← HT1.out]; exact Y.out.symm) hyT) hpb
  have Bf := Qd.limb_bd hlb hT hU hTU (k + 1)
  have Bs := Qd.limb_bd hlb hT hU hTU k
  have Bh := Qd.limb_bd hlp hT hU hTU (k + 2)
  have Bm := Qd.limb_bd hlp hT hU hTU (k + 1)
  have Bl := Qd.limb_bd hlp hT hU hTU k
  obtain ⟨f, hf⟩ : ∃ f, Qd.limb bs (2 ^ t) (2 ^ (64 - t)) (k + 1) = f := ⟨_, rfl⟩
  obtain ⟨s, hs⟩ : ∃ f, Qd.limb bs (2 ^ t) (2 ^ (64 - t)) k = f := ⟨_, rfl⟩
  obtain ⟨h, hh⟩ : ∃ f, Qd.limb ps (2 ^ t) (2 ^ (64 - t)) (k + 2) = f := ⟨_, rfl⟩
  obtain ⟨m, hmm⟩ : ∃ f, Qd.limb ps (2 ^ t) (2 ^ (64 - t)) (k + 1) = f := ⟨_, rfl⟩
  obtain ⟨lo, hlo⟩ : ∃ f, Qd.limb ps (2 ^ t) (2 ^ (64 - t)) k = f := ⟨_, rfl⟩
  rw [hf, hs, hh, hmm, hlo] at F
  rw [hf] at Bf
  rw [hs] at Bs
  rw [hh] at Bh
  rw [hmm] at Bm
  rw [hlo] at Bl
  obtain ⟨f0, f1⟩ := Bf
  obtain ⟨s0, s1⟩ := Bs
  obtain ⟨h0, h1⟩ := Bh
  obtain ⟨m0, m1⟩ := Bm
  obtain ⟨lo0, lo1⟩ := Bl
  obtain ⟨hhf, hfit⟩ := F
  have HQ : Hid (∀ x, (fun x => 0 ≤ x ∧ x * Nm.val bs ≤ Nm.val ps) x → Qd.Fits x f s h m lo) := fun x hx => hfit x hx.1 hx.2
  have HLE := hid LE
  have HBO : Hid (Both w p (some ⟨b, off, none⟩) ps bs) := ⟨hp, hb⟩
  have HF := hid hf
  have HS := hid hs
  have HH := hid hh
  have HM := hid hmm
  have HL := hid hlo
  have hLP := hid hlp
  have hLB := hid hlb
  have HN := hid hn
  have HN1 := hid hn1
  have HLP := hid lp
  have HLB := hid lb
  have hnn1 : (n : Int) < (n1 : Int) := by omega
  clear LE hf hs hh hmm hlo hfit hlp hlb hn hn1 lp lb hp hb hl ht htop hpb hyT hT hU hTU
  have fin : ∀ (g : Int), (∀ x, (fun x => 0 ≤ x ∧ x * Nm.val bs ≤ Nm.val ps) x → x ≤ g) → Hid (∀ x, 0 ≤ x → x * Nm.val bs ≤ Nm.val ps → x ≤ g) := fun g hg x x0 hx => hg x ⟨x0, hx⟩
  have FIN := hid fin
  clear fin
  go_enter Tryz.func171, Tryz.ntmps171
  go_wp2_with fail
  refine HLE.out.mono ?_
  rintro e w' ⟨rfl, rfl⟩
  clear HLE hy
  go_wp2_with fail
  refine (shifted_any _ n cap' bs (k + 1) t _ _ f _ HLB.out hc' hm' HBO.out.2 hLB.out (by have := HN.out; omega) ht63 (by have := HT1.out; omega) rfl HF.out).mono ?_
  rintro e w1 ⟨rfl, hb1⟩
  have HB1 := hid hb1
  have HBO1 := hid (HBO.out.below hb1)
  clear hb1
  go_wp2_with fail
  refine (shifted_any _ n cap' bs k t _ _ s _ HLB.out hc' hm' HBO1.out.2 hLB.out (by have := HN.out; omega) ht63 (by have := HT1.out; omega) rfl HS.out).mono ?_
  rintro e w2 ⟨rfl, hb2⟩
  have HB2 := hid (chain HB1.out hb2 (Nat.le_refl _))
  have HBO2 := hid (HBO1.out.below hb2)
  clear hb2
  go_wp2_with fail
  refine (shifted_any _ n1 cap ps (k + 2) t _ _ h _ HLP.out hc hm HBO2.out.1 hLP.out (by have := HN1.out; omega) ht63 (by have := HT1.out; omega) rfl HH.out).mono ?_
  rintro e w3 ⟨rfl, hb3⟩
  have HB3 := hid (chain HB2.out hb3 (Nat.le_refl _))
  have HBO3 := hid (HBO2.out.below hb3)
  clear hb3
  go_wp2_with fail
  refine (shifted_any _ n1 cap ps (k + 1) t _ _ m _ HLP.out hc hm HBO3.out.1 hLP.out (by have := HN1.out; omega) ht63 (by have := HT1.out; omega) rfl HM.out).mono ?_
  rintro e w4 ⟨rfl, hb4⟩
  have HB4 := hid (chain HB3.out hb4 (Nat.le_refl _))
  have HBO4 := hid (HBO3.out.below hb4)
  clear hb4
  go_wp2_with fail
  refine (shifted_any _ n1 cap ps k t _ _ lo _ HLP.out hc hm HBO4.out.1 hLP.out (by have := HN1.out; omega) ht63 (by have := HT1.out; omega) rfl HL.out).mono ?_
  rintro e w5 ⟨rfl, hb5⟩
  have HB5 := hid (chain HB4.out hb5 (Nat.le_refl _))
  clear hb5 HB1 HB2 HB3 HB4 HBO HBO1 HBO2 HBO3 HBO4
  by_cases hhe : h = f
  · have hhe' : (h == f) = true := by simp [hhe]
    obtain ⟨s1', S1⟩ : ∃ s, Hid (s = (m + f + 0) % 18446744073709551616) := ⟨_, rfl⟩
    obtain ⟨k1, K1⟩ : ∃ c, Hid (c = (m + f + 0) / 18446744073709551616) := ⟨_, rfl⟩
    by_cases hov : m + f < 18446744073709551616
    · have ek : k1 = 0 := by have := K1.out; omega
      have es : s1' = m + f := by have := S1.out; omega
      subst ek
      subst es
      have OV := hid (Qd.over_even HQ.out hhe (by omega) hov)
      go_wp2_with (simp only [add64' m f 0 _ _ m0 f0 (Int.le_refl 0) (by decide) S1.out K1.out])
      refine (lessened_any _ f s h m lo _ _ _ HQ.out f0 f1 s0 s1 lo0 lo1 OV.out).mono ?_
      rintro e w6 ⟨g, rfl, G, GQ, rfl⟩
      have HG := hid G
      clear G
      go_wp2_with fail
      go_ret
      exact ⟨g, rfl, HG.out, FIN.out g GQ.out, HB5.out⟩
    · have ek : k1 = 1 := by have := K1.out; omega
      subst ek
      have OV := hid (Qd.over_most HQ.out)
      go_wp2_with (simp only [add64' m f 0 _ _ m0 f0 (Int.le_refl 0) (by decide) S1.out K1.out])
      go_ret
      exact ⟨_, rfl, by omega, FIN.out _ OV.out, HB5.out⟩
  · have hhe' : (h == f) = false := by rw [beq_eq_false_iff_ne]; exact hhe
    have hlt : h < f := by omega
    go_wp2_with fail
    refine (div64 h m f _ h0 hlt m0 m1 f1).mono ?_
    rintro e w6 ⟨d, r, rfl, ⟨d0, d1, r0, r1⟩, E, hb6⟩
    have HB6 := hid (chain HB5.out hb6 (Nat.le_refl _))
    have OV := hid (Qd.over_first HQ.out s0 lo1 ⟨d0, d1⟩ r0 r1 f1 E.out)
    clear hb6 E
    go_wp2_with fail
    refine (lessened_any _ f s h m lo _ _ _ HQ.out f0 f1 s0 s1 lo0 lo1 OV.out).mono ?_
    rintro e w7 ⟨g, rfl, G, GQ, rfl⟩
    have HG := hid G
    clear G
    go_wp2_with fail
    go_ret
    exact ⟨g, rfl, HG.out, FIN.out g GQ.out, HB6.out⟩
end Go.Proofs.YtjkefcikepnbpaaGreatDoor

namespace Go.Proofs.YtjkefcikepnbpaaGreatDoor
open Go.RowKit Go.Deep

/-- Sub64: the limb of a difference, and the borrow, under names. -/
theorem sub64' (x y b s b' : Int) (hx : 0 ≤ x) (hx1 : x < 18446744073709551616) (hy : 0 ≤ y) (hy1 : y < 18446744073709551616) (hb0 : 0 ≤ b) (hb : b ≤ 1) (hs : 0 ≤ s ∧ s < 18446744073709551616) (hb' : 0 ≤ b' ∧ b' ≤ 1) (he : s + 18446744073709551616 * (-b') = x + (-y) + (-b)) (w : World) :
    (callFunc 179 #[.int .u64 x, .int .u64 y, .int .u64 b]).run Tryz.prog w = .ok (.value (.tuple #[.int .u64 s, .int .u64 b'])) w := by
  obtain ⟨x, rfl⟩ := Int.eq_ofNat_of_zero_le hx
  obtain ⟨y, rfl⟩ := Int.eq_ofNat_of_zero_le hy
  obtain ⟨b, rfl⟩ := Int.eq_ofNat_of_zero_le hb0
  rw [run_callFunc_extern Tryz.func179 (by kernel_rfl) (by kernel_rfl) (by kernel_rfl) (e := sub64Entry) (by kernel_rfl), run_sub64 x y b (by omega)]
  have e1 : (((x + 18446744073709551616 - y - b) % 18446744073709551616 : Nat) : Int) = s := by omega
  have e2 : ((if x < y + b then 1 else 0 : Nat) : Int) = b' := by split <;> omega
  rw [e1, e2]
  rfl

theorem sub_names (x y b : Int) (hx : 0 ≤ x) (hx1 : x < 18446744073709551616) (hy : 0 ≤ y) (hy1 : y < 18446744073709551616) (hb0 : 0 ≤ b) (hb : b ≤ 1) : ∃ s b' : Int, (0 ≤ s ∧ s < 18446744073709551616) ∧ (0 ≤ b' ∧ b' ≤ 1) ∧ Hid (s + 18446744073709551616 * (-b') = x + (-y) + (-b)) :=
  ⟨(x - y - b) % 18446744073709551616, -((x - y - b) / 18446744073709551616), by omega, by omega, show _ = _ by omega⟩

theorem AddInv.down {g k : Nat} {w : World} {T : Int} {j : Nat} {c : Int} {os : List Int} {wr : World} (h : AddInv g k w T j c os wr) (hj : j < k) {x s c' : Int} (hs0 : 0 ≤ s ∧ s < 18446744073709551616) (hs : s + 18446744073709551616 * c' = os.getD j 0 + x + c) :
    AddInv g k w (T + Nm.pw j * x) (j + 1) c' (os.set j s) (wr.setCell ⟨g, j, none⟩ (.int .u64 s)) := by
  obtain ⟨h1, h2, h3, h4, h5, h6⟩ := h
  exact ⟨h1.set j s, by simpa using h2, h3.set j hs0.1 hs0.2, Nm.add_step (by omega) hs h4, h5.setCell (Nat.le_refl _) _, by simpa [World.setCell] using h6⟩

theorem AddInv.stop {g k : Nat} {w : World} {T : Int} {j : Nat} {b : Int} {os : List Int} {wr : World} (h : AddInv g k w T j (-b) os wr) (hT : 0 ≤ T) (hb : 1 ≤ b) : j < k := by
  obtain ⟨h1, h2, h3, h4, h5, h6⟩ := h
  rcases Nat.lt_or_ge j k with hj | hj
  · exact hj
  · have e1 := Nm.pw_mono hj
    have e2 := (Nm.val_bd os h3).2
    rw [h2] at e2
    have e3 := Nm.pw_pos j
    have e4 : Nm.pw j * 1 ≤ Nm.pw j * b := Int.mul_le_mul_of_nonneg_left hb (by omega)
    rw [Int.mul_neg] at h4
    omega
end Go.Proofs.YtjkefcikepnbpaaGreatDoor

namespace Go.Proofs.YtjkefcikepnbpaaGreatDoor
open Go.RowKit Go.Deep

/-- As AddInv; from limb 'top' on the block is as it was, and so is every other block. -/
def PartInv (g k top : Nat) (w : World) (zs : List Int) (T : Int) (j : Nat) (c : Int) (os : List Int) (wr : World) : Prop :=
  AddInv g k w T j c os wr ∧ (∀ i, top ≤ i → os.getD i 0 = zs.getD i 0) ∧ ∀ b, b ≠ g → wr.heap[b]? = w.heap[b]?

theorem PartInv.step {g k top : Nat} {w : World} {zs : List Int} {T : Int} {j : Nat} {c : Int} {os : List Int} {wr : World} (h : PartInv g k top w zs T j c os wr) (hj : j < k) (ht : j < top) {x s c' : Int}
    (hs0 : 0 ≤ s ∧ s < 18446744073709551616) (hs : s + 18446744073709551616 * c' = os.getD j 0 + x + c) :
    PartInv g k top w zs (T + Nm.pw j * x) (j + 1) c' (os.set j s) (wr.setCell ⟨g, j, none⟩ (.int .u64 s)) := by
  obtain ⟨h1, h2, h3⟩ := h
  refine ⟨h1.down hj hs0 hs, fun i hi => ?_, fun b hb => ?_⟩
  · rw [Nm.getD_set _ _ _ _ (by have := h1.2.1; omega), if_neg (by omega)]
    exact h2 i hi
  · rw [← h3 b hb]
    simp only [World.setCell, Array.getElem?_modify]
    rw [if_neg (by omega)]

theorem PartInv.own {g k top : Nat} {w : World} {zs : List Int} {T : Int} {j : Nat} {c : Int} {os : List Int} {wr : World} (h : PartInv g k top w zs T j c os wr) {b : Nat} {xs : List Int} (ho : Own w b xs) (hb : b ≠ g) : Own wr b xs := by
  simp only [Own] at ho ⊢
  rw [h.2.2 b hb]
  exact ho

/-- The limbs of one round of takeTimes. -/
theorem take_step {x m y c p l h s1 k1 s2 b : Int} (hp : l + 18446744073709551616 * h = p) (hl : 0 ≤ l ∧ l < 18446744073709551616) (hh : 0 ≤ h) (hx : 0 ≤ x ∧ x < 18446744073709551616) (hm : 0 ≤ m ∧ m < 18446744073709551616) (hxm : p = x * m)
    (hy : 0 ≤ y ∧ y < 18446744073709551616) (hc : 0 ≤ c ∧ c < 18446744073709551616) (e1 : s1 = (l + c + 0) % 18446744073709551616) (e2 : k1 = (l + c + 0) / 18446744073709551616)
    (hs : 0 ≤ s2 ∧ s2 < 18446744073709551616) (_hb : 0 ≤ b ∧ b ≤ 1) (e3 : s2 + 18446744073709551616 * (-b) = y + (-s1) + (-0)) :
    (0 ≤ h + k1 + b ∧ h + k1 + b < 18446744073709551616) ∧ s2 + 18446744073709551616 * (-(h + k1 + b)) = y + (-(x * m)) + (-c) := by
  have hbd : x * m ≤ 18446744073709551615 * 18446744073709551615 := Int.mul_le_mul (by omega) (by omega) (by omega) (by omega)
  rw [← hxm] at hbd ⊢
  clear hxm
  omega

set_option maxRecDepth 100000 in
set_option maxHeartbeats 1000000 in
theorem takeTimes_any (g k o n n1 cap : Nat) (zs : List Int) (q : Option Addr) (cap' : Nat) (ys : List Int) (m : Int) (w : World) (hk : zs.length = k) (hkm : k ≤ 35184372088832) (ho : Own w g zs) (hl : Nm.Limbs zs)
    (hn : ys.length = n) (hn0 : 0 < n) (hn1 : n < n1) (hon : o + n < k) (hy : Lies w q ys) (hly : Nm.Limbs ys) (hq : ∀ a, q = some a → a.block < g) (hm0 : 0 ≤ m) (hm1 : m < 18446744073709551616) :
    Calls Tryz.prog 172 #[.slice (some ⟨g, o, none⟩) n1 cap, .slice q n cap', .int .u64 m] w fun e w' => ∃ (c : Int) (os : List Int), e = .returned (.int .u64 c) ∧ (0 ≤ c ∧ c ≤ 1) ∧
      Hid (PartInv g k (o + n + 1) w zs (Nm.val zs + Nm.pw o * (-(Nm.val ys * m))) (o + n + 1) (-c) os w') := by
  obtain ⟨b, off, rfl, hbw, HC⟩ := hy.at (by omega)
  have hbg : b < g := hq _ rfl
  have I0 : PartInv g k (o + n + 1) w zs (Nm.val zs + Nm.pw o * (-(Nm.val (ys.take 0) * m))) (o + 0) (-0) zs w := ⟨⟨ho, hk, hl, by simp [Nm.val], Below.refl _ _, rfl⟩, fun _ _ => rfl, fun _ _ => rfl⟩
  have HM : Hid (ys.length = n) := hn
  have HY : Hid (Nm.Limbs ys) := hly
  clear hn hly hq ho hk hl hy
  go_enter Tryz.func172, Tryz.ntmps172
  go_wp2
  go_loopw [7, 19] (fun c i wr => ∃ (j : Nat) (cc : Int) (os : List Int), j ≤ n ∧ i = .int .i64 j ∧ c = .int .u64 cc ∧ (0 ≤ cc ∧ cc < 18446744073709551616) ∧ PartInv g k (o + n + 1) w zs (Nm.val zs + Nm.pw o * (-(Nm.val (ys.take j) * m))) (o + j) (-cc) os wr) (fun _ i _ => n - (intOf i).toNat)
  case atStart => exact ⟨0, 0, zs, Nat.zero_le _, rfl, rfl, by omega, I0⟩
  case round =>
    clear I0
    obtain ⟨j, cc, os, hj, rfl, rfl, ⟨hcc0, hcc1⟩, I⟩ := hrel
    by_cases hlt : j < n
    · obtain ⟨x, hx, X⟩ : ∃ x, wr.cell? ⟨b, off + j, none⟩ = some (.int .u64 x) ∧ Hid (x = ys.getD j 0) :=
        ⟨_, (I.1.2.2.2.2.1.cell (p := ⟨b, off + j, none⟩) hbg).trans (HC.out j (by have := HM.out; omega)), rfl⟩
      obtain ⟨y, hyc, Y⟩ : ∃ y, wr.cell? ⟨g, o + j, none⟩ = some (.int .u64 y) ∧ Hid (y = os.getD (o + j) 0) := ⟨_, I.1.1.cell (o + j) (by have := I.1.2.1; omega), rfl⟩
      have hfr := I.1.1.free (o + j)
      have hx0 : 0 ≤ x ∧ x < 18446744073709551616 := by have := HY.out.at j; have := X.out; omega
      have hy0 : 0 ≤ y ∧ y < 18446744073709551616 := by have := I.1.2.2.1.at (o + j); have := Y.out; omega
      obtain ⟨hx0, hx1⟩ := hx0
      obtain ⟨hy0, hy1⟩ := hy0
      have hjn1 : (j : Int) < (n1 : Int) := by omega
      go_wp2_with fail
      refine (mul64 x m hx0 hx1 hm0 hm1 _).mono ?_
      rintro e w' ⟨h, l, rfl, ⟨hh0, hh1, hl0, hl1⟩, P1, _, rfl⟩
      obtain ⟨s1, S1⟩ : ∃ s, Hid (s = (l + cc + 0) % 18446744073709551616) := ⟨_, rfl⟩
      obtain ⟨k1, K1⟩ : ∃ c, Hid (c = (l + cc + 0) / 18446744073709551616) := ⟨_, rfl⟩
      have hs1 : 0 ≤ s1 := by have := S1.out; omega
      have hs2 : s1 < 18446744073709551616 := by have := S1.out; omega
      obtain ⟨s2, b2, ⟨t0, t1⟩, ⟨t2, t3⟩, S2⟩ := sub_names y s1 0 hy0 hy1 hs1 hs2 (Int.le_refl 0) (by decide)
      have ST := hid (take_step P1.out ⟨hl0, hl1⟩ hh0 ⟨hx0, hx1⟩ ⟨hm0, hm1⟩ rfl ⟨hy0, hy1⟩ ⟨hcc0, hcc1⟩ S1.out K1.out ⟨t0, t1⟩ ⟨t2, t3⟩ S2.out)
      have hk1 : 0 ≤ k1 := by have := K1.out; omega
      have hkk : h + k1 + b2 < 18446744073709551616 := ST.out.1.2
      go_wp2_with (first | simp only [add64' l cc 0 s1 k1 hl0 hcc0 (Int.le_refl 0) (by decide) S1.out K1.out] | simp only [sub64' y s1 0 s2 b2 hy0 hy1 hs1 hs2 (Int.le_refl 0) (by decide) ⟨t0, t1⟩ ⟨t2, t3⟩ S2.out])
      go_roundw
      case rel =>
        have hst := I.step (by omega) (by omega) (x := -(x * m)) (s := s2) (c' := -(h + k1 + b2)) ⟨t0, t1⟩ (by rw [← Y.out]; exact ST.out.2)
        refine ⟨j + 1, h + k1 + b2, os.set (o + j) s2, by omega, by go_num, rfl, ST.out.1, ?_⟩
        have e : Nm.val zs + Nm.pw o * (-(Nm.val (ys.take (j + 1)) * m)) = Nm.val zs + Nm.pw o * (-(Nm.val (ys.take j) * m)) + Nm.pw (o + j) * (-(x * m)) := by
          rw [Nm.val_take_succ ys j (by have := HM.out; omega), ← X.out, Nm.pw_add, Int.add_mul, Int.mul_neg, Int.mul_neg, Int.mul_neg, Int.mul_add, Int.mul_assoc, Int.mul_assoc]
          omega
        rw [e]
        exact hst
      case measure => simp [intOf]; omega
    · have hjn : j = n := by omega
      subst hjn
      rw [List.take_of_length_le (by have := HM.out; omega)] at I
      obtain ⟨y, hyc, Y⟩ : ∃ y, wr.cell? ⟨g, o + j, none⟩ = some (.int .u64 y) ∧ Hid (y = os.getD (o + j) 0) := ⟨_, I.1.1.cell (o + j) (by have := I.1.2.1; omega), rfl⟩
      have hfr := I.1.1.free (o + j)
      have hy0 : 0 ≤ y ∧ y < 18446744073709551616 := by have := I.1.2.2.1.at (o + j); have := Y.out; omega
      obtain ⟨hy0, hy1⟩ := hy0
      obtain ⟨s2, b2, ⟨t0, t1⟩, ⟨t2, t3⟩, S2⟩ := sub_names y cc 0 hy0 hy1 hcc0 hcc1 (Int.le_refl 0) (by decide)
      have hst := I.step (by omega) (by omega) (x := 0) (s := s2) (c' := -b2) ⟨t0, t1⟩ (by rw [← Y.out]; have := S2.out; omega)
      rw [Int.mul_zero, Int.add_zero] at hst
      have HS := hid hst
      clear hst I
      go_wp2_with (simp only [sub64' y cc 0 s2 b2 hy0 hy1 hcc0 hcc1 (Int.le_refl 0) (by decide) ⟨t0, t1⟩ ⟨t2, t3⟩ S2.out])
      go_ret
      exact ⟨b2, os.set (o + j) s2, rfl, ⟨t2, t3⟩, HS.out⟩

set_option maxRecDepth 100000 in
set_option maxHeartbeats 1000000 in
theorem giveBack_any (g k o n n1 cap : Nat) (zs : List Int) (q : Option Addr) (cap' : Nat) (ys : List Int) (w : World) (hk : zs.length = k) (hkm : k ≤ 35184372088832) (ho : Own w g zs) (hl : Nm.Limbs zs)
    (hn : ys.length = n) (hn0 : 0 < n) (hn1 : n < n1) (hon : o + n < k) (hy : Lies w q ys) (hly : Nm.Limbs ys) (hq : ∀ a, q = some a → a.block < g) :
    Calls Tryz.prog 173 #[.slice (some ⟨g, o, none⟩) n1 cap, .slice q n cap'] w fun e w' => ∃ (c : Int) (os : List Int), e = .returned (.int .u64 c) ∧ (0 ≤ c ∧ c ≤ 1) ∧
      Hid (PartInv g k (o + n + 1) w zs (Nm.val zs + Nm.pw o * Nm.val ys) (o + n + 1) c os w') := by
  obtain ⟨b, off, rfl, hbw, HC⟩ := hy.at (by omega)
  have hbg : b < g := hq _ rfl
  have I0 : PartInv g k (o + n + 1) w zs (Nm.val zs + Nm.pw o * Nm.val (ys.take 0)) (o + 0) 0 zs w := ⟨⟨ho, hk, hl, by simp [Nm.val], Below.refl _ _, rfl⟩, fun _ _ => rfl, fun _ _ => rfl⟩
  have HM : Hid (ys.length = n) := hn
  have HY : Hid (Nm.Limbs ys) := hly
  clear hn hly hq ho hk hl hy
  go_enter Tryz.func173, Tryz.ntmps173
  go_wp2
  go_loopw [5, 10] (fun c i wr => ∃ (j : Nat) (cc : Int) (os : List Int), j ≤ n ∧ i = .int .i64 j ∧ c = .int .u64 cc ∧ (0 ≤ cc ∧ cc ≤ 1) ∧ PartInv g k (o + n + 1) w zs (Nm.val zs + Nm.pw o * Nm.val (ys.take j)) (o + j) cc os wr) (fun _ i _ => n - (intOf i).toNat)
  case atStart => exact ⟨0, 0, zs, Nat.zero_le _, rfl, rfl, by omega, I0⟩
  case round =>
    clear I0
    obtain ⟨j, cc, os, hj, rfl, rfl, ⟨hcc0, hcc1⟩, I⟩ := hrel
    by_cases hlt : j < n
    · obtain ⟨x, hx, X⟩ : ∃ x, wr.cell? ⟨b, off + j, none⟩ = some (.int .u64 x) ∧ Hid (x = ys.getD j 0) :=
        ⟨_, (I.1.2.2.2.2.1.cell (p := ⟨b, off + j, none⟩) hbg).trans (HC.out j (by have := HM.out; omega)), rfl⟩
      obtain ⟨y, hyc, Y⟩ : ∃ y, wr.cell? ⟨g, o + j, none⟩ = some (.int .u64 y) ∧ Hid (y = os.getD (o + j) 0) := ⟨_, I.1.1.cell (o + j) (by have := I.1.2.1; omega), rfl⟩
      have hfr := I.1.1.free (o + j)
      have hx0 : 0 ≤ x ∧ x < 18446744073709551616 := by have := HY.out.at j; have := X.out; omega
      have hy0 : 0 ≤ y ∧ y < 18446744073709551616 := by have := I.1.2.2.1.at (o + j); have := Y.out; omega
      obtain ⟨hx0, hx1⟩ := hx0
      obtain ⟨hy0, hy1⟩ := hy0
      have hjn1 : (j : Int) < (n1 : Int) := by omega
      obtain ⟨s, S⟩ : ∃ s, Hid (s = (y + x + cc) % 18446744073709551616) := ⟨_, rfl⟩
      obtain ⟨c', C⟩ : ∃ c', Hid (c' = (y + x + cc) / 18446744073709551616) := ⟨_, rfl⟩
      have hs0 : 0 ≤ s ∧ s < 18446744073709551616 := by have := S.out; omega
      have hc0 : 0 ≤ c' ∧ c' ≤ 1 := by have := C.out; omega
      have SE : Hid (s + 18446744073709551616 * c' = y + x + cc) := by show _ = _; have := S.out; have := C.out; omega
      go_wp2_with (simp only [add64' y x cc s c' hy0 hx0 hcc0 hcc1 S.out C.out])
      go_roundw
      case rel =>
        have hst := I.step (by omega) (by omega) (x := x) (s := s) (c' := c') hs0 (by rw [← Y.out]; exact SE.out)
        refine ⟨j + 1, c', os.set (o + j) s, by omega, by go_num, rfl, hc0, ?_⟩
        have e : Nm.val zs + Nm.pw o * Nm.val (ys.take (j + 1)) = Nm.val zs + Nm.pw o * Nm.val (ys.take j) + Nm.pw (o + j) * x := by
          rw [Nm.val_take_succ ys j (by have := HM.out; omega), ← X.out, Nm.pw_add, Int.mul_add, Int.mul_assoc]
          omega
        rw [e]
        exact hst
      case measure => simp [intOf]; omega
    · have hjn : j = n := by omega
      subst hjn
      rw [List.take_of_length_le (by have := HM.out; omega)] at I
      obtain ⟨y, hyc, Y⟩ : ∃ y, wr.cell? ⟨g, o + j, none⟩ = some (.int .u64 y) ∧ Hid (y = os.getD (o + j) 0) := ⟨_, I.1.1.cell (o + j) (by have := I.1.2.1; omega), rfl⟩
      have hfr := I.1.1.free (o + j)
      have hy0 : 0 ≤ y ∧ y < 18446744073709551616 := by have := I.1.2.2.1.at (o + j); have := Y.out; omega
      obtain ⟨hy0, hy1⟩ := hy0
      obtain ⟨s, S⟩ : ∃ s, Hid (s = (y + 0 + cc) % 18446744073709551616) := ⟨_, rfl⟩
      obtain ⟨c', C⟩ : ∃ c', Hid (c' = (y + 0 + cc) / 18446744073709551616) := ⟨_, rfl⟩
      have hs0 : 0 ≤ s ∧ s < 18446744073709551616 := by have := S.out; omega
      have hc0 : 0 ≤ c' ∧ c' ≤ 1 := by have := C.out; omega
      have hst := I.step (by omega) (by omega) (x := 0) (s := s) (c' := c') hs0 (by rw [← Y.out]; have := S.out; have := C.out; omega)
      rw [Int.mul_zero, Int.add_zero] at hst
      have HS := hid hst
      clear hst I
      go_wp2_with (simp only [add64' y 0 cc s c' hy0 (Int.le_refl 0) hcc0 hcc1 S.out C.out])
      go_ret
      exact ⟨c', os.set (o + j) s, rfl, hc0, HS.out⟩
end Go.Proofs.YtjkefcikepnbpaaGreatDoor
