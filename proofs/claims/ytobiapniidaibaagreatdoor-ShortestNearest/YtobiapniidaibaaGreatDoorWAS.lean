/-
  Texts put together: LNum3, LNum4, LNearN, LFmt, LFmt2, LGt, LLaw.
-/
import Derived.Test.YtobiapniidaibaaGreatDoorWAO
import Derived.Test.YtobiapniidaibaaGreatDoorWAI
import Derived.Test.YtobiapniidaibaaGreatDoorWAC
import Derived.Lib.AppendIntMem
import Derived.Shelf.Abstract
import Derived.Test.YtobiapniidaibaaGreatDoorWAB
import Derived.Deep.LoopGhost
namespace Go.Proofs.YtobiapniidaibaaGreatDoor
open Go.RowKit Go.Deep
namespace Sh

theorem dg_of {xs : List Int} (h : Digs xs) : ∀ x ∈ xs, Sc.dg x = true := fun x hx => Sc.dg_iff.2 (h x hx)
theorem dv_head0 : ∀ (j : Nat) (xs : List Int), (∀ i, i < j → Sc.pk xs i = 48) → j ≤ xs.length → dv xs = dv (xs.drop j)
  | 0, xs, _, _ => by rw [List.drop_zero]
  | j + 1, [], _, h => by simp at h
  | j + 1, x :: xs, h, hl => by
    have hx : x = 48 := h 0 (by omega)
    rw [dv_cons, hx, Int.sub_self, Int.zero_mul, Int.zero_add, List.drop_succ_cons]
    exact dv_head0 j xs (fun i hi => h (i + 1) (by omega)) (by simpa using hl)

/-- The normal form's number. -/
theorem nrm_uv {xs : List Int} {q : Int} (hd : Digs xs) (hq : -1075 ≤ q) : Ok (Sc.nrm false xs q) ∧ uv (Sc.nrm false xs q) = dv xs * 10 ^ (q + 1075).toNat := by
  by_cases hz : Sc.lz xs = xs.length
  · rw [Sc.nrm_zero hz]
    refine ⟨⟨rfl, by show (-1075 : Int) ≤ 0; omega, .inl ⟨rfl, rfl⟩⟩, ?_⟩
    have e := dv_head0 (Sc.lz xs) xs (fun i hi => Sc.lz_at hi) (Sc.lz_le xs)
    rw [hz, List.drop_length] at e
    rw [uv_zero rfl, e, show dv [] = 0 from rfl, Int.zero_mul]
  · rw [Sc.nrm_pos hz]
    have lt := Sc.lz_tz hz
    have hdd : Digs (xs.drop (Sc.lz xs)) := fun d h => hd d (List.mem_of_mem_drop h)
    have hh : (xs.drop (Sc.lz xs)).getD 0 0 ≠ 48 := by
      have := Sc.lz_end xs
      have e := Sc.pk_drop xs (Sc.lz xs) 0
      rw [Nat.add_zero] at e
      unfold Sc.pk at e this
      rw [e]
      exact this
    have hlen : (xs.drop (Sc.lz xs)).length = xs.length - Sc.lz xs := List.length_drop
    have hv : 0 < dv (xs.drop (Sc.lz xs)) := by
      obtain ⟨n, hn⟩ : ∃ n, (xs.drop (Sc.lz xs)).length = n + 1 := ⟨xs.length - Sc.lz xs - 1, by omega⟩
      have := Fx.head_low hdd hn hh
      have := Fx.p_pos n
      omega
    obtain ⟨kp, nm, v⟩ := Fx.nml_take (ys := xs.drop (Sc.lz xs)) (k := xs.length - Sc.tz xs - Sc.lz xs) hdd hh (by omega) (fun i h1 h2 => by
      have e := Sc.pk_drop xs (Sc.lz xs) i
      unfold Sc.pk at e
      rw [e]
      exact Sc.tz_at (by omega) (by omega)) (fun h => by
      have e := Sc.pk_drop xs (Sc.lz xs) (xs.length - Sc.tz xs - Sc.lz xs - 1)
      have t := Sc.tz_end (ds := xs) (by omega)
      unfold Sc.pk at e t
      rw [e, show Sc.lz xs + (xs.length - Sc.tz xs - Sc.lz xs - 1) = xs.length - Sc.tz xs - 1 by omega]
      exact t) hv
    rw [hlen, show xs.length - Sc.lz xs - (xs.length - Sc.tz xs - Sc.lz xs) = Sc.tz xs by omega] at v
    refine ⟨⟨rfl, by show -1075 ≤ q + Sc.tz xs; omega, .inr nm⟩, ?_⟩
    show dv _ * 10 ^ (q + Sc.tz xs + 1075).toNat = _
    rw [dv_head0 (Sc.lz xs) xs (fun i hi => Sc.lz_at hi) (Sc.lz_le xs), ← v, show (q + (Sc.tz xs : Int) + 1075).toNat = Sc.tz xs + (q + 1075).toNat by omega, Int.pow_add, Int.mul_assoc]
theorem nrm_dd {xs : List Int} {q : Int} (hd : Digs xs) (hq : -1075 ≤ q) : Sc.nrm false xs q = dd (dv xs * 10 ^ (q + 1075).toNat) := by
  have h := nrm_uv hd hq
  rw [← h.2]
  exact h.1.is

theorem isdec {xs : List Int} {q : Int} (hd : Digs xs) (hn : xs ≠ []) (h0 : -1075 ≤ q) (h1 : q ≤ 100000) (hl : xs.length ≤ 100000) : Sc.IsDec xs q := ⟨hn, by omega, by omega, dg_of hd, fun _ => by have := Sc.tz_le xs; omega⟩

/-- A row's head and tail. -/
theorem dv_cut {xs : List Int} {n : Nat} : dv xs = dv (xs.take n) * 10 ^ (xs.length - n) + dv (xs.drop n) := by
  conv => lhs; rw [← List.take_append_drop n xs]
  rw [dv_append, List.length_drop]

/-- The tail against a half. -/
def gt5 (t : List Int) : Bool := decide (53 < t.getD 0 0 ∨ (t.getD 0 0 = 53 ∧ 1 < t.length))
theorem tail5 {t : List Int} (hd : Digs t) (hn : t ≠ []) (hl : t.getD (t.length - 1) 0 ≠ 48) : (gt5 t = true ↔ 10 ^ t.length < 2 * dv t) ∧ (t = [53] ↔ 10 ^ t.length = 2 * dv t) := by
  match t, hn with
  | x :: r, _ =>
    have hx := hd x (by simp)
    have hr : Digs r := fun d h => hd d (by simp [h])
    have b := dv_bd hr
    have e1 : (10 : Int) ^ (x :: r).length = 10 ^ r.length * 10 := by rw [List.length_cons, Int.pow_succ]
    have pp := Fx.p_pos r.length
    have g : (x :: r).getD 0 0 = x := rfl
    have rp : r ≠ [] → 0 < dv r := by
      intro c
      obtain ⟨n, hn⟩ : ∃ n, r.length = n + 1 := ⟨r.length - 1, by have := List.length_pos_iff.2 c; omega⟩
      have q := Fx.dv_mod hr hn
      rw [List.length_cons, hn] at hl
      have q2 := Fx.digs_getD hr (show n < r.length by omega)
      have q3 : (x :: r).getD (n + 1 + 1 - 1) 0 = r.getD n 0 := rfl
      rw [q3] at hl
      omega
    have rn : r = [] ∨ r ≠ [] := by by_cases c : r = []; exact .inl c; exact .inr c
    have rl : r ≠ [] → 1 < (x :: r).length := fun c => by have := List.length_pos_iff.2 c; simp; omega
    unfold gt5
    rw [e1, dv_cons, g, decide_eq_true_iff]
    obtain ⟨y, hy⟩ : ∃ y, x - 48 = y := ⟨_, rfl⟩
    rw [hy]
    have lo : y ≤ 4 → y * 10 ^ r.length ≤ 4 * 10 ^ r.length := fun c => Int.mul_le_mul_of_nonneg_right c (Int.le_of_lt pp)
    have hi : 6 ≤ y → 6 * 10 ^ r.length ≤ y * 10 ^ r.length := fun c => Int.mul_le_mul_of_nonneg_right c (Int.le_of_lt pp)
    have mi : y = 5 → y * 10 ^ r.length = 5 * 10 ^ r.length := fun c => by rw [c]
    rcases rn with c | c
    · subst c
      have z : dv [] = 0 := rfl
      simp only [List.length_cons, List.length_nil, z, Int.pow_zero] at *
      constructor
      · omega
      · constructor
        · intro q; simp at q; omega
        · intro q; rw [show x = 53 by omega]
    · have r1 := rp c
      have r2 := rl c
      generalize (10 : Int) ^ r.length = P at *
      generalize y * P = Y at *
      have ne : x :: r ≠ [53] := fun q => c (List.cons.inj q).2
      constructor
      · constructor
        · intro q
          rcases (show y = 5 ∨ 6 ≤ y by omega) with k | k
          · have := mi k; omega
          · have := hi k; omega
        · intro q
          rcases (show y ≤ 4 ∨ 5 ≤ y by omega) with k | k
          · have := lo k; omega
          · omega
      · constructor
        · intro q; exact absurd q ne
        · intro q
          exfalso
          rcases (show y ≤ 4 ∨ y = 5 ∨ 6 ≤ y by omega) with k | k | k
          · have := lo k; omega
          · have := mi k; omega
          · have := hi k; omega

/-- What within looks at: the head's number, the tail, the step. -/
theorem head_is {U : Int} {n : Nat} (h : 0 < U) (h1 : 1 ≤ n) (hn : n < ln U) : dv ((dd U).ds.take n) = U / st U n ∧ (decide (gt5 ((dd U).ds.drop n) = true ∨ ((dd U).ds.drop n = [53] ∧ dv ((dd U).ds.take n) % 2 = 1)) = upB U (st U n)) ∧ dv ((dd U).ds.take n) < 10 ^ n := by
  have o := dd_is (Int.le_of_lt h)
  have nm := o.1.nml (by rw [o.2]; exact h)
  have lo := o.1.lo
  have hv : dv (dd U).ds * 10 ^ ((dd U).e + 1075).toNat = U := o.2
  have hl : (dd U).ds.length = ln U := rfl
  have c := dv_cut (xs := (dd U).ds) (n := n)
  have td : Digs ((dd U).ds.drop n) := fun d q => nm.digs d (List.mem_of_mem_drop q)
  have tt : Digs ((dd U).ds.take n) := fun d q => nm.digs d (List.mem_of_mem_take q)
  have tn : (dd U).ds.drop n ≠ [] := by
    intro q
    have := congrArg List.length q
    rw [List.length_drop] at this
    simp at this
    omega
  have tl : ((dd U).ds.drop n).length = ln U - n := by rw [List.length_drop, hl]
  have tlast : ((dd U).ds.drop n).getD (((dd U).ds.drop n).length - 1) 0 ≠ 48 := by
    have e := Sc.pk_drop (dd U).ds n (((dd U).ds.drop n).length - 1)
    unfold Sc.pk at e
    rw [e, tl, show n + (ln U - n - 1) = (dd U).ds.length - 1 by omega]
    exact nm.last
  obtain ⟨t1, t2⟩ := tail5 td tn tlast
  have tb := dv_bd td
  rw [tl] at t1 t2 tb
  have es : st U n = 10 ^ (ln U - n) * 10 ^ ((dd U).e + 1075).toNat := by
    unfold st
    rw [← Int.pow_add]
    congr 1
    omega
  have p1 := Fx.p_pos (ln U - n)
  have p2 := Fx.p_pos ((dd U).e + 1075).toNat
  have eU : U = dv ((dd U).ds.take n) * st U n + dv ((dd U).ds.drop n) * 10 ^ ((dd U).e + 1075).toNat := by
    rw [hl] at c
    rw [es, ← Int.mul_assoc, ← Int.add_mul, ← c]
    exact hv.symm
  have hb := (dv_bd tt).2
  rw [List.length_take, hl, Nat.min_eq_left (by omega)] at hb
  generalize dv ((dd U).ds.take n) = H at *
  generalize dv ((dd U).ds.drop n) = R at *
  generalize (10 : Int) ^ ((dd U).e + 1075).toNat = Q at *
  generalize (10 : Int) ^ (ln U - n) = P at *
  have sp := st_pos U n
  have r0 : 0 ≤ R * Q := Int.mul_nonneg tb.1 (Int.le_of_lt p2)
  have r1 : R * Q < st U n := by rw [es]; exact Int.mul_lt_mul_of_pos_right tb.2 p2
  have hdv : U / st U n = H := by
    have g1 : H ≤ U / st U n := (Int.le_ediv_iff_mul_le sp).2 (by omega)
    have g2 : U / st U n < H + 1 := (Int.ediv_lt_iff_lt_mul sp).2 (by rw [Int.add_mul, Int.one_mul]; omega)
    omega
  have hmd : U % st U n = R * Q := by
    have := (divS (U := U) sp).1
    rw [hdv] at this
    omega
  refine ⟨hdv.symm, ?_, hb⟩
  unfold upB
  rw [hmd, hdv, es]
  congr 1
  have i1 : 10 ^ 0 * (P * Q) < 2 * (R * Q) ↔ P < 2 * R := by
    rw [show (2 : Int) * (R * Q) = 2 * R * Q by rw [Int.mul_assoc], Int.pow_zero, Int.one_mul]
    exact Int.mul_lt_mul_right p2
  have i2 : P * Q = 2 * (R * Q) ↔ P = 2 * R := by
    rw [show (2 : Int) * (R * Q) = 2 * R * Q by rw [Int.mul_assoc]]
    exact ⟨fun q => Int.eq_of_mul_eq_mul_right (by omega) q, fun q => by rw [q]⟩
  rw [Int.pow_zero, Int.one_mul] at i1
  rw [i1, i2, t1, t2]
end Sh
end Go.Proofs.YtobiapniidaibaaGreatDoor

namespace Go.Proofs.YtobiapniidaibaaGreatDoor
open Go.RowKit Go.Deep
namespace Sh

/-- One less than the least number of figures. -/
def IsN (a : Int) (f : Nat) : Prop := f ≤ 16 ∧ (∀ i, i < f → (wn a (i + 1)).isSome = false) ∧ (f < 16 → (wn a (f + 1)).isSome = true)
theorem isn_ex (a : Int) : ∃ f, IsN a f := by
  have key : ∀ k, k ≤ 16 → (∃ f, IsN a f) ∨ (∀ i, i < k → (wn a (i + 1)).isSome = false) := by
    intro k
    induction k with
    | zero => intro _; exact .inr fun i h => by omega
    | succ k ih =>
      intro hk
      rcases ih (by omega) with c | c
      · exact .inl c
      · cases h : (wn a (k + 1)).isSome with
        | true => exact .inl ⟨k, by omega, c, fun _ => h⟩
        | false =>
          refine .inr fun i hi => ?_
          rcases (show i < k ∨ i = k by omega) with q | q
          · exact c i q
          · rw [q]; exact h
  rcases key 16 (by omega) with c | c
  · exact c
  · exact ⟨16, by omega, c, fun h => by omega⟩
theorem IsN.one {a : Int} {f g : Nat} (h : IsN a f) (k : IsN a g) : f = g := by
  rcases Nat.lt_trichotomy f g with c | c | c
  · have h1 := h.2.2 (by have := k.1; omega)
    rw [k.2.1 f c] at h1
    exact absurd h1 (by decide)
  · exact c
  · have h1 := k.2.2 (by have := h.1; omega)
    rw [h.2.1 g c] at h1
    exact absurd h1 (by decide)
noncomputable def n0 (a : Int) : Nat := Classical.choose (isn_ex a)
theorem n0_is (a : Int) : IsN a (n0 a) := Classical.choose_spec (isn_ex a)
/-- What a search by halving tells. -/
theorem isn_of {a : Int} {f : Nat} (ha : 0 ≤ a) (hf : f ≤ 16) (h1 : 0 < f → (wn a f).isSome = false) (h2 : f < 16 → (wn a (f + 1)).isSome = true) : f = n0 a := by
  refine IsN.one ⟨hf, fun i hi => ?_, h2⟩ (n0_is a)
  have up : ∀ k : Nat, (wn a (i + 1)).isSome = true → (wn a (i + 1 + k)).isSome = true := by
    intro k
    induction k with
    | zero => exact fun h => h
    | succ k ih => exact fun h => wn_mono ha (ih h)
  cases h : (wn a (i + 1)).isSome with
  | false => rfl
  | true =>
    have q := up (f - (i + 1)) h
    rw [show i + 1 + (f - (i + 1)) = f by omega, h1 (by omega)] at q
    exact absurd q (by decide)
theorem ln0 : ln (V 0) = 1 := by rw [V_zero, ln, dd_zero]; rfl
theorem wn_zero {n : Nat} (h : 1 ≤ n) : wn 0 n = some 0 := by
  unfold wn
  rw [if_pos (by rw [ln0]; exact h), V_zero]
theorem wn_17 {a : Int} (ha : 0 ≤ a) : (wn a 17).isSome = true := by
  rcases (show a = 0 ∨ 0 < a by omega) with c | c
  · rw [c, wn_zero (by omega)]; rfl
  · exact wn17 c
/-- What Digits tells. -/
noncomputable def dgt (a : Int) : Int := (wn a (n0 a + 1)).getD 0
theorem wn_dgt {a : Int} (ha : 0 ≤ a) : wn a (n0 a + 1) = some (dgt a) := by
  have h : (wn a (n0 a + 1)).isSome = true := by
    obtain ⟨h1, h2, h3⟩ := n0_is a
    rcases (show n0 a < 16 ∨ n0 a = 16 by omega) with c | c
    · exact h3 c
    · rw [c]; exact wn_17 ha
  obtain ⟨U, hU⟩ := Option.isSome_iff_exists.1 h
  unfold dgt
  rw [hU]
  rfl
theorem n0_le (a : Int) : n0 a ≤ 16 := (n0_is a).1
theorem dgt_zero : dgt 0 = 0 := by
  have := wn_dgt (Int.le_refl 0)
  rw [wn_zero (by omega)] at this
  exact (Option.some.inj this).symm

/-- Closed ones. -/
theorem dd_eq {D : Sc.D} {U : Int} (h : Ok D) (k : uv D = U) : dd U = D := by rw [← k]; exact h.is.symm
theorem ok_of (xs : List Int) (e : Int) (h1 : (xs.all fun x => decide (48 ≤ x) && decide (x ≤ 57)) = true) (h2 : xs ≠ []) (h3 : xs.getD 0 0 ≠ 48) (h4 : xs.getD (xs.length - 1) 0 ≠ 48) (h5 : -1075 ≤ e) : Ok ⟨false, xs, e⟩ :=
  ⟨rfl, h5, .inr ⟨fun d hd => by have := List.all_eq_true.1 h1 d hd; simpa using this, h2, h3, h4⟩⟩
theorem wn_at {a : Int} {n : Nat} {D : Sc.D} {U S : Int} (hD : dd (V a) = D) (hl : n < D.ds.length) (hS : 10 ^ (D.e + ((D.ds.length : Int) - n) + 1075).toNat = S) (h1 : inB a (k1 (V a) S * S) = true) (hU : k1 (V a) S * S = U) : wn a n = some U := by
  have e1 : ln (V a) = D.ds.length := by rw [ln, hD]
  have e2 : st (V a) n = S := by rw [st, e1, hD, hS]
  unfold wn
  rw [if_neg (by omega), e2, if_pos h1, hU]
theorem wn_not {a : Int} {n : Nat} {D : Sc.D} {S : Int} (hD : dd (V a) = D) (hl : n < D.ds.length) (hS : 10 ^ (D.e + ((D.ds.length : Int) - n) + 1075).toNat = S) (h1 : inB a (k1 (V a) S * S) = false) (h2 : inB a (k2 (V a) S * S) = false) : wn a n = none := by
  have e1 : ln (V a) = D.ds.length := by rw [ln, hD]
  have e2 : st (V a) n = S := by rw [st, e1, hD, hS]
  unfold wn
  rw [if_neg (by omega), e2, if_neg (by rw [h1]; decide), if_neg (by rw [h2]; decide)]
theorem wn_all {a : Int} {n : Nat} {D : Sc.D} (hD : dd (V a) = D) (hl : D.ds.length ≤ n) : wn a n = some (V a) := by
  have e1 : ln (V a) = D.ds.length := by rw [ln, hD]
  unfold wn
  rw [if_pos (by omega)]

/-- The exact digits of the doubles next to 0.1 and 1/3; of 2.5. -/
def tenth : List Int := [49,48,48,48,48,48,48,48,48,48,48,48,48,48,48,48,48,53,53,53,49,49,49,53,49,50,51,49,50,53,55,56,50,55,48,50,49,49,56,49,53,56,51,52,48,52,53,52,49,48,49,53,54,50,53]
def third : List Int := [51,51,51,51,51,51,51,51,51,51,51,51,51,51,51,51,49,52,56,50,57,54,49,54,50,53,54,50,52,55,51,57,48,57,57,50,57,51,57,52,55,50,49,57,56,52,56,54,51,50,56,49,50,53]
def threes : List Int := [51,51,51,51,51,51,51,51,51,51,51,51,51,51,51,51]
set_option maxRecDepth 100000 in
theorem dd01 : dd (V 4591870180066957722) = ⟨false, tenth, -55⟩ := dd_eq (ok_of _ _ (by decide +kernel) (by decide +kernel) (by decide +kernel) (by decide +kernel) (by decide)) (by decide +kernel)
set_option maxRecDepth 100000 in
theorem dd13 : dd (V 4599676419421066581) = ⟨false, third, -54⟩ := dd_eq (ok_of _ _ (by decide +kernel) (by decide +kernel) (by decide +kernel) (by decide +kernel) (by decide)) (by decide +kernel)
set_option maxRecDepth 100000 in
theorem dd25 : dd (V 4612811918334230528) = ⟨false, [50, 53], -1⟩ := dd_eq (ok_of _ _ (by decide +kernel) (by decide +kernel) (by decide +kernel) (by decide +kernel) (by decide)) (by decide +kernel)
theorem wn01 : wn 4591870180066957722 1 = some (10 ^ 1074) := wn_at (S := 10 ^ 1074) dd01 (by decide +kernel) (by decide +kernel) (by decide +kernel) (by decide +kernel)
theorem wn13 : wn 4599676419421066581 16 = some (3333333333333333 * 10 ^ 1059) := wn_at (S := 10 ^ 1059) dd13 (by decide +kernel) (by decide +kernel) (by decide +kernel) (by decide +kernel)
theorem wn25 : wn 4612811918334230528 1 = none := wn_not (S := 10 ^ 1075) dd25 (by decide +kernel) (by decide +kernel) (by decide +kernel) (by decide +kernel)
theorem wn25b : wn 4612811918334230528 2 = some (V 4612811918334230528) := wn_all dd25 (by decide +kernel)
theorem n001 : n0 4591870180066957722 = 0 := (isn_of (by decide) (by decide) (fun h => absurd h (by decide)) (fun _ => by rw [show 0 + 1 = 1 from rfl, wn01]; rfl)).symm
theorem n025 : n0 4612811918334230528 = 1 := (isn_of (by decide) (by decide) (fun _ => by rw [wn25]; rfl) (fun _ => by rw [show 1 + 1 = 2 from rfl, wn25b]; rfl)).symm
theorem dgt01 : dgt 4591870180066957722 = 10 ^ 1074 := by rw [dgt, n001, show 0 + 1 = 1 from rfl, wn01]; rfl
theorem dgt25 : dgt 4612811918334230528 = V 4612811918334230528 := by rw [dgt, n025, show 1 + 1 = 2 from rfl, wn25b]; rfl
set_option maxRecDepth 100000 in
theorem ddt01 : dd (10 ^ 1074) = ⟨false, [49], -1⟩ := dd_eq (ok_of _ _ (by decide +kernel) (by decide +kernel) (by decide +kernel) (by decide +kernel) (by decide)) (by decide +kernel)
set_option maxRecDepth 100000 in
theorem ddt13 : dd (3333333333333333 * 10 ^ 1059) = ⟨false, threes, -16⟩ := dd_eq (ok_of _ _ (by decide +kernel) (by decide +kernel) (by decide +kernel) (by decide +kernel) (by decide)) (by decide +kernel)
theorem in01 : inB 4591870180066957722 (10 ^ 1074) = true := wn_in (by decide) wn01
end Sh
end Go.Proofs.YtobiapniidaibaaGreatDoor

namespace Go.Proofs.YtobiapniidaibaaGreatDoor
open Go.RowKit Go.Deep
namespace Sh

theorem five_room : (9007199254740992 : Nat) * 5 ^ 1074 < 10 ^ 800 := by decide +kernel
theorem F5_room : 9007199254740992 * Fx.F5 < 10 ^ 800 := by
  have := Int.ofNat_lt.2 five_room
  unfold Fx.F5
  generalize 800 = a, 1074 = b at this ⊢
  rw [Int.natCast_mul, Int.natCast_pow, Int.natCast_pow] at this
  exact this
theorem F5_cut {i : Nat} (h : i ≤ 1074) : Fx.F5 = 5 ^ i * 5 ^ (1074 - i) := by
  unfold Fx.F5
  rw [← Int.pow_add]
  congr 1
  omega
theorem p5_pos (k : Nat) : (0 : Int) < 5 ^ k := Int.pow_pos (by omega)
theorem p5_le {i : Nat} (h : i ≤ 1074) : (5 : Int) ^ (1074 - i) ≤ Fx.F5 := by
  rw [F5_cut h]
  have h1 : (1 : Int) ≤ 5 ^ i := p5_pos i
  have := Int.mul_le_mul_of_nonneg_right h1 (Int.le_of_lt (p5_pos (1074 - i)))
  rwa [Int.one_mul] at this
theorem ten25 (i : Nat) : (10 : Int) ^ i = 2 ^ i * 5 ^ i := by rw [← Int.mul_pow]; rfl

/-- The exact digits of a double are at most 800. -/
theorem ex_short {m e E : Int} {xs : List Int} (h : Fx.Ex m e xs E) (hm : 0 < m) (m1 : m < 9007199254740992) (e1 : e ≤ 971) : xs.length ≤ 800 := by
  have r := h.room hm m1 e1
  rcases (show -491 ≤ E ∨ E < -491 by omega) with c | c
  · omega
  have nm := h.nml hm
  have eq := h.eq hm
  have lo := h.lo
  obtain ⟨i, hi⟩ : ∃ i : Nat, (E + 1074).toNat = i := ⟨_, rfl⟩
  obtain ⟨j, hj⟩ : ∃ j : Nat, (e + 1074).toNat = j := ⟨_, rfl⟩
  have i1 : i ≤ 1073 := by omega
  rw [hi, hj, ten25, F5_cut (show i ≤ 1074 by omega)] at eq
  have A : dv xs * 2 ^ i = m * 2 ^ j * 5 ^ (1074 - i) := by
    apply Int.eq_of_mul_eq_mul_right (Int.ne_of_gt (p5_pos i))
    calc dv xs * 2 ^ i * 5 ^ i = dv xs * (2 ^ i * 5 ^ i) := by rw [Int.mul_assoc]
      _ = m * 2 ^ j * (5 ^ i * 5 ^ (1074 - i)) := eq
      _ = m * 2 ^ j * 5 ^ (1074 - i) * 5 ^ i := by rw [Int.mul_comm (5 ^ i), Int.mul_assoc (m * 2 ^ j)]
  obtain ⟨q, hq⟩ : ∃ q : Nat, 1074 - i = q + 1 := ⟨1073 - i, by omega⟩
  rw [hq] at A
  have two_pos : ∀ k : Nat, (0 : Int) < 2 ^ k := fun k => Int.pow_pos (by omega)
  rcases Nat.lt_or_ge i j with cj | cj
  · exfalso
    obtain ⟨k, hk⟩ : ∃ k : Nat, j = i + (k + 1) := ⟨j - i - 1, by omega⟩
    rw [hk, Int.pow_add] at A
    have B : dv xs = m * 2 ^ k * 5 ^ q * 10 := by
      apply Int.eq_of_mul_eq_mul_right (Int.ne_of_gt (two_pos i))
      rw [A, Int.pow_succ, Int.pow_succ]
      simp only [Int.mul_comm, Int.mul_left_comm, Int.mul_assoc]
      rw [show (10 : Int) = 2 * 5 by rfl]
      simp only [Int.mul_comm, Int.mul_left_comm, Int.mul_assoc]
    exact nm.mod (by rw [B]; exact Int.mul_emod_left _ _)
  · obtain ⟨k, hk⟩ : ∃ k : Nat, i = j + k := ⟨i - j, by omega⟩
    have B : dv xs * 2 ^ k = m * 5 ^ (q + 1) := by
      apply Int.eq_of_mul_eq_mul_right (Int.ne_of_gt (two_pos j))
      rw [hk, Int.pow_add] at A
      calc dv xs * 2 ^ k * 2 ^ j = dv xs * (2 ^ j * 2 ^ k) := by rw [Int.mul_comm (2 ^ j), Int.mul_assoc]
        _ = m * 2 ^ j * 5 ^ (q + 1) := A
        _ = m * 5 ^ (q + 1) * 2 ^ j := by rw [Int.mul_assoc, Int.mul_assoc, Int.mul_comm (2 ^ j)]
    have d0 : 0 ≤ dv xs := (dv_bd nm.digs).1
    have le1 : dv xs ≤ dv xs * 2 ^ k := by
      have h1 : (1 : Int) ≤ 2 ^ k := two_pos k
      have := Int.mul_le_mul_of_nonneg_left h1 d0
      rwa [Int.mul_one] at this
    have le2 : m * 5 ^ (q + 1) ≤ 9007199254740992 * Fx.F5 := by
      have a : (5 : Int) ^ (q + 1) ≤ Fx.F5 := by rw [← hq]; exact p5_le (by omega)
      exact Int.le_trans (Int.mul_le_mul_of_nonneg_left a (by omega)) (Int.mul_le_mul_of_nonneg_right (by omega) (Int.le_of_lt Fx.F5_pos))
    have up : dv xs < 10 ^ 800 := by
      have := F5_room
      generalize (10 : Int) ^ 800 = T at *
      omega
    obtain ⟨n, hn⟩ := nm.len
    have low := Fx.head_low nm.digs hn nm.head
    rcases Nat.lt_or_ge n 800 with z | z
    · omega
    · exfalso
      have : (10 : Int) ^ 800 ≤ 10 ^ n := by
        obtain ⟨t, rfl⟩ : ∃ t, n = 800 + t := ⟨n - 800, by omega⟩
        rw [Int.pow_add]
        have h1 : (1 : Int) ≤ 10 ^ t := Fx.p_pos t
        have h2 : (0 : Int) ≤ 10 ^ 800 := Int.le_of_lt (Fx.p_pos 800)
        generalize (10 : Int) ^ 800 = T at *
        have := Int.mul_le_mul_of_nonneg_left h1 h2
        rwa [Int.mul_one] at this
      generalize (10 : Int) ^ 800 = T at *
      omega

/-- The exact digits' number is the double's. -/
theorem ex_V {d E : Int} {xs : List Int} (h : Fx.Ex (Ie.dm d) (Ie.de d) xs E) (hc : Ie.cls d < 3) (ha : 0 < d % 9223372036854775808) : dv xs * 10 ^ (E + 1075).toNat = V (d % 9223372036854775808) ∧ 0 < Ie.dm d := by
  have key : Ie.dm d = Ie.man (d % 9223372036854775808) ∧ (Ie.de d + 1074).toNat = Ie.ex (d % 9223372036854775808) ∧ 0 < Ie.dm d := by
    rcases Ie.dec_kinds d _ rfl with ⟨_, _, _, c⟩ | ⟨_, b, c, e, f⟩ | ⟨_, b, c, e, f⟩ | ⟨c, _⟩ | ⟨c, _⟩
    · omega
    · rw [b, c]
      refine ⟨?_, ?_, e⟩
      · rw [Ie.man, if_pos f]
      · unfold Ie.ex
        omega
    · rw [b, c]
      refine ⟨rfl, by omega, ?_⟩
      unfold Ie.man
      split <;> omega
    · omega
    · omega
  obtain ⟨k1, k2, k3⟩ := key
  have eq := h.eq k3
  have lo := h.lo
  refine ⟨?_, k3⟩
  rw [k2, k1] at eq
  rw [show (E + 1075).toNat = (E + 1074).toNat + 1 by omega, Int.pow_succ, ← Int.mul_assoc, eq, V, Ie.vl, T5, Fx.F5]
  generalize Ie.man (d % 9223372036854775808) = M
  generalize (2 : Int) ^ Ie.ex (d % 9223372036854775808) = K
  rw [show (5 : Int) ^ 1075 = 5 ^ 1074 * 5 from Int.pow_succ 5 1074]
  generalize (5 : Int) ^ 1074 = Q
  rw [show (10 : Int) = 2 * 5 by rfl]
  simp only [Int.mul_comm, Int.mul_left_comm, Int.mul_assoc]

/-- A neighbour in the last place, and how far it lies. -/
theorem near_cmp {a e f : Int} {xs ys : List Int} {r : Int} {t1 t2 : Nat} (ha : 0 < a) (hx : xs = (dd (dgt a)).ds) (he : e = (dd (dgt a)).e) (hV : dv ys * 10 ^ (f + 1075).toNat = V a) (hf : -1075 ≤ f)
    (h1 : e - min e f = (t1 : Int)) (h2 : f - min e f = (t2 : Int)) (hr : r = dv xs + 1 ∨ r = dv xs - 1) (hi : inB a (r * 10 ^ (e + 1075).toNat) = true) :
    (dv xs * 10 ^ t1 - dv ys * 10 ^ t2).natAbs ≤ (r * 10 ^ t1 - dv ys * 10 ^ t2).natAbs ∧ ((dv xs * 10 ^ t1 - dv ys * 10 ^ t2).natAbs = (r * 10 ^ t1 - dv ys * 10 ^ t2).natAbs → dv xs % 2 = 0) := by
  have wd := wn_dgt (Int.le_of_lt ha)
  have up := wn_pos ha wd
  have o := dd_is (Int.le_of_lt up)
  have eU : dv xs * 10 ^ (e + 1075).toNat = dgt a := by rw [hx, he]; exact o.2
  have el : -1075 ≤ e := by rw [he]; exact o.1.lo
  obtain ⟨s, hs⟩ : ∃ s : Nat, (min e f + 1075).toNat = s := ⟨_, rfl⟩
  have p1 : (10 : Int) ^ (e + 1075).toNat = 10 ^ t1 * 10 ^ s := by rw [← Int.pow_add]; congr 1; omega
  have p2 : (10 : Int) ^ (f + 1075).toNat = 10 ^ t2 * 10 ^ s := by rw [← Int.pow_add]; congr 1; omega
  have W : r * 10 ^ (e + 1075).toNat = dgt a + 10 ^ ((dd (dgt a)).e + 1075).toNat ∨ r * 10 ^ (e + 1075).toNat = dgt a - 10 ^ ((dd (dgt a)).e + 1075).toNat := by
    rw [← he, ← eU]
    rcases hr with q | q
    · left; rw [q, Int.add_mul, Int.one_mul]
    · right; rw [q, Int.sub_mul, Int.one_mul]
  have key := wn_near ha (by omega) wd W hi
  rw [← hx] at key
  have d1 : dgt a - V a = (dv xs * 10 ^ t1 - dv ys * 10 ^ t2) * 10 ^ s := by rw [← eU, ← hV, p1, p2, Int.sub_mul, Int.mul_assoc, Int.mul_assoc]
  have d2 : r * 10 ^ (e + 1075).toNat - V a = (r * 10 ^ t1 - dv ys * 10 ^ t2) * 10 ^ s := by rw [← hV, p1, p2, Int.sub_mul, Int.mul_assoc, Int.mul_assoc]
  rw [d1, d2, Int.natAbs_mul, Int.natAbs_mul] at key
  have sp : 0 < ((10 : Int) ^ s).natAbs := Int.natAbs_pos.2 (Int.ne_of_gt (Fx.p_pos s))
  refine ⟨Nat.le_of_mul_le_mul_right key.1 sp, fun q => key.2 (by rw [q])⟩
/-- Where the shortest digits lie. -/
theorem dgt_room {a : Int} (h0 : 0 < a) (h1 : a < 9218868437227405312) : Fx.Nml (dd (dgt a)).ds ∧ (dd (dgt a)).ds.length ≤ 17 ∧ -400 ≤ (dd (dgt a)).e ∧ (dd (dgt a)).e ≤ 400 := by
  have r := wn_room h0 (by omega) (wn_dgt (Int.le_of_lt h0))
  have p := V_place h0 h1
  have n := n0_le a
  exact ⟨r.1, by omega, by omega, by omega⟩
end Sh
end Go.Proofs.YtobiapniidaibaaGreatDoor

namespace Go.Proofs.YtobiapniidaibaaGreatDoor
open Go Go.RowKit Go.Deep Go.Shelf Go.Sort

set_option maxRecDepth 100000 in
set_option maxHeartbeats 4000000 in
theorem zfmtI_any (u : Nat) (w : World) (hu64 : u < 18446744073709551616) (htab : Tab10 w) :
    Calls Tryz.prog 59 #[.int .u64 u, .int .i64 10] w fun e w' => e = .returned (.string ⟨(Lib.decDigits u).toArray⟩) ∧ Below w.heap.size w w' := by
  have e283 : ∀ args w, (callFunc 84 args).run Tryz.prog w = .ok (.enter 84 args) w := enters_of Tryz.func84 (by kernel_rfl) rfl
  have e284 : ∀ args w, (callFunc 85 args).run Tryz.prog w = .ok (.enter 85 args) w := enters_of Tryz.func85 (by kernel_rfl) rfl
  have e285 : ∀ args w, (callFunc 86 args).run Tryz.prog w = .ok (.enter 86 args) w := enters_of Tryz.func86 (by kernel_rfl) rfl
  by_cases hs : u < 100
  · have SM := Any.internal_strconv_small { itoaLays with } u hs w
    change Calls Tryz.prog 84 _ _ _ at SM
    have hs2 : (u : Int) < 100 := by omega
    go_enter Tryz.func59, Tryz.ntmps59
    go_wp2_with (go_at_fn 84; refine SM.mono ?_; rintro e w' ⟨rfl, rfl⟩)
    go_ret
    exact ⟨rfl, Below.refl _ _⟩
  · have hu1 : 1 ≤ u := by omega
    have hs2 : ¬ (u : Int) < 100 := by omega
    have hnd20 : Lib.nDigits u ≤ 20 := by have := Lib.numDigits_eq u hu1 hu64; split at this <;> omega
    have hb3 : Lib.nDigits u ≤ 23 := by omega
    have hal : Tryz.prog.arrayLen 120 = 24 := by simp [Program.arrayLen, Tryz.underlying120]
    have hsl : ∀ W, (Instr.sliceAt 120 (.pointer (some ⟨w.heap.size, 0, none⟩)) none (some (.int .i64 (Lib.nDigits u : Int))) none).run Tryz.prog W = .ok (.slice (some ⟨w.heap.size, 0, none⟩) (Lib.nDigits u) 24) W := fun W => by
      rw [run_sliceAt_array_h W 120 ⟨w.heap.size, 0, none⟩ (by simp [Program.arrayLen, Program.elem, Tryz.underlying120]) .i64 (Lib.nDigits u : Int) (by omega) (by rw [hal]; omega)]
      go_simp
    have hH0 := Lib.holds_zero0 w 120 (Lib.nDigits u) (by omega)
    have hfmt := Any.internal_strconv_formatBase10 { itoaLays with } w.heap.size 0 24 u (Array.replicate (Lib.nDigits u) 0) (w.alloc (.cells Lib.zeros24 120)) hH0 (by rw [Array.size_replicate]; exact Lib.lt_pow_nDigits u) hu64 (by rw [Array.size_replicate]; omega)
    rw [Array.size_replicate] at hfmt
    change Calls Tryz.prog 86 _ _ _ at hfmt
    have ND := Any.internal_strconv_numDigits { itoaLays with } u hu1 hu64 _ (Lib.tabIs_alloc htab (.cells Lib.zeros24 120))
    change Calls Tryz.prog 85 _ _ _ at ND
    have HH0 := Lib.hid hH0
    clear hH0 hal
    go_enter Tryz.func59, Tryz.ntmps59
    go_wp2_with (first
      | (go_at_fn 85; refine ND.mono ?_; rintro e w' ⟨rfl, rfl⟩))
    go_at_fn 86
    refine hfmt.mono ?_
    rintro e w' ⟨rfl, k, v', dk, rfl, hF⟩
    have hcv : (convert 32 9 (.slice (some ⟨w.heap.size, 0, none⟩) (Lib.nDigits u) 24)).run Tryz.prog ((putRow (fun (b : UInt8) => Value.int .u8 (b.toNat : Int)) (w.alloc (.cells Lib.zeros24 120)) w.heap.size 0 dk).drewN k) = .ok (.string ⟨(Lib.decDigits u).toArray⟩) ((putRow (fun (b : UInt8) => Value.int .u8 (b.toNat : Int)) (w.alloc (.cells Lib.zeros24 120)) w.heap.size 0 dk).drewN k) := by
      have h := run_convert_bytes_back (P := Tryz.prog) ((putRow (fun (b : UInt8) => Value.int .u8 (b.toNat : Int)) (w.alloc (.cells Lib.zeros24 120)) w.heap.size 0 dk).drewN k) 32 9 5 ⟨w.heap.size, 0, none⟩ 24 (Lib.decDigits u) Tryz.underlying32 Tryz.underlying5 Tryz.underlying9 (fun j hj => by
        rw [Lib.row_is_numeral hF j hj, Lib.add_plain, World.cell?_drewN]
        exact cell?_putRow (fun (b : UInt8) => Value.int .u8 (b.toNat : Int)) _ w.heap.size 0 _ dk HH0.out (by rw [hF.size, Array.size_replicate]) j (by rw [hF.size]; rw [Lib.decDigits_length] at hj; exact hj))
      rw [Lib.decDigits_length] at h
      exact h
    go_wp2
    go_ret
    obtain ⟨os, eo⟩ := Lib.fin_at w (.cells Lib.zeros24 120) dk k 0
    exact ⟨rfl, by rw [eo]; exact below_grown k os⟩
end Go.Proofs.YtobiapniidaibaaGreatDoor

namespace Go.Proofs.YtobiapniidaibaaGreatDoor
open Go Go.RowKit Go.Deep Go.Shelf

theorem tab10_below {w w' : World} (h : Tab10 w) (k : Below w.heap.size w w') : Tab10 w' := by
  unfold Tab10 Lib.TabIs World.var? at *
  cases hg : Tryz.prog.globalNamed "internal/strconv.uint64pow10" with
  | none => rw [hg] at h; simp at h
  | some g =>
    rw [hg] at h
    simp only [Option.bind_some] at h ⊢
    have hl : g < w.heap.size := by
      rcases Nat.lt_or_ge g w.heap.size with c | c
      · exact c
      · rw [Array.getElem?_eq_none c] at h; simp at h
    rw [k.block g hl]; exact h
theorem dl_dv (u : Nat) : Digs (Sc.dl u) ∧ Sc.dl u ≠ [] ∧ dv (Sc.dl u) = (u : Int) := by
  refine ⟨fun x hx => Sc.dg_iff.1 ((Sc.dl_is u).1 x hx), (Sc.dl_is u).2.1, ?_⟩
  induction u using Nat.strongRecOn with
  | _ u ih =>
    by_cases h : u < 10
    · rw [Sc.dl_small h, dv_cons]
      simp [show dv [] = 0 from rfl]
      omega
    · rw [Sc.dl_big h, Fx.dv_snoc, ih (u / 10) (by omega)]
      omega
theorem dl_len {u : Nat} (h : u < 18446744073709551616) : (Sc.dl u).length ≤ 21 := by
  unfold Sc.dl
  rw [List.length_map, Lib.decDigits_length]
  rcases Nat.eq_zero_or_pos u with c | c
  · rw [Lib.nDigits_small (by omega)]; omega
  · have := Lib.numDigits_eq u c h
    split at this <;> omega

set_option maxRecDepth 100000 in
theorem zfmt_any (u : Nat) (w : World) (hu64 : u < 18446744073709551616) (htab : Tab10 w) :
    Calls Tryz.prog 39 #[.int .u64 u, .int .i64 10] w fun e w' => ∃ s, e = .returned (.string s) ∧ Hid (Str s (Sc.dl u)) ∧ Below w.heap.size w w' := by
  have F := hid (zfmtI_any u w hu64 htab)
  have K : Hid (Str ⟨(Lib.decDigits u).toArray⟩ (Sc.dl u)) := rfl
  clear hu64 htab
  generalize (⟨(Lib.decDigits u).toArray⟩ : ByteArray) = s at *
  go_enter Tryz.func39, Tryz.ntmps39
  go_wp2_with fail
  refine F.out.mono ?_
  rintro e w' ⟨rfl, hB⟩
  have HB := hid hB
  clear hB F
  go_wp2_with fail
  go_ret
  exact ⟨s, rfl, K, HB.out⟩

theorem parseM {M : Nat} {L : Int} (hL : L = 1000000000000000000) (hM : 1000000000000000000 ≤ M) (l : List UInt8) : ∀ (acc : Nat), (∀ x ∈ l, 48 ≤ x.toNat ∧ x.toNat ≤ 57) → (acc : Int) * 10 ^ l.length + dv (l.map fun b => (b.toNat : Int)) < L →
    ∃ u : Nat, (u : Int) = (acc : Int) * 10 ^ l.length + dv (l.map fun b => (b.toNat : Int)) ∧ Lib.parseUintM M acc l = .ok u := by
  induction l with
  | nil => intro acc _ _; exact ⟨acc, by rw [List.map_nil, show dv [] = 0 from rfl]; simp, rfl⟩
  | cons c r ih =>
    intro acc h hb
    have hc := h c (by simp)
    have hr : ∀ x ∈ r, 48 ≤ x.toNat ∧ x.toNat ≤ 57 := fun x hx => h x (by simp [hx])
    have dg : Digs (r.map fun b => (b.toNat : Int)) := by
      intro d hd
      obtain ⟨x, hx, rfl⟩ := List.mem_map.1 hd
      have := hr x hx
      omega
    have nn := (dv_bd dg).1
    have e : (acc : Int) * 10 ^ (c :: r).length + dv ((c :: r).map fun b => (b.toNat : Int)) = ((acc * 10 + (c.toNat - 48) : Nat) : Int) * 10 ^ r.length + dv (r.map fun b => (b.toNat : Int)) := by
      rw [List.map_cons, dv_cons, List.length_map, List.length_cons, Int.pow_succ]
      have : ((acc * 10 + (c.toNat - 48) : Nat) : Int) = (acc : Int) * 10 + ((c.toNat : Int) - 48) := by omega
      rw [this, Int.add_mul, Int.mul_assoc, Int.mul_comm 10 ((10 : Int) ^ r.length)]
      omega
    rw [e] at hb ⊢
    have p1 : (1 : Int) ≤ 10 ^ r.length := Fx.p_pos _
    have hle : ((acc * 10 + (c.toNat - 48) : Nat) : Int) * 1 ≤ ((acc * 10 + (c.toNat - 48) : Nat) : Int) * 10 ^ r.length := Int.mul_le_mul_of_nonneg_left p1 (by omega)
    obtain ⟨u, h1, h2⟩ := ih (acc * 10 + (c.toNat - 48)) hr hb
    refine ⟨u, h1, ?_⟩
    have g1 : ¬ 1844674407370955162 ≤ acc := by omega
    have g2 : ¬ M < acc * 10 + (c.toNat - 48) := by omega
    rw [Lib.parseUintM, if_pos hc, if_neg g1, if_neg g2]
    exact h2

set_option maxRecDepth 100000 in
theorem zparse_any (s : ByteArray) (xs : List Int) (w : World) (hs : Str s xs) (hd : Digs xs) (hn : xs ≠ []) (hb : dv xs < 1000000000000000000) (hl : xs.length ≤ 100000) :
    Calls Tryz.prog 37 #[.string s, .int .i64 10, .int .i64 64] w fun e w' => e = .returned (.tuple #[.int .u64 (dv xs), .nilIface]) ∧ Below w.heap.size w w' := by
  have hz := hs.size
  have hs' : s.data.toList.map (fun b => (b.toNat : Int)) = xs := hs
  have hall : ∀ x ∈ s.data.toList, 48 ≤ x.toNat ∧ x.toNat ≤ 57 := by
    intro x hx
    have := hd (x.toNat : Int) (by rw [← hs']; exact List.mem_map.2 ⟨x, hx, rfl⟩)
    omega
  obtain ⟨u, hu, hp⟩ := parseM (M := 2 ^ 64 - 1) rfl (by decide) s.data.toList 0 hall (by rw [hs']; simpa using hb)
  rw [hs'] at hu
  have hu2 : (dv xs).toNat = u := by simp at hu; omega
  have hP : Lib.parseUintB 64 s.data.toList = .ok (dv xs).toNat := by
    rw [Lib.parseUintB, if_neg (fun c => by rw [c] at hs'; exact hn hs'.symm), hp, hu2]
  have h := Any.strconv_ParseUint_10_at64_ok puLays s (by omega) (dv xs).toNat hP w
  change Calls Tryz.prog 37 _ _ _ at h
  have nn := (dv_bd hd).1
  rw [show (((dv xs).toNat : Nat) : Int) = dv xs by omega] at h
  refine h.mono ?_
  rintro e w' ⟨rfl, h | h⟩
  · exact ⟨rfl, by rw [h]; exact Below.refl _ _⟩
  · exact ⟨rfl, by rw [h]; exact Lib.bytesWorld_below w _ s⟩
end Go.Proofs.YtobiapniidaibaaGreatDoor

namespace Go.Proofs.YtobiapniidaibaaGreatDoor
open Go Go.RowKit Go.Deep

theorem gt53 {t : ByteArray} {L : List Int} (h : Str t L) (hn : L ≠ []) : (!(Op.bytesLess t.toList [53] || t.toList == [53])) = Sh.gt5 L ∧ (t.toList == [53]) = decide (L = [53]) := by
  have h' : t.toList.map (fun b => (b.toNat : Int)) = L := by rw [ByteArray.toList_eq]; exact h
  generalize t.toList = bs at h' ⊢
  match bs with
  | [] => exact absurd h'.symm hn
  | b :: r =>
    subst h'
    have e1 : (b = 53) ↔ ((b.toNat : Int) = 53) := by
      constructor
      · intro c; rw [c]; rfl
      · intro c; apply UInt8.toNat_inj.1; have : b.toNat = 53 := by omega
        rw [this]; rfl
    have e2 : b < 53 ↔ ((b.toNat : Int) < 53) := by
      rw [UInt8.lt_iff_toNat_lt]
      have : (53 : UInt8).toNat = 53 := rfl
      omega
    have bl : ∀ l : List UInt8, Op.bytesLess l [] = false := by intro l; cases l <;> rfl
    have ee : (((b :: r).map fun b => (b.toNat : Int)) = [53]) ↔ (b :: r = [53]) := by
      constructor
      · intro c
        have h1 := (List.cons.inj c).1
        have h2 := (List.cons.inj c).2
        rw [e1.2 h1, List.map_eq_nil_iff.1 h2]
      · intro c; rw [c]; rfl
    have gg : Sh.gt5 ((b :: r).map fun b => (b.toNat : Int)) = decide (53 < (b.toNat : Int) ∨ ((b.toNat : Int) = 53 ∧ r ≠ [])) := by
      unfold Sh.gt5
      rw [List.map_cons, List.length_cons, List.length_map]
      congr 1
      have : r ≠ [] ↔ 1 < r.length + 1 := by rw [← List.length_pos_iff]; omega
      rw [this]
      rfl
    have ll : Op.bytesLess (b :: r) [53] = decide (b < 53) := by
      show (decide (b < 53) || (b == 53 && Op.bytesLess r [])) = _
      rw [bl, Bool.and_false, Bool.or_false]
    constructor
    · rw [gg, ll, Bool.eq_iff_iff]
      have k : ((b :: r) == [53]) = decide (b :: r = [53]) := by
        rw [Bool.eq_iff_iff]; simp
      rw [k]
      by_cases c1 : b < 53
      · have := e2.1 c1
        simp [c1]
        omega
      · have n1 : ¬ ((b.toNat : Int) < 53) := fun q => c1 (e2.2 q)
        by_cases c2 : b = 53
        · have := e1.1 c2
          simp [c2]
        · have n2 : ¬ ((b.toNat : Int) = 53) := fun q => c2 (e1.2 q)
          simp [c1, c2]
          omega
    · rw [Bool.eq_iff_iff, decide_eq_true_iff, ee]
      simp
end Go.Proofs.YtobiapniidaibaaGreatDoor

namespace Go.Proofs.YtobiapniidaibaaGreatDoor
open Go Go.RowKit Go.Deep

set_option maxRecDepth 100000 in
theorem lfinite_any (d : Int) (w : World) (h0 : 0 ≤ d) :
    Calls Tryz.prog 7 #[.int .u64 d] w fun e w' => e = .returned (.bool (decide (d % 9223372036854775808 < 9218868437227405312))) ∧ w' = w := by
  have E : d.tmod 9223372036854775808 = d % 9223372036854775808 := Int.tmod_eq_emod_of_nonneg h0
  go_enter Tryz.func7, Tryz.ntmps7
  go_wp2_with fail
  go_ret
  exact ⟨by first | rfl | rw [E], rfl⟩

end Go.Proofs.YtobiapniidaibaaGreatDoor
