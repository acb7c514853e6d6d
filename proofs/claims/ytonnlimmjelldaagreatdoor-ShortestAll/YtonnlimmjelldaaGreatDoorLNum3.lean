/-
  The shortest digits: rows of digits.
-/
import Derived.Test.YtonnlimmjelldaaGreatDoorLNum2
namespace Go.Proofs.YtonnlimmjelldaaGreatDoor
open Go.RowKit Go.Deep
namespace Sh

theorem dg_of {xs : List Int} (h : Digs xs) : ∀ x ∈ xs, Sc.dg x = true := fun x hx => Sc.dg_iff.2 (h x hx)
theorem dv_head0 : ∀ (j : Nat) (xs : List Int), (∀ i, i < j → Sc.pk xs i = 48) → j ≤ xs.length → dv xs = dv (xs.drop j)
  | 0, xs, _, _ => by rw [List.drop_zero]
  | j + 1, [], _, h => by simp at h
  | j + 1, x :: xs, h, hl => by
    have hx : x = 48 := h 0 (by omega)
    rw [dv_cons, hx, Int.sub_self, Int.zero_mul, Int.zero_add, List.drop_succ_cons]
    exact dv_head0 j xs (fun i hi => h (i + 1) (by omega)) (by simpa using hl)

/-- The normal form's number. -/
theorem nrm_uv {xs : List Int} {q : Int} (hd : Digs xs) (hq : -1075 ≤ q) : Ok (Sc.nrm false xs q) ∧ uv (Sc.nrm false xs q) = dv xs * 10 ^ (q + 1075).toNat := by
  by_cases hz : Sc.lz xs = xs.length
  · rw [Sc.nrm_zero hz]
    refine ⟨⟨rfl, by show (-1075 : Int) ≤ 0; omega, .inl ⟨rfl, rfl⟩⟩, ?_⟩
    have e := dv_head0 (Sc.lz xs) xs (fun i hi => Sc.lz_at hi) (Sc.lz_le xs)
    rw [hz, List.drop_length] at e
    rw [uv_zero rfl, e, show dv [] = 0 from rfl, Int.zero_mul]
  · rw [Sc.nrm_pos hz]
    have lt := Sc.lz_tz hz
    have hdd : Digs (xs.drop (Sc.lz xs)) := fun d h => hd d (List.mem_of_mem_drop h)
    have hh : (xs.drop (Sc.lz xs)).getD 0 0 ≠ 48 := by
      have := Sc.lz_end xs
      have e := Sc.pk_drop xs (Sc.lz xs) 0
      rw [Nat.add_zero] at e
      unfold Sc.pk at e this
      rw [e]
      exact this
    have hlen : (xs.drop (Sc.lz xs)).length = xs.length - Sc.lz xs := List.length_drop
    have hv : 0 < dv (xs.drop (Sc.lz xs)) := by
      obtain ⟨n, hn⟩ : ∃ n, (xs.drop (Sc.lz xs)).length = n + 1 := ⟨xs.length - Sc.lz xs - 1, by omega⟩
      have := Fx.head_low hdd hn hh
      have := Fx.p_pos n
      omega
    obtain ⟨kp, nm, v⟩ := Fx.nml_take (ys := xs.drop (Sc.lz xs)) (k := xs.length - Sc.tz xs - Sc.lz xs) hdd hh (by omega) (fun i h1 h2 => by
      have e := Sc.pk_drop xs (Sc.lz xs) i
      unfold Sc.pk at e
      rw [e]
      exact Sc.tz_at (by omega) (by omega)) (fun h => by
      have e := Sc.pk_drop xs (Sc.lz xs) (xs.length - Sc.tz xs - Sc.lz xs - 1)
      have t := Sc.tz_end (ds := xs) (by omega)
      unfold Sc.pk at e t
      rw [e, show Sc.lz xs + (xs.length - Sc.tz xs - Sc.lz xs - 1) = xs.length - Sc.tz xs - 1 by omega]
      exact t) hv
    rw [hlen, show xs.length - Sc.lz xs - (xs.length - Sc.tz xs - Sc.lz xs) = Sc.tz xs by omega] at v
    refine ⟨⟨rfl, by show -1075 ≤ q + Sc.tz xs; omega, .inr nm⟩, ?_⟩
    show dv _ * 10 ^ (q + Sc.tz xs + 1075).toNat = _
    rw [dv_head0 (Sc.lz xs) xs (fun i hi => Sc.lz_at hi) (Sc.lz_le xs), ← v, show (q + (Sc.tz xs : Int) + 1075).toNat = Sc.tz xs + (q + 1075).toNat by omega, Int.pow_add, Int.mul_assoc]
theorem nrm_dd {xs : List Int} {q : Int} (hd : Digs xs) (hq : -1075 ≤ q) : Sc.nrm false xs q = dd (dv xs * 10 ^ (q + 1075).toNat) := by
  have h := nrm_uv hd hq
  rw [← h.2]
  exact h.1.is

theorem isdec {xs : List Int} {q : Int} (hd : Digs xs) (hn : xs ≠ []) (h0 : -1075 ≤ q) (h1 : q ≤ 100000) (hl : xs.length ≤ 100000) : Sc.IsDec xs q := ⟨hn, by omega, by omega, dg_of hd, fun _ => by have := Sc.tz_le xs; omega⟩

/-- A row's head and tail. -/
theorem dv_cut {xs : List Int} {n : Nat} : dv xs = dv (xs.take n) * 10 ^ (xs.length - n) + dv (xs.drop n) := by
  conv => lhs; rw [← List.take_append_drop n xs]
  rw [dv_append, List.length_drop]

/-- The tail against a half. -/
def gt5 (t : List Int) : Bool := decide (53 < t.getD 0 0 ∨ (t.getD 0 0 = 53 ∧ 1 < t.length))
theorem tail5 {t : List Int} (hd : Digs t) (hn : t ≠ []) (hl : t.getD (t.length - 1) 0 ≠ 48) : (gt5 t = true ↔ 10 ^ t.length < 2 * dv t) ∧ (t = [53] ↔ 10 ^ t.length = 2 * dv t) := by
  match t, hn with
  | x :: r, _ =>
    have hx := hd x (by simp)
    have hr : Digs r := fun d h => hd d (by simp [h])
    have b := dv_bd hr
    have e1 : (10 : Int) ^ (x :: r).length = 10 ^ r.length * 10 := by rw [List.length_cons, Int.pow_succ]
    have pp := Fx.p_pos r.length
    have g : (x :: r).getD 0 0 = x := rfl
    have rp : r ≠ [] → 0 < dv r := by
      intro c
      obtain ⟨n, hn⟩ : ∃ n, r.length = n + 1 := ⟨r.length - 1, by have := List.length_pos_iff.2 c; omega⟩
      have q := Fx.dv_mod hr hn
      rw [List.length_cons, hn] at hl
      have q2 := Fx.digs_getD hr (show n < r.length by omega)
      have q3 : (x :: r).getD (n + 1 + 1 - 1) 0 = r.getD n 0 := rfl
      rw [q3] at hl
      omega
    have rn : r = [] ∨ r ≠ [] := by by_cases c : r = []; exact .inl c; exact .inr c
    have rl : r ≠ [] → 1 < (x :: r).length := fun c => by have := List.length_pos_iff.2 c; simp; omega
    unfold gt5
    rw [e1, dv_cons, g, decide_eq_true_iff]
    obtain ⟨y, hy⟩ : ∃ y, x - 48 = y := ⟨_, rfl⟩
    rw [hy]
    have lo : y ≤ 4 → y * 10 ^ r.length ≤ 4 * 10 ^ r.length := fun c => Int.mul_le_mul_of_nonneg_right c (Int.le_of_lt pp)
    have hi : 6 ≤ y → 6 * 10 ^ r.length ≤ y * 10 ^ r.length := fun c => Int.mul_le_mul_of_nonneg_right c (Int.le_of_lt pp)
    have mi : y = 5 → y * 10 ^ r.length = 5 * 10 ^ r.length := fun c => by rw [c]
    rcases rn with c | c
    · subst c
      have z : dv [] = 0 := rfl
      simp only [List.length_cons, List.length_nil, z, Int.pow_zero] at *
      constructor
      · omega
      · constructor
        · intro q; simp at q; omega
        · intro q; rw [show x = 53 by omega]
    · have r1 := rp c
      have r2 := rl c
      generalize (10 : Int) ^ r.length = P at *
      generalize y * P = Y at *
      have ne : x :: r ≠ [53] := fun q => c (List.cons.inj q).2
      constructor
      · constructor
        · intro q
          rcases (show y = 5 ∨ 6 ≤ y by omega) with k | k
          · have := mi k; omega
          · have := hi k; omega
        · intro q
          rcases (show y ≤ 4 ∨ 5 ≤ y by omega) with k | k
          · have := lo k; omega
          · omega
      · constructor
        · intro q; exact absurd q ne
        · intro q
          exfalso
          rcases (show y ≤ 4 ∨ y = 5 ∨ 6 ≤ y by omega) with k | k | k
          · have := lo k; omega
          · have := mi k; omega
          · have := hi k; omega

/-- What within looks at: the head's number, the tail, the step. -/
theorem head_is {U : Int} {n : Nat} (h : 0 < U) (h1 : 1 ≤ n) (hn : n < ln U) : dv ((dd U).ds.take n) = U / st U n ∧ (decide (gt5 ((dd U).ds.drop n) = true ∨ ((dd U).ds.drop n = [53] ∧ dv ((dd U).ds.take n) % 2 = 1)) = upB U (st U n)) ∧ dv ((dd U).ds.take n) < 10 ^ n := by
  have o := dd_is (Int.le_of_lt h)
  have nm := o.1.nml (by rw [o.2]; exact h)
  have lo := o.1.lo
  have hv : dv (dd U).ds * 10 ^ ((dd U).e + 1075).toNat = U := o.2
  have hl : (dd U).ds.length = ln U := rfl
  have c := dv_cut (xs := (dd U).ds) (n := n)
  have td : Digs ((dd U).ds.drop n) := fun d q => nm.digs d (List.mem_of_mem_drop q)
  have tt : Digs ((dd U).ds.take n) := fun d q => nm.digs d (List.mem_of_mem_take q)
  have tn : (dd U).ds.drop n ≠ [] := by
    intro q
    have := congrArg List.length q
    rw [List.length_drop] at this
    simp at this
    omega
  have tl : ((dd U).ds.drop n).length = ln U - n := by rw [List.length_drop, hl]
  have tlast : ((dd U).ds.drop n).getD (((dd U).ds.drop n).length - 1) 0 ≠ 48 := by
    have e := Sc.pk_drop (dd U).ds n (((dd U).ds.drop n).length - 1)
    unfold Sc.pk at e
    rw [e, tl, show n + (ln U - n - 1) = (dd U).ds.length - 1 by omega]
    exact nm.last
  obtain ⟨t1, t2⟩ := tail5 td tn tlast
  have tb := dv_bd td
  rw [tl] at t1 t2 tb
  have es : st U n = 10 ^ (ln U - n) * 10 ^ ((dd U).e + 1075).toNat := by
    unfold st
    rw [← Int.pow_add]
    congr 1
    omega
  have p1 := Fx.p_pos (ln U - n)
  have p2 := Fx.p_pos ((dd U).e + 1075).toNat
  have eU : U = dv ((dd U).ds.take n) * st U n + dv ((dd U).ds.drop n) * 10 ^ ((dd U).e + 1075).toNat := by
    rw [hl] at c
    rw [es, ← Int.mul_assoc, ← Int.add_mul, ← c]
    exact hv.symm
  have hb := (dv_bd tt).2
  rw [List.length_take, hl, Nat.min_eq_left (by omega)] at hb
  generalize dv ((dd U).ds.take n) = H at *
  generalize dv ((dd U).ds.drop n) = R at *
  generalize (10 : Int) ^ ((dd U).e + 1075).toNat = Q at *
  generalize (10 : Int) ^ (ln U - n) = P at *
  have sp := st_pos U n
  have r0 : 0 ≤ R * Q := Int.mul_nonneg tb.1 (Int.le_of_lt p2)
  have r1 : R * Q < st U n := by rw [es]; exact Int.mul_lt_mul_of_pos_right tb.2 p2
  have hdv : U / st U n = H := by
    have g1 : H ≤ U / st U n := (Int.le_ediv_iff_mul_le sp).2 (by omega)
    have g2 : U / st U n < H + 1 := (Int.ediv_lt_iff_lt_mul sp).2 (by rw [Int.add_mul, Int.one_mul]; omega)
    omega
  have hmd : U % st U n = R * Q := by
    have := (divS (U := U) sp).1
    rw [hdv] at this
    omega
  refine ⟨hdv.symm, ?_, hb⟩
  unfold upB
  rw [hmd, hdv, es]
  congr 1
  have i1 : 10 ^ 0 * (P * Q) < 2 * (R * Q) ↔ P < 2 * R := by
    rw [show (2 : Int) * (R * Q) = 2 * R * Q by rw [Int.mul_assoc], Int.pow_zero, Int.one_mul]
    exact Int.mul_lt_mul_right p2
  have i2 : P * Q = 2 * (R * Q) ↔ P = 2 * R := by
    rw [show (2 : Int) * (R * Q) = 2 * R * Q by rw [Int.mul_assoc]]
    exact ⟨fun q => Int.eq_of_mul_eq_mul_right (by omega) q, fun q => by rw [q]⟩
  rw [Int.pow_zero, Int.one_mul] at i1
  rw [i1, i2, t1, t2]
end Sh
end Go.Proofs.YtonnlimmjelldaaGreatDoor
