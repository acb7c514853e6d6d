/-
  Texts put together: FNearN, FCl2, FHeadsN, FCutsN.
-/
import Derived.Test.YtbdbpjghmejfjaaGreatDoorRH
import Derived.Test.YtbdbpjghmejfjaaGreatDoorRF
namespace Go.Proofs.YtbdbpjghmejfjaaGreatDoor
open Go Go.RowKit Go.Deep
namespace Fx

/-- Twice the way to the number is below the unit, or just it, and the number is even. -/
def Nr (w A D : Int) : Prop := 2 * (w * D - A) ≤ D ∧ 2 * (A - w * D) ≤ D ∧ ((2 * (w * D - A) = D ∨ 2 * (A - w * D) = D) → w % 2 = 0)

theorem nr_exact {w A D : Int} (h : w * D = A) (hD : 0 < D) : Nr w A D := by
  refine ⟨by omega, by omega, ?_⟩
  rintro (c | c) <;> omega

theorem nr_of {w A D N T : Int} (hT : 0 < T) (hD : 0 < D) (h : N * D = A * T) (h1 : 2 * (w * T - N) ≤ T) (h2 : 2 * (N - w * T) ≤ T) (h3 : (2 * (w * T - N) = T ∨ 2 * (N - w * T) = T) → w % 2 = 0) : Nr w A D := by
  have e1 : (2 * (w * D - A)) * T = (2 * (w * T - N)) * D := by
    rw [Int.mul_assoc, Int.mul_assoc, Int.sub_mul, Int.sub_mul, ← h, Int.mul_right_comm]
  have e2 : (2 * (A - w * D)) * T = (2 * (N - w * T)) * D := by
    rw [Int.mul_assoc, Int.mul_assoc, Int.sub_mul, Int.sub_mul, ← h, Int.mul_right_comm w D T]
  refine ⟨?_, ?_, ?_⟩
  · refine Int.le_of_mul_le_mul_right ?_ hT
    rw [e1, Int.mul_comm D T]
    exact Int.mul_le_mul_of_nonneg_right h1 (Int.le_of_lt hD)
  · refine Int.le_of_mul_le_mul_right ?_ hT
    rw [e2, Int.mul_comm D T]
    exact Int.mul_le_mul_of_nonneg_right h2 (Int.le_of_lt hD)
  · intro c
    apply h3
    rcases c with c | c
    · left
      rw [c, Int.mul_comm] at e1
      exact (Int.eq_of_mul_eq_mul_right (by omega) e1).symm
    · right
      rw [c, Int.mul_comm] at e2
      exact (Int.eq_of_mul_eq_mul_right (by omega) e2).symm

/-- The first digits, rounded, as numbers. -/
theorem rn_near {xs : List Int} (hd : Digs xs) (k : Nat) :
    2 * (rn xs k * 10 ^ (xs.length - k) - dv xs) ≤ 10 ^ (xs.length - k) ∧ 2 * (dv xs - rn xs k * 10 ^ (xs.length - k)) ≤ 10 ^ (xs.length - k) ∧
    ((2 * (rn xs k * 10 ^ (xs.length - k) - dv xs) = 10 ^ (xs.length - k) ∨ 2 * (dv xs - rn xs k * 10 ^ (xs.length - k)) = 10 ^ (xs.length - k)) → rn xs k % 2 = 0) := by
  have e : dv xs = dv (xs.take k) * 10 ^ (xs.length - k) + dv (xs.drop k) := by
    conv => lhs; rw [← List.take_append_drop k xs, dv_append, List.length_drop]
  have b := dv_bd (ds := xs.drop k) (fun d h => hd d (List.mem_of_mem_drop h))
  rw [List.length_drop] at b
  unfold rn up
  generalize dv (xs.take k) = K at *
  generalize dv (xs.drop k) = R at *
  generalize (10 : Int) ^ (xs.length - k) = T at *
  by_cases c : T < 2 * R ∨ 2 * R = T ∧ K % 2 = 1
  · rw [decide_eq_true c, if_pos rfl, Int.add_mul, Int.one_mul, e]
    refine ⟨by omega, by omega, ?_⟩
    intro h
    rcases c with c | c <;> omega
  · rw [decide_eq_false c, if_neg Bool.false_ne_true, Int.add_zero, e]
    refine ⟨by omega, by omega, ?_⟩
    intro h
    omega

theorem W_digs {d : Int} (hf : Ie.fnt d = true) (n : Nat) : Digs (W d n) := by
  have hx := (X_digs hf).1
  intro x h
  rcases List.mem_append.1 h with h | h
  · have := List.eq_of_mem_replicate h; omega
  · unfold kp at h
    split at h
    · cases h
    · split at h
      · rcases List.mem_append.1 h with h | h
        · exact hx x h
        · have := List.eq_of_mem_replicate h; omega
      · exact rd_digs _ _ x h
theorem dv_W (d : Int) (n : Nat) : dv (W d n) = dv (kp (X d) ((X d).length + P d + n)) := by
  unfold W
  rw [dv_append, dv_zeros, Int.zero_mul, Int.zero_add]

/-- All powers of the double's value in one row. -/
theorem ex_pow {m e : Int} {xs : List Int} {E : Int} (hm : 0 < m) (he : -1074 ≤ e) (h : Ex m e xs E) : dv xs * 10 ^ (E + 1074).toNat * 2 ^ (-e).toNat = m * 2 ^ e.toNat * 10 ^ 1074 := by
  rw [h.eq hm, F5]
  have e1 : (e + 1074).toNat + (-e).toNat = e.toNat + 1074 := by omega
  have e2 : (2 : Int) ^ (e + 1074).toNat * 2 ^ (-e).toNat = 2 ^ e.toNat * 2 ^ 1074 := by rw [← Int.pow_add, ← Int.pow_add, e1]
  generalize 1074 = z at *
  rw [show (10 : Int) = 2 * 5 from rfl, Int.mul_pow]
  generalize (2 : Int) ^ (e + 1074).toNat = x1 at *
  generalize (2 : Int) ^ (-e).toNat = x2 at *
  generalize (2 : Int) ^ e.toNat = x3 at *
  generalize (2 : Int) ^ z = x4 at *
  generalize (5 : Int) ^ z = x5 at *
  rw [show m * x1 * x5 * x2 = m * (x1 * x2) * x5 by ac_rfl, e2]
  ac_rfl

theorem near_W {d : Int} (hf : Ie.fnt d = true) (n : Nat) : Nr (dv (W d n)) (top d n) (2 ^ dn d) := by
  obtain ⟨m0, m1, e0, e1, _⟩ := Ie.fdec d (of_decide_eq_true hf)
  have hD : (0 : Int) < 2 ^ dn d := Int.pow_pos (by omega)
  obtain ⟨r1, r2, r3, r4, r5⟩ := X_room hf
  rw [dv_W]
  have hx := (X_digs hf).1
  rcases (show Ie.dm d = 0 ∨ 0 < Ie.dm d by omega) with hz | hz
  · obtain ⟨a, b⟩ := X_zero hf hz
    rw [a, b]
    apply nr_exact _ hD
    have e : kp [48] (([48] : List Int).length + 0 + n) = 48 :: List.replicate n 48 := by
      have := kp_full (xs := [48]) (c := n + 1) (by simp)
      rw [show (([48] : List Int).length : Int) + 0 + n = ((n + 1 : Nat) : Int) by simp; omega, this]
      simp
    rw [e, show 48 :: List.replicate n 48 = List.replicate (n + 1) (48 : Int) from rfl, dv_zeros, top, hz]
    simp
  · have q := ex_pow hz e0 (X_ex hf)
    obtain ⟨a, ha⟩ : ∃ a : Nat, (P d + 1074).toNat = a := ⟨_, rfl⟩
    rw [ha] at q
    have q2 : dv (X d) * 10 ^ a * 2 ^ dn d * 10 ^ n = top d n * 10 ^ 1074 := by
      rw [dn, q, top]
      generalize (10 : Int) ^ 1074 = z
      ac_rfl
    rcases (show 0 ≤ P d + n ∨ P d + n < 0 by omega) with c | c
    · obtain ⟨j, hj⟩ : ∃ j : Nat, P d + n = (j : Int) := ⟨(P d + n).toNat, by omega⟩
      have e : (X d).length + P d + n = (((X d).length + j : Nat) : Int) := by omega
      rw [e, kp_full (by omega), Nat.add_sub_cancel_left, dv_append, dv_zeros, List.length_replicate, Int.add_zero]
      apply nr_exact _ hD
      have e2 : a + n = j + 1074 := by omega
      have e3 : (10 : Int) ^ a * 10 ^ n = 10 ^ j * 10 ^ 1074 := by rw [← Int.pow_add, ← Int.pow_add, e2]
      refine Int.eq_of_mul_eq_mul_right (a := 10 ^ 1074) (by have := p_pos 1074; omega) ?_
      rw [← q2]
      generalize (10 : Int) ^ 1074 = z at *
      rw [show dv (X d) * 10 ^ j * 2 ^ dn d * z = dv (X d) * 2 ^ dn d * (10 ^ j * z) by ac_rfl, ← e3]
      ac_rfl
    · obtain ⟨r, hr⟩ : ∃ r : Nat, -(P d + n) = (r : Int) := ⟨(-(P d + n)).toNat, by omega⟩
      have hN : dv (X d) * 2 ^ dn d = top d n * 10 ^ r := by
        have e2 : a + n + r = 1074 := by omega
        have e3 : (10 : Int) ^ (a + n) * 10 ^ r = 10 ^ 1074 := by rw [← Int.pow_add, e2]
        refine Int.eq_of_mul_eq_mul_right (a := 10 ^ (a + n)) (by have := p_pos (a + n); omega) ?_
        rw [Int.mul_assoc (top d n), Int.mul_comm (10 ^ r), e3, ← q2, Int.pow_add]
        ac_rfl
      rcases (show 0 ≤ (X d).length + P d + n ∨ (X d).length + P d + n < 0 by omega) with g | g
      · obtain ⟨k, hk⟩ : ∃ k : Nat, (X d).length + P d + n = (k : Int) := ⟨((X d).length + P d + n).toNat, by omega⟩
        have hkl : k < (X d).length := by omega
        rw [hk, kp_cut hkl, rd_dv hx (by omega)]
        have := rn_near hx k
        rw [show (X d).length - k = r by omega] at this
        exact nr_of (p_pos r) hD hN this.1 this.2.1 this.2.2
      · rw [kp_neg g]
        have b := (dv_bd hx).2
        have b0 := (dv_bd hx).1
        have l : (10 : Int) ^ ((X d).length + 1) ≤ 10 ^ r := p_le (by omega)
        rw [Int.pow_succ] at l
        have pp := p_pos (X d).length
        have z : dv [] = 0 := rfl
        rw [z]
        refine nr_of (N := dv (X d)) (p_pos r) hD hN ?_ ?_ ?_ <;> (generalize (10 : Int) ^ (X d).length = x1 at *; generalize (10 : Int) ^ r = x2 at *; omega)

theorem dv_W_room {d : Int} (hf : Ie.fnt d = true) {n : Nat} (hn : n ≤ 4200) : (W d n).length ≤ 6000 := by
  obtain ⟨r1, r2, r3, r4, r5⟩ := X_room hf
  have := kp_len_le (xs := X d) (c := (X d).length + P d + n) (m := 5000) (by omega) (by omega)
  unfold W
  rw [List.length_append, List.length_replicate]
  omega
end Fx
end Go.Proofs.YtbdbpjghmejfjaaGreatDoor

namespace Go.Proofs.YtbdbpjghmejfjaaGreatDoor
open Go Go.RowKit Go.Deep
namespace Fx

theorem fnt125 : Ie.fnt 4593671619917905920 = true := by decide
theorem pl125 : rf 4593671619917905920 2 0 = 0 ∧ pA 4593671619917905920 2 = [48] ∧ pB 4593671619917905920 2 = [49, 50] := by
  have r : rf 4593671619917905920 2 0 = 0 := by decide
  have w : W 4593671619917905920 2 = [48, 49, 50] := by
    unfold W
    rw [c125.1, c125.2]
    decide
  refine ⟨r, ?_, ?_⟩
  · rw [pA, if_pos r, show (2 : Int).toNat = 2 from rfl, w]
    decide
  · rw [pB, if_pos r, show (2 : Int).toNat = 2 from rfl, w]
    decide

theorem head_of_low {ds : List Int} {n : Nat} (h : Digs ds) (hn : ds.length = n + 1) (hl : 10 ^ n ≤ dv ds) : ds.getD 0 0 ≠ 48 := by
  match ds, hn with
  | x :: ys, hn =>
    intro c
    simp at c
    subst c
    have b := (dv_bd (ds := ys) (fun d hd => h d (by simp [hd]))).2
    have e : ys.length = n := by simpa using hn
    rw [dv_cons, e] at hl
    rw [e] at b
    omega

/-- The rounded digits begin with a digit that is no zero. -/
theorem rd_head {xs : List Int} (h : Nml xs) {k : Nat} (hk0 : 0 < k) (hk : k ≤ xs.length) : (rd xs k).getD 0 0 ≠ 48 := by
  obtain ⟨j, rfl⟩ : ∃ j, k = j + 1 := ⟨k - 1, by omega⟩
  have dk : Digs (xs.take (j + 1)) := fun d g => h.digs d (List.mem_of_mem_take g)
  have lk : (xs.take (j + 1)).length = j + 1 := by rw [List.length_take]; omega
  have low := head_low dk lk (by have := h.head; simpa [List.getD] using this)
  have b := rn_bd h.digs hk
  have v := rd_dv h.digs hk
  have l := rd_len xs (j + 1)
  have rl : 10 ^ j ≤ rn xs (j + 1) := by unfold rn; split <;> omega
  by_cases c : rn xs (j + 1) = 10 ^ (j + 1)
  · rw [if_pos c] at l
    exact head_of_low (rd_digs _ _) l (by omega)
  · rw [if_neg c] at l
    exact head_of_low (rd_digs _ _) l (by omega)

theorem W_head {d : Int} (hf : Ie.fnt d = true) (n : Nat) (h : n + 1 < (W d n).length) : (W d n).getD 0 0 ≠ 48 := by
  obtain ⟨m0, m1, e0, e1, _⟩ := Ie.fdec d (of_decide_eq_true hf)
  have hl : (W d n).length = (n + 1 - (kp (X d) ((X d).length + P d + n)).length) + (kp (X d) ((X d).length + P d + n)).length := by
    unfold W
    rw [List.length_append, List.length_replicate]
  have hk : n + 1 < (kp (X d) ((X d).length + P d + n)).length := by omega
  have e : W d n = kp (X d) ((X d).length + P d + n) := by
    unfold W
    rw [show n + 1 - (kp (X d) ((X d).length + P d + n)).length = 0 by omega]
    rfl
  rw [e]
  rcases (show Ie.dm d = 0 ∨ 0 < Ie.dm d by omega) with hz | hz
  · obtain ⟨a, b⟩ := X_zero hf hz
    rw [a, b] at hk
    have e : kp [48] (([48] : List Int).length + 0 + n) = 48 :: List.replicate n 48 := by
      have := kp_full (xs := [48]) (c := n + 1) (by simp)
      rw [show (([48] : List Int).length : Int) + 0 + n = ((n + 1 : Nat) : Int) by simp; omega, this]
      simp
    rw [e] at hk
    simp at hk
  · have nm := (X_ex hf).nml hz
    generalize (X d).length + P d + n = c at *
    rcases (show c < 0 ∨ 0 ≤ c by omega) with g | g
    · rw [kp_neg g] at hk
      simp at hk
    · obtain ⟨k, rfl⟩ := Int.eq_ofNat_of_zero_le g
      rcases Nat.lt_or_ge k (X d).length with g | g
      · rw [kp_cut g] at hk ⊢
        apply rd_head nm _ (by omega)
        rw [rd_len] at hk
        split at hk <;> omega
      · rw [kp_full g]
        have := nm.head
        obtain ⟨j, hj⟩ := nm.len
        match hx : X d, hj with
        | x :: ys, _ => rw [hx] at this; simpa using this

theorem pA_facts {d : Int} {n : Nat} (hf : Ie.fnt d = true) (hn : n ≤ 4200) :
    pA d n ++ pB d n = W d n ∧ (pB d n).length = n ∧ pA d n ≠ [] ∧ Digs (pA d n) ∧ Digs (pB d n) ∧ (pA d n).length ≤ 6000 ∧ (1 < (pA d n).length → (pA d n).getD 0 0 ≠ 48) := by
  have r : rf d n 0 = 0 := rf_zero.2 ⟨hf, by omega, by omega⟩
  have wl := W_len d n
  have wr := dv_W_room hf hn
  have wd := W_digs hf n
  have wh := W_head hf n
  unfold pA pB
  rw [if_pos r, if_pos r, Int.toNat_natCast]
  refine ⟨List.take_append_drop _ _, ?_, ?_, fun x h => wd x (List.mem_of_mem_take h), fun x h => wd x (List.mem_of_mem_drop h), ?_, ?_⟩
  · rw [List.length_drop]; omega
  · intro c
    have := congrArg List.length c
    rw [List.length_take, List.length_nil] at this
    omega
  · rw [List.length_take]; omega
  · intro c
    rw [List.length_take] at c
    rw [Nm.getD_take, if_pos (by omega)]
    exact wh (by omega)
end Fx
end Go.Proofs.YtbdbpjghmejfjaaGreatDoor

namespace Go.Proofs.YtbdbpjghmejfjaaGreatDoor
open Go Go.RowKit Go.Deep
namespace Fx

theorem rn_carry {xs : List Int} (hd : Digs xs) {k : Nat} (hk : k < xs.length) (h : rn xs (k + 1) = 10 ^ (k + 1)) : rn xs k = 10 ^ k := by
  have dk : Digs (xs.take (k + 1)) := fun d g => hd d (List.mem_of_mem_take g)
  have lk : (xs.take (k + 1)).length = k + 1 := by rw [List.length_take]; omega
  have b := dv_bd dk
  rw [lk] at b
  have T : dv (xs.take (k + 1)) = 10 ^ (k + 1) - 1 := by unfold rn at h; split at h <;> omega
  have e1 := take_last lk
  have x1 := digs_getD dk (show k < (xs.take (k + 1)).length by omega)
  rw [List.take_take, show min k (k + 1) = k by omega] at e1
  generalize hx : (xs.take (k + 1)).getD k 0 = x at *
  rw [e1, dv_snoc] at T
  have b2 := dv_bd (ds := xs.take k) (fun d g => hd d (List.mem_of_mem_take g))
  rw [List.length_take, Nat.min_eq_left (by omega)] at b2
  rw [Int.pow_succ] at T
  have T1 : dv (xs.take k) = 10 ^ k - 1 := by omega
  have T2 : x = 57 := by omega
  have e2 : xs.drop k = 57 :: xs.drop (k + 1) := by
    rw [List.drop_eq_getElem_cons hk]
    congr 1
    rw [Nm.getD_take, if_pos (by omega)] at hx
    rw [← T2, ← hx]
    simp [List.getD, hk]
  have u : up xs k = true := by
    unfold up
    rw [decide_eq_true_iff]
    left
    rw [e2, dv_cons, List.length_drop, show xs.length - k = (xs.length - (k + 1)) + 1 by omega, Int.pow_succ]
    have := (dv_bd (ds := xs.drop (k + 1)) (fun d g => hd d (List.mem_of_mem_drop g))).1
    have := p_pos (xs.length - (k + 1))
    omega
  unfold rn
  rw [u, if_pos rfl, T1]
  omega

theorem tx_ten (k : Nat) : tx (k + 1) (10 ^ k) = 49 :: List.replicate k 48 := by
  have l : (49 :: List.replicate k (48 : Int)).length = k + 1 := by simp
  have d : Digs (49 :: List.replicate k (48 : Int)) := by
    intro x h
    rcases List.mem_cons.1 h with rfl | h
    · omega
    · have := List.eq_of_mem_replicate h; omega
  have v : dv (49 :: List.replicate k (48 : Int)) = 10 ^ k := by
    rw [dv_cons, dv_zeros, List.length_replicate]
    omega
  have := eq_tx d
  rw [l, v] at this
  exact this.symm

/-- What Figures tells of a double that is not 0. -/
theorem fig_facts {d : Int} {k : Nat} (hf : Ie.fnt d = true) (hm : 0 < Ie.dm d) (h1 : 1 ≤ k) (h2 : k ≤ 4200) :
    (gS d k).length = k ∧ Digs (gS d k) ∧ (gS d k).getD 0 0 ≠ 48 ∧ -324 ≤ gK d k ∧ gK d k ≤ 308 ∧
    (∀ q : Nat, (q : Int) = k - 1 - gK d k → ∃ z, W d q = List.replicate z 48 ++ gS d k) := by
  have r : rf d k 1 = 0 := rf_zero.2 ⟨hf, by omega, by omega⟩
  obtain ⟨m0, m1, e0, e1, _⟩ := Ie.fdec d (of_decide_eq_true hf)
  have ex := X_ex hf
  have nm := ex.nml hm
  obtain ⟨r1, r2, r3⟩ := ex.room hm m1 e1
  obtain ⟨-, -, p3, p4, p5⟩ := X_room hf
  have rX : (X d).length + P d ≤ 309 := r2
  unfold gS gK
  rw [if_pos r, if_pos r, Int.toNat_natCast]
  rcases Nat.lt_or_ge k (X d).length with g | g
  · rw [kp_cut g]
    have hl := rd_len (X d) k
    have hh := rd_head nm (show 0 < k by omega) (show k ≤ (X d).length by omega)
    have dd := rd_digs (X d) k
    obtain ⟨j, rfl⟩ : ∃ j, k = j + 1 := ⟨k - 1, by omega⟩
    by_cases c : rn (X d) (j + 1) = 10 ^ (j + 1)
    · rw [if_pos c] at hl
      have rdv : rd (X d) (j + 1) = 49 :: List.replicate (j + 1) 48 := by unfold rd; rw [c, if_pos rfl, tx_ten]
      have lt308 : (X d).length + P d ≠ 309 := by
        intro hE
        have b := r3 hE
        have dk : Digs ((X d).take (j + 1)) := fun x g => nm.digs x (List.mem_of_mem_take g)
        have lk : ((X d).take (j + 1)).length = j + 1 := by rw [List.length_take]; omega
        have T : 10 ^ (j + 1) - 1 ≤ dv ((X d).take (j + 1)) := by unfold rn at c; split at c <;> omega
        have e : dv (X d) = dv ((X d).take (j + 1)) * 10 ^ ((X d).length - (j + 1)) + dv ((X d).drop (j + 1)) := by
          conv => lhs; rw [← List.take_append_drop (j + 1) (X d), dv_append, List.length_drop]
        have b2 := (dv_bd (ds := (X d).drop (j + 1)) (fun x g => nm.digs x (List.mem_of_mem_drop g))).1
        have pz := p_pos ((X d).length - (j + 1))
        have f1 : (10 ^ (j + 1) - 1) * 10 ^ ((X d).length - (j + 1)) ≤ dv ((X d).take (j + 1)) * 10 ^ ((X d).length - (j + 1)) := Int.mul_le_mul_of_nonneg_right T (Int.le_of_lt pz)
        have f2 : (X d).length - 1 = j + ((X d).length - (j + 1)) := by omega
        rw [f2, Int.pow_add] at b
        have f3 : ((9 : Int) * 10 ^ j) * 10 ^ ((X d).length - (j + 1)) ≤ (10 ^ (j + 1) - 1) * 10 ^ ((X d).length - (j + 1)) := by
          refine Int.mul_le_mul_of_nonneg_right ?_ (Int.le_of_lt pz)
          rw [Int.pow_succ]
          have := p_pos j
          omega
        have f4 : 0 < 10 ^ j * (10 : Int) ^ ((X d).length - (j + 1)) := Int.mul_pos (p_pos j) pz
        rw [Int.mul_assoc] at f3
        generalize 10 ^ j * (10 : Int) ^ ((X d).length - (j + 1)) = y at *
        omega
      rw [if_pos (by rw [hl]; omega), rdv]
      have tk : (49 :: List.replicate (j + 1) (48 : Int)).take (j + 1) = 49 :: List.replicate j 48 := by
        rw [List.take_succ_cons, List.take_replicate, Nat.min_eq_left (by omega)]
      rw [tk]
      refine ⟨by simp, ?_, by simp, by omega, by omega, ?_⟩
      · intro x h
        rcases List.mem_cons.1 h with rfl | h
        · omega
        · have := List.eq_of_mem_replicate h; omega
      · intro q hq
        refine ⟨q + 1 - (j + 1), ?_⟩
        have cq : ((X d).length : Int) + P d + q = (j : Int) := by omega
        unfold W
        rw [cq, kp_cut (by omega)]
        have rj := rn_carry nm.digs (show j < (X d).length by omega) c
        have rdj : rd (X d) j = 49 :: List.replicate j 48 := by unfold rd; rw [rj, if_pos rfl, tx_ten]
        rw [rdj]
        simp
    · rw [if_neg c] at hl
      rw [if_neg (by rw [hl]; omega), List.take_of_length_le (by omega)]
      refine ⟨hl, dd, hh, by omega, by omega, ?_⟩
      intro q hq
      refine ⟨q + 1 - (j + 1), ?_⟩
      have cq : ((X d).length : Int) + P d + q = ((j + 1 : Nat) : Int) := by omega
      unfold W
      rw [cq, kp_cut g, hl]
  · rw [kp_full g]
    have hl : (X d ++ List.replicate (k - (X d).length) 48).length = k := by rw [List.length_append, List.length_replicate]; omega
    rw [if_neg (by rw [hl]; omega), List.take_of_length_le (by omega)]
    refine ⟨hl, ?_, ?_, by omega, by omega, ?_⟩
    · intro x h
      rcases List.mem_append.1 h with h | h
      · exact nm.digs x h
      · have := List.eq_of_mem_replicate h; omega
    · have := nm.head
      obtain ⟨j, hj⟩ := nm.len
      match hx : X d, hj with
      | x :: ys, _ => rw [hx] at this; simpa using this
    · intro q hq
      refine ⟨q + 1 - k, ?_⟩
      have cq : ((X d).length : Int) + P d + q = (k : Int) := by omega
      unfold W
      rw [cq, kp_full g, hl]

theorem fig_zero {d : Int} {k : Nat} (hf : Ie.fnt d = true) (hm : Ie.dm d = 0) (h1 : 1 ≤ k) (h2 : k ≤ 4200) : gS d k = List.replicate k 48 ∧ gK d k = 0 := by
  have r : rf d k 1 = 0 := rf_zero.2 ⟨hf, by omega, by omega⟩
  obtain ⟨a, b⟩ := X_zero hf hm
  have e : kp [48] (k : Int) = List.replicate k 48 := by
    rw [kp_full (by simp; omega)]
    obtain ⟨j, rfl⟩ : ∃ j, k = j + 1 := ⟨k - 1, by omega⟩
    rw [List.replicate_succ]
    simp
  unfold gS gK
  rw [if_pos r, if_pos r, a, b, e, Int.toNat_natCast]
  simp

theorem fnt9995 : Ie.fnt 4652002910794678272 = true := by decide
theorem fg9995 : rf 4652002910794678272 3 1 = 0 ∧ gS 4652002910794678272 3 = [49, 48, 48] ∧ gK 4652002910794678272 3 = 3 := by
  have r : rf 4652002910794678272 3 1 = 0 := by decide
  refine ⟨r, ?_, ?_⟩
  · rw [gS, if_pos r, c9995.1]
    decide
  · rw [gK, if_pos r, c9995.1, c9995.2]
    decide
end Fx
end Go.Proofs.YtbdbpjghmejfjaaGreatDoor

namespace Go.Proofs.YtbdbpjghmejfjaaGreatDoor
open Go Go.RowKit Go.Deep
namespace Fx

theorem digs_z {xs : List Int} (hd : Digs xs) (z : Nat) : Digs (xs ++ List.replicate z 48) := by
  intro x h
  rcases List.mem_append.1 h with h | h
  · exact hd x h
  · have := List.eq_of_mem_replicate h; omega

theorem rd_z {xs : List Int} (hd : Digs xs) {z k : Nat} (hk : k ≤ xs.length + z) : rd (xs ++ List.replicate z 48) k = kp xs (k : Int) := by
  have dz := digs_z hd z
  have lz : (xs ++ List.replicate z (48 : Int)).length = xs.length + z := by simp
  rcases Nat.lt_or_ge k xs.length with c | c
  · rw [kp_cut c]
    have e1 : (xs ++ List.replicate z (48 : Int)).take k = xs.take k := List.take_append_of_le_length (by omega)
    have e2 : (xs ++ List.replicate z (48 : Int)).drop k = xs.drop k ++ List.replicate z 48 := List.drop_append_of_le_length (by omega)
    have e3 : dv ((xs ++ List.replicate z (48 : Int)).drop k) = dv (xs.drop k) * 10 ^ z := by rw [e2, dv_append, dv_zeros, List.length_replicate, Int.add_zero]
    have u : up (xs ++ List.replicate z (48 : Int)) k = up xs k := by
      unfold up
      rw [e1, e3, lz, show xs.length + z - k = xs.length - k + z by omega, Int.pow_add]
      have pz := p_pos z
      generalize (10 : Int) ^ z = T at *
      generalize (10 : Int) ^ (xs.length - k) = A at *
      generalize dv (xs.drop k) = R at *
      congr 1
      apply propext
      have f1 : 2 * (R * T) = (2 * R) * T := by rw [Int.mul_assoc]
      rw [f1]
      constructor
      · rintro (h | ⟨h, g⟩)
        · exact .inl (Int.lt_of_mul_lt_mul_right h (Int.le_of_lt pz))
        · exact .inr ⟨Int.eq_of_mul_eq_mul_right (by omega) h, g⟩
      · rintro (h | ⟨h, g⟩)
        · exact .inl (Int.mul_lt_mul_of_pos_right h pz)
        · exact .inr ⟨by rw [h], g⟩
    unfold rd rn
    rw [u, e1]
  · rw [kp_full c]
    have e : xs ++ List.replicate z (48 : Int) = (xs ++ List.replicate (k - xs.length) 48) ++ List.replicate (xs.length + z - k) 48 := by
      rw [List.append_assoc, List.replicate_append_replicate]
      congr 2
      omega
    have lk : (xs ++ List.replicate (k - xs.length) (48 : Int)).length = k := by simp; omega
    have tk : (xs ++ List.replicate z (48 : Int)).take k = xs ++ List.replicate (k - xs.length) 48 := by rw [e, List.take_append_of_le_length (by omega), List.take_of_length_le (by omega)]
    have dk : (xs ++ List.replicate z (48 : Int)).drop k = List.replicate (xs.length + z - k) 48 := by rw [e, List.drop_append_of_le_length (by omega), List.drop_of_length_le (by omega)]; rfl
    have u : up (xs ++ List.replicate z (48 : Int)) k = false := by
      unfold up
      rw [decide_eq_false_iff_not, dk, dv_zeros]
      have := p_pos ((xs ++ List.replicate z (48 : Int)).length - k)
      omega
    rw [rd_keep dz (by omega) u, tk]

/-- What Figures tells, out of the rounded row. -/
theorem fig_cut {d : Int} {n : Nat} (hf : Ie.fnt d = true) (h1 : 1 ≤ n) (h2 : n ≤ 4200) :
    gS d n = (kp (X d) n).take n ∧ gK d n = (X d).length - 1 + P d + (kp (X d) n).length - n ∧ n ≤ (kp (X d) n).length ∧ (kp (X d) n).length ≤ n + 1 := by
  have r : rf d n 1 = 0 := rf_zero.2 ⟨hf, by omega, by omega⟩
  have hl : n ≤ (kp (X d) n).length ∧ (kp (X d) n).length ≤ n + 1 := by
    rcases Nat.lt_or_ge n (X d).length with c | c
    · rw [kp_cut c, rd_len]; split <;> omega
    · rw [kp_full c, List.length_append, List.length_replicate]; omega
  unfold gS gK
  rw [if_pos r, if_pos r, Int.toNat_natCast]
  refine ⟨rfl, ?_, hl⟩
  split <;> omega
theorem al9995 : aN 4652002910794678272 = false ∧ aS 4652002910794678272 = [57, 57, 57, 53] ∧ aE 4652002910794678272 = -1 ∧ aR 4652002910794678272 = 0 := by
  refine ⟨by decide, ?_, ?_, by decide⟩
  · rw [aS, if_pos fnt9995, c9995.1]
  · rw [aE, if_pos fnt9995, c9995.2]
end Fx
end Go.Proofs.YtbdbpjghmejfjaaGreatDoor
