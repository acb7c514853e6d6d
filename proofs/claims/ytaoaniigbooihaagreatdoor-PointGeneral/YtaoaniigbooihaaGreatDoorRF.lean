/-
  Texts put together: FHeadsN, FRdN, FCutsN, NGood, SOne2, JNum, PoN, PoLay.
-/
import Derived.Test.YtaoaniigbooihaaGreatDoorRE
import Derived.Test.YtaoaniigbooihaaGreatDoorRD
import Derived.Test.YtaoaniigbooihaaGreatDoorRB
import Derived.Test.YtaoaniigbooihaaGreatDoorNDigit
import Derived.Test.YtaoaniigbooihaaGreatDoorNDv
import Derived.Shelf.Strings.OnBuilder
namespace Go.Proofs.YtaoaniigbooihaaGreatDoor
open Go Go.RowKit Go.Deep
namespace Fx

theorem rn_carry {xs : List Int} (hd : Digs xs) {k : Nat} (hk : k < xs.length) (h : rn xs (k + 1) = 10 ^ (k + 1)) : rn xs k = 10 ^ k := by
  have dk : Digs (xs.take (k + 1)) := fun d g => hd d (List.mem_of_mem_take g)
  have lk : (xs.take (k + 1)).length = k + 1 := by rw [List.length_take]; omega
  have b := dv_bd dk
  rw [lk] at b
  have T : dv (xs.take (k + 1)) = 10 ^ (k + 1) - 1 := by unfold rn at h; split at h <;> omega
  have e1 := take_last lk
  have x1 := digs_getD dk (show k < (xs.take (k + 1)).length by omega)
  rw [List.take_take, show min k (k + 1) = k by omega] at e1
  generalize hx : (xs.take (k + 1)).getD k 0 = x at *
  rw [e1, dv_snoc] at T
  have b2 := dv_bd (ds := xs.take k) (fun d g => hd d (List.mem_of_mem_take g))
  rw [List.length_take, Nat.min_eq_left (by omega)] at b2
  rw [Int.pow_succ] at T
  have T1 : dv (xs.take k) = 10 ^ k - 1 := by omega
  have T2 : x = 57 := by omega
  have e2 : xs.drop k = 57 :: xs.drop (k + 1) := by
    rw [List.drop_eq_getElem_cons hk]
    congr 1
    rw [Nm.getD_take, if_pos (by omega)] at hx
    rw [← T2, ← hx]
    simp [List.getD, hk]
  have u : up xs k = true := by
    unfold up
    rw [decide_eq_true_iff]
    left
    rw [e2, dv_cons, List.length_drop, show xs.length - k = (xs.length - (k + 1)) + 1 by omega, Int.pow_succ]
    have := (dv_bd (ds := xs.drop (k + 1)) (fun d g => hd d (List.mem_of_mem_drop g))).1
    have := p_pos (xs.length - (k + 1))
    omega
  unfold rn
  rw [u, if_pos rfl, T1]
  omega

theorem tx_ten (k : Nat) : tx (k + 1) (10 ^ k) = 49 :: List.replicate k 48 := by
  have l : (49 :: List.replicate k (48 : Int)).length = k + 1 := by simp
  have d : Digs (49 :: List.replicate k (48 : Int)) := by
    intro x h
    rcases List.mem_cons.1 h with rfl | h
    · omega
    · have := List.eq_of_mem_replicate h; omega
  have v : dv (49 :: List.replicate k (48 : Int)) = 10 ^ k := by
    rw [dv_cons, dv_zeros, List.length_replicate]
    omega
  have := eq_tx d
  rw [l, v] at this
  exact this.symm

/-- What Figures tells of a double that is not 0. -/
theorem fig_facts {d : Int} {k : Nat} (hf : Ie.fnt d = true) (hm : 0 < Ie.dm d) (h1 : 1 ≤ k) (h2 : k ≤ 4200) :
    (gS d k).length = k ∧ Digs (gS d k) ∧ (gS d k).getD 0 0 ≠ 48 ∧ -324 ≤ gK d k ∧ gK d k ≤ 308 ∧
    (∀ q : Nat, (q : Int) = k - 1 - gK d k → ∃ z, W d q = List.replicate z 48 ++ gS d k) := by
  have r : rf d k 1 = 0 := rf_zero.2 ⟨hf, by omega, by omega⟩
  obtain ⟨m0, m1, e0, e1, _⟩ := Ie.fdec d (of_decide_eq_true hf)
  have ex := X_ex hf
  have nm := ex.nml hm
  obtain ⟨r1, r2, r3⟩ := ex.room hm m1 e1
  obtain ⟨-, -, p3, p4, p5⟩ := X_room hf
  have rX : (X d).length + P d ≤ 309 := r2
  unfold gS gK
  rw [if_pos r, if_pos r, Int.toNat_natCast]
  rcases Nat.lt_or_ge k (X d).length with g | g
  · rw [kp_cut g]
    have hl := rd_len (X d) k
    have hh := rd_head nm (show 0 < k by omega) (show k ≤ (X d).length by omega)
    have dd := rd_digs (X d) k
    obtain ⟨j, rfl⟩ : ∃ j, k = j + 1 := ⟨k - 1, by omega⟩
    by_cases c : rn (X d) (j + 1) = 10 ^ (j + 1)
    · rw [if_pos c] at hl
      have rdv : rd (X d) (j + 1) = 49 :: List.replicate (j + 1) 48 := by unfold rd; rw [c, if_pos rfl, tx_ten]
      have lt308 : (X d).length + P d ≠ 309 := by
        intro hE
        have b := r3 hE
        have dk : Digs ((X d).take (j + 1)) := fun x g => nm.digs x (List.mem_of_mem_take g)
        have lk : ((X d).take (j + 1)).length = j + 1 := by rw [List.length_take]; omega
        have T : 10 ^ (j + 1) - 1 ≤ dv ((X d).take (j + 1)) := by unfold rn at c; split at c <;> omega
        have e : dv (X d) = dv ((X d).take (j + 1)) * 10 ^ ((X d).length - (j + 1)) + dv ((X d).drop (j + 1)) := by
          conv => lhs; rw [← List.take_append_drop (j + 1) (X d), dv_append, List.length_drop]
        have b2 := (dv_bd (ds := (X d).drop (j + 1)) (fun x g => nm.digs x (List.mem_of_mem_drop g))).1
        have pz := p_pos ((X d).length - (j + 1))
        have f1 : (10 ^ (j + 1) - 1) * 10 ^ ((X d).length - (j + 1)) ≤ dv ((X d).take (j + 1)) * 10 ^ ((X d).length - (j + 1)) := Int.mul_le_mul_of_nonneg_right T (Int.le_of_lt pz)
        have f2 : (X d).length - 1 = j + ((X d).length - (j + 1)) := by omega
        rw [f2, Int.pow_add] at b
        have f3 : ((9 : Int) * 10 ^ j) * 10 ^ ((X d).length - (j + 1)) ≤ (10 ^ (j + 1) - 1) * 10 ^ ((X d).length - (j + 1)) := by
          refine Int.mul_le_mul_of_nonneg_right ?_ (Int.le_of_lt pz)
          rw [Int.pow_succ]
          have := p_pos j
          omega
        have f4 : 0 < 10 ^ j * (10 : Int) ^ ((X d).length - (j + 1)) := Int.mul_pos (p_pos j) pz
        rw [Int.mul_assoc] at f3
        generalize 10 ^ j * (10 : Int) ^ ((X d).length - (j + 1)) = y at *
        omega
      rw [if_pos (by rw [hl]; omega), rdv]
      have tk : (49 :: List.replicate (j + 1) (48 : Int)).take (j + 1) = 49 :: List.replicate j 48 := by
        rw [List.take_succ_cons, List.take_replicate, Nat.min_eq_left (by omega)]
      rw [tk]
      refine ⟨by simp, ?_, by simp, by omega, by omega, ?_⟩
      · intro x h
        rcases List.mem_cons.1 h with rfl | h
        · omega
        · have := List.eq_of_mem_replicate h; omega
      · intro q hq
        refine ⟨q + 1 - (j + 1), ?_⟩
        have cq : ((X d).length : Int) + P d + q = (j : Int) := by omega
        unfold W
        rw [cq, kp_cut (by omega)]
        have rj := rn_carry nm.digs (show j < (X d).length by omega) c
        have rdj : rd (X d) j = 49 :: List.replicate j 48 := by unfold rd; rw [rj, if_pos rfl, tx_ten]
        rw [rdj]
        simp
    · rw [if_neg c] at hl
      rw [if_neg (by rw [hl]; omega), List.take_of_length_le (by omega)]
      refine ⟨hl, dd, hh, by omega, by omega, ?_⟩
      intro q hq
      refine ⟨q + 1 - (j + 1), ?_⟩
      have cq : ((X d).length : Int) + P d + q = ((j + 1 : Nat) : Int) := by omega
      unfold W
      rw [cq, kp_cut g, hl]
  · rw [kp_full g]
    have hl : (X d ++ List.replicate (k - (X d).length) 48).length = k := by rw [List.length_append, List.length_replicate]; omega
    rw [if_neg (by rw [hl]; omega), List.take_of_length_le (by omega)]
    refine ⟨hl, ?_, ?_, by omega, by omega, ?_⟩
    · intro x h
      rcases List.mem_append.1 h with h | h
      · exact nm.digs x h
      · have := List.eq_of_mem_replicate h; omega
    · have := nm.head
      obtain ⟨j, hj⟩ := nm.len
      match hx : X d, hj with
      | x :: ys, _ => rw [hx] at this; simpa using this
    · intro q hq
      refine ⟨q + 1 - k, ?_⟩
      have cq : ((X d).length : Int) + P d + q = (k : Int) := by omega
      unfold W
      rw [cq, kp_full g, hl]

theorem fig_zero {d : Int} {k : Nat} (hf : Ie.fnt d = true) (hm : Ie.dm d = 0) (h1 : 1 ≤ k) (h2 : k ≤ 4200) : gS d k = List.replicate k 48 ∧ gK d k = 0 := by
  have r : rf d k 1 = 0 := rf_zero.2 ⟨hf, by omega, by omega⟩
  obtain ⟨a, b⟩ := X_zero hf hm
  have e : kp [48] (k : Int) = List.replicate k 48 := by
    rw [kp_full (by simp; omega)]
    obtain ⟨j, rfl⟩ : ∃ j, k = j + 1 := ⟨k - 1, by omega⟩
    rw [List.replicate_succ]
    simp
  unfold gS gK
  rw [if_pos r, if_pos r, a, b, e, Int.toNat_natCast]
  simp

theorem fnt9995 : Ie.fnt 4652002910794678272 = true := by decide
theorem fg9995 : rf 4652002910794678272 3 1 = 0 ∧ gS 4652002910794678272 3 = [49, 48, 48] ∧ gK 4652002910794678272 3 = 3 := by
  have r : rf 4652002910794678272 3 1 = 0 := by decide
  refine ⟨r, ?_, ?_⟩
  · rw [gS, if_pos r, c9995.1]
    decide
  · rw [gK, if_pos r, c9995.1, c9995.2]
    decide
end Fx
end Go.Proofs.YtaoaniigbooihaaGreatDoor

namespace Go.Proofs.YtaoaniigbooihaaGreatDoor
open Go Go.RowKit Go.Deep
namespace Fx

theorem rd_keep {xs : List Int} {k : Nat} (hd : Digs xs) (hk : k ≤ xs.length) (h : up xs k = false) : rd xs k = xs.take k := by
  have dk : Digs (xs.take k) := fun d g => hd d (List.mem_of_mem_take g)
  have b := dv_bd dk
  have lk : (xs.take k).length = k := by rw [List.length_take]; omega
  rw [lk] at b
  have r : rn xs k = dv (xs.take k) := by unfold rn; rw [h]; simp
  exact (rd_of dk r.symm (by rw [if_neg (by omega), lk])).symm
theorem rd_more {xs ds : List Int} {k : Nat} {c : Bool} (hd : Digs xs) (hk : k ≤ xs.length) (h : UpIs (xs.take k) (xs.drop k) false true) (R : Raised (xs.take k) ds c) : (if c = true then 49 :: ds else ds) = rd xs k := by
  have lk : (xs.take k).length = k := by rw [List.length_take]; omega
  obtain ⟨r1, r2, r3⟩ := R
  rw [lk] at r2 r3
  exact rd_round hd hk ⟨r1, r2, true, h, by rw [if_pos (rfl : true = true)]; exact r3⟩
theorem up_full (xs : List Int) : up xs xs.length = false := by
  unfold up
  rw [decide_eq_false_iff_not]
  rw [Nat.sub_self, List.drop_length, show dv [] = 0 from rfl]
  simp
theorem rd_self {xs : List Int} (hd : Digs xs) : rd xs xs.length = xs := by
  rw [rd_keep hd (Nat.le_refl _) (up_full xs), List.take_length]
theorem up_of {xs : List Int} {k : Nat} {u : Bool} (h : UpIs (xs.take k) (xs.drop k) false u) : up xs k = u := (up_is h).symm
end Fx

theorem own_str {g k cap : Nat} {W : World} {fs : List Int} (o : OwnF W g fs) (hl : k ≤ fs.length) (hd : Digs (fs.take k)) :
    ∃ s, Str s (fs.take k) ∧ (convert 47 9 (.slice (some ⟨g, 0, none⟩) k cap)).run Tryz.prog W = .ok (.string s) W := by
  have hlen : (fs.take k).length = k := by simp; omega
  refine ⟨strOfNums (fs.take k), Str.of_nums (fun x hx => by have := hd x hx; omega), run_convert_bytes_arg (P := Tryz.prog) W 47 5 Tryz.underlying47 Tryz.underlying5 g 0 k cap (fs.take k) hlen (fun i hi => ?_) 9 Tryz.underlying9⟩
  rw [Nat.zero_add, o.cell i (by omega)]
  simp [List.getD, hi]

theorem Str.ne' {s : ByteArray} {xs : List Int} (h : Str s xs) (hx : xs ≠ []) : (s.toList == []) = false ∧ s.toList.isEmpty = false := by
  have e1 : s.toList ≠ [] := by
    intro c
    apply hx
    rw [ByteArray.toList_eq] at c
    rw [← h, c]
    rfl
  exact ⟨by rw [beq_eq_false_iff_ne]; exact e1, by rw [List.isEmpty_eq_false_iff]; exact e1⟩

/-- []byte(s): the block, its cells, and the run. -/
theorem bytes_made {s : ByteArray} {xs : List Int} (hs : Str s xs) (w : World) :
    ∃ (cap : Nat) (es : List Int) (w1 : World), (convert 9 47 (.string s)).run Tryz.prog w = .ok (.slice (some ⟨w.heap.size, 0, none⟩) s.size cap) w1 ∧ OwnF w1 w.heap.size es ∧ es.take xs.length = xs ∧ xs.length ≤ es.length ∧ Below w.heap.size w w1 := by
  have CV := run_bytes_of_string (P := Tryz.prog) w 9 47 5 s Tryz.underlying9 Tryz.underlying47 Tryz.underlying5
  obtain ⟨cap, hcap⟩ : ∃ cap, grownCap w s.size 0 5 = cap := ⟨_, rfl⟩
  rw [hcap] at CV
  refine ⟨cap, xs ++ List.replicate (cap - xs.length) 0, _, CV, bytes_own hs w cap, ?_, by simp, (below_drewN (Below.refl _ _) 1).alloc (Nat.le_refl _) _⟩
  rw [List.take_append_of_le_length (by omega), List.take_length]
end Go.Proofs.YtaoaniigbooihaaGreatDoor

namespace Go.Proofs.YtaoaniigbooihaaGreatDoor
open Go Go.RowKit Go.Deep
namespace Fx

theorem digs_z {xs : List Int} (hd : Digs xs) (z : Nat) : Digs (xs ++ List.replicate z 48) := by
  intro x h
  rcases List.mem_append.1 h with h | h
  · exact hd x h
  · have := List.eq_of_mem_replicate h; omega

theorem rd_z {xs : List Int} (hd : Digs xs) {z k : Nat} (hk : k ≤ xs.length + z) : rd (xs ++ List.replicate z 48) k = kp xs (k : Int) := by
  have dz := digs_z hd z
  have lz : (xs ++ List.replicate z (48 : Int)).length = xs.length + z := by simp
  rcases Nat.lt_or_ge k xs.length with c | c
  · rw [kp_cut c]
    have e1 : (xs ++ List.replicate z (48 : Int)).take k = xs.take k := List.take_append_of_le_length (by omega)
    have e2 : (xs ++ List.replicate z (48 : Int)).drop k = xs.drop k ++ List.replicate z 48 := List.drop_append_of_le_length (by omega)
    have e3 : dv ((xs ++ List.replicate z (48 : Int)).drop k) = dv (xs.drop k) * 10 ^ z := by rw [e2, dv_append, dv_zeros, List.length_replicate, Int.add_zero]
    have u : up (xs ++ List.replicate z (48 : Int)) k = up xs k := by
      unfold up
      rw [e1, e3, lz, show xs.length + z - k = xs.length - k + z by omega, Int.pow_add]
      have pz := p_pos z
      generalize (10 : Int) ^ z = T at *
      generalize (10 : Int) ^ (xs.length - k) = A at *
      generalize dv (xs.drop k) = R at *
      congr 1
      apply propext
      have f1 : 2 * (R * T) = (2 * R) * T := by rw [Int.mul_assoc]
      rw [f1]
      constructor
      · rintro (h | ⟨h, g⟩)
        · exact .inl (Int.lt_of_mul_lt_mul_right h (Int.le_of_lt pz))
        · exact .inr ⟨Int.eq_of_mul_eq_mul_right (by omega) h, g⟩
      · rintro (h | ⟨h, g⟩)
        · exact .inl (Int.mul_lt_mul_of_pos_right h pz)
        · exact .inr ⟨by rw [h], g⟩
    unfold rd rn
    rw [u, e1]
  · rw [kp_full c]
    have e : xs ++ List.replicate z (48 : Int) = (xs ++ List.replicate (k - xs.length) 48) ++ List.replicate (xs.length + z - k) 48 := by
      rw [List.append_assoc, List.replicate_append_replicate]
      congr 2
      omega
    have lk : (xs ++ List.replicate (k - xs.length) (48 : Int)).length = k := by simp; omega
    have tk : (xs ++ List.replicate z (48 : Int)).take k = xs ++ List.replicate (k - xs.length) 48 := by rw [e, List.take_append_of_le_length (by omega), List.take_of_length_le (by omega)]
    have dk : (xs ++ List.replicate z (48 : Int)).drop k = List.replicate (xs.length + z - k) 48 := by rw [e, List.drop_append_of_le_length (by omega), List.drop_of_length_le (by omega)]; rfl
    have u : up (xs ++ List.replicate z (48 : Int)) k = false := by
      unfold up
      rw [decide_eq_false_iff_not, dk, dv_zeros]
      have := p_pos ((xs ++ List.replicate z (48 : Int)).length - k)
      omega
    rw [rd_keep dz (by omega) u, tk]

/-- What Figures tells, out of the rounded row. -/
theorem fig_cut {d : Int} {n : Nat} (hf : Ie.fnt d = true) (h1 : 1 ≤ n) (h2 : n ≤ 4200) :
    gS d n = (kp (X d) n).take n ∧ gK d n = (X d).length - 1 + P d + (kp (X d) n).length - n ∧ n ≤ (kp (X d) n).length ∧ (kp (X d) n).length ≤ n + 1 := by
  have r : rf d n 1 = 0 := rf_zero.2 ⟨hf, by omega, by omega⟩
  have hl : n ≤ (kp (X d) n).length ∧ (kp (X d) n).length ≤ n + 1 := by
    rcases Nat.lt_or_ge n (X d).length with c | c
    · rw [kp_cut c, rd_len]; split <;> omega
    · rw [kp_full c, List.length_append, List.length_replicate]; omega
  unfold gS gK
  rw [if_pos r, if_pos r, Int.toNat_natCast]
  refine ⟨rfl, ?_, hl⟩
  split <;> omega
theorem al9995 : aN 4652002910794678272 = false ∧ aS 4652002910794678272 = [57, 57, 57, 53] ∧ aE 4652002910794678272 = -1 ∧ aR 4652002910794678272 = 0 := by
  refine ⟨by decide, ?_, ?_, by decide⟩
  · rw [aS, if_pos fnt9995, c9995.1]
  · rw [aE, if_pos fnt9995, c9995.2]
end Fx
end Go.Proofs.YtaoaniigbooihaaGreatDoor

namespace Go.Proofs.YtaoaniigbooihaaGreatDoor
open Go.RowKit Go.Deep

theorem cap_facts : ∀ k : Fin 36, wv (capL.getD k.val 0) = (k.val : Int) ∧ ¬ (97 ≤ capL.getD k.val 0 ∧ capL.getD k.val 0 ≤ 122) ∧ (capL.getD k.val 0 = 48 → k.val = 0) := by decide
theorem small_facts : ∀ k : Fin 36, wv (smallL.getD k.val 0) = (k.val : Int) ∧ ¬ (65 ≤ smallL.getD k.val 0 ∧ smallL.getD k.val 0 ≤ 90) ∧ (smallL.getD k.val 0 = 48 → k.val = 0) := by decide

/-- A letter, by the digit. -/
theorem letter_facts (up : Bool) (d : Int) (h0 : 0 ≤ d) (h1 : d < 36) : wv ((lettersOf up).getD d.toNat 0) = d ∧ (up = true → ¬ (97 ≤ (lettersOf up).getD d.toNat 0 ∧ (lettersOf up).getD d.toNat 0 ≤ 122)) ∧ (up = false → ¬ (65 ≤ (lettersOf up).getD d.toNat 0 ∧ (lettersOf up).getD d.toNat 0 ≤ 90)) ∧ ((lettersOf up).getD d.toNat 0 = 48 → d = 0) := by
  cases up with
  | true =>
    have k := cap_facts ⟨d.toNat, by omega⟩
    simp only at k
    rw [show lettersOf true = capL from rfl]
    exact ⟨by rw [k.1]; omega, fun _ => k.2.1, fun h => absurd h (by decide), fun h => by have := k.2.2 h; omega⟩
  | false =>
    have k := small_facts ⟨d.toNat, by omega⟩
    simp only at k
    rw [show lettersOf false = smallL from rfl]
    exact ⟨by rw [k.1]; omega, fun h => absurd h (by decide), fun _ => k.2.1, fun h => by have := k.2.2 h; omega⟩

/-- What a text that InBase wrote is like. -/
structure Good (zs : List Int) (B : Int) (up : Bool) (xs : List Int) : Prop where
  ne : xs ≠ []
  len : xs.length ≤ 262144
  case_ : ∀ i, i < xs.length → (up = true → ¬ (97 ≤ xs.getD i 0 ∧ xs.getD i 0 ≤ 122)) ∧ (up = false → ¬ (65 ≤ xs.getD i 0 ∧ xs.getD i 0 ≤ 90))
  dig : ∀ i, i < xs.length → wv (xs.getD i 0) < B
  val : Dn.tv B 0 (xs.map wv) = Nm.val zs
  head : 0 < Nm.tsize zs → xs.getD 0 0 ≠ 48
  zero : Nm.tsize zs = 0 → xs = [48]

theorem good_zero {zs : List Int} {B : Int} {up : Bool} (hz : Nm.Limbs zs) (h : Nm.tsize zs = 0) (hB : 2 ≤ B) : Good zs B up [48] := by
  refine ⟨by simp, by simp, fun i hi => ?_, fun i hi => ?_, ?_, fun c => by omega, fun _ => rfl⟩
  · obtain rfl : i = 0 := by simpa using hi
    exact ⟨fun _ => by simp, fun _ => by simp⟩
  · obtain rfl : i = 0 := by simpa using hi
    show wv 48 < B
    rw [show wv 48 = 0 by decide]
    omega
  · rw [(Nm.tsize_zero_iff hz).1 h, show [48].map wv = [0] by decide]
    simp [Dn.tv]

theorem map_wv_lets {up : Bool} {B : Int} (h36 : B ≤ 36) (ds : List Int) (hd : ∀ d ∈ ds, 0 ≤ d ∧ d < B) : (lets (lettersOf up) ds).map wv = ds := by
  unfold lets
  rw [List.map_map]
  conv => rhs; rw [← List.map_id ds]
  apply List.map_congr_left
  intro d h
  have := hd d h
  exact (letter_facts up d this.1 (by omega)).1

theorem good_ok {zs : List Int} {B : Int} {up : Bool} {L : Nat} (hz : Nm.Limbs zs) (h0 : 0 < Nm.tsize zs) (h1 : Nm.tsize zs ≤ 4096) (h2 : 2 ≤ B) (h36 : B ≤ 36) (hL : Nm.val zs < B ^ L) : Good zs B up (lets (lettersOf up) (Dn.strip (Dn.dg B L (Nm.val zs)))) := by
  have hB : 0 < B := by omega
  have hv0 := (Nm.val_bd zs hz).1
  have hvz : Nm.val zs ≠ 0 := fun c => by have := (Nm.tsize_zero_iff hz).2 c; omega
  have hL2 : Nm.val zs < B ^ 262144 := by
    have e1 := (Nm.tsize_le_iff hz 4096).1 h1
    rw [Nm.pw_two 4096, show 64 * 4096 = 262144 from rfl] at e1
    exact Int.lt_of_lt_of_le e1 (Pn.pow_base (by omega) h2 262144)
  rw [Dn.strip_dg hB hv0 hL hL2]
  obtain ⟨ds, hds⟩ : ∃ ds, Dn.strip (Dn.dg B 262144 (Nm.val zs)) = ds := ⟨_, rfl⟩
  have hm : ∀ d ∈ ds, 0 ≤ d ∧ d < B := fun d hd => by
    rw [← hds] at hd
    exact Dn.dg_mem hB _ _ d (Dn.strip_mem hd)
  have htv : Dn.tv B 0 ds = Nm.val zs := by rw [← hds, Dn.tv_strip, Dn.tv_dg hB _ _ hv0 hL2]
  have hlen : ds.length ≤ 262144 := by
    have := (List.dropWhile_sublist (fun d : Int => decide (d = 0)) (l := Dn.dg B 262144 (Nm.val zs))).length_le
    rw [Dn.dg_length] at this
    rw [← hds]
    exact this
  have hne : ds ≠ [] := fun c => by rw [c] at htv; exact hvz htv.symm
  rw [hds]
  have hg : ∀ i, i < ds.length → (lets (lettersOf up) ds).getD i 0 = (lettersOf up).getD (ds.getD i 0).toNat 0 := fun i hi => by simp [lets, List.getD, hi]
  have hl : (lets (lettersOf up) ds).length = ds.length := by simp [lets]
  have hat : ∀ i, i < ds.length → 0 ≤ ds.getD i 0 ∧ ds.getD i 0 < B := fun i hi => by
    have e : ds.getD i 0 = ds[i] := by simp [List.getD, hi]
    rw [e]
    exact hm _ (List.getElem_mem hi)
  refine ⟨fun c => hne (by simpa [lets] using c), by rw [hl]; exact hlen, fun i hi => ?_, fun i hi => ?_, by rw [map_wv_lets h36 ds hm, htv], fun _ => ?_, fun c => by omega⟩
  · rw [hl] at hi
    rw [hg i hi]
    have := hat i hi
    have f := letter_facts up (ds.getD i 0) this.1 (by omega)
    exact ⟨f.2.1, f.2.2.1⟩
  · rw [hl] at hi
    rw [hg i hi]
    have := hat i hi
    rw [(letter_facts up (ds.getD i 0) this.1 (by omega)).1]
    exact this.2
  · have hi : 0 < ds.length := by
      rcases Nat.eq_zero_or_pos ds.length with c | c
      · exact absurd (List.eq_nil_of_length_eq_zero c) hne
      · exact c
    rw [hg 0 hi]
    have hb := hat 0 hi
    intro c
    have := (letter_facts up (ds.getD 0 0) hb.1 (by omega)).2.2.2 c
    obtain ⟨d, rest, hdr⟩ : ∃ d rest, ds = d :: rest := List.exists_cons_of_ne_nil hne
    have k := Dn.strip_head (ds := Dn.dg B 262144 (Nm.val zs)) (by rw [hds]; exact hdr)
    rw [hdr] at this
    exact k (by simpa using this)
end Go.Proofs.YtaoaniigbooihaaGreatDoor

namespace Go.Proofs.YtaoaniigbooihaaGreatDoor

theorem InIs.one {zs : List Int} {B : Int} {up : Bool} {xs ys : List Int} {E F : Int} (hz : Nm.Limbs zs) (h : InIs zs B up xs E) (k : InIs zs B up ys F) : xs = ys ∧ E = F := by
  cases h with
  | big h1 => cases k <;> first | exact ⟨rfl, rfl⟩ | (exfalso; omega)
  | base h1 h2 => cases k <;> first | exact ⟨rfl, rfl⟩ | (exfalso; omega)
  | zero h1 h2 h3 => cases k <;> first | exact ⟨rfl, rfl⟩ | (exfalso; omega)
  | ok L h1 h2 h3 h4 h5 =>
    cases k with
    | big k1 => exfalso; omega
    | base k1 k2 => exfalso; omega
    | zero k1 k2 k3 => exfalso; omega
    | ok M k1 k2 k3 k4 k5 => exact ⟨by rw [Dn.strip_dg (by omega) (Nm.val_bd zs hz).1 h5 k5], rfl⟩
end Go.Proofs.YtaoaniigbooihaaGreatDoor

namespace Go.Proofs.YtaoaniigbooihaaGreatDoor
open Go.RowKit Go.Deep
namespace Wh
/-- The digits of a number, none of nothing. -/
def dig (B : Int) (up : Bool) (v : Int) : List Int := if v = 0 then [] else lets (lettersOf up) (Dn.strip (Dn.dg B v.toNat v))
theorem lt_pow {B : Int} (hB : 2 ≤ B) (n : Nat) : (n : Int) < B ^ n := by
  induction n with
  | zero => simp
  | succ n ih =>
    rw [Int.pow_succ]
    have p : (1 : Int) ≤ B ^ n := Pn.pow_pos' (by omega) n
    have : B ^ n * 2 ≤ B ^ n * B := Int.mul_le_mul_of_nonneg_left hB (by omega)
    omega
theorem dig_is {zs : List Int} {B : Int} {up : Bool} {xs : List Int} {E : Int} (hz : Nm.Limbs zs) (h0 : 0 < Nm.val zs) (h1 : Nm.tsize zs ≤ 4096) (hB : 2 ≤ B) (h36 : B ≤ 36) (h : InIs zs B up xs E) : xs = dig B up (Nm.val zs) ∧ E = 0 := by
  have t0 : 0 < Nm.tsize zs := by have := Nm.tsize_zero_iff hz; omega
  have hl : Nm.val zs < B ^ (Nm.val zs).toNat := by have := lt_pow hB (Nm.val zs).toNat; omega
  have q := h.one hz (.ok (Nm.val zs).toNat t0 h1 hB h36 hl)
  rw [dig, if_neg (by omega)]
  exact q

/-- What the digits of a number are like. -/
structure Dg (B : Int) (up : Bool) (v : Int) (xs : List Int) : Prop where
  ne : xs ≠ []
  len : xs.length ≤ 262144
  case_ : ∀ i, i < xs.length → (up = true → ¬ (97 ≤ xs.getD i 0 ∧ xs.getD i 0 ≤ 122)) ∧ (up = false → ¬ (65 ≤ xs.getD i 0 ∧ xs.getD i 0 ≤ 90))
  dig : ∀ i, i < xs.length → wv (xs.getD i 0) < B
  val : Dn.tv B 0 (xs.map wv) = v
  head : xs.getD 0 0 ≠ 48
theorem dig_good {zs : List Int} {B : Int} {up : Bool} (hz : Nm.Limbs zs) (h0 : 0 < Nm.val zs) (h1 : Nm.tsize zs ≤ 4096) (hB : 2 ≤ B) (h36 : B ≤ 36) : Dg B up (Nm.val zs) (dig B up (Nm.val zs)) := by
  have t0 : 0 < Nm.tsize zs := by have := Nm.tsize_zero_iff hz; omega
  have hl : Nm.val zs < B ^ (Nm.val zs).toNat := by have := lt_pow hB (Nm.val zs).toNat; omega
  have g := good_ok (up := up) hz t0 h1 hB h36 hl
  rw [dig, if_neg (by omega)]
  exact ⟨g.ne, g.len, g.case_, g.dig, g.val, g.head t0⟩
theorem lets_by (up : Bool) (ds : List Int) : By (lets (lettersOf up) ds) := by
  intro x hx
  obtain ⟨d, _, rfl⟩ := List.mem_map.1 hx
  have k : ∀ (l : List Int), (∀ y ∈ l, 0 ≤ y ∧ y < 256) → 0 ≤ l.getD d.toNat 0 ∧ l.getD d.toNat 0 < 256 := by
    intro l hl
    rw [List.getD_eq_getElem?_getD]
    cases h : l[d.toNat]? with
    | none => simp
    | some y => exact hl y (List.mem_of_getElem? h)
  apply k
  cases up
  · show ∀ y ∈ smallL, _
    decide
  · show ∀ y ∈ capL, _
    decide
theorem dig_by (B : Int) (up : Bool) (v : Int) : By (dig B up v) := by
  unfold dig
  split
  · exact By.nil
  · exact lets_by _ _

/-- Digits brought to the precision. -/
def fil (P : Int) (d : List Int) : List Int := rep 48 ((if P = -1 then 1 else P) - d.length) ++ d
theorem fil_by {P : Int} {d : List Int} (h : By d) : By (fil P d) := (By.rep (by omega)).app h
theorem fil_len (P : Int) (d : List Int) : (fil P d).length = ((if P = -1 then 1 else P) - d.length).toNat + d.length := by
  rw [fil, List.length_append, rep_len]

/-- The sign. -/
def sgn (F : Int) (below : Bool) : List Int := if below = true then [45] else if bit F 2 = true then [43] else if bit F 4 = true then [32] else []
theorem sgn_by (F : Int) (b : Bool) : By (sgn F b) := by
  unfold sgn
  split
  · intro x hx; simp at hx; omega
  · split
    · intro x hx; simp at hx; omega
    · split
      · intro x hx; simp at hx; omega
      · exact By.nil
theorem sgn_len (F : Int) (b : Bool) : (sgn F b).length ≤ 1 := by
  unfold sgn
  split
  · simp
  · split
    · simp
    · split <;> simp

/-- Signed. -/
def sigE (V F W P : Int) (t : Nat) : Int := if V = 100 ∨ V = 105 then (if chk F W P = 0 then (if 4096 < t then 2 else 0) else chk F W P) else 140
def sigT (F W P : Int) (neg : Bool) (v : Int) : List Int := padT F W (decide (P = -1)) (sgn F (neg && decide (v ≠ 0))) (fil P (dig 10 false v))
def sig (V F W P : Int) (neg : Bool) (zs : List Int) : List Int := if sigE V F W P (Nm.tsize zs) = 0 then sigT F W P neg (Nm.val zs) else []

/-- Unsigned. -/
def base (V : Int) : Int := if V = 111 then 8 else if V = 120 ∨ V = 88 then 16 else 10
def ubody (V P u : Int) : List Int := fil P (dig (base V) (decide (V = 88)) u)
def umark (V F P u : Int) : Bool := bit F 8 && decide (V = 111) && decide ((ubody V P u).getD 0 0 ≠ 48)
def uhead (V F u : Int) : List Int := if bit F 8 = true ∧ u ≠ 0 ∧ V = 120 then [48, 120] else if bit F 8 = true ∧ u ≠ 0 ∧ V = 88 then [48, 88] else []
def utext (V F P u : Int) : List Int := if umark V F P u = true then 48 :: ubody V P u else ubody V P u
def unsE (V F W P : Int) : Int := if V = 111 ∨ V = 117 ∨ V = 120 ∨ V = 88 then chk F W P else 140
def unsT (V F W P u : Int) : List Int := padT F W (decide (P = -1)) (uhead V F u) (utext V F P u)
def uns (V F W P u : Int) : List Int := if unsE V F W P = 0 then unsT V F W P u else []

end Wh
end Go.Proofs.YtaoaniigbooihaaGreatDoor

namespace Go.Proofs.YtaoaniigbooihaaGreatDoor
open Go Go.RowKit Go.Deep
namespace Po

/-- The verbs of capitals; those that Render renders. -/
def cap (V : Int) : Bool := decide (V = 69 ∨ V = 70 ∨ V = 71 ∨ V = 88)
def okV (V : Int) : Bool := decide (V = 101 ∨ V = 69 ∨ V = 102 ∨ V = 70 ∨ V = 103 ∨ V = 71)
def ng (d : Int) : Bool := decide (9223372036854775808 ≤ d)
/-- The body of an infinity or a NaN. -/
def nm (c : Bool) (k : Int) : List Int := if k = 3 then (if c = true then [73, 78, 70] else [105, 110, 102]) else if k = 4 then (if c = true then [78, 65, 78] else [110, 97, 110]) else []
/-- An exponent as it is written. -/
def xd (k : Int) : List Int := (if k < 0 then 45 else 43) :: Wh.fil 2 (Wh.dig 10 false (max k (-k)))
def ex (V k : Int) : List Int := (if cap V = true then 69 else 101) :: xd k
/-- Digits ahead and behind, and an exponent. -/
def wrt (a b p : List Int) (h : Bool) : List Int := if b = [] ∧ h = false then a ++ p else a ++ 46 :: (b ++ p)
/-- Without the zeros at the end. -/
def sp : List Int → List Int
  | [] => []
  | x :: xs => if x = 48 ∧ sp xs = [] then [] else x :: sp xs
def st (h : Bool) (xs : List Int) : List Int := if h = true then xs else sp xs

noncomputable def bdF (h : Bool) (d n : Int) : List Int := wrt (Fx.pA d n) (Fx.pB d n) [] h
noncomputable def bdE (V : Int) (h : Bool) (d n : Int) : List Int := wrt ((Fx.gS d (n + 1)).take 1) ((Fx.gS d (n + 1)).drop 1) (ex V (Fx.gK d (n + 1))) h
noncomputable def bdG (V : Int) (h : Bool) (d n : Int) : List Int :=
  if -4 ≤ Fx.gK d n ∧ Fx.gK d n < n then wrt (Fx.pA d (n - 1 - Fx.gK d n)) (st h (Fx.pB d (n - 1 - Fx.gK d n))) [] h
  else wrt ((Fx.gS d n).take 1) (st h ((Fx.gS d n).drop 1)) (ex V (Fx.gK d n)) h
def pr (P : Int) : Int := if P = -1 then 6 else P
noncomputable def bd (V : Int) (h : Bool) (P d : Int) : List Int :=
  if V = 102 ∨ V = 70 then bdF h d (pr P) else if V = 101 ∨ V = 69 then bdE V h d (pr P) else bdG V h d (max (pr P) 1)

/-- Special, Render. -/
def spc (V F W P d : Int) : List Int := if Wh.chk F W P = 0 ∧ Ie.fnt d = false then Wh.padT F W false (Wh.sgn F (ng d)) (nm (cap V) (Ie.cls d)) else []
def spb (F W P d : Int) : Bool := decide (Wh.chk F W P = 0) && !Ie.fnt d
def renE (V F W P : Int) : Int := if okV V = true then Wh.chk F W P else 140
noncomputable def ren (V F W P d : Int) : List Int :=
  if renE V F W P = 0 then (if Ie.fnt d = true then Wh.padT F W true (Wh.sgn F (ng d)) (bd V (Wh.bit F 8) P d) else Wh.padT F W false (Wh.sgn F (ng d)) (nm (cap V) (Ie.cls d))) else []

theorem pr_bd {P : Int} (h0 : -1 ≤ P) (h1 : P ≤ 4096) : 0 ≤ pr P ∧ pr P ≤ 4096 := by unfold pr; split <;> omega

/-- What is left of a row when the zeros at its end are gone. -/
theorem sp_of : ∀ {xs : List Int} {k : Nat}, k ≤ xs.length → (∀ i, k ≤ i → i < xs.length → xs.getD i 0 = 48) → (0 < k → xs.getD (k - 1) 0 ≠ 48) → xs.take k = sp xs
  | [], k, _, _, _ => by simp [sp]
  | x :: xs, 0, _, h2, _ => by
    have e := sp_of (xs := xs) (k := 0) (by omega) (fun i h1 hi => by have := h2 (i + 1) (by omega) (by simp; omega); simpa using this) (fun h => by omega)
    have e0 : x = 48 := by simpa using h2 0 (by omega) (by simp)
    rw [List.take_zero] at e
    rw [sp, if_pos ⟨e0, e.symm⟩]; rfl
  | x :: xs, k + 1, h1, h2, h3 => by
    have e := sp_of (xs := xs) (k := k) (by simpa using h1) (fun i h4 hi => by have := h2 (i + 1) (by omega) (by simp; omega); simpa using this) (fun h => by
      have := h3 (by omega)
      obtain ⟨j, rfl⟩ : ∃ j, k = j + 1 := ⟨k - 1, by omega⟩
      simpa using this)
    rw [List.take_succ_cons, sp]
    rw [if_neg, e]
    rintro ⟨c1, c2⟩
    rw [← e] at c2
    have k0 : k = 0 := by
      rcases Nat.eq_zero_or_pos k with c | c
      · exact c
      · have : (xs.take k).length = 0 := by rw [c2]; rfl
        rw [List.length_take] at this
        simp at h1
        omega
    subst k0
    have := h3 (by omega)
    simp at this
    exact this c1
theorem sp_take : ∀ (xs : List Int), ∃ k, k ≤ xs.length ∧ sp xs = xs.take k ∧ (∀ i, k ≤ i → i < xs.length → xs.getD i 0 = 48) ∧ (0 < k → xs.getD (k - 1) 0 ≠ 48)
  | [] => ⟨0, by simp, by simp [sp], fun i _ h => by simp at h, fun h => by omega⟩
  | x :: xs => by
    obtain ⟨k, a, b, c, e⟩ := sp_take xs
    by_cases h : x = 48 ∧ sp xs = []
    · refine ⟨0, by omega, by rw [sp, if_pos h]; rfl, fun i _ hi => ?_, fun h => by omega⟩
      have k0 : k = 0 := by
        rcases Nat.eq_zero_or_pos k with q | q
        · exact q
        · have : (xs.take k).length = 0 := by rw [← b, h.2]; rfl
          rw [List.length_take] at this
          omega
      cases i with
      | zero => simpa using h.1
      | succ i => have := c i (by omega) (by simpa using hi); simpa using this
    · refine ⟨k + 1, by simp; omega, by rw [sp, if_neg h, b, List.take_succ_cons], fun i h1 hi => ?_, fun _ => ?_⟩
      · cases i with
        | zero => omega
        | succ i => have := c i (by omega) (by simpa using hi); simpa using this
      · cases k with
        | zero =>
          rw [List.take_zero] at b
          simp
          intro q
          exact h ⟨q, b⟩
        | succ k => have := e (by omega); simpa using this
theorem sp_len (xs : List Int) : (sp xs).length ≤ xs.length := by
  obtain ⟨k, a, b, _⟩ := sp_take xs
  rw [b, List.length_take]; omega
theorem sp_mem {xs : List Int} {x : Int} (h : x ∈ sp xs) : x ∈ xs := by
  obtain ⟨k, a, b, _⟩ := sp_take xs
  rw [b] at h
  exact List.mem_of_mem_take h
theorem st_len (h : Bool) (xs : List Int) : (st h xs).length ≤ xs.length := by unfold st; split; exact Nat.le_refl _; exact sp_len xs
theorem st_mem {h : Bool} {xs : List Int} {x : Int} (k : x ∈ st h xs) : x ∈ xs := by
  unfold st at k; split at k
  · exact k
  · exact sp_mem k

/-- Digits as bytes. -/
theorem digs_by {xs : List Int} (h : Digs xs) : Wh.By xs := fun x hx => by have := h x hx; omega
theorem digs_take {xs : List Int} (h : Digs xs) (k : Nat) : Digs (xs.take k) := fun x hx => h x (List.mem_of_mem_take hx)
theorem digs_drop {xs : List Int} (h : Digs xs) (k : Nat) : Digs (xs.drop k) := fun x hx => h x (List.mem_of_mem_drop hx)
theorem digs_st {xs : List Int} (b : Bool) (h : Digs xs) : Digs (st b xs) := fun x hx => h x (st_mem hx)

/-- What Places and Figures tell of a finite double. -/
structure PlF (d n : Int) : Prop where
  ok : Fx.rf d n 0 = 0
  a : Digs (Fx.pA d n)
  b : Digs (Fx.pB d n)
  ane : Fx.pA d n ≠ []
  la : (Fx.pA d n).length ≤ 6000
  lb : ((Fx.pB d n).length : Int) = n
theorem plF {d n : Int} (hf : Ie.fnt d = true) (h0 : 0 ≤ n) (h1 : n ≤ 4200) : PlF d n := by
  have r : Fx.rf d n 0 = 0 := Fx.rf_zero.2 ⟨hf, h0, h1⟩
  have wl := Fx.W_len d n.toNat
  have wd := Fx.W_digs hf n.toNat
  have wr := Fx.dv_W_room hf (n := n.toNat) (by omega)
  refine ⟨r, ?_, ?_, ?_, ?_, ?_⟩
  · rw [Fx.pA, if_pos r]; exact digs_take wd _
  · rw [Fx.pB, if_pos r]; exact digs_drop wd _
  · rw [Fx.pA, if_pos r]
    intro c
    have : ((Fx.W d n.toNat).take ((Fx.W d n.toNat).length - n.toNat)).length = 0 := by rw [c]; rfl
    rw [List.length_take] at this
    omega
  · rw [Fx.pA, if_pos r, List.length_take]; omega
  · rw [Fx.pB, if_pos r, List.length_drop]; omega

structure FgF (d n : Int) : Prop where
  ok : Fx.rf d n 1 = 0
  s : Digs (Fx.gS d n)
  len : ((Fx.gS d n).length : Int) = n
  lo : -324 ≤ Fx.gK d n
  hi : Fx.gK d n ≤ 308
theorem fgF {d n : Int} (hf : Ie.fnt d = true) (h0 : 1 ≤ n) (h1 : n ≤ 4200) : FgF d n := by
  obtain ⟨k, rfl⟩ := Int.eq_ofNat_of_zero_le (show 0 ≤ n by omega)
  have r : Fx.rf d k 1 = 0 := Fx.rf_zero.2 ⟨hf, h0, h1⟩
  rcases (show Ie.dm d = 0 ∨ 0 < Ie.dm d by have := (Ie.fdec d (of_decide_eq_true hf)).1; omega) with c | c
  · obtain ⟨a, b⟩ := Fx.fig_zero hf c (k := k) (by omega) (by omega)
    refine ⟨r, ?_, by rw [a]; simp, by omega, by omega⟩
    rw [a]
    intro x hx
    have := List.eq_of_mem_replicate hx
    omega
  · obtain ⟨a, b, _, e, f, _⟩ := Fx.fig_facts hf c (k := k) (by omega) (by omega)
    exact ⟨r, b, by rw [a], e, f⟩

/-- An exponent's digits. -/
theorem dig3 {v : Int} (h0 : 0 < v) (h1 : v < 1000) : Wh.dig 10 false v = lets (lettersOf false) (Dn.strip (Dn.dg 10 3 v)) := by
  have hz : Nm.Limbs [v] := by intro x hx; simp at hx; omega
  have hv : Nm.val [v] = v := by simp [Nm.val]
  have ts : Nm.tsize [v] ≤ 1 := by have := Nm.tsize_le [v]; simpa using this
  have tp : 0 < Nm.tsize [v] := by have := Nm.tsize_zero_iff hz; omega
  have q := Wh.dig_is (up := false) (B := 10) hz (by rw [hv]; exact h0) (by omega) (by omega) (by omega) (InIs.ok (up := false) 3 tp (by omega) (by omega) (by omega) (by rw [hv]; exact h1))
  rw [hv] at q
  exact q.1.symm
set_option maxRecDepth 100000 in
theorem xdig {v : Int} (h0 : 0 ≤ v) (h1 : v ≤ 400) : Wh.fil 2 (Wh.dig 10 false v) = Fx.tx (if v < 100 then 2 else 3) v := by
  rcases (show v = 0 ∨ 0 < v by omega) with c | c
  · subst c; decide
  · rw [dig3 c (by omega)]
    have key : ∀ t : Fin 401, 0 < t.val → Wh.fil 2 (lets (lettersOf false) (Dn.strip (Dn.dg 10 3 (t.val : Int)))) = Fx.tx (if (t.val : Int) < 100 then 2 else 3) (t.val : Int) := by decide +kernel
    have := key ⟨v.toNat, by omega⟩ (by simp; omega)
    simp only at this
    rw [show ((v.toNat : Nat) : Int) = v by omega] at this
    exact this
theorem xd_is {k : Int} (h0 : -400 ≤ k) (h1 : k ≤ 400) : xd k = (if k < 0 then 45 else 43) :: Fx.tx (if max k (-k) < 100 then 2 else 3) (max k (-k)) := by
  rw [xd, xdig (by omega) (by omega)]
theorem xd_len {k : Int} (h0 : -400 ≤ k) (h1 : k ≤ 400) : (xd k).length ≤ 4 := by
  rw [xd_is h0 h1, List.length_cons, Fx.tx_len]; split <;> omega
theorem xd_by (k : Int) : Wh.By (xd k) := by
  unfold xd
  exact Wh.By.cons (by split <;> omega) (Wh.fil_by (Wh.dig_by _ _ _))
theorem ex_by (V k : Int) : Wh.By (ex V k) := by
  unfold ex
  exact Wh.By.cons (by split <;> omega) (xd_by k)
theorem ex_len {V k : Int} (h0 : -400 ≤ k) (h1 : k ≤ 400) : (ex V k).length ≤ 5 := by
  rw [ex, List.length_cons]; have := xd_len h0 h1; omega
theorem wrt_by {a b p : List Int} {h : Bool} (ha : Wh.By a) (hb : Wh.By b) (hp : Wh.By p) : Wh.By (wrt a b p h) := by
  unfold wrt
  split
  · exact ha.app hp
  · exact ha.app (Wh.By.cons (by omega) (hb.app hp))
theorem wrt_len (a b p : List Int) (h : Bool) : (wrt a b p h).length ≤ a.length + b.length + p.length + 1 := by
  unfold wrt
  split <;> simp <;> omega

/-- The body of a finite double is short, and made of bytes. -/
theorem bd_ok {V P d : Int} (h : Bool) (hf : Ie.fnt d = true) (p0 : -1 ≤ P) (p1 : P ≤ 4096) : Wh.By (bd V h P d) ∧ (bd V h P d).length ≤ 20000 := by
  obtain ⟨q0, q1⟩ := pr_bd p0 p1
  unfold bd
  split
  · have k := plF hf q0 (by omega)
    refine ⟨wrt_by (digs_by k.a) (digs_by k.b) Wh.By.nil, ?_⟩
    have := wrt_len (Fx.pA d (pr P)) (Fx.pB d (pr P)) [] h
    have := k.la
    have := k.lb
    simp only [List.length_nil, bdF] at *
    omega
  · split
    · have k := fgF hf (n := pr P + 1) (by omega) (by omega)
      refine ⟨wrt_by (digs_by (digs_take k.s _)) (digs_by (digs_drop k.s _)) (ex_by _ _), ?_⟩
      have := wrt_len ((Fx.gS d (pr P + 1)).take 1) ((Fx.gS d (pr P + 1)).drop 1) (ex V (Fx.gK d (pr P + 1))) h
      have := k.len
      have := ex_len (V := V) (k := Fx.gK d (pr P + 1)) (by have := k.lo; omega) (by have := k.hi; omega)
      simp only [bdE, List.length_take, List.length_drop] at *
      omega
    · have k := fgF hf (n := max (pr P) 1) (by omega) (by omega)
      unfold bdG
      split
      · rename_i g
        have j := plF hf (n := max (pr P) 1 - 1 - Fx.gK d (max (pr P) 1)) (by omega) (by omega)
        refine ⟨wrt_by (digs_by j.a) (digs_by (digs_st h j.b)) Wh.By.nil, ?_⟩
        have := wrt_len (Fx.pA d (max (pr P) 1 - 1 - Fx.gK d (max (pr P) 1))) (st h (Fx.pB d (max (pr P) 1 - 1 - Fx.gK d (max (pr P) 1)))) [] h
        have := j.la
        have := j.lb
        have := st_len h (Fx.pB d (max (pr P) 1 - 1 - Fx.gK d (max (pr P) 1)))
        simp only [List.length_nil] at *
        omega
      · refine ⟨wrt_by (digs_by (digs_take k.s _)) (digs_by (digs_st h (digs_drop k.s _))) (ex_by _ _), ?_⟩
        have := wrt_len ((Fx.gS d (max (pr P) 1)).take 1) (st h ((Fx.gS d (max (pr P) 1)).drop 1)) (ex V (Fx.gK d (max (pr P) 1))) h
        have := st_len h ((Fx.gS d (max (pr P) 1)).drop 1)
        have := k.len
        have := ex_len (V := V) (k := Fx.gK d (max (pr P) 1)) (by have := k.lo; omega) (by have := k.hi; omega)
        simp only [List.length_take, List.length_drop] at *
        omega
theorem nm_by (c : Bool) (k : Int) : Wh.By (nm c k) := by
  unfold nm
  cases c <;> (split <;> first | (intro x hx; simp at hx; omega) | (split <;> first | (intro x hx; simp at hx; omega) | exact Wh.By.nil))
theorem nm_len (c : Bool) (k : Int) : (nm c k).length ≤ 3 := by
  unfold nm
  split
  · split <;> simp
  · split
    · split <;> simp
    · simp
theorem nm_fin {c : Bool} {k : Int} (h : k < 3) : nm c k = [] := by
  unfold nm
  rw [if_neg (by omega), if_neg (by omega)]
end Po
end Go.Proofs.YtaoaniigbooihaaGreatDoor

namespace Go.Proofs.YtaoaniigbooihaaGreatDoor
open Go Go.RowKit Go.Deep Go.Shelf

set_option maxRecDepth 100000 in
theorem upLays : Go.Proofs.Lays.n158 Tryz.prog jren where
  mixed := by kernel_rfl
  f118 := Tryz.func140.trans (congrArg some (by kernel_rfl))
  f158 := Tryz.func82.trans (congrArg some (by kernel_rfl))
  f165 := Tryz.func55.trans (congrArg some (by kernel_rfl))
  f166 := Tryz.func56.trans (congrArg some (by kernel_rfl))
  f167 := Tryz.func115.trans (congrArg some (by kernel_rfl))
  f168 := Tryz.func141.trans (congrArg some (by kernel_rfl))
  f169 := Tryz.func57.trans (congrArg some (by kernel_rfl))
  f197 := Tryz.func139.trans (congrArg some (by kernel_rfl))
  f203 := Tryz.func117.trans (congrArg some (by kernel_rfl))
  f230 := Tryz.func116.trans (congrArg some (by kernel_rfl))
  f240 := Tryz.func93.trans (congrArg some (by kernel_rfl))
  f241 := Tryz.func94.trans (congrArg some (by kernel_rfl))
  f242 := Tryz.func165.trans (congrArg some (by kernel_rfl))
  f260 := Tryz.func164.trans (congrArg some (by kernel_rfl))
  f262 := Tryz.func143.trans (congrArg some (by kernel_rfl))
  f270 := Tryz.func142.trans (congrArg some (by kernel_rfl))
  f274 := Tryz.func191.trans (congrArg some (by kernel_rfl))
  f275 := Tryz.func192.trans (congrArg some (by kernel_rfl))
  f276 := Tryz.func121.trans (congrArg some (by kernel_rfl))
  f277 := Tryz.func122.trans (congrArg some (by kernel_rfl))
  f278 := Tryz.func190.trans (congrArg some (by kernel_rfl))
  f313 := Tryz.func166.trans (congrArg some (by kernel_rfl))
  t0 := by kernel_rfl
  a0 := fun _ => by kernel_rfl
  z0 := fun _ => by kernel_rfl
  v0 := fun _ => by kernel_rfl
  t3 := by kernel_rfl
  a3 := fun _ => by kernel_rfl
  z3 := fun _ => by kernel_rfl
  v3 := fun _ => by kernel_rfl
  t4 := by kernel_rfl
  a4 := fun _ => by kernel_rfl
  z4 := fun _ => by kernel_rfl
  v4 := fun _ => by kernel_rfl
  t5 := by kernel_rfl
  a5 := fun _ => by kernel_rfl
  z5 := fun _ => by kernel_rfl
  v5 := fun _ => by kernel_rfl
  t9 := by kernel_rfl
  a9 := fun _ => by kernel_rfl
  z9 := fun _ => by kernel_rfl
  v9 := fun _ => by kernel_rfl
  t20 := by kernel_rfl
  a20 := fun _ => by kernel_rfl
  z20 := fun _ => by kernel_rfl
  v20 := fun _ => by kernel_rfl
  t21 := by kernel_rfl
  a21 := fun _ => by kernel_rfl
  z21 := fun _ => by kernel_rfl
  v21 := fun _ => by kernel_rfl
  t37 := by kernel_rfl
  a37 := fun _ => by kernel_rfl
  z37 := fun _ => by kernel_rfl
  v37 := fun _ => by kernel_rfl
  t46 := by kernel_rfl
  a46 := fun _ => by kernel_rfl
  z46 := fun _ => by kernel_rfl
  v46 := fun _ => by kernel_rfl
  t51 := by kernel_rfl
  a51 := fun _ => by kernel_rfl
  z51 := fun _ => by kernel_rfl
  v51 := fun _ => by kernel_rfl
  t70 := by kernel_rfl
  a70 := fun _ => by kernel_rfl
  z70 := fun _ => by kernel_rfl
  v70 := fun _ => by kernel_rfl
  t72 := by kernel_rfl
  a72 := fun _ => by kernel_rfl
  z72 := fun _ => by kernel_rfl
  v72 := fun _ => by kernel_rfl
  t75 := by kernel_rfl
  a75 := fun _ => by kernel_rfl
  z75 := fun _ => by kernel_rfl
  v75 := fun _ => by kernel_rfl
  t76 := by kernel_rfl
  a76 := fun _ => by kernel_rfl
  z76 := fun _ => by kernel_rfl
  v76 := fun _ => by kernel_rfl
  t105 := by kernel_rfl
  a105 := fun _ => by kernel_rfl
  z105 := fun _ => by kernel_rfl
  v105 := fun _ => by kernel_rfl
  t107 := by kernel_rfl
  a107 := fun _ => by kernel_rfl
  z107 := fun _ => by kernel_rfl
  v107 := fun _ => by kernel_rfl
  t119 := by kernel_rfl
  a119 := fun _ => by kernel_rfl
  z119 := fun _ => by kernel_rfl
  t127 := by kernel_rfl
  a127 := fun _ => by kernel_rfl
  z127 := fun _ => by kernel_rfl
  v127 := fun _ => by kernel_rfl
  t138 := by kernel_rfl
  a138 := fun _ => by kernel_rfl
  z138 := fun _ => by kernel_rfl
  v138 := fun _ => by kernel_rfl
  t139 := by kernel_rfl
  a139 := fun _ => by kernel_rfl
  z139 := fun _ => by kernel_rfl
  v139 := fun _ => by kernel_rfl
  t160 := by kernel_rfl
  a160 := fun _ => by kernel_rfl
  z160 := fun _ => by kernel_rfl
  v160 := fun _ => by kernel_rfl
  t162 := by kernel_rfl
  a162 := fun _ => by kernel_rfl
  z162 := fun _ => by kernel_rfl
  v162 := fun _ => by kernel_rfl
  t164 := by kernel_rfl
  a164 := fun _ => by kernel_rfl
  z164 := fun _ => by kernel_rfl
  v164 := fun _ => by kernel_rfl
  t203 := by kernel_rfl
  a203 := fun _ => by kernel_rfl
  z203 := fun _ => by kernel_rfl
  v203 := fun _ => by kernel_rfl
  t206 := by kernel_rfl
  a206 := fun _ => by kernel_rfl
  z206 := fun _ => by kernel_rfl
  v206 := fun _ => by kernel_rfl
  t208 := by kernel_rfl
  a208 := fun _ => by kernel_rfl
  z208 := fun _ => by kernel_rfl
  v208 := fun _ => by kernel_rfl
  g3 := by kernel_rfl
  g4 := by kernel_rfl
  g13 := by kernel_rfl
end Go.Proofs.YtaoaniigbooihaaGreatDoor
