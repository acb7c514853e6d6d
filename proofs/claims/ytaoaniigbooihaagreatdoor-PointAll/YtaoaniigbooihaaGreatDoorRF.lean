/-
  Texts put together: FCl2, FHeadsN, FRdN, FCutsN, NGood, SOne2, JNum, PoN, PoLay, JPad, JSigned, PoA.
-/
import Derived.Test.YtaoaniigbooihaaGreatDoorRD
import Derived.Test.YtaoaniigbooihaaGreatDoorRE
import Derived.Test.YtaoaniigbooihaaGreatDoorRC
import Derived.Shelf.Strings.OnBuilder
import Derived.Laws.Concat
namespace Go.Proofs.YtaoaniigbooihaaGreatDoor
open Go Go.RowKit Go.Deep
namespace Fx

theorem fnt125 : Ie.fnt 4593671619917905920 = true := by decide
theorem pl125 : rf 4593671619917905920 2 0 = 0 ∧ pA 4593671619917905920 2 = [48] ∧ pB 4593671619917905920 2 = [49, 50] := by
  have r : rf 4593671619917905920 2 0 = 0 := by decide
  have w : W 4593671619917905920 2 = [48, 49, 50] := by
    unfold W
    rw [c125.1, c125.2]
    decide
  refine ⟨r, ?_, ?_⟩
  · rw [pA, if_pos r, show (2 : Int).toNat = 2 from rfl, w]
    decide
  · rw [pB, if_pos r, show (2 : Int).toNat = 2 from rfl, w]
    decide

theorem head_of_low {ds : List Int} {n : Nat} (h : Digs ds) (hn : ds.length = n + 1) (hl : 10 ^ n ≤ dv ds) : ds.getD 0 0 ≠ 48 := by
  match ds, hn with
  | x :: ys, hn =>
    intro c
    simp at c
    subst c
    have b := (dv_bd (ds := ys) (fun d hd => h d (by simp [hd]))).2
    have e : ys.length = n := by simpa using hn
    rw [dv_cons, e] at hl
    rw [e] at b
    omega

/-- The rounded digits begin with a digit that is no zero. -/
theorem rd_head {xs : List Int} (h : Nml xs) {k : Nat} (hk0 : 0 < k) (hk : k ≤ xs.length) : (rd xs k).getD 0 0 ≠ 48 := by
  obtain ⟨j, rfl⟩ : ∃ j, k = j + 1 := ⟨k - 1, by omega⟩
  have dk : Digs (xs.take (j + 1)) := fun d g => h.digs d (List.mem_of_mem_take g)
  have lk : (xs.take (j + 1)).length = j + 1 := by rw [List.length_take]; omega
  have low := head_low dk lk (by have := h.head; simpa [List.getD] using this)
  have b := rn_bd h.digs hk
  have v := rd_dv h.digs hk
  have l := rd_len xs (j + 1)
  have rl : 10 ^ j ≤ rn xs (j + 1) := by unfold rn; split <;> omega
  by_cases c : rn xs (j + 1) = 10 ^ (j + 1)
  · rw [if_pos c] at l
    exact head_of_low (rd_digs _ _) l (by omega)
  · rw [if_neg c] at l
    exact head_of_low (rd_digs _ _) l (by omega)

theorem W_head {d : Int} (hf : Ie.fnt d = true) (n : Nat) (h : n + 1 < (W d n).length) : (W d n).getD 0 0 ≠ 48 := by
  obtain ⟨m0, m1, e0, e1, _⟩ := Ie.fdec d (of_decide_eq_true hf)
  have hl : (W d n).length = (n + 1 - (kp (X d) ((X d).length + P d + n)).length) + (kp (X d) ((X d).length + P d + n)).length := by
    unfold W
    rw [List.length_append, List.length_replicate]
  have hk : n + 1 < (kp (X d) ((X d).length + P d + n)).length := by omega
  have e : W d n = kp (X d) ((X d).length + P d + n) := by
    unfold W
    rw [show n + 1 - (kp (X d) ((X d).length + P d + n)).length = 0 by omega]
    rfl
  rw [e]
  rcases (show Ie.dm d = 0 ∨ 0 < Ie.dm d by omega) with hz | hz
  · obtain ⟨a, b⟩ := X_zero hf hz
    rw [a, b] at hk
    have e : kp [48] (([48] : List Int).length + 0 + n) = 48 :: List.replicate n 48 := by
      have := kp_full (xs := [48]) (c := n + 1) (by simp)
      rw [show (([48] : List Int).length : Int) + 0 + n = ((n + 1 : Nat) : Int) by simp; omega, this]
      simp
    rw [e] at hk
    simp at hk
  · have nm := (X_ex hf).nml hz
    generalize (X d).length + P d + n = c at *
    rcases (show c < 0 ∨ 0 ≤ c by omega) with g | g
    · rw [kp_neg g] at hk
      simp at hk
    · obtain ⟨k, rfl⟩ := Int.eq_ofNat_of_zero_le g
      rcases Nat.lt_or_ge k (X d).length with g | g
      · rw [kp_cut g] at hk ⊢
        apply rd_head nm _ (by omega)
        rw [rd_len] at hk
        split at hk <;> omega
      · rw [kp_full g]
        have := nm.head
        obtain ⟨j, hj⟩ := nm.len
        match hx : X d, hj with
        | x :: ys, _ => rw [hx] at this; simpa using this

theorem pA_facts {d : Int} {n : Nat} (hf : Ie.fnt d = true) (hn : n ≤ 4200) :
    pA d n ++ pB d n = W d n ∧ (pB d n).length = n ∧ pA d n ≠ [] ∧ Digs (pA d n) ∧ Digs (pB d n) ∧ (pA d n).length ≤ 6000 ∧ (1 < (pA d n).length → (pA d n).getD 0 0 ≠ 48) := by
  have r : rf d n 0 = 0 := rf_zero.2 ⟨hf, by omega, by omega⟩
  have wl := W_len d n
  have wr := dv_W_room hf hn
  have wd := W_digs hf n
  have wh := W_head hf n
  unfold pA pB
  rw [if_pos r, if_pos r, Int.toNat_natCast]
  refine ⟨List.take_append_drop _ _, ?_, ?_, fun x h => wd x (List.mem_of_mem_take h), fun x h => wd x (List.mem_of_mem_drop h), ?_, ?_⟩
  · rw [List.length_drop]; omega
  · intro c
    have := congrArg List.length c
    rw [List.length_take, List.length_nil] at this
    omega
  · rw [List.length_take]; omega
  · intro c
    rw [List.length_take] at c
    rw [Nm.getD_take, if_pos (by omega)]
    exact wh (by omega)
end Fx
end Go.Proofs.YtaoaniigbooihaaGreatDoor

namespace Go.Proofs.YtaoaniigbooihaaGreatDoor
open Go Go.RowKit Go.Deep
namespace Fx

theorem rn_carry {xs : List Int} (hd : Digs xs) {k : Nat} (hk : k < xs.length) (h : rn xs (k + 1) = 10 ^ (k + 1)) : rn xs k = 10 ^ k := by
  have dk : Digs (xs.take (k + 1)) := fun d g => hd d (List.mem_of_mem_take g)
  have lk : (xs.take (k + 1)).length = k + 1 := by rw [List.length_take]; omega
  have b := dv_bd dk
  rw [lk] at b
  have T : dv (xs.take (k + 1)) = 10 ^ (k + 1) - 1 := by unfold rn at h; split at h <;> omega
  have e1 := take_last lk
  have x1 := digs_getD dk (show k < (xs.take (k + 1)).length by omega)
  rw [List.take_take, show min k (k + 1) = k by omega] at e1
  generalize hx : (xs.take (k + 1)).getD k 0 = x at *
  rw [e1, dv_snoc] at T
  have b2 := dv_bd (ds := xs.take k) (fun d g => hd d (List.mem_of_mem_take g))
  rw [List.length_take, Nat.min_eq_left (by omega)] at b2
  rw [Int.pow_succ] at T
  have T1 : dv (xs.take k) = 10 ^ k - 1 := by omega
  have T2 : x = 57 := by omega
  have e2 : xs.drop k = 57 :: xs.drop (k + 1) := by
    rw [List.drop_eq_getElem_cons hk]
    congr 1
    rw [Nm.getD_take, if_pos (by omega)] at hx
    rw [← T2, ← hx]
    simp [List.getD, hk]
  have u : up xs k = true := by
    unfold up
    rw [decide_eq_true_iff]
    left
    rw [e2, dv_cons, List.length_drop, show xs.length - k = (xs.length - (k + 1)) + 1 by omega, Int.pow_succ]
    have := (dv_bd (ds := xs.drop (k + 1)) (fun d g => hd d (List.mem_of_mem_drop g))).1
    have := p_pos (xs.length - (k + 1))
    omega
  unfold rn
  rw [u, if_pos rfl, T1]
  omega

theorem tx_ten (k : Nat) : tx (k + 1) (10 ^ k) = 49 :: List.replicate k 48 := by
  have l : (49 :: List.replicate k (48 : Int)).length = k + 1 := by simp
  have d : Digs (49 :: List.replicate k (48 : Int)) := by
    intro x h
    rcases List.mem_cons.1 h with rfl | h
    · omega
    · have := List.eq_of_mem_replicate h; omega
  have v : dv (49 :: List.replicate k (48 : Int)) = 10 ^ k := by
    rw [dv_cons, dv_zeros, List.length_replicate]
    omega
  have := eq_tx d
  rw [l, v] at this
  exact this.symm

/-- What Figures tells of a double that is not 0. -/
theorem fig_facts {d : Int} {k : Nat} (hf : Ie.fnt d = true) (hm : 0 < Ie.dm d) (h1 : 1 ≤ k) (h2 : k ≤ 4200) :
    (gS d k).length = k ∧ Digs (gS d k) ∧ (gS d k).getD 0 0 ≠ 48 ∧ -324 ≤ gK d k ∧ gK d k ≤ 308 ∧
    (∀ q : Nat, (q : Int) = k - 1 - gK d k → ∃ z, W d q = List.replicate z 48 ++ gS d k) := by
  have r : rf d k 1 = 0 := rf_zero.2 ⟨hf, by omega, by omega⟩
  obtain ⟨m0, m1, e0, e1, _⟩ := Ie.fdec d (of_decide_eq_true hf)
  have ex := X_ex hf
  have nm := ex.nml hm
  obtain ⟨r1, r2, r3⟩ := ex.room hm m1 e1
  obtain ⟨-, -, p3, p4, p5⟩ := X_room hf
  have rX : (X d).length + P d ≤ 309 := r2
  unfold gS gK
  rw [if_pos r, if_pos r, Int.toNat_natCast]
  rcases Nat.lt_or_ge k (X d).length with g | g
  · rw [kp_cut g]
    have hl := rd_len (X d) k
    have hh := rd_head nm (show 0 < k by omega) (show k ≤ (X d).length by omega)
    have dd := rd_digs (X d) k
    obtain ⟨j, rfl⟩ : ∃ j, k = j + 1 := ⟨k - 1, by omega⟩
    by_cases c : rn (X d) (j + 1) = 10 ^ (j + 1)
    · rw [if_pos c] at hl
      have rdv : rd (X d) (j + 1) = 49 :: List.replicate (j + 1) 48 := by unfold rd; rw [c, if_pos rfl, tx_ten]
      have lt308 : (X d).length + P d ≠ 309 := by
        intro hE
        have b := r3 hE
        have dk : Digs ((X d).take (j + 1)) := fun x g => nm.digs x (List.mem_of_mem_take g)
        have lk : ((X d).take (j + 1)).length = j + 1 := by rw [List.length_take]; omega
        have T : 10 ^ (j + 1) - 1 ≤ dv ((X d).take (j + 1)) := by unfold rn at c; split at c <;> omega
        have e : dv (X d) = dv ((X d).take (j + 1)) * 10 ^ ((X d).length - (j + 1)) + dv ((X d).drop (j + 1)) := by
          conv => lhs; rw [← List.take_append_drop (j + 1) (X d), dv_append, List.length_drop]
        have b2 := (dv_bd (ds := (X d).drop (j + 1)) (fun x g => nm.digs x (List.mem_of_mem_drop g))).1
        have pz := p_pos ((X d).length - (j + 1))
        have f1 : (10 ^ (j + 1) - 1) * 10 ^ ((X d).length - (j + 1)) ≤ dv ((X d).take (j + 1)) * 10 ^ ((X d).length - (j + 1)) := Int.mul_le_mul_of_nonneg_right T (Int.le_of_lt pz)
        have f2 : (X d).length - 1 = j + ((X d).length - (j + 1)) := by omega
        rw [f2, Int.pow_add] at b
        have f3 : ((9 : Int) * 10 ^ j) * 10 ^ ((X d).length - (j + 1)) ≤ (10 ^ (j + 1) - 1) * 10 ^ ((X d).length - (j + 1)) := by
          refine Int.mul_le_mul_of_nonneg_right ?_ (Int.le_of_lt pz)
          rw [Int.pow_succ]
          have := p_pos j
          omega
        have f4 : 0 < 10 ^ j * (10 : Int) ^ ((X d).length - (j + 1)) := Int.mul_pos (p_pos j) pz
        rw [Int.mul_assoc] at f3
        generalize 10 ^ j * (10 : Int) ^ ((X d).length - (j + 1)) = y at *
        omega
      rw [if_pos (by rw [hl]; omega), rdv]
      have tk : (49 :: List.replicate (j + 1) (48 : Int)).take (j + 1) = 49 :: List.replicate j 48 := by
        rw [List.take_succ_cons, List.take_replicate, Nat.min_eq_left (by omega)]
      rw [tk]
      refine ⟨by simp, ?_, by simp, by omega, by omega, ?_⟩
      · intro x h
        rcases List.mem_cons.1 h with rfl | h
        · omega
        · have := List.eq_of_mem_replicate h; omega
      · intro q hq
        refine ⟨q + 1 - (j + 1), ?_⟩
        have cq : ((X d).length : Int) + P d + q = (j : Int) := by omega
        unfold W
        rw [cq, kp_cut (by omega)]
        have rj := rn_carry nm.digs (show j < (X d).length by omega) c
        have rdj : rd (X d) j = 49 :: List.replicate j 48 := by unfold rd; rw [rj, if_pos rfl, tx_ten]
        rw [rdj]
        simp
    · rw [if_neg c] at hl
      rw [if_neg (by rw [hl]; omega), List.take_of_length_le (by omega)]
      refine ⟨hl, dd, hh, by omega, by omega, ?_⟩
      intro q hq
      refine ⟨q + 1 - (j + 1), ?_⟩
      have cq : ((X d).length : Int) + P d + q = ((j + 1 : Nat) : Int) := by omega
      unfold W
      rw [cq, kp_cut g, hl]
  · rw [kp_full g]
    have hl : (X d ++ List.replicate (k - (X d).length) 48).length = k := by rw [List.length_append, List.length_replicate]; omega
    rw [if_neg (by rw [hl]; omega), List.take_of_length_le (by omega)]
    refine ⟨hl, ?_, ?_, by omega, by omega, ?_⟩
    · intro x h
      rcases List.mem_append.1 h with h | h
      · exact nm.digs x h
      · have := List.eq_of_mem_replicate h; omega
    · have := nm.head
      obtain ⟨j, hj⟩ := nm.len
      match hx : X d, hj with
      | x :: ys, _ => rw [hx] at this; simpa using this
    · intro q hq
      refine ⟨q + 1 - k, ?_⟩
      have cq : ((X d).length : Int) + P d + q = (k : Int) := by omega
      unfold W
      rw [cq, kp_full g, hl]

theorem fig_zero {d : Int} {k : Nat} (hf : Ie.fnt d = true) (hm : Ie.dm d = 0) (h1 : 1 ≤ k) (h2 : k ≤ 4200) : gS d k = List.replicate k 48 ∧ gK d k = 0 := by
  have r : rf d k 1 = 0 := rf_zero.2 ⟨hf, by omega, by omega⟩
  obtain ⟨a, b⟩ := X_zero hf hm
  have e : kp [48] (k : Int) = List.replicate k 48 := by
    rw [kp_full (by simp; omega)]
    obtain ⟨j, rfl⟩ : ∃ j, k = j + 1 := ⟨k - 1, by omega⟩
    rw [List.replicate_succ]
    simp
  unfold gS gK
  rw [if_pos r, if_pos r, a, b, e, Int.toNat_natCast]
  simp

theorem fnt9995 : Ie.fnt 4652002910794678272 = true := by decide
theorem fg9995 : rf 4652002910794678272 3 1 = 0 ∧ gS 4652002910794678272 3 = [49, 48, 48] ∧ gK 4652002910794678272 3 = 3 := by
  have r : rf 4652002910794678272 3 1 = 0 := by decide
  refine ⟨r, ?_, ?_⟩
  · rw [gS, if_pos r, c9995.1]
    decide
  · rw [gK, if_pos r, c9995.1, c9995.2]
    decide
end Fx
end Go.Proofs.YtaoaniigbooihaaGreatDoor

namespace Go.Proofs.YtaoaniigbooihaaGreatDoor
open Go Go.RowKit Go.Deep
namespace Fx

theorem rd_keep {xs : List Int} {k : Nat} (hd : Digs xs) (hk : k ≤ xs.length) (h : up xs k = false) : rd xs k = xs.take k := by
  have dk : Digs (xs.take k) := fun d g => hd d (List.mem_of_mem_take g)
  have b := dv_bd dk
  have lk : (xs.take k).length = k := by rw [List.length_take]; omega
  rw [lk] at b
  have r : rn xs k = dv (xs.take k) := by unfold rn; rw [h]; simp
  exact (rd_of dk r.symm (by rw [if_neg (by omega), lk])).symm
theorem rd_more {xs ds : List Int} {k : Nat} {c : Bool} (hd : Digs xs) (hk : k ≤ xs.length) (h : UpIs (xs.take k) (xs.drop k) false true) (R : Raised (xs.take k) ds c) : (if c = true then 49 :: ds else ds) = rd xs k := by
  have lk : (xs.take k).length = k := by rw [List.length_take]; omega
  obtain ⟨r1, r2, r3⟩ := R
  rw [lk] at r2 r3
  exact rd_round hd hk ⟨r1, r2, true, h, by rw [if_pos (rfl : true = true)]; exact r3⟩
theorem up_full (xs : List Int) : up xs xs.length = false := by
  unfold up
  rw [decide_eq_false_iff_not]
  rw [Nat.sub_self, List.drop_length, show dv [] = 0 from rfl]
  simp
theorem rd_self {xs : List Int} (hd : Digs xs) : rd xs xs.length = xs := by
  rw [rd_keep hd (Nat.le_refl _) (up_full xs), List.take_length]
theorem up_of {xs : List Int} {k : Nat} {u : Bool} (h : UpIs (xs.take k) (xs.drop k) false u) : up xs k = u := (up_is h).symm
end Fx

theorem own_str {g k cap : Nat} {W : World} {fs : List Int} (o : OwnF W g fs) (hl : k ≤ fs.length) (hd : Digs (fs.take k)) :
    ∃ s, Str s (fs.take k) ∧ (convert 47 9 (.slice (some ⟨g, 0, none⟩) k cap)).run Tryz.prog W = .ok (.string s) W := by
  have hlen : (fs.take k).length = k := by simp; omega
  refine ⟨strOfNums (fs.take k), Str.of_nums (fun x hx => by have := hd x hx; omega), run_convert_bytes_arg (P := Tryz.prog) W 47 5 Tryz.underlying47 Tryz.underlying5 g 0 k cap (fs.take k) hlen (fun i hi => ?_) 9 Tryz.underlying9⟩
  rw [Nat.zero_add, o.cell i (by omega)]
  simp [List.getD, hi]

theorem Str.ne' {s : ByteArray} {xs : List Int} (h : Str s xs) (hx : xs ≠ []) : (s.toList == []) = false ∧ s.toList.isEmpty = false := by
  have e1 : s.toList ≠ [] := by
    intro c
    apply hx
    rw [ByteArray.toList_eq] at c
    rw [← h, c]
    rfl
  exact ⟨by rw [beq_eq_false_iff_ne]; exact e1, by rw [List.isEmpty_eq_false_iff]; exact e1⟩

/-- []byte(s): the block, its cells, and the run. -/
theorem bytes_made {s : ByteArray} {xs : List Int} (hs : Str s xs) (w : World) :
    ∃ (cap : Nat) (es : List Int) (w1 : World), (convert 9 47 (.string s)).run Tryz.prog w = .ok (.slice (some ⟨w.heap.size, 0, none⟩) s.size cap) w1 ∧ OwnF w1 w.heap.size es ∧ es.take xs.length = xs ∧ xs.length ≤ es.length ∧ Below w.heap.size w w1 := by
  have CV := run_bytes_of_string (P := Tryz.prog) w 9 47 5 s Tryz.underlying9 Tryz.underlying47 Tryz.underlying5
  obtain ⟨cap, hcap⟩ : ∃ cap, grownCap w s.size 0 5 = cap := ⟨_, rfl⟩
  rw [hcap] at CV
  refine ⟨cap, xs ++ List.replicate (cap - xs.length) 0, _, CV, bytes_own hs w cap, ?_, by simp, (below_drewN (Below.refl _ _) 1).alloc (Nat.le_refl _) _⟩
  rw [List.take_append_of_le_length (by omega), List.take_length]
end Go.Proofs.YtaoaniigbooihaaGreatDoor

namespace Go.Proofs.YtaoaniigbooihaaGreatDoor
open Go Go.RowKit Go.Deep
namespace Fx

theorem digs_z {xs : List Int} (hd : Digs xs) (z : Nat) : Digs (xs ++ List.replicate z 48) := by
  intro x h
  rcases List.mem_append.1 h with h | h
  · exact hd x h
  · have := List.eq_of_mem_replicate h; omega

theorem rd_z {xs : List Int} (hd : Digs xs) {z k : Nat} (hk : k ≤ xs.length + z) : rd (xs ++ List.replicate z 48) k = kp xs (k : Int) := by
  have dz := digs_z hd z
  have lz : (xs ++ List.replicate z (48 : Int)).length = xs.length + z := by simp
  rcases Nat.lt_or_ge k xs.length with c | c
  · rw [kp_cut c]
    have e1 : (xs ++ List.replicate z (48 : Int)).take k = xs.take k := List.take_append_of_le_length (by omega)
    have e2 : (xs ++ List.replicate z (48 : Int)).drop k = xs.drop k ++ List.replicate z 48 := List.drop_append_of_le_length (by omega)
    have e3 : dv ((xs ++ List.replicate z (48 : Int)).drop k) = dv (xs.drop k) * 10 ^ z := by rw [e2, dv_append, dv_zeros, List.length_replicate, Int.add_zero]
    have u : up (xs ++ List.replicate z (48 : Int)) k = up xs k := by
      unfold up
      rw [e1, e3, lz, show xs.length + z - k = xs.length - k + z by omega, Int.pow_add]
      have pz := p_pos z
      generalize (10 : Int) ^ z = T at *
      generalize (10 : Int) ^ (xs.length - k) = A at *
      generalize dv (xs.drop k) = R at *
      congr 1
      apply propext
      have f1 : 2 * (R * T) = (2 * R) * T := by rw [Int.mul_assoc]
      rw [f1]
      constructor
      · rintro (h | ⟨h, g⟩)
        · exact .inl (Int.lt_of_mul_lt_mul_right h (Int.le_of_lt pz))
        · exact .inr ⟨Int.eq_of_mul_eq_mul_right (by omega) h, g⟩
      · rintro (h | ⟨h, g⟩)
        · exact .inl (Int.mul_lt_mul_of_pos_right h pz)
        · exact .inr ⟨by rw [h], g⟩
    unfold rd rn
    rw [u, e1]
  · rw [kp_full c]
    have e : xs ++ List.replicate z (48 : Int) = (xs ++ List.replicate (k - xs.length) 48) ++ List.replicate (xs.length + z - k) 48 := by
      rw [List.append_assoc, List.replicate_append_replicate]
      congr 2
      omega
    have lk : (xs ++ List.replicate (k - xs.length) (48 : Int)).length = k := by simp; omega
    have tk : (xs ++ List.replicate z (48 : Int)).take k = xs ++ List.replicate (k - xs.length) 48 := by rw [e, List.take_append_of_le_length (by omega), List.take_of_length_le (by omega)]
    have dk : (xs ++ List.replicate z (48 : Int)).drop k = List.replicate (xs.length + z - k) 48 := by rw [e, List.drop_append_of_le_length (by omega), List.drop_of_length_le (by omega)]; rfl
    have u : up (xs ++ List.replicate z (48 : Int)) k = false := by
      unfold up
      rw [decide_eq_false_iff_not, dk, dv_zeros]
      have := p_pos ((xs ++ List.replicate z (48 : Int)).length - k)
      omega
    rw [rd_keep dz (by omega) u, tk]

/-- What Figures tells, out of the rounded row. -/
theorem fig_cut {d : Int} {n : Nat} (hf : Ie.fnt d = true) (h1 : 1 ≤ n) (h2 : n ≤ 4200) :
    gS d n = (kp (X d) n).take n ∧ gK d n = (X d).length - 1 + P d + (kp (X d) n).length - n ∧ n ≤ (kp (X d) n).length ∧ (kp (X d) n).length ≤ n + 1 := by
  have r : rf d n 1 = 0 := rf_zero.2 ⟨hf, by omega, by omega⟩
  have hl : n ≤ (kp (X d) n).length ∧ (kp (X d) n).length ≤ n + 1 := by
    rcases Nat.lt_or_ge n (X d).length with c | c
    · rw [kp_cut c, rd_len]; split <;> omega
    · rw [kp_full c, List.length_append, List.length_replicate]; omega
  unfold gS gK
  rw [if_pos r, if_pos r, Int.toNat_natCast]
  refine ⟨rfl, ?_, hl⟩
  split <;> omega
theorem al9995 : aN 4652002910794678272 = false ∧ aS 4652002910794678272 = [57, 57, 57, 53] ∧ aE 4652002910794678272 = -1 ∧ aR 4652002910794678272 = 0 := by
  refine ⟨by decide, ?_, ?_, by decide⟩
  · rw [aS, if_pos fnt9995, c9995.1]
  · rw [aE, if_pos fnt9995, c9995.2]
end Fx
end Go.Proofs.YtaoaniigbooihaaGreatDoor

namespace Go.Proofs.YtaoaniigbooihaaGreatDoor
open Go.RowKit Go.Deep

theorem cap_facts : ∀ k : Fin 36, wv (capL.getD k.val 0) = (k.val : Int) ∧ ¬ (97 ≤ capL.getD k.val 0 ∧ capL.getD k.val 0 ≤ 122) ∧ (capL.getD k.val 0 = 48 → k.val = 0) := by decide
theorem small_facts : ∀ k : Fin 36, wv (smallL.getD k.val 0) = (k.val : Int) ∧ ¬ (65 ≤ smallL.getD k.val 0 ∧ smallL.getD k.val 0 ≤ 90) ∧ (smallL.getD k.val 0 = 48 → k.val = 0) := by decide

/-- A letter, by the digit. -/
theorem letter_facts (up : Bool) (d : Int) (h0 : 0 ≤ d) (h1 : d < 36) : wv ((lettersOf up).getD d.toNat 0) = d ∧ (up = true → ¬ (97 ≤ (lettersOf up).getD d.toNat 0 ∧ (lettersOf up).getD d.toNat 0 ≤ 122)) ∧ (up = false → ¬ (65 ≤ (lettersOf up).getD d.toNat 0 ∧ (lettersOf up).getD d.toNat 0 ≤ 90)) ∧ ((lettersOf up).getD d.toNat 0 = 48 → d = 0) := by
  cases up with
  | true =>
    have k := cap_facts ⟨d.toNat, by omega⟩
    simp only at k
    rw [show lettersOf true = capL from rfl]
    exact ⟨by rw [k.1]; omega, fun _ => k.2.1, fun h => absurd h (by decide), fun h => by have := k.2.2 h; omega⟩
  | false =>
    have k := small_facts ⟨d.toNat, by omega⟩
    simp only at k
    rw [show lettersOf false = smallL from rfl]
    exact ⟨by rw [k.1]; omega, fun h => absurd h (by decide), fun _ => k.2.1, fun h => by have := k.2.2 h; omega⟩

/-- What a text that InBase wrote is like. -/
structure Good (zs : List Int) (B : Int) (up : Bool) (xs : List Int) : Prop where
  ne : xs ≠ []
  len : xs.length ≤ 262144
  case_ : ∀ i, i < xs.length → (up = true → ¬ (97 ≤ xs.getD i 0 ∧ xs.getD i 0 ≤ 122)) ∧ (up = false → ¬ (65 ≤ xs.getD i 0 ∧ xs.getD i 0 ≤ 90))
  dig : ∀ i, i < xs.length → wv (xs.getD i 0) < B
  val : Dn.tv B 0 (xs.map wv) = Nm.val zs
  head : 0 < Nm.tsize zs → xs.getD 0 0 ≠ 48
  zero : Nm.tsize zs = 0 → xs = [48]

theorem good_zero {zs : List Int} {B : Int} {up : Bool} (hz : Nm.Limbs zs) (h : Nm.tsize zs = 0) (hB : 2 ≤ B) : Good zs B up [48] := by
  refine ⟨by simp, by simp, fun i hi => ?_, fun i hi => ?_, ?_, fun c => by omega, fun _ => rfl⟩
  · obtain rfl : i = 0 := by simpa using hi
    exact ⟨fun _ => by simp, fun _ => by simp⟩
  · obtain rfl : i = 0 := by simpa using hi
    show wv 48 < B
    rw [show wv 48 = 0 by decide]
    omega
  · rw [(Nm.tsize_zero_iff hz).1 h, show [48].map wv = [0] by decide]
    simp [Dn.tv]

theorem map_wv_lets {up : Bool} {B : Int} (h36 : B ≤ 36) (ds : List Int) (hd : ∀ d ∈ ds, 0 ≤ d ∧ d < B) : (lets (lettersOf up) ds).map wv = ds := by
  unfold lets
  rw [List.map_map]
  conv => rhs; rw [← List.map_id ds]
  apply List.map_congr_left
  intro d h
  have := hd d h
  exact (letter_facts up d this.1 (by omega)).1

theorem good_ok {zs : List Int} {B : Int} {up : Bool} {L : Nat} (hz : Nm.Limbs zs) (h0 : 0 < Nm.tsize zs) (h1 : Nm.tsize zs ≤ 4096) (h2 : 2 ≤ B) (h36 : B ≤ 36) (hL : Nm.val zs < B ^ L) : Good zs B up (lets (lettersOf up) (Dn.strip (Dn.dg B L (Nm.val zs)))) := by
  have hB : 0 < B := by omega
  have hv0 := (Nm.val_bd zs hz).1
  have hvz : Nm.val zs ≠ 0 := fun c => by have := (Nm.tsize_zero_iff hz).2 c; omega
  have hL2 : Nm.val zs < B ^ 262144 := by
    have e1 := (Nm.tsize_le_iff hz 4096).1 h1
    rw [Nm.pw_two 4096, show 64 * 4096 = 262144 from rfl] at e1
    exact Int.lt_of_lt_of_le e1 (Pn.pow_base (by omega) h2 262144)
  rw [Dn.strip_dg hB hv0 hL hL2]
  obtain ⟨ds, hds⟩ : ∃ ds, Dn.strip (Dn.dg B 262144 (Nm.val zs)) = ds := ⟨_, rfl⟩
  have hm : ∀ d ∈ ds, 0 ≤ d ∧ d < B := fun d hd => by
    rw [← hds] at hd
    exact Dn.dg_mem hB _ _ d (Dn.strip_mem hd)
  have htv : Dn.tv B 0 ds = Nm.val zs := by rw [← hds, Dn.tv_strip, Dn.tv_dg hB _ _ hv0 hL2]
  have hlen : ds.length ≤ 262144 := by
    have := (List.dropWhile_sublist (fun d : Int => decide (d = 0)) (l := Dn.dg B 262144 (Nm.val zs))).length_le
    rw [Dn.dg_length] at this
    rw [← hds]
    exact this
  have hne : ds ≠ [] := fun c => by rw [c] at htv; exact hvz htv.symm
  rw [hds]
  have hg : ∀ i, i < ds.length → (lets (lettersOf up) ds).getD i 0 = (lettersOf up).getD (ds.getD i 0).toNat 0 := fun i hi => by simp [lets, List.getD, hi]
  have hl : (lets (lettersOf up) ds).length = ds.length := by simp [lets]
  have hat : ∀ i, i < ds.length → 0 ≤ ds.getD i 0 ∧ ds.getD i 0 < B := fun i hi => by
    have e : ds.getD i 0 = ds[i] := by simp [List.getD, hi]
    rw [e]
    exact hm _ (List.getElem_mem hi)
  refine ⟨fun c => hne (by simpa [lets] using c), by rw [hl]; exact hlen, fun i hi => ?_, fun i hi => ?_, by rw [map_wv_lets h36 ds hm, htv], fun _ => ?_, fun c => by omega⟩
  · rw [hl] at hi
    rw [hg i hi]
    have := hat i hi
    have f := letter_facts up (ds.getD i 0) this.1 (by omega)
    exact ⟨f.2.1, f.2.2.1⟩
  · rw [hl] at hi
    rw [hg i hi]
    have := hat i hi
    rw [(letter_facts up (ds.getD i 0) this.1 (by omega)).1]
    exact this.2
  · have hi : 0 < ds.length := by
      rcases Nat.eq_zero_or_pos ds.length with c | c
      · exact absurd (List.eq_nil_of_length_eq_zero c) hne
      · exact c
    rw [hg 0 hi]
    have hb := hat 0 hi
    intro c
    have := (letter_facts up (ds.getD 0 0) hb.1 (by omega)).2.2.2 c
    obtain ⟨d, rest, hdr⟩ : ∃ d rest, ds = d :: rest := List.exists_cons_of_ne_nil hne
    have k := Dn.strip_head (ds := Dn.dg B 262144 (Nm.val zs)) (by rw [hds]; exact hdr)
    rw [hdr] at this
    exact k (by simpa using this)
end Go.Proofs.YtaoaniigbooihaaGreatDoor

namespace Go.Proofs.YtaoaniigbooihaaGreatDoor

theorem InIs.one {zs : List Int} {B : Int} {up : Bool} {xs ys : List Int} {E F : Int} (hz : Nm.Limbs zs) (h : InIs zs B up xs E) (k : InIs zs B up ys F) : xs = ys ∧ E = F := by
  cases h with
  | big h1 => cases k <;> first | exact ⟨rfl, rfl⟩ | (exfalso; omega)
  | base h1 h2 => cases k <;> first | exact ⟨rfl, rfl⟩ | (exfalso; omega)
  | zero h1 h2 h3 => cases k <;> first | exact ⟨rfl, rfl⟩ | (exfalso; omega)
  | ok L h1 h2 h3 h4 h5 =>
    cases k with
    | big k1 => exfalso; omega
    | base k1 k2 => exfalso; omega
    | zero k1 k2 k3 => exfalso; omega
    | ok M k1 k2 k3 k4 k5 => exact ⟨by rw [Dn.strip_dg (by omega) (Nm.val_bd zs hz).1 h5 k5], rfl⟩
end Go.Proofs.YtaoaniigbooihaaGreatDoor

namespace Go.Proofs.YtaoaniigbooihaaGreatDoor
open Go.RowKit Go.Deep
namespace Wh
/-- The digits of a number, none of nothing. -/
def dig (B : Int) (up : Bool) (v : Int) : List Int := if v = 0 then [] else lets (lettersOf up) (Dn.strip (Dn.dg B v.toNat v))
theorem lt_pow {B : Int} (hB : 2 ≤ B) (n : Nat) : (n : Int) < B ^ n := by
  induction n with
  | zero => simp
  | succ n ih =>
    rw [Int.pow_succ]
    have p : (1 : Int) ≤ B ^ n := Pn.pow_pos' (by omega) n
    have : B ^ n * 2 ≤ B ^ n * B := Int.mul_le_mul_of_nonneg_left hB (by omega)
    omega
theorem dig_is {zs : List Int} {B : Int} {up : Bool} {xs : List Int} {E : Int} (hz : Nm.Limbs zs) (h0 : 0 < Nm.val zs) (h1 : Nm.tsize zs ≤ 4096) (hB : 2 ≤ B) (h36 : B ≤ 36) (h : InIs zs B up xs E) : xs = dig B up (Nm.val zs) ∧ E = 0 := by
  have t0 : 0 < Nm.tsize zs := by have := Nm.tsize_zero_iff hz; omega
  have hl : Nm.val zs < B ^ (Nm.val zs).toNat := by have := lt_pow hB (Nm.val zs).toNat; omega
  have q := h.one hz (.ok (Nm.val zs).toNat t0 h1 hB h36 hl)
  rw [dig, if_neg (by omega)]
  exact q

/-- What the digits of a number are like. -/
structure Dg (B : Int) (up : Bool) (v : Int) (xs : List Int) : Prop where
  ne : xs ≠ []
  len : xs.length ≤ 262144
  case_ : ∀ i, i < xs.length → (up = true → ¬ (97 ≤ xs.getD i 0 ∧ xs.getD i 0 ≤ 122)) ∧ (up = false → ¬ (65 ≤ xs.getD i 0 ∧ xs.getD i 0 ≤ 90))
  dig : ∀ i, i < xs.length → wv (xs.getD i 0) < B
  val : Dn.tv B 0 (xs.map wv) = v
  head : xs.getD 0 0 ≠ 48
theorem dig_good {zs : List Int} {B : Int} {up : Bool} (hz : Nm.Limbs zs) (h0 : 0 < Nm.val zs) (h1 : Nm.tsize zs ≤ 4096) (hB : 2 ≤ B) (h36 : B ≤ 36) : Dg B up (Nm.val zs) (dig B up (Nm.val zs)) := by
  have t0 : 0 < Nm.tsize zs := by have := Nm.tsize_zero_iff hz; omega
  have hl : Nm.val zs < B ^ (Nm.val zs).toNat := by have := lt_pow hB (Nm.val zs).toNat; omega
  have g := good_ok (up := up) hz t0 h1 hB h36 hl
  rw [dig, if_neg (by omega)]
  exact ⟨g.ne, g.len, g.case_, g.dig, g.val, g.head t0⟩
theorem lets_by (up : Bool) (ds : List Int) : By (lets (lettersOf up) ds) := by
  intro x hx
  obtain ⟨d, _, rfl⟩ := List.mem_map.1 hx
  have k : ∀ (l : List Int), (∀ y ∈ l, 0 ≤ y ∧ y < 256) → 0 ≤ l.getD d.toNat 0 ∧ l.getD d.toNat 0 < 256 := by
    intro l hl
    rw [List.getD_eq_getElem?_getD]
    cases h : l[d.toNat]? with
    | none => simp
    | some y => exact hl y (List.mem_of_getElem? h)
  apply k
  cases up
  · show ∀ y ∈ smallL, _
    decide
  · show ∀ y ∈ capL, _
    decide
theorem dig_by (B : Int) (up : Bool) (v : Int) : By (dig B up v) := by
  unfold dig
  split
  · exact By.nil
  · exact lets_by _ _

/-- Digits brought to the precision. -/
def fil (P : Int) (d : List Int) : List Int := rep 48 ((if P = -1 then 1 else P) - d.length) ++ d
theorem fil_by {P : Int} {d : List Int} (h : By d) : By (fil P d) := (By.rep (by omega)).app h
theorem fil_len (P : Int) (d : List Int) : (fil P d).length = ((if P = -1 then 1 else P) - d.length).toNat + d.length := by
  rw [fil, List.length_append, rep_len]

/-- The sign. -/
def sgn (F : Int) (below : Bool) : List Int := if below = true then [45] else if bit F 2 = true then [43] else if bit F 4 = true then [32] else []
theorem sgn_by (F : Int) (b : Bool) : By (sgn F b) := by
  unfold sgn
  split
  · intro x hx; simp at hx; omega
  · split
    · intro x hx; simp at hx; omega
    · split
      · intro x hx; simp at hx; omega
      · exact By.nil
theorem sgn_len (F : Int) (b : Bool) : (sgn F b).length ≤ 1 := by
  unfold sgn
  split
  · simp
  · split
    · simp
    · split <;> simp

/-- Signed. -/
def sigE (V F W P : Int) (t : Nat) : Int := if V = 100 ∨ V = 105 then (if chk F W P = 0 then (if 4096 < t then 2 else 0) else chk F W P) else 140
def sigT (F W P : Int) (neg : Bool) (v : Int) : List Int := padT F W (decide (P = -1)) (sgn F (neg && decide (v ≠ 0))) (fil P (dig 10 false v))
def sig (V F W P : Int) (neg : Bool) (zs : List Int) : List Int := if sigE V F W P (Nm.tsize zs) = 0 then sigT F W P neg (Nm.val zs) else []

/-- Unsigned. -/
def base (V : Int) : Int := if V = 111 then 8 else if V = 120 ∨ V = 88 then 16 else 10
def ubody (V P u : Int) : List Int := fil P (dig (base V) (decide (V = 88)) u)
def umark (V F P u : Int) : Bool := bit F 8 && decide (V = 111) && decide ((ubody V P u).getD 0 0 ≠ 48)
def uhead (V F u : Int) : List Int := if bit F 8 = true ∧ u ≠ 0 ∧ V = 120 then [48, 120] else if bit F 8 = true ∧ u ≠ 0 ∧ V = 88 then [48, 88] else []
def utext (V F P u : Int) : List Int := if umark V F P u = true then 48 :: ubody V P u else ubody V P u
def unsE (V F W P : Int) : Int := if V = 111 ∨ V = 117 ∨ V = 120 ∨ V = 88 then chk F W P else 140
def unsT (V F W P u : Int) : List Int := padT F W (decide (P = -1)) (uhead V F u) (utext V F P u)
def uns (V F W P u : Int) : List Int := if unsE V F W P = 0 then unsT V F W P u else []

end Wh
end Go.Proofs.YtaoaniigbooihaaGreatDoor

namespace Go.Proofs.YtaoaniigbooihaaGreatDoor
open Go Go.RowKit Go.Deep
namespace Po

/-- The verbs of capitals; those that Render renders. -/
def cap (V : Int) : Bool := decide (V = 69 ∨ V = 70 ∨ V = 71 ∨ V = 88)
def okV (V : Int) : Bool := decide (V = 101 ∨ V = 69 ∨ V = 102 ∨ V = 70 ∨ V = 103 ∨ V = 71)
def ng (d : Int) : Bool := decide (9223372036854775808 ≤ d)
/-- The body of an infinity or a NaN. -/
def nm (c : Bool) (k : Int) : List Int := if k = 3 then (if c = true then [73, 78, 70] else [105, 110, 102]) else if k = 4 then (if c = true then [78, 65, 78] else [110, 97, 110]) else []
/-- An exponent as it is written. -/
def xd (k : Int) : List Int := (if k < 0 then 45 else 43) :: Wh.fil 2 (Wh.dig 10 false (max k (-k)))
def ex (V k : Int) : List Int := (if cap V = true then 69 else 101) :: xd k
/-- Digits ahead and behind, and an exponent. -/
def wrt (a b p : List Int) (h : Bool) : List Int := if b = [] ∧ h = false then a ++ p else a ++ 46 :: (b ++ p)
/-- Without the zeros at the end. -/
def sp : List Int → List Int
  | [] => []
  | x :: xs => if x = 48 ∧ sp xs = [] then [] else x :: sp xs
def st (h : Bool) (xs : List Int) : List Int := if h = true then xs else sp xs

noncomputable def bdF (h : Bool) (d n : Int) : List Int := wrt (Fx.pA d n) (Fx.pB d n) [] h
noncomputable def bdE (V : Int) (h : Bool) (d n : Int) : List Int := wrt ((Fx.gS d (n + 1)).take 1) ((Fx.gS d (n + 1)).drop 1) (ex V (Fx.gK d (n + 1))) h
noncomputable def bdG (V : Int) (h : Bool) (d n : Int) : List Int :=
  if -4 ≤ Fx.gK d n ∧ Fx.gK d n < n then wrt (Fx.pA d (n - 1 - Fx.gK d n)) (st h (Fx.pB d (n - 1 - Fx.gK d n))) [] h
  else wrt ((Fx.gS d n).take 1) (st h ((Fx.gS d n).drop 1)) (ex V (Fx.gK d n)) h
def pr (P : Int) : Int := if P = -1 then 6 else P
noncomputable def bd (V : Int) (h : Bool) (P d : Int) : List Int :=
  if V = 102 ∨ V = 70 then bdF h d (pr P) else if V = 101 ∨ V = 69 then bdE V h d (pr P) else bdG V h d (max (pr P) 1)

/-- Special, Render. -/
def spc (V F W P d : Int) : List Int := if Wh.chk F W P = 0 ∧ Ie.fnt d = false then Wh.padT F W false (Wh.sgn F (ng d)) (nm (cap V) (Ie.cls d)) else []
def spb (F W P d : Int) : Bool := decide (Wh.chk F W P = 0) && !Ie.fnt d
def renE (V F W P : Int) : Int := if okV V = true then Wh.chk F W P else 140
noncomputable def ren (V F W P d : Int) : List Int :=
  if renE V F W P = 0 then (if Ie.fnt d = true then Wh.padT F W true (Wh.sgn F (ng d)) (bd V (Wh.bit F 8) P d) else Wh.padT F W false (Wh.sgn F (ng d)) (nm (cap V) (Ie.cls d))) else []

theorem pr_bd {P : Int} (h0 : -1 ≤ P) (h1 : P ≤ 4096) : 0 ≤ pr P ∧ pr P ≤ 4096 := by unfold pr; split <;> omega

/-- What is left of a row when the zeros at its end are gone. -/
theorem sp_of : ∀ {xs : List Int} {k : Nat}, k ≤ xs.length → (∀ i, k ≤ i → i < xs.length → xs.getD i 0 = 48) → (0 < k → xs.getD (k - 1) 0 ≠ 48) → xs.take k = sp xs
  | [], k, _, _, _ => by simp [sp]
  | x :: xs, 0, _, h2, _ => by
    have e := sp_of (xs := xs) (k := 0) (by omega) (fun i h1 hi => by have := h2 (i + 1) (by omega) (by simp; omega); simpa using this) (fun h => by omega)
    have e0 : x = 48 := by simpa using h2 0 (by omega) (by simp)
    rw [List.take_zero] at e
    rw [sp, if_pos ⟨e0, e.symm⟩]; rfl
  | x :: xs, k + 1, h1, h2, h3 => by
    have e := sp_of (xs := xs) (k := k) (by simpa using h1) (fun i h4 hi => by have := h2 (i + 1) (by omega) (by simp; omega); simpa using this) (fun h => by
      have := h3 (by omega)
      obtain ⟨j, rfl⟩ : ∃ j, k = j + 1 := ⟨k - 1, by omega⟩
      simpa using this)
    rw [List.take_succ_cons, sp]
    rw [if_neg, e]
    rintro ⟨c1, c2⟩
    rw [← e] at c2
    have k0 : k = 0 := by
      rcases Nat.eq_zero_or_pos k with c | c
      · exact c
      · have : (xs.take k).length = 0 := by rw [c2]; rfl
        rw [List.length_take] at this
        simp at h1
        omega
    subst k0
    have := h3 (by omega)
    simp at this
    exact this c1
theorem sp_take : ∀ (xs : List Int), ∃ k, k ≤ xs.length ∧ sp xs = xs.take k ∧ (∀ i, k ≤ i → i < xs.length → xs.getD i 0 = 48) ∧ (0 < k → xs.getD (k - 1) 0 ≠ 48)
  | [] => ⟨0, by simp, by simp [sp], fun i _ h => by simp at h, fun h => by omega⟩
  | x :: xs => by
    obtain ⟨k, a, b, c, e⟩ := sp_take xs
    by_cases h : x = 48 ∧ sp xs = []
    · refine ⟨0, by omega, by rw [sp, if_pos h]; rfl, fun i _ hi => ?_, fun h => by omega⟩
      have k0 : k = 0 := by
        rcases Nat.eq_zero_or_pos k with q | q
        · exact q
        · have : (xs.take k).length = 0 := by rw [← b, h.2]; rfl
          rw [List.length_take] at this
          omega
      cases i with
      | zero => simpa using h.1
      | succ i => have := c i (by omega) (by simpa using hi); simpa using this
    · refine ⟨k + 1, by simp; omega, by rw [sp, if_neg h, b, List.take_succ_cons], fun i h1 hi => ?_, fun _ => ?_⟩
      · cases i with
        | zero => omega
        | succ i => have := c i (by omega) (by simpa using hi); simpa using this
      · cases k with
        | zero =>
          rw [List.take_zero] at b
          simp
          intro q
          exact h ⟨q, b⟩
        | succ k => have := e (by omega); simpa using this
theorem sp_len (xs : List Int) : (sp xs).length ≤ xs.length := by
  obtain ⟨k, a, b, _⟩ := sp_take xs
  rw [b, List.length_take]; omega
theorem sp_mem {xs : List Int} {x : Int} (h : x ∈ sp xs) : x ∈ xs := by
  obtain ⟨k, a, b, _⟩ := sp_take xs
  rw [b] at h
  exact List.mem_of_mem_take h
theorem st_len (h : Bool) (xs : List Int) : (st h xs).length ≤ xs.length := by unfold st; split; exact Nat.le_refl _; exact sp_len xs
theorem st_mem {h : Bool} {xs : List Int} {x : Int} (k : x ∈ st h xs) : x ∈ xs := by
  unfold st at k; split at k
  · exact k
  · exact sp_mem k

/-- Digits as bytes. -/
theorem digs_by {xs : List Int} (h : Digs xs) : Wh.By xs := fun x hx => by have := h x hx; omega
theorem digs_take {xs : List Int} (h : Digs xs) (k : Nat) : Digs (xs.take k) := fun x hx => h x (List.mem_of_mem_take hx)
theorem digs_drop {xs : List Int} (h : Digs xs) (k : Nat) : Digs (xs.drop k) := fun x hx => h x (List.mem_of_mem_drop hx)
theorem digs_st {xs : List Int} (b : Bool) (h : Digs xs) : Digs (st b xs) := fun x hx => h x (st_mem hx)

/-- What Places and Figures tell of a finite double. -/
structure PlF (d n : Int) : Prop where
  ok : Fx.rf d n 0 = 0
  a : Digs (Fx.pA d n)
  b : Digs (Fx.pB d n)
  ane : Fx.pA d n ≠ []
  la : (Fx.pA d n).length ≤ 6000
  lb : ((Fx.pB d n).length : Int) = n
theorem plF {d n : Int} (hf : Ie.fnt d = true) (h0 : 0 ≤ n) (h1 : n ≤ 4200) : PlF d n := by
  have r : Fx.rf d n 0 = 0 := Fx.rf_zero.2 ⟨hf, h0, h1⟩
  have wl := Fx.W_len d n.toNat
  have wd := Fx.W_digs hf n.toNat
  have wr := Fx.dv_W_room hf (n := n.toNat) (by omega)
  refine ⟨r, ?_, ?_, ?_, ?_, ?_⟩
  · rw [Fx.pA, if_pos r]; exact digs_take wd _
  · rw [Fx.pB, if_pos r]; exact digs_drop wd _
  · rw [Fx.pA, if_pos r]
    intro c
    have : ((Fx.W d n.toNat).take ((Fx.W d n.toNat).length - n.toNat)).length = 0 := by rw [c]; rfl
    rw [List.length_take] at this
    omega
  · rw [Fx.pA, if_pos r, List.length_take]; omega
  · rw [Fx.pB, if_pos r, List.length_drop]; omega

structure FgF (d n : Int) : Prop where
  ok : Fx.rf d n 1 = 0
  s : Digs (Fx.gS d n)
  len : ((Fx.gS d n).length : Int) = n
  lo : -324 ≤ Fx.gK d n
  hi : Fx.gK d n ≤ 308
theorem fgF {d n : Int} (hf : Ie.fnt d = true) (h0 : 1 ≤ n) (h1 : n ≤ 4200) : FgF d n := by
  obtain ⟨k, rfl⟩ := Int.eq_ofNat_of_zero_le (show 0 ≤ n by omega)
  have r : Fx.rf d k 1 = 0 := Fx.rf_zero.2 ⟨hf, h0, h1⟩
  rcases (show Ie.dm d = 0 ∨ 0 < Ie.dm d by have := (Ie.fdec d (of_decide_eq_true hf)).1; omega) with c | c
  · obtain ⟨a, b⟩ := Fx.fig_zero hf c (k := k) (by omega) (by omega)
    refine ⟨r, ?_, by rw [a]; simp, by omega, by omega⟩
    rw [a]
    intro x hx
    have := List.eq_of_mem_replicate hx
    omega
  · obtain ⟨a, b, _, e, f, _⟩ := Fx.fig_facts hf c (k := k) (by omega) (by omega)
    exact ⟨r, b, by rw [a], e, f⟩

/-- An exponent's digits. -/
theorem dig3 {v : Int} (h0 : 0 < v) (h1 : v < 1000) : Wh.dig 10 false v = lets (lettersOf false) (Dn.strip (Dn.dg 10 3 v)) := by
  have hz : Nm.Limbs [v] := by intro x hx; simp at hx; omega
  have hv : Nm.val [v] = v := by simp [Nm.val]
  have ts : Nm.tsize [v] ≤ 1 := by have := Nm.tsize_le [v]; simpa using this
  have tp : 0 < Nm.tsize [v] := by have := Nm.tsize_zero_iff hz; omega
  have q := Wh.dig_is (up := false) (B := 10) hz (by rw [hv]; exact h0) (by omega) (by omega) (by omega) (InIs.ok (up := false) 3 tp (by omega) (by omega) (by omega) (by rw [hv]; exact h1))
  rw [hv] at q
  exact q.1.symm
set_option maxRecDepth 100000 in
theorem xdig {v : Int} (h0 : 0 ≤ v) (h1 : v ≤ 400) : Wh.fil 2 (Wh.dig 10 false v) = Fx.tx (if v < 100 then 2 else 3) v := by
  rcases (show v = 0 ∨ 0 < v by omega) with c | c
  · subst c; decide
  · rw [dig3 c (by omega)]
    have key : ∀ t : Fin 401, 0 < t.val → Wh.fil 2 (lets (lettersOf false) (Dn.strip (Dn.dg 10 3 (t.val : Int)))) = Fx.tx (if (t.val : Int) < 100 then 2 else 3) (t.val : Int) := by decide +kernel
    have := key ⟨v.toNat, by omega⟩ (by simp; omega)
    simp only at this
    rw [show ((v.toNat : Nat) : Int) = v by omega] at this
    exact this
theorem xd_is {k : Int} (h0 : -400 ≤ k) (h1 : k ≤ 400) : xd k = (if k < 0 then 45 else 43) :: Fx.tx (if max k (-k) < 100 then 2 else 3) (max k (-k)) := by
  rw [xd, xdig (by omega) (by omega)]
theorem xd_len {k : Int} (h0 : -400 ≤ k) (h1 : k ≤ 400) : (xd k).length ≤ 4 := by
  rw [xd_is h0 h1, List.length_cons, Fx.tx_len]; split <;> omega
theorem xd_by (k : Int) : Wh.By (xd k) := by
  unfold xd
  exact Wh.By.cons (by split <;> omega) (Wh.fil_by (Wh.dig_by _ _ _))
theorem ex_by (V k : Int) : Wh.By (ex V k) := by
  unfold ex
  exact Wh.By.cons (by split <;> omega) (xd_by k)
theorem ex_len {V k : Int} (h0 : -400 ≤ k) (h1 : k ≤ 400) : (ex V k).length ≤ 5 := by
  rw [ex, List.length_cons]; have := xd_len h0 h1; omega
theorem wrt_by {a b p : List Int} {h : Bool} (ha : Wh.By a) (hb : Wh.By b) (hp : Wh.By p) : Wh.By (wrt a b p h) := by
  unfold wrt
  split
  · exact ha.app hp
  · exact ha.app (Wh.By.cons (by omega) (hb.app hp))
theorem wrt_len (a b p : List Int) (h : Bool) : (wrt a b p h).length ≤ a.length + b.length + p.length + 1 := by
  unfold wrt
  split <;> simp <;> omega

/-- The body of a finite double is short, and made of bytes. -/
theorem bd_ok {V P d : Int} (h : Bool) (hf : Ie.fnt d = true) (p0 : -1 ≤ P) (p1 : P ≤ 4096) : Wh.By (bd V h P d) ∧ (bd V h P d).length ≤ 20000 := by
  obtain ⟨q0, q1⟩ := pr_bd p0 p1
  unfold bd
  split
  · have k := plF hf q0 (by omega)
    refine ⟨wrt_by (digs_by k.a) (digs_by k.b) Wh.By.nil, ?_⟩
    have := wrt_len (Fx.pA d (pr P)) (Fx.pB d (pr P)) [] h
    have := k.la
    have := k.lb
    simp only [List.length_nil, bdF] at *
    omega
  · split
    · have k := fgF hf (n := pr P + 1) (by omega) (by omega)
      refine ⟨wrt_by (digs_by (digs_take k.s _)) (digs_by (digs_drop k.s _)) (ex_by _ _), ?_⟩
      have := wrt_len ((Fx.gS d (pr P + 1)).take 1) ((Fx.gS d (pr P + 1)).drop 1) (ex V (Fx.gK d (pr P + 1))) h
      have := k.len
      have := ex_len (V := V) (k := Fx.gK d (pr P + 1)) (by have := k.lo; omega) (by have := k.hi; omega)
      simp only [bdE, List.length_take, List.length_drop] at *
      omega
    · have k := fgF hf (n := max (pr P) 1) (by omega) (by omega)
      unfold bdG
      split
      · rename_i g
        have j := plF hf (n := max (pr P) 1 - 1 - Fx.gK d (max (pr P) 1)) (by omega) (by omega)
        refine ⟨wrt_by (digs_by j.a) (digs_by (digs_st h j.b)) Wh.By.nil, ?_⟩
        have := wrt_len (Fx.pA d (max (pr P) 1 - 1 - Fx.gK d (max (pr P) 1))) (st h (Fx.pB d (max (pr P) 1 - 1 - Fx.gK d (max (pr P) 1)))) [] h
        have := j.la
        have := j.lb
        have := st_len h (Fx.pB d (max (pr P) 1 - 1 - Fx.gK d (max (pr P) 1)))
        simp only [List.length_nil] at *
        omega
      · refine ⟨wrt_by (digs_by (digs_take k.s _)) (digs_by (digs_st h (digs_drop k.s _))) (ex_by _ _), ?_⟩
        have := wrt_len ((Fx.gS d (max (pr P) 1)).take 1) (st h ((Fx.gS d (max (pr P) 1)).drop 1)) (ex V (Fx.gK d (max (pr P) 1))) h
        have := st_len h ((Fx.gS d (max (pr P) 1)).drop 1)
        have := k.len
        have := ex_len (V := V) (k := Fx.gK d (max (pr P) 1)) (by have := k.lo; omega) (by have := k.hi; omega)
        simp only [List.length_take, List.length_drop] at *
        omega
theorem nm_by (c : Bool) (k : Int) : Wh.By (nm c k) := by
  unfold nm
  cases c <;> (split <;> first | (intro x hx; simp at hx; omega) | (split <;> first | (intro x hx; simp at hx; omega) | exact Wh.By.nil))
theorem nm_len (c : Bool) (k : Int) : (nm c k).length ≤ 3 := by
  unfold nm
  split
  · split <;> simp
  · split
    · split <;> simp
    · simp
theorem nm_fin {c : Bool} {k : Int} (h : k < 3) : nm c k = [] := by
  unfold nm
  rw [if_neg (by omega), if_neg (by omega)]
end Po
end Go.Proofs.YtaoaniigbooihaaGreatDoor

namespace Go.Proofs.YtaoaniigbooihaaGreatDoor
open Go Go.RowKit Go.Deep Go.Shelf

set_option maxRecDepth 100000 in
theorem upLays : Go.Proofs.Lays.n158 Tryz.prog jren where
  mixed := by kernel_rfl
  f118 := Tryz.func140.trans (congrArg some (by kernel_rfl))
  f158 := Tryz.func82.trans (congrArg some (by kernel_rfl))
  f165 := Tryz.func55.trans (congrArg some (by kernel_rfl))
  f166 := Tryz.func56.trans (congrArg some (by kernel_rfl))
  f167 := Tryz.func115.trans (congrArg some (by kernel_rfl))
  f168 := Tryz.func141.trans (congrArg some (by kernel_rfl))
  f169 := Tryz.func57.trans (congrArg some (by kernel_rfl))
  f197 := Tryz.func139.trans (congrArg some (by kernel_rfl))
  f203 := Tryz.func117.trans (congrArg some (by kernel_rfl))
  f230 := Tryz.func116.trans (congrArg some (by kernel_rfl))
  f240 := Tryz.func93.trans (congrArg some (by kernel_rfl))
  f241 := Tryz.func94.trans (congrArg some (by kernel_rfl))
  f242 := Tryz.func165.trans (congrArg some (by kernel_rfl))
  f260 := Tryz.func164.trans (congrArg some (by kernel_rfl))
  f262 := Tryz.func143.trans (congrArg some (by kernel_rfl))
  f270 := Tryz.func142.trans (congrArg some (by kernel_rfl))
  f274 := Tryz.func191.trans (congrArg some (by kernel_rfl))
  f275 := Tryz.func192.trans (congrArg some (by kernel_rfl))
  f276 := Tryz.func121.trans (congrArg some (by kernel_rfl))
  f277 := Tryz.func122.trans (congrArg some (by kernel_rfl))
  f278 := Tryz.func190.trans (congrArg some (by kernel_rfl))
  f313 := Tryz.func166.trans (congrArg some (by kernel_rfl))
  t0 := by kernel_rfl
  a0 := fun _ => by kernel_rfl
  z0 := fun _ => by kernel_rfl
  v0 := fun _ => by kernel_rfl
  t3 := by kernel_rfl
  a3 := fun _ => by kernel_rfl
  z3 := fun _ => by kernel_rfl
  v3 := fun _ => by kernel_rfl
  t4 := by kernel_rfl
  a4 := fun _ => by kernel_rfl
  z4 := fun _ => by kernel_rfl
  v4 := fun _ => by kernel_rfl
  t5 := by kernel_rfl
  a5 := fun _ => by kernel_rfl
  z5 := fun _ => by kernel_rfl
  v5 := fun _ => by kernel_rfl
  t9 := by kernel_rfl
  a9 := fun _ => by kernel_rfl
  z9 := fun _ => by kernel_rfl
  v9 := fun _ => by kernel_rfl
  t20 := by kernel_rfl
  a20 := fun _ => by kernel_rfl
  z20 := fun _ => by kernel_rfl
  v20 := fun _ => by kernel_rfl
  t21 := by kernel_rfl
  a21 := fun _ => by kernel_rfl
  z21 := fun _ => by kernel_rfl
  v21 := fun _ => by kernel_rfl
  t37 := by kernel_rfl
  a37 := fun _ => by kernel_rfl
  z37 := fun _ => by kernel_rfl
  v37 := fun _ => by kernel_rfl
  t46 := by kernel_rfl
  a46 := fun _ => by kernel_rfl
  z46 := fun _ => by kernel_rfl
  v46 := fun _ => by kernel_rfl
  t51 := by kernel_rfl
  a51 := fun _ => by kernel_rfl
  z51 := fun _ => by kernel_rfl
  v51 := fun _ => by kernel_rfl
  t70 := by kernel_rfl
  a70 := fun _ => by kernel_rfl
  z70 := fun _ => by kernel_rfl
  v70 := fun _ => by kernel_rfl
  t72 := by kernel_rfl
  a72 := fun _ => by kernel_rfl
  z72 := fun _ => by kernel_rfl
  v72 := fun _ => by kernel_rfl
  t75 := by kernel_rfl
  a75 := fun _ => by kernel_rfl
  z75 := fun _ => by kernel_rfl
  v75 := fun _ => by kernel_rfl
  t76 := by kernel_rfl
  a76 := fun _ => by kernel_rfl
  z76 := fun _ => by kernel_rfl
  v76 := fun _ => by kernel_rfl
  t105 := by kernel_rfl
  a105 := fun _ => by kernel_rfl
  z105 := fun _ => by kernel_rfl
  v105 := fun _ => by kernel_rfl
  t107 := by kernel_rfl
  a107 := fun _ => by kernel_rfl
  z107 := fun _ => by kernel_rfl
  v107 := fun _ => by kernel_rfl
  t119 := by kernel_rfl
  a119 := fun _ => by kernel_rfl
  z119 := fun _ => by kernel_rfl
  t127 := by kernel_rfl
  a127 := fun _ => by kernel_rfl
  z127 := fun _ => by kernel_rfl
  v127 := fun _ => by kernel_rfl
  t138 := by kernel_rfl
  a138 := fun _ => by kernel_rfl
  z138 := fun _ => by kernel_rfl
  v138 := fun _ => by kernel_rfl
  t139 := by kernel_rfl
  a139 := fun _ => by kernel_rfl
  z139 := fun _ => by kernel_rfl
  v139 := fun _ => by kernel_rfl
  t160 := by kernel_rfl
  a160 := fun _ => by kernel_rfl
  z160 := fun _ => by kernel_rfl
  v160 := fun _ => by kernel_rfl
  t162 := by kernel_rfl
  a162 := fun _ => by kernel_rfl
  z162 := fun _ => by kernel_rfl
  v162 := fun _ => by kernel_rfl
  t164 := by kernel_rfl
  a164 := fun _ => by kernel_rfl
  z164 := fun _ => by kernel_rfl
  v164 := fun _ => by kernel_rfl
  t203 := by kernel_rfl
  a203 := fun _ => by kernel_rfl
  z203 := fun _ => by kernel_rfl
  v203 := fun _ => by kernel_rfl
  t206 := by kernel_rfl
  a206 := fun _ => by kernel_rfl
  z206 := fun _ => by kernel_rfl
  v206 := fun _ => by kernel_rfl
  t208 := by kernel_rfl
  a208 := fun _ => by kernel_rfl
  z208 := fun _ => by kernel_rfl
  v208 := fun _ => by kernel_rfl
  g3 := by kernel_rfl
  g4 := by kernel_rfl
  g13 := by kernel_rfl
end Go.Proofs.YtaoaniigbooihaaGreatDoor

namespace Go.Proofs.YtaoaniigbooihaaGreatDoor
open Go Go.RowKit Go.Deep Go.Shelf

def PadTold (F W P : Int) (z : Bool) (h b : List Int) (w : World) (e : Ending) (w' : World) : Prop := e = .returned (.tuple #[.string (strOfNums (Wh.pad F W P z h b)), .int .i64 (Wh.padE F W P h b)]) ∧ Below w.heap.size w w'
theorem PadTold.bel {F W P : Int} {z : Bool} {h b : List Int} {w : World} {e : Ending} {w' : World} (k : PadTold F W P z h b w e w') : Below w.heap.size w w' := k.2

set_option maxRecDepth 100000 in
set_option maxHeartbeats 4000000 in
theorem pad_any (V F W P : Int) (h b : List Int) (z : Bool) (w : World) (hh : Wh.By h) (hb : Wh.By b) (lh : h.length ≤ 140737488355328) (lb : b.length ≤ 140737488355328) :
    Calls Tryz.prog 31 #[.agg #[.int .u8 V, .int .i64 F, .int .i64 W, .int .i64 P], .string (strOfNums h), .string (strOfNums b), .bool z] w fun e w' => PadTold F W P z h b w e w' := by
  have B0 := hid (alloc_b w (.cells #[.int .u8 V, .int .i64 F, .int .i64 W, .int .i64 P] 25))
  have CK := hid (fun W' => check_any V F W P W')
  by_cases hc : Wh.chk F W P = 0
  · obtain ⟨⟨f0, f1⟩, ⟨wl, wu⟩, ⟨p0, p1⟩⟩ := Wh.chk_ok hc
    rw [hc] at CK
    have sh : (strOfNums h).size = h.length := strOfNums_size h
    have sb : (strOfNums b).size = b.length := strOfNums_size b
    have S0 := hid (S4.new w (.int .u8 V) (.int .i64 F) (.int .i64 W) (.int .i64 P))
    by_cases hl : 16777216 < h.length + b.length
    · have hE : Wh.padE F W P h b = 3 := by rw [Wh.padE, if_pos hc, if_pos hl]
      have G : Hid (∀ w', Below w.heap.size w w' → PadTold F W P z h b w (.returned (.tuple #[.string ⟨#[]⟩, .int .i64 3])) w') := fun w' k => ⟨by rw [Wh.pad, hE, if_neg (by decide)]; rfl, k⟩
      have l1 : (16777216 : Int) - (h.length : Int) < (b.length : Int) := by omega
      have l2 : (h.length : Int) ≤ 140737488355328 := by omega
      have l3 : (b.length : Int) ≤ 140737488355328 := by omega
      clear hh hb lh lb hc hl hE f0 f1 wl wu p0 p1 S0
      go_enter Tryz.func31, Tryz.ntmps31
      go_wp2_with fail
      refine (CK.out _).mono ?_
      rintro e w1 ⟨rfl, b1⟩
      have B1 := hid (below_on B0.out b1)
      clear b1 CK
      go_wp2_with fail
      go_ret2
      exact G.out _ B1.out
    · have hE : Wh.padE F W P h b = 0 := by rw [Wh.padE, if_pos hc, if_neg hl]
      have hP : Wh.pad F W P z h b = Wh.padT F W z h b := by rw [Wh.pad, hE, if_pos rfl]
      have BY := hid (Wh.padT_by (F := F) (W := W) (z := z) hh hb)
      have PL := hid (Wh.padT_len F W z h b)
      have l1 : ¬ (16777216 : Int) - (h.length : Int) < (b.length : Int) := by omega
      have l2 : (h.length : Int) ≤ 16777216 := by omega
      have l3 : (b.length : Int) ≤ 16777216 := by omega
      have n2 : h.length ≤ 16777216 := by omega
      have n3 : b.length ≤ 16777216 := by omega
      obtain ⟨M, hM⟩ : ∃ M : Nat, M = (W - h.length - b.length).toNat := ⟨_, rfl⟩
      have M1 : M ≤ 4096 := by omega
      have mx : max 0 (W - (h.length : Int) - (b.length : Int)) = (M : Int) := by rw [hM]; omega
      have rp : ∀ c, Wh.rep c (W - h.length - b.length) = Wh.rep c (M : Int) := by intro c; rw [Wh.rep, Wh.rep, hM]; rfl
      have R0 : Hid (∀ W', Calls Tryz.prog 45 #[.string ⟨#[32]⟩, .int .i64 0] W' fun e w' => e = .returned (.string (strOfNums [])) ∧ Below W'.heap.size W' w') := fun W' => jrep32 0 W' (by omega)
      have R1 := hid (fun W' => jrep32 M W' (by omega))
      have Q0 : Hid (∀ W', Calls Tryz.prog 45 #[.string ⟨#[48]⟩, .int .i64 0] W' fun e w' => e = .returned (.string (strOfNums [])) ∧ Below W'.heap.size W' w') := fun W' => jrep48 0 W' (by omega)
      have Q1 := hid (fun W' => jrep48 M W' (by omega))
      have H1 := hid (fun W' => has_any V F W P 1 W' f0 f1 (by omega))
      have H2 := hid (fun W' => has_any V F W P 16 W' f0 f1 (by omega))
      have GR := hid (fun (w1 : World) (k : Below w.heap.size w w1) => PS.grow (h.length + b.length + M) k (by omega))
      have WT := hid (fun (wk : World) bb zs xs (k : PS w bb zs wk) hx hl => PS.write k xs hx hl)
      have WS := hid (fun (wk : World) bb zs (k : PS w bb zs wk) hx => PS.str k hx)
      have gm : ((h.length + b.length + M : Nat) : Int) = (h.length : Int) + (b.length : Int) + (M : Int) := by omega
      have m0 : (M : Int) ≤ 4096 := by omega
      have y1 : Hid (Wh.By (Wh.rep 32 (M : Int)) ∧ (Wh.rep 32 (M : Int)).length = M) := ⟨Wh.By.rep (by omega), by rw [Wh.rep_len]; omega⟩
      have y2 : Hid (Wh.By (Wh.rep 48 (M : Int)) ∧ (Wh.rep 48 (M : Int)).length = M) := ⟨Wh.By.rep (by omega), by rw [Wh.rep_len]; omega⟩
      have YH := hid hh
      have YB := hid hb
      have N2 := hid n2
      have N3 := hid n3
      have G : Hid (∀ w', Below w.heap.size w w' → PadTold F W P z h b w (.returned (.tuple #[.string (strOfNums (Wh.padT F W z h b)), .int .i64 0])) w') := fun w' k => ⟨by rw [hE, hP], k⟩
      cases hb1 : Wh.bit F 1 with
      | true =>
        have EQ : Hid (Wh.padT F W z h b = h ++ b ++ Wh.rep 32 (M : Int)) := by rw [Hid]; rw [Wh.padT, if_pos hb1, rp]
        clear hh hb lh lb hc hl hE hP hM rp f0 f1 p0 p1 n2 n3
        go_enter Tryz.func31, Tryz.ntmps31
        go_wp2_with fail
        refine (CK.out _).mono ?_
        rintro e w1 ⟨rfl, b1⟩
        have B1 := hid (below_on B0.out b1)
        obtain ⟨⟨c0, c1, c2, c3⟩, -⟩ := (S0.out.below b1).cells
        have S1 := hid (S0.out.below b1)
        clear b1 CK S0 B0
        go_wp2_with fail
        refine (H1.out _).mono ?_
        rintro e w2 ⟨rfl, b2⟩
        have B2 := hid (below_on B1.out b2)
        obtain ⟨⟨d0, d1, d2, d3⟩, -⟩ := (S1.out.below b2).cells
        have S2 := hid (S1.out.below b2)
        clear b2 c0 c1 c2 c3 B1 S1
        rw [hb1]
        go_wp2_with fail
        have GG := GR.out _ B2.out
        rw [gm] at GG
        with_reducible refine GG.mono ?_
        rintro e wa ⟨rfl, q⟩
        have Qa := hid q
        clear q GG GR
        go_wp2_with fail
        generalize w2.heap.size = bb at *
        with_reducible refine (R0.out _).mono ?_
        rintro e wr ⟨rfl, br⟩
        have Qr := hid (Qa.out.on br)
        clear br
        go_wp2_with fail
        with_reducible refine (WT.out _ _ _ [] Qr.out Wh.By.nil (by have := N2.out; have := N3.out; have := y1.out.2; have := y2.out.2; simp only [List.length_nil]; omega)).mono ?_
        rintro e Qbw ⟨rfl, q⟩
        have Qb := hid q
        clear q Qr wr
        go_wp2_with fail
        with_reducible refine (WT.out _ _ _ h Qb.out YH.out (by have := N2.out; have := N3.out; have := y1.out.2; have := y2.out.2; simp only [List.length_append, List.length_nil]; omega)).mono ?_
        rintro e Qcw ⟨rfl, q⟩
        have Qc := hid q
        clear q
        go_wp2_with fail
        with_reducible refine (Q0.out _).mono ?_
        rintro e wr ⟨rfl, br⟩
        have Qr := hid (Qc.out.on br)
        clear br
        go_wp2_with fail
        with_reducible refine (WT.out _ _ _ [] Qr.out Wh.By.nil (by have := N2.out; have := N3.out; have := y1.out.2; have := y2.out.2; simp only [List.length_append, List.length_nil]; omega)).mono ?_
        rintro e Qdw ⟨rfl, q⟩
        have Qd := hid q
        clear q Qr wr
        go_wp2_with fail
        with_reducible refine (WT.out _ _ _ b Qd.out YB.out (by have := N2.out; have := N3.out; have := y1.out.2; have := y2.out.2; simp only [List.length_append, List.length_nil]; omega)).mono ?_
        rintro e Qew ⟨rfl, q⟩
        have Qe := hid q
        clear q
        go_wp2_with fail
        with_reducible refine (R1.out _).mono ?_
        rintro e wr ⟨rfl, br⟩
        have Qr := hid (Qe.out.on br)
        clear br
        go_wp2_with fail
        with_reducible refine (WT.out _ _ _ (Wh.rep 32 (M : Int)) Qr.out y1.out.1 (by have := N2.out; have := N3.out; have := y1.out.2; have := y2.out.2; simp only [List.length_append, List.length_nil]; omega)).mono ?_
        rintro e Qfw ⟨rfl, q⟩
        have Qf := hid q
        clear q Qr wr
        go_wp2_with fail
        have QF : Hid (PS w bb (Wh.padT F W z h b) Qfw) := by
          have q := Qf.out
          simp only [List.nil_append, List.append_nil] at q
          rw [EQ.out]; exact q
        with_reducible refine (WS.out _ _ _ QF.out BY.out).mono ?_
        rintro e wz ⟨rfl, bz⟩
        have BZ := hid (G.out _ bz)
        clear bz QF Qf
        go_wp2_with fail
        go_ret2
        exact BZ.out
      | false =>
        cases hb2 : Wh.bit F 16 with
        | true =>
          cases z with
          | true =>
            have EQ : Hid (Wh.padT F W true h b = h ++ Wh.rep 48 (M : Int) ++ b) := by rw [Hid]; rw [Wh.padT, hb1, if_neg Bool.false_ne_true, if_pos ⟨hb2, rfl⟩, rp]
            clear hh hb lh lb hc hl hE hP hM rp f0 f1 p0 p1 n2 n3
            go_enter Tryz.func31, Tryz.ntmps31
            go_wp2_with fail
            refine (CK.out _).mono ?_
            rintro e w1 ⟨rfl, b1⟩
            have B1 := hid (below_on B0.out b1)
            obtain ⟨⟨c0, c1, c2, c3⟩, -⟩ := (S0.out.below b1).cells
            have S1 := hid (S0.out.below b1)
            clear b1 CK S0 B0
            go_wp2_with fail
            refine (H1.out _).mono ?_
            rintro e w2 ⟨rfl, b2⟩
            have B2 := hid (below_on B1.out b2)
            obtain ⟨⟨d0, d1, d2, d3⟩, -⟩ := (S1.out.below b2).cells
            have S2 := hid (S1.out.below b2)
            clear b2 c0 c1 c2 c3 B1 S1
            rw [hb1]
            go_wp2_with fail
            refine (H2.out _).mono ?_
            rintro e w3 ⟨rfl, b3⟩
            have B3 := hid (below_on B2.out b3)
            obtain ⟨⟨c0, c1, c2, c3⟩, -⟩ := (S2.out.below b3).cells
            clear b3 d0 d1 d2 d3 B2 S2
            rw [hb2]
            go_wp2_with fail
            have GG := GR.out _ B3.out
            rw [gm] at GG
            with_reducible refine GG.mono ?_
            rintro e wa ⟨rfl, q⟩
            have Qa := hid q
            clear q GG GR
            go_wp2_with fail
            generalize w3.heap.size = bb at *
            with_reducible refine (R0.out _).mono ?_
            rintro e wr ⟨rfl, br⟩
            have Qr := hid (Qa.out.on br)
            clear br
            go_wp2_with fail
            with_reducible refine (WT.out _ _ _ [] Qr.out Wh.By.nil (by have := N2.out; have := N3.out; have := y1.out.2; have := y2.out.2; simp only [List.length_nil]; omega)).mono ?_
            rintro e Qbw ⟨rfl, q⟩
            have Qb := hid q
            clear q Qr wr
            go_wp2_with fail
            with_reducible refine (WT.out _ _ _ h Qb.out YH.out (by have := N2.out; have := N3.out; have := y1.out.2; have := y2.out.2; simp only [List.length_append, List.length_nil]; omega)).mono ?_
            rintro e Qcw ⟨rfl, q⟩
            have Qc := hid q
            clear q
            go_wp2_with fail
            with_reducible refine (Q1.out _).mono ?_
            rintro e wr ⟨rfl, br⟩
            have Qr := hid (Qc.out.on br)
            clear br
            go_wp2_with fail
            with_reducible refine (WT.out _ _ _ (Wh.rep 48 (M : Int)) Qr.out y2.out.1 (by have := N2.out; have := N3.out; have := y1.out.2; have := y2.out.2; simp only [List.length_append, List.length_nil]; omega)).mono ?_
            rintro e Qdw ⟨rfl, q⟩
            have Qd := hid q
            clear q Qr wr
            go_wp2_with fail
            with_reducible refine (WT.out _ _ _ b Qd.out YB.out (by have := N2.out; have := N3.out; have := y1.out.2; have := y2.out.2; simp only [List.length_append, List.length_nil]; omega)).mono ?_
            rintro e Qew ⟨rfl, q⟩
            have Qe := hid q
            clear q
            go_wp2_with fail
            with_reducible refine (R0.out _).mono ?_
            rintro e wr ⟨rfl, br⟩
            have Qr := hid (Qe.out.on br)
            clear br
            go_wp2_with fail
            with_reducible refine (WT.out _ _ _ [] Qr.out Wh.By.nil (by have := N2.out; have := N3.out; have := y1.out.2; have := y2.out.2; simp only [List.length_append, List.length_nil]; omega)).mono ?_
            rintro e Qfw ⟨rfl, q⟩
            have Qf := hid q
            clear q Qr wr
            go_wp2_with fail
            have QF : Hid (PS w bb (Wh.padT F W true h b) Qfw) := by
              have q := Qf.out
              simp only [List.nil_append, List.append_nil] at q
              rw [EQ.out]; exact q
            with_reducible refine (WS.out _ _ _ QF.out BY.out).mono ?_
            rintro e wz ⟨rfl, bz⟩
            have BZ := hid (G.out _ bz)
            clear bz QF Qf
            go_wp2_with fail
            go_ret2
            exact BZ.out
          | false =>
            have EQ : Hid (Wh.padT F W false h b = Wh.rep 32 (M : Int) ++ h ++ b) := by rw [Hid]; rw [Wh.padT, hb1, if_neg Bool.false_ne_true, if_neg (fun q => Bool.false_ne_true q.2), rp]
            clear hh hb lh lb hc hl hE hP hM rp f0 f1 p0 p1 n2 n3
            go_enter Tryz.func31, Tryz.ntmps31
            go_wp2_with fail
            refine (CK.out _).mono ?_
            rintro e w1 ⟨rfl, b1⟩
            have B1 := hid (below_on B0.out b1)
            obtain ⟨⟨c0, c1, c2, c3⟩, -⟩ := (S0.out.below b1).cells
            have S1 := hid (S0.out.below b1)
            clear b1 CK S0 B0
            go_wp2_with fail
            refine (H1.out _).mono ?_
            rintro e w2 ⟨rfl, b2⟩
            have B2 := hid (below_on B1.out b2)
            obtain ⟨⟨d0, d1, d2, d3⟩, -⟩ := (S1.out.below b2).cells
            have S2 := hid (S1.out.below b2)
            clear b2 c0 c1 c2 c3 B1 S1
            rw [hb1]
            go_wp2_with fail
            refine (H2.out _).mono ?_
            rintro e w3 ⟨rfl, b3⟩
            have B3 := hid (below_on B2.out b3)
            obtain ⟨⟨c0, c1, c2, c3⟩, -⟩ := (S2.out.below b3).cells
            clear b3 d0 d1 d2 d3 B2 S2
            rw [hb2]
            go_wp2_with fail
            have GG := GR.out _ B3.out
            rw [gm] at GG
            with_reducible refine GG.mono ?_
            rintro e wa ⟨rfl, q⟩
            have Qa := hid q
            clear q GG GR
            go_wp2_with fail
            generalize w3.heap.size = bb at *
            with_reducible refine (R1.out _).mono ?_
            rintro e wr ⟨rfl, br⟩
            have Qr := hid (Qa.out.on br)
            clear br
            go_wp2_with fail
            with_reducible refine (WT.out _ _ _ (Wh.rep 32 (M : Int)) Qr.out y1.out.1 (by have := N2.out; have := N3.out; have := y1.out.2; have := y2.out.2; simp only [List.length_nil]; omega)).mono ?_
            rintro e Qbw ⟨rfl, q⟩
            have Qb := hid q
            clear q Qr wr
            go_wp2_with fail
            with_reducible refine (WT.out _ _ _ h Qb.out YH.out (by have := N2.out; have := N3.out; have := y1.out.2; have := y2.out.2; simp only [List.length_append, List.length_nil]; omega)).mono ?_
            rintro e Qcw ⟨rfl, q⟩
            have Qc := hid q
            clear q
            go_wp2_with fail
            with_reducible refine (Q0.out _).mono ?_
            rintro e wr ⟨rfl, br⟩
            have Qr := hid (Qc.out.on br)
            clear br
            go_wp2_with fail
            with_reducible refine (WT.out _ _ _ [] Qr.out Wh.By.nil (by have := N2.out; have := N3.out; have := y1.out.2; have := y2.out.2; simp only [List.length_append, List.length_nil]; omega)).mono ?_
            rintro e Qdw ⟨rfl, q⟩
            have Qd := hid q
            clear q Qr wr
            go_wp2_with fail
            with_reducible refine (WT.out _ _ _ b Qd.out YB.out (by have := N2.out; have := N3.out; have := y1.out.2; have := y2.out.2; simp only [List.length_append, List.length_nil]; omega)).mono ?_
            rintro e Qew ⟨rfl, q⟩
            have Qe := hid q
            clear q
            go_wp2_with fail
            with_reducible refine (R0.out _).mono ?_
            rintro e wr ⟨rfl, br⟩
            have Qr := hid (Qe.out.on br)
            clear br
            go_wp2_with fail
            with_reducible refine (WT.out _ _ _ [] Qr.out Wh.By.nil (by have := N2.out; have := N3.out; have := y1.out.2; have := y2.out.2; simp only [List.length_append, List.length_nil]; omega)).mono ?_
            rintro e Qfw ⟨rfl, q⟩
            have Qf := hid q
            clear q Qr wr
            go_wp2_with fail
            have QF : Hid (PS w bb (Wh.padT F W false h b) Qfw) := by
              have q := Qf.out
              simp only [List.nil_append, List.append_nil] at q
              rw [EQ.out]; exact q
            with_reducible refine (WS.out _ _ _ QF.out BY.out).mono ?_
            rintro e wz ⟨rfl, bz⟩
            have BZ := hid (G.out _ bz)
            clear bz QF Qf
            go_wp2_with fail
            go_ret2
            exact BZ.out
        | false =>
          have EQ : Hid (Wh.padT F W z h b = Wh.rep 32 (M : Int) ++ h ++ b) := by rw [Hid]; rw [Wh.padT, hb1, if_neg Bool.false_ne_true, hb2, if_neg (fun q => Bool.false_ne_true q.1), rp]
          clear hh hb lh lb hc hl hE hP hM rp f0 f1 p0 p1 n2 n3
          go_enter Tryz.func31, Tryz.ntmps31
          go_wp2_with fail
          refine (CK.out _).mono ?_
          rintro e w1 ⟨rfl, b1⟩
          have B1 := hid (below_on B0.out b1)
          obtain ⟨⟨c0, c1, c2, c3⟩, -⟩ := (S0.out.below b1).cells
          have S1 := hid (S0.out.below b1)
          clear b1 CK S0 B0
          go_wp2_with fail
          refine (H1.out _).mono ?_
          rintro e w2 ⟨rfl, b2⟩
          have B2 := hid (below_on B1.out b2)
          obtain ⟨⟨d0, d1, d2, d3⟩, -⟩ := (S1.out.below b2).cells
          have S2 := hid (S1.out.below b2)
          clear b2 c0 c1 c2 c3 B1 S1
          rw [hb1]
          go_wp2_with fail
          refine (H2.out _).mono ?_
          rintro e w3 ⟨rfl, b3⟩
          have B3 := hid (below_on B2.out b3)
          obtain ⟨⟨c0, c1, c2, c3⟩, -⟩ := (S2.out.below b3).cells
          clear b3 d0 d1 d2 d3 B2 S2
          rw [hb2]
          go_wp2_with fail
          have GG := GR.out _ B3.out
          rw [gm] at GG
          with_reducible refine GG.mono ?_
          rintro e wa ⟨rfl, q⟩
          have Qa := hid q
          clear q GG GR
          go_wp2_with fail
          generalize w3.heap.size = bb at *
          with_reducible refine (R1.out _).mono ?_
          rintro e wr ⟨rfl, br⟩
          have Qr := hid (Qa.out.on br)
          clear br
          go_wp2_with fail
          with_reducible refine (WT.out _ _ _ (Wh.rep 32 (M : Int)) Qr.out y1.out.1 (by have := N2.out; have := N3.out; have := y1.out.2; have := y2.out.2; simp only [List.length_nil]; omega)).mono ?_
          rintro e Qbw ⟨rfl, q⟩
          have Qb := hid q
          clear q Qr wr
          go_wp2_with fail
          with_reducible refine (WT.out _ _ _ h Qb.out YH.out (by have := N2.out; have := N3.out; have := y1.out.2; have := y2.out.2; simp only [List.length_append, List.length_nil]; omega)).mono ?_
          rintro e Qcw ⟨rfl, q⟩
          have Qc := hid q
          clear q
          go_wp2_with fail
          with_reducible refine (Q0.out _).mono ?_
          rintro e wr ⟨rfl, br⟩
          have Qr := hid (Qc.out.on br)
          clear br
          go_wp2_with fail
          with_reducible refine (WT.out _ _ _ [] Qr.out Wh.By.nil (by have := N2.out; have := N3.out; have := y1.out.2; have := y2.out.2; simp only [List.length_append, List.length_nil]; omega)).mono ?_
          rintro e Qdw ⟨rfl, q⟩
          have Qd := hid q
          clear q Qr wr
          go_wp2_with fail
          with_reducible refine (WT.out _ _ _ b Qd.out YB.out (by have := N2.out; have := N3.out; have := y1.out.2; have := y2.out.2; simp only [List.length_append, List.length_nil]; omega)).mono ?_
          rintro e Qew ⟨rfl, q⟩
          have Qe := hid q
          clear q
          go_wp2_with fail
          with_reducible refine (R0.out _).mono ?_
          rintro e wr ⟨rfl, br⟩
          have Qr := hid (Qe.out.on br)
          clear br
          go_wp2_with fail
          with_reducible refine (WT.out _ _ _ [] Qr.out Wh.By.nil (by have := N2.out; have := N3.out; have := y1.out.2; have := y2.out.2; simp only [List.length_append, List.length_nil]; omega)).mono ?_
          rintro e Qfw ⟨rfl, q⟩
          have Qf := hid q
          clear q Qr wr
          go_wp2_with fail
          have QF : Hid (PS w bb (Wh.padT F W z h b) Qfw) := by
            have q := Qf.out
            simp only [List.nil_append, List.append_nil] at q
            rw [EQ.out]; exact q
          with_reducible refine (WS.out _ _ _ QF.out BY.out).mono ?_
          rintro e wz ⟨rfl, bz⟩
          have BZ := hid (G.out _ bz)
          clear bz QF Qf
          go_wp2_with fail
          go_ret2
          exact BZ.out
  · have hE : Wh.padE F W P h b = Wh.chk F W P := by rw [Wh.padE, if_neg hc]
    have G : Hid (∀ w', Below w.heap.size w w' → PadTold F W P z h b w (.returned (.tuple #[.string ⟨#[]⟩, .int .i64 (Wh.chk F W P)])) w') := fun w' k => ⟨by rw [Wh.pad, hE, if_neg hc]; rfl, k⟩
    have hne : (Wh.chk F W P == 0) = false := by simpa using hc
    clear hh hb lh lb hc hE
    generalize Wh.chk F W P = E at *
    go_enter Tryz.func31, Tryz.ntmps31
    go_wp2_with fail
    refine (CK.out _).mono ?_
    rintro e w1 ⟨rfl, b1⟩
    have B1 := hid (below_on B0.out b1)
    clear b1 CK
    go_wp2_with fail
    go_ret2
    exact G.out _ B1.out
end Go.Proofs.YtaoaniigbooihaaGreatDoor

namespace Go.Proofs.YtaoaniigbooihaaGreatDoor
open Go Go.RowKit Go.Deep Go.Shelf

theorem str_app {a b : List Int} (ha : Wh.By a) (hb : Wh.By b) : strOfNums a ++ strOfNums b = strOfNums (a ++ b) := by
  have k : Str (strOfNums a ++ strOfNums b) (a ++ b) := by
    have h1 := Str.of_nums ha
    have h2 := Str.of_nums hb
    unfold Str at *
    conv => rhs; rw [← h1, ← h2, ← List.map_append]
    simp
  exact str_is k

theorem ret_se {a b : ByteArray} {x y : Int} (h : a = b) (k : x = y) : Ending.returned (.tuple #[.string a, .int .i64 x]) = .returned (.tuple #[.string b, .int .i64 y]) := by rw [h, k]
set_option maxRecDepth 100000 in
theorem filled_any (V F W P : Int) (d : List Int) (w : World) (p0 : -1 ≤ P) (p1 : P ≤ 4096) (hd : Wh.By d) (hl : d.length ≤ 262144) :
    Calls Tryz.prog 153 #[.agg #[.int .u8 V, .int .i64 F, .int .i64 W, .int .i64 P], .string (strOfNums d)] w fun e w' => e = .returned (.string (strOfNums (Wh.fil P d))) ∧ Below w.heap.size w w' := by
  have B0 := hid (SB.new w V F W P)
  have sd : (strOfNums d).size = d.length := strOfNums_size d
  have l2 : (d.length : Int) ≤ 262144 := by omega
  obtain ⟨M, hM⟩ : ∃ M : Nat, M = ((if P = -1 then 1 else P) - (d.length : Int)).toNat := ⟨_, rfl⟩
  have M1 : M ≤ 4096 := by rw [hM]; split <;> omega
  have m0 : (M : Int) ≤ 4096 := by omega
  have RE := hid (fun W' => jrep48 M W' (by omega))
  have sr : (strOfNums (Wh.rep 48 (M : Int))).size = M := by rw [strOfNums_size, Wh.rep_len]; omega
  have G : Hid (strOfNums (Wh.rep 48 (M : Int)) ++ strOfNums d = strOfNums (Wh.fil P d)) := by
    rw [Hid, str_app (Wh.By.rep (by omega)) hd, Wh.fil]
    have e : Wh.rep 48 (M : Int) = Wh.rep 48 ((if P = -1 then 1 else P) - (d.length : Int)) := by rw [Wh.rep, Wh.rep, hM]; rfl
    rw [e]
  by_cases hP : P = -1
  · have mx : max 0 (1 - (d.length : Int)) = (M : Int) := by rw [hM, if_pos hP]; omega
    subst hP
    clear hd hl hM p0 p1
    obtain ⟨c0, c1, c2, c3⟩ := B0.out.flat
    go_enter Tryz.func153, Tryz.ntmps153
    go_wp2_with fail
    with_reducible refine (RE.out _).mono ?_
    rintro e w1 ⟨rfl, b1⟩
    have B1 := hid (B0.out.on b1).bel
    clear b1 RE
    go_wp2_with fail
    go_ret
    exact ⟨ret_str G.out, B1.out⟩
  · have mx : max 0 (P - (d.length : Int)) = (M : Int) := by rw [hM, if_neg hP]; omega
    have hne : (P == -1) = false := by simpa using hP
    clear hd hl hM hP
    obtain ⟨c0, c1, c2, c3⟩ := B0.out.flat
    go_enter Tryz.func153, Tryz.ntmps153
    go_wp2_with fail
    with_reducible refine (RE.out _).mono ?_
    rintro e w1 ⟨rfl, b1⟩
    have B1 := hid (B0.out.on b1).bel
    clear b1 RE
    go_wp2_with fail
    go_ret
    exact ⟨ret_str G.out, B1.out⟩

set_option maxRecDepth 100000 in
theorem wsign_any (V F W P : Int) (bl : Bool) (w : World) (f0 : 0 ≤ F) (f1 : F ≤ 31) :
    Calls Tryz.prog 152 #[.agg #[.int .u8 V, .int .i64 F, .int .i64 W, .int .i64 P], .bool bl] w fun e w' => e = .returned (.string (strOfNums (Wh.sgn F bl))) ∧ Below w.heap.size w w' := by
  have B0 := hid (SB.new w V F W P)
  have H2 := hid (fun W' => has_any V F W P 2 W' f0 f1 (by omega))
  have H4 := hid (fun W' => has_any V F W P 4 W' f0 f1 (by omega))
  clear f0 f1
  obtain ⟨c0, c1, c2, c3⟩ := B0.out.flat
  cases bl with
  | true =>
    have G : Hid (strOfNums (Wh.sgn F true) = ⟨#[45]⟩) := rfl
    clear H2 H4
    go_enter Tryz.func152, Tryz.ntmps152
    go_wp2_with fail
    go_ret
    exact ⟨ret_str G.out.symm, B0.out.bel⟩
  | false =>
    cases h2 : Wh.bit F 2 with
    | true =>
      have G : Hid (strOfNums (Wh.sgn F false) = ⟨#[43]⟩) := by rw [Hid, Wh.sgn, if_neg Bool.false_ne_true, if_pos h2]; rfl
      rw [h2] at H2
      clear H4
      go_enter Tryz.func152, Tryz.ntmps152
      go_wp2_with fail
      with_reducible refine (H2.out _).mono ?_
      rintro e w1 ⟨rfl, b1⟩
      have B1 := hid (B0.out.on b1).bel
      clear b1 H2
      go_wp2_with fail
      go_ret
      exact ⟨ret_str G.out.symm, B1.out⟩
    | false =>
      rw [h2] at H2
      cases h4 : Wh.bit F 4 with
      | true =>
        have G : Hid (strOfNums (Wh.sgn F false) = ⟨#[32]⟩) := by rw [Hid, Wh.sgn, if_neg Bool.false_ne_true, h2, if_neg Bool.false_ne_true, if_pos h4]; rfl
        rw [h4] at H4
        go_enter Tryz.func152, Tryz.ntmps152
        go_wp2_with fail
        with_reducible refine (H2.out _).mono ?_
        rintro e w1 ⟨rfl, b1⟩
        have B1 := hid (B0.out.on b1)
        clear b1 H2 c0 c1 c2 c3
        obtain ⟨c0, c1, c2, c3⟩ := B1.out.flat
        go_wp2_with fail
        with_reducible refine (H4.out _).mono ?_
        rintro e w2 ⟨rfl, b2⟩
        have B2 := hid (B1.out.on b2).bel
        clear b2 H4
        go_wp2_with fail
        go_ret
        exact ⟨ret_str G.out.symm, B2.out⟩
      | false =>
        have G : Hid (strOfNums (Wh.sgn F false) = ⟨#[]⟩) := by rw [Hid, Wh.sgn, if_neg Bool.false_ne_true, h2, if_neg Bool.false_ne_true, h4, if_neg Bool.false_ne_true]; rfl
        rw [h4] at H4
        go_enter Tryz.func152, Tryz.ntmps152
        go_wp2_with fail
        with_reducible refine (H2.out _).mono ?_
        rintro e w1 ⟨rfl, b1⟩
        have B1 := hid (B0.out.on b1)
        clear b1 H2 c0 c1 c2 c3
        obtain ⟨c0, c1, c2, c3⟩ := B1.out.flat
        go_wp2_with fail
        with_reducible refine (H4.out _).mono ?_
        rintro e w2 ⟨rfl, b2⟩
        have B2 := hid (B1.out.on b2).bel
        clear b2 H4
        go_wp2_with fail
        go_ret
        exact ⟨ret_str G.out.symm, B2.out⟩

set_option maxRecDepth 100000 in
theorem digitsOf_any (p : Option Addr) (n cap : Nat) (za : List Int) (B : Int) (up : Bool) (w : World) (ha : Arg w p n cap za) (hB : 2 ≤ B) (h36 : B ≤ 36) :
    Calls Tryz.prog 151 #[.slice p n cap, .int .i64 B, .bool up] w fun e w' => e = .returned (.tuple #[.string (strOfNums (if 4096 < Nm.tsize za then [] else Wh.dig B up (Nm.val za))), .int .i64 (if 4096 < Nm.tsize za then 2 else 0)]) ∧ Below w.heap.size w w' := by
  obtain ⟨L, hL, hbig, hzero⟩ := blen_big ha.2.2.2.2
  have BL := hid (bitLen_isT L p n cap za w ha hL)
  have hv := (Nm.tsize_zero_iff ha.2.2.2.2)
  by_cases h0 : Nm.tsize za = 0
  · have hL0 : (L : Int) = 0 := hzero.2 h0
    obtain rfl : L = 0 := by omega
    have G : Hid (strOfNums (Wh.dig B up (Nm.val za)) = ⟨#[]⟩) := by rw [Hid, Wh.dig, if_pos (hv.1 h0)]; rfl
    rw [if_neg (by omega), if_neg (by omega)]
    clear ha hL hbig hzero hv h0
    go_enter Tryz.func151, Tryz.ntmps151
    go_wp2_with fail
    with_reducible refine BL.out.mono ?_
    rintro e w' ⟨rfl, hw⟩
    rw [hw]
    clear hw w'
    go_wp2_with fail
    go_ret2
    exact ⟨ret_se G.out.symm rfl, Below.refl _ _⟩
  · have hL0 : ((L : Int) == 0) = false := by rw [beq_eq_false_iff_ne]; intro c; exact h0 (hzero.1 c)
    have hLi : (L : Int) ≠ 0 := by simpa using hL0
    have v0 : 0 < Nm.val za := by have := (Nm.val_bd za ha.2.2.2.2).1; omega
    have IB := hid (inBase_any p n cap za B up w ha (by omega) (by omega))
    have G : Hid (∀ s xs E, Str s xs → InIs za B up xs E → s = strOfNums (if 4096 < Nm.tsize za then [] else Wh.dig B up (Nm.val za)) ∧ E = if 4096 < Nm.tsize za then 2 else 0) := by
      intro s xs E hs hi
      by_cases hb : 4096 < Nm.tsize za
      · rw [if_pos hb, if_pos hb]
        cases hi with
        | big _ => exact ⟨str_is hs, rfl⟩
        | base q _ => omega
        | zero q _ _ => omega
        | ok _ _ q _ _ _ => omega
      · rw [if_neg hb, if_neg hb]
        obtain ⟨e1, e2⟩ := Wh.dig_is ha.2.2.2.2 v0 (by omega) hB h36 hi
        exact ⟨by rw [← e1]; exact str_is hs, e2⟩
    generalize (if 4096 < Nm.tsize za then [] else Wh.dig B up (Nm.val za)) = D at *
    generalize (if 4096 < Nm.tsize za then (2 : Int) else 0) = EE at *
    clear ha hL hbig hzero hv h0 v0
    go_enter Tryz.func151, Tryz.ntmps151
    go_wp2_with fail
    with_reducible refine BL.out.mono ?_
    rintro e w' ⟨rfl, hw⟩
    rw [hw]
    clear hw w'
    go_wp2_with fail
    with_reducible refine IB.out.mono ?_
    rintro e w1 ⟨s, xs, E, rfl, hs, hi, b1⟩
    obtain ⟨e1, e2⟩ := G.out s xs E hs hi
    have B1 := hid b1
    have E1 := hid e1
    have E2 := hid e2
    clear hs hi b1 e1 e2
    go_wp2_with fail
    go_ret2
    exact ⟨ret_se E1.out E2.out, B1.out⟩

def SigTold (V F W P : Int) (neg : Bool) (zs : List Int) (w : World) (e : Ending) (w' : World) : Prop := e = .returned (.tuple #[.string (strOfNums (Wh.sig V F W P neg zs)), .int .i64 (Wh.sigE V F W P (Nm.tsize zs))]) ∧ Below w.heap.size w w'

theorem isEmpty_nums (d : List Int) : (strOfNums d).toList.isEmpty = d.isEmpty := by
  rw [ByteArray.toList_eq, strOfNums_data]
  cases d <;> rfl

/-- The sign's answer where there is no number below nothing. -/
def below (neg : Bool) (v : Int) : Bool := neg && decide (v ≠ 0)

theorem dig_nil (B : Int) (up : Bool) (zs : List Int) (hz : Nm.Limbs zs) (h1 : Nm.tsize zs ≤ 4096) (hB : 2 ≤ B) (h36 : B ≤ 36) : (Wh.dig B up (Nm.val zs)).isEmpty = decide (Nm.val zs = 0) ∧ (Wh.dig B up (Nm.val zs)).length ≤ 262144 := by
  have v := (Nm.val_bd zs hz).1
  by_cases h : Nm.val zs = 0
  · rw [Wh.dig, if_pos h, decide_eq_true h]; exact ⟨rfl, by simp⟩
  · have g := Wh.dig_good (up := up) hz (by omega) h1 hB h36
    refine ⟨?_, g.len⟩
    rw [decide_eq_false h]
    cases e : Wh.dig B up (Nm.val zs) with
    | nil => exact absurd e g.ne
    | cons _ _ => rfl

theorem toList_nums (d : List Int) : ((strOfNums d).toList == []) = d.isEmpty := by
  rw [ByteArray.toList_eq, strOfNums_data]
  cases d <;> rfl
set_option maxRecDepth 100000 in
set_option maxHeartbeats 2000000 in
theorem wsigned_any (V F W P : Int) (neg : Bool) (p : Option Addr) (n cap : Nat) (zs : List Int) (w : World) (h0 : 0 ≤ V) (h1 : V < 256) (ha : Arg w p n cap zs) :
    Calls Tryz.prog 123 #[.agg #[.int .u8 V, .int .i64 F, .int .i64 W, .int .i64 P], .bool neg, .slice p n cap] w fun e w' => SigTold V F W P neg zs w e w' := by
  have B0 := hid (SB.new w V F W P)
  have CV := hid (fun W' => checkVerb_any V F W P ⟨#[100, 105]⟩ _ W' (vb_di V h0 h1))
  by_cases hV : V = 100 ∨ V = 105
  · rw [if_pos (decide_eq_true hV)] at CV
    by_cases hc : Wh.chk F W P = 0
    · obtain ⟨⟨f0, f1⟩, ⟨wl, wu⟩, ⟨p0, p1⟩⟩ := Wh.chk_ok hc
      rw [hc] at CV
      have DG := hid (fun W' (k : Below w.heap.size w W') => digitsOf_any p n cap zs 10 false W' (ha.below k (Nat.le_refl _)) (by omega) (by omega))
      have hE : Wh.sigE V F W P (Nm.tsize zs) = if 4096 < Nm.tsize zs then 2 else 0 := by rw [Wh.sigE, if_pos hV, if_pos hc]
      by_cases hb : 4096 < Nm.tsize zs
      · rw [if_pos hb] at hE
        rw [if_pos hb, if_pos hb] at DG
        have G : Hid (∀ w', Below w.heap.size w w' → SigTold V F W P neg zs w (.returned (.tuple #[.string ⟨#[]⟩, .int .i64 2])) w') := fun w' k => ⟨by rw [Wh.sig, hE, if_neg (by decide)]; rfl, k⟩
        clear ha hV hc hE hb f0 f1 wl wu p0 p1
        go_enter Tryz.func123, Tryz.ntmps123
        go_wp2_with fail
        with_reducible refine (CV.out _).mono ?_
        rintro e w1 ⟨rfl, b1⟩
        have B1 := hid (B0.out.on b1)
        clear b1 CV B0
        go_wp2_with fail
        with_reducible refine (DG.out _ B1.out.bel).mono ?_
        rintro e w2 ⟨rfl, b2⟩
        have R := hid (G.out _ (B1.out.on b2).bel)
        clear b2 DG B1
        go_wp2_with fail
        go_ret2
        exact R.out
      · rw [if_neg hb] at hE
        rw [if_neg hb, if_neg hb] at DG
        obtain ⟨di, dl⟩ := dig_nil 10 false zs ha.2.2.2.2 (by omega) (by omega) (by omega)
        have dy := Wh.dig_by 10 false (Nm.val zs)
        have FI := hid (fun W' => filled_any V F W P (Wh.dig 10 false (Nm.val zs)) W' p0 p1 dy dl)
        have SG := hid (fun W' => wsign_any V F W P (below neg (Nm.val zs)) W' f0 f1)
        have sl := Wh.sgn_len F (below neg (Nm.val zs))
        have fl := Wh.fil_len P (Wh.dig 10 false (Nm.val zs))
        have fl2 : (Wh.fil P (Wh.dig 10 false (Nm.val zs))).length ≤ 270000 := by rw [fl]; split <;> omega
        have PA := hid (fun W' => pad_any V F W P (Wh.sgn F (below neg (Nm.val zs))) (Wh.fil P (Wh.dig 10 false (Nm.val zs))) (decide (P = -1)) W' (Wh.sgn_by _ _) (Wh.fil_by dy) (by omega) (by omega))
        have pe : Wh.padE F W P (Wh.sgn F (below neg (Nm.val zs))) (Wh.fil P (Wh.dig 10 false (Nm.val zs))) = 0 := by rw [Wh.padE, if_pos hc, if_neg (by omega)]
        have G : Hid (∀ W' e w', PadTold F W P (decide (P = -1)) (Wh.sgn F (below neg (Nm.val zs))) (Wh.fil P (Wh.dig 10 false (Nm.val zs))) W' e w' → Below w.heap.size w W' → ∃ s, e = .returned (.tuple #[.string s, .int .i64 0]) ∧ SigTold V F W P neg zs w (.returned (.tuple #[.string s, .int .i64 0])) w') := by
          rintro W' e w' ⟨rfl, k⟩ b
          rw [pe]
          exact ⟨_, rfl, by rw [Wh.sig, hE, if_pos rfl, Wh.pad, if_pos pe]; rfl, below_on b k⟩
        have DI := isEmpty_nums (Wh.dig 10 false (Nm.val zs))
        have DJ := toList_nums (Wh.dig 10 false (Nm.val zs))
        rw [di] at DI DJ
        have NEG : (neg && !decide (Nm.val zs = 0)) = below neg (Nm.val zs) := by unfold below; simp
        have ep : (P == -1) = decide (P = -1) := by by_cases h : P = -1 <;> simp [h]
        clear ha hV hc hE hb f0 f1 wl wu di dl dy sl fl fl2 pe h0 h1
        generalize Wh.dig 10 false (Nm.val zs) = D at *
        generalize Wh.fil P D = FD at *
        generalize decide (Nm.val zs = 0) = z0 at *
        generalize below neg (Nm.val zs) = bl at *
        generalize Wh.sgn F bl = SN at *
        generalize decide (P = -1) = ez at *
        go_enter Tryz.func123, Tryz.ntmps123
        go_wp2_with fail
        with_reducible refine (CV.out _).mono ?_
        rintro e w1 ⟨rfl, b1⟩
        have B1 := hid (B0.out.on b1)
        clear b1 CV B0
        go_wp2_with fail
        with_reducible refine (DG.out _ B1.out.bel).mono ?_
        rintro e w2 ⟨rfl, b2⟩
        have B2 := hid (B1.out.on b2)
        clear b2 DG B1
        obtain ⟨c0, c1, c2, c3⟩ := B2.out.flat
        cases neg with
        | true =>
          have NEG2 : bl = !z0 := by simpa using NEG.symm
          subst NEG2
          clear NEG
          go_wp2_with fail
          with_reducible refine (SG.out _).mono ?_
          rintro e w3 ⟨rfl, b3⟩
          have B3 := hid (B2.out.on b3)
          clear b3 SG B2 c0 c1 c2 c3
          go_upto_region 8 with fail
          have T1 := hid B3.out.drew
          go_region_held3 (fun wx => wx.cell? ⟨w.heap.size, 0, none⟩ = some (.int .u8 V) ∧ wx.cell? ⟨w.heap.size, 1, none⟩ = some (.int .i64 F) ∧ wx.cell? ⟨w.heap.size, 2, none⟩ = some (.int .i64 W) ∧ wx.cell? ⟨w.heap.size, 3, none⟩ = some (.int .i64 P)) (first | (with_reducible exact T3.out.flat) | (with_reducible exact T2.out.flat) | (with_reducible exact T1.out.flat)) (first
            | (go_at_call 153; with_reducible refine (FI.out _).mono ?_; rintro e wa ⟨rfl, hB⟩; have T2 := hid (T1.out.on hB); clear hB)
            | (go_at_call 31; with_reducible refine (PA.out _).mono ?_; rintro e wb hP; have T3 := hid (T2.out.on hP.bel); obtain ⟨s, rfl, R⟩ := G.out _ _ _ hP T2.out.bel; have R := hid R; clear hP))
          go_wp2_with fail
          go_ret2
          exact R.out
        | false =>
          have NEG2 : bl = false := by simpa using NEG.symm
          subst NEG2
          clear NEG
          go_wp2_with fail
          with_reducible refine (SG.out _).mono ?_
          rintro e w3 ⟨rfl, b3⟩
          have B3 := hid (B2.out.on b3)
          clear b3 SG B2 c0 c1 c2 c3
          go_upto_region 8 with fail
          have T1 := hid B3.out.drew
          go_region_held3 (fun wx => wx.cell? ⟨w.heap.size, 0, none⟩ = some (.int .u8 V) ∧ wx.cell? ⟨w.heap.size, 1, none⟩ = some (.int .i64 F) ∧ wx.cell? ⟨w.heap.size, 2, none⟩ = some (.int .i64 W) ∧ wx.cell? ⟨w.heap.size, 3, none⟩ = some (.int .i64 P)) (first | (with_reducible exact T3.out.flat) | (with_reducible exact T2.out.flat) | (with_reducible exact T1.out.flat)) (first
            | (go_at_call 153; with_reducible refine (FI.out _).mono ?_; rintro e wa ⟨rfl, hB⟩; have T2 := hid (T1.out.on hB); clear hB)
            | (go_at_call 31; with_reducible refine (PA.out _).mono ?_; rintro e wb hP; have T3 := hid (T2.out.on hP.bel); obtain ⟨s, rfl, R⟩ := G.out _ _ _ hP T2.out.bel; have R := hid R; clear hP))
          go_wp2_with fail
          go_ret2
          exact R.out
    · have hE : Wh.sigE V F W P (Nm.tsize zs) = Wh.chk F W P := by rw [Wh.sigE, if_pos hV, if_neg hc]
      have G : Hid (∀ w', Below w.heap.size w w' → SigTold V F W P neg zs w (.returned (.tuple #[.string ⟨#[]⟩, .int .i64 (Wh.chk F W P)])) w') := fun w' k => ⟨by rw [Wh.sig, hE, if_neg hc]; rfl, k⟩
      have hne : (Wh.chk F W P == 0) = false := by simpa using hc
      clear hc hE ha hV
      generalize Wh.chk F W P = E at *
      go_enter Tryz.func123, Tryz.ntmps123
      go_wp2_with fail
      refine (CV.out _).mono ?_
      rintro e w1 ⟨rfl, b1⟩
      have R := hid (G.out _ (B0.out.on b1).bel)
      clear b1 CV
      go_wp2_with fail
      go_ret2
      exact R.out
  · rw [if_neg (by simpa using hV)] at CV
    have hE : Wh.sigE V F W P (Nm.tsize zs) = 140 := by rw [Wh.sigE, if_neg hV]
    have G : Hid (∀ w', Below w.heap.size w w' → SigTold V F W P neg zs w (.returned (.tuple #[.string ⟨#[]⟩, .int .i64 140])) w') := fun w' k => ⟨by rw [Wh.sig, hE, if_neg (by decide)]; rfl, k⟩
    clear ha hV hE
    go_enter Tryz.func123, Tryz.ntmps123
    go_wp2_with fail
    refine (CV.out _).mono ?_
    rintro e w1 ⟨rfl, b1⟩
    have R := hid (G.out _ (B0.out.on b1).bel)
    clear b1 CV
    go_wp2_with fail
    go_ret2
    exact R.out
end Go.Proofs.YtaoaniigbooihaaGreatDoor

namespace Go.Proofs.YtaoaniigbooihaaGreatDoor
open Go Go.RowKit Go.Deep Go.Shelf

/-- A flag, of any number. -/
def Po.hb (F k : Int) : Bool := bits .and .i64 F k != 0
theorem Po.hb_is {F k : Int} (h0 : 0 ≤ F) (h1 : F ≤ 31) (hk : k = 1 ∨ k = 2 ∨ k = 4 ∨ k = 8 ∨ k = 16) : Po.hb F k = Wh.bit F k := by
  unfold Po.hb
  rcases bit_and F k h0 h1 hk with ⟨e, q⟩ | ⟨e, q⟩
  · rw [e, q]; rfl
  · rw [q]; simpa using e
def Po.sx (F : Int) (n : Bool) : List Int := if n = true then [45] else if Po.hb F 2 = true then [43] else if Po.hb F 4 = true then [32] else []
theorem Po.sx_is {F : Int} (n : Bool) (h0 : 0 ≤ F) (h1 : F ≤ 31) : Po.sx F n = Wh.sgn F n := by
  unfold Po.sx Wh.sgn
  rw [Po.hb_is h0 h1 (by omega), Po.hb_is h0 h1 (by omega)]
theorem Po.sx_by (F : Int) (n : Bool) : Wh.By (Po.sx F n) ∧ (Po.sx F n).length ≤ 1 := by
  unfold Po.sx
  split
  · exact ⟨fun x hx => by simp at hx; omega, by simp⟩
  · split
    · exact ⟨fun x hx => by simp at hx; omega, by simp⟩
    · split
      · exact ⟨fun x hx => by simp at hx; omega, by simp⟩
      · exact ⟨Wh.By.nil, by simp⟩

set_option maxRecDepth 100000 in
theorem phas_any (V F W P k : Int) (w : World) :
    Calls Tryz.prog 59 #[.agg #[.int .u8 V, .int .i64 F, .int .i64 W, .int .i64 P], .int .i64 k] w fun e w' => e = .returned (.bool (Po.hb F k)) ∧ Below w.heap.size w w' := by
  have B := hid (alloc_b w (.cells #[.int .u8 V, .int .i64 F, .int .i64 W, .int .i64 P] 25))
  go_enter Tryz.func59, Tryz.ntmps59
  go_wp2_with fail
  go_ret
  exact ⟨rfl, B.out⟩

set_option maxRecDepth 100000 in
theorem cap_ix (V : Int) (h0 : 0 ≤ V) (h1 : V < 256) : decide (0 ≤ Lib.indexByte (⟨#[69, 70, 71, 88]⟩ : ByteArray).data.toList V.toNat.toUInt8) = Po.cap V := by
  have key : ∀ t : Fin 256, decide (0 ≤ Lib.indexByte [69, 70, 71, 88] (t.val : Int).toNat.toUInt8) = Po.cap (t.val : Int) := by decide
  have := key ⟨V.toNat, by omega⟩
  simp only at this
  rw [show ((V.toNat : Nat) : Int) = V by omega] at this
  exact this
set_option maxRecDepth 100000 in
theorem ok_ix (V : Int) (h0 : 0 ≤ V) (h1 : V < 256) : decide (Lib.indexByte (⟨#[101, 69, 102, 70, 103, 71]⟩ : ByteArray).data.toList V.toNat.toUInt8 < 0) = !Po.okV V := by
  have key : ∀ t : Fin 256, decide (Lib.indexByte [101, 69, 102, 70, 103, 71] (t.val : Int).toNat.toUInt8 < 0) = !Po.okV (t.val : Int) := by decide
  have := key ⟨V.toNat, by omega⟩
  simp only at this
  rw [show ((V.toNat : Nat) : Int) = V by omega] at this
  exact this

set_option maxRecDepth 100000 in
theorem pcap_any (V : Int) (w : World) (h0 : 0 ≤ V) (h1 : V < 256) :
    Calls Tryz.prog 81 #[.int .u8 V] w fun e w' => e = .returned (.bool (Po.cap V)) ∧ w' = w := by
  have IX := hid (fun w => Any.strings_IndexByte idxLays ⟨#[69, 70, 71, 88]⟩ V w)
  have E := hid (cap_ix V h0 h1)
  generalize Lib.indexByte (⟨#[69, 70, 71, 88]⟩ : ByteArray).data.toList V.toNat.toUInt8 = x at *
  clear h0 h1
  go_enter Tryz.func81, Tryz.ntmps81
  go_wp2_with (go_at_call 30; refine (IX.out _).mono ?_; rintro e w2 ⟨rfl, rfl⟩)
  go_ret
  exact ⟨fretB E.out, rfl⟩

set_option maxRecDepth 100000 in
theorem pfin_any (d : Int) (w : World) (h0 : 0 ≤ d) (h1 : d < 18446744073709551616) :
    Calls Tryz.prog 47 #[.int .u64 d] w fun e w' => e = .returned (.bool (Ie.fnt d)) ∧ w' = w := by
  have C := hid (class_any d w h0 h1)
  have E : Hid (Ie.fnt d = decide (Ie.cls d < 3)) := rfl
  generalize Ie.cls d = c at *
  go_enter Tryz.func47, Tryz.ntmps47
  go_wp2_with fail
  refine C.out.mono ?_
  rintro e w' ⟨rfl, rfl⟩
  go_wp2_with fail
  go_ret
  exact ⟨fretB E.out.symm, rfl⟩

set_option maxRecDepth 100000 in
theorem psign_any (V F W P d : Int) (w : World) (h0 : 0 ≤ d) (h1 : d < 18446744073709551616) :
    Calls Tryz.prog 32 #[.agg #[.int .u8 V, .int .i64 F, .int .i64 W, .int .i64 P], .int .u64 d] w fun e w' => e = .returned (.string (strOfNums (Po.sx F (Po.ng d)))) ∧ Below w.heap.size w w' := by
  have B := hid (SB.new w V F W P)
  have DC := hid (fun wx => decode_any d wx h0 h1)
  have H2 := hid (fun W' => phas_any V F W P 2 W')
  have H4 := hid (fun W' => phas_any V F W P 4 W')
  unfold partsOf at DC
  have E : Hid (Po.sx F (Po.ng d) = if Po.ng d = true then [45] else if Po.hb F 2 = true then [43] else if Po.hb F 4 = true then [32] else []) := rfl
  rw [← Po.ng] at DC
  generalize Po.ng d = n at *
  generalize Po.hb F 2 = b2 at *
  generalize Po.hb F 4 = b4 at *
  generalize Po.sx F n = R at *
  generalize Ie.cls d = c at *
  generalize Ie.dm d = m at *
  generalize Ie.de d = ee at *
  have FD : ∀ wx : World, (Instr.field 95 (.agg #[.bool n, .int .i64 c, .int .u64 m, .int .i64 ee]) 0).run Tryz.prog wx = .ok (.bool n) wx := fun _ => by kernel_rfl
  clear h0 h1
  cases n with
  | true =>
    have E2 : Hid (strOfNums [45] = strOfNums R) := by rw [Hid, E.out]; rfl
    clear E
    go_enter Tryz.func32, Tryz.ntmps32
    go_wp2_with fail
    refine (DC.out _).mono ?_
    rintro e w1 ⟨rfl, b1⟩
    have B1 := hid (B.out.on b1)
    clear b1 B
    go_wp2_with fail
    go_ret
    exact ⟨ret_str E2.out, B1.out.bel⟩
  | false =>
    cases b2 with
    | true =>
      have E2 : Hid (strOfNums [43] = strOfNums R) := by rw [Hid, E.out]; rfl
      clear E
      go_enter Tryz.func32, Tryz.ntmps32
      go_wp2_with fail
      refine (DC.out _).mono ?_
      rintro e w1 ⟨rfl, b1⟩
      have B1 := hid (B.out.on b1)
      clear b1 B
      obtain ⟨c0, c1, c2, c3⟩ := B1.out.flat
      go_wp2_with fail
      refine (H2.out _).mono ?_
      rintro e w2 ⟨rfl, b2⟩
      have B2 := hid (B1.out.on b2)
      clear b2 B1 c0 c1 c2 c3
      go_wp2_with fail
      go_ret
      exact ⟨ret_str E2.out, B2.out.bel⟩
    | false =>
      have E2 : Hid ((b4 = true → strOfNums [32] = strOfNums R) ∧ (b4 = false → strOfNums [] = strOfNums R)) := by
        constructor
        · rintro rfl; rw [E.out]; rfl
        · rintro rfl; rw [E.out]; rfl
      clear E
      go_enter Tryz.func32, Tryz.ntmps32
      go_wp2_with fail
      refine (DC.out _).mono ?_
      rintro e w1 ⟨rfl, b1⟩
      have B1 := hid (B.out.on b1)
      clear b1 B
      obtain ⟨c0, c1, c2, c3⟩ := B1.out.flat
      go_wp2_with fail
      refine (H2.out _).mono ?_
      rintro e w2 ⟨rfl, b2⟩
      have B2 := hid (B1.out.on b2)
      clear b2 B1 c0 c1 c2 c3
      obtain ⟨c0, c1, c2, c3⟩ := B2.out.flat
      go_wp2_with fail
      refine (H4.out _).mono ?_
      rintro e w3 ⟨rfl, b3⟩
      have B3 := hid (B2.out.on b3)
      clear b3 B2 c0 c1 c2 c3
      cases b4 with
      | true =>
        have E3 := hid (E2.out.1 rfl)
        clear E2
        go_wp2_with fail
        go_ret
        exact ⟨ret_str E3.out, B3.out.bel⟩
      | false =>
        have E3 := hid (E2.out.2 rfl)
        clear E2
        go_wp2_with fail
        go_ret
        exact ⟨ret_str E3.out, B3.out.bel⟩

/-- A short name in capitals. -/
theorem pup_any (xs ys : List Int) (w : World) (h : (xs, ys) = ([], []) ∨ (xs, ys) = ([105, 110, 102], [73, 78, 70]) ∨ (xs, ys) = ([110, 97, 110], [78, 65, 78])) :
    Calls Tryz.prog 82 #[.string (strOfNums xs)] w fun e w' => e = .returned (.string (strOfNums ys)) ∧ Below w.heap.size w w' := by
  have ha : ∀ (j : Nat) (b : UInt8), (strOfNums xs).data.toList[j]? = some b → b.toNat < 128 := by
    intro j b hb
    have hm := List.mem_of_getElem? hb
    rcases h with h | h | h
    · obtain ⟨rfl, rfl⟩ := Prod.mk.inj h
      simp [strOfNums] at hm
    · obtain ⟨rfl, rfl⟩ := Prod.mk.inj h
      simp [strOfNums] at hm
      rcases hm with rfl | rfl | rfl <;> decide
    · obtain ⟨rfl, rfl⟩ := Prod.mk.inj h
      simp [strOfNums] at hm
      rcases hm with rfl | rfl | rfl <;> decide
  refine (Any.strings_ToUpper_ascii upLays jExtra (strOfNums xs) w (by rw [strOfNums_size]; rcases h with h | h | h <;> (obtain ⟨rfl, rfl⟩ := Prod.mk.inj h; simp)) ha).mono ?_
  rintro e w' ⟨rfl, k⟩
  refine ⟨ret_str ?_, k⟩
  rcases h with h | h | h <;> (obtain ⟨rfl, rfl⟩ := Prod.mk.inj h; decide)

set_option maxRecDepth 100000 in
theorem pname_any (V d : Int) (w : World) (v0 : 0 ≤ V) (v1 : V < 256) (h0 : 0 ≤ d) (h1 : d < 18446744073709551616) :
    Calls Tryz.prog 46 #[.int .u8 V, .int .u64 d] w fun e w' => e = .returned (.string (strOfNums (Po.nm (Po.cap V) (Ie.cls d)))) ∧ Below w.heap.size w w' := by
  have C := hid (fun wx => class_any d wx h0 h1)
  have CP := hid (fun wx => pcap_any V wx v0 v1)
  have U0 : Hid (∀ wx, Calls Tryz.prog 82 #[.string ⟨#[]⟩] wx fun e w' => e = .returned (.string (strOfNums [])) ∧ Below wx.heap.size wx w') := fun wx => pup_any [] [] wx (.inl rfl)
  have U1 : Hid (∀ wx, Calls Tryz.prog 82 #[.string ⟨#[105, 110, 102]⟩] wx fun e w' => e = .returned (.string (strOfNums [73, 78, 70])) ∧ Below wx.heap.size wx w') := fun wx => pup_any [105, 110, 102] [73, 78, 70] wx (.inr (.inl rfl))
  have U2 : Hid (∀ wx, Calls Tryz.prog 82 #[.string ⟨#[110, 97, 110]⟩] wx fun e w' => e = .returned (.string (strOfNums [78, 65, 78])) ∧ Below wx.heap.size wx w') := fun wx => pup_any [110, 97, 110] [78, 65, 78] wx (.inr (.inr rfl))
  have E : ∀ (b : Bool) (k : Int), Hid (Po.nm b k = if k = 3 then (if b = true then [73, 78, 70] else [105, 110, 102]) else if k = 4 then (if b = true then [78, 65, 78] else [110, 97, 110]) else []) := fun _ _ => rfl
  have E := E (Po.cap V) (Ie.cls d)
  generalize Ie.cls d = c at *
  generalize Po.cap V = b at *
  generalize Po.nm b c = R at *
  clear h0 h1 v0 v1
  by_cases c3 : c = 3
  · subst c3
    cases b with
    | true =>
      have E2 : Hid (strOfNums [73, 78, 70] = strOfNums R) := by rw [Hid, E.out]; rfl
      clear E
      go_enter Tryz.func46, Tryz.ntmps46
      go_wp2_with (first | (go_at_call 71; refine (C.out _).mono ?_; rintro e w' ⟨rfl, hw⟩; rw [hw]; clear hw w') | (go_at_call 81; refine (CP.out _).mono ?_; rintro e w' ⟨rfl, hw⟩; rw [hw]; clear hw w'))
      refine (U1.out _).mono ?_
      rintro e w1 ⟨rfl, b1⟩
      have B1 := hid b1
      clear b1
      go_wp2_with fail
      go_ret
      exact ⟨ret_str E2.out, B1.out⟩
    | false =>
      have E2 : Hid (strOfNums [105, 110, 102] = strOfNums R) := by rw [Hid, E.out]; rfl
      clear E
      go_enter Tryz.func46, Tryz.ntmps46
      go_wp2_with (first | (go_at_call 71; refine (C.out _).mono ?_; rintro e w' ⟨rfl, hw⟩; rw [hw]; clear hw w') | (go_at_call 81; refine (CP.out _).mono ?_; rintro e w' ⟨rfl, hw⟩; rw [hw]; clear hw w'))
      go_ret
      exact ⟨ret_str E2.out, Below.refl _ _⟩
  · by_cases c4 : c = 4
    · subst c4
      cases b with
      | true =>
        have E2 : Hid (strOfNums [78, 65, 78] = strOfNums R) := by rw [Hid, E.out]; rfl
        clear E
        go_enter Tryz.func46, Tryz.ntmps46
        go_wp2_with (first | (go_at_call 71; refine (C.out _).mono ?_; rintro e w' ⟨rfl, hw⟩; rw [hw]; clear hw w') | (go_at_call 81; refine (CP.out _).mono ?_; rintro e w' ⟨rfl, hw⟩; rw [hw]; clear hw w'))
        refine (U2.out _).mono ?_
        rintro e w1 ⟨rfl, b1⟩
        have B1 := hid b1
        clear b1
        go_wp2_with fail
        go_ret
        exact ⟨ret_str E2.out, B1.out⟩
      | false =>
        have E2 : Hid (strOfNums [110, 97, 110] = strOfNums R) := by rw [Hid, E.out]; rfl
        clear E
        go_enter Tryz.func46, Tryz.ntmps46
        go_wp2_with (first | (go_at_call 71; refine (C.out _).mono ?_; rintro e w' ⟨rfl, hw⟩; rw [hw]; clear hw w') | (go_at_call 81; refine (CP.out _).mono ?_; rintro e w' ⟨rfl, hw⟩; rw [hw]; clear hw w'))
        go_ret
        exact ⟨ret_str E2.out, Below.refl _ _⟩
    · have k3 : (c == 3) = false := by simpa using c3
      have k4 : (c == 4) = false := by simpa using c4
      have E2 : Hid (strOfNums [] = strOfNums R) := by rw [Hid, E.out, if_neg c3, if_neg c4]
      clear E c3 c4
      cases b with
      | true =>
        go_enter Tryz.func46, Tryz.ntmps46
        go_wp2_with (first | (go_at_call 71; refine (C.out _).mono ?_; rintro e w' ⟨rfl, hw⟩; rw [hw]; clear hw w') | (go_at_call 81; refine (CP.out _).mono ?_; rintro e w' ⟨rfl, hw⟩; rw [hw]; clear hw w'))
        refine (U0.out _).mono ?_
        rintro e w1 ⟨rfl, b1⟩
        have B1 := hid b1
        clear b1
        go_wp2_with fail
        go_ret
        exact ⟨ret_str E2.out, B1.out⟩
      | false =>
        go_enter Tryz.func46, Tryz.ntmps46
        go_wp2_with (first | (go_at_call 71; refine (C.out _).mono ?_; rintro e w' ⟨rfl, hw⟩; rw [hw]; clear hw w') | (go_at_call 81; refine (CP.out _).mono ?_; rintro e w' ⟨rfl, hw⟩; rw [hw]; clear hw w'))
        go_ret
        exact ⟨ret_str E2.out, Below.refl _ _⟩
end Go.Proofs.YtaoaniigbooihaaGreatDoor
