/-
  law08: is, moved, turned.
-/
import Derived.Test.YtjghlpkjbfaoiaaDoorVCmp2
namespace Go.Proofs.YtjghlpkjbfaoiaaDoor
open Go Go.RowKit Go.Deep

/-- What 'is' has counted: z zeros at the end of the first i digits. -/
structure Cnt (xs : List Int) (i z : Nat) : Prop where
  le : i ≤ xs.length
  zle : z ≤ i
  dig : ∀ t, t < i → Sc.dg (Sc.pk xs t) = true
  tail : ∀ t, i - z ≤ t → t < i → Sc.pk xs t = 48
  last : z < i → Sc.pk xs (i - z - 1) ≠ 48

theorem Cnt.zero {xs : List Int} {i z : Nat} (h : Cnt xs i z) (hi : i < xs.length) (hx : Sc.pk xs i = 48) : Cnt xs (i + 1) (z + 1) := by
  refine ⟨by omega, by have := h.zle; omega, fun t ht => ?_, fun t h1 h2 => ?_, fun hz => ?_⟩
  · by_cases c : t = i
    · subst c; rw [hx]; rfl
    · exact h.dig t (by omega)
  · by_cases c : t = i
    · subst c; exact hx
    · exact h.tail t (by omega) (by omega)
  · rw [show i + 1 - (z + 1) - 1 = i - z - 1 by omega]; exact h.last (by omega)
theorem Cnt.other {xs : List Int} {i z : Nat} (h : Cnt xs i z) (hi : i < xs.length) (hd : Sc.dg (Sc.pk xs i) = true) (hx : Sc.pk xs i ≠ 48) : Cnt xs (i + 1) 0 := by
  refine ⟨by omega, by omega, fun t ht => ?_, fun t h1 h2 => by omega, fun hz => hx⟩
  by_cases c : t = i
  · subst c; exact hd
  · exact h.dig t (by omega)
theorem Cnt.is {xs : List Int} {z : Nat} {e : Int} (h : Cnt xs xs.length z) (h1 : xs ≠ []) (h2 : -1152921504606846976 ≤ e) (h3 : e ≤ 1152921504606846976) : decide (Sc.IsDec xs e) = (decide (z = xs.length) || decide (e ≤ 1152921504606846976 - (z : Int))) := by
  have ht : Sc.tz xs = z := by
    have := Sc.tz_is (ds := xs) (k := xs.length - z) (by omega) (fun i a b => h.tail i a b) (fun c => h.last (by omega))
    rw [this]; have := h.zle; omega
  have hl : Sc.lz xs = xs.length ↔ z = xs.length := by
    constructor
    · intro c
      rcases Nat.lt_or_ge z xs.length with d | d
      · exact absurd (Sc.lz_at (by omega)) (h.last d)
      · have := h.zle; omega
    · intro c
      have := Sc.nrm_of_none (neg := false) (ds := xs) (e := 0) (fun i hi => h.tail i (by omega) hi)
      rcases Nat.lt_or_ge (Sc.lz xs) xs.length with d | d
      · exact absurd (h.tail _ (by omega) d) (Sc.lz_end xs)
      · have := Sc.lz_le xs; omega
  have hall : ∀ x ∈ xs, Sc.dg x = true := by
    intro x hx
    obtain ⟨i, hi, rfl⟩ := List.mem_iff_getElem.1 hx
    have := h.dig i hi
    simpa [Sc.pk, List.getD, hi] using this
  rw [Bool.eq_iff_iff]
  simp only [decide_eq_true_eq, Bool.or_eq_true]
  constructor
  · intro k
    by_cases c : z = xs.length
    · exact .inl c
    · have := k.2.2.2.2 (fun d => c (hl.1 d)); rw [ht] at this; exact .inr (by omega)
  · intro k
    refine ⟨h1, h2, h3, hall, fun d => ?_⟩
    rcases k with k | k
    · exact absurd (hl.2 k) d
    · rw [ht]; omega

set_option maxRecDepth 100000 in
set_option maxHeartbeats 2000000 in
theorem is_any (neg : Bool) (s : ByteArray) (xs : List Int) (e : Int) (w : World) (hs : Str s xs) (hn : xs.length ≤ 281474976710656) :
    Calls Tryd.prog 22 #[decV neg s e] w fun r w' => r = .returned (.bool (decide (Sc.IsDec xs e))) ∧ Below w.heap.size w w' := by
  have B := hid (alloc_b w (.cells #[.bool neg, .string s, .int .i64 e] 29))
  have ZF : Hid (¬ Sc.IsDec xs e → ∀ w', Below w.heap.size w w' → Ending.returned (.bool false) = .returned (.bool (decide (Sc.IsDec xs e))) ∧ Below w.heap.size w w') := fun z w' b => ⟨by rw [decide_eq_false z], b⟩
  have hsz := hs.size
  by_cases h1 : xs = []
  · have Z2 := hid (ZF.out fun c => c.1 h1)
    have hs0 : s = ⟨#[]⟩ := hs.inj (by rw [h1]; rfl)
    subst hs0
    clear hs h1 ZF hn
    unfold decV
    go_enter Tryd.func22, Tryd.ntmps22
    go_wp2_with fail
    go_ret
    exact Z2.out _ B.out
  · obtain ⟨q1, q2, q3⟩ := hs.ne h1
    by_cases h2 : -1152921504606846976 ≤ e ∧ e ≤ 1152921504606846976
    · obtain ⟨e0, e1⟩ := h2
      have IN : Hid (∀ j, j < xs.length → Sc.dg (Sc.pk xs j) = false → ¬ Sc.IsDec xs e) := fun j hj hd c => by
        have := c.2.2.2.1 (Sc.pk xs j) (by simp [Sc.pk, List.getD, hj])
        rw [hd] at this; exact absurd this (by simp)
      have FN : Hid (∀ z, Cnt xs xs.length z → decide (Sc.IsDec xs e) = (decide (z = xs.length) || decide (e ≤ 1152921504606846976 - (z : Int)))) := fun z h => h.is h1 e0 e1
      have HS := hid hs
      have HN := hid hn
      clear hs hn h1
      unfold decV
      go_enter Tryd.func22, Tryd.ntmps22
      go_wp2_with fail
      go_loop [3, 4, 5] (fun z sm i => ∃ (j k : Nat) (b : Bool), z = .int .i64 k ∧ i = .int .i64 j ∧ sm = .bool b ∧ Hid (Cnt xs j k ∧ b = decide (k < j))) (fun _ _ i => match i with | .int _ j => xs.length - j.toNat | _ => 0)
      case atStart => exact ⟨0, 0, false, rfl, rfl, rfl, ⟨Nat.zero_le _, Nat.le_refl _, fun t ht => by omega, fun t _ ht => by omega, fun h => by omega⟩, rfl⟩
      case round =>
        obtain ⟨j, k, b, rfl, rfl, rfl, I⟩ := hrel
        have hjb : (j : Int) ≤ 281474976710656 := by have := I.out.1.le; have := HN.out; omega
        have hkb : (k : Int) ≤ 281474976710656 := by have := I.out.1.zle; omega
        by_cases hj : j < xs.length
        · have hji : (j : Int) < (xs.length : Int) := by omega
          have hx := HS.out.pk j
          have xb : 0 ≤ Sc.pk xs j ∧ Sc.pk xs j < 256 := HS.out.atb j
          cases hd : Sc.dg (Sc.pk xs j) with
          | true =>
            have hd2 := Sc.dg_iff.1 hd
            by_cases h48 : Sc.pk xs j = 48
            · have I2 : Hid (Cnt xs (j + 1) (k + 1) ∧ b = decide (k + 1 < j + 1)) := ⟨I.out.1.zero hj h48, by rw [I.out.2]; simp⟩
              clear hd I
              rw [h48] at hx
              go_wp2_with fail
              go_round
              case rel => exact ⟨j + 1, k + 1, b, by go_num, by go_num, rfl, I2.out⟩
              case measure => simp; omega
            · have I2 : Hid (Cnt xs (j + 1) 0 ∧ true = decide (0 < j + 1)) := ⟨I.out.1.other hj hd h48, by simp⟩
              have r1 : (Sc.pk xs j != 48) = true := by simpa using h48
              clear hd I
              generalize Sc.pk xs j = x at *
              go_wp2_with fail
              go_round
              case rel => exact ⟨j + 1, 0, true, rfl, by go_num, rfl, I2.out⟩
              case measure => simp; omega
          | false =>
            have hd2 := Sc.dg_not.1 hd
            have Z2 := hid (ZF.out (IN.out j hj hd))
            have hd3 : Sc.pk xs j < 48 ∨ (48 ≤ Sc.pk xs j ∧ 57 < Sc.pk xs j) := by omega
            clear hd hd2
            generalize Sc.pk xs j = x at *
            rcases hd3 with hd3 | ⟨hd3, hd4⟩
            all_goals (go_wp2_with fail; go_ret; exact Z2.out _ B.out)
        · have hji : ¬ (j : Int) < (xs.length : Int) := by omega
          have hjn : j = xs.length := by have := I.out.1.le; omega
          have E := hid (FN.out k (by rw [← hjn]; exact I.out.1))
          have E2 : Hid (b = !decide (k = xs.length)) := by
            show _ = _
            rw [I.out.2, ← hjn]
            have := I.out.1.zle
            by_cases c : k = j
            · subst c; simp
            · rw [decide_eq_true (by omega), decide_eq_false c]; rfl
          have FIN : Hid (∀ v : Bool, v = (!b || decide (e ≤ 1152921504606846976 - (k : Int))) → ∀ w', Below w.heap.size w w' → Ending.returned (.bool v) = .returned (.bool (decide (Sc.IsDec xs e))) ∧ Below w.heap.size w w') := fun v hv w' bb => ⟨by rw [E.out, hv, E2.out]; simp, bb⟩
          clear I E E2 hjn FN
          cases b with
          | true =>
            go_wp2_with fail
            go_ret
            exact FIN.out _ (by simp) _ B.out
          | false =>
            go_wp2_with fail
            go_ret
            exact FIN.out _ (by simp) _ B.out
    · have Z2 := hid (ZF.out fun c => h2 ⟨c.2.1, c.2.2.1⟩)
      rcases (show e < -1152921504606846976 ∨ (-1152921504606846976 ≤ e ∧ 1152921504606846976 < e) by omega) with he | ⟨he0, he⟩
      all_goals
        clear hs hn h1 ZF h2
        unfold decV
        go_enter Tryd.func22, Tryd.ntmps22
        go_wp2_with fail
        go_ret
        exact Z2.out _ B.out

theorem moved_any (neg : Bool) (s : ByteArray) (e k : Int) (w : World) (h0 : -2305843009213693952 ≤ e) (h1 : e ≤ 2305843009213693952) (k0 : 0 ≤ k) (k1 : k ≤ 2305843009213693952) :
    Calls Tryd.prog 23 #[.agg #[.bool neg, .string s, .int .i64 e], .int .i64 k] w fun r w' => r = .returned (.agg #[.bool neg, .string s, .int .i64 (e + k)]) ∧ Below w.heap.size w w' := by
  go_enter Tryd.func23, Tryd.ntmps23
  go_wp2_with fail
  (try simp only [Exit.inBlock, Exit.then])
  refine bodyPost_ret (results_cell_row rfl _ _ (w.heap.size + 1) 29 _ (0, 0) _ rfl (Two3.new w _ _ _ _ _ _).2.2 Tryd.underlying29 rfl (by kernel_rfl)) rfl ?_
  exact ⟨rfl, (Two3.new w _ _ _ _ _ _).1⟩

theorem turned_any (neg : Bool) (s : ByteArray) (e : Int) (w : World) :
    Calls Tryd.prog 24 #[.agg #[.bool neg, .string s, .int .i64 e]] w fun r w' => r = .returned (.agg #[.bool (!neg), .string s, .int .i64 e]) ∧ Below w.heap.size w w' := by
  go_enter Tryd.func24, Tryd.ntmps24
  go_wp2_with fail
  (try simp only [Exit.inBlock, Exit.then])
  refine bodyPost_ret (results_cell_row rfl _ _ (w.heap.size + 1) 29 _ (0, 0) _ rfl (Two3.new w _ _ _ _ _ _).2.2 Tryd.underlying29 rfl (by kernel_rfl)) rfl ?_
  exact ⟨rfl, (Two3.new w _ _ _ _ _ _).1⟩
end Go.Proofs.YtjghlpkjbfaoiaaDoor
