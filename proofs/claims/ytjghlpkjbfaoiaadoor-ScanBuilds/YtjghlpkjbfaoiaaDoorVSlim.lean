/-
  scan's slim, Norm, sign, cmp.Compare at int.
-/
import Derived.Test.YtjghlpkjbfaoiaaDoorVNumb
import Derived.Test.YtjghlpkjbfaoiaaDoorVCompare
namespace Go.Proofs.YtjghlpkjbfaoiaaDoor
open Go Go.RowKit Go.Deep

/-- What slim, and Norm, tell of a Dec. -/
def nmd (neg : Bool) (ds : List Int) (e : Int) : Sc.D := if Sc.IsDec ds e then Sc.nrm neg ds e else ⟨false, [], 0⟩
theorem isdec_n {ds : List Int} {e : Int} {neg : Bool} (h1 : ds ≠ []) (h2 : -1152921504606846976 ≤ e) (h3 : e ≤ 1152921504606846976) (h4 : ∀ i, i < ds.length → Sc.dg (Sc.pk ds i) = true) : Sc.IsDec ds e ↔ (Sc.nrm neg ds e).e ≤ 1152921504606846976 := by
  have h4' : ∀ x ∈ ds, Sc.dg x = true := by
    intro x hx
    obtain ⟨i, hi, rfl⟩ := List.mem_iff_getElem.1 hx
    have := h4 i hi
    simpa [Sc.pk, List.getD, hi] using this
  by_cases c : Sc.lz ds = ds.length
  · rw [Sc.nrm_zero c]
    constructor
    · intro _; show (0 : Int) ≤ _; omega
    · intro _; exact ⟨h1, h2, h3, h4', fun h => absurd c h⟩
  · rw [Sc.nrm_pos c]
    constructor
    · intro h; exact h.2.2.2.2 c
    · intro h; exact ⟨h1, h2, h3, h4', fun _ => h⟩

theorem Str.ne {s : ByteArray} {xs : List Int} (h : Str s xs) (hx : xs ≠ []) : s.toList ≠ [] ∧ (s.toList == []) = false ∧ s.toList.isEmpty = false := by
  have e1 : s.toList ≠ [] := by
    intro c
    apply hx
    rw [ByteArray.toList_eq] at c
    rw [← h, c]
    rfl
  exact ⟨e1, by rw [beq_eq_false_iff_ne]; exact e1, by rw [List.isEmpty_eq_false_iff]; exact e1⟩

/-- What slim tells. -/
def SlimTold (neg : Bool) (ds : List Int) (e : Int) (w : World) (r : Ending) (w' : World) : Prop := ∃ v, r = .returned (.tuple #[v, .bool (decide (Sc.IsDec ds e))]) ∧ DecIs v (nmd neg ds e) ∧ Below w.heap.size w w'

theorem Two3.drew {w w' : World} {v0 v1 v2 u0 u1 u2 : Value} (h : Two3 w w' v0 v1 v2 u0 u1 u2) (n : Nat) : Two3 w (w'.drewN n) v0 v1 v2 u0 u1 u2 := ⟨below_drewN h.1 n, h.2.1, h.2.2⟩

set_option maxRecDepth 100000 in
set_option maxHeartbeats 2000000 in
theorem slim_any (neg : Bool) (s : ByteArray) (xs : List Int) (e : Int) (w : World) (hs : Str s xs) (hn : xs.length ≤ 281474976710656) :
    Calls Tryd.prog 37 #[decV neg s e] w fun r w' => SlimTold neg xs e w r w' := by
  have ZF : Hid (¬ Sc.IsDec xs e → ∀ w', Below w.heap.size w w' → SlimTold neg xs e w (.returned (.tuple #[.agg #[.bool false, .string ⟨#[]⟩, .int .i64 0], .bool false])) w') := fun z w' b => ⟨_, by rw [decide_eq_false z], by unfold nmd; rw [if_neg z]; exact ⟨_, rfl, str_nil0⟩, b⟩
  have hsz := hs.size
  by_cases h1 : xs = []
  · have Z2 := hid (ZF.out fun c => c.1 h1)
    have hs0 : s = ⟨#[]⟩ := hs.inj (by rw [h1]; rfl)
    subst hs0
    clear hs h1 ZF hn
    unfold decV
    go_enter Tryd.func37, Tryd.ntmps37
    go_wp2_with fail
    (try simp only [Exit.inBlock, Exit.then])
    refine bodyPost_ret (results_row_tmp rfl _ _ (w.heap.size + 1) 29 _ (0, 0) _ rfl (Two3.new w _ _ _ _ _ _).2.2 Tryd.underlying29 rfl (by kernel_rfl)) rfl ?_
    exact Z2.out _ (Two3.new w _ _ _ _ _ _).1
  · obtain ⟨q1, q2, q3⟩ := hs.ne h1
    by_cases h2 : -1152921504606846976 ≤ e ∧ e ≤ 1152921504606846976
    · obtain ⟨e0, e1⟩ := h2
      have T := hid (fun wx => trim_any neg s xs e wx hs hn (by omega) (by omega))
      have ID : Hid ((∀ i, i < xs.length → Sc.dg (Sc.pk xs i) = true) → (Sc.IsDec xs e ↔ (Sc.nrm neg xs e).e ≤ 1152921504606846976)) := isdec_n h1 e0 e1
      have IN : Hid (∀ j, j < xs.length → Sc.dg (Sc.pk xs j) = false → ¬ Sc.IsDec xs e) := fun j hj hd c => by
        have := c.2.2.2.1 (Sc.pk xs j) (by simp [Sc.pk, List.getD, hj])
        rw [hd] at this; exact absurd this (by simp)
      have DG := hid (fun (j : Nat) (wx : World) => digit_any (Sc.pk xs j) wx (hs.atb j).1 (hs.atb j).2)
      have HS := hid hs
      have HN := hid hn
      have NE := hid (Sc.nrm_e neg xs e)
      clear hs hn h1
      unfold decV
      go_enter Tryd.func37, Tryd.ntmps37
      go_wp2_with fail
      go_loop [22] (fun c => ∃ j : Nat, c = .int .i64 j ∧ Hid (j ≤ xs.length ∧ ∀ i, i < j → Sc.dg (Sc.pk xs i) = true)) (fun c => match c with | .int _ j => xs.length - j.toNat | _ => 0)
      case atStart => exact ⟨0, rfl, Nat.zero_le _, fun i hi => by omega⟩
      case round =>
        obtain ⟨j, rfl, I⟩ := hrel
        have hjb : (j : Int) ≤ 281474976710656 := by have := I.out.1; have := HN.out; omega
        by_cases hj : j < xs.length
        · have hji : (j : Int) < (xs.length : Int) := by omega
          have hx := HS.out.pk j
          have D := hid (fun wx => DG.out j wx)
          cases hd : Sc.dg (Sc.pk xs j) with
          | true =>
            rw [hd] at D
            have I2 : Hid (j + 1 ≤ xs.length ∧ ∀ i, i < j + 1 → Sc.dg (Sc.pk xs i) = true) := ⟨by omega, fun i hi => by
              by_cases c : i = j
              · subst c; exact hd
              · exact I.out.2 i (by omega)⟩
            clear hd I
            go_wp2_with fail
            refine (D.out _).mono ?_
            rintro r w1 ⟨rfl, rfl⟩
            go_wp2_with fail
            go_round
            case rel => exact ⟨j + 1, by go_num, I2.out⟩
            case measure => simp; omega
          | false =>
            rw [hd] at D
            have Z2 := hid (ZF.out (IN.out j hj hd))
            clear hd
            go_wp2_with fail
            refine (D.out _).mono ?_
            rintro r w1 ⟨rfl, rfl⟩
            go_wp2_with fail
            (try simp only [Exit.inBlock, Exit.then])
            refine bodyPost_ret (results_row_tmp rfl _ _ (w.heap.size + 1) 29 _ (0, 0) _ rfl (Two3.new w _ _ _ _ _ _).2.2 Tryd.underlying29 rfl (by kernel_rfl)) rfl ?_
            exact Z2.out _ (Two3.new w _ _ _ _ _ _).1
        · have hji : ¬ (j : Int) < (xs.length : Int) := by omega
          have ID2 := hid (ID.out fun i hi => I.out.2 i (by omega))
          have Z := hid (Two3.new w (.bool neg) (.string s) (.int .i64 e) (.bool false) (.string ⟨#[]⟩) (.int .i64 0))
          clear I
          go_wp2_with fail
          refine (T.out _).mono ?_
          rintro r w1 ⟨v, rfl, ⟨t, hv, ht⟩, hB⟩
          unfold decV at hv
          subst hv
          have S := hid ((Z.out.on hB).putA (.bool (Sc.nrm neg xs e).neg) (.string t) (.int .i64 (Sc.nrm neg xs e).e))
          obtain ⟨⟨c0, c1, c2⟩, f0, f1, f2⟩ := (Z.out.on hB).2.1.cells
          obtain ⟨⟨d0, d1, d2⟩, g0, g1, g2⟩ := (Z.out.on hB).2.2.cells
          have HT := hid ht
          clear hB ht Z T
          by_cases hb : (Sc.nrm neg xs e).e ≤ 1152921504606846976
          · have isd := ID2.out.2 hb
            have GG : Hid (∀ w', Below w.heap.size w w' → SlimTold neg xs e w (.returned (.tuple #[.agg #[.bool (Sc.nrm neg xs e).neg, .string t, .int .i64 (Sc.nrm neg xs e).e], .bool true])) w') := fun w' b => ⟨_, by rw [decide_eq_true isd], by unfold nmd; rw [if_pos isd]; exact ⟨t, rfl, HT.out⟩, b⟩
            clear isd ID ID2 IN NE
            generalize Sc.nrm neg xs e = N at *
            go_wp2_with fail
            (try simp only [Exit.inBlock, Exit.then])
            refine bodyPost_ret (results_row_tmp rfl _ _ (w.heap.size + 1) 29 _ (0, 0) _ rfl (S.out.putB _ _ _).2.2 Tryd.underlying29 rfl (by kernel_rfl)) rfl ?_
            exact GG.out _ (S.out.putB _ _ _).1
          · have Z2 := hid (ZF.out fun c => hb (ID2.out.1 c))
            have hb2 : 1152921504606846976 < (Sc.nrm neg xs e).e := by omega
            clear ID ID2 IN NE
            generalize Sc.nrm neg xs e = N at *
            go_wp2_with fail
            (try simp only [Exit.inBlock, Exit.then])
            refine bodyPost_ret (results_row_tmp rfl _ _ (w.heap.size + 1) 29 _ (0, 0) _ rfl (S.out.putB _ _ _).2.2 Tryd.underlying29 rfl (by kernel_rfl)) rfl ?_
            exact Z2.out _ (S.out.putB _ _ _).1
    · have Z2 := hid (ZF.out fun c => h2 ⟨c.2.1, c.2.2.1⟩)
      rcases (show e < -1152921504606846976 ∨ (-1152921504606846976 ≤ e ∧ 1152921504606846976 < e) by omega) with he | ⟨he0, he⟩
      all_goals
        clear hs hn h1 ZF h2
        unfold decV
        go_enter Tryd.func37, Tryd.ntmps37
        go_wp2_with fail
        (try simp only [Exit.inBlock, Exit.then])
        refine bodyPost_ret (results_row_tmp rfl _ _ (w.heap.size + 1) 29 _ (0, 0) _ rfl (Two3.new w _ _ _ _ _ _).2.2 Tryd.underlying29 rfl (by kernel_rfl)) rfl ?_
        exact Z2.out _ (Two3.new w _ _ _ _ _ _).1
end Go.Proofs.YtjghlpkjbfaoiaaDoor
