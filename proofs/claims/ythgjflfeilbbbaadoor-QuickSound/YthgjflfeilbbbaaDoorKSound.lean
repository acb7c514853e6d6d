/-
  QuickSound (made by mksound.py).
-/
import Derived.Test.YthgjflfeilbbbaaDoorKAwake
namespace Go.Proofs.YthgjflfeilbbbaaDoor
open Go Go.RowKit Go.Deep

theorem stq_false {v q x : Int} (h : Ie.Stq v q x false) : x = 0 ∧ 0 < v ∧ (-342 ≤ q → q ≤ 308 → q < 0 ∨ 55 < q) := by
  rcases h with h | h | ⟨h0, h1, h2, A, B, a, b, h⟩
  · exact absurd h.2.2 (by simp)
  · exact ⟨h.2.2.1, h.1, fun _ _ => by omega⟩
  · rcases h with h | h
    · exact absurd h.2.2 (by simp)
    · refine ⟨h.2.1, h0, fun _ _ => ?_⟩
      rcases b with b | b
      · omega
      · exact b.1

theorem stq_true {v q x y : Int} (h : Ie.Stq v q x true) (v0 : 0 ≤ v) (hy : Ie.Rnd (v * 10 ^ q.toNat) (10 ^ (-q).toNat) 0 false y) : x = y := by
  refine h.stp.true rfl v0 (Int.mul_nonneg v0 (Int.le_of_lt (Int.pow_pos (by decide)))) (Int.pow_pos (by decide)) hy rfl

theorem rnd_same {n d x y : Int} (d0 : 0 < d) (h : Ie.Rnd n d 0 false x) (k : Ie.Rnd n d 0 false y) : x = y := Ie.Rnd.one (a := 0) (a' := 0) d0 d0 h k (by omega) rfl

theorem rnd_none {d x q : Int} (d0 : 0 < d) (h : Ie.Rnd (0 * 10 ^ q.toNat) d 0 false x) : x = 0 := by
  rw [Int.zero_mul] at h
  exact rnd_same d0 h (Ie.rnd_zero d 0 false d0)

theorem lt_tens {v : Int} (h : v < 18446744073709551616) : v < 10 ^ 20 := by
  have e : (10 : Int) ^ 20 = 100000000000000000000 := by decide +kernel
  omega

set_option maxRecDepth 100000 in
set_option maxHeartbeats 4000000 in
theorem sound_law (v q : Int) (w : World) (v0 : 0 ≤ v) (v1 : v < 18446744073709551616) (hT : Tab w) (hX : Tens w) :
    Calls Tryd.prog 4 #[.int .u64 v, .int .i64 q] w fun e w' => e = .returned (.bool true) ∧ Below w.heap.size w w' := by
  have AW := hid (awake_any9 w hT hX)
  have SM := hid (fun wx (b : Below w.heap.size w wx) => small_any9 v q wx (hT.below b) (hX.below b) ⟨v0, v1⟩)
  have SP := hid (fun wx (b : Below w.heap.size w wx) => step_any9 v q wx (hT.below b) ⟨v0, v1⟩)
  have EX : Hid (∀ w1, Below w.heap.size w w1 → -342 ≤ q → q ≤ 308 → Calls Tryd.prog 14 #[.slice (some ⟨w1.heap.size, 0, none⟩) 1 1, .int .i64 q] (w1.alloc (.cells #[.int .u64 v] 23)) fun e w' => ∃ x, e = .returned (.tuple #[.int .u64 x, .bool true]) ∧ Ie.Rnd (v * 10 ^ q.toNat) (10 ^ (-q).toNat) 0 false x ∧ Below w1.heap.size w1 w') := fun w1 b q0 q1 => by
    refine (exactly_any9 _ 1 1 [v] v q _ (hT.below (below_on b (alloc_b _ _))) (arg_lit9 (heap_alloc_new _ _) v0 v1) (by simp [Nm.val]) (by omega) (by omega) 20 (by omega) (lt_tens v1)).mono ?_
    rintro e w' ⟨x, rfl, r, hB⟩
    exact ⟨x, rfl, r, below_on (alloc_b _ _) hB⟩
  have dp : Hid ((0 : Int) < 10 ^ (-q).toNat) := Int.pow_pos (by decide)
  clear hT hX
  go_enter Tryd.func4, Tryd.ntmps4
  go_wp2_with fail
  with_reducible refine AW.out.mono ?_
  rintro e w1 ⟨rfl, hB1⟩
  go_wp2_with fail
  with_reducible refine (SM.out _ hB1).mono ?_
  rintro e w2 ⟨hsm, hB2⟩
  have b2 := below_on hB1 hB2
  clear hB1 hB2 AW SM

  rcases hsm with ⟨a1, a2, a3, s, rfl, R0⟩ | ⟨a1, rfl⟩
  · have RS := hid R0
    clear R0
    go_wp2_with fail
    with_reducible refine (SP.out _ b2).mono ?_
    rintro e w3 ⟨d, su, rfl, ST, hB3⟩
    have b3 := below_on b2 hB3
    have B3 := hid b3
    have HST := hid ST
    clear b2 hB3 SP ST
    by_cases hv : v = 0
    · subst hv
      obtain ⟨rfl, rfl⟩ : d = 0 ∧ su = true := by
        rcases HST.out with h | h | h
        · exact h.2
        · omega
        · omega
      obtain rfl := rnd_none dp.out RS.out
      clear b3 EX HST RS
      go_wp2_with fail
      all_goals go_ret
      all_goals exact ⟨rfl, B3.out⟩
    · have hvb : (v == 0) = false := by rw [beq_eq_false_iff_ne]; exact hv
      have vp : 0 < v := by omega
      by_cases ho0 : q < -342
      · obtain ⟨rfl, rfl⟩ : d = 0 ∧ su = false := by
          rcases HST.out with h | h | h
          · omega
          · exact h.2.2
          · omega
        clear b3 EX HST RS
        go_wp2_with fail
        all_goals go_ret
        all_goals exact ⟨rfl, B3.out⟩
      by_cases ho1 : 308 < q
      · obtain ⟨rfl, rfl⟩ : d = 0 ∧ su = false := by
          rcases HST.out with h | h | h
          · omega
          · exact h.2.2
          · omega
        clear b3 EX HST RS
        go_wp2_with fail
        all_goals go_ret
        all_goals exact ⟨rfl, B3.out⟩
      cases su with
      | false =>
        obtain ⟨rfl, _, hr⟩ := stq_false HST.out
        have hq := hr (by omega) (by omega)
        have E1 := hid (EX.out _ b3 (by omega) (by omega))
        clear hr b3 HST EX
        rcases hq with hq | hq
        · go_wp2_with fail
          all_goals (with_reducible refine E1.out.mono ?_; rintro e w4 ⟨x, rfl, R, hB4⟩; have B4 := hid (below_on B3.out hB4); obtain rfl := rnd_same dp.out RS.out R; clear R hB4 E1 RS; go_wp2_with fail)
          all_goals go_ret
          all_goals exact ⟨rfl, B4.out⟩
        · go_wp2_with fail
          all_goals (with_reducible refine E1.out.mono ?_; rintro e w4 ⟨x, rfl, R, hB4⟩; have B4 := hid (below_on B3.out hB4); obtain rfl := rnd_same dp.out RS.out R; clear R hB4 E1 RS; go_wp2_with fail)
          all_goals go_ret
          all_goals exact ⟨rfl, B4.out⟩
      | true =>
        have E1 := hid (EX.out _ b3 (by omega) (by omega))
        clear b3 EX
        go_wp2_with fail
        with_reducible refine E1.out.mono ?_
        rintro e w4 ⟨x, rfl, R, hB4⟩
        have B4 := hid (below_on B3.out hB4)
        obtain rfl := stq_true HST.out v0 R
        obtain rfl := rnd_same dp.out RS.out R
        clear R hB4 E1 HST RS
        go_wp2_with fail
        go_ret
        exact ⟨rfl, B4.out⟩
  · by_cases c1 : 9007199254740992 < v
    · clear a1
      go_wp2_with fail
      with_reducible refine (SP.out _ b2).mono ?_
      rintro e w3 ⟨d, su, rfl, ST, hB3⟩
      have b3 := below_on b2 hB3
      have B3 := hid b3
      have HST := hid ST
      clear b2 hB3 SP ST
      by_cases hv : v = 0
      · subst hv
        obtain ⟨rfl, rfl⟩ : d = 0 ∧ su = true := by
          rcases HST.out with h | h | h
          · exact h.2
          · omega
          · omega
        clear b3 EX HST
        go_wp2_with fail
        all_goals go_ret
        all_goals exact ⟨rfl, B3.out⟩
      · have hvb : (v == 0) = false := by rw [beq_eq_false_iff_ne]; exact hv
        have vp : 0 < v := by omega
        by_cases ho0 : q < -342
        · obtain ⟨rfl, rfl⟩ : d = 0 ∧ su = false := by
            rcases HST.out with h | h | h
            · omega
            · exact h.2.2
            · omega
          clear b3 EX HST
          go_wp2_with fail
          all_goals go_ret
          all_goals exact ⟨rfl, B3.out⟩
        by_cases ho1 : 308 < q
        · obtain ⟨rfl, rfl⟩ : d = 0 ∧ su = false := by
            rcases HST.out with h | h | h
            · omega
            · exact h.2.2
            · omega
          clear b3 EX HST
          go_wp2_with fail
          all_goals go_ret
          all_goals exact ⟨rfl, B3.out⟩
        cases su with
        | false =>
          obtain ⟨rfl, _, hr⟩ := stq_false HST.out
          have hq := hr (by omega) (by omega)
          have E1 := hid (EX.out _ b3 (by omega) (by omega))
          clear hr b3 HST EX
          rcases hq with hq | hq
          · go_wp2_with fail
            all_goals (with_reducible refine E1.out.mono ?_; rintro e w4 ⟨x, rfl, R, hB4⟩; have B4 := hid (below_on B3.out hB4); clear R hB4 E1; go_wp2_with fail)
            all_goals go_ret
            all_goals exact ⟨rfl, B4.out⟩
          · go_wp2_with fail
            all_goals (with_reducible refine E1.out.mono ?_; rintro e w4 ⟨x, rfl, R, hB4⟩; have B4 := hid (below_on B3.out hB4); clear R hB4 E1; go_wp2_with fail)
            all_goals go_ret
            all_goals exact ⟨rfl, B4.out⟩
        | true =>
          have E1 := hid (EX.out _ b3 (by omega) (by omega))
          clear b3 EX
          go_wp2_with fail
          with_reducible refine E1.out.mono ?_
          rintro e w4 ⟨x, rfl, R, hB4⟩
          have B4 := hid (below_on B3.out hB4)
          obtain rfl := stq_true HST.out v0 R
          clear R hB4 E1 HST
          go_wp2_with fail
          go_ret
          exact ⟨rfl, B4.out⟩
    · by_cases c2 : q < -22
      · clear a1
        go_wp2_with fail
        with_reducible refine (SP.out _ b2).mono ?_
        rintro e w3 ⟨d, su, rfl, ST, hB3⟩
        have b3 := below_on b2 hB3
        have B3 := hid b3
        have HST := hid ST
        clear b2 hB3 SP ST
        by_cases hv : v = 0
        · subst hv
          obtain ⟨rfl, rfl⟩ : d = 0 ∧ su = true := by
            rcases HST.out with h | h | h
            · exact h.2
            · omega
            · omega
          clear b3 EX HST
          go_wp2_with fail
          all_goals go_ret
          all_goals exact ⟨rfl, B3.out⟩
        · have hvb : (v == 0) = false := by rw [beq_eq_false_iff_ne]; exact hv
          have vp : 0 < v := by omega
          by_cases ho0 : q < -342
          · obtain ⟨rfl, rfl⟩ : d = 0 ∧ su = false := by
              rcases HST.out with h | h | h
              · omega
              · exact h.2.2
              · omega
            clear b3 EX HST
            go_wp2_with fail
            all_goals go_ret
            all_goals exact ⟨rfl, B3.out⟩
          by_cases ho1 : 308 < q
          · obtain ⟨rfl, rfl⟩ : d = 0 ∧ su = false := by
              rcases HST.out with h | h | h
              · omega
              · exact h.2.2
              · omega
            clear b3 EX HST
            go_wp2_with fail
            all_goals go_ret
            all_goals exact ⟨rfl, B3.out⟩
          cases su with
          | false =>
            obtain ⟨rfl, _, hr⟩ := stq_false HST.out
            have hq := hr (by omega) (by omega)
            have E1 := hid (EX.out _ b3 (by omega) (by omega))
            clear hr b3 HST EX
            rcases hq with hq | hq
            · go_wp2_with fail
              all_goals (with_reducible refine E1.out.mono ?_; rintro e w4 ⟨x, rfl, R, hB4⟩; have B4 := hid (below_on B3.out hB4); clear R hB4 E1; go_wp2_with fail)
              all_goals go_ret
              all_goals exact ⟨rfl, B4.out⟩
            · go_wp2_with fail
              all_goals (with_reducible refine E1.out.mono ?_; rintro e w4 ⟨x, rfl, R, hB4⟩; have B4 := hid (below_on B3.out hB4); clear R hB4 E1; go_wp2_with fail)
              all_goals go_ret
              all_goals exact ⟨rfl, B4.out⟩
          | true =>
            have E1 := hid (EX.out _ b3 (by omega) (by omega))
            clear b3 EX
            go_wp2_with fail
            with_reducible refine E1.out.mono ?_
            rintro e w4 ⟨x, rfl, R, hB4⟩
            have B4 := hid (below_on B3.out hB4)
            obtain rfl := stq_true HST.out v0 R
            clear R hB4 E1 HST
            go_wp2_with fail
            go_ret
            exact ⟨rfl, B4.out⟩
      · have c3 : 22 < q := by omega
        clear a1
        go_wp2_with fail
        with_reducible refine (SP.out _ b2).mono ?_
        rintro e w3 ⟨d, su, rfl, ST, hB3⟩
        have b3 := below_on b2 hB3
        have B3 := hid b3
        have HST := hid ST
        clear b2 hB3 SP ST
        by_cases hv : v = 0
        · subst hv
          obtain ⟨rfl, rfl⟩ : d = 0 ∧ su = true := by
            rcases HST.out with h | h | h
            · exact h.2
            · omega
            · omega
          clear b3 EX HST
          go_wp2_with fail
          all_goals go_ret
          all_goals exact ⟨rfl, B3.out⟩
        · have hvb : (v == 0) = false := by rw [beq_eq_false_iff_ne]; exact hv
          have vp : 0 < v := by omega
          by_cases ho0 : q < -342
          · obtain ⟨rfl, rfl⟩ : d = 0 ∧ su = false := by
              rcases HST.out with h | h | h
              · omega
              · exact h.2.2
              · omega
            clear b3 EX HST
            go_wp2_with fail
            all_goals go_ret
            all_goals exact ⟨rfl, B3.out⟩
          by_cases ho1 : 308 < q
          · obtain ⟨rfl, rfl⟩ : d = 0 ∧ su = false := by
              rcases HST.out with h | h | h
              · omega
              · exact h.2.2
              · omega
            clear b3 EX HST
            go_wp2_with fail
            all_goals go_ret
            all_goals exact ⟨rfl, B3.out⟩
          cases su with
          | false =>
            obtain ⟨rfl, _, hr⟩ := stq_false HST.out
            have hq := hr (by omega) (by omega)
            have E1 := hid (EX.out _ b3 (by omega) (by omega))
            clear hr b3 HST EX
            rcases hq with hq | hq
            · go_wp2_with fail
              all_goals (with_reducible refine E1.out.mono ?_; rintro e w4 ⟨x, rfl, R, hB4⟩; have B4 := hid (below_on B3.out hB4); clear R hB4 E1; go_wp2_with fail)
              all_goals go_ret
              all_goals exact ⟨rfl, B4.out⟩
            · go_wp2_with fail
              all_goals (with_reducible refine E1.out.mono ?_; rintro e w4 ⟨x, rfl, R, hB4⟩; have B4 := hid (below_on B3.out hB4); clear R hB4 E1; go_wp2_with fail)
              all_goals go_ret
              all_goals exact ⟨rfl, B4.out⟩
          | true =>
            have E1 := hid (EX.out _ b3 (by omega) (by omega))
            clear b3 EX
            go_wp2_with fail
            with_reducible refine E1.out.mono ?_
            rintro e w4 ⟨x, rfl, R, hB4⟩
            have B4 := hid (below_on B3.out hB4)
            obtain rfl := stq_true HST.out v0 R
            clear R hB4 E1 HST
            go_wp2_with fail
            go_ret
            exact ⟨rfl, B4.out⟩
end Go.Proofs.YthgjflfeilbbbaaDoor
