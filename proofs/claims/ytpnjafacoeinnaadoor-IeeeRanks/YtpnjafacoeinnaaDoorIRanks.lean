import Derived.Test.YtpnjafacoeinnaaDoorIAwake
/-
  IeeeRanks (made by mkranks.py).
-/
namespace Go.Proofs.YtpnjafacoeinnaaDoor
open Go Go.RowKit Go.Deep

set_option maxRecDepth 100000 in
set_option maxHeartbeats 2000000 in
theorem ranks_out (i : Int) (w : World) (hT : Tab w) (l0 : -9223372036854775808 ≤ i) (l1 : i ≤ 9223372036854775807) (h : i < -9218868437227405312 ∨ 9218868437227405312 < i) :
    Calls Tryd.prog 5 #[.int .i64 i] w fun r w' => r = .returned (.bool true) ∧ Below w.heap.size w w'  := by
  have AW := hid (awake_any w hT)
  have AT := hid (fun (wx : World) => atRank_out i wx l0 l1 h)
  clear hT
  rcases h with h | h
  · go_enter Tryd.func5, Tryd.ntmps5
    go_wp2_with fail
    refine AW.out.mono ?_
    rintro e' w1 ⟨rfl, hB⟩
    have HB := hid hB
    clear hB AW
    go_wp2_with fail
    refine (AT.out _).mono ?_
    rintro e' w' ⟨rfl, rfl⟩
    go_wp2_with fail
    go_ret
    exact ⟨by simp, HB.out⟩
  · go_enter Tryd.func5, Tryd.ntmps5
    go_wp2_with fail
    refine AW.out.mono ?_
    rintro e' w1 ⟨rfl, hB⟩
    have HB := hid hB
    clear hB AW
    go_wp2_with fail
    refine (AT.out _).mono ?_
    rintro e' w' ⟨rfl, rfl⟩
    go_wp2_with fail
    go_ret
    exact ⟨by simp, HB.out⟩

set_option maxRecDepth 100000 in
set_option maxHeartbeats 4000000 in
theorem ranks_zero (w : World) (hT : Tab w) : Calls Tryd.prog 5 #[.int .i64 0] w fun r w' => r = .returned (.bool true) ∧ Below w.heap.size w w' := by
  have AW := hid (awake_any w hT)
  have AT : Hid (∀ wx : World, Calls Tryd.prog 17 #[.int .i64 0] wx fun e w' => e = .returned (.tuple #[.int .u64 0, .bool true]) ∧ w' = wx) := fun wx => atRank_in 0 wx (by omega) (by omega)
  have RK : Hid (∀ wx : World, Calls Tryd.prog 14 #[.int .u64 0] wx fun e w' => e = .returned (.tuple #[.int .i64 0, .bool true]) ∧ w' = wx) := fun wx => rank_any 0 wx (by omega) (by omega)
  have UP : Hid (∀ wx : World, Calls Tryd.prog 18 #[.int .u64 0] wx fun e w' => e = .returned (.int .u64 1) ∧ w' = wx) := fun wx => up_any 0 wx (by omega) (by omega)
  have CM : Hid (∀ wx : World, Calls Tryd.prog 15 #[.int .u64 1, .int .u64 0] wx fun e w' => e = .returned (.tuple #[.int .i64 1, .bool true]) ∧ w' = wx) := fun wx => compare_any 1 0 wx (by omega) (by omega) (by omega) (by omega)
  have RU : Hid (∀ wx : World, Calls Tryd.prog 14 #[.int .u64 1] wx fun e w' => e = .returned (.tuple #[.int .i64 1, .bool true]) ∧ w' = wx) := fun wx => rank_any 1 wx (by omega) (by omega)
  have DN : Hid (∀ wx : World, Calls Tryd.prog 19 #[.int .u64 1] wx fun e w' => e = .returned (.int .u64 0) ∧ w' = wx) := fun wx => down_any 1 wx (by omega) (by omega)
  clear hT
  go_enter Tryd.func5, Tryd.ntmps5
  go_wp2_with fail
  refine AW.out.mono ?_
  rintro e' w1 ⟨rfl, hB⟩
  have HB := hid hB
  clear hB AW
  go_wp2_with fail
  refine (AT.out _).mono ?_
  rintro e' w' ⟨rfl, rfl⟩
  go_wp2_with fail
  refine (RK.out _).mono ?_
  rintro e' w' ⟨rfl, rfl⟩
  go_wp2_with fail
  refine (AT.out _).mono ?_
  rintro e' w' ⟨rfl, rfl⟩
  go_wp2_with fail
  refine (UP.out _).mono ?_
  rintro e' w' ⟨rfl, rfl⟩
  go_wp2_with fail
  refine (CM.out _).mono ?_
  rintro e' w' ⟨rfl, rfl⟩
  go_wp2_with fail
  refine (RU.out _).mono ?_
  rintro e' w' ⟨rfl, rfl⟩
  go_wp2_with fail
  refine (DN.out _).mono ?_
  rintro e' w' ⟨rfl, rfl⟩
  go_wp2_with fail
  go_ret
  exact ⟨by simp, HB.out⟩

set_option maxRecDepth 100000 in
set_option maxHeartbeats 4000000 in
theorem ranks_inf (w : World) (hT : Tab w) : Calls Tryd.prog 5 #[.int .i64 9218868437227405312] w fun r w' => r = .returned (.bool true) ∧ Below w.heap.size w w' := by
  have AW := hid (awake_any w hT)
  have AT : Hid (∀ wx : World, Calls Tryd.prog 17 #[.int .i64 9218868437227405312] wx fun e w' => e = .returned (.tuple #[.int .u64 9218868437227405312, .bool true]) ∧ w' = wx) := fun wx => atRank_in 9218868437227405312 wx (by omega) (by omega)
  have RK : Hid (∀ wx : World, Calls Tryd.prog 14 #[.int .u64 9218868437227405312] wx fun e w' => e = .returned (.tuple #[.int .i64 9218868437227405312, .bool true]) ∧ w' = wx) := fun wx => rank_any 9218868437227405312 wx (by omega) (by omega)
  have AT2 : Hid (∀ wx : World, Calls Tryd.prog 17 #[.int .i64 (-9218868437227405312)] wx fun e w' => e = .returned (.tuple #[.int .u64 18442240474082181120, .bool true]) ∧ w' = wx) := fun wx => atRank_in (-9218868437227405312) wx (by omega) (by omega)
  have NG : Hid (∀ wx : World, Calls Tryd.prog 12 #[.int .u64 9218868437227405312] wx fun e w' => e = .returned (.int .u64 18442240474082181120) ∧ w' = wx) := fun wx => neg_any 9218868437227405312 wx (by omega) (by omega)
  have UP : Hid (∀ wx : World, Calls Tryd.prog 18 #[.int .u64 9218868437227405312] wx fun e w' => e = .returned (.int .u64 9218868437227405312) ∧ w' = wx) := fun wx => up_any 9218868437227405312 wx (by omega) (by omega)
  have DN : Hid (∀ wx : World, Calls Tryd.prog 19 #[.int .u64 18442240474082181120] wx fun e w' => e = .returned (.int .u64 18442240474082181120) ∧ w' = wx) := fun wx => down_any 18442240474082181120 wx (by omega) (by omega)
  clear hT
  go_enter Tryd.func5, Tryd.ntmps5
  go_wp2_with fail
  refine AW.out.mono ?_
  rintro e' w1 ⟨rfl, hB⟩
  have HB := hid hB
  clear hB AW
  go_wp2_with fail
  refine (AT.out _).mono ?_
  rintro e' w' ⟨rfl, rfl⟩
  go_wp2_with fail
  refine (RK.out _).mono ?_
  rintro e' w' ⟨rfl, rfl⟩
  go_wp2_with fail
  refine (AT2.out _).mono ?_
  rintro e' w' ⟨rfl, rfl⟩
  go_wp2_with fail
  refine (NG.out _).mono ?_
  rintro e' w' ⟨rfl, rfl⟩
  go_wp2_with fail
  refine (UP.out _).mono ?_
  rintro e' w' ⟨rfl, rfl⟩
  go_wp2_with fail
  refine (NG.out _).mono ?_
  rintro e' w' ⟨rfl, rfl⟩
  go_wp2_with fail
  refine (DN.out _).mono ?_
  rintro e' w' ⟨rfl, rfl⟩
  go_wp2_with fail
  refine (NG.out _).mono ?_
  rintro e' w' ⟨rfl, rfl⟩
  go_wp2_with fail
  go_ret
  exact ⟨by simp, HB.out⟩

set_option maxRecDepth 100000 in
set_option maxHeartbeats 4000000 in
theorem ranks_mid (i d m u : Int) (w : World) (hT : Tab w) (h0 : -9218868437227405312 ≤ i) (h1 : i < 9218868437227405312) (hi : i ≠ 0) (hd : 0 ≤ d ∧ d < 18446744073709551616) (hu : 0 ≤ u ∧ u < 18446744073709551616)
    (e1 : Ie.atr i = d) (e2 : Ie.rkv d = i) (o2 : Ie.okd d = true) (e3 : Ie.atr (-i) = m) (e4 : Ie.ng d = m) (e5 : Ie.upd d = u) (e6 : Ie.cmv u d = 1) (o6 : Ie.okd u = true) (e7 : Ie.rkv u = i + 1) (e8 : Ie.dnd u = d) (hl : i = -1 → u = 9223372036854775808) :
    Calls Tryd.prog 5 #[.int .i64 i] w fun r w' => r = .returned (.bool true) ∧ Below w.heap.size w w'  := by
  have AW := hid (awake_any w hT)
  have AT : Hid (∀ wx : World, Calls Tryd.prog 17 #[.int .i64 i] wx fun e w' => e = .returned (.tuple #[.int .u64 d, .bool true]) ∧ w' = wx) := by
    intro wx; have := atRank_in i wx (by omega) (by omega); rw [e1] at this; exact this
  have RK : Hid (∀ wx : World, Calls Tryd.prog 14 #[.int .u64 d] wx fun e w' => e = .returned (.tuple #[.int .i64 i, .bool true]) ∧ w' = wx) := by
    intro wx; have := rank_any d wx hd.1 hd.2; rw [e2, o2] at this; exact this
  have AT2 : Hid (∀ wx : World, Calls Tryd.prog 17 #[.int .i64 (-i)] wx fun e w' => e = .returned (.tuple #[.int .u64 m, .bool true]) ∧ w' = wx) := by
    intro wx; have := atRank_in (-i) wx (by omega) (by omega); rw [e3] at this; exact this
  have NG : Hid (∀ wx : World, Calls Tryd.prog 12 #[.int .u64 d] wx fun e w' => e = .returned (.int .u64 m) ∧ w' = wx) := by
    intro wx; have := neg_any d wx hd.1 hd.2; rw [e4] at this; exact this
  have UP : Hid (∀ wx : World, Calls Tryd.prog 18 #[.int .u64 d] wx fun e w' => e = .returned (.int .u64 u) ∧ w' = wx) := by
    intro wx; have := up_any d wx hd.1 hd.2; rw [e5] at this; exact this
  have CM : Hid (∀ wx : World, Calls Tryd.prog 15 #[.int .u64 u, .int .u64 d] wx fun e w' => e = .returned (.tuple #[.int .i64 1, .bool true]) ∧ w' = wx) := by
    intro wx; have := compare_any u d wx hu.1 hu.2 hd.1 hd.2; rw [e6, o6, o2] at this; exact this
  have RU : Hid (∀ wx : World, Calls Tryd.prog 14 #[.int .u64 u] wx fun e w' => e = .returned (.tuple #[.int .i64 (i + 1), .bool true]) ∧ w' = wx) := by
    intro wx; have := rank_any u wx hu.1 hu.2; rw [e7, o6] at this; exact this
  have DN : Hid (∀ wx : World, Calls Tryd.prog 19 #[.int .u64 u] wx fun e w' => e = .returned (.int .u64 d) ∧ w' = wx) := by
    intro wx; have := down_any u wx hu.1 hu.2; rw [e8] at this; exact this
  have hi' : (i == 0) = false := by rw [beq_eq_false_iff_ne]; exact hi
  have hi'' : (i == 9218868437227405312) = false := by rw [beq_eq_false_iff_ne]; omega
  clear hT e1 e2 o2 e3 e4 e5 e6 o6 e7 e8 hd hu
  rcases (show i = -1 ∨ i ≠ -1 by omega) with h | h
  · subst h
    obtain rfl := hl rfl
    go_enter Tryd.func5, Tryd.ntmps5
    go_wp2_with fail
    refine AW.out.mono ?_
    rintro e' w1 ⟨rfl, hB⟩
    have HB := hid hB
    clear hB AW
    go_wp2_with fail
    refine (AT.out _).mono ?_
    rintro e' w' ⟨rfl, rfl⟩
    go_wp2_with fail
    refine (RK.out _).mono ?_
    rintro e' w' ⟨rfl, rfl⟩
    go_wp2_with fail
    refine (AT2.out _).mono ?_
    rintro e' w' ⟨rfl, rfl⟩
    go_wp2_with fail
    refine (NG.out _).mono ?_
    rintro e' w' ⟨rfl, rfl⟩
    go_wp2_with fail
    refine (UP.out _).mono ?_
    rintro e' w' ⟨rfl, rfl⟩
    go_wp2_with fail
    refine (CM.out _).mono ?_
    rintro e' w' ⟨rfl, rfl⟩
    go_wp2_with fail
    refine (RU.out _).mono ?_
    rintro e' w' ⟨rfl, rfl⟩
    go_wp2_with fail
    refine (DN.out _).mono ?_
    rintro e' w' ⟨rfl, rfl⟩
    go_wp2_with fail
    go_ret
    exact ⟨by simp, HB.out⟩
  · have h' : (i == -1) = false := by rw [beq_eq_false_iff_ne]; exact h
    clear hl
    go_enter Tryd.func5, Tryd.ntmps5
    go_wp2_with fail
    refine AW.out.mono ?_
    rintro e' w1 ⟨rfl, hB⟩
    have HB := hid hB
    clear hB AW
    go_wp2_with fail
    refine (AT.out _).mono ?_
    rintro e' w' ⟨rfl, rfl⟩
    go_wp2_with fail
    refine (RK.out _).mono ?_
    rintro e' w' ⟨rfl, rfl⟩
    go_wp2_with fail
    refine (AT2.out _).mono ?_
    rintro e' w' ⟨rfl, rfl⟩
    go_wp2_with fail
    refine (NG.out _).mono ?_
    rintro e' w' ⟨rfl, rfl⟩
    go_wp2_with fail
    refine (UP.out _).mono ?_
    rintro e' w' ⟨rfl, rfl⟩
    go_wp2_with fail
    refine (CM.out _).mono ?_
    rintro e' w' ⟨rfl, rfl⟩
    go_wp2_with fail
    refine (RU.out _).mono ?_
    rintro e' w' ⟨rfl, rfl⟩
    go_wp2_with fail
    refine (DN.out _).mono ?_
    rintro e' w' ⟨rfl, rfl⟩
    go_wp2_with fail
    go_ret
    exact ⟨by simp, HB.out⟩

theorem ranks_any (i : Int) (w : World) (hT : Tab w) (l0 : -9223372036854775808 ≤ i) (l1 : i ≤ 9223372036854775807) :
    Calls Tryd.prog 5 #[.int .i64 i] w fun r w' => r = .returned (.bool true) ∧ Below w.heap.size w w'  := by
  by_cases h : i < -9218868437227405312 ∨ 9218868437227405312 < i
  · exact ranks_out i w hT l0 l1 h
  by_cases h1 : i = 0
  · subst h1; exact ranks_zero w hT
  by_cases h2 : i = 9218868437227405312
  · subst h2; exact ranks_inf w hT
  have ok : ∀ x : Int, x % 9223372036854775808 ≤ 9218868437227405312 → Ie.okd x = true := fun x hx => by rw [Ie.okd, decide_eq_true_iff]; exact hx
  have rv : ∀ x : Int, x % 9223372036854775808 ≤ 9218868437227405312 → Ie.rkv x = Ie.rk x := fun x hx => by rw [Ie.rkv, if_pos (ok x hx)]
  have up : ∀ x : Int, x % 9223372036854775808 ≤ 9218868437227405312 → Ie.upd x = if x = 9218868437227405312 then x else if x = 9223372036854775808 then 1 else if 9223372036854775808 < x then x - 1 else x + 1 := fun x hx => by rw [Ie.upd, ok x hx, if_neg (by decide)]
  have dn : ∀ x : Int, x % 9223372036854775808 ≤ 9218868437227405312 → Ie.dnd x = Ie.ng (Ie.upd (Ie.ng x)) := fun x hx => by rw [Ie.dnd, ok x hx, if_neg (by decide)]
  have cv : ∀ x y : Int, x % 9223372036854775808 ≤ 9218868437227405312 → y % 9223372036854775808 ≤ 9218868437227405312 → Ie.cmv x y = Ie.cm (Ie.rk x) (Ie.rk y) := fun x y hx hy => by rw [Ie.cmv, if_pos ⟨ok x hx, ok y hy⟩]
  have rl : ∀ x : Int, x < 9223372036854775808 → Ie.rk x = x := fun x hx => by rw [Ie.rk, if_pos hx]
  have rh : ∀ x : Int, 9223372036854775808 ≤ x → Ie.rk x = 9223372036854775808 - x := fun x hx => by rw [Ie.rk, if_neg (by omega)]
  have nl : ∀ x : Int, x < 9223372036854775808 → Ie.ng x = x + 9223372036854775808 := fun x hx => by rw [Ie.ng, if_pos hx]
  have nh : ∀ x : Int, 9223372036854775808 ≤ x → Ie.ng x = x - 9223372036854775808 := fun x hx => by rw [Ie.ng, if_neg (by omega)]
  have cg : ∀ x y : Int, y < x → Ie.cm x y = 1 := fun x y hx => by rw [Ie.cm, if_neg (by omega), if_pos hx]
  rcases (show 0 < i ∨ i < 0 by omega) with hp | hp
  · refine ranks_mid i i (i + 9223372036854775808) (i + 1) w hT (by omega) (by omega) (by omega) (by omega) (by omega) ?_ ?_ (ok _ (by omega)) ?_ ?_ ?_ ?_ (ok _ (by omega)) ?_ ?_ (by omega)
    · rw [Ie.atr, if_neg (by omega)]
    · rw [rv _ (by omega), Ie.rk, if_pos (by omega)]
    · rw [Ie.atr, if_pos (by omega)]; omega
    · rw [Ie.ng, if_pos (by omega)]
    · rw [up _ (by omega), if_neg (by omega), if_neg (by omega), if_neg (by omega)]
    · rw [cv _ _ (by omega) (by omega), rl _ (by omega), rl _ (by omega)]; exact cg _ _ (by omega)
    · rw [rv _ (by omega), Ie.rk, if_pos (by omega)]
    · rw [dn _ (by omega), nl (i + 1) (by omega), up _ (by omega), if_neg (by omega), if_neg (by omega), if_pos (by omega), nh _ (by omega)]
      omega
  · refine ranks_mid i (9223372036854775808 - i) (-i) (9223372036854775808 - i - 1) w hT (by omega) (by omega) (by omega) (by omega) (by omega) ?_ ?_ (ok _ (by omega)) ?_ ?_ ?_ ?_ (ok _ (by omega)) ?_ ?_ (by omega)
    · rw [Ie.atr, if_pos (by omega)]
    · rw [rv _ (by omega), Ie.rk, if_neg (by omega)]; omega
    · rw [Ie.atr, if_neg (by omega)]
    · rw [Ie.ng, if_neg (by omega)]; omega
    · rw [up _ (by omega), if_neg (by omega), if_neg (by omega), if_pos (by omega)]
    · rw [cv _ _ (by omega) (by omega), rh _ (by omega), rh _ (by omega)]; exact cg _ _ (by omega)
    · rw [rv _ (by omega), Ie.rk, if_neg (by omega)]; omega
    · rw [dn _ (by omega), nh (9223372036854775808 - i - 1) (by omega), up _ (by omega), if_neg (by omega), if_neg (by omega), if_neg (by omega), nl _ (by omega)]
      omega
end Go.Proofs.YtpnjafacoeinnaaDoor
