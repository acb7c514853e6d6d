/-
  relate's queue: up.
-/
import Derived.Test.YtpmmbaahoegmlaaGreatDoorReF2
import Derived.Deep.LoopGhost
namespace Go.Proofs.YtpmmbaahoegmlaaGreatDoor
open Go Go.RowKit Go.Deep Go.Shelf

namespace Re
theorem sw_len (E : List En) (i j : Nat) : (sw E i j).length = E.length := by simp [sw]
/-- An entry is lifted till it isn't ahead of the one above it. -/
def upF (E : List En) (i : Nat) : List En :=
  if i = 0 then E else if ct (E.getD i default).x (E.getD ((i - 1) / 2) default).x < 0 then upF (sw E i ((i - 1) / 2)) ((i - 1) / 2) else E
termination_by i
decreasing_by omega
theorem upF_zero (E : List En) : upF E 0 = E := by rw [upF, if_pos rfl]
theorem upF_stop {E : List En} {i : Nat} (h : ¬ ct (E.getD i default).x (E.getD ((i - 1) / 2) default).x < 0) : upF E i = E := by
  rw [upF]
  by_cases c : i = 0
  · rw [if_pos c]
  · rw [if_neg c, if_neg h]
theorem upF_go {E : List En} {i : Nat} (h0 : i ≠ 0) (h : ct (E.getD i default).x (E.getD ((i - 1) / 2) default).x < 0) : upF E i = upF (sw E i ((i - 1) / 2)) ((i - 1) / 2) := by
  rw [upF, if_neg h0, if_pos h]
end Re

set_option maxRecDepth 100000 in
set_option maxHeartbeats 4000000 in
theorem up_any (base h g cap : Nat) (E : List Re.En) (i : Nat) (w : World) (hh : Bx w h 92 #[.slice (some ⟨g, 0, none⟩) E.length cap, .func (.func 40) #[] #[]]) (hr : Re.RowE base w (.slice (some ⟨g, 0, none⟩) E.length cap) E) (hi : i < E.length) (hl : E.length ≤ 1000000000000) (hgh : h ≠ g) :
    Calls Tryz.prog 65 #[.pointer (some ⟨h, 0, none⟩), .int .i64 i] w fun e w' => e = .returned (.tuple #[]) ∧ Re.RowE base w' (.slice (some ⟨g, 0, none⟩) E.length cap) (Re.upF E i) ∧ Re.Kp (fun b => b = g) w w' := by
  have H0 : Hid (Re.RowE base w (.slice (some ⟨g, 0, none⟩) E.length cap) E ∧ Re.Kp (fun b => b = g) w w) := ⟨hr, Re.Kp.refl _ _⟩
  have HH := hid hh
  have HL := hid hl
  have HG := hid hgh
  clear hh hr hl hgh
  go_enter Tryz.func65, Tryz.ntmps65
  go_wp2_with fail
  go_loopg [1, 4] i (fun q iv _ wr => ∃ (m : Nat) (E' : List Re.En), m = q ∧ iv = .int .i64 (m : Int) ∧ m < E'.length ∧ E'.length = E.length ∧ Hid (Re.RowE base wr (.slice (some ⟨g, 0, none⟩) E.length cap) E' ∧ Re.Kp (fun b => b = g) w wr ∧ Re.upF E' m = Re.upF E i))
  case atStart => exact ⟨i, E, rfl, rfl, hi, rfl, H0.out.1, H0.out.2, rfl⟩
  case round =>
    obtain ⟨m, E', hmq, rfl, hm, hlen, I⟩ := hrel
    have HQ := hid hmq
    clear hmq
    rcases Nat.eq_zero_or_pos m with m0 | m0
    · subst m0
      have R : Hid (Re.RowE base wr (.slice (some ⟨g, 0, none⟩) E.length cap) (Re.upF E i) ∧ Re.Kp (fun b => b = g) w wr) := ⟨by rw [← I.out.2.2, Re.upF_zero]; exact I.out.1, I.out.2.1⟩
      clear I
      go_wp2_with fail
      go_end0
      exact ⟨rfl, R.out⟩
    · obtain ⟨a, ha⟩ : ∃ a, (m - 1) / 2 = a := ⟨_, rfl⟩
      have mi : (0 : Int) < (m : Int) := by omega
      have w1 : IntKind.i64.wrap ((m : Int) - 1) = (m : Int) - 1 := by have := HL.out; rw [IntKind.wrap_i64]; omega
      have w2 : ((m : Int) - 1).tdiv 2 = (a : Int) := by rw [Int.tdiv_eq_ediv_of_nonneg (by omega)]; omega
      have w3 : IntKind.i64.wrap (a : Int) = (a : Int) := by have := HL.out; rw [IntKind.wrap_i64]; omega
      have am : a < m := by omega
      obtain ⟨x, hx⟩ : ∃ x, E'[m]? = some x := ⟨_, List.getElem?_eq_getElem hm⟩
      obtain ⟨y, hy⟩ : ∃ y, E'[a]? = some y := ⟨_, List.getElem?_eq_getElem (by omega)⟩
      obtain ⟨t, p, u, ea, -⟩ := Re.ee_ex x
      obtain ⟨t', p', u', eb, -⟩ := Re.ee_ex y
      have AH : Hid (∀ W : World, Calls Tryz.prog 40 #[.agg #[.bool t, .int .i64 p, .string u, .int .i64 x.x.i, .int .i64 x.k, .int .u64 x.n, .string x.s], .agg #[.bool t', .int .i64 p', .string u', .int .i64 y.x.i, .int .i64 y.k, .int .u64 y.n, .string y.s]] W fun e w' => e = .returned (.bool (decide (Re.ct x.x y.x < 0))) ∧ Below W.heap.size W w') := fun W => by have := ahead_any x y W; rw [ea, eb] at this; exact this
      have gx : E'.getD m default = x := by rw [List.getD_eq_getElem?_getD, hx]; rfl
      have gy : E'.getD ((m - 1) / 2) default = y := by rw [ha, List.getD_eq_getElem?_getD, hy]; rfl
      have ST : Hid (∀ W : World, (Re.RowE base W (.slice (some ⟨g, 0, none⟩) E.length cap) E' ∧ Re.Kp (fun b => b = g) w W) →
        (W.cell? ⟨h, 0, none⟩ = some (.slice (some ⟨g, 0, none⟩) E.length cap) ∧ W.cell? ⟨h, 1, none⟩ = some (.func (.func 40) #[] #[])) ∧
        (W.cell? ⟨g, m * 7, none⟩ = some (.bool t) ∧ W.cell? ⟨g, m * 7 + 1, none⟩ = some (.int .i64 p) ∧ W.cell? ⟨g, m * 7 + 2, none⟩ = some (.string u) ∧ W.cell? ⟨g, m * 7 + 3, none⟩ = some (.int .i64 x.x.i) ∧ W.cell? ⟨g, m * 7 + 4, none⟩ = some (.int .i64 x.k) ∧ W.cell? ⟨g, m * 7 + 5, none⟩ = some (.int .u64 x.n) ∧ W.cell? ⟨g, m * 7 + 6, none⟩ = some (.string x.s)) ∧
        (W.cell? ⟨g, a * 7, none⟩ = some (.bool t') ∧ W.cell? ⟨g, a * 7 + 1, none⟩ = some (.int .i64 p') ∧ W.cell? ⟨g, a * 7 + 2, none⟩ = some (.string u') ∧ W.cell? ⟨g, a * 7 + 3, none⟩ = some (.int .i64 y.x.i) ∧ W.cell? ⟨g, a * 7 + 4, none⟩ = some (.int .i64 y.k) ∧ W.cell? ⟨g, a * 7 + 5, none⟩ = some (.int .u64 y.n) ∧ W.cell? ⟨g, a * 7 + 6, none⟩ = some (.string y.s))) := fun W rk => by
        obtain ⟨r, k⟩ := rk
        have b := HH.out.kp k HG.out
        rw [← hlen] at r
        exact ⟨⟨b.cell 0 _ rfl, b.cell 1 _ rfl⟩, ⟨r.cell hx 0 (by omega) _ (by rw [ea]; rfl), r.cell hx 1 (by omega) _ (by rw [ea]; rfl), r.cell hx 2 (by omega) _ (by rw [ea]; rfl), r.cell hx 3 (by omega) _ (by rw [ea]; rfl), r.cell hx 4 (by omega) _ (by rw [ea]; rfl), r.cell hx 5 (by omega) _ (by rw [ea]; rfl), r.cell hx 6 (by omega) _ (by rw [ea]; rfl)⟩, ⟨r.cell hy 0 (by omega) _ (by rw [eb]; rfl), r.cell hy 1 (by omega) _ (by rw [eb]; rfl), r.cell hy 2 (by omega) _ (by rw [eb]; rfl), r.cell hy 3 (by omega) _ (by rw [eb]; rfl), r.cell hy 4 (by omega) _ (by rw [eb]; rfl), r.cell hy 5 (by omega) _ (by rw [eb]; rfl), r.cell hy 6 (by omega) _ (by rw [eb]; rfl)⟩⟩
      have mE : (m : Int) < (E.length : Int) := by omega
      have aE : (a : Int) < (E.length : Int) := by omega
      have lE : (E.length : Int) ≤ 1000000000000 := by have := HL.out; omega
      have RST : Hid (∀ W : World, Re.RowE base W (.slice (some ⟨g, 0, none⟩) E.length cap) E' → Re.Kp (fun b => b = g) w W → ¬ Re.ct x.x y.x < 0 → Re.RowE base W (.slice (some ⟨g, 0, none⟩) E.length cap) (Re.upF E i) ∧ Re.Kp (fun b => b = g) w W) := fun W r k c => ⟨by rw [← I.out.2.2, Re.upF_stop (by rw [gx, gy]; exact c)]; exact r, k⟩
      have RGO : Hid (Re.ct x.x y.x < 0 → Re.upF (Re.sw E' m a) a = Re.upF E i) := fun c => by
        have e := Re.upF_go (E := E') (i := m) (by omega) (by rw [gx, gy]; exact c)
        rw [ha] at e
        rw [← I.out.2.2, e]
      have SWP : Hid (∀ W : World, Re.RowE base W (.slice (some ⟨g, 0, none⟩) E.length cap) E' → Re.Kp (fun b => b = g) w W → Calls Tryz.prog 81 #[.pointer (some ⟨h, 0, none⟩), .int .i64 (m : Int), .int .i64 (a : Int)] W fun e w' => e = .returned (.tuple #[]) ∧ Re.RowE base w' (.slice (some ⟨g, 0, none⟩) E.length cap) (Re.sw E' m a) ∧ Re.Kp (fun b => b = g) w w') := fun W r k => by
        have b := HH.out.kp k HG.out
        rw [← hlen] at r b
        refine (swap_any base h g cap E' m a _ W b r hm (by omega) (by have := HL.out; omega) HG.out).mono ?_
        rintro e w' ⟨rfl, r', k'⟩
        exact ⟨rfl, by rw [← hlen]; exact r', k.trans k'⟩
      have I0 : Hid (Re.RowE base wr (.slice (some ⟨g, 0, none⟩) E.length cap) E' ∧ Re.Kp (fun b => b = g) w wr) := ⟨I.out.1, I.out.2.1⟩
      have T0 : Hid (Re.RowE base wr.drew (.slice (some ⟨g, 0, none⟩) E.length cap) E' ∧ Re.Kp (fun b => b = g) w wr.drew) := ⟨I.out.1.below (Below.drew (Below.refl _ _)), I.out.2.1.trans (Re.Kp.of (Below.drew (Below.refl _ _)))⟩
      have MK : Hid (∀ w5 : World, Below wr.drew.heap.size wr.drew w5 → Re.RowE base w5 (.slice (some ⟨g, 0, none⟩) E.length cap) E' ∧ Re.Kp (fun b => b = g) w w5) := fun w5 hB => ⟨T0.out.1.below hB, T0.out.2.trans (Re.Kp.of hB)⟩
      clear I ha gx gy ea eb hx hy
      rcases Int.lt_or_le (Re.ct x.x y.x) 0 with c | c
      · have GO := hid (RGO.out c)
        rw [decide_eq_true c] at AH
        clear RST RGO c
        go_upto_region 2 with fail
        go_region_held3 (fun wx => (wx.cell? ⟨h, 0, none⟩ = some (.slice (some ⟨g, 0, none⟩) E.length cap) ∧ wx.cell? ⟨h, 1, none⟩ = some (.func (.func 40) #[] #[])) ∧
          (wx.cell? ⟨g, m * 7, none⟩ = some (.bool t) ∧ wx.cell? ⟨g, m * 7 + 1, none⟩ = some (.int .i64 p) ∧ wx.cell? ⟨g, m * 7 + 2, none⟩ = some (.string u) ∧ wx.cell? ⟨g, m * 7 + 3, none⟩ = some (.int .i64 x.x.i) ∧ wx.cell? ⟨g, m * 7 + 4, none⟩ = some (.int .i64 x.k) ∧ wx.cell? ⟨g, m * 7 + 5, none⟩ = some (.int .u64 x.n) ∧ wx.cell? ⟨g, m * 7 + 6, none⟩ = some (.string x.s)) ∧
          (wx.cell? ⟨g, a * 7, none⟩ = some (.bool t') ∧ wx.cell? ⟨g, a * 7 + 1, none⟩ = some (.int .i64 p') ∧ wx.cell? ⟨g, a * 7 + 2, none⟩ = some (.string u') ∧ wx.cell? ⟨g, a * 7 + 3, none⟩ = some (.int .i64 y.x.i) ∧ wx.cell? ⟨g, a * 7 + 4, none⟩ = some (.int .i64 y.k) ∧ wx.cell? ⟨g, a * 7 + 5, none⟩ = some (.int .u64 y.n) ∧ wx.cell? ⟨g, a * 7 + 6, none⟩ = some (.string y.s))) (first | (with_reducible exact ST.out _ T1.out) | (with_reducible exact ST.out _ T0.out)) (first
          | (go_at_call 40; with_reducible refine (AH.out _).mono ?_; rintro e w5 ⟨rfl, hB⟩; have T1 := hid (MK.out w5 hB); clear hB))
        clear ST AH MK T0 HH I0
        go_wp2_with fail
        refine (SWP.out _ T1.out.1 T1.out.2).mono ?_
        rintro e w6 ⟨rfl, r6, k6⟩
        have T6 := hid (And.intro r6 k6)
        clear r6 k6 SWP T1
        go_wp2_with fail
        go_roundg a
        case measure => have := HQ.out; omega
        case rel => exact ⟨a, Re.sw E' m a, rfl, by go_num, by rw [Re.sw_len]; omega, by rw [Re.sw_len]; exact hlen, T6.out.1, T6.out.2, GO.out⟩
      · have RS : Hid (∀ W : World, Re.RowE base W (.slice (some ⟨g, 0, none⟩) E.length cap) E' ∧ Re.Kp (fun b => b = g) w W → Re.RowE base W (.slice (some ⟨g, 0, none⟩) E.length cap) (Re.upF E i) ∧ Re.Kp (fun b => b = g) w W) := fun W rk => RST.out W rk.1 rk.2 (by omega)
        rw [decide_eq_false (by omega)] at AH
        clear RST RGO c SWP
        go_upto_region 2 with fail
        go_region_held3 (fun wx => (wx.cell? ⟨h, 0, none⟩ = some (.slice (some ⟨g, 0, none⟩) E.length cap) ∧ wx.cell? ⟨h, 1, none⟩ = some (.func (.func 40) #[] #[])) ∧
          (wx.cell? ⟨g, m * 7, none⟩ = some (.bool t) ∧ wx.cell? ⟨g, m * 7 + 1, none⟩ = some (.int .i64 p) ∧ wx.cell? ⟨g, m * 7 + 2, none⟩ = some (.string u) ∧ wx.cell? ⟨g, m * 7 + 3, none⟩ = some (.int .i64 x.x.i) ∧ wx.cell? ⟨g, m * 7 + 4, none⟩ = some (.int .i64 x.k) ∧ wx.cell? ⟨g, m * 7 + 5, none⟩ = some (.int .u64 x.n) ∧ wx.cell? ⟨g, m * 7 + 6, none⟩ = some (.string x.s)) ∧
          (wx.cell? ⟨g, a * 7, none⟩ = some (.bool t') ∧ wx.cell? ⟨g, a * 7 + 1, none⟩ = some (.int .i64 p') ∧ wx.cell? ⟨g, a * 7 + 2, none⟩ = some (.string u') ∧ wx.cell? ⟨g, a * 7 + 3, none⟩ = some (.int .i64 y.x.i) ∧ wx.cell? ⟨g, a * 7 + 4, none⟩ = some (.int .i64 y.k) ∧ wx.cell? ⟨g, a * 7 + 5, none⟩ = some (.int .u64 y.n) ∧ wx.cell? ⟨g, a * 7 + 6, none⟩ = some (.string y.s))) (first | (with_reducible exact ST.out _ T1.out) | (with_reducible exact ST.out _ T0.out)) (first
          | (go_at_call 40; with_reducible refine (AH.out _).mono ?_; rintro e w5 ⟨rfl, hB⟩; have T1 := hid (MK.out w5 hB); clear hB))
        have R := hid (RS.out _ T1.out)
        clear ST AH MK T0 HH I0 T1 RS
        go_wp2_with fail
        (try simp only [Exit.inBlock, Exit.then])
        refine bodyPost_ret (results_none rfl _ _ _) rfl ?_
        exact ⟨rfl, R.out⟩
end Go.Proofs.YtpmmbaahoegmlaaGreatDoor
