/-
  relate's heap: down, in general.
-/
import Derived.Test.YtigmhnlcmhpepaaGreatDoorReG
namespace Go.Proofs.YtigmhnlcmhpepaaGreatDoor
open Go Go.RowKit Go.Deep Go.Shelf

namespace Re
/-- The least of an entry and those below it, from the place b on. -/
def restF (E : List En) (m f b : Nat) : Nat :=
  if b ≤ 2 * m + 2 ∧ b < E.length then restF E m (if ct (E.getD b default).x (E.getD f default).x < 0 then b else f) (b + 1) else f
termination_by 2 * m + 3 - b
decreasing_by omega
theorem restF_go {E : List En} {m f b : Nat} (h : b ≤ 2 * m + 2 ∧ b < E.length) : restF E m f b = restF E m (if ct (E.getD b default).x (E.getD f default).x < 0 then b else f) (b + 1) := by rw [restF, if_pos h]
theorem restF_end {E : List En} {m f b : Nat} (h : ¬ (b ≤ 2 * m + 2 ∧ b < E.length)) : restF E m f b = f := by rw [restF, if_neg h]
theorem restF_b (E : List En) (m : Nat) : ∀ q f b, b + q = 2 * m + 3 → m < b → (f = m ∨ m < f) → f < E.length → (restF E m f b = m ∨ m < restF E m f b) ∧ restF E m f b < E.length := by
  intro q
  induction q with
  | zero =>
    intro f b hb mb hf hl
    rw [restF_end (by omega)]
    exact ⟨hf, hl⟩
  | succ q ih =>
    intro f b hb mb hf hl
    by_cases c : b ≤ 2 * m + 2 ∧ b < E.length
    · rw [restF_go c]
      split
      · exact ih b (b + 1) (by omega) (by omega) (.inr mb) c.2
      · exact ih f (b + 1) (by omega) (by omega) hf hl
    · rw [restF_end c]
      exact ⟨hf, hl⟩
def dnI (E : List En) (m : Nat) : Nat := restF E m m (2 * m + 1)
theorem dnI_b {E : List En} {m : Nat} (h : m < E.length) : (dnI E m = m ∨ m < dnI E m) ∧ dnI E m < E.length := restF_b E m 2 m (2 * m + 1) (by omega) (by omega) (.inl rfl) h
/-- An entry is lowered till none below is ahead of it. -/
def downF (E : List En) (i : Nat) : List En :=
  if _h : i < dnI E i ∧ dnI E i < E.length then downF (sw E i (dnI E i)) (dnI E i) else E
termination_by E.length - i
decreasing_by rw [sw_len]; omega
theorem downF_stop {E : List En} {i : Nat} (h : dnI E i = i) : downF E i = E := by rw [downF, dif_neg (by omega)]
theorem downF_go {E : List En} {i : Nat} (h : i < dnI E i) (h2 : dnI E i < E.length) : downF E i = downF (sw E i (dnI E i)) (dnI E i) := by
  conv => lhs; rw [downF]
  rw [dif_pos ⟨h, h2⟩]
end Re

set_option maxRecDepth 100000 in
set_option maxHeartbeats 8000000 in
theorem down_any (base h g cap : Nat) (E : List Re.En) (i : Nat) (w : World) (hh : Bx w h 74 #[.slice (some ⟨g, 0, none⟩) E.length cap, .func (.func 27) #[] #[]]) (hr : Re.RowE base w (.slice (some ⟨g, 0, none⟩) E.length cap) E) (hi : i < E.length) (hl : E.length ≤ 1000000000000) (hgh : h ≠ g) :
    Calls Tryz.prog 42 #[.pointer (some ⟨h, 0, none⟩), .int .i64 i] w fun e w' => e = .returned (.tuple #[]) ∧ Re.RowE base w' (.slice (some ⟨g, 0, none⟩) E.length cap) (Re.downF E i) ∧ Re.Kp (fun b => b = g) w w' := by
  have H0 : Hid (Re.RowE base w (.slice (some ⟨g, 0, none⟩) E.length cap) E ∧ Re.Kp (fun b => b = g) w w) := ⟨hr, Re.Kp.refl _ _⟩
  have HH := hid hh
  have HL := hid hl
  have HG := hid hgh
  clear hh hr hl hgh
  go_enter Tryz.func42, Tryz.ntmps42
  go_wp2_with fail
  go_loopg [1, 4, 5] (E.length - i) (fun q iv _ _ wr => ∃ (m : Nat) (E' : List Re.En), Hid (m + q = E.length) ∧ iv = .int .i64 (m : Int) ∧ m < E'.length ∧ Hid (E'.length = E.length) ∧ Hid (Re.RowE base wr (.slice (some ⟨g, 0, none⟩) E.length cap) E' ∧ Re.Kp (fun b => b = g) w wr ∧ Re.downF E' m = Re.downF E i))
  case atStart => exact ⟨i, E, show i + (E.length - i) = E.length by omega, rfl, hi, rfl, H0.out.1, H0.out.2, rfl⟩
  case round =>
    obtain ⟨m, E', HQ, rfl, hm, hlen, I⟩ := hrel
    have mE : (m : Int) < (E.length : Int) := by have := hlen.out; omega
    have lE : (E.length : Int) ≤ 1000000000000 := by have := HL.out; omega
    have w1 : IntKind.i64.wrap (2 * (m : Int)) = 2 * (m : Int) := by rw [IntKind.wrap_i64]; omega
    have w2 : IntKind.i64.wrap (2 * (m : Int) + 1) = 2 * (m : Int) + 1 := by rw [IntKind.wrap_i64]; omega
    have w3 : IntKind.i64.wrap (2 * (m : Int) + 2) = 2 * (m : Int) + 2 := by rw [IntKind.wrap_i64]; omega
    clear H0
    go_wp2_with fail
    go_loopg [4, 5] 2 (fun q fv bv wr => ∃ f b : Nat, Hid (b + q = 2 * m + 3) ∧ fv = .int .i64 (f : Int) ∧ bv = .int .i64 (b : Int) ∧ Hid (m < b) ∧ Hid (f = m ∨ m < f) ∧ f < E'.length ∧ Hid (Re.RowE base wr (.slice (some ⟨g, 0, none⟩) E.length cap) E' ∧ Re.Kp (fun b => b = g) w wr) ∧ Hid (Re.restF E' m f b = Re.dnI E' m))
    case atStart => exact ⟨m, 2 * m + 1, show 2 * m + 1 + 2 = 2 * m + 3 by omega, rfl, by rw [show ((2 * m + 1 : Nat) : Int) = 2 * (m : Int) + 1 by omega], show m < 2 * m + 1 by omega, .inl rfl, hm, ⟨I.out.1, I.out.2.1⟩, rfl⟩
    case round =>
      obtain ⟨f, b, HB, rfl, rfl, mb, hf, fl, K, RS⟩ := hrel
      have fE : (f : Int) < (E.length : Int) := by have := hlen.out; omega
      have HH0 : Hid (∀ W, Re.Kp (fun b => b = g) w W → W.cell? ⟨h, 0, none⟩ = some (.slice (some ⟨g, 0, none⟩) E.length cap)) := fun W k => (HH.out.kp k HG.out).cell 0 _ rfl
      have h0 := HH0.out _ K.out.2
      by_cases cond : b ≤ 2 * m + 2 ∧ b < E'.length
      · have c1 : (b : Int) ≤ 2 * (m : Int) + 2 := by omega
        have c2 : (b : Int) < (E.length : Int) := by have := hlen.out; omega
        have wb : IntKind.i64.wrap ((b : Int) + 1) = (b : Int) + 1 := by rw [IntKind.wrap_i64]; omega
        obtain ⟨x, hx⟩ : ∃ x, E'[b]? = some x := ⟨_, List.getElem?_eq_getElem cond.2⟩
        obtain ⟨y, hy⟩ : ∃ y, E'[f]? = some y := ⟨_, List.getElem?_eq_getElem fl⟩
        obtain ⟨t, p, u, ea, -⟩ := Re.ee_ex x
        obtain ⟨t', p', u', eb, -⟩ := Re.ee_ex y
        have AH : Hid (∀ W : World, Calls Tryz.prog 27 #[.agg #[.bool t, .int .i64 p, .string u, .int .i64 x.x.i, .int .i64 x.k, .int .u64 x.n, .string x.s], .agg #[.bool t', .int .i64 p', .string u', .int .i64 y.x.i, .int .i64 y.k, .int .u64 y.n, .string y.s]] W fun e w' => e = .returned (.bool (decide (Re.ct x.x y.x < 0))) ∧ Below W.heap.size W w') := fun W => by have := ahead_any x y W; rw [ea, eb] at this; exact this
        have gx : E'.getD b default = x := by rw [List.getD_eq_getElem?_getD, hx]; rfl
        have gy : E'.getD f default = y := by rw [List.getD_eq_getElem?_getD, hy]; rfl
        have hlen2 := hlen.out
        have ST : Hid (∀ W : World, (Re.RowE base W (.slice (some ⟨g, 0, none⟩) E.length cap) E' ∧ Re.Kp (fun b => b = g) w W) →
          (W.cell? ⟨h, 0, none⟩ = some (.slice (some ⟨g, 0, none⟩) E.length cap) ∧ W.cell? ⟨h, 1, none⟩ = some (.func (.func 27) #[] #[])) ∧
          (W.cell? ⟨g, b * 7, none⟩ = some (.bool t) ∧ W.cell? ⟨g, b * 7 + 1, none⟩ = some (.int .i64 p) ∧ W.cell? ⟨g, b * 7 + 2, none⟩ = some (.string u) ∧ W.cell? ⟨g, b * 7 + 3, none⟩ = some (.int .i64 x.x.i) ∧ W.cell? ⟨g, b * 7 + 4, none⟩ = some (.int .i64 x.k) ∧ W.cell? ⟨g, b * 7 + 5, none⟩ = some (.int .u64 x.n) ∧ W.cell? ⟨g, b * 7 + 6, none⟩ = some (.string x.s)) ∧
          (W.cell? ⟨g, f * 7, none⟩ = some (.bool t') ∧ W.cell? ⟨g, f * 7 + 1, none⟩ = some (.int .i64 p') ∧ W.cell? ⟨g, f * 7 + 2, none⟩ = some (.string u') ∧ W.cell? ⟨g, f * 7 + 3, none⟩ = some (.int .i64 y.x.i) ∧ W.cell? ⟨g, f * 7 + 4, none⟩ = some (.int .i64 y.k) ∧ W.cell? ⟨g, f * 7 + 5, none⟩ = some (.int .u64 y.n) ∧ W.cell? ⟨g, f * 7 + 6, none⟩ = some (.string y.s))) := fun W rk => by
          obtain ⟨r, k⟩ := rk
          have b := HH.out.kp k HG.out
          rw [← hlen2] at r
          exact ⟨⟨b.cell 0 _ rfl, b.cell 1 _ rfl⟩, ⟨r.cell hx 0 (by omega) _ (by rw [ea]; rfl), r.cell hx 1 (by omega) _ (by rw [ea]; rfl), r.cell hx 2 (by omega) _ (by rw [ea]; rfl), r.cell hx 3 (by omega) _ (by rw [ea]; rfl), r.cell hx 4 (by omega) _ (by rw [ea]; rfl), r.cell hx 5 (by omega) _ (by rw [ea]; rfl), r.cell hx 6 (by omega) _ (by rw [ea]; rfl)⟩, ⟨r.cell hy 0 (by omega) _ (by rw [eb]; rfl), r.cell hy 1 (by omega) _ (by rw [eb]; rfl), r.cell hy 2 (by omega) _ (by rw [eb]; rfl), r.cell hy 3 (by omega) _ (by rw [eb]; rfl), r.cell hy 4 (by omega) _ (by rw [eb]; rfl), r.cell hy 5 (by omega) _ (by rw [eb]; rfl), r.cell hy 6 (by omega) _ (by rw [eb]; rfl)⟩⟩
        have GO := Re.restF_go (E := E') (m := m) (f := f) (b := b) cond
        rw [gx, gy] at GO
        have GO := hid GO
        have T0 : Hid (Re.RowE base wr.drew (.slice (some ⟨g, 0, none⟩) E.length cap) E' ∧ Re.Kp (fun b => b = g) w wr.drew) := ⟨K.out.1.below (Below.drew (Below.refl _ _)), K.out.2.trans (Re.Kp.of (Below.drew (Below.refl _ _)))⟩
        have MK : Hid (∀ w5 : World, Below wr.drew.heap.size wr.drew w5 → Re.RowE base w5 (.slice (some ⟨g, 0, none⟩) E.length cap) E' ∧ Re.Kp (fun b => b = g) w w5) := fun w5 hB => ⟨T0.out.1.below hB, T0.out.2.trans (Re.Kp.of hB)⟩
        clear ea eb hx hy gx gy hlen2
        rcases Int.lt_or_le (Re.ct x.x y.x) 0 with c | c
        · have G2 : Hid (Re.restF E' m b (b + 1) = Re.dnI E' m) := by rw [Hid, ← RS.out, GO.out, if_pos c]
          rw [decide_eq_true c] at AH
          clear c GO
          go_upto_region 4 with fail
          go_region_held3 (fun wx => (wx.cell? ⟨h, 0, none⟩ = some (.slice (some ⟨g, 0, none⟩) E.length cap) ∧ wx.cell? ⟨h, 1, none⟩ = some (.func (.func 27) #[] #[])) ∧
            (wx.cell? ⟨g, b * 7, none⟩ = some (.bool t) ∧ wx.cell? ⟨g, b * 7 + 1, none⟩ = some (.int .i64 p) ∧ wx.cell? ⟨g, b * 7 + 2, none⟩ = some (.string u) ∧ wx.cell? ⟨g, b * 7 + 3, none⟩ = some (.int .i64 x.x.i) ∧ wx.cell? ⟨g, b * 7 + 4, none⟩ = some (.int .i64 x.k) ∧ wx.cell? ⟨g, b * 7 + 5, none⟩ = some (.int .u64 x.n) ∧ wx.cell? ⟨g, b * 7 + 6, none⟩ = some (.string x.s)) ∧
            (wx.cell? ⟨g, f * 7, none⟩ = some (.bool t') ∧ wx.cell? ⟨g, f * 7 + 1, none⟩ = some (.int .i64 p') ∧ wx.cell? ⟨g, f * 7 + 2, none⟩ = some (.string u') ∧ wx.cell? ⟨g, f * 7 + 3, none⟩ = some (.int .i64 y.x.i) ∧ wx.cell? ⟨g, f * 7 + 4, none⟩ = some (.int .i64 y.k) ∧ wx.cell? ⟨g, f * 7 + 5, none⟩ = some (.int .u64 y.n) ∧ wx.cell? ⟨g, f * 7 + 6, none⟩ = some (.string y.s))) (first | (with_reducible exact ST.out _ T1.out) | (with_reducible exact ST.out _ T0.out)) (first
            | (go_at_call 27; with_reducible refine (AH.out _).mono ?_; rintro e w5 ⟨rfl, hB⟩; have T1 := hid (MK.out w5 hB); clear hB))
          clear ST AH MK T0
          go_wp2_with fail
          go_roundg (2 * m + 2 - b)
          case measure => have := HB.out; omega
          case rel => exact ⟨b, b + 1, show b + 1 + (2 * m + 2 - b) = 2 * m + 3 by omega, rfl, by go_num, show m < b + 1 by have := mb.out; omega, .inr mb.out, cond.2, T1, G2⟩
        · have G2 : Hid (Re.restF E' m f (b + 1) = Re.dnI E' m) := by rw [Hid, ← RS.out, GO.out, if_neg (by omega)]
          rw [decide_eq_false (by omega)] at AH
          clear c GO
          go_upto_region 4 with fail
          go_region_held3 (fun wx => (wx.cell? ⟨h, 0, none⟩ = some (.slice (some ⟨g, 0, none⟩) E.length cap) ∧ wx.cell? ⟨h, 1, none⟩ = some (.func (.func 27) #[] #[])) ∧
            (wx.cell? ⟨g, b * 7, none⟩ = some (.bool t) ∧ wx.cell? ⟨g, b * 7 + 1, none⟩ = some (.int .i64 p) ∧ wx.cell? ⟨g, b * 7 + 2, none⟩ = some (.string u) ∧ wx.cell? ⟨g, b * 7 + 3, none⟩ = some (.int .i64 x.x.i) ∧ wx.cell? ⟨g, b * 7 + 4, none⟩ = some (.int .i64 x.k) ∧ wx.cell? ⟨g, b * 7 + 5, none⟩ = some (.int .u64 x.n) ∧ wx.cell? ⟨g, b * 7 + 6, none⟩ = some (.string x.s)) ∧
            (wx.cell? ⟨g, f * 7, none⟩ = some (.bool t') ∧ wx.cell? ⟨g, f * 7 + 1, none⟩ = some (.int .i64 p') ∧ wx.cell? ⟨g, f * 7 + 2, none⟩ = some (.string u') ∧ wx.cell? ⟨g, f * 7 + 3, none⟩ = some (.int .i64 y.x.i) ∧ wx.cell? ⟨g, f * 7 + 4, none⟩ = some (.int .i64 y.k) ∧ wx.cell? ⟨g, f * 7 + 5, none⟩ = some (.int .u64 y.n) ∧ wx.cell? ⟨g, f * 7 + 6, none⟩ = some (.string y.s))) (first | (with_reducible exact ST.out _ T1.out) | (with_reducible exact ST.out _ T0.out)) (first
            | (go_at_call 27; with_reducible refine (AH.out _).mono ?_; rintro e w5 ⟨rfl, hB⟩; have T1 := hid (MK.out w5 hB); clear hB))
          clear ST AH MK T0
          go_wp2_with fail
          go_roundg (2 * m + 2 - b)
          case measure => have := HB.out; omega
          case rel => exact ⟨f, b + 1, show b + 1 + (2 * m + 2 - b) = 2 * m + 3 by omega, rfl, by go_num, show m < b + 1 by have := mb.out; omega, hf, fl, T1, G2⟩
      · have fd : Hid (f = Re.dnI E' m) := by rw [Hid, ← RS.out, Re.restF_end cond]
        have cs : ¬ (b : Int) ≤ 2 * (m : Int) + 2 ∨ ((b : Int) ≤ 2 * (m : Int) + 2 ∧ ¬ (b : Int) < (E.length : Int)) := by have := hlen.out; omega
        have SWP : Hid (Re.Kp (fun b => b = g) w wr → Calls Tryz.prog 53 #[.pointer (some ⟨h, 0, none⟩), .int .i64 (m : Int), .int .i64 (f : Int)] wr fun e w' => e = .returned (.tuple #[]) ∧ Re.RowE base w' (.slice (some ⟨g, 0, none⟩) E.length cap) (Re.sw E' m f) ∧ Re.Kp (fun b => b = g) w w') := fun k => by
          have b := HH.out.kp k HG.out
          have r := K.out.1
          have hlen2 := hlen.out
          rw [← hlen2] at r b
          refine (swap_any base h g cap E' m f _ wr b r hm fl (by have := HL.out; omega) HG.out).mono ?_
          rintro e w' ⟨rfl, r', k'⟩
          exact ⟨rfl, by rw [← hlen2]; exact r', k.trans k'⟩
        by_cases fm : f = m
        · have R : Hid (Re.RowE base wr (.slice (some ⟨g, 0, none⟩) E.length cap) (Re.downF E i) ∧ Re.Kp (fun b => b = g) w wr) := ⟨by rw [← I.out.2.2, Re.downF_stop (by rw [← fd.out, fm])]; exact K.out.1, K.out.2⟩
          clear I K SWP RS
          subst fm
          rcases cs with c1 | ⟨c1, c2⟩
          · go_wp2_with fail
            (try simp only [Exit.inBlock, Exit.then])
            refine bodyPost_ret (results_none rfl _ _ _) rfl ?_
            exact ⟨rfl, R.out⟩
          · go_wp2_with fail
            (try simp only [Exit.inBlock, Exit.then])
            refine bodyPost_ret (results_none rfl _ _ _) rfl ?_
            exact ⟨rfl, R.out⟩
        · have fn : ¬ ((f : Int) = (m : Int)) := by omega
          have mf : m < f := by rcases hf.out with z | z; exact absurd z fm; exact z
          have GO : Hid (Re.downF (Re.sw E' m f) f = Re.downF E i) := by
            have e := Re.downF_go (E := E') (i := m) (by rw [← fd.out]; exact mf) (by rw [← fd.out]; exact fl)
            rw [← fd.out] at e
            rw [Hid, ← I.out.2.2, e]
          rcases cs with c1 | ⟨c1, c2⟩
          · go_wp2_with fail
            refine (SWP.out K.out.2).mono ?_
            rintro e w6 ⟨rfl, r6, k6⟩
            have T6 := hid (And.intro r6 k6)
            clear r6 k6 SWP K I
            go_wp2_with fail
            go_roundg (E.length - f)
            case measure => have := HQ.out; have := hlen.out; omega
            case rel => exact ⟨f, Re.sw E' m f, show f + (E.length - f) = E.length by omega, rfl, by rw [Re.sw_len]; exact fl, by rw [Hid, Re.sw_len]; exact hlen.out, T6.out.1, T6.out.2, GO.out⟩
          · go_wp2_with fail
            refine (SWP.out K.out.2).mono ?_
            rintro e w6 ⟨rfl, r6, k6⟩
            have T6 := hid (And.intro r6 k6)
            clear r6 k6 SWP K I
            go_wp2_with fail
            go_roundg (E.length - f)
            case measure => have := HQ.out; have := hlen.out; omega
            case rel => exact ⟨f, Re.sw E' m f, show f + (E.length - f) = E.length by omega, rfl, by rw [Re.sw_len]; exact fl, by rw [Hid, Re.sw_len]; exact hlen.out, T6.out.1, T6.out.2, GO.out⟩
end Go.Proofs.YtigmhnlcmhpepaaGreatDoor
