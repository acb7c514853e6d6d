/-
  Texts put together: ReG, ReH.
-/
import Derived.Test.YtigmhnlcmhpepaaGreatDoorReF2
import Derived.Deep.LoopGhost
namespace Go.Proofs.YtigmhnlcmhpepaaGreatDoor
open Go Go.RowKit Go.Deep Go.Shelf

namespace Re
theorem sw_len (E : List En) (i j : Nat) : (sw E i j).length = E.length := by simp [sw]
/-- An entry is lifted till it isn't ahead of the one above it. -/
def upF (E : List En) (i : Nat) : List En :=
  if i = 0 then E else if ct (E.getD i default).x (E.getD ((i - 1) / 2) default).x < 0 then upF (sw E i ((i - 1) / 2)) ((i - 1) / 2) else E
termination_by i
decreasing_by omega
theorem upF_zero (E : List En) : upF E 0 = E := by rw [upF, if_pos rfl]
theorem upF_stop {E : List En} {i : Nat} (h : ¬ ct (E.getD i default).x (E.getD ((i - 1) / 2) default).x < 0) : upF E i = E := by
  rw [upF]
  by_cases c : i = 0
  · rw [if_pos c]
  · rw [if_neg c, if_neg h]
theorem upF_go {E : List En} {i : Nat} (h0 : i ≠ 0) (h : ct (E.getD i default).x (E.getD ((i - 1) / 2) default).x < 0) : upF E i = upF (sw E i ((i - 1) / 2)) ((i - 1) / 2) := by
  rw [upF, if_neg h0, if_pos h]
end Re

set_option maxRecDepth 100000 in
set_option maxHeartbeats 4000000 in
theorem up_any (base h g cap : Nat) (E : List Re.En) (i : Nat) (w : World) (hh : Bx w h 74 #[.slice (some ⟨g, 0, none⟩) E.length cap, .func (.func 27) #[] #[]]) (hr : Re.RowE base w (.slice (some ⟨g, 0, none⟩) E.length cap) E) (hi : i < E.length) (hl : E.length ≤ 1000000000000) (hgh : h ≠ g) :
    Calls Tryz.prog 40 #[.pointer (some ⟨h, 0, none⟩), .int .i64 i] w fun e w' => e = .returned (.tuple #[]) ∧ Re.RowE base w' (.slice (some ⟨g, 0, none⟩) E.length cap) (Re.upF E i) ∧ Re.Kp (fun b => b = g) w w' := by
  have H0 : Hid (Re.RowE base w (.slice (some ⟨g, 0, none⟩) E.length cap) E ∧ Re.Kp (fun b => b = g) w w) := ⟨hr, Re.Kp.refl _ _⟩
  have HH := hid hh
  have HL := hid hl
  have HG := hid hgh
  clear hh hr hl hgh
  go_enter Tryz.func40, Tryz.ntmps40
  go_wp2_with fail
  go_loopg [1, 4] i (fun q iv _ wr => ∃ (m : Nat) (E' : List Re.En), m = q ∧ iv = .int .i64 (m : Int) ∧ m < E'.length ∧ E'.length = E.length ∧ Hid (Re.RowE base wr (.slice (some ⟨g, 0, none⟩) E.length cap) E' ∧ Re.Kp (fun b => b = g) w wr ∧ Re.upF E' m = Re.upF E i))
  case atStart => exact ⟨i, E, rfl, rfl, hi, rfl, H0.out.1, H0.out.2, rfl⟩
  case round =>
    obtain ⟨m, E', hmq, rfl, hm, hlen, I⟩ := hrel
    have HQ := hid hmq
    clear hmq
    rcases Nat.eq_zero_or_pos m with m0 | m0
    · subst m0
      have R : Hid (Re.RowE base wr (.slice (some ⟨g, 0, none⟩) E.length cap) (Re.upF E i) ∧ Re.Kp (fun b => b = g) w wr) := ⟨by rw [← I.out.2.2, Re.upF_zero]; exact I.out.1, I.out.2.1⟩
      clear I
      go_wp2_with fail
      go_end0
      exact ⟨rfl, R.out⟩
    · obtain ⟨a, ha⟩ : ∃ a, (m - 1) / 2 = a := ⟨_, rfl⟩
      have mi : (0 : Int) < (m : Int) := by omega
      have w1 : IntKind.i64.wrap ((m : Int) - 1) = (m : Int) - 1 := by have := HL.out; rw [IntKind.wrap_i64]; omega
      have w2 : ((m : Int) - 1).tdiv 2 = (a : Int) := by rw [Int.tdiv_eq_ediv_of_nonneg (by omega)]; omega
      have w3 : IntKind.i64.wrap (a : Int) = (a : Int) := by have := HL.out; rw [IntKind.wrap_i64]; omega
      have am : a < m := by omega
      obtain ⟨x, hx⟩ : ∃ x, E'[m]? = some x := ⟨_, List.getElem?_eq_getElem hm⟩
      obtain ⟨y, hy⟩ : ∃ y, E'[a]? = some y := ⟨_, List.getElem?_eq_getElem (by omega)⟩
      obtain ⟨t, p, u, ea, -⟩ := Re.ee_ex x
      obtain ⟨t', p', u', eb, -⟩ := Re.ee_ex y
      have AH : Hid (∀ W : World, Calls Tryz.prog 27 #[.agg #[.bool t, .int .i64 p, .string u, .int .i64 x.x.i, .int .i64 x.k, .int .u64 x.n, .string x.s], .agg #[.bool t', .int .i64 p', .string u', .int .i64 y.x.i, .int .i64 y.k, .int .u64 y.n, .string y.s]] W fun e w' => e = .returned (.bool (decide (Re.ct x.x y.x < 0))) ∧ Below W.heap.size W w') := fun W => by have := ahead_any x y W; rw [ea, eb] at this; exact this
      have gx : E'.getD m default = x := by rw [List.getD_eq_getElem?_getD, hx]; rfl
      have gy : E'.getD ((m - 1) / 2) default = y := by rw [ha, List.getD_eq_getElem?_getD, hy]; rfl
      have ST : Hid (∀ W : World, (Re.RowE base W (.slice (some ⟨g, 0, none⟩) E.length cap) E' ∧ Re.Kp (fun b => b = g) w W) →
        (W.cell? ⟨h, 0, none⟩ = some (.slice (some ⟨g, 0, none⟩) E.length cap) ∧ W.cell? ⟨h, 1, none⟩ = some (.func (.func 27) #[] #[])) ∧
        (W.cell? ⟨g, m * 7, none⟩ = some (.bool t) ∧ W.cell? ⟨g, m * 7 + 1, none⟩ = some (.int .i64 p) ∧ W.cell? ⟨g, m * 7 + 2, none⟩ = some (.string u) ∧ W.cell? ⟨g, m * 7 + 3, none⟩ = some (.int .i64 x.x.i) ∧ W.cell? ⟨g, m * 7 + 4, none⟩ = some (.int .i64 x.k) ∧ W.cell? ⟨g, m * 7 + 5, none⟩ = some (.int .u64 x.n) ∧ W.cell? ⟨g, m * 7 + 6, none⟩ = some (.string x.s)) ∧
        (W.cell? ⟨g, a * 7, none⟩ = some (.bool t') ∧ W.cell? ⟨g, a * 7 + 1, none⟩ = some (.int .i64 p') ∧ W.cell? ⟨g, a * 7 + 2, none⟩ = some (.string u') ∧ W.cell? ⟨g, a * 7 + 3, none⟩ = some (.int .i64 y.x.i) ∧ W.cell? ⟨g, a * 7 + 4, none⟩ = some (.int .i64 y.k) ∧ W.cell? ⟨g, a * 7 + 5, none⟩ = some (.int .u64 y.n) ∧ W.cell? ⟨g, a * 7 + 6, none⟩ = some (.string y.s))) := fun W rk => by
        obtain ⟨r, k⟩ := rk
        have b := HH.out.kp k HG.out
        rw [← hlen] at r
        exact ⟨⟨b.cell 0 _ rfl, b.cell 1 _ rfl⟩, ⟨r.cell hx 0 (by omega) _ (by rw [ea]; rfl), r.cell hx 1 (by omega) _ (by rw [ea]; rfl), r.cell hx 2 (by omega) _ (by rw [ea]; rfl), r.cell hx 3 (by omega) _ (by rw [ea]; rfl), r.cell hx 4 (by omega) _ (by rw [ea]; rfl), r.cell hx 5 (by omega) _ (by rw [ea]; rfl), r.cell hx 6 (by omega) _ (by rw [ea]; rfl)⟩, ⟨r.cell hy 0 (by omega) _ (by rw [eb]; rfl), r.cell hy 1 (by omega) _ (by rw [eb]; rfl), r.cell hy 2 (by omega) _ (by rw [eb]; rfl), r.cell hy 3 (by omega) _ (by rw [eb]; rfl), r.cell hy 4 (by omega) _ (by rw [eb]; rfl), r.cell hy 5 (by omega) _ (by rw [eb]; rfl), r.cell hy 6 (by omega) _ (by rw [eb]; rfl)⟩⟩
      have mE : (m : Int) < (E.length : Int) := by omega
      have aE : (a : Int) < (E.length : Int) := by omega
      have lE : (E.length : Int) ≤ 1000000000000 := by have := HL.out; omega
      have RST : Hid (∀ W : World, Re.RowE base W (.slice (some ⟨g, 0, none⟩) E.length cap) E' → Re.Kp (fun b => b = g) w W → ¬ Re.ct x.x y.x < 0 → Re.RowE base W (.slice (some ⟨g, 0, none⟩) E.length cap) (Re.upF E i) ∧ Re.Kp (fun b => b = g) w W) := fun W r k c => ⟨by rw [← I.out.2.2, Re.upF_stop (by rw [gx, gy]; exact c)]; exact r, k⟩
      have RGO : Hid (Re.ct x.x y.x < 0 → Re.upF (Re.sw E' m a) a = Re.upF E i) := fun c => by
        have e := Re.upF_go (E := E') (i := m) (by omega) (by rw [gx, gy]; exact c)
        rw [ha] at e
        rw [← I.out.2.2, e]
      have SWP : Hid (∀ W : World, Re.RowE base W (.slice (some ⟨g, 0, none⟩) E.length cap) E' → Re.Kp (fun b => b = g) w W → Calls Tryz.prog 53 #[.pointer (some ⟨h, 0, none⟩), .int .i64 (m : Int), .int .i64 (a : Int)] W fun e w' => e = .returned (.tuple #[]) ∧ Re.RowE base w' (.slice (some ⟨g, 0, none⟩) E.length cap) (Re.sw E' m a) ∧ Re.Kp (fun b => b = g) w w') := fun W r k => by
        have b := HH.out.kp k HG.out
        rw [← hlen] at r b
        refine (swap_any base h g cap E' m a _ W b r hm (by omega) (by have := HL.out; omega) HG.out).mono ?_
        rintro e w' ⟨rfl, r', k'⟩
        exact ⟨rfl, by rw [← hlen]; exact r', k.trans k'⟩
      have I0 : Hid (Re.RowE base wr (.slice (some ⟨g, 0, none⟩) E.length cap) E' ∧ Re.Kp (fun b => b = g) w wr) := ⟨I.out.1, I.out.2.1⟩
      have T0 : Hid (Re.RowE base wr.drew (.slice (some ⟨g, 0, none⟩) E.length cap) E' ∧ Re.Kp (fun b => b = g) w wr.drew) := ⟨I.out.1.below (Below.drew (Below.refl _ _)), I.out.2.1.trans (Re.Kp.of (Below.drew (Below.refl _ _)))⟩
      have MK : Hid (∀ w5 : World, Below wr.drew.heap.size wr.drew w5 → Re.RowE base w5 (.slice (some ⟨g, 0, none⟩) E.length cap) E' ∧ Re.Kp (fun b => b = g) w w5) := fun w5 hB => ⟨T0.out.1.below hB, T0.out.2.trans (Re.Kp.of hB)⟩
      clear I ha gx gy ea eb hx hy
      rcases Int.lt_or_le (Re.ct x.x y.x) 0 with c | c
      · have GO := hid (RGO.out c)
        rw [decide_eq_true c] at AH
        clear RST RGO c
        go_upto_region 2 with fail
        go_region_held3 (fun wx => (wx.cell? ⟨h, 0, none⟩ = some (.slice (some ⟨g, 0, none⟩) E.length cap) ∧ wx.cell? ⟨h, 1, none⟩ = some (.func (.func 27) #[] #[])) ∧
          (wx.cell? ⟨g, m * 7, none⟩ = some (.bool t) ∧ wx.cell? ⟨g, m * 7 + 1, none⟩ = some (.int .i64 p) ∧ wx.cell? ⟨g, m * 7 + 2, none⟩ = some (.string u) ∧ wx.cell? ⟨g, m * 7 + 3, none⟩ = some (.int .i64 x.x.i) ∧ wx.cell? ⟨g, m * 7 + 4, none⟩ = some (.int .i64 x.k) ∧ wx.cell? ⟨g, m * 7 + 5, none⟩ = some (.int .u64 x.n) ∧ wx.cell? ⟨g, m * 7 + 6, none⟩ = some (.string x.s)) ∧
          (wx.cell? ⟨g, a * 7, none⟩ = some (.bool t') ∧ wx.cell? ⟨g, a * 7 + 1, none⟩ = some (.int .i64 p') ∧ wx.cell? ⟨g, a * 7 + 2, none⟩ = some (.string u') ∧ wx.cell? ⟨g, a * 7 + 3, none⟩ = some (.int .i64 y.x.i) ∧ wx.cell? ⟨g, a * 7 + 4, none⟩ = some (.int .i64 y.k) ∧ wx.cell? ⟨g, a * 7 + 5, none⟩ = some (.int .u64 y.n) ∧ wx.cell? ⟨g, a * 7 + 6, none⟩ = some (.string y.s))) (first | (with_reducible exact ST.out _ T1.out) | (with_reducible exact ST.out _ T0.out)) (first
          | (go_at_call 27; with_reducible refine (AH.out _).mono ?_; rintro e w5 ⟨rfl, hB⟩; have T1 := hid (MK.out w5 hB); clear hB))
        clear ST AH MK T0 HH I0
        go_wp2_with fail
        refine (SWP.out _ T1.out.1 T1.out.2).mono ?_
        rintro e w6 ⟨rfl, r6, k6⟩
        have T6 := hid (And.intro r6 k6)
        clear r6 k6 SWP T1
        go_wp2_with fail
        go_roundg a
        case measure => have := HQ.out; omega
        case rel => exact ⟨a, Re.sw E' m a, rfl, by go_num, by rw [Re.sw_len]; omega, by rw [Re.sw_len]; exact hlen, T6.out.1, T6.out.2, GO.out⟩
      · have RS : Hid (∀ W : World, Re.RowE base W (.slice (some ⟨g, 0, none⟩) E.length cap) E' ∧ Re.Kp (fun b => b = g) w W → Re.RowE base W (.slice (some ⟨g, 0, none⟩) E.length cap) (Re.upF E i) ∧ Re.Kp (fun b => b = g) w W) := fun W rk => RST.out W rk.1 rk.2 (by omega)
        rw [decide_eq_false (by omega)] at AH
        clear RST RGO c SWP
        go_upto_region 2 with fail
        go_region_held3 (fun wx => (wx.cell? ⟨h, 0, none⟩ = some (.slice (some ⟨g, 0, none⟩) E.length cap) ∧ wx.cell? ⟨h, 1, none⟩ = some (.func (.func 27) #[] #[])) ∧
          (wx.cell? ⟨g, m * 7, none⟩ = some (.bool t) ∧ wx.cell? ⟨g, m * 7 + 1, none⟩ = some (.int .i64 p) ∧ wx.cell? ⟨g, m * 7 + 2, none⟩ = some (.string u) ∧ wx.cell? ⟨g, m * 7 + 3, none⟩ = some (.int .i64 x.x.i) ∧ wx.cell? ⟨g, m * 7 + 4, none⟩ = some (.int .i64 x.k) ∧ wx.cell? ⟨g, m * 7 + 5, none⟩ = some (.int .u64 x.n) ∧ wx.cell? ⟨g, m * 7 + 6, none⟩ = some (.string x.s)) ∧
          (wx.cell? ⟨g, a * 7, none⟩ = some (.bool t') ∧ wx.cell? ⟨g, a * 7 + 1, none⟩ = some (.int .i64 p') ∧ wx.cell? ⟨g, a * 7 + 2, none⟩ = some (.string u') ∧ wx.cell? ⟨g, a * 7 + 3, none⟩ = some (.int .i64 y.x.i) ∧ wx.cell? ⟨g, a * 7 + 4, none⟩ = some (.int .i64 y.k) ∧ wx.cell? ⟨g, a * 7 + 5, none⟩ = some (.int .u64 y.n) ∧ wx.cell? ⟨g, a * 7 + 6, none⟩ = some (.string y.s))) (first | (with_reducible exact ST.out _ T1.out) | (with_reducible exact ST.out _ T0.out)) (first
          | (go_at_call 27; with_reducible refine (AH.out _).mono ?_; rintro e w5 ⟨rfl, hB⟩; have T1 := hid (MK.out w5 hB); clear hB))
        have R := hid (RS.out _ T1.out)
        clear ST AH MK T0 HH I0 T1 RS
        go_wp2_with fail
        (try simp only [Exit.inBlock, Exit.then])
        refine bodyPost_ret (results_none rfl _ _ _) rfl ?_
        exact ⟨rfl, R.out⟩
end Go.Proofs.YtigmhnlcmhpepaaGreatDoor

namespace Go.Proofs.YtigmhnlcmhpepaaGreatDoor
open Go Go.RowKit Go.Deep Go.Shelf

theorem Re.RowE.same {base : Nat} {w w' : World} {mv : Value} {A : List Re.En} (h : Re.RowE base w mv A) (e : ∀ g, mv.ownBlock = some g → w'.heap[g]? = w.heap[g]?) : Re.RowE base w' mv A := by
  refine ⟨h.1, ?_⟩
  rcases h.2 with c | ⟨g, cap, cur, rfl, h1, h2, h3⟩
  · exact .inl c
  · exact .inr ⟨g, cap, cur, rfl, h1, by rw [e g rfl]; exact h2, h3⟩
/-- A row's block is no block of another type. -/
theorem Re.RowE.apart {base : Nat} {w : World} {mv : Value} {A : List Re.En} {b t : Nat} {c : Array Value} (h : Re.RowE base w mv A) (hb : Bx w b t c) (ht : t ≠ 68) : mv.ownBlock ≠ some b := by
  intro e
  rcases h.2 with ⟨rfl, _⟩ | ⟨g, cap, cur, rfl, h1, h2, h3⟩
  · cases e
  · have eg : g = b := Option.some.inj e
    subst eg
    rw [hb] at h2
    simp only [Option.some.injEq, Obj.cells.injEq] at h2
    exact ht h2.2.1

theorem wp_append_r {ty tz : TypeId} {o : Oper} {a : Act} {K : Act → World → Prop} {Q : Exit → Act → World → Prop} (s x : Operand)
    (ho : o.op = .call { callee := .builtin .append, args := #[s, x], argTypes := #[ty, tz] }) {v y v' : Value} {w w' : World} (hr : (Builtin.append_ #[ty, tz] o.type #[v, y]).run Tryz.prog w = .ok v' w') (hs : a.eval s = v) (hx : a.eval x = y)
    (h : K (a.put o.dst v') w') : o.wp Tryz.prog a w K Q := by
  unfold Oper.wp execOp
  simp only [ho, resolve, invoke, builtin, Sem.run_bind, Sem.run_pure, Result.andThen_ok, List.map_toArray, List.map_cons, List.map_nil, hs, hx, hr]
  exact h

set_option maxRecDepth 100000 in
set_option maxHeartbeats 4000000 in
theorem hpush_any (base h : Nat) (mv : Value) (E : List Re.En) (x : Re.En) (w : World) (hh : Bx w h 74 #[mv, .func (.func 27) #[] #[]]) (hr : Re.RowE base w mv E) (hl : E.length < 1000000000000) (hb : base ≤ w.heap.size) :
    Calls Tryz.prog 30 #[.pointer (some ⟨h, 0, none⟩), .agg (Re.ee x).toArray] w fun e w' => e = .returned (.tuple #[]) ∧ ∃ mv', Bx w' h 74 #[mv', .func (.func 27) #[] #[]] ∧ Re.RowE base w' mv' (Re.upF (E ++ [x]) E.length) ∧ Re.Kp (fun b => b = h ∨ mv.ownBlock = some b) w w' := by
  obtain ⟨p0, c0, rfl⟩ := hr.shape
  obtain ⟨t, p, u, ex, -⟩ := Re.ee_ex x
  rw [ex]
  have b0 := alloc_b w (.cells #[.bool t, .int .i64 p, .string u, .int .i64 x.x.i, .int .i64 x.k, .int .u64 x.n, .string x.s] 68)
  have bx : Bx (w.alloc (.cells #[.bool t, .int .i64 p, .string u, .int .i64 x.x.i, .int .i64 x.k, .int .u64 x.n, .string x.s] 68)) w.heap.size 68 #[.bool t, .int .i64 p, .string u, .int .i64 x.x.i, .int .i64 x.k, .int .u64 x.n, .string x.s] := Bx.new w _ _
  have fin1 : ∀ wz : World, Below w.heap.size w wz → Re.Kp (fun b => b = h ∨ (Value.slice p0 E.length c0).ownBlock = some b) w wz := fun wz q => Re.Kp.of q
  change Calls Tryz.prog 30 #[.pointer (some ⟨h, 0, none⟩), .agg #[.bool t, .int .i64 p, .string u, .int .i64 x.x.i, .int .i64 x.k, .int .u64 x.n, .string x.s]] w _
  go_enter Tryz.func30, Tryz.ntmps30
  go_upto_region 1 with fail
  generalize w.alloc (.cells #[.bool t, .int .i64 p, .string u, .int .i64 x.x.i, .int .i64 x.k, .int .u64 x.n, .string x.s] 68) = wa at *
  have b1 : Below w.heap.size w wa.drew := Below.drew b0
  have r1 := hr.below b1
  have k1 := hh.on b1
  have x1 : Bx wa.drew w.heap.size 68 #[.bool t, .int .i64 p, .string u, .int .i64 x.x.i, .int .i64 x.k, .int .u64 x.n, .string x.s] := bx
  obtain ⟨mv', w', run, r2, kp, wh⟩ := r1.push2 x #[.bool t, .int .i64 p, .string u, .int .i64 x.x.i, .int .i64 x.k, .int .u64 x.n, .string x.s] (by rw [ex]) (by omega) (Nat.le_trans hb b1.size)
  have k2 : Bx w' h 74 #[.slice p0 E.length c0, .func (.func 27) #[] #[]] := k1.kp kp (r1.apart k1 (by decide))
  obtain ⟨g', cap', em, -, -, -, -⟩ := r2.open (by simp)
  obtain ⟨L, hL⟩ : ∃ L, (E ++ [x]).length = L := ⟨_, rfl⟩
  have hLn : L = E.length + 1 := by rw [← hL]; simp
  rw [hL] at em
  subst em
  have gh : h ≠ g' := fun e => r2.apart k2 (by decide) (by rw [e]; rfl)
  have k3 : Bx (w'.setCell ⟨h, 0, none⟩ (.slice (some ⟨g', 0, none⟩) L cap')) h 74 #[.slice (some ⟨g', 0, none⟩) L cap', .func (.func 27) #[] #[]] := k2.set 0 _
  have r3 : Re.RowE base (w'.setCell ⟨h, 0, none⟩ (.slice (some ⟨g', 0, none⟩) L cap')) (.slice (some ⟨g', 0, none⟩) L cap') (E ++ [x]) := r2.same (fun g e => Below.heap_setCell _ _ _ _ (fun q => gh (by cases e; exact q.symm)))
  have UP : Hid (Calls Tryz.prog 40 #[.pointer (some ⟨h, 0, none⟩), .int .i64 (E.length : Int)] (w'.setCell ⟨h, 0, none⟩ (.slice (some ⟨g', 0, none⟩) L cap')) fun e w6 => e = .returned (.tuple #[]) ∧ Re.RowE base w6 (.slice (some ⟨g', 0, none⟩) L cap') (Re.upF (E ++ [x]) E.length) ∧ Re.Kp (fun b => b = g') (w'.setCell ⟨h, 0, none⟩ (.slice (some ⟨g', 0, none⟩) L cap')) w6) := by
    have := up_any base h g' cap' (E ++ [x]) E.length (w'.setCell ⟨h, 0, none⟩ (.slice (some ⟨g', 0, none⟩) L cap')) (by rw [hL]; exact k3) (by rw [hL]; exact r3) (by rw [hL]; omega) (by rw [hL]; omega) gh
    rw [hL] at this
    exact this
  have own : ∀ b, (Value.slice p0 E.length c0).ownBlock = some b → b < w.heap.size := fun b e => (World.ownsRow.lt hr b e).2
  have FIN : Hid (∀ w6 : World, Re.RowE base w6 (.slice (some ⟨g', 0, none⟩) L cap') (Re.upF (E ++ [x]) E.length) → Re.Kp (fun b => b = g') (w'.setCell ⟨h, 0, none⟩ (.slice (some ⟨g', 0, none⟩) L cap')) w6 → ∃ mv', Bx w6 h 74 #[mv', .func (.func 27) #[] #[]] ∧ Re.RowE base w6 mv' (Re.upF (E ++ [x]) E.length) ∧ Re.Kp (fun b => b = h ∨ (Value.slice p0 E.length c0).ownBlock = some b) w w6) := fun w6 r6 k6 => by
    refine ⟨_, k3.kp k6 gh, r6, ?_⟩
    have ka : Re.Kp (fun b => b = h ∨ (Value.slice p0 E.length c0).ownBlock = some b) w w' := (fin1 _ b1).trans (kp.mono (fun b e => .inr e))
    have kb := ka.set (b := h) (.inl rfl) 0 (.slice (some ⟨g', 0, none⟩) L cap')
    refine ⟨k6.os.trans kb.os, k6.tape.trans kb.tape, k6.output.trans kb.output, Nat.le_trans kb.size k6.size, fun b hb hs => ?_⟩
    by_cases c : b = g'
    · exfalso
      rcases wh g' rfl with q | q
      · exact hs (.inr (by rw [c]; exact q))
      · have := b1.size; omega
    · rw [k6.block b (Nat.lt_of_lt_of_le hb kb.size) c]; exact kb.block b hb hs
  have RUN : Hid ((Builtin.append_ #[72, 72] 72 #[.slice p0 E.length c0, .slice (some ⟨wa.heap.size, 0, none⟩) 1 1]).run Tryz.prog (wa.alloc (.cells #[.bool t, .int .i64 p, .string u, .int .i64 x.x.i, .int .i64 x.k, .int .u64 x.n, .string x.s] 68)).drew = .ok (.slice (some ⟨g', 0, none⟩) L cap') w') := run
  clear run
  have h0 : wa.drew.cell? ⟨h, 0, none⟩ = some (.slice p0 E.length c0) := k1.cell 0 _ rfl
  have h0' : (wa.alloc (.cells #[.bool t, .int .i64 p, .string u, .int .i64 x.x.i, .int .i64 x.k, .int .u64 x.n, .string x.s] 68)).cell? ⟨h, 0, none⟩ = some (.slice p0 E.length c0) := (k1.on (alloc_b _ _)).cell 0 _ rfl
  have x0 := x1.cell 0 _ rfl
  have x01 := x1.cell 1 _ rfl
  have x02 := x1.cell 2 _ rfl
  have x03 := x1.cell 3 _ rfl
  have x04 := x1.cell 4 _ rfl
  have x05 := x1.cell 5 _ rfl
  have x06 := x1.cell 6 _ rfl
  have s0 : w'.cell? ⟨h, 0, none⟩ = some (.slice p0 E.length c0) := k2.cell 0 _ rfl
  have s1 : w'.frozen? ⟨h, 0, none⟩ = false := k2.free 0
  have q0 : (w'.setCell ⟨h, 0, none⟩ (.slice (some ⟨g', 0, none⟩) L cap')).cell? ⟨h, 0, none⟩ = some (.slice (some ⟨g', 0, none⟩) L cap') := k3.cell 0 _ rfl
  have wL : IntKind.i64.wrap ((L : Int) - 1) = (E.length : Int) := by rw [IntKind.wrap_i64]; omega
  have Lb : (L : Int) ≤ 1000000000001 := by omega
  clear hr hh hb hl b0 bx fin1 b1 r1 k1 x1 kp wh k2 gh k3 r3 own r2 hL hLn ex
  refine wp_region_any (by kernel_rfl) ?_
  change wpAny _ _ _ _ _ _ _ (World.drew _)
  refine wpAny_take (i := 0) (oi := { dst := some 4, op := Go.Op.move (Go.Operand.tmp 0), type := 71, pos := "heap.go:11", after := #[], guard := none }) (v := ?_) rfl (by kernel_rfl) (by kernel_rfl) (by kernel_rfl) (fun _ _ _ h => h) (Or.inl ⟨by rfl, ?_⟩) ?_
  rotate_left
  · (intro w; go_simp; try with_reducible rfl)
  (try simp only [Act.put]); (try simp only [List.setIfInBounds_toArray]); (try simp only [List.set_cons_succ]); (try simp only [List.set_cons_zero])
  refine wpAny_take (i := 1) (oi := { dst := some 5, op := Go.Op.move (Go.Operand.tmp 0), type := 71, pos := "heap.go:11", after := #[], guard := none }) (v := ?_) rfl (by kernel_rfl) (by kernel_rfl) (by kernel_rfl) (fun _ _ _ h => h) (Or.inl ⟨by rfl, ?_⟩) ?_
  rotate_left
  · (intro w; go_simp; try with_reducible rfl)
  (try simp only [Act.put]); (try simp only [List.setIfInBounds_toArray]); (try simp only [List.set_cons_succ]); (try simp only [List.set_cons_zero])
  refine wpAny_take (i := 2) (oi := { dst := some 6, op := Go.Op.nilCheck (Go.Operand.tmp 5), type := 0, pos := "heap.go:11", after := #[{ on := 1, ground := Go.Ground.data }], guard := none }) (v := ?_) rfl (by kernel_rfl) (by kernel_rfl) (by kernel_rfl) (fun _ _ _ h => h) (Or.inl ⟨by rfl, ?_⟩) ?_
  rotate_left
  · (intro w; go_simp; try with_reducible rfl)
  (try simp only [Act.put]); (try simp only [List.setIfInBounds_toArray]); (try simp only [List.set_cons_succ]); (try simp only [List.set_cons_zero])
  refine wpAny_take (i := 3) (oi := { dst := some 7, op := Go.Op.fieldAddr 74 (Go.Operand.tmp 6) 0, type := 0, pos := "heap.go:11", after := #[{ on := 2, ground := Go.Ground.data }], guard := none }) (v := ?_) rfl (by kernel_rfl) (by kernel_rfl) (by kernel_rfl) (fun _ _ _ h => h) (Or.inl ⟨by rfl, ?_⟩) ?_
  rotate_left
  · (intro w; go_simp; try with_reducible rfl)
  (try simp only [Act.put]); (try simp only [List.setIfInBounds_toArray]); (try simp only [List.set_cons_succ]); (try simp only [List.set_cons_zero])
  refine wpAny_ready (rs := [4, 5]) (by kernel_rfl) (by simp) ?_
  refine AllReady.cons (o := { dst := some 8, op := Go.Op.load 72 (Go.Operand.tmp 7), type := 72, pos := "heap.go:11", after := #[{ on := 3, ground := Go.Ground.data }], guard := none }) rfl (fun K hK => ?_) (AllReady.cons (o := { dst := some 9, op := Go.Op.load 68 (Go.Operand.tmp 3), type := 68, pos := "heap.go:11", after := #[], guard := none }) rfl (fun K hK => ?_) (AllReady.nil))
  · go_simp
    refine hK _ _ ?_
    clear hK K
    (try simp only [Act.put]); (try simp only [List.setIfInBounds_toArray]); (try simp only [List.set_cons_succ]); (try simp only [List.set_cons_zero])
    refine wpAny_ready (rs := [5]) (by kernel_rfl) (by simp) ?_
    refine AllReady.cons (o := { dst := some 9, op := Go.Op.load 68 (Go.Operand.tmp 3), type := 68, pos := "heap.go:11", after := #[], guard := none }) rfl (fun K hK => ?_) (AllReady.nil)
    · go_simp
      refine hK _ _ ?_
      clear hK K
      (try simp only [Act.put]); (try simp only [List.setIfInBounds_toArray]); (try simp only [List.set_cons_succ]); (try simp only [List.set_cons_zero])
      refine wpAny_ready (rs := [6]) (by kernel_rfl) (by simp) ?_
      refine AllReady.cons (o := { dst := some 10, op := Go.Op.buildSlice 72 1 #[(0, Go.Operand.tmp 9)], type := 72, pos := "heap.go:11", after := #[{ on := 5, ground := Go.Ground.data }], guard := none }) rfl (fun K hK => ?_) (AllReady.nil)
      · go_simp
        refine hK _ _ ?_
        clear hK K
        (try simp only [Act.put]); (try simp only [List.setIfInBounds_toArray]); (try simp only [List.set_cons_succ]); (try simp only [List.set_cons_zero])
        refine wpAny_ready (rs := [7]) (by kernel_rfl) (by simp) ?_
        refine AllReady.cons (o := { dst := some 11, op := Go.Op.call { callee := Go.Callee.builtin Go.Builtin.append, args := #[Go.Operand.tmp 8, Go.Operand.tmp 10], argTypes := #[72, 72] }, type := 72, pos := "heap.go:11", after := #[{ on := 4, ground := Go.Ground.data }, { on := 6, ground := Go.Ground.data }], guard := none }) rfl (fun K hK => ?_) (AllReady.nil)
        · rw [if_pos (by rfl)]
          refine wp_append_r _ _ rfl RUN.out rfl rfl ?_
          refine hK _ _ ?_
          clear hK K
          (try simp only [Act.put]); (try simp only [List.setIfInBounds_toArray]); (try simp only [List.set_cons_succ]); (try simp only [List.set_cons_zero])
          refine wpAny_take (i := 8) (oi := { dst := some 12, op := Go.Op.nilCheck (Go.Operand.tmp 4), type := 0, pos := "heap.go:11", after := #[{ on := 0, ground := Go.Ground.data }, { on := 0, ground := Go.Ground.phase }, { on := 1, ground := Go.Ground.phase }, { on := 2, ground := Go.Ground.phase }, { on := 3, ground := Go.Ground.phase }, { on := 4, ground := Go.Ground.phase }, { on := 5, ground := Go.Ground.phase }, { on := 6, ground := Go.Ground.phase }, { on := 7, ground := Go.Ground.phase }], guard := none }) (v := ?_) rfl (by kernel_rfl) (by kernel_rfl) (by kernel_rfl) (fun _ _ _ h => h) (Or.inl ⟨by rfl, ?_⟩) ?_
          rotate_left
          · (intro w; go_simp; try with_reducible rfl)
          (try simp only [Act.put]); (try simp only [List.setIfInBounds_toArray]); (try simp only [List.set_cons_succ]); (try simp only [List.set_cons_zero])
          refine wpAny_take (i := 9) (oi := { dst := some 13, op := Go.Op.fieldAddr 74 (Go.Operand.tmp 12) 0, type := 0, pos := "heap.go:11", after := #[{ on := 8, ground := Go.Ground.data }, { on := 0, ground := Go.Ground.phase }, { on := 1, ground := Go.Ground.phase }, { on := 2, ground := Go.Ground.phase }, { on := 3, ground := Go.Ground.phase }, { on := 4, ground := Go.Ground.phase }, { on := 5, ground := Go.Ground.phase }, { on := 6, ground := Go.Ground.phase }, { on := 7, ground := Go.Ground.phase }], guard := none }) (v := ?_) rfl (by kernel_rfl) (by kernel_rfl) (by kernel_rfl) (fun _ _ _ h => h) (Or.inl ⟨by rfl, ?_⟩) ?_
          rotate_left
          · (intro w; go_simp; try with_reducible rfl)
          (try simp only [Act.put]); (try simp only [List.setIfInBounds_toArray]); (try simp only [List.set_cons_succ]); (try simp only [List.set_cons_zero])
          refine wpAny_ready (rs := [10]) (by kernel_rfl) (by simp) ?_
          refine AllReady.cons (o := { dst := none, op := Go.Op.store 72 (Go.Operand.tmp 13) (Go.Operand.tmp 11), type := 0, pos := "heap.go:11", after := #[{ on := 9, ground := Go.Ground.data }, { on := 7, ground := Go.Ground.data }, { on := 7, ground := Go.Ground.chain }, { on := 0, ground := Go.Ground.phase }, { on := 1, ground := Go.Ground.phase }, { on := 2, ground := Go.Ground.phase }, { on := 3, ground := Go.Ground.phase }, { on := 4, ground := Go.Ground.phase }, { on := 5, ground := Go.Ground.phase }, { on := 6, ground := Go.Ground.phase }, { on := 7, ground := Go.Ground.phase }], guard := none }) rfl (fun K hK => ?_) (AllReady.nil)
          · go_simp
            refine hK _ _ ?_
            clear hK K
            (try simp only [Act.put]); (try simp only [List.setIfInBounds_toArray]); (try simp only [List.set_cons_succ]); (try simp only [List.set_cons_zero])
            refine wpAny_done (by kernel_rfl) ?_ _
            go_wp2_with fail
            refine UP.out.mono ?_
            rintro e w6 ⟨rfl, r6, k6⟩
            have F := hid (FIN.out w6 r6 k6)
            clear r6 k6 UP FIN
            go_wp2_with fail
            go_end0
            exact ⟨rfl, F.out⟩
  · go_simp
    refine hK _ _ ?_
    clear hK K
    (try simp only [Act.put]); (try simp only [List.setIfInBounds_toArray]); (try simp only [List.set_cons_succ]); (try simp only [List.set_cons_zero])
    refine wpAny_ready (rs := [4, 6]) (by kernel_rfl) (by simp) ?_
    refine AllReady.cons (o := { dst := some 8, op := Go.Op.load 72 (Go.Operand.tmp 7), type := 72, pos := "heap.go:11", after := #[{ on := 3, ground := Go.Ground.data }], guard := none }) rfl (fun K hK => ?_) (AllReady.cons (o := { dst := some 10, op := Go.Op.buildSlice 72 1 #[(0, Go.Operand.tmp 9)], type := 72, pos := "heap.go:11", after := #[{ on := 5, ground := Go.Ground.data }], guard := none }) rfl (fun K hK => ?_) (AllReady.nil))
    · go_simp
      refine hK _ _ ?_
      clear hK K
      (try simp only [Act.put]); (try simp only [List.setIfInBounds_toArray]); (try simp only [List.set_cons_succ]); (try simp only [List.set_cons_zero])
      refine wpAny_ready (rs := [6]) (by kernel_rfl) (by simp) ?_
      refine AllReady.cons (o := { dst := some 10, op := Go.Op.buildSlice 72 1 #[(0, Go.Operand.tmp 9)], type := 72, pos := "heap.go:11", after := #[{ on := 5, ground := Go.Ground.data }], guard := none }) rfl (fun K hK => ?_) (AllReady.nil)
      · go_simp
        refine hK _ _ ?_
        clear hK K
        (try simp only [Act.put]); (try simp only [List.setIfInBounds_toArray]); (try simp only [List.set_cons_succ]); (try simp only [List.set_cons_zero])
        refine wpAny_ready (rs := [7]) (by kernel_rfl) (by simp) ?_
        refine AllReady.cons (o := { dst := some 11, op := Go.Op.call { callee := Go.Callee.builtin Go.Builtin.append, args := #[Go.Operand.tmp 8, Go.Operand.tmp 10], argTypes := #[72, 72] }, type := 72, pos := "heap.go:11", after := #[{ on := 4, ground := Go.Ground.data }, { on := 6, ground := Go.Ground.data }], guard := none }) rfl (fun K hK => ?_) (AllReady.nil)
        · rw [if_pos (by rfl)]
          refine wp_append_r _ _ rfl RUN.out rfl rfl ?_
          refine hK _ _ ?_
          clear hK K
          (try simp only [Act.put]); (try simp only [List.setIfInBounds_toArray]); (try simp only [List.set_cons_succ]); (try simp only [List.set_cons_zero])
          refine wpAny_take (i := 8) (oi := { dst := some 12, op := Go.Op.nilCheck (Go.Operand.tmp 4), type := 0, pos := "heap.go:11", after := #[{ on := 0, ground := Go.Ground.data }, { on := 0, ground := Go.Ground.phase }, { on := 1, ground := Go.Ground.phase }, { on := 2, ground := Go.Ground.phase }, { on := 3, ground := Go.Ground.phase }, { on := 4, ground := Go.Ground.phase }, { on := 5, ground := Go.Ground.phase }, { on := 6, ground := Go.Ground.phase }, { on := 7, ground := Go.Ground.phase }], guard := none }) (v := ?_) rfl (by kernel_rfl) (by kernel_rfl) (by kernel_rfl) (fun _ _ _ h => h) (Or.inl ⟨by rfl, ?_⟩) ?_
          rotate_left
          · (intro w; go_simp; try with_reducible rfl)
          (try simp only [Act.put]); (try simp only [List.setIfInBounds_toArray]); (try simp only [List.set_cons_succ]); (try simp only [List.set_cons_zero])
          refine wpAny_take (i := 9) (oi := { dst := some 13, op := Go.Op.fieldAddr 74 (Go.Operand.tmp 12) 0, type := 0, pos := "heap.go:11", after := #[{ on := 8, ground := Go.Ground.data }, { on := 0, ground := Go.Ground.phase }, { on := 1, ground := Go.Ground.phase }, { on := 2, ground := Go.Ground.phase }, { on := 3, ground := Go.Ground.phase }, { on := 4, ground := Go.Ground.phase }, { on := 5, ground := Go.Ground.phase }, { on := 6, ground := Go.Ground.phase }, { on := 7, ground := Go.Ground.phase }], guard := none }) (v := ?_) rfl (by kernel_rfl) (by kernel_rfl) (by kernel_rfl) (fun _ _ _ h => h) (Or.inl ⟨by rfl, ?_⟩) ?_
          rotate_left
          · (intro w; go_simp; try with_reducible rfl)
          (try simp only [Act.put]); (try simp only [List.setIfInBounds_toArray]); (try simp only [List.set_cons_succ]); (try simp only [List.set_cons_zero])
          refine wpAny_ready (rs := [10]) (by kernel_rfl) (by simp) ?_
          refine AllReady.cons (o := { dst := none, op := Go.Op.store 72 (Go.Operand.tmp 13) (Go.Operand.tmp 11), type := 0, pos := "heap.go:11", after := #[{ on := 9, ground := Go.Ground.data }, { on := 7, ground := Go.Ground.data }, { on := 7, ground := Go.Ground.chain }, { on := 0, ground := Go.Ground.phase }, { on := 1, ground := Go.Ground.phase }, { on := 2, ground := Go.Ground.phase }, { on := 3, ground := Go.Ground.phase }, { on := 4, ground := Go.Ground.phase }, { on := 5, ground := Go.Ground.phase }, { on := 6, ground := Go.Ground.phase }, { on := 7, ground := Go.Ground.phase }], guard := none }) rfl (fun K hK => ?_) (AllReady.nil)
          · go_simp
            refine hK _ _ ?_
            clear hK K
            (try simp only [Act.put]); (try simp only [List.setIfInBounds_toArray]); (try simp only [List.set_cons_succ]); (try simp only [List.set_cons_zero])
            refine wpAny_done (by kernel_rfl) ?_ _
            go_wp2_with fail
            refine UP.out.mono ?_
            rintro e w6 ⟨rfl, r6, k6⟩
            have F := hid (FIN.out w6 r6 k6)
            clear r6 k6 UP FIN
            go_wp2_with fail
            go_end0
            exact ⟨rfl, F.out⟩
    · go_simp
      refine hK _ _ ?_
      clear hK K
      (try simp only [Act.put]); (try simp only [List.setIfInBounds_toArray]); (try simp only [List.set_cons_succ]); (try simp only [List.set_cons_zero])
      refine wpAny_ready (rs := [4]) (by kernel_rfl) (by simp) ?_
      refine AllReady.cons (o := { dst := some 8, op := Go.Op.load 72 (Go.Operand.tmp 7), type := 72, pos := "heap.go:11", after := #[{ on := 3, ground := Go.Ground.data }], guard := none }) rfl (fun K hK => ?_) (AllReady.nil)
      · go_simp
        refine hK _ _ ?_
        clear hK K
        (try simp only [Act.put]); (try simp only [List.setIfInBounds_toArray]); (try simp only [List.set_cons_succ]); (try simp only [List.set_cons_zero])
        refine wpAny_ready (rs := [7]) (by kernel_rfl) (by simp) ?_
        refine AllReady.cons (o := { dst := some 11, op := Go.Op.call { callee := Go.Callee.builtin Go.Builtin.append, args := #[Go.Operand.tmp 8, Go.Operand.tmp 10], argTypes := #[72, 72] }, type := 72, pos := "heap.go:11", after := #[{ on := 4, ground := Go.Ground.data }, { on := 6, ground := Go.Ground.data }], guard := none }) rfl (fun K hK => ?_) (AllReady.nil)
        · rw [if_pos (by rfl)]
          refine wp_append_r _ _ rfl RUN.out rfl rfl ?_
          refine hK _ _ ?_
          clear hK K
          (try simp only [Act.put]); (try simp only [List.setIfInBounds_toArray]); (try simp only [List.set_cons_succ]); (try simp only [List.set_cons_zero])
          refine wpAny_take (i := 8) (oi := { dst := some 12, op := Go.Op.nilCheck (Go.Operand.tmp 4), type := 0, pos := "heap.go:11", after := #[{ on := 0, ground := Go.Ground.data }, { on := 0, ground := Go.Ground.phase }, { on := 1, ground := Go.Ground.phase }, { on := 2, ground := Go.Ground.phase }, { on := 3, ground := Go.Ground.phase }, { on := 4, ground := Go.Ground.phase }, { on := 5, ground := Go.Ground.phase }, { on := 6, ground := Go.Ground.phase }, { on := 7, ground := Go.Ground.phase }], guard := none }) (v := ?_) rfl (by kernel_rfl) (by kernel_rfl) (by kernel_rfl) (fun _ _ _ h => h) (Or.inl ⟨by rfl, ?_⟩) ?_
          rotate_left
          · (intro w; go_simp; try with_reducible rfl)
          (try simp only [Act.put]); (try simp only [List.setIfInBounds_toArray]); (try simp only [List.set_cons_succ]); (try simp only [List.set_cons_zero])
          refine wpAny_take (i := 9) (oi := { dst := some 13, op := Go.Op.fieldAddr 74 (Go.Operand.tmp 12) 0, type := 0, pos := "heap.go:11", after := #[{ on := 8, ground := Go.Ground.data }, { on := 0, ground := Go.Ground.phase }, { on := 1, ground := Go.Ground.phase }, { on := 2, ground := Go.Ground.phase }, { on := 3, ground := Go.Ground.phase }, { on := 4, ground := Go.Ground.phase }, { on := 5, ground := Go.Ground.phase }, { on := 6, ground := Go.Ground.phase }, { on := 7, ground := Go.Ground.phase }], guard := none }) (v := ?_) rfl (by kernel_rfl) (by kernel_rfl) (by kernel_rfl) (fun _ _ _ h => h) (Or.inl ⟨by rfl, ?_⟩) ?_
          rotate_left
          · (intro w; go_simp; try with_reducible rfl)
          (try simp only [Act.put]); (try simp only [List.setIfInBounds_toArray]); (try simp only [List.set_cons_succ]); (try simp only [List.set_cons_zero])
          refine wpAny_ready (rs := [10]) (by kernel_rfl) (by simp) ?_
          refine AllReady.cons (o := { dst := none, op := Go.Op.store 72 (Go.Operand.tmp 13) (Go.Operand.tmp 11), type := 0, pos := "heap.go:11", after := #[{ on := 9, ground := Go.Ground.data }, { on := 7, ground := Go.Ground.data }, { on := 7, ground := Go.Ground.chain }, { on := 0, ground := Go.Ground.phase }, { on := 1, ground := Go.Ground.phase }, { on := 2, ground := Go.Ground.phase }, { on := 3, ground := Go.Ground.phase }, { on := 4, ground := Go.Ground.phase }, { on := 5, ground := Go.Ground.phase }, { on := 6, ground := Go.Ground.phase }, { on := 7, ground := Go.Ground.phase }], guard := none }) rfl (fun K hK => ?_) (AllReady.nil)
          · go_simp
            refine hK _ _ ?_
            clear hK K
            (try simp only [Act.put]); (try simp only [List.setIfInBounds_toArray]); (try simp only [List.set_cons_succ]); (try simp only [List.set_cons_zero])
            refine wpAny_done (by kernel_rfl) ?_ _
            go_wp2_with fail
            refine UP.out.mono ?_
            rintro e w6 ⟨rfl, r6, k6⟩
            have F := hid (FIN.out w6 r6 k6)
            clear r6 k6 UP FIN
            go_wp2_with fail
            go_end0
            exact ⟨rfl, F.out⟩
end Go.Proofs.YtigmhnlcmhpepaaGreatDoor
