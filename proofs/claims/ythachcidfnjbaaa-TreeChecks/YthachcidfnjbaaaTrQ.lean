/-
  abacusref24: Depths.
-/
import Derived.Test.YthachcidfnjbaaaTrP
namespace Go.Proofs.Ythachcidfnjbaaa
open Go Go.RowKit Go.Deep

theorem ei_one (x : Int) : ∀ v ∈ Tr.ei x, v.oneCell' = true := fun v hv => by
  simp only [Tr.ei, List.mem_cons, List.not_mem_nil, or_false] at hv
  rw [hv]; rfl
theorem wpList_append_b {ty : TypeId} {ops : Array Oper} {rest : List Oper} {o : Oper} {a : Act} {Q : Exit → Act → World → Prop} (hgd : o.guard = none) (s x : Operand)
    (ho : o.op = .call { callee := .builtin .append, args := #[s, x], argTypes := #[ty, ty] }) {v y v' : Value} {w w' : World} (hr : (Builtin.append_ #[ty, ty] o.type #[v, y]).run Try.prog w = .ok v' w') (hs : a.eval s = v) (hx : a.eval x = y)
    (h : wpList Try.prog ops Q rest (a.put o.dst v') w') : wpList Try.prog ops Q (o :: rest) a w := by
  refine wpList_plain hgd fun K hK => ?_
  unfold Oper.wp execOp
  simp only [ho, resolve, invoke, builtin, Sem.run_bind, Sem.run_pure, Result.andThen_ok, List.map_toArray, List.map_cons, List.map_nil, hs, hx, hr]
  exact hK _ _ h
theorem Re.Ow.move {α : Type} {enc : α → List Value} {t k base : Nat} {w w' : World} {mv : Value} {D : List α} (h : Re.Ow enc t k base w mv D) (hk : ∀ g, mv.ownBlock = some g → w'.heap[g]? = w.heap[g]?) : Re.Ow enc t k base w' mv D := by
  obtain ⟨h1, h2⟩ := h
  refine ⟨h1, ?_⟩
  rcases h2 with h2 | ⟨g, cap, cur, e1, e2, e3, e4⟩
  · exact .inl h2
  · exact .inr ⟨g, cap, cur, e1, e2, by rw [hk g (by rw [e1]; rfl)]; exact e3, e4⟩
theorem bool_same {P : Prop} {a b : Bool} (h1 : P ↔ a = false) (h2 : P ↔ b = false) : a = b := by
  have := h1.symm.trans h2
  cases a <;> cases b <;> simp_all
/-- What Depths' loop keeps. -/
structure DpI (w : World) (l : List Tr.Nd) (N k : Nat) (v5 v6 : Value) (Rs : List Nat) (ds : List Int) (W : World) : Prop where
  r5 : Re.Ow Tr.ei 3 1 w.heap.size W v5 (Rs.map Int.ofNat)
  r6 : Re.Ow Tr.ei 3 1 w.heap.size W v6 ds
  bel : Below w.heap.size w W
  ri : Tr.RI l N k Rs ds
  ap : ∀ g, v5.ownBlock = some g → v6.ownBlock ≠ some g
def DTold (w : World) (l : List Tr.Nd) (N : Nat) (e : Ending) (w' : World) : Prop :=
  ∃ dv at_ left, e = .returned (.tuple #[dv, .int .i64 at_, .int .i64 left]) ∧ Below w.heap.size w w' ∧ ((∃ k : Nat, k < N ∧ at_ = (k : Int) ∧ Tr.lk l = (0, (k : Int), 243)) ∨ (at_ = (N : Int) ∧ ∃ Rs ds, Tr.RI l N N Rs ds ∧ left = (Rs.length : Int) ∧ Re.Ow Tr.ei 3 1 w.heap.size w' dv ds))
theorem Tr.st_iff {x : Tr.Nd} {l : List Tr.Nd} {ds : List Int} {Rs : List Nat} (hL : Rs.length ≤ 10000) : Tr.st x (Tr.rwv l ds Rs) ↔ Tr.rok x Rs.length ∧ (Tr.am x.kind x.op < 0 ∨ Tr.isT (Tr.kd l (Rs.getD (Rs.length - x.n.toNat + (Tr.am x.kind x.op).toNat) 0))) := by
  have e := Tr.am_target x.kind x.op
  rw [Tr.tab_same x Rs.length hL, Tr.st, Tr.rwv_len, and_assoc]
  have tg := Tr.ru_target x.kind x.op
  refine and_congr_right (fun hf => and_congr_right (fun hn => ?_))
  have n0 : (Tr.ru x.kind x.op).least ≤ x.n := hf.2.2.2.2.1
  rcases tg with z | ⟨z1, z2⟩
  · exact ⟨fun _ => .inl (by omega), fun _ => .inl z⟩
  · have ei : Rs.length - x.n.toNat + ((Tr.ru x.kind x.op).target.toNat - 1) = Rs.length - x.n.toNat + (Tr.am x.kind x.op).toNat := by omega
    have hi : Rs.length - x.n.toNat + (Tr.am x.kind x.op).toNat < Rs.length := by omega
    rw [ei]
    have eg : ((Tr.rwv l ds Rs).getD (Rs.length - x.n.toNat + (Tr.am x.kind x.op).toNat) (0, 0)).1 = Tr.kd l (Rs.getD (Rs.length - x.n.toNat + (Tr.am x.kind x.op).toNat) 0) := by
      rw [Tr.rwv, List.getD_eq_getElem?_getD, List.getElem?_map, List.getD_eq_getElem?_getD, List.getElem?_eq_getElem hi]
      rfl
    rw [eg]
    constructor
    · rintro (y | y)
      · omega
      · exact .inr y
    · rintro (y | y)
      · omega
      · exact .inr y

set_option maxRecDepth 100000 in
set_option maxHeartbeats 4000000 in
theorem rdepths_any (p : Option Addr) (cap : Nat) (l : List Tr.Nd) (w : World) (h : Tr.LN w p l) (hl : l.length ≤ 10000) :
    Calls Try.prog 10 #[.slice p l.length cap] w fun e w' => DTold w l l.length e w' := by
  obtain ⟨N, hN⟩ : ∃ N, l.length = N := ⟨_, rfl⟩
  have H := hid h
  have hb : (N : Int) ≤ 10000 := by omega
  have S0 : Hid (DpI w l N 0 (.slice none 0 0) (.slice none 0 0) [] [] w) := ⟨Re.Ow.nil w, Re.Ow.nil w, Below.refl _ _, ⟨(fun p hp => by cases hp), rfl, by rw [Tr.lk, if_neg (by omega), hN]; rfl, Nat.le_refl _, fun z => absurd z (by omega), (fun d hd => by cases hd)⟩, (fun g hg => by cases hg)⟩
  clear h hl
  rw [hN]
  go_enter Try.func10, Try.ntmps10
  go_wp2_with fail
  go_loopg [5, 6, 7] N (fun m v5 v6 iv wr => ∃ (k : Nat) (Rs : List Nat) (ds : List Int), k + m = N ∧ iv = .int .i64 (k : Int) ∧ Hid (DpI w l N k v5 v6 Rs ds wr))
  case atStart => exact ⟨0, [], [], by omega, rfl, S0⟩
  case round =>
    obtain ⟨k, Rs, ds, hk, rfl, I⟩ := hrel
    obtain ⟨L, hL⟩ : ∃ L, Rs.length = L := ⟨_, rfl⟩
    have Lk : L ≤ k := by have := I.out.ri.rl; omega
    have Lb : (L : Int) ≤ 10000 := by omega
    have hsh : ∃ pp cp, u5 = .slice pp L cp := by
      rcases I.out.r5.shape0 with ⟨e, z⟩ | ⟨g, cp, e, _⟩
      · exact ⟨none, 0, by rw [e, ← hL]; rw [List.map_eq_nil_iff] at z; rw [z]; rfl⟩
      · exact ⟨_, cp, by rw [e, List.length_map, hL]⟩
    obtain ⟨pp, cp, rfl⟩ := hsh
    by_cases kl : k < N
    · have kli : (k : Int) < (N : Int) := by omega
      obtain ⟨x, hx⟩ : ∃ x, l[k]? = some x := ⟨_, List.getElem?_eq_getElem (by omega)⟩
      obtain ⟨b, off, hp, c0, c1, c2, c3, c4, c5⟩ := (H.out.on I.out.bel) k x hx
      subst hp
      have SI := hid (Tr.st_iff (x := x) (l := l) (ds := ds) (Rs := Rs) (by omega))
      obtain ⟨x0, x1, x2, x3, x4, x5⟩ := x
      simp only at c0 c1 c2 c3 c4 c5
      have AR := hid (rar_any x0 x1 x2 x3 x4 x5)
      have FK := hid (rfok_any x0 x1 x2 x3 x4 x5)
      have AM := hid (ram_any x0 x1 x2 x3 x4 x5)
      obtain ⟨fb, hfb⟩ : ∃ fb : Bool, decide (Tr.fok ⟨x0, x1, x2, x3, x4, x5⟩) = fb := ⟨_, rfl⟩
      rw [hfb] at FK
      have RK : Hid (Tr.rok ⟨x0, x1, x2, x3, x4, x5⟩ L ↔ (0 ≤ (Tr.ar x0 x1).1 ∧ (Tr.ar x0 x1).1 ≤ x3 ∧ x3 ≤ (Tr.ar x0 x1).2 ∧ fb = true ∧ x3 ≤ L)) := by
        rw [Hid, ← hfb, decide_eq_true_iff]; exact Iff.rfl
      rw [hL] at SI
      obtain ⟨rokP, hrok⟩ : ∃ rokP : Prop, rokP = Tr.rok ⟨x0, x1, x2, x3, x4, x5⟩ L := ⟨_, rfl⟩
      rw [← hrok] at SI RK
      have RKE := hid hrok
      clear hrok
      generalize (Tr.ar x0 x1).1 = lo at *
      generalize (Tr.ar x0 x1).2 = hi at *
      clear hfb
      go_upto_region 8 with (go_at_call 16; refine (AR.out _).mono ?_; rintro e w2 ⟨rfl, hB2⟩; have U2 := hid hB2; have d3 : w2.cell? ⟨b, off + k * 6 + 3, none⟩ = some (.int .i64 x3) := (by rw [hB2.cell (cell_lt c3)]; exact c3); clear hB2 AR)
      have c7 : Hid (∀ W, Below w2.heap.size w2 W → W.cell? ⟨b, off + k * 6, none⟩ = some (.int .i64 x0) ∧ W.cell? ⟨b, off + k * 6 + 1, none⟩ = some (.int .i64 x1) ∧ W.cell? ⟨b, off + k * 6 + 2, none⟩ = some (.int .i64 x2) ∧ W.cell? ⟨b, off + k * 6 + 3, none⟩ = some (.int .i64 x3) ∧ W.cell? ⟨b, off + k * 6 + 4, none⟩ = some (.int .u64 x4) ∧ W.cell? ⟨b, off + k * 6 + 5, none⟩ = some (.string x5)) := fun W hW => by
        have u := below_on U2.out hW
        refine ⟨?_, ?_, ?_, ?_, ?_, ?_⟩
        · rw [u.cell (cell_lt c0)]; exact c0
        · rw [u.cell (cell_lt c1)]; exact c1
        · rw [u.cell (cell_lt c2)]; exact c2
        · rw [u.cell (cell_lt c3)]; exact c3
        · rw [u.cell (cell_lt c4)]; exact c4
        · rw [u.cell (cell_lt c5)]; exact c5
      clear c0 c1 c2 c3 c4 c5
      obtain ⟨c0, c1, c2, c3, c4, c5⟩ := c7.out w2 (Below.refl _ _)
      obtain ⟨rb, hrb⟩ : ∃ rb : Bool, (rokP ↔ rb = false) := by
        by_cases z : rokP
        · exact ⟨false, fun _ => rfl, fun _ => z⟩
        · exact ⟨true, fun y => absurd y z, fun y => by cases y⟩
      have HR := hid hrb
      clear hrb
      go_cut [59] (fun v wx => v = .bool rb ∧ Hid (Below w2.heap.size w2 wx))
      case first =>
        have E1 : Hid (∀ z : Bool, (rokP ↔ z = false) → z = rb) := fun z hz => bool_same hz HR.out
        clear HR SI
        by_cases h1 : lo < 0
        · have e := hid (E1.out true ⟨fun y => by have := (RK.out.1 y).1; omega, fun y => by cases y⟩)
          clear RK E1
          go_wp2_with fail
          go_meet
          exact ⟨by rw [← e.out], Below.refl _ _⟩
        · by_cases h2 : x3 < lo
          · have e := hid (E1.out true ⟨fun y => by have := (RK.out.1 y).2.1; omega, fun y => by cases y⟩)
            clear RK E1
            go_wp2_with fail
            go_meet
            exact ⟨by rw [← e.out], Below.refl _ _⟩
          · by_cases h3 : hi < x3
            · have e := hid (E1.out true ⟨fun y => by have := (RK.out.1 y).2.2.1; omega, fun y => by cases y⟩)
              clear RK E1
              go_wp2_with fail
              go_meet
              exact ⟨by rw [← e.out], Below.refl _ _⟩
            · cases fb with
              | false =>
                have e := hid (E1.out true ⟨fun y => absurd (RK.out.1 y).2.2.2.1 (by decide), fun y => by cases y⟩)
                clear RK E1
                go_wp2_with (go_at_call 17; refine (FK.out _).mono ?_; rintro e w3 ⟨rfl, hB3⟩)
                go_meet
                exact ⟨by rw [← e.out], hB3⟩
              | true =>
                by_cases h4 : (L : Int) < x3
                · have e := hid (E1.out true ⟨fun y => by have := (RK.out.1 y).2.2.2.2; omega, fun y => by cases y⟩)
                  clear RK E1
                  go_wp2_with (go_at_call 17; refine (FK.out _).mono ?_; rintro e w3 ⟨rfl, hB3⟩)
                  go_meet
                  exact ⟨by rw [← e.out], hB3⟩
                · have e := hid (E1.out false ⟨fun _ => rfl, fun _ => RK.out.2 ⟨by omega, by omega, by omega, rfl, by omega⟩⟩)
                  clear RK E1
                  go_wp2_with (go_at_call 17; refine (FK.out _).mono ?_; rintro e w3 ⟨rfl, hB3⟩)
                  go_meet
                  exact ⟨by rw [← e.out, decide_eq_false (show ¬ (L : Int) < x3 by omega)], hB3⟩
      case rest =>
        obtain ⟨h59, U3⟩ := hcut
        subst h59
        cases rb with
        | true =>
          have e : Hid (DTold w l N (.returned (.tuple #[u6, .int .i64 (k : Int), .int .i64 (L : Int)])) wc) := by
            refine ⟨_, _, _, rfl, below_on I.out.bel (below_on U2.out U3.out), .inl ⟨k, kl, rfl, ?_⟩⟩
            rw [← I.out.ri.ans]
            refine Tr.go_stop hx (fun q => ?_)
            have := HR.out.1 (SI.out.1 q).1
            cases this
          clear I H S0 SI HR RK
          go_wp2_with fail
          go_ret3
          exact e.out
        | false =>
          have rk : rokP := HR.out.2 rfl
          obtain ⟨k1, k2, k3, k4, k5⟩ := RK.out.1 rk
          obtain ⟨n, rfl⟩ : ∃ n : Nat, x3 = (n : Int) := ⟨x3.toNat, by omega⟩
          have AMN : Hid (0 ≤ Tr.am x0 x1 → Tr.am x0 x1 < (n : Int)) := fun z => by
            have q := (Tr.tab_same ⟨x0, x1, x2, (n : Int), x4, x5⟩ L (by omega)).1 (RKE.out ▸ rk)
            have n0 : (Tr.ru x0 x1).least ≤ (n : Int) := q.1.2.2.2.2.1
            have e := Tr.am_target x0 x1
            rcases Tr.ru_target x0 x1 with t | ⟨t1, t2⟩ <;> omega
          have nL : n ≤ L := by omega
          obtain ⟨J, hJ⟩ : ∃ J, L - n = J := ⟨_, rfl⟩
          have ej : (L : Int) - (n : Int) = (J : Int) := by omega
          have SH : Hid ((pp = none ∧ L = 0 ∧ cp = 0) ∨ ∃ g, pp = some ⟨g, 0, none⟩ ∧ L ≤ cp ∧ cp ≤ maxLen ∧ w.heap.size ≤ g ∧ g < wr.heap.size) := by
            rcases I.out.r5.shape0 with ⟨e, z⟩ | ⟨g, c, e, e1, e2, e3, e4⟩
            · simp only [Value.slice.injEq] at e; exact .inl e
            · simp only [Value.slice.injEq] at e
              rw [List.length_map, hL] at e3
              obtain ⟨a1, a2, a3⟩ := e
              subst a3
              exact .inr ⟨g, a1, e3, e4, e1, e2⟩
          clear c0 c1 c2 c3 c4 c5
          go_upto_region 10 with fail
          go_cut [11] (fun v wx => wx = wc ∧ Hid (0 < n → ∃ g, pp = some ⟨g, 0, none⟩ ∧ v = .slice (some ⟨g, J, none⟩) n (cp - J)))
          case first =>
            rcases SH.out with ⟨rfl, rfl, rfl⟩ | ⟨g, rfl, s1, s2, s3, s4⟩
            · obtain rfl : n = 0 := by omega
              clear hJ ej k2 k3 k5 nL
              go_wp2_with fail
              go_meet
              exact ⟨rfl, fun z => absurd z (by omega)⟩
            · have hcp : (L : Int) ≤ (cp : Int) := by omega
              have hcm : (cp : Int) ≤ 9223372036854775807 := by simp only [maxLen] at s2; omega
              have jl : (J : Int) ≤ (L : Int) := by omega
              have jc : (J : Int) ≤ (cp : Int) := by omega
              have EL : Hid (L - J = n) := by rw [Hid]; omega
              by_cases hcj : cp = J
              · subst hcj
                obtain rfl : n = 0 := by omega
                clear hJ k2 k3 k5 nL
                go_wp2_with fail
                go_meet
                exact ⟨rfl, fun z => absurd z (by omega)⟩
              · go_wp2_with fail
                go_meet
                exact ⟨rfl, fun _ => ⟨g, rfl, by rw [EL.out]⟩⟩
          case rest =>
            obtain ⟨hwx, KV⟩ := hcut
            subst hwx
            obtain ⟨c0, c1, c2, c3, c4, c5⟩ := c7.out wc U3.out
            have BW := hid (below_on U2.out U3.out)
            obtain ⟨tb, htb⟩ : ∃ tb : Bool, ((Tr.am x0 x1 < 0 ∨ Tr.isT (Tr.kd l (Rs.getD (J + (Tr.am x0 x1).toNat) 0))) ↔ tb = false) := by
              by_cases z : (Tr.am x0 x1 < 0 ∨ Tr.isT (Tr.kd l (Rs.getD (J + (Tr.am x0 x1).toNat) 0)))
              · exact ⟨false, fun _ => rfl, fun _ => z⟩
              · exact ⟨true, fun y => absurd y z, fun y => by cases y⟩
            have HT := hid htb
            clear htb FK
            go_upto_region 12 with (go_at_call 18; refine (AM.out _).mono ?_; rintro e w4 ⟨rfl, hB4⟩; have U4 := hid hB4; clear hB4)
            generalize hQ : Tr.am x0 x1 = Q at *
            go_cut [87] (fun v wx => v = .bool tb ∧ Hid (Below w4.heap.size w4 wx))
            case first =>
              by_cases ha : 0 ≤ Q
              · have hq := AMN.out ha
                obtain ⟨g, e1, e2⟩ := KV.out (by omega)
                subst e1 e2
                obtain ⟨A, rfl⟩ : ∃ A : Nat, Q = (A : Int) := ⟨Q.toNat, by omega⟩
                obtain ⟨pq, hpq⟩ : ∃ pq, Rs[J + A]? = some pq := ⟨_, List.getElem?_eq_getElem (by omega)⟩
                have pl : pq < k := I.out.ri.lt pq (List.mem_of_getElem? hpq)
                have B4 := below_on BW.out U4.out
                have d0 : w4.cell? ⟨g, J + A, none⟩ = some (.int .i64 (pq : Int)) := by
                  have := (I.out.r5.below B4).cell Tr.ei_len (i := J + A) (a := Int.ofNat pq) (by rw [List.getElem?_map, hpq]; rfl) 0 (by omega) _ rfl
                  simpa using this
                obtain ⟨y, hy⟩ : ∃ y, l[pq]? = some y := ⟨_, List.getElem?_eq_getElem (by omega)⟩
                obtain ⟨b', off', hp', e0, e1, e2, e3, e4, e5⟩ := (H.out.on (below_on I.out.bel B4)) pq y hy
                simp only [Option.some.injEq, Addr.mk.injEq] at hp'
                obtain ⟨rfl, rfl, -⟩ := hp'
                have kdy : Tr.kd l pq = y.kind := by rw [Tr.kd, hy]; rfl
                obtain ⟨y0, y1, y2, y3, y4, y5⟩ := y
                simp only at e0 e1 e2 e3 e4 e5 kdy
                have RT := hid (rta_any y0 y1 y2 y3 y4 y5)
                have gq : Rs.getD (J + A) 0 = pq := by rw [List.getD_eq_getElem?_getD, hpq]; rfl
                obtain ⟨iz, hiz⟩ : ∃ iz : Bool, decide (Tr.isT y0) = iz := ⟨_, rfl⟩
                have TE : Hid (tb = !iz) := by
                  have q := HT.out
                  rw [Int.toNat_natCast, gq, kdy] at q
                  rw [Hid, ← hiz]
                  by_cases z : Tr.isT y0
                  · rw [q.1 (.inr z), decide_eq_true z]; rfl
                  · rw [decide_eq_false z]
                    cases tb with
                    | true => rfl
                    | false => rcases q.2 rfl with y | y; omega; exact absurd y z
                rw [hiz] at RT
                have pli : (pq : Int) < (N : Int) := by omega
                have hAn : (A : Int) < (n : Int) := by omega
                clear HT SI I H S0 hpq gq kdy hy hiz
                go_wp2_with (go_at_call 19; refine (RT.out _).mono ?_; rintro e w5 ⟨rfl, hB5⟩)
                go_meet
                exact ⟨by rw [TE.out], hB5⟩
              · have TE : Hid (tb = false) := HT.out.1 (.inl (by omega))
                clear HT SI I H S0
                go_wp2_with fail
                go_meet
                exact ⟨by rw [TE.out], Below.refl _ _⟩
            case rest =>
              obtain ⟨h87, U5⟩ := hcut
              subst h87
              have B5 := hid (below_on BW.out (below_on U4.out U5.out))
              cases tb with
              | true =>
                have e : Hid (DTold w l N (.returned (.tuple #[u6, .int .i64 (k : Int), .int .i64 (L : Int)])) wc) := by
                  refine ⟨_, _, _, rfl, below_on I.out.bel B5.out, .inl ⟨k, kl, rfl, ?_⟩⟩
                  rw [← I.out.ri.ans]
                  refine Tr.go_stop hx (fun q => ?_)
                  have z := (SI.out.1 q).2
                  simp only [Int.toNat_natCast, hJ] at z
                  have := HT.out.1 z
                  cases this
                clear I H S0 SI HT RK
                go_wp2_with fail
                go_ret3
                exact e.out
              | false =>
                have hs : Tr.st ⟨x0, x1, x2, (n : Int), x4, x5⟩ (Tr.rwv l ds Rs) := SI.out.2 ⟨rk, by
                  have z := HT.out.2 rfl
                  simp only [Int.toNat_natCast, hJ]
                  exact z⟩
                have RS := hid (I.out.ri.step hx hs kl)
                have r5 := hid (I.out.r5.below B5.out)
                have r6 := hid (I.out.r6.below B5.out)
                have wb := hid (below_on I.out.bel B5.out)
                have hap := hid I.out.ap
                have hlt := hid I.out.ri.lt
                have hdl := I.out.ri.len
                have hbd := hid I.out.ri.bd
                have ND : Hid (Tr.nd (Tr.rwv l ds Rs) ⟨x0, x1, x2, (n : Int), x4, x5⟩ = 1 + Tr.dp ((Tr.rwv l ds Rs).drop J)) := by
                  rw [Hid, Tr.nd, Tr.rwv_len, hL]
                  show 1 + Tr.dp ((Tr.rwv l ds Rs).drop (L - (n : Int).toNat)) = _
                  rw [Int.toNat_natCast, hJ]
                have DPB : Hid (∀ j, 0 ≤ Tr.dp (((Tr.rwv l ds Rs).drop J).take j) ∧ Tr.dp (((Tr.rwv l ds Rs).drop J).take j) ≤ (k : Int)) := fun j => ⟨Tr.dp_nonneg _, Tr.dp_le (fun a ha => Tr.rwv_bd I.out.ri a (List.mem_of_mem_drop (List.mem_of_mem_take ha))) (by omega)⟩
                have RL : Hid (((Tr.rwv l ds Rs).drop J).length = n) := by rw [Hid, List.length_drop, Tr.rwv_len, hL]; omega
                have h6 : ∃ q6 c6, u6 = .slice q6 k c6 := by
                  rcases r6.out.shape0 with ⟨e, z⟩ | ⟨g, c, e, _⟩
                  · exact ⟨none, 0, by rw [e, ← hdl, z]; rfl⟩
                  · exact ⟨_, c, by rw [e, hdl]⟩
                obtain ⟨q6, c6, rfl⟩ := h6
                clear I H S0 SI HT RK RKE c0 c1 c2 c3 c4 c5 c7 U2 U3 U4 U5 BW AM HR hs rk
                go_wp2_with fail
                go_loopg [13, 14] n (fun m dv iv wq => ∃ j : Nat, j + m = n ∧ iv = .int .i64 (j : Int) ∧ dv = .int .i64 (Tr.dp (((Tr.rwv l ds Rs).drop J).take j)) ∧ Hid (wq = wc))
                case atStart => exact ⟨0, by omega, rfl, rfl, rfl⟩
                case round =>
                  obtain ⟨j, hj, rfl, rfl, hw⟩ := hrel
                  by_cases jn : j < n
                  · have jni : (j : Int) < (n : Int) := by omega
                    obtain ⟨g, e1, e2⟩ := KV.out (by omega)
                    subst e1 e2
                    obtain ⟨pq, hpq⟩ : ∃ pq, Rs[J + j]? = some pq := ⟨_, List.getElem?_eq_getElem (by omega)⟩
                    have pl : pq < k := hlt.out pq (List.mem_of_getElem? hpq)
                    have d0 : wr.cell? ⟨g, J + j, none⟩ = some (.int .i64 (pq : Int)) := by
                      have := r5.out.cell Tr.ei_len (i := J + j) (a := Int.ofNat pq) (by rw [List.getElem?_map, hpq]; rfl) 0 (by omega) _ rfl
                      rw [hw.out]
                      simpa using this
                    obtain ⟨dd, hdd⟩ : ∃ dd, ds[pq]? = some dd := ⟨_, List.getElem?_eq_getElem (by omega)⟩
                    have h6 : ∃ g6, q6 = some ⟨g6, 0, none⟩ := by
                      rcases r6.out.shape0 with ⟨e, z⟩ | ⟨g, c, e, _⟩
                      · rw [z] at hdl; simp at hdl; omega
                      · simp only [Value.slice.injEq] at e; exact ⟨g, e.1⟩
                    obtain ⟨g6, rfl⟩ := h6
                    have d6 : wr.cell? ⟨g6, pq, none⟩ = some (.int .i64 dd) := by
                      have := r6.out.cell Tr.ei_len (i := pq) (a := dd) hdd 0 (by omega) _ rfl
                      rw [hw.out]
                      simpa using this
                    have er : ((Tr.rwv l ds Rs).drop J)[j]? = some (Tr.kd l pq, dd) := by
                      rw [List.getElem?_drop, Tr.rwv, List.getElem?_map, hpq]
                      show some (Tr.kd l pq, ds.getD pq 0) = _
                      rw [List.getD_eq_getElem?_getD, hdd]; rfl
                    have e := Tr.dp_take er
                    simp only at e
                    have pli : (pq : Int) < (k : Int) := by omega
                    have kb : (k : Int) ≤ 10000 := by omega
                    generalize Tr.dp (((Tr.rwv l ds Rs).drop J).take j) = D at *
                    generalize hd2 : Tr.dp (((Tr.rwv l ds Rs).drop J).take (j + 1)) = D2 at *
                    have HD := hid hd2
                    clear hd2 er hdd hpq
                    by_cases hc : D < dd
                    · have E2 : Hid (dd = D2) := by rw [Hid]; omega
                      clear e
                      go_wp2_with fail
                      go_roundg (n - (j + 1))
                      case measure => omega
                      case rel => exact ⟨j + 1, by omega, by go_num, by rw [HD.out, ← E2.out], hw⟩
                    · have E2 : Hid (D = D2) := by rw [Hid]; omega
                      clear e
                      go_wp2_with fail
                      go_roundg (n - (j + 1))
                      case measure => omega
                      case rel => exact ⟨j + 1, by omega, by go_num, by rw [HD.out, ← E2.out], hw⟩
                  · obtain rfl : j = n := by omega
                    have jni : ¬ (j : Int) < (j : Int) := by omega
                    have et : ((Tr.rwv l ds Rs).drop J).take j = (Tr.rwv l ds Rs).drop J := List.take_of_length_le (by have := RL.out; omega)
                    have db := DPB.out j
                    rw [et] at db ⊢
                    generalize Tr.dp ((Tr.rwv l ds Rs).drop J) = D at *
                    obtain rfl : wr = wc := hw.out
                    clear hw
                    have kb : (k : Int) ≤ 10000 := by omega
                    obtain ⟨db0, db1⟩ := db
                    obtain ⟨m6, w7, AP, P1, P2, P3, P4, P5⟩ := r6.out.push2 Tr.ei_len ei_one (by omega) (P := Try.prog) 35 Try.underlying35 (z := .int .i64 0) (bytes := 8) (by kernel_rfl) (by omega) rfl (D + 1) (by omega) (by have := wb.out.size; omega)
                    have AP6 : Hid ((Builtin.append_ #[35, 35] 35 #[.slice q6 k c6, .slice (some ⟨wr.heap.size, 0, none⟩) 1 1]).run Try.prog (wr.alloc (.cells #[.int .i64 (D + 1)] 3)) = .ok m6 w7) := AP
                    have sz7 := P2
                    have r5c : ∀ RV : Value, RV.ownBlock = (Value.slice pp L cp).ownBlock → ∀ D', Re.Ow Tr.ei 3 1 w.heap.size wr RV D' → Re.Ow Tr.ei 3 1 w.heap.size w7 RV D' := fun RV hRV D' h => h.move (fun g hg => P4 g (h.lt g hg).2 (fun e => hap.out g (hRV ▸ hg) e.symm))
                    have FIN : Hid (∀ RV : Value, RV.ownBlock = (Value.slice pp L cp).ownBlock → Re.Ow Tr.ei 3 1 w.heap.size wr RV ((Rs.take J).map Int.ofNat) → ∃ m5 w8, (Builtin.append_ #[35, 35] 35 #[RV, .slice (some ⟨w7.heap.size, 0, none⟩) 1 1]).run Try.prog (w7.alloc (.cells #[.int .i64 (k : Int)] 3)) = .ok m5 w8 ∧ DpI w l N (k + 1) m5 m6 (Rs.take J ++ [k]) (ds ++ [D + 1]) w8) := fun RV hRV hO => by
                      have o7 := r5c RV hRV _ hO
                      obtain ⟨m5, w8, A, Q1, Q2, Q3, Q4, Q5⟩ := o7.push2 Tr.ei_len ei_one (by omega) (P := Try.prog) 35 Try.underlying35 (z := .int .i64 0) (bytes := 8) (by kernel_rfl) (by omega) rfl (k : Int) (by rw [List.length_map, List.length_take]; omega) (by have := wb.out.size; omega)
                      have far : ∀ g, m6.ownBlock = some g → RV.ownBlock ≠ some g := fun g hg e => by
                        rcases P5 g hg with z | z
                        · exact hap.out g (hRV ▸ e) z
                        · have := (hO.lt g e).2; omega
                      refine ⟨m5, w8, A, ⟨?_, ?_, ?_, ?_, ?_⟩⟩
                      · rw [List.map_append]; exact Q1
                      · exact P1.move (fun g hg => Q4 g (P1.lt g hg).2 (fun e => far g hg e.symm))
                      · exact (wb.out.trans P3).trans Q3
                      · have e := RS.out
                        rw [ND.out, Int.add_comm, hL] at e
                        rw [← hJ]
                        exact e
                      · intro g hg e
                        rcases Q5 g hg with z | z
                        · exact far g e z
                        · have := (P1.lt g e).2; omega
                    have r5k := hid r5.out
                    clear P1 P2 P3 P4 P5 AP r5c RS ND DPB RL r6 r5 hap hlt hbd wb et
                    rcases SH.out with ⟨rfl, rfl, rfl⟩ | ⟨g, rfl, s1, s2, s3, s4⟩
                    · obtain rfl : j = 0 := by omega
                      obtain rfl : J = 0 := by omega
                      obtain ⟨m5, w8, A8, LK⟩ := FIN.out (.slice none 0 0) rfl (Re.Ow.nil wr)
                      have AP8 := hid A8
                      have LK8 := hid LK
                      clear FIN A8 LK r5k SH hJ ej k2 k3 k5 nL hj KV AMN jni
                      go_wp2_with (at_builtin; first | (refine wpList_append_b rfl _ _ rfl AP6.out (by rfl) (by rfl) ?_; clear AP6) | (refine wpList_append_b rfl _ _ rfl AP8.out (by rfl) (by rfl) ?_; clear AP8))
                      go_roundg (N - (k + 1))
                      case measure => omega
                      case rel => exact ⟨k + 1, _, _, by omega, by go_num, LK8⟩
                    · have hcp : (L : Int) ≤ (cp : Int) := by omega
                      have hcm : (cp : Int) ≤ 9223372036854775807 := by simp only [maxLen] at s2; omega
                      have jl : (J : Int) ≤ (L : Int) := by omega
                      have jc : (J : Int) ≤ (cp : Int) := by omega
                      obtain ⟨m5, w8, A8, LK⟩ := FIN.out (.slice (some ⟨g, 0, none⟩) J cp) rfl (by rw [List.map_take]; exact r5k.out.take Tr.ei_len J (by rw [List.length_map]; omega))
                      have AP8 := hid A8
                      have LK8 := hid LK
                      clear FIN A8 LK r5k SH
                      go_wp2_with (at_builtin; first | (refine wpList_append_b rfl _ _ rfl AP6.out (by rfl) (by rfl) ?_; clear AP6) | (refine wpList_append_b rfl _ _ rfl AP8.out (by rfl) (by rfl) ?_; clear AP8))
                      go_roundg (N - (k + 1))
                      case measure => omega
                      case rel => exact ⟨k + 1, _, _, by omega, by go_num, LK8⟩
    · obtain rfl : k = N := by omega
      have kli : ¬ (k : Int) < (k : Int) := by omega
      have F : Hid (DTold w l k (.returned (.tuple #[u6, .int .i64 (k : Int), .int .i64 (L : Int)])) wr) := ⟨_, _, _, rfl, I.out.bel, .inr ⟨rfl, Rs, ds, I.out.ri, by rw [hL], I.out.r6⟩⟩
      clear I H S0
      go_wp2_with fail
      go_ret3
      exact F.out
end Go.Proofs.Ythachcidfnjbaaa
