/-
  NumeralKeeps: apart.
-/
import Derived.Test.YtbdilikdenhnkaaDoorRB
import Derived.BigQuiet
import Derived.Deep.RegionHeld3
import Derived.Deep.CutRange
import Derived.Deep.CutBlock
namespace Go.Proofs.YtbdilikdenhnkaaDoor
open Go Go.RowKit Go.Deep

theorem wpList_append_k {ty tx : TypeId} {ops : Array Oper} {rest : List Oper} {o : Oper} {a : Act} {Q : Exit → Act → World → Prop} (hgd : o.guard = none) (s x : Operand)
    (ho : o.op = .call { callee := .builtin .append, args := #[s, x], argTypes := #[ty, tx] }) {v y v' : Value} {w w' : World} (hr : (Builtin.append_ #[ty, tx] o.type #[v, y]).run Tryd.prog w = .ok v' w') (hs : a.eval s = v) (hx : a.eval x = y)
    (h : wpList Tryd.prog ops Q rest (a.put o.dst v') w') : wpList Tryd.prog ops Q (o :: rest) a w := by
  refine wpList_plain hgd fun K hK => ?_
  unfold Oper.wp execOp
  simp only [ho, resolve, invoke, builtin, Sem.run_bind, Sem.run_pure, Result.andThen_ok, List.map_toArray, List.map_cons, List.map_nil, hs, hx, hr]
  exact hK _ _ h
theorem ow_u1K {B : Nat} {w : World} {mv : Value} {D : List Int} (h : Re.Ow u1 32 1 B w mv D) (h0 : 0 < D.length) : ∃ g cap, mv = .slice (some ⟨g, 0, none⟩) D.length cap ∧ B ≤ g ∧ Lies w (some ⟨g, 0, none⟩) D := by
  rcases h.shape with ⟨c, rfl, hD⟩ | ⟨g, cap, hmv, hb, hs, hc, hm⟩
  · rw [hD] at h0; simp at h0
  · refine ⟨g, cap, hmv, hb, .inr ⟨g, 0, rfl, fun i hi => ?_⟩⟩
    obtain ⟨a, ha⟩ : ∃ a, D[i]? = some a := ⟨_, List.getElem?_eq_getElem hi⟩
    rw [hmv] at h
    have := h.cell u1_len ha 0 (by omega) (.int .u64 a) rfl
    rw [Nat.mul_one, Nat.add_zero] at this
    rw [Nat.zero_add, this, List.getD, ha]
    rfl

set_option maxRecDepth 100000 in
set_option maxHeartbeats 16000000 in
theorem apart_any (B gl n c : Nat) (L : List Ke) (w : World) (h : Bx w gl 22 (Kp.LC (L.map Ke.v))) (hn : L.length = n) (nb : n ≤ 1000) (E : Kp.Each (fun _ _ => True) B w L) (ap : Apart L) (hB : B ≤ gl) (far : ∀ e ∈ L, ∀ b, e.blk = some b → b < gl) (small : ∀ e ∈ L, e.n ≤ 1048000) :
    Calls Tryd.prog 13 #[.slice (some ⟨gl, 0, none⟩) n c] w fun e w' => e = .returned (.bool true) ∧ Below B w w' := by
  obtain ⟨gn, ge, wa, wb, m1, m2, S0⟩ := Kp.two B gl n L w h hn nb E ap hB far small
  have FC := hid S0.out.1
  have S1 := hid S0.out.2
  have nbi : (n : Int) ≤ 1000 := by omega
  have HN := hid hn
  have NB := hid nb
  clear S0 h E ap hB far small hn nb
  go_enter Tryd.func13, Tryd.ntmps13
  go_wp2_with fail
  clear m1 m2
  go_loopg [5] n (fun m iv wr => ∃ i : Nat, i + m = n ∧ iv = .int .i64 (i : Int) ∧ Hid (Kp.F1 B w gl gn ge n L (Kp.ee L n i) (Kp.CM 1000003 i 0) wr))
  case atStart => exact ⟨0, by omega, rfl, S1.out⟩
  case round =>
    obtain ⟨i, hi, rfl, I⟩ := hrel
    clear S1
    by_cases il : i < n
    · have ili : (i : Int) < (n : Int) := by omega
      obtain ⟨⟨ep, en⟩, he⟩ : ∃ e, L[i]? = some e := ⟨_, List.getElem?_eq_getElem (by have := HN.out; omega)⟩
      have HE := hid he
      have enb : en ≤ 1048000 := FC.out.small _ (List.mem_of_getElem? he)
      have cl := Kp.lc_cell I.out.bl (i := i) (x := ⟨ep, en, en⟩) (by rw [List.getElem?_map, he]; rfl)
      have ce := Kp.ic_cell I.out.be (Kp.ee_at HN.out il)
      have fe := Kp.bx_free I.out.be i
      have J1 : Hid (Kp.F1 B w gl gn ge n L (Kp.ee L n (i + 1)) (Kp.CM 1000003 i 0) (wr.setCell ⟨ge, i, none⟩ (.int .i64 (en : Int)))) := I.out.end_ FC.out he
      simp only at cl
      clear he I
      go_upto_region 7 with fail
      clear cl ce fe
      go_wp2_with fail
      go_loopg [6] en (fun m iv wr => ∃ t : Nat, t + m = en ∧ iv = .int .i64 (t : Int) ∧ Hid (Kp.F1 B w gl gn ge n L (Kp.ee L n (i + 1)) (Kp.CM 1000003 i t) wr))
      case atStart => exact ⟨0, by omega, rfl, J1.out⟩
      case round =>
        obtain ⟨t, ht, rfl, J⟩ := hrel
        clear J1
        have cl := Kp.lc_cell J.out.bl (i := i) (x := ⟨ep, en, en⟩) (by rw [List.getElem?_map, HE.out]; rfl)
        simp only at cl
        by_cases tl : t < en
        · have tli : (t : Int) < (en : Int) := by omega
          obtain ⟨M, hM⟩ : ∃ M, (1000003 : Int) * ((i : Int) + 1) = M := ⟨_, rfl⟩
          obtain ⟨x, hx⟩ : ∃ x, M + (t : Int) = x := ⟨_, rfl⟩
          have w1 : IntKind.i64.wrap ((i : Int) + 1) = (i : Int) + 1 := by rw [IntKind.wrap_i64]; omega
          have w2 : IntKind.u64.wrap ((i : Int) + 1) = (i : Int) + 1 := by rw [Sh.wrap_mod]; omega
          have w3 : IntKind.u64.wrap (1000003 * ((i : Int) + 1)) = M := by rw [hM, Sh.wrap_mod]; omega
          have w4 : IntKind.u64.wrap (t : Int) = (t : Int) := by rw [Sh.wrap_mod]; omega
          have w5 : IntKind.u64.wrap (M + (t : Int)) = x := by rw [hx, Sh.wrap_mod]; omega
          obtain ⟨b, off, y, hp, cb, fb, K6⟩ := J.out.mark FC.out HE.out tl x (Kp.CM 1000003 i (t + 1)) (fun j zs hj c => Kp.cm_other hj c) (fun zs hz c => by rw [← hx, ← hM]; exact Kp.cm_put (by simp only at hz; omega) c)
          simp only at hp
          subst hp
          have K7 := hid K6
          clear K6 J hx hM
          go_wp2_with fail
          go_roundg (en - (t + 1))
          case measure => omega
          case rel => exact ⟨t + 1, by omega, by go_num, K7.out⟩
        · obtain rfl : t = en := by omega
          have tli : ¬ (t : Int) < (t : Int) := by omega
          have K8 : Hid (Kp.F1 B w gl gn ge n L (Kp.ee L n (i + 1)) (Kp.CM 1000003 (i + 1) 0) wr) := J.out.mono (fun j e he zs hz c => Kp.cm_next (fun q => by subst q; have := HE.out; rw [he] at this; cases this; exact hz) c)
          clear J
          go_wp2_with fail
          go_roundg (n - (i + 1))
          case measure => omega
          case rel => exact ⟨i + 1, by omega, by go_num, K8.out⟩
    · obtain rfl : i = n := by omega
      have ili : ¬ (i : Int) < (i : Int) := by omega
      have hee := Kp.ee_full HN.out
      obtain ⟨gf, wf, m3, S3⟩ := Kp.more I.out FC.out NB.out 900000007 16
      have S3 := hid S3.out
      clear I
      go_wp2_with fail
      clear m3
      go_loopg [8] i (fun m iv wr => ∃ (k : Nat) (vs : List Sl), k + m = i ∧ iv = .int .i64 (k : Int) ∧ Hid (Kp.F1 B w gl gn ge i L (Kp.ee L i i) (Kp.CM 1000003 i 0) wr ∧ Kp.Rw 900000007 16 gf L vs k wr))
      case atStart => exact ⟨0, _, by omega, rfl, S3.out.2⟩
      case round =>
        obtain ⟨k, vs, hk, rfl, I⟩ := hrel
        have G0 := hid S3.out.1
        clear S3
        by_cases kl : k < i
        · have kli : (k : Int) < (i : Int) := by omega
          obtain ⟨⟨ep, en⟩, he⟩ : ∃ e, L[k]? = some e := ⟨_, List.getElem?_eq_getElem (by have := HN.out; omega)⟩
          have HE := hid he
          have enb : en ≤ 1048000 := FC.out.small _ (List.mem_of_getElem? he)
          have cl := Kp.lc_cell I.out.1.bl (i := k) (x := ⟨ep, en, en⟩) (by rw [List.getElem?_map, he]; rfl)
          simp only at cl
          obtain ⟨zs, z1, _, z3⟩ := I.out.1.ea k _ he
          simp only at z1 z3
          obtain ⟨W0, hW0⟩ : ∃ W0, W0 = wr := ⟨_, rfl⟩
          have I0 : Hid (Kp.F1 B w gl gn ge i L (Kp.ee L i i) (Kp.CM 1000003 i 0) W0 ∧ Kp.Rw 900000007 16 gf L vs k W0) := by rw [hW0]; exact I.out
          have HL0 : Hid (Lies W0 ep zs) := by rw [hW0]; exact z3.1
          have HW : Hid (W0 = wr) := hW0
          have Z1 := hid z1
          clear z1 z3 he I hW0
          go_upto_region 16 with fail
          clear cl
          go_wp2_with fail
          go_loopg [9, 10] 16 (fun m lv iv wr => ∃ (t : Nat) (pp : Option Addr) (cc : Nat), t + m = 16 ∧ iv = .int .i64 (t : Int) ∧ lv = .slice pp (en + t) cc ∧ Hid (Below W0.heap.size W0 wr ∧ ((t = 0 ∧ lv = .slice ep en en) ∨ (0 < t ∧ Re.Ow u1 32 1 W0.heap.size wr lv (zs ++ Kp.ms 900000007 k en t)))))
          case atStart => exact ⟨0, _, _, by omega, rfl, rfl, by rw [HW.out]; exact Below.refl _ _, .inl ⟨rfl, rfl⟩⟩
          case round =>
            obtain ⟨t, pp, cc, ht, rfl, rfl, J⟩ := hrel
            clear HW
            by_cases tl : t < 16
            · have tli : (t : Int) < 16 := by omega
              obtain ⟨Q, hQ⟩ : ∃ Q, en + t = Q := ⟨_, rfl⟩
              obtain ⟨M, hM⟩ : ∃ M, (900000007 : Int) * ((k : Int) + 1) = M := ⟨_, rfl⟩
              obtain ⟨x, hx⟩ : ∃ x, M + (Q : Int) = x := ⟨_, rfl⟩
              have w1 : IntKind.i64.wrap ((k : Int) + 1) = (k : Int) + 1 := by rw [IntKind.wrap_i64]; omega
              have w2 : IntKind.u64.wrap ((k : Int) + 1) = (k : Int) + 1 := by rw [Sh.wrap_mod]; omega
              have w3 : IntKind.u64.wrap (900000007 * ((k : Int) + 1)) = M := by rw [hM, Sh.wrap_mod]; omega
              have w4 : IntKind.u64.wrap (Q : Int) = (Q : Int) := by rw [Sh.wrap_mod]; omega
              have w5 : IntKind.u64.wrap (M + (Q : Int)) = x := by rw [hx, Sh.wrap_mod]; omega
              obtain ⟨lv', w6, ap, o6, b6⟩ := app_lK (x := x) Z1.out (Kp.ms_len 900000007 k en t) enb tl (HL0.out.below J.out.1 (Nat.le_refl _)) J.out.1.size J.out.2
              have em : Kp.ms 900000007 k en t ++ [x] = Kp.ms 900000007 k en (t + 1) := by rw [Kp.ms_succ, ← hx, ← hM, ← hQ]
              rw [em] at o6
              obtain ⟨gq, cq, rfl, _⟩ := ow_u1K o6 (by rw [List.length_append, Kp.ms_len]; omega)
              have lq : (zs ++ Kp.ms 900000007 k en (t + 1)).length = en + (t + 1) := by rw [List.length_append, Kp.ms_len, Z1.out]
              rw [lq] at ap o6
              rw [hQ] at ap
              have AP := hid ap
              have O6 := hid o6
              have W6 : Hid (Below W0.heap.size W0 w6) := J.out.1.trans b6
              simp only [hQ]
              clear ap o6 b6 J lq em hx hM hQ
              go_wp2_with (at_builtin; refine wpList_append_k rfl _ _ rfl AP.out (by rfl) (by rfl) ?_; clear AP)
              go_roundg (16 - (t + 1))
              case measure => omega
              case rel => exact ⟨t + 1, _, _, by omega, by go_num, rfl, W6.out, .inr ⟨by omega, O6.out⟩⟩
            · obtain rfl : t = 16 := by omega
              have tli : ¬ (((16 : Nat) : Int)) < 16 := by omega
              have ow : Re.Ow u1 32 1 W0.heap.size wr (.slice pp (en + 16) cc) (zs ++ Kp.ms 900000007 k en 16) := by
                rcases J.out.2 with ⟨h, _⟩ | ⟨_, h⟩
                · cases h
                · exact h
              have lq : (zs ++ Kp.ms 900000007 k en 16).length = en + 16 := by rw [List.length_append, Kp.ms_len, Z1.out]
              obtain ⟨g2, c2, e2, hg, hL2⟩ := ow_u1K ow (by omega)
              rw [lq] at e2
              simp only [Value.slice.injEq, true_and] at e2
              obtain ⟨rfl, rfl⟩ := e2
              have g2f : gf < g2 := by have := I0.out.2.row.lt; omega
              have F3 := (I0.out.1.on FC.out J.out.1).far FC.out G0.out (o := k) (.slice (some ⟨g2, 0, none⟩) (en + 16) cc)
              have R2 := I0.out.2.on J.out.1
              have R3 := R2.put (cap := cc) HE.out lq hL2 g2f (fun u h1 h2 => by
                simp only at h1 h2
                rw [List.getD, List.getElem?_append_right (by rw [Z1.out]; omega), Z1.out, Kp.ms_at (by omega), show en + (u - en) = u by omega]
                rfl)
              obtain ⟨x9, hx9⟩ : ∃ x, vs[k]? = some x := ⟨_, List.getElem?_eq_getElem (by rw [R2.len, HN.out]; exact kl)⟩
              have cr := Kp.lc_cell R2.row hx9
              have fr := Kp.bx_free R2.row k
              have X3 := hid (And.intro F3 R3)
              simp only at X3
              obtain ⟨Q, hQ⟩ : ∃ Q, en + 16 = Q := ⟨_, rfl⟩
              rw [hQ] at X3
              simp only [hQ]
              clear F3 R2 R3 hx9 J ow lq hL2 hg g2f I0 hQ
              go_wp2_with fail
              go_roundg (i - (k + 1))
              case measure => omega
              case rel => exact ⟨k + 1, _, by omega, by go_num, X3.out⟩
        · obtain rfl : k = i := by omega
          have kli : ¬ (k : Int) < (k : Int) := by omega
          have HO1 := hid (I.out.1.ho FC.out)
          have HO2 := hid ((by have := I.out.2; rw [← HN.out] at this; exact this : Kp.Rw 900000007 16 gf L vs L.length wr).ho FC.out.small (by omega))
          have F9 := hid I.out.1
          have V9 := hid I.out.2
          have LV : Hid (vs.length = k) := V9.out.len.trans HN.out
          have H1 := hid (fun W (hB : Below wr.heap.size wr W) => holds_any gl gn k c k (L.map Ke.v) (List.replicate k 0) 1000003 W (F9.out.on FC.out hB).bl (F9.out.on FC.out hB).bn (by rw [List.length_map]; exact HN.out) NB.out (by omega) (by omega) (HO1.out.on hB))
          have H2 := hid (fun W (hB : Below wr.heap.size wr W) => holds_any gf ge k k k vs (L.map (fun e => (e.n : Int))) 900000007 W (V9.out.on hB).row (by have := (F9.out.on FC.out hB).be; rw [hee] at this; exact this) LV.out NB.out (by omega) (by omega) (HO2.out.on hB))
          clear I HO1 HO2 V9 LV
          go_upto_region 23 with (go_at_call 19; first | (refine (H1.out _ (Below.refl _ _)).mono ?_; rintro e w9 ⟨rfl, b9⟩; have U9 := hid b9; clear b9 H1) | (refine (H2.out _ U9.out).mono ?_; rintro e w10 ⟨rfl, b10⟩; have U10 := hid (U9.out.trans (b10.mono U9.out.size)); clear b10 H2 U9))
          have F10 := hid (F9.out.on FC.out U10.out)
          clear U10 F9
          obtain ⟨gm, wm, m4, S4⟩ := Kp.more F10.out FC.out NB.out 700000001 70
          have S4 := hid S4.out
          clear F10
          go_wp2_with fail
          clear m4
          go_loopg [12] k (fun m iv wr => ∃ (i : Nat) (vs : List Sl), i + m = k ∧ iv = .int .i64 (i : Int) ∧ Hid (Kp.F1 B w gl gn ge k L (Kp.ee L k k) (Kp.CM 1000003 k 0) wr ∧ Kp.Rw 700000001 70 gm L vs i wr))
          case atStart => exact ⟨0, _, by omega, rfl, S4.out.2⟩
          case round =>
            obtain ⟨i, vs, hi, rfl, I⟩ := hrel
            have G4 := hid S4.out.1
            clear S4
            by_cases il : i < k
            · have ili : (i : Int) < (k : Int) := by omega
              obtain ⟨⟨ep, en⟩, he⟩ : ∃ e, L[i]? = some e := ⟨_, List.getElem?_eq_getElem (by have := HN.out; omega)⟩
              have HE := hid he
              have enb : en ≤ 1048000 := FC.out.small _ (List.mem_of_getElem? he)
              have cl := Kp.lc_cell I.out.1.bl (i := i) (x := ⟨ep, en, en⟩) (by rw [List.getElem?_map, he]; rfl)
              simp only at cl
              obtain ⟨zs, z1, _, z3⟩ := I.out.1.ea i _ he
              simp only at z1 z3
              obtain ⟨cap, w3, ap, o3, b3⟩ := zeros_app ep en zs wr z1 enb z3.1
              obtain ⟨g, hg⟩ : ∃ g, wr.heap.size = g := ⟨_, rfl⟩
              obtain ⟨Q, hQ⟩ : ∃ Q, en + 70 = Q := ⟨_, rfl⟩
              have F3 := hid (I.out.1.on FC.out b3)
              obtain ⟨W0, hW0⟩ : ∃ W0, W0 = wr := ⟨_, rfl⟩
              have I0 : Hid (Kp.F1 B w gl gn ge k L (Kp.ee L k k) (Kp.CM 1000003 k 0) W0 ∧ Kp.Rw 700000001 70 gm L vs i W0) := by rw [hW0]; exact I.out
              have B3 : Hid (Below W0.heap.size W0 w3) := by rw [hW0]; exact b3
              have HG : Hid (W0.heap.size = g) := by rw [hW0]; exact hg
              have cl3 := Kp.lc_cell F3.out.bl (i := i) (x := ⟨ep, en, en⟩) (by rw [List.getElem?_map, he]; rfl)
              simp only at cl3
              rw [hg, hQ] at ap
              rw [hg] at o3
              have S5 : Hid (∃ ys, Own w3 g ys ∧ Q ≤ ys.length) := ⟨_, o3, by rw [List.length_append, List.length_replicate, z1]; omega⟩
              have AP := hid ap
              have hQ3 := hid hQ
              have Qb : (Q : Int) ≤ 1048070 := by omega
              have eQ : (en : Int) ≤ (Q : Int) := by omega
              clear ap o3 b3 z1 z3 he I hg hQ hW0 F3
              go_upto_region 28 with (at_builtin; refine wpList_append_k rfl _ _ rfl AP.out (by rfl) (by rfl) ?_; clear AP)
              clear cl
              go_upto_region 29 with fail
              clear cl3
              go_loopg [14] 70 (fun m iv wr => ∃ (u : Nat) (ys : List Int), u + m = Q ∧ en ≤ u ∧ iv = .int .i64 (u : Int) ∧ Hid (Below W0.heap.size W0 wr ∧ Own wr g ys ∧ Q ≤ ys.length ∧ ∀ v, en ≤ v → v < u → ys.getD v 0 = 700000001 * ((i : Int) + 1) + (v : Int)))
              case atStart =>
                obtain ⟨ys, y1, y2⟩ := S5.out
                exact ⟨en, ys, hQ3.out, Nat.le_refl _, rfl, B3.out, y1, y2, fun v h1 h2 => by omega⟩
              case round =>
                obtain ⟨u, ys, hu, eu, rfl, J⟩ := hrel
                clear S5 B3
                by_cases ul : u < Q
                · have uli : (u : Int) < (Q : Int) := by omega
                  obtain ⟨M, hM⟩ : ∃ M, (700000001 : Int) * ((i : Int) + 1) = M := ⟨_, rfl⟩
                  obtain ⟨x, hx⟩ : ∃ x, M + (u : Int) = x := ⟨_, rfl⟩
                  have w1 : IntKind.i64.wrap ((i : Int) + 1) = (i : Int) + 1 := by rw [IntKind.wrap_i64]; omega
                  have w2 : IntKind.u64.wrap ((i : Int) + 1) = (i : Int) + 1 := by rw [Sh.wrap_mod]; omega
                  have w3 : IntKind.u64.wrap (700000001 * ((i : Int) + 1)) = M := by rw [hM, Sh.wrap_mod]; omega
                  have w4 : IntKind.u64.wrap (u : Int) = (u : Int) := by rw [Sh.wrap_mod]; omega
                  have w5 : IntKind.u64.wrap (M + (u : Int)) = x := by rw [hx, Sh.wrap_mod]; omega
                  have uy : u < ys.length := by have := J.out.2.2.1; omega
                  obtain ⟨y, hy⟩ : ∃ y, ys.getD u 0 = y := ⟨_, rfl⟩
                  have cy := J.out.2.1.cell u uy
                  rw [hy] at cy
                  have fy := J.out.2.1.free u
                  have K7 : Hid (Below W0.heap.size W0 (wr.setCell ⟨g, u, none⟩ (.int .u64 x)) ∧ Own (wr.setCell ⟨g, u, none⟩ (.int .u64 x)) g (ys.set u x) ∧ Q ≤ (ys.set u x).length ∧ ∀ v, en ≤ v → v < u + 1 → (ys.set u x).getD v 0 = 700000001 * ((i : Int) + 1) + (v : Int)) := by
                    refine ⟨J.out.1.setCell (p := ⟨g, u, none⟩) (Nat.le_of_eq HG.out) _, J.out.2.1.set u x, by rw [List.length_set]; exact J.out.2.2.1, fun v h1 h2 => ?_⟩
                    by_cases q : v = u
                    · subst q
                      rw [List.getD, List.getElem?_set_self uy, hM, ← hx]
                      rfl
                    · rw [List.getD, List.getElem?_set_ne (fun e => q e.symm)]
                      exact J.out.2.2.2 v h1 (by omega)
                  clear J hM hx hy uy
                  go_wp2_with fail
                  go_roundg (Q - (u + 1))
                  case measure => omega
                  case rel => exact ⟨u + 1, _, by omega, by omega, by go_num, K7.out⟩
                · obtain rfl : u = Q := by omega
                  have uli : ¬ (u : Int) < (u : Int) := by omega
                  have F5 := (I0.out.1.on FC.out J.out.1)
                  have V5 := I0.out.2.on J.out.1
                  have gg : gm < g := by have := I0.out.2.row.lt; have := HG.out; omega
                  have V6 := V5.put (cap := cap) (g := g) (zs := ys.take u) HE.out (by rw [List.length_take]; show min u ys.length = en + 70; have := J.out.2.2.1; have := hQ3.out; omega) (J.out.2.1.lies.take u) gg (fun v h1 h2 => by
                    simp only at h1 h2
                    have e := hQ3.out
                    rw [List.getD, List.getElem?_take_of_lt (by omega)]
                    exact J.out.2.2.2 v h1 (by omega))
                  have F6 := F5.far FC.out G4.out (o := i) (.slice (some ⟨g, 0, none⟩) (en + 70) cap)
                  obtain ⟨x9, hx9⟩ : ∃ x, vs[i]? = some x := ⟨_, List.getElem?_eq_getElem (by rw [V5.len, HN.out]; exact il)⟩
                  have cr := Kp.lc_cell V5.row hx9
                  have fr := Kp.bx_free V5.row i
                  have X3 := hid (And.intro F6 V6)
                  simp only [hQ3.out] at X3
                  clear F5 F6 V5 V6 hx9 J gg
                  go_wp2_with fail
                  go_roundg (k - (i + 1))
                  case measure => omega
                  case rel => exact ⟨i + 1, _, by omega, by go_num, X3.out⟩
            · obtain rfl : i = k := by omega
              have ili : ¬ (i : Int) < (i : Int) := by omega
              have HO1 := hid (I.out.1.ho FC.out)
              have HO2 := hid ((by have := I.out.2; rw [← HN.out] at this; exact this : Kp.Rw 700000001 70 gm L vs L.length wr).ho FC.out.small (by omega))
              have F9 := hid I.out.1
              have V9 := hid I.out.2
              have LV : Hid (vs.length = i) := V9.out.len.trans HN.out
              have H1 := hid (fun W (hB : Below wr.heap.size wr W) => holds_any gl gn i c i (L.map Ke.v) (List.replicate i 0) 1000003 W (F9.out.on FC.out hB).bl (F9.out.on FC.out hB).bn (by rw [List.length_map]; exact HN.out) NB.out (by omega) (by omega) (HO1.out.on hB))
              have H2 := hid (fun W (hB : Below wr.heap.size wr W) => holds_any gm ge i i i vs (L.map (fun e => (e.n : Int))) 700000001 W (V9.out.on hB).row (by have := (F9.out.on FC.out hB).be; rw [hee] at this; exact this) LV.out NB.out (by omega) (by omega) (HO2.out.on hB))
              clear I HO1 HO2 V9 LV
              go_wp2_with (go_at_call 19; first | (refine (H1.out _ (Below.refl _ _)).mono ?_; rintro e w9 ⟨rfl, b9⟩; have U9 := hid b9; clear b9 H1) | (refine (H2.out _ U9.out).mono ?_; rintro e w10 ⟨rfl, b10⟩; have U10 := hid (U9.out.trans (b10.mono U9.out.size)); clear b10 H2 U9))
              go_ret
              exact ⟨rfl, (F9.out.on FC.out U10.out).bel⟩
end Go.Proofs.YtbdilikdenhnkaaDoor
