/-
  QuotKeeps: the walk of apart.
-/
import Derived.Test.YtmihjiiagpkciaaDoorQKc
namespace Go.Proofs.YtmihjiiagpkciaaDoor
open Go Go.RowKit Go.Deep

namespace Qk
theorem sl_len {B n : Nat} {w : World} {mv : Value} {D : List Sl} (h : Re.Ow v1 24 1 B w mv D) (hn : D.length = n) : ∃ q c, mv = .slice q n c := by
  rcases h.2 with ⟨rfl, h0⟩ | ⟨g, c, cur, rfl, _⟩
  · exact ⟨none, 0, by rw [← hn, h0]⟩
  · exact ⟨_, c, by rw [hn]⟩

set_option maxRecDepth 100000 in
set_option maxHeartbeats 16000000 in
theorem apart_any (B : Nat) (q : Option Addr) (n c : Nat) (L : List Ke) (w : World) (h : KI T0 B w (.slice q n c) L L.length) (hn : L.length = n) (nb : n ≤ 1000) (small : ∀ e ∈ L, e.n ≤ 1048000) (hB : B ≤ w.heap.size) :
    Calls Tryd.prog 12 #[.slice q n c] w fun e w' => e = .returned (.bool true) ∧ Below B w w' := by
  have S1 : Hid (Below B w w ∧ KI (CQ 0 0) B w (.slice q n c) L L.length) := ⟨Below.refl _ _, h.mono (fun i e _ zs _ _ => cq_zero i zs)⟩
  have HN := hid hn
  have SM := hid small
  have HB := hid hB
  have nbi : (n : Int) ≤ 1000 := by omega
  clear h hn small hB
  go_enter Tryd.func12, Tryd.ntmps12
  go_wp2_with fail
  go_loopg [3] n (fun m iv wr => ∃ i : Nat, i + m = n ∧ iv = .int .i64 (i : Int) ∧ Hid (Below B w wr ∧ KI (CQ i 0) B wr (.slice q n c) L L.length))
  case atStart => exact ⟨0, by omega, rfl, S1.out⟩
  case round =>
    obtain ⟨i, hi, rfl, I⟩ := hrel
    clear S1
    by_cases il : i < n
    · have ili : (i : Int) < (n : Int) := by omega
      obtain ⟨⟨ep, en⟩, he⟩ : ∃ e, L[i]? = some e := ⟨_, List.getElem?_eq_getElem (by have := HN.out; omega)⟩
      have HE := hid he
      have enb : en ≤ 1048000 := SM.out _ (List.mem_of_getElem? he)
      clear he
      go_wp2_with fail
      go_loopg [4] en (fun m iv wr => ∃ t : Nat, t + m = en ∧ iv = .int .i64 (t : Int) ∧ Hid (Below B w wr ∧ KI (CQ i t) B wr (.slice q n c) L L.length))
      case atStart => exact ⟨0, by omega, rfl, I.out⟩
      case round =>
        obtain ⟨t, ht, rfl, J⟩ := hrel
        clear I
        have row : Re.Ow v1 24 1 B wr (.slice q n c) (L.map Ke.v) := by
          have q := J.out.2.row
          rwa [List.take_length] at q
        obtain ⟨g, rfl, cl⟩ := row_cellQ row (i := i) (x := ⟨ep, en, en⟩) (by rw [List.getElem?_map, HE.out]; rfl)
        simp only at cl
        clear row
        by_cases tl : t < en
        · have tli : (t : Int) < (en : Int) := by omega
          obtain ⟨x, hx⟩ : ∃ x, mk i t = x := ⟨_, rfl⟩
          have MK : Hid (∀ W, Calls Tryd.prog 29 #[.int .i64 (i : Int), .int .i64 (t : Int)] W fun e w' => e = .returned (.int .u64 x) ∧ w' = W) := fun W => by rw [← hx]; exact mark_any i t W (by omega) (by omega)
          obtain ⟨b, off, y, hp, cb, fb, hb, K6⟩ := KI.put J.out.2 HE.out tl x (C' := CQ i (t + 1)) (fun j zs hj c => cq_other hj c) (fun zs hz c => by rw [← hx]; exact cq_put (by simp only at hz; omega) c)
          simp only at hp
          subst hp
          have K7 : Hid (Below B w (wr.setCell ⟨b, off + t, none⟩ (.int .u64 x)) ∧ KI (CQ i (t + 1)) B (wr.setCell ⟨b, off + t, none⟩ (.int .u64 x)) (.slice (some ⟨g, 0, none⟩) n c) L L.length) := ⟨J.out.1.setCell (p := ⟨b, off + t, none⟩) hb _, K6⟩
          clear K6 J hx hb
          go_upto_region 7 with fail
          go_region_with (go_at_call 29; refine (MK.out _).mono ?_; rintro e w9 ⟨rfl, rfl⟩)
          all_goals
            go_wp2_with fail
            go_roundg (en - (t + 1))
            case measure => omega
            case rel => exact ⟨t + 1, by omega, by go_num, bel_like K7.out.1 rfl rfl rfl rfl, KI.like K7.out.2 rfl rfl rfl rfl⟩
        · obtain rfl : t = en := by omega
          have tli : ¬ (t : Int) < (t : Int) := by omega
          have K8 : Hid (Below B w wr ∧ KI (CQ (i + 1) 0) B wr (.slice (some ⟨g, 0, none⟩) n c) L L.length) := ⟨J.out.1, J.out.2.mono (fun j e he zs hz c => cq_next (fun q => by subst q; have := HE.out; rw [he] at this; cases this; exact hz) c)⟩
          clear J
          go_wp2_with fail
          go_roundg (n - (i + 1))
          case measure => omega
          case rel => exact ⟨i + 1, by omega, by go_num, K8.out⟩
    · obtain rfl : i = n := by omega
      have ili : ¬ (i : Int) < (i : Int) := by omega
      obtain ⟨W1, hW1⟩ : ∃ W1, W1 = wr := ⟨_, rfl⟩
      have I1 : Hid (Below B w W1 ∧ KI (CQ i 0) B W1 (.slice q i c) L L.length) := by rw [hW1]; exact I.out
      have B1 : Hid (B ≤ W1.heap.size) := by have := I1.out.1.size; have := HB.out; show _ ≤ _; omega
      have SW := hid hW1
      clear I hW1
      go_wp2_with fail
      go_loopg [5, 6] i (fun m gv iv wr => ∃ (k : Nat) (vs : List Sl), k + m = i ∧ iv = .int .i64 (k : Int) ∧ Hid (Below W1.heap.size W1 wr ∧ Gr W1.heap.size wr gv L vs k))
      case atStart => exact ⟨0, [], by omega, rfl, by rw [SW.out]; exact Below.refl _ _, Re.Ow.nil _, rfl, fun j e hj _ => absurd hj (by omega)⟩
      case round =>
        obtain ⟨k, vs, hk, rfl, I⟩ := hrel
        clear SW
        by_cases kl : k < i
        · have kli : (k : Int) < (i : Int) := by omega
          obtain ⟨⟨ep, en⟩, he⟩ : ∃ e, L[k]? = some e := ⟨_, List.getElem?_eq_getElem (by have := HN.out; omega)⟩
          have HE := hid he
          have enb : en ≤ 1048000 := SM.out _ (List.mem_of_getElem? he)
          have KW := hid (I1.out.2.on I.out.1)
          have row : Re.Ow v1 24 1 B wr (.slice q i c) (L.map Ke.v) := by
            have q := KW.out.row
            rwa [List.take_length] at q
          obtain ⟨g, rfl, cl⟩ := row_cellQ row (i := k) (x := ⟨ep, en, en⟩) (by rw [List.getElem?_map, he]; rfl)
          simp only at cl
          obtain ⟨zs, z1, z2, z3⟩ := KW.out.each k _ he
          simp only at z1 z3
          have ZM : Hid (zs = mq k 0 en) := by have := z2.1 kl; rw [z1] at this; exact this
          obtain ⟨W0, hW0⟩ : ∃ W0, W0 = wr := ⟨_, rfl⟩
          have I0 : Hid (Below W1.heap.size W1 W0 ∧ Gr W1.heap.size W0 u5 L vs k) := by rw [hW0]; exact I.out
          have HL0 : Hid (Lies W0 ep zs) := by rw [hW0]; exact z3.1
          have HW : Hid (W0 = wr) := hW0
          have Z1 := hid z1
          clear z1 z2 z3 he I hW0 row KW
          go_upto_region 13 with fail
          clear cl
          go_wp2_with fail
          go_loopg [7, 8] 16 (fun m lv iv wr => ∃ (t : Nat) (pp : Option Addr) (cc : Nat), t + m = 16 ∧ iv = .int .i64 (t : Int) ∧ lv = .slice pp (en + t) cc ∧ Hid (Below W0.heap.size W0 wr ∧ ((t = 0 ∧ lv = .slice ep en en) ∨ (0 < t ∧ Re.Ow u1 26 1 W0.heap.size wr lv (zs ++ mq k en t)))))
          case atStart => exact ⟨0, _, _, by omega, rfl, rfl, by rw [HW.out]; exact Below.refl _ _, .inl ⟨rfl, rfl⟩⟩
          case round =>
            obtain ⟨t, pp, cc, ht, rfl, rfl, J⟩ := hrel
            clear HW
            by_cases tl : t < 16
            · have tli : (t : Int) < 16 := by omega
              obtain ⟨Q, hQ⟩ : ∃ Q, en + t = Q := ⟨_, rfl⟩
              obtain ⟨x, hx⟩ : ∃ x, mk k Q = x := ⟨_, rfl⟩
              have MK : Hid (∀ W, Calls Tryd.prog 29 #[.int .i64 (k : Int), .int .i64 (Q : Int)] W fun e w' => e = .returned (.int .u64 x) ∧ w' = W) := fun W => by rw [← hx]; exact mark_any k Q W (by omega) (by omega)
              obtain ⟨lv', w6, ap, o6, b6⟩ := app_lQ (x := x) Z1.out (mq_len k en t) enb tl (HL0.out.below J.out.1 (Nat.le_refl _)) J.out.1.size J.out.2
              have em : mq k en t ++ [x] = mq k en (t + 1) := by rw [mq_succ, ← hx, ← hQ]
              rw [em] at o6
              obtain ⟨gq, cq, rfl, _⟩ := ow_u1Q o6 (by rw [List.length_append, mq_len]; omega)
              have lq : (zs ++ mq k en (t + 1)).length = en + (t + 1) := by rw [List.length_append, mq_len, Z1.out]
              rw [lq] at ap o6
              rw [hQ] at ap
              have AP := hid ap
              have O6 := hid o6
              have W6 : Hid (Below W0.heap.size W0 w6) := J.out.1.trans b6
              simp only [hQ]
              clear ap o6 b6 J lq em hx hQ
              go_wp2_with (first | (go_at_call 29; refine (MK.out _).mono ?_; rintro e w9 ⟨rfl, rfl⟩) | (at_builtin; refine wpList_append_q rfl _ _ rfl AP.out (by rfl) (by rfl) ?_; clear AP))
              go_roundg (16 - (t + 1))
              case measure => omega
              case rel => exact ⟨t + 1, _, _, by omega, by go_num, rfl, W6.out, .inr ⟨by omega, O6.out⟩⟩
            · obtain rfl : t = 16 := by omega
              have tli : ¬ (((16 : Nat) : Int)) < 16 := by omega
              have ow : Re.Ow u1 26 1 W0.heap.size wr (.slice pp (en + 16) cc) (zs ++ mq k en 16) := by
                rcases J.out.2 with ⟨h, _⟩ | ⟨_, h⟩
                · cases h
                · exact h
              have lq : (zs ++ mq k en 16).length = en + 16 := by rw [List.length_append, mq_len, Z1.out]
              obtain ⟨g2, c2, e2, hg, hL2⟩ := ow_u1Q ow (by omega)
              rw [lq] at e2
              simp only [Value.slice.injEq, true_and] at e2
              obtain ⟨rfl, rfl⟩ := e2
              have G1 := I0.out.2.on J.out.1
              have far : Value.ownBlock u5 ≠ some g2 := fun q => by
                have := (ow_lt I0.out.2.row q).2
                omega
              have szw : W1.heap.size ≤ wr.heap.size := by have := I0.out.1.size; have := J.out.1.size; omega
              obtain ⟨gv', w6, ap, gr, b6⟩ := G1.push (cap := cc) HE.out lq hL2 far (fun u h1 => by
                simp only at h1
                rcases Nat.lt_or_ge u en with ul | ul
                · rw [List.getD, List.getElem?_append_left (by rw [Z1.out]; exact ul), ZM.out, mq_at ul, Nat.zero_add]
                  rfl
                · rw [List.getD, List.getElem?_append_right (by rw [Z1.out]; exact ul), Z1.out, mq_at (by omega), show en + (u - en) = u by omega]
                  rfl) (by have := HN.out; omega) szw
              simp only at ap
              have AP := hid ap
              have X6 : Hid (Below W1.heap.size W1 w6 ∧ Gr W1.heap.size w6 gv' L _ (k + 1)) := ⟨(I0.out.1.trans (J.out.1.mono I0.out.1.size)).trans b6, gr⟩
              obtain ⟨Q, hQ⟩ : ∃ Q, en + 16 = Q := ⟨_, rfl⟩
              rw [hQ] at AP
              simp only [hQ]
              clear ap gr b6 G1 far szw J ow lq hL2 hg I0 hQ
              go_wp2_with (at_builtin; refine wpList_append_q rfl _ _ rfl AP.out (by rfl) (by rfl) ?_; clear AP)
              go_roundg (i - (k + 1))
              case measure => omega
              case rel => exact ⟨k + 1, _, by omega, by go_num, X6.out⟩
        · obtain rfl : k = i := by omega
          have kli : ¬ (k : Int) < (k : Int) := by omega
          obtain ⟨q5, c5, rfl⟩ := sl_len I.out.2.row I.out.2.len
          obtain ⟨WF, hWF⟩ : ∃ WF, WF = wr := ⟨_, rfl⟩
          have KW : Hid (KI (CQ k 0) B WF (.slice q k c) L L.length) := by rw [hWF]; exact I1.out.2.on I.out.1
          have GW : Hid (Gr W1.heap.size WF (.slice q5 k c5) L vs k) := by rw [hWF]; exact I.out.2
          have BW : Hid (Below B w WF ∧ B ≤ WF.heap.size) := by
            rw [hWF]
            exact ⟨I1.out.1.trans (I.out.1.mono B1.out), Nat.le_trans B1.out I.out.1.size⟩
          have SF := hid hWF
          clear I I1 B1 hWF
          go_wp2_with fail
          go_loopg [9] k (fun m iv wr => ∃ j : Nat, j + m = k ∧ iv = .int .i64 (j : Int) ∧ Hid (Below WF.heap.size WF wr))
          case atStart => exact ⟨0, by omega, rfl, by rw [SF.out]; exact Below.refl _ _⟩
          case round =>
            obtain ⟨j, hj, rfl, I⟩ := hrel
            clear SF
            by_cases jl : j < k
            · have jli : (j : Int) < (k : Int) := by omega
              obtain ⟨⟨ep, en⟩, he⟩ : ∃ e, L[j]? = some e := ⟨_, List.getElem?_eq_getElem (by have := HN.out; omega)⟩
              have enb : en ≤ 1048000 := SM.out _ (List.mem_of_getElem? he)
              have row : Re.Ow v1 24 1 B WF (.slice q k c) (L.map Ke.v) := by
                have q := KW.out.row
                rwa [List.take_length] at q
              obtain ⟨g, rfl, cl0⟩ := row_cellQ row (i := j) (x := ⟨ep, en, en⟩) (by rw [List.getElem?_map, he]; rfl)
              obtain ⟨zs, z1, z2, z3⟩ := KW.out.each j _ he
              obtain ⟨g2, cap, zs2, y1, y2, y3, _, y5⟩ := GW.out.new j _ jl he
              obtain ⟨g5, rfl, cl5⟩ := row_cellQ GW.out.row y1
              simp only at cl0 cl5 z1 z3 y2 y5
              have CL := hid (fun W (hB : Below WF.heap.size WF W) => (hB.cell (p := ⟨g, j, none⟩) (cell_lt cl0)).trans cl0)
              have CG := hid (fun W (hB : Below WF.heap.size WF W) => (hB.cell (p := ⟨g5, j, none⟩) (cell_lt cl5)).trans cl5)
              have ZM : Hid (zs = mq j 0 en ∧ zs.length = en ∧ Lies WF ep zs) := ⟨by have := z2.1 jl; rw [z1] at this; exact this, z1, z3.1⟩
              obtain ⟨Q, hQ⟩ : ∃ Q, en + 16 = Q := ⟨_, rfl⟩
              rw [hQ] at y2 y5 CG
              have Y := hid (And.intro y2 (And.intro y3 y5))
              have Qb : Q ≤ 1048016 := by omega
              clear row cl0 cl5 z1 z2 z3 y1 y2 y3 y5 he hQ
              go_wp2_with fail
              go_loopg [10] en (fun m iv wr => ∃ t : Nat, t + m = en ∧ iv = .int .i64 (t : Int) ∧ Hid (Below WF.heap.size WF wr))
              case atStart => exact ⟨0, by omega, rfl, I.out⟩
              case round =>
                obtain ⟨t, ht, rfl, J⟩ := hrel
                clear I
                have cl := CL.out _ J.out
                by_cases tl : t < en
                · have tli : (t : Int) < (en : Int) := by omega
                  obtain ⟨x, hx⟩ : ∃ x, mk j t = x := ⟨_, rfl⟩
                  have MK : Hid (∀ W, Calls Tryd.prog 29 #[.int .i64 (j : Int), .int .i64 (t : Int)] W fun e w' => e = .returned (.int .u64 x) ∧ w' = W) := fun W => by rw [← hx]; exact mark_any j t W (by omega) (by omega)
                  have cx : ∃ b off, ep = some ⟨b, off, none⟩ ∧ wr.cell? ⟨b, off + t, none⟩ = some (.int .u64 x) := by
                    rcases ZM.out.2.2 with z | ⟨b, off, hp, hc⟩
                    · have := ZM.out.2.1; rw [z] at this; simp at this; omega
                    · have := hc t (by rw [ZM.out.2.1]; exact tl)
                      rw [ZM.out.1, List.getD, mq_at tl, Nat.zero_add] at this
                      simp only [Option.getD_some] at this
                      rw [hx] at this
                      exact ⟨b, off, hp, by rw [J.out.cell (p := ⟨b, off + t, none⟩) (cell_lt this)]; exact this⟩
                  obtain ⟨b, off, rfl, cx⟩ := cx
                  have K7 := hid J.out
                  clear J hx
                  go_upto_region 24 with fail
                  go_quiet ((go_at_call 29; with_reducible exact Calls.quiet_of_same (MK.out _)))
                  all_goals (go_wp2_with fail; go_roundg (en - (t + 1)))
                  case measure => omega
                  case rel => exact ⟨t + 1, by omega, by go_num, bel_like K7.out rfl rfl rfl rfl⟩
                · obtain rfl : t = en := by omega
                  have tli : ¬ (t : Int) < (t : Int) := by omega
                  go_wp2_with fail
                  go_loopg [11] Q (fun m iv wr => ∃ u : Nat, u + m = Q ∧ iv = .int .i64 (u : Int) ∧ Hid (Below WF.heap.size WF wr))
                  case atStart => exact ⟨0, by omega, rfl, J.out⟩
                  case round =>
                    obtain ⟨u, hu, rfl, I⟩ := hrel
                    clear J cl
                    have cg := CG.out _ I.out
                    by_cases ul : u < Q
                    · have uli : (u : Int) < (Q : Int) := by omega
                      obtain ⟨x, hx⟩ : ∃ x, mk j u = x := ⟨_, rfl⟩
                      have MK : Hid (∀ W, Calls Tryd.prog 29 #[.int .i64 (j : Int), .int .i64 (u : Int)] W fun e w' => e = .returned (.int .u64 x) ∧ w' = W) := fun W => by rw [← hx]; exact mark_any j u W (by omega) (by omega)
                      have cx : wr.cell? ⟨g2, u, none⟩ = some (.int .u64 x) := by
                        rcases Y.out.2.1 with z | ⟨b, off, hp, hc⟩
                        · have := Y.out.1; rw [z] at this; simp at this; omega
                        · cases hp
                          have := hc u (by rw [Y.out.1]; exact ul)
                          rw [Y.out.2.2 u ul, hx, Nat.zero_add] at this
                          rw [I.out.cell (p := ⟨g2, u, none⟩) (cell_lt this)]
                          exact this
                      have K7 := hid I.out
                      clear I hx
                      go_upto_region 29 with fail
                      go_quiet ((go_at_call 29; with_reducible exact Calls.quiet_of_same (MK.out _)))
                      all_goals (go_wp2_with fail; go_roundg (Q - (u + 1)))
                      case measure => omega
                      case rel => exact ⟨u + 1, by omega, by go_num, bel_like K7.out rfl rfl rfl rfl⟩
                    · obtain rfl : u = Q := by omega
                      have uli : ¬ (u : Int) < (u : Int) := by omega
                      go_wp2_with fail
                      go_roundg (k - (j + 1))
                      case measure => omega
                      case rel => exact ⟨j + 1, by omega, by go_num, I.out⟩
            · obtain rfl : j = k := by omega
              have jli : ¬ (j : Int) < (j : Int) := by omega
              go_wp2_with fail
              go_ret
              exact ⟨rfl, BW.out.1.trans (I.out.mono BW.out.2)⟩
end Qk
end Go.Proofs.YtmihjiiagpkciaaDoor
