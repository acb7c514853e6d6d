/-
  abacuslaw18's RelateLeast, walked.
-/
import Derived.Test.YtigmhnlcmhpepaaGreatDoorGK
import Derived.Test.YtigmhnlcmhpepaaGreatDoorReU
import Derived.Deep.LoopGhost
namespace Go.Proofs.YtigmhnlcmhpepaaGreatDoor
open Go Go.RowKit Go.Deep Go.Shelf

set_option maxRecDepth 100000 in
set_option maxHeartbeats 8000000 in
theorem rleast_law (p : Option Addr) (cap : Nat) (A : List Re.Op) (w : World) (ht : Tab10 w) (hv : Re.LO w p A) (hw : ∀ o ∈ A, Re.OpW o) (hl : A.length ≤ 4398046511104) :
    Calls Tryz.prog 4 #[.slice p A.length cap] w fun e w' => e = .returned (.bool true) ∧ Below w.heap.size w w' := by
  have AW := hid (rawake_any w ht)
  have MU := hid (fun W (z : Below w.heap.size w W) => much_any p cap A W (hv.on z) hw hl)
  have NQ := hid (fun W => newq_any W)
  obtain ⟨n, hn⟩ : ∃ n, A.length = n := ⟨_, rfl⟩
  have HN := hid hn
  have HV := hid hv
  have HW := hid hw
  rw [hn] at MU hl ⊢
  clear hv hw hn ht
  go_enter Tryz.func4, Tryz.ntmps4
  go_wp2_with fail
  refine AW.out.mono ?_
  rintro e w1 ⟨rfl, b1⟩
  have B1 := hid b1
  clear b1 AW
  go_wp2_with fail
  refine (MU.out _ B1.out).mono ?_
  rintro e w2 ⟨rfl | ⟨rfl, hm⟩, b2⟩
  · have B2 := hid (below_on B1.out b2)
    clear b2 B1 MU NQ
    go_wp2_with fail
    go_ret
    exact ⟨rfl, B2.out⟩
  · have B2 := hid (below_on B1.out b2)
    have ln : (n : Int) ≤ 524288 := by omega
    clear b2 B1 MU hl
    go_wp2_with fail
    refine (NQ.out _).mono ?_
    rintro e w3 ⟨rfl, q3, b3⟩
    have y1 := alloc_b w3 (.cells #[] 24)
    have y2 := alloc_b (w3.alloc (.cells #[] 24)) (.cells #[] 4)
    have sz : (w3.alloc (.cells #[] 24)).heap.size = w3.heap.size + 1 := Array.size_push ..
    have I0 : Hid (Re.LG w2.heap.size w 0 (Re.ents [] []) [] [] [] w3.heap.size 0 (w3.heap.size + 1) 0 ((w3.alloc (.cells #[] 24)).alloc (.cells #[] 4))) := by
      have s3 := b3.size
      refine ⟨⟨_, (q3.on y1).on y2⟩, fun j _ z => absurd z (Nat.not_lt_zero _), List.Perm.refl _, (Re.GR.new w3 s3).on y2, ?_, below_on (below_on (below_on B2.out b3) y1) y2, B2.out.size, Nat.le_trans s3 (Nat.le_trans y1.size y2.size)⟩
      rw [← sz]
      exact Re.GR.new _ (Nat.le_trans s3 y1.size)
    generalize w2.heap.size = base at *
    clear q3 b3 y1 y2 sz NQ B2
    go_upto_region 9 with fail
    generalize (w3.alloc (.cells #[] 24)).alloc (.cells #[] 4) = wa at *
    generalize w3.heap.size + 1 = gi0 at *
    generalize w3.heap.size = ga0 at *
    go_wp2_with fail
    go_loopg [5, 6, 7, 8] n (fun m av bv cv iv wr => ∃ (i : Nat) (V : List Re.Vl) (B : List Bool) (E : List Re.En) (ga ca gi ci : Nat), Hid (i + m = n) ∧ av = .slice (some ⟨ga, 0, none⟩) V.length ca ∧ bv = .slice (some ⟨gi, 0, none⟩) B.length ci ∧ cv = .int .i64 (E.length : Int) ∧ iv = .int .i64 (i : Int) ∧ Hid (Re.LG base w (V.length : Int) (Re.ents V B) E V B ga ca gi ci wr) ∧ Hid (B.length = V.length ∧ V.length ≤ i ∧ E.length ≤ i ∧ i ≤ n) ∧ Hid (∀ v ∈ V, 0 ≤ v.n ∧ v.n < 18446744073709551616))
    case atStart => exact ⟨0, [], [], [], ga0, 0, gi0, 0, by rw [Hid]; omega, rfl, rfl, rfl, rfl, I0, by rw [Hid]; simp, fun v z => absurd z (by simp)⟩
    case round =>
      obtain ⟨i, V, B, E, ga, ca, gi, ci, hi, rfl, rfl, rfl, rfl, I, hb, VW⟩ := hrel
      clear I0
      by_cases hlt : i < n
      · have hli : (i : Int) < (n : Int) := by omega
        obtain ⟨o, ho⟩ : ∃ o, A[i]? = some o := ⟨_, List.getElem?_eq_getElem (by have := HN.out; omega)⟩
        obtain ⟨b, off, rfl, rr⟩ := (HV.out.on I.out.bl).at ho
        have ow := HW.out o (List.mem_of_getElem? ho)
        have c0 := rr 0 _ rfl
        have c1 := rr 1 _ rfl
        have c2 := rr 2 _ rfl
        have c3 := rr 3 _ rfl
        have c4 := rr 4 _ rfl
        have c5 := rr 5 _ rfl
        have c6 := rr 6 _ rfl
        have c7 := rr 7 _ rfl
        have c8 := rr 8 _ rfl
        have c9 := rr 9 _ rfl
        have c10 := rr 10 _ rfl
        rw [Nat.add_zero] at c0
        have X0 := hid (Bx.new wr 41 #[.int .i64 o.kind, .int .i64 o.n, .int .i64 o.a.k, .int .u64 o.a.n, .string o.a.s, .int .i64 o.b.k, .int .u64 o.b.n, .string o.b.s, .string o.c, .slice o.lp o.ll o.lc, .int .i64 o.w])
        have J := hid (I.out.on (alloc_b wr (.cells #[.int .i64 o.kind, .int .i64 o.n, .int .i64 o.a.k, .int .u64 o.a.n, .string o.a.s, .int .i64 o.b.k, .int .u64 o.b.n, .string o.b.s, .string o.c, .slice o.lp o.ll o.lc, .int .i64 o.w] 41)))
        clear rr I
        go_upto_region 14 with fail
        generalize wr.alloc (.cells #[.int .i64 o.kind, .int .i64 o.n, .int .i64 o.a.k, .int .u64 o.a.n, .string o.a.s, .int .i64 o.b.k, .int .u64 o.b.n, .string o.b.s, .string o.c, .slice o.lp o.ll o.lc, .int .i64 o.w] 41) = w5 at *
        clear c0 c1 c2 c3 c4 c5 c6 c7 c8 c9 c10 ho
        generalize wr.heap.size = g5 at *
        have d0 := X0.out.cell 0 _ rfl
        have lV : (V.length : Int) ≤ 524288 := by have := hb.out; omega
        by_cases k7 : o.kind = 7
        · have kd := hid k7
          rw [k7] at d0
          clear k7
          rcases Nat.eq_zero_or_pos E.length with e0 | e0
          · obtain rfl : E = [] := List.eq_nil_of_length_eq_zero e0
            have PV := hid (lpop_void base w (V.length : Int) (Re.ents V B) V B ga ca gi ci w5 J.out)
            clear J X0 ow e0
            go_wp2_with fail
            refine PV.out.mono ?_
            rintro e w6 ⟨rfl, L6⟩
            have L7 := hid (L6.on (alloc_b w6 (.cells #[.int .i64 0, .int .u64 0, .string ⟨#[]⟩] 24)))
            clear L6 PV d0
            go_wp2_with fail
            go_roundg (n - (i + 1))
            case measure => have := hi.out; omega
            case rel => exact ⟨i + 1, V, B, [], ga, ca, gi, ci, by rw [Hid]; omega, rfl, rfl, rfl, by go_num, L7, by rw [Hid]; have := hb.out; simp at this; simp; omega, VW⟩
          · obtain ⟨k, hk, hbk, hg, hall⟩ := Re.LS.top (show Re.LS base w V B E ga ca gi ci w5 from ⟨J.out.qs, J.out.hp, J.out.pe, J.out.va, J.out.ib, hb.out.1, VW.out, J.out.bl, J.out.lw, J.out.bw⟩) e0
            have PO := lpop_any base w (V.length : Int) (Re.ents V B) E V B ga ca gi ci w5 J.out e0 (by have := hb.out; omega)
            obtain ⟨v, hv⟩ : ∃ v, V.getD k Re.zv = v := ⟨_, rfl⟩
            have hVk : V[k]? = some v := by rw [← hv, List.getD_eq_getElem?_getD, List.getElem?_eq_getElem hk]; rfl
            have hBk : B[k]? = some true := by
              have kl : k < B.length := by rw [hb.out.1]; exact hk
              rw [List.getD_eq_getElem?_getD, List.getElem?_eq_getElem kl] at hbk
              rw [List.getElem?_eq_getElem kl]
              exact congrArg some hbk
            rw [hg, Re.ent, hv] at PO
            simp only at PO
            have PO := hid PO
            have HA := hid hall
            have HK := hid (And.intro hk (And.intro hVk hBk))
            have HVv := hid hv
            have ei : (0 : Int) < (E.length : Int) := by omega
            have ki : (k : Int) < (V.length : Int) := by omega
            have kB : (k : Int) < (B.length : Int) := by have := hb.out; omega
            have we : IntKind.i64.wrap ((E.length : Int) - 1) = (E.length : Int) - 1 := by have := hb.out; rw [IntKind.wrap_i64]; omega
            have GE := hid hg
            have kn : decide ((V.length : Int) ≤ (k : Int)) = false := decide_eq_false (by omega)
            have kn2 : decide (V.length ≤ k) = false := decide_eq_false (by omega)
            have kz : decide ((k : Int) < 0) = false := decide_eq_false (by omega)
            clear J X0 ow hg hall hk hVk hBk hbk hv
            go_wp2_with fail
            refine PO.out.mono ?_
            rintro e w6 ⟨rfl, E', pm, L6, kb⟩
            have PM := hid pm
            have PG : Hid ((Re.gt E 0 :: E').Perm E) := by rw [Hid, GE.out, Re.ent, HVv.out]; exact pm
            have y := alloc_b w6 (.cells #[.int .i64 v.k, .int .u64 v.n, .string v.s] 24)
            have L7 := hid (And.intro (L6.on y) (Bx.new w6 24 #[.int .i64 v.k, .int .u64 v.n, .string v.s]))
            clear pm L6 kb y PO d0
            go_upto_region 22 with fail
            generalize w6.alloc (.cells #[.int .i64 v.k, .int .u64 v.n, .string v.s] 24) = w7 at *
            generalize w6.heap.size = gb at *
            have b0 := L7.out.2.cell 0 _ rfl
            have b1 := L7.out.2.cell 1 _ rfl
            have b2 := L7.out.2.cell 2 _ rfl
            have a0 := Re.GR.cell Re.ev_len L7.out.1.va HK.out.2.1 0 (by omega) _ rfl
            have a1 := Re.GR.cell Re.ev_len L7.out.1.va HK.out.2.1 1 (by omega) _ rfl
            have a2 := Re.GR.cell Re.ev_len L7.out.1.va HK.out.2.1 2 (by omega) _ rfl
            have m0 := Re.GR.cell Re.eb_len L7.out.1.ib HK.out.2.2 0 (by omega) _ rfl
            rw [Nat.add_zero] at a0
            rw [Nat.mul_one, Nat.add_zero] at m0
            have EQ : ∀ W, (Op.equalIn 10000 24 (.agg #[.int .i64 v.k, .int .u64 v.n, .string v.s]) (.agg #[.int .i64 v.k, .int .u64 v.n, .string v.s])).run Tryz.prog W = .ok true W := fun W => by rw [eq_value]; simp
            go_upto_region 25 with fail
            go_quiet (fail)
            have L8 := hid (And.intro (L7.out.1.on (below_drewN (Below.refl _ _) nq)) (L7.out.2.on (below_drewN (Below.refl _ _) nq)))
            generalize w7.drewN nq = w8 at *
            clear b0 b1 b2 a0 a1 a2 m0 EQ L7
            have m0 := Re.GR.cell Re.eb_len L8.out.1.ib HK.out.2.2 0 (by omega) _ rfl
            rw [Nat.mul_one, Nat.add_zero] at m0
            have f0 := L8.out.1.ib.free k
            have L9 : Hid (Re.LG base w (V.length : Int) E' E' V (B.set k false) ga ca gi ci (w8.setCell ⟨gi, k, none⟩ (.bool false)) ∧ Bx (w8.setCell ⟨gi, k, none⟩ (.bool false)) gb 24 #[.int .i64 v.k, .int .u64 v.n, .string v.s]) := by
              obtain ⟨cur, x, _⟩ := L8.out.1.ib.bx
              exact ⟨L8.out.1.struck (by have := HK.out.1; have := hb.out; omega), L8.out.2.far (Re.bx_ne x L8.out.2 (by decide))⟩
            go_upto_region 29 with fail
            generalize w8.setCell ⟨gi, k, none⟩ (.bool false) = w9 at *
            clear m0 f0 L8
            go_wp2_with fail
            go_loopg [14] V.length (fun m lv wr => ∃ l : Nat, Hid (l + m = V.length) ∧ lv = .int .i64 (l : Int) ∧ Hid (Re.LG base w (V.length : Int) E' E' V (B.set k false) ga ca gi ci wr ∧ Bx wr gb 24 #[.int .i64 v.k, .int .u64 v.n, .string v.s]))
            case atStart => exact ⟨0, by rw [Hid]; omega, rfl, L9⟩
            case round =>
              obtain ⟨l, hlm, rfl, M⟩ := hrel
              clear L9
              by_cases ll : l < V.length
              · have lli : (l : Int) < (V.length : Int) := by omega
                have llB : (l : Int) < (B.length : Int) := by have := hb.out; omega
                have lB : l < (B.set k false).length := by rw [List.length_set]; have := hb.out; omega
                obtain ⟨z, hz⟩ : ∃ z, (B.set k false)[l]? = some z := ⟨_, List.getElem?_eq_getElem lB⟩
                have cI := Re.GR.cell Re.eb_len M.out.1.ib hz 0 (by omega) _ rfl
                rw [Nat.mul_one, Nat.add_zero] at cI
                cases z with
                | false =>
                  clear hz lB
                  go_wp2_with fail
                  go_roundg (V.length - (l + 1))
                  case measure => have := hlm.out; omega
                  case rel => exact ⟨l + 1, by rw [Hid]; omega, by go_num, M⟩
                | true =>
                  obtain ⟨u, hu⟩ : ∃ u, V[l]? = some u := ⟨_, List.getElem?_eq_getElem ll⟩
                  have gu : V.getD l Re.zv = u := by rw [List.getD_eq_getElem?_getD, hu]; rfl
                  have nx := (HA.out E' PG.out).2 l ll (by rw [List.getD_eq_getElem?_getD, hz]; rfl)
                  rw [HVv.out, gu] at nx
                  have n1 := VW.out v (List.mem_of_getElem? HK.out.2.1)
                  have n2 := VW.out u (List.mem_of_getElem? hu)
                  have OR := hid (fun W => order_any v.k v.n v.s u.k u.n u.s W n1.1 n1.2 n2.1 n2.2)
                  have FS : Hid (∀ W, Below wr.heap.size wr W → Re.LG base w (V.length : Int) E' E' V (B.set k false) ga ca gi ci W ∧ Bx W gb 24 #[.int .i64 v.k, .int .u64 v.n, .string v.s]) := fun W hB => ⟨M.out.1.on hB, M.out.2.on hB⟩
                  have FL : Hid (∀ W, Below wr.heap.size wr W → (W.cell? ⟨gb, 0, none⟩ = some (.int .i64 v.k) ∧ W.cell? ⟨gb, 1, none⟩ = some (.int .u64 v.n) ∧ W.cell? ⟨gb, 2, none⟩ = some (.string v.s)) ∧ W.cell? ⟨ga, l * 3, none⟩ = some (.int .i64 u.k) ∧ W.cell? ⟨ga, l * 3 + 1, none⟩ = some (.int .u64 u.n) ∧ W.cell? ⟨ga, l * 3 + 2, none⟩ = some (.string u.s)) := fun W hB => by
                    have s := FS.out W hB
                    have q0 := Re.GR.cell Re.ev_len s.1.va hu 0 (by omega) _ rfl
                    rw [Nat.add_zero] at q0
                    exact ⟨⟨s.2.cell 0 _ rfl, s.2.cell 1 _ rfl, s.2.cell 2 _ rfl⟩, q0, Re.GR.cell Re.ev_len s.1.va hu 1 (by omega) _ rfl, Re.GR.cell Re.ev_len s.1.va hu 2 (by omega) _ rfl⟩
                  have T0 := hid (FL.out _ (Below.drew (Below.refl _ _)))
                  have cb := Re.cm_b (Re.rt v.k v.n v.s) (Re.rt u.k u.n u.s)
                  clear hz lB gu n1 n2 hu
                  rcases nx with z | ⟨zc, z2⟩
                  · have zc : Re.cm (Re.rt v.k v.n v.s) (Re.rt u.k u.n u.s) = -1 := by omega
                    clear z cb
                    have OC : Hid (∀ W, Calls Tryz.prog 15 #[.agg #[.int .i64 v.k, .int .u64 v.n, .string v.s], .agg #[.int .i64 u.k, .int .u64 u.n, .string u.s]] W fun e w' => e = .returned (.int .i64 (-1)) ∧ Below W.heap.size W w') := fun W => by
                      have h := OR.out W
                      rw [zc] at h
                      exact h
                    clear OR
                    go_upto_region 33 with fail
                    go_region_held3 (fun wx => (wx.cell? ⟨gb, 0, none⟩ = some (.int .i64 v.k) ∧ wx.cell? ⟨gb, 1, none⟩ = some (.int .u64 v.n) ∧ wx.cell? ⟨gb, 2, none⟩ = some (.string v.s)) ∧ wx.cell? ⟨ga, l * 3, none⟩ = some (.int .i64 u.k) ∧ wx.cell? ⟨ga, l * 3 + 1, none⟩ = some (.int .u64 u.n) ∧ wx.cell? ⟨ga, l * 3 + 2, none⟩ = some (.string u.s)) (first | (with_reducible exact T1.out) | (with_reducible exact T0.out)) (first
                      | (go_at_call 15; with_reducible refine (OC.out _).mono ?_; rintro e wo ⟨rfl, hB⟩; have T1 := hid (FL.out _ (below_on (Below.drew (Below.refl _ _)) hB)); have S6 := hid (FS.out _ (below_on (Below.drew (Below.refl _ _)) hB)); clear hB))
                    clear T0 T1 FL FS OC M cI
                    go_wp2_with fail
                    go_roundg (V.length - (l + 1))
                    case measure => have := hlm.out; omega
                    case rel => exact ⟨l + 1, by rw [Hid]; omega, by go_num, S6⟩
                  · clear cb
                    have z3 : ¬ ((l : Int) < (k : Int)) := by omega
                    have OC : Hid (∀ W, Calls Tryz.prog 15 #[.agg #[.int .i64 v.k, .int .u64 v.n, .string v.s], .agg #[.int .i64 u.k, .int .u64 u.n, .string u.s]] W fun e w' => e = .returned (.int .i64 0) ∧ Below W.heap.size W w') := fun W => by
                      have h := OR.out W
                      rw [zc] at h
                      exact h
                    clear OR
                    go_upto_region 33 with fail
                    go_region_held3 (fun wx => (wx.cell? ⟨gb, 0, none⟩ = some (.int .i64 v.k) ∧ wx.cell? ⟨gb, 1, none⟩ = some (.int .u64 v.n) ∧ wx.cell? ⟨gb, 2, none⟩ = some (.string v.s)) ∧ wx.cell? ⟨ga, l * 3, none⟩ = some (.int .i64 u.k) ∧ wx.cell? ⟨ga, l * 3 + 1, none⟩ = some (.int .u64 u.n) ∧ wx.cell? ⟨ga, l * 3 + 2, none⟩ = some (.string u.s)) (first | (with_reducible exact T1.out) | (with_reducible exact T0.out)) (first
                      | (go_at_call 15; with_reducible refine (OC.out _).mono ?_; rintro e wo ⟨rfl, hB⟩; have T1 := hid (FL.out _ (below_on (Below.drew (Below.refl _ _)) hB)); have S6 := hid (FS.out _ (below_on (Below.drew (Below.refl _ _)) hB)); clear hB))
                    clear T0 T1 FL FS OC M cI
                    go_wp2_with fail
                    go_roundg (V.length - (l + 1))
                    case measure => have := hlm.out; omega
                    case rel => exact ⟨l + 1, by rw [Hid]; omega, by go_num, S6⟩
              · have lli : ¬ (l : Int) < (V.length : Int) := by omega
                have pl := PM.out.length_eq
                rw [List.length_cons] at pl
                have EE := hid pl
                have LF : Hid (Re.LG base w (V.length : Int) (Re.ents V (B.set k false)) E' V (B.set k false) ga ca gi ci wr) := ⟨M.out.1.qs, M.out.1.hp, (HA.out E' PG.out).1, M.out.1.va, M.out.1.ib, M.out.1.bl, M.out.1.lw, M.out.1.bw⟩
                clear M pl
                go_wp2_with fail
                go_roundg (n - (i + 1))
                case measure => have := hi.out; omega
                case rel => exact ⟨i + 1, V, B.set k false, E', ga, ca, gi, ci, by rw [Hid]; omega, rfl, by rw [List.length_set], by rw [show (E'.length : Int) = (E.length : Int) - 1 by have := EE.out; omega], by go_num, LF, by rw [Hid, List.length_set]; have := hb.out; have := EE.out; omega, VW⟩
        · have d2 := X0.out.cell 2 _ rfl
          have d3 := X0.out.cell 3 _ rfl
          have d4 := X0.out.cell 4 _ rfl
          have PU := hid (lpush_any base w (V.length : Int) (Re.ents V B) E V B ga ca gi ci w5 J.out o.a.k o.a.n o.a.s (by have := hb.out; omega) (by omega) (by omega) ow.1 (by have := ow.2.1; omega))
          have PL := hid (fun W => vplain_any o.a.k o.a.n o.a.s W (by have := ow.2.1; omega))
          have we : IntKind.i64.wrap ((E.length : Int) + 1) = (E.length : Int) + 1 := by have := hb.out; rw [IntKind.wrap_i64]; omega
          have VP := Re.pn_ok (k := o.a.k) ow.1
          have VQ := hid VP
          clear VP ow J
          go_wp2_with fail
          refine PU.out.mono ?_
          rintro e w6 ⟨rfl, E', eE, L6, kb⟩
          have X6 := hid (kb _ _ _ X0.out (by decide) (by decide) (by decide))
          have L6 := hid L6
          have EE := hid eE
          clear kb eE PU X0 d0 d2 d3 d4
          have d2 := X6.out.cell 2 _ rfl
          have d3 := X6.out.cell 3 _ rfl
          have d4 := X6.out.cell 4 _ rfl
          go_wp2_with fail
          refine (PL.out _).mono ?_
          rintro e w7 ⟨rfl, b7⟩
          generalize hpk : Re.pk o.a.k = K at *
          generalize hpn : Re.pn o.a.k o.a.n = N at *
          generalize hps : Re.ps o.a.k o.a.s = S at *
          clear hpk hpn hps
          obtain ⟨g8, c8, w8, r8, L8⟩ := (L6.out.on b7).wrote ⟨K, N, S⟩ (by omega)
          obtain ⟨g9, c9, w9, r9, L9⟩ := L8.marked (by have := hb.out; omega)
          have AP := hid r8
          have BP := hid r9
          have L9 := hid L9
          clear r8 r9 L8 b7 L6 X6 d2 d3 d4 PL
          go_wp2_with (at_builtin; first | (refine wpList_append_t rfl _ _ rfl AP.out (by rfl) (by rfl) ?_; clear AP) | (refine wpList_append_t rfl _ _ rfl BP.out (by rfl) (by rfl) ?_; clear BP))
          go_roundg (n - (i + 1))
          case measure => have := hi.out; omega
          case rel =>
            refine ⟨i + 1, V ++ [⟨K, N, S⟩], B ++ [true], E', g8, c8, g9, c9, by rw [Hid]; omega, by rw [List.length_append]; rfl, by rw [List.length_append]; rfl, by rw [EE.out]; go_num, by go_num, ?_, ?_, ?_⟩
            · have := L9.out
              rw [Hid, Re.ents_push hb.out.1, List.length_append, List.length_singleton, Int.natCast_add]
              exact this
            · rw [Hid, List.length_append, List.length_append, EE.out]
              have := hb.out
              simp
              omega
            · intro v hv
              rcases List.mem_append.1 hv with z | z
              · exact VW.out v z
              · rw [List.mem_singleton.1 z]; exact VQ.out
      · have hli : ¬ (i : Int) < (n : Int) := by omega
        have LE : Hid (Calls Tryz.prog 16 #[.pointer (some ⟨base + 1, 0, none⟩)] wr fun e w' => e = .returned (.int .i64 (E.length : Int)) ∧ w' = wr) := by
          obtain ⟨mv, qs⟩ := I.out.qs
          exact qlen_any base (base + 1) base mv E _ wr qs
        have F := hid I.out.bl
        clear I
        go_wp2_with fail
        refine LE.out.mono ?_
        rintro e w9 ⟨rfl, rfl⟩
        clear LE
        go_wp2_with fail
        go_ret
        exact ⟨rfl, F.out⟩
end Go.Proofs.YtigmhnlcmhpepaaGreatDoor
