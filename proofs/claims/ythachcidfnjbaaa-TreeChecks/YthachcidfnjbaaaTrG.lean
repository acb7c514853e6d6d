/-
  tree: look.
-/
import Derived.Test.YthachcidfnjbaaaTrF
import Derived.Deep.CutRange
import Derived.Deep.CutBlock
import Derived.Deep.RegionHeld3
import Derived.Deep.DeepCutAuto
namespace Go.Proofs.Ythachcidfnjbaaa
open Go Go.RowKit Go.Deep

theorem held_append {ty : TypeId} {o : Oper} {a : Act} {Q : Exit → Act → World → Prop} {K' : Act → World → Prop} {ops : Array Oper} (hgd : o.guard = none) (s x : Operand)
    (ho : o.op = .call { callee := .builtin .append, args := #[s, x], argTypes := #[ty, ty] }) {v y2 v' : Value} {w w' : World} (hr : (Builtin.append_ #[ty, ty] o.type #[v, y2]).run Try.prog w = .ok v' w') (hs : a.eval s = v) (hx : a.eval x = y2)
    (h : K' (a.put o.dst v') w') : if Region.wanted o (yielded ops a.tmps) = true then Oper.wp Try.prog o a w K' Q else K' (a.put o.dst undef) w := by
  simp only [Region.wanted, hgd, if_true]
  unfold Oper.wp execOp
  simp only [ho, resolve, invoke, builtin, Sem.run_bind, Sem.run_pure, Result.andThen_ok, List.map_toArray, List.map_cons, List.map_nil, hs, hx, hr]
  exact h

theorem bx2 {w : World} {b t : Nat} {v0 v1 : Value} (h : Bx w b t #[v0, v1]) : (w.cell? ⟨b, 0, none⟩ = some v0 ∧ w.cell? ⟨b, 1, none⟩ = some v1) ∧ (w.frozen? ⟨b, 0, none⟩ = false ∧ w.frozen? ⟨b, 1, none⟩ = false) := by
  simp only [Bx] at h
  refine ⟨⟨?_, ?_⟩, ⟨?_, ?_⟩⟩ <;> simp [World.cell?, World.frozen?, h]
theorem bx2_set {w : World} {b t : Nat} {v0 v1 : Value} (h : Bx w b t #[v0, v1]) (u0 u1 : Value) : Bx ((w.setCell ⟨b, 0, none⟩ u0).setCell ⟨b, 1, none⟩ u1) b t #[u0, u1] := by
  have h0 : Bx (w.setCell ⟨b, 0, none⟩ u0) b t #[u0, v1] := set1 h rfl
  exact set1 h0 rfl
theorem set2_below {B : Nat} {w w' : World} {b : Nat} {u0 u1 : Value} (h : Below B w w') (hb : B ≤ b) : Below B w ((w'.setCell ⟨b, 0, none⟩ u0).setCell ⟨b, 1, none⟩ u1) := by
  refine Below.setCell ?_ hb _
  refine Below.setCell ?_ hb _
  exact h
theorem Tr.dp_le {l : List (Int × Int)} {m : Int} (h : ∀ a ∈ l, a.2 ≤ m) (m0 : 0 ≤ m) : Tr.dp l ≤ m := by
  have : ∀ (l : List (Int × Int)) (d : Int), d ≤ m → (∀ a ∈ l, a.2 ≤ m) → l.foldl (fun d a => max d a.2) d ≤ m := by
    intro l
    induction l with
    | nil => intro d hd _; exact hd
    | cons a l ih => intro d hd ha; exact ih _ (show max d a.2 ≤ m from Int.max_le.2 ⟨hd, ha a (List.mem_cons_self ..)⟩) (fun b hb => ha b (List.mem_cons_of_mem _ hb))
  exact this l 0 m0 h
theorem Re.Ow.shape0 {α : Type} {enc : α → List Value} {t k base : Nat} {w : World} {mv : Value} {D : List α} (h : Re.Ow enc t k base w mv D) : (mv = .slice none 0 0 ∧ D = []) ∨ ∃ g cap, mv = .slice (some ⟨g, 0, none⟩) D.length cap ∧ base ≤ g ∧ g < w.heap.size ∧ D.length ≤ cap ∧ cap ≤ maxLen := by
  rcases h.2 with ⟨rfl, hn⟩ | ⟨g, cp, cur, rfl, hb, hg, hc, hm, _⟩
  · exact .inl ⟨rfl, List.eq_nil_of_length_eq_zero hn⟩
  · refine .inr ⟨g, cp, rfl, hb, ?_, hc, hm⟩
    rcases Nat.lt_or_ge g w.heap.size with hl | hl
    · exact hl
    · simp [Array.getElem?_eq_none hl] at hg
/-- What look's loop keeps. -/
structure LkI (w : World) (l : List Tr.Nd) (N k : Nat) (mv : Value) (r : List (Int × Int)) (d : Int) (W : World) : Prop where
  row : Re.Ow Tr.es 50 2 w.heap.size W mv r
  bel : Below w.heap.size w W
  ans : Tr.go N (l.drop k) r k d = Tr.lk l
  len : r.length ≤ k
  d0 : 0 ≤ d ∧ d ≤ N
  dpb : ∀ a ∈ r, a.2 ≤ (k : Int)

set_option maxRecDepth 100000 in
set_option maxHeartbeats 4000000 in
theorem tlook_any (p : Option Addr) (cap : Nat) (l : List Tr.Nd) (w : World) (h : Tr.LN w p l) (hl : l.length ≤ 9223372036854775807) :
    Calls Try.prog 11 #[.slice p l.length cap] w fun e w' => e = .returned (.tuple #[.int .i64 (Tr.lk l).1, .int .i64 (Tr.lk l).2.1, .int .i64 (Tr.lk l).2.2]) ∧ Below w.heap.size w w' := by
  obtain ⟨N, hN⟩ : ∃ N, l.length = N := ⟨_, rfl⟩
  have H := hid h
  have hb : (N : Int) ≤ 9223372036854775807 := by omega
  clear h hl
  rw [hN]
  by_cases h0 : 10000 < N
  · have e : Tr.lk l = (0, 10000, 242) := by rw [Tr.lk, if_pos (by omega)]
    rw [e]
    have h1 : (10000 : Int) < (N : Int) := by omega
    clear e H
    go_enter Try.func11, Try.ntmps11
    go_wp2_with fail
    go_ret3
    exact ⟨rfl, Below.refl _ _⟩
  · have h1 : ¬ (10000 : Int) < (N : Int) := by omega
    have S0 : Hid (LkI w l N 0 (.slice none 0 0) [] N w) := ⟨Re.Ow.nil w, Below.refl _ _, by rw [Tr.lk, if_neg (by omega), hN]; rfl, Nat.zero_le _, ⟨by omega, Int.le_refl _⟩, fun a ha => by cases ha⟩
    have hb2 : (N : Int) ≤ 10000 := by omega
    clear h0
    go_enter Try.func11, Try.ntmps11
    go_wp2_with fail
    go_loopg [5, 6, 18] N (fun m mv dv iv wr => ∃ (k : Nat) (r : List (Int × Int)) (d : Int), k + m = N ∧ iv = .int .i64 (k : Int) ∧ dv = .int .i64 d ∧ Hid (LkI w l N k mv r d wr))
    case atStart => exact ⟨0, [], N, by omega, rfl, rfl, S0⟩
    case round =>
      obtain ⟨k, r, d, hk, rfl, rfl, I⟩ := hrel
      by_cases kl : k < N
      · have kli : (k : Int) < (N : Int) := by omega
        obtain ⟨x, hx⟩ : ∃ x, l[k]? = some x := ⟨_, List.getElem?_eq_getElem (by omega)⟩
        obtain ⟨b, off, hp, c0, c1, c2, c3, c4, c5⟩ := (H.out.on I.out.bel) k x hx
        subst hp
        obtain ⟨x0, x1, x2, x3, x4, x5⟩ := x
        simp only at c0 c1 c2 c3 c4 c5
        have NB := hid (Bx.new wr 34 #[.int .i64 x0, .int .i64 x1, .int .i64 x2, .int .i64 x3, .int .u64 x4, .string x5])
        have AB := hid (alloc_b wr (.cells #[.int .i64 x0, .int .i64 x1, .int .i64 x2, .int .i64 x3, .int .u64 x4, .string x5] 34))
        have ST := hid (tstands_any ⟨x0, x1, x2, x3, x4, x5⟩ u5 r _ (I.out.row.below AB.out) (by have := I.out.len; omega))
        by_cases hs : Tr.st ⟨x0, x1, x2, x3, x4, x5⟩ r
        · rw [decide_eq_true hs] at ST
          obtain ⟨n0, nl⟩ := Tr.st_n hs
          simp only at n0 nl
          obtain ⟨n, rfl⟩ : ∃ n : Nat, x3 = (n : Int) := ⟨x3.toNat, by omega⟩
          have A0 : Hid (Tr.lk l = _) := I.out.ans.symm.trans (Tr.go_step hx hs)
          have OW := hid (I.out.row.below AB.out)
          have BB := hid (below_on I.out.bel AB.out)
          have rl := I.out.len
          have d0 := I.out.d0
          obtain ⟨L, hL⟩ : ∃ L, r.length = L := ⟨_, rfl⟩
          rw [hL] at nl rl
          have DPB : Hid (∀ a ∈ r, a.2 ≤ (k : Int)) := I.out.dpb
          have SH := hid I.out.row.shape0
          clear hs hx I AB H S0
          rcases SH.out with ⟨e, z⟩ | ⟨g, cp, e, hg1, hg2, hg3, hg4⟩
          · subst e z
            obtain rfl : L = 0 := hL.symm
            obtain rfl : n = 0 := by omega
            rw [Int.natCast_zero] at *
            go_upto_region 11 with (go_at_call 20; refine (ST.out).mono ?_; rintro e w2 ⟨rfl, hB⟩; have B2 := hid (below_on BB.out hB); have N2 := Bx.on NB.out hB; have O2 := hid (OW.out.below hB); obtain ⟨⟨z0, -, -, z3, -, -⟩, -⟩ := bx6 N2; have N2' := hid N2; have lt2 : wr.heap.size < w2.heap.size := N2.lt; clear hB ST N2 NB OW BB)
            have CN : Hid (∀ W, Below w2.heap.size w2 W → W.cell? ⟨wr.heap.size, 0, none⟩ = some (.int .i64 x0)) := fun W hW => (bx6 (N2'.out.on hW)).1.1
            have C3 : Hid (∀ W, Below w2.heap.size w2 W → W.cell? ⟨wr.heap.size, 3, none⟩ = some (.int .i64 0)) := fun W hW => (bx6 (N2'.out.on hW)).1.2.2.2.1
            have DE : Hid (∀ W, Below w2.heap.size w2 W → Calls Try.prog 21 #[.slice none 0 0] W fun e w' => e = .returned (.int .i64 (Tr.dp (([] : List (Int × Int)).drop 0))) ∧ Below W.heap.size W w') := fun W hW => by
              exact tdeep_nil _ _ W
            have DB : Hid (0 ≤ Tr.dp (([] : List (Int × Int)).drop 0) ∧ Tr.dp (([] : List (Int × Int)).drop 0) ≤ (k : Int)) := ⟨Tr.dp_nonneg _, Tr.dp_le (fun a ha => DPB.out a (List.mem_of_mem_drop ha)) (by omega)⟩
            have OT : Hid (Re.Ow Tr.es 50 2 w.heap.size w2 (.slice none 0 0) (([] : List (Int × Int)).take 0)) := O2.out
            generalize hD : Tr.dp (([] : List (Int × Int)).drop 0) = D at *
            obtain ⟨D0, D1⟩ := DB.out
            have WK : IntKind.i64.wrap (1 + D) = 1 + D := by rw [IntKind.wrap_i64]; omega
            go_cut [10] (fun v wx => ∃ mb, v = .pointer (some ⟨mb, 0, none⟩) ∧ Hid (w2.heap.size ≤ mb ∧ Bx wx mb 50 #[.int .i64 x0, .int .i64 (1 + D)] ∧ Below w2.heap.size w2 wx))
            case first =>
              have U0 : Hid (Below w2.heap.size w2 w2.drew) := Below.drew (Below.refl _ _)
              have U1 : Hid (Below w2.heap.size w2 (w2.alloc (.cells #[.int .i64 0, .int .i64 0] 50)).drew) := Below.drew (alloc_b w2 _)
              have M1 : Hid (Bx (w2.alloc (.cells #[.int .i64 0, .int .i64 0] 50)).drew w2.heap.size 50 #[.int .i64 0, .int .i64 0]) := Bx.new w2 50 _
              go_region_held3 (fun w' => w'.cell? ⟨wr.heap.size, 0, none⟩ = some (.int .i64 x0)) (first | (with_reducible exact CN.out _ U6.out) | (with_reducible exact CN.out _ U5.out) | (with_reducible exact CN.out _ U4.out) | (with_reducible exact CN.out _ U3.out) | (with_reducible exact CN.out _ U1.out) | (with_reducible exact CN.out _ U0.out)) (first | (go_at_call 21; first
                  | ((with_reducible refine (DE.out _ U1.out).mono ?_); rintro e w3 ⟨rfl, hB⟩; have U3 := hid (below_on U1.out hB); have M3 := hid (Bx.on M1.out hB); have U6 := hid (set2_below (u0 := .int .i64 x0) (u1 := .int .i64 (1 + D)) U3.out (Nat.le_refl w2.heap.size)); obtain ⟨⟨e0, e1⟩, ⟨g0, g1⟩⟩ := bx2 M3.out; have F9 := hid (And.intro (Nat.le_refl w2.heap.size) (And.intro (bx2_set M3.out (.int .i64 x0) (.int .i64 (1 + D))) U6.out)); clear hB)
                  | ((with_reducible refine (DE.out _ U0.out).mono ?_); rintro e w3 ⟨rfl, hB⟩; have U3 := hid (below_on U0.out hB); have U4 := hid (below_on U3.out (alloc_b w3 (.cells #[.int .i64 0, .int .i64 0] 50))); have U5 := hid (below_on U3.out (alloc_b w3 (.cells #[.int .i64 x0, .int .i64 (1 + D)] 50))); have F9 := hid (And.intro U3.out.size (And.intro (Bx.new w3 50 #[.int .i64 x0, .int .i64 (1 + D)]) U5.out)); clear hB)))
              all_goals
                go_wp2_with fail
                go_meet
                exact ⟨_, rfl, F9⟩
            case rest =>
              obtain ⟨mb, h10, F⟩ := hcut
              subst h10
              clear CN DE c0 c1 c2 c3 c4 c5 z0 z3
              obtain ⟨⟨a0, a1⟩, -⟩ := bx2 F.out.2.1
              have HDN : Hid (Tr.dn [] ⟨x0, x1, x2, 0, x4, x5⟩ k d = if 200 < 1 + D then min d k else d) := by
                rw [Hid, Tr.dn, Tr.nd, ← hD, hL]; rfl
              go_upto_if 43 with fail
              generalize hq : Tr.dn [] ⟨x0, x1, x2, 0, x4, x5⟩ k d = q at *
              go_cut [6] (fun v wx => v = .int .i64 q ∧ wx = wc)
              case first =>
                by_cases hg : 200 < 1 + D
                · by_cases hm : d ≤ k
                  · have E : Hid (q = d) := by rw [Hid, HDN.out, if_pos hg]; omega
                    have hm2 : ¬ (k : Int) < d := by omega
                    clear HDN hm
                    go_wp2_with fail
                    go_meet
                    exact ⟨by rw [E.out], rfl⟩
                  · have E : Hid (q = (k : Int)) := by rw [Hid, HDN.out, if_pos hg]; omega
                    have hm2 : (k : Int) < d := by omega
                    clear HDN hm
                    go_wp2_with fail
                    go_meet
                    exact ⟨by rw [E.out], rfl⟩
                · have E : Hid (q = d) := by rw [Hid, HDN.out, if_neg hg]
                  clear HDN
                  go_wp2_with fail
                  go_meet
                  exact ⟨by rw [E.out], rfl⟩
              case rest =>
                obtain ⟨h6, hwc⟩ := hcut
                subst hwc
                subst h6
                have q0 : 0 ≤ q ∧ q ≤ N := by
                  have := HDN.out
                  split at this <;> omega
                have WC : Hid (Below w2.heap.size w2 wc.drew) := Below.drew F.out.2.2
                obtain ⟨mv', w5, AP, P1, P2, P3, P4⟩ := (OT.out.below WC.out).push Tr.es_len (fun y v hv => by simp only [Tr.es, List.mem_cons, List.not_mem_nil, or_false] at hv; rcases hv with rfl | rfl <;> rfl) (by omega) (P := Try.prog) 46 Try.underlying46 (z := .agg #[.int .i64 0, .int .i64 0]) (bytes := 16) (by kernel_rfl) (by omega) rfl (x0, 1 + D) (by rw [List.length_take]; omega) (by have := B2.out.size; have := WC.out.size; omega)
                have AP1 := hid AP
                have AL : Hid (Below w2.heap.size w2 (wc.alloc (.cells #[.int .i64 x0, .int .i64 (1 + D)] 50)).drew) := Below.drew (below_on F.out.2.2 (alloc_b wc _))
                have S5 : Hid (w5.cell? ⟨wr.heap.size, 3, none⟩ = some (.int .i64 0) ∧ w5.cell? ⟨mb, 0, none⟩ = some (.int .i64 x0) ∧ w5.cell? ⟨mb, 1, none⟩ = some (.int .i64 (1 + D))) := by
                  have k1 : w5.heap[wr.heap.size]? = wc.heap[wr.heap.size]? := P4 _ (by have := WC.out.size; show wr.heap.size < wc.heap.size; have e : wc.drew.heap.size = wc.heap.size := rfl; omega) (fun e => by simp [Value.ownBlock] at e)
                  have k2 : w5.heap[mb]? = wc.heap[mb]? := P4 _ F.out.2.1.lt (fun e => by simp [Value.ownBlock] at e)
                  have n5 : Bx w5 wr.heap.size 34 _ := (show w5.heap[wr.heap.size]? = _ from k1.trans (N2'.out.on F.out.2.2))
                  have m5 : Bx w5 mb 50 _ := (show w5.heap[mb]? = _ from k2.trans F.out.2.1)
                  exact ⟨(bx6 n5).1.2.2.2.1, (bx2 m5).1.1, (bx2 m5).1.2⟩
                have LK : Hid (LkI w l N (k + 1) mv' (Tr.nx [] ⟨x0, x1, x2, 0, x4, x5⟩) q w5) := by
                  refine ⟨?_, ?_, A0.out.symm, Tr.nx_len k (by omega), q0, ?_⟩
                  · have e : Tr.nx [] ⟨x0, x1, x2, 0, x4, x5⟩ = ([] : List (Int × Int)).take 0 ++ [(x0, 1 + D)] := by
                      rw [Tr.nx, Tr.nd, ← hD, hL]; rfl
                    rw [e]; exact P1
                  · have b1 := B2.out.trans (WC.out.mono B2.out.size)
                    exact b1.trans P3
                  · intro a ha
                    rw [Tr.nx, Tr.nd] at ha
                    rcases List.mem_append.1 ha with y | y
                    · have := DPB.out a (List.mem_of_mem_take y); omega
                    · rw [List.mem_singleton] at y
                      rw [y, hL]
                      show 1 + Tr.dp (([] : List (Int × Int)).drop (0 - (0 : Int).toNat)) ≤ _
                      have e9 : 0 - (0 : Int).toNat = 0 := rfl
                      rw [e9, hD]; omega
                have C4 : Hid (∀ W, Below w2.heap.size w2 W → Below wc.heap.size wc W → W.cell? ⟨wr.heap.size, 3, none⟩ = some (.int .i64 0) ∧ W.cell? ⟨mb, 0, none⟩ = some (.int .i64 x0) ∧ W.cell? ⟨mb, 1, none⟩ = some (.int .i64 (1 + D))) := fun W h1 h2 => ⟨C3.out W h1, (bx2 (F.out.2.1.on h2)).1.1, (bx2 (F.out.2.1.on h2)).1.2⟩
                have V0 := hid (And.intro WC.out (Below.drew (Below.refl wc.heap.size wc)))
                have V1 := hid (And.intro AL.out (Below.drew (alloc_b wc (.cells #[.int .i64 x0, .int .i64 (1 + D)] 50))))
                have hq2 := hk
                have kN : k < N := kl
                clear HDN q0 WC AP P1 P2 P3 P4 AL A0 OT F C3 B2 O2 N2' DPB DB hq a0 a1 hD hL SH d0 rl nl
                have WK2 : IntKind.i64.wrap (0 - 0) = 0 := by rw [IntKind.wrap_i64]; omega
                have WK3 : IntKind.i64.wrap (0 : Int) = 0 := by first | rfl | (rw [IntKind.wrap_i64]; omega)
                go_upto_region 14 with fail
                go_region_held3 (fun w' => w'.cell? ⟨wr.heap.size, 3, none⟩ = some (.int .i64 0) ∧ w'.cell? ⟨mb, 0, none⟩ = some (.int .i64 x0) ∧ w'.cell? ⟨mb, 1, none⟩ = some (.int .i64 (1 + D))) (first | (with_reducible exact S5.out) | (with_reducible exact C4.out _ V1.out.1 V1.out.2) | (with_reducible exact C4.out _ V0.out.1 V0.out.2)) (first | (refine held_append rfl _ _ rfl AP1.out (by rfl) (by rfl) ?_))
                all_goals
                  go_wp2_with fail
                  go_roundg (N - (k + 1))
                  case measure => omega
                  case rel => exact ⟨k + 1, _, q, by omega, by go_num, rfl, LK⟩
          · rw [hL] at e hg3
            subst e
            have Lb : (L : Int) ≤ 10000 := by omega
            have hcp : (L : Int) ≤ (cp : Int) := by omega
            have hcm : (cp : Int) ≤ 9223372036854775807 := by simp only [maxLen] at hg4; omega
            by_cases hcj : cp = L - n
            · obtain rfl : cp = L := by omega
              obtain rfl : n = 0 := by omega
              rw [Int.natCast_zero] at *
              clear hcj
              have ez : r.drop cp = [] := List.drop_of_length_le (by omega)
              go_upto_region 11 with (go_at_call 20; refine (ST.out).mono ?_; rintro e w2 ⟨rfl, hB⟩; have B2 := hid (below_on BB.out hB); have N2 := Bx.on NB.out hB; have O2 := hid (OW.out.below hB); obtain ⟨⟨z0, -, -, z3, -, -⟩, -⟩ := bx6 N2; have N2' := hid N2; have lt2 : wr.heap.size < w2.heap.size := N2.lt; clear hB ST N2 NB OW BB)
              have CN : Hid (∀ W, Below w2.heap.size w2 W → W.cell? ⟨wr.heap.size, 0, none⟩ = some (.int .i64 x0)) := fun W hW => (bx6 (N2'.out.on hW)).1.1
              have C3 : Hid (∀ W, Below w2.heap.size w2 W → W.cell? ⟨wr.heap.size, 3, none⟩ = some (.int .i64 0)) := fun W hW => (bx6 (N2'.out.on hW)).1.2.2.2.1
              have DE : Hid (∀ W, Below w2.heap.size w2 W → Calls Try.prog 21 #[.slice (some ⟨g, 0, none⟩) 0 0] W fun e w' => e = .returned (.int .i64 (Tr.dp (r.drop cp))) ∧ Below W.heap.size W w') := fun W hW => by
                rw [ez]
                exact tdeep_nil _ _ W
              have DB : Hid (0 ≤ Tr.dp (r.drop cp) ∧ Tr.dp (r.drop cp) ≤ (k : Int)) := ⟨Tr.dp_nonneg _, Tr.dp_le (fun a ha => DPB.out a (List.mem_of_mem_drop ha)) (by omega)⟩
              have OT : Hid (Re.Ow Tr.es 50 2 w.heap.size w2 (.slice (some ⟨g, 0, none⟩) cp cp) (r.take cp)) := O2.out.take Tr.es_len cp (by omega)
              generalize hD : Tr.dp (r.drop cp) = D at *
              obtain ⟨D0, D1⟩ := DB.out
              have WK : IntKind.i64.wrap (1 + D) = 1 + D := by rw [IntKind.wrap_i64]; omega
              go_cut [10] (fun v wx => ∃ mb, v = .pointer (some ⟨mb, 0, none⟩) ∧ Hid (w2.heap.size ≤ mb ∧ Bx wx mb 50 #[.int .i64 x0, .int .i64 (1 + D)] ∧ Below w2.heap.size w2 wx))
              case first =>
                have U0 : Hid (Below w2.heap.size w2 w2.drew) := Below.drew (Below.refl _ _)
                have U1 : Hid (Below w2.heap.size w2 (w2.alloc (.cells #[.int .i64 0, .int .i64 0] 50)).drew) := Below.drew (alloc_b w2 _)
                have M1 : Hid (Bx (w2.alloc (.cells #[.int .i64 0, .int .i64 0] 50)).drew w2.heap.size 50 #[.int .i64 0, .int .i64 0]) := Bx.new w2 50 _
                go_region_held3 (fun w' => w'.cell? ⟨wr.heap.size, 0, none⟩ = some (.int .i64 x0)) (first | (with_reducible exact CN.out _ U6.out) | (with_reducible exact CN.out _ U5.out) | (with_reducible exact CN.out _ U4.out) | (with_reducible exact CN.out _ U3.out) | (with_reducible exact CN.out _ U1.out) | (with_reducible exact CN.out _ U0.out)) (first | (go_at_call 21; first
                    | ((with_reducible refine (DE.out _ U1.out).mono ?_); rintro e w3 ⟨rfl, hB⟩; have U3 := hid (below_on U1.out hB); have M3 := hid (Bx.on M1.out hB); have U6 := hid (set2_below (u0 := .int .i64 x0) (u1 := .int .i64 (1 + D)) U3.out (Nat.le_refl w2.heap.size)); obtain ⟨⟨e0, e1⟩, ⟨g0, g1⟩⟩ := bx2 M3.out; have F9 := hid (And.intro (Nat.le_refl w2.heap.size) (And.intro (bx2_set M3.out (.int .i64 x0) (.int .i64 (1 + D))) U6.out)); clear hB)
                    | ((with_reducible refine (DE.out _ U0.out).mono ?_); rintro e w3 ⟨rfl, hB⟩; have U3 := hid (below_on U0.out hB); have U4 := hid (below_on U3.out (alloc_b w3 (.cells #[.int .i64 0, .int .i64 0] 50))); have U5 := hid (below_on U3.out (alloc_b w3 (.cells #[.int .i64 x0, .int .i64 (1 + D)] 50))); have F9 := hid (And.intro U3.out.size (And.intro (Bx.new w3 50 #[.int .i64 x0, .int .i64 (1 + D)]) U5.out)); clear hB)))
                all_goals
                  go_wp2_with fail
                  go_meet
                  exact ⟨_, rfl, F9⟩
              case rest =>
                obtain ⟨mb, h10, F⟩ := hcut
                subst h10
                clear CN DE c0 c1 c2 c3 c4 c5 z0 z3
                obtain ⟨⟨a0, a1⟩, -⟩ := bx2 F.out.2.1
                have HDN : Hid (Tr.dn r ⟨x0, x1, x2, 0, x4, x5⟩ k d = if 200 < 1 + D then min d k else d) := by
                  rw [Hid, Tr.dn, Tr.nd, ← hD, hL]; rfl
                go_upto_if 43 with fail
                generalize hq : Tr.dn r ⟨x0, x1, x2, 0, x4, x5⟩ k d = q at *
                go_cut [6] (fun v wx => v = .int .i64 q ∧ wx = wc)
                case first =>
                  by_cases hg : 200 < 1 + D
                  · by_cases hm : d ≤ k
                    · have E : Hid (q = d) := by rw [Hid, HDN.out, if_pos hg]; omega
                      have hm2 : ¬ (k : Int) < d := by omega
                      clear HDN hm
                      go_wp2_with fail
                      go_meet
                      exact ⟨by rw [E.out], rfl⟩
                    · have E : Hid (q = (k : Int)) := by rw [Hid, HDN.out, if_pos hg]; omega
                      have hm2 : (k : Int) < d := by omega
                      clear HDN hm
                      go_wp2_with fail
                      go_meet
                      exact ⟨by rw [E.out], rfl⟩
                  · have E : Hid (q = d) := by rw [Hid, HDN.out, if_neg hg]
                    clear HDN
                    go_wp2_with fail
                    go_meet
                    exact ⟨by rw [E.out], rfl⟩
                case rest =>
                  obtain ⟨h6, hwc⟩ := hcut
                  subst hwc
                  subst h6
                  have q0 : 0 ≤ q ∧ q ≤ N := by
                    have := HDN.out
                    split at this <;> omega
                  have WC : Hid (Below w2.heap.size w2 wc.drew) := Below.drew F.out.2.2
                  obtain ⟨mv', w5, AP, P1, P2, P3, P4⟩ := (OT.out.below WC.out).push Tr.es_len (fun y v hv => by simp only [Tr.es, List.mem_cons, List.not_mem_nil, or_false] at hv; rcases hv with rfl | rfl <;> rfl) (by omega) (P := Try.prog) 46 Try.underlying46 (z := .agg #[.int .i64 0, .int .i64 0]) (bytes := 16) (by kernel_rfl) (by omega) rfl (x0, 1 + D) (by rw [List.length_take]; omega) (by have := B2.out.size; have := WC.out.size; omega)
                  have AP1 := hid AP
                  have AL : Hid (Below w2.heap.size w2 (wc.alloc (.cells #[.int .i64 x0, .int .i64 (1 + D)] 50)).drew) := Below.drew (below_on F.out.2.2 (alloc_b wc _))
                  have S5 : Hid (w5.cell? ⟨wr.heap.size, 3, none⟩ = some (.int .i64 0) ∧ w5.cell? ⟨mb, 0, none⟩ = some (.int .i64 x0) ∧ w5.cell? ⟨mb, 1, none⟩ = some (.int .i64 (1 + D))) := by
                    have k1 : w5.heap[wr.heap.size]? = wc.heap[wr.heap.size]? := P4 _ (by have := WC.out.size; show wr.heap.size < wc.heap.size; have e : wc.drew.heap.size = wc.heap.size := rfl; omega) (fun e => by simp only [Value.ownBlock, Option.some.injEq] at e; omega)
                    have k2 : w5.heap[mb]? = wc.heap[mb]? := P4 _ F.out.2.1.lt (fun e => by have := F.out.1; simp only [Value.ownBlock, Option.some.injEq] at e; omega)
                    have n5 : Bx w5 wr.heap.size 34 _ := (show w5.heap[wr.heap.size]? = _ from k1.trans (N2'.out.on F.out.2.2))
                    have m5 : Bx w5 mb 50 _ := (show w5.heap[mb]? = _ from k2.trans F.out.2.1)
                    exact ⟨(bx6 n5).1.2.2.2.1, (bx2 m5).1.1, (bx2 m5).1.2⟩
                  have LK : Hid (LkI w l N (k + 1) mv' (Tr.nx r ⟨x0, x1, x2, 0, x4, x5⟩) q w5) := by
                    refine ⟨?_, ?_, A0.out.symm, Tr.nx_len k (by omega), q0, ?_⟩
                    · have e : Tr.nx r ⟨x0, x1, x2, 0, x4, x5⟩ = r.take cp ++ [(x0, 1 + D)] := by
                        rw [Tr.nx, Tr.nd, ← hD, hL]; rfl
                      rw [e]; exact P1
                    · have b1 := B2.out.trans (WC.out.mono B2.out.size)
                      exact b1.trans P3
                    · intro a ha
                      rw [Tr.nx, Tr.nd] at ha
                      rcases List.mem_append.1 ha with y | y
                      · have := DPB.out a (List.mem_of_mem_take y); omega
                      · rw [List.mem_singleton] at y
                        rw [y, hL]
                        show 1 + Tr.dp (r.drop (cp - (0 : Int).toNat)) ≤ _
                        have e9 : cp - (0 : Int).toNat = cp := rfl
                        rw [e9, hD]; omega
                  have C4 : Hid (∀ W, Below w2.heap.size w2 W → Below wc.heap.size wc W → W.cell? ⟨wr.heap.size, 3, none⟩ = some (.int .i64 0) ∧ W.cell? ⟨mb, 0, none⟩ = some (.int .i64 x0) ∧ W.cell? ⟨mb, 1, none⟩ = some (.int .i64 (1 + D))) := fun W h1 h2 => ⟨C3.out W h1, (bx2 (F.out.2.1.on h2)).1.1, (bx2 (F.out.2.1.on h2)).1.2⟩
                  have V0 := hid (And.intro WC.out (Below.drew (Below.refl wc.heap.size wc)))
                  have V1 := hid (And.intro AL.out (Below.drew (alloc_b wc (.cells #[.int .i64 x0, .int .i64 (1 + D)] 50))))
                  have hq2 := hk
                  have kN : k < N := kl
                  clear HDN q0 WC AP P1 P2 P3 P4 AL A0 OT F C3 B2 O2 N2' DPB DB hq a0 a1 hD hL SH d0 rl nl
                  have WK2 : IntKind.i64.wrap ((cp : Int) - 0) = (cp : Int) := by rw [IntKind.wrap_i64]; omega
                  have WK3 : IntKind.i64.wrap (cp : Int) = (cp : Int) := by rw [IntKind.wrap_i64]; omega
                  have jn2 : ¬ (cp : Int) < 0 := by omega
                  have jn3 : ¬ (cp : Int) < (cp : Int) := by omega
                  have j0 : (0 : Int) ≤ (cp : Int) := by omega
                  have jcN : cp ≤ cp := by omega
                  go_upto_region 14 with fail
                  go_region_held3 (fun w' => w'.cell? ⟨wr.heap.size, 3, none⟩ = some (.int .i64 0) ∧ w'.cell? ⟨mb, 0, none⟩ = some (.int .i64 x0) ∧ w'.cell? ⟨mb, 1, none⟩ = some (.int .i64 (1 + D))) (first | (with_reducible exact S5.out) | (with_reducible exact C4.out _ V1.out.1 V1.out.2) | (with_reducible exact C4.out _ V0.out.1 V0.out.2)) (first | (refine held_append rfl _ _ rfl AP1.out (by rfl) (by rfl) ?_))
                  all_goals
                    go_wp2_with fail
                    go_roundg (N - (k + 1))
                    case measure => omega
                    case rel => exact ⟨k + 1, _, q, by omega, by go_num, rfl, LK⟩
            obtain ⟨j, hj⟩ : ∃ j, L - n = j := ⟨_, rfl⟩
            rw [hj] at hcj
            have ej : (L : Int) - (n : Int) = (j : Int) := by omega
            have jl : (j : Int) ≤ (L : Int) := by omega
            have jc : (j : Int) ≤ (cp : Int) := by omega
            have jn : (L : Int) - (j : Int) = (n : Int) := by omega
            have jN : j ≤ L := by omega
            go_upto_region 11 with (go_at_call 20; refine (ST.out).mono ?_; rintro e w2 ⟨rfl, hB⟩; have B2 := hid (below_on BB.out hB); have N2 := Bx.on NB.out hB; have O2 := hid (OW.out.below hB); obtain ⟨⟨z0, -, -, z3, -, -⟩, -⟩ := bx6 N2; have N2' := hid N2; have lt2 : wr.heap.size < w2.heap.size := N2.lt; clear hB ST N2 NB OW BB)
            have CN : Hid (∀ W, Below w2.heap.size w2 W → W.cell? ⟨wr.heap.size, 0, none⟩ = some (.int .i64 x0)) := fun W hW => (bx6 (N2'.out.on hW)).1.1
            have C3 : Hid (∀ W, Below w2.heap.size w2 W → W.cell? ⟨wr.heap.size, 3, none⟩ = some (.int .i64 (n : Int))) := fun W hW => (bx6 (N2'.out.on hW)).1.2.2.2.1
            have DE : Hid (∀ W, Below w2.heap.size w2 W → Calls Try.prog 21 #[.slice (some ⟨g, j * 2, none⟩) (L - j) (cp - j)] W fun e w' => e = .returned (.int .i64 (Tr.dp (r.drop j))) ∧ Below W.heap.size W w') := fun W hW => by
              have e : (r.drop j).length = L - j := by rw [List.length_drop, hL]
              rw [← e]
              refine tdeep_any g j (cp - j) (r.drop j) W (fun i a ha => ?_) (by omega)
              have ha' : r[j + i]? = some a := by rw [List.getElem?_drop] at ha; exact ha
              exact ⟨(O2.out.below hW).cell Tr.es_len ha' 0 (by omega) _ rfl, (O2.out.below hW).cell Tr.es_len ha' 1 (by omega) _ rfl⟩
            have DB : Hid (0 ≤ Tr.dp (r.drop j) ∧ Tr.dp (r.drop j) ≤ (k : Int)) := ⟨Tr.dp_nonneg _, Tr.dp_le (fun a ha => DPB.out a (List.mem_of_mem_drop ha)) (by omega)⟩
            have OT : Hid (Re.Ow Tr.es 50 2 w.heap.size w2 (.slice (some ⟨g, 0, none⟩) j cp) (r.take j)) := O2.out.take Tr.es_len j (by omega)
            generalize hD : Tr.dp (r.drop j) = D at *
            obtain ⟨D0, D1⟩ := DB.out
            have WK : IntKind.i64.wrap (1 + D) = 1 + D := by rw [IntKind.wrap_i64]; omega
            go_cut [10] (fun v wx => ∃ mb, v = .pointer (some ⟨mb, 0, none⟩) ∧ Hid (w2.heap.size ≤ mb ∧ Bx wx mb 50 #[.int .i64 x0, .int .i64 (1 + D)] ∧ Below w2.heap.size w2 wx))
            case first =>
              have U0 : Hid (Below w2.heap.size w2 w2.drew) := Below.drew (Below.refl _ _)
              have U1 : Hid (Below w2.heap.size w2 (w2.alloc (.cells #[.int .i64 0, .int .i64 0] 50)).drew) := Below.drew (alloc_b w2 _)
              have M1 : Hid (Bx (w2.alloc (.cells #[.int .i64 0, .int .i64 0] 50)).drew w2.heap.size 50 #[.int .i64 0, .int .i64 0]) := Bx.new w2 50 _
              go_region_held3 (fun w' => w'.cell? ⟨wr.heap.size, 0, none⟩ = some (.int .i64 x0)) (first | (with_reducible exact CN.out _ U6.out) | (with_reducible exact CN.out _ U5.out) | (with_reducible exact CN.out _ U4.out) | (with_reducible exact CN.out _ U3.out) | (with_reducible exact CN.out _ U1.out) | (with_reducible exact CN.out _ U0.out)) (first | (go_at_call 21; first
                  | ((with_reducible refine (DE.out _ U1.out).mono ?_); rintro e w3 ⟨rfl, hB⟩; have U3 := hid (below_on U1.out hB); have M3 := hid (Bx.on M1.out hB); have U6 := hid (set2_below (u0 := .int .i64 x0) (u1 := .int .i64 (1 + D)) U3.out (Nat.le_refl w2.heap.size)); obtain ⟨⟨e0, e1⟩, ⟨g0, g1⟩⟩ := bx2 M3.out; have F9 := hid (And.intro (Nat.le_refl w2.heap.size) (And.intro (bx2_set M3.out (.int .i64 x0) (.int .i64 (1 + D))) U6.out)); clear hB)
                  | ((with_reducible refine (DE.out _ U0.out).mono ?_); rintro e w3 ⟨rfl, hB⟩; have U3 := hid (below_on U0.out hB); have U4 := hid (below_on U3.out (alloc_b w3 (.cells #[.int .i64 0, .int .i64 0] 50))); have U5 := hid (below_on U3.out (alloc_b w3 (.cells #[.int .i64 x0, .int .i64 (1 + D)] 50))); have F9 := hid (And.intro U3.out.size (And.intro (Bx.new w3 50 #[.int .i64 x0, .int .i64 (1 + D)]) U5.out)); clear hB)))
              all_goals
                go_wp2_with fail
                go_meet
                exact ⟨_, rfl, F9⟩
            case rest =>
              obtain ⟨mb, h10, F⟩ := hcut
              subst h10
              clear CN DE c0 c1 c2 c3 c4 c5 z0 z3
              obtain ⟨⟨a0, a1⟩, -⟩ := bx2 F.out.2.1
              have HDN : Hid (Tr.dn r ⟨x0, x1, x2, (n : Int), x4, x5⟩ k d = if 200 < 1 + D then min d k else d) := by
                rw [Hid, Tr.dn, Tr.nd, ← hD, ← hj, hL]; rfl
              go_upto_if 43 with fail
              generalize hq : Tr.dn r ⟨x0, x1, x2, (n : Int), x4, x5⟩ k d = q at *
              go_cut [6] (fun v wx => v = .int .i64 q ∧ wx = wc)
              case first =>
                by_cases hg : 200 < 1 + D
                · by_cases hm : d ≤ k
                  · have E : Hid (q = d) := by rw [Hid, HDN.out, if_pos hg]; omega
                    have hm2 : ¬ (k : Int) < d := by omega
                    clear HDN hm
                    go_wp2_with fail
                    go_meet
                    exact ⟨by rw [E.out], rfl⟩
                  · have E : Hid (q = (k : Int)) := by rw [Hid, HDN.out, if_pos hg]; omega
                    have hm2 : (k : Int) < d := by omega
                    clear HDN hm
                    go_wp2_with fail
                    go_meet
                    exact ⟨by rw [E.out], rfl⟩
                · have E : Hid (q = d) := by rw [Hid, HDN.out, if_neg hg]
                  clear HDN
                  go_wp2_with fail
                  go_meet
                  exact ⟨by rw [E.out], rfl⟩
              case rest =>
                obtain ⟨h6, hwc⟩ := hcut
                subst hwc
                subst h6
                have q0 : 0 ≤ q ∧ q ≤ N := by
                  have := HDN.out
                  split at this <;> omega
                have WC : Hid (Below w2.heap.size w2 wc.drew) := Below.drew F.out.2.2
                obtain ⟨mv', w5, AP, P1, P2, P3, P4⟩ := (OT.out.below WC.out).push Tr.es_len (fun y v hv => by simp only [Tr.es, List.mem_cons, List.not_mem_nil, or_false] at hv; rcases hv with rfl | rfl <;> rfl) (by omega) (P := Try.prog) 46 Try.underlying46 (z := .agg #[.int .i64 0, .int .i64 0]) (bytes := 16) (by kernel_rfl) (by omega) rfl (x0, 1 + D) (by rw [List.length_take]; omega) (by have := B2.out.size; have := WC.out.size; omega)
                have AP1 := hid AP
                have AL : Hid (Below w2.heap.size w2 (wc.alloc (.cells #[.int .i64 x0, .int .i64 (1 + D)] 50)).drew) := Below.drew (below_on F.out.2.2 (alloc_b wc _))
                have S5 : Hid (w5.cell? ⟨wr.heap.size, 3, none⟩ = some (.int .i64 (n : Int)) ∧ w5.cell? ⟨mb, 0, none⟩ = some (.int .i64 x0) ∧ w5.cell? ⟨mb, 1, none⟩ = some (.int .i64 (1 + D))) := by
                  have k1 : w5.heap[wr.heap.size]? = wc.heap[wr.heap.size]? := P4 _ (by have := WC.out.size; show wr.heap.size < wc.heap.size; have e : wc.drew.heap.size = wc.heap.size := rfl; omega) (fun e => by simp only [Value.ownBlock, Option.some.injEq] at e; omega)
                  have k2 : w5.heap[mb]? = wc.heap[mb]? := P4 _ F.out.2.1.lt (fun e => by have := F.out.1; simp only [Value.ownBlock, Option.some.injEq] at e; omega)
                  have n5 : Bx w5 wr.heap.size 34 _ := (show w5.heap[wr.heap.size]? = _ from k1.trans (N2'.out.on F.out.2.2))
                  have m5 : Bx w5 mb 50 _ := (show w5.heap[mb]? = _ from k2.trans F.out.2.1)
                  exact ⟨(bx6 n5).1.2.2.2.1, (bx2 m5).1.1, (bx2 m5).1.2⟩
                have LK : Hid (LkI w l N (k + 1) mv' (Tr.nx r ⟨x0, x1, x2, (n : Int), x4, x5⟩) q w5) := by
                  refine ⟨?_, ?_, A0.out.symm, Tr.nx_len k (by omega), q0, ?_⟩
                  · have e : Tr.nx r ⟨x0, x1, x2, (n : Int), x4, x5⟩ = r.take j ++ [(x0, 1 + D)] := by
                      rw [Tr.nx, Tr.nd, ← hD, ← hj, hL]; rfl
                    rw [e]; exact P1
                  · have b1 := B2.out.trans (WC.out.mono B2.out.size)
                    exact b1.trans P3
                  · intro a ha
                    rw [Tr.nx, Tr.nd] at ha
                    rcases List.mem_append.1 ha with y | y
                    · have := DPB.out a (List.mem_of_mem_take y); omega
                    · rw [List.mem_singleton] at y
                      rw [y, hL]
                      show 1 + Tr.dp (r.drop (L - (n : Int).toNat)) ≤ _
                      rw [Int.toNat_natCast, hj, hD]; omega
                have C4 : Hid (∀ W, Below w2.heap.size w2 W → Below wc.heap.size wc W → W.cell? ⟨wr.heap.size, 3, none⟩ = some (.int .i64 (n : Int)) ∧ W.cell? ⟨mb, 0, none⟩ = some (.int .i64 x0) ∧ W.cell? ⟨mb, 1, none⟩ = some (.int .i64 (1 + D))) := fun W h1 h2 => ⟨C3.out W h1, (bx2 (F.out.2.1.on h2)).1.1, (bx2 (F.out.2.1.on h2)).1.2⟩
                have V0 := hid (And.intro WC.out (Below.drew (Below.refl wc.heap.size wc)))
                have V1 := hid (And.intro AL.out (Below.drew (alloc_b wc (.cells #[.int .i64 x0, .int .i64 (1 + D)] 50))))
                have hq2 := hk
                have kN : k < N := kl
                clear HDN q0 WC AP P1 P2 P3 P4 AL A0 OT F C3 B2 O2 N2' DPB DB hq a0 a1 hD hL SH d0 rl nl
                have WK2 : IntKind.i64.wrap ((L : Int) - (n : Int)) = (j : Int) := by rw [IntKind.wrap_i64]; omega
                have WK3 : IntKind.i64.wrap (j : Int) = (j : Int) := by rw [IntKind.wrap_i64]; omega
                have jn2 : ¬ (j : Int) < 0 := by omega
                have jn3 : ¬ (cp : Int) < (j : Int) := by omega
                have j0 : (0 : Int) ≤ (j : Int) := by omega
                have jcN : j ≤ cp := by omega
                go_upto_region 14 with fail
                go_region_held3 (fun w' => w'.cell? ⟨wr.heap.size, 3, none⟩ = some (.int .i64 (n : Int)) ∧ w'.cell? ⟨mb, 0, none⟩ = some (.int .i64 x0) ∧ w'.cell? ⟨mb, 1, none⟩ = some (.int .i64 (1 + D))) (first | (with_reducible exact S5.out) | (with_reducible exact C4.out _ V1.out.1 V1.out.2) | (with_reducible exact C4.out _ V0.out.1 V0.out.2)) (first | (refine held_append rfl _ _ rfl AP1.out (by rfl) (by rfl) ?_))
                all_goals
                  go_wp2_with fail
                  go_roundg (N - (k + 1))
                  case measure => omega
                  case rel => exact ⟨k + 1, _, q, by omega, by go_num, rfl, LK⟩
        · rw [decide_eq_false hs] at ST
          have A0 : Hid (Tr.lk l = (0, (k : Int), 243)) := by rw [Hid, ← I.out.ans]; exact Tr.go_stop hx hs
          have BB := hid (below_on I.out.bel AB.out)
          clear hs hx I AB NB H S0
          go_wp2_with (go_at_call 20; refine (ST.out).mono ?_; rintro e w2 ⟨rfl, hB⟩; have B2 := hid (below_on BB.out hB); clear hB ST)
          go_ret3
          rw [A0.out]
          exact ⟨rfl, B2.out⟩
      · obtain rfl : k = N := by omega
        have kli : ¬ (k : Int) < (k : Int) := by omega
        have A0 : Hid (Tr.lk l = Tr.go k [] r k d) := by rw [Hid, ← I.out.ans, List.drop_of_length_le (by omega)]
        have BB := hid I.out.bel
        have OW := hid I.out.row
        have rl := I.out.len
        clear I H S0
        obtain ⟨L, hL⟩ : ∃ L, r.length = L := ⟨_, rfl⟩
        have Lb : (L : Int) ≤ 10000 := by omega
        have hsh : ∃ pp cp, u5 = .slice pp L cp := by
          rcases OW.out.shape with ⟨cp, e, z⟩ | ⟨g, cp, e, _⟩
          · exact ⟨none, cp, by rw [e, ← hL, z]; rfl⟩
          · exact ⟨_, cp, by rw [e, hL]⟩
        obtain ⟨pp, cp, rfl⟩ := hsh
        by_cases h1L : L = 1
        · subst h1L
          obtain ⟨a, ha⟩ : ∃ a, r = [a] := by
            match r, hL with
            | [a], _ => exact ⟨a, rfl⟩
          subst ha
          have hp : ∃ g, pp = some ⟨g, 0, none⟩ := by
            rcases OW.out.shape with ⟨_, _, z⟩ | ⟨g, c, z, _⟩
            · cases z
            · simp only [Value.slice.injEq] at z; exact ⟨g, z.1⟩
          obtain ⟨g, rfl⟩ := hp
          have cl := OW.out.cell Tr.es_len (i := 0) (a := a) rfl 1 (by omega) _ rfl
          have cl0 := OW.out.cell Tr.es_len (i := 0) (a := a) rfl 0 (by omega) _ rfl
          obtain ⟨a1, a2⟩ := a
          simp only [Nat.zero_mul, Nat.zero_add] at cl cl0
          by_cases hd : d < (k : Int)
          · have E : Hid (Tr.lk l = (0, d, 241)) := by rw [Hid, A0.out, Tr.go, if_neg (by simp), if_pos hd]
            clear A0 OW hL
            go_wp2_with fail
            go_ret3
            rw [E.out]
            exact ⟨rfl, BB.out⟩
          · have E : Hid (Tr.lk l = (a2, 0, 0)) := by rw [Hid, A0.out, Tr.go, if_neg (by simp), if_neg hd]; rfl
            clear A0 OW hL
            go_wp2_with fail
            go_ret3
            rw [E.out]
            exact ⟨rfl, BB.out⟩
        · have E : Hid (Tr.lk l = (0, (k : Int), 243)) := by rw [Hid, A0.out, Tr.go, if_pos (by omega)]
          have h1i : ¬ (L : Int) = 1 := by omega
          clear A0 OW hL
          go_wp2_with fail
          go_ret3
          rw [E.out]
          exact ⟨rfl, BB.out⟩
end Go.Proofs.Ythachcidfnjbaaa
