/-
  law20: CharsKeeps, walked.
-/
import Derived.Test.YtgliefdefklfeabDoorChKe
import Derived.Deep.DeepCutAuto
namespace Go.Proofs.YtgliefdefklfeabDoor
open Go Go.RowKit Go.Deep Go.Shelf

namespace Ch
theorem sp_len3 (s sep : ByteArray) : (sp s sep).length ≤ s.size + 1 := by
  unfold sp
  by_cases h0 : s.size = 0
  · rw [if_pos h0]; simp
  · rw [if_neg h0]
    by_cases h1 : sep = ⟨#[32]⟩
    · rw [if_pos h1]; have := wd_le s; omega
    · rw [if_neg h1]
      by_cases h2 : sep.size = 0
      · rw [if_pos h2, sg_len]; omega
      · rw [if_neg h2, cut_len s sep (by omega)]
        have := Lib.countB_le sep (by omega) s.size s (Nat.le_refl _)
        omega
end Ch
theorem Fu.make (W : World) (M : Nat) (xs : List ByteArray) (hM : M ≤ 4294967296) : Fu W.heap.size (W.alloc (.cells (madeCells #[.string ByteArray.empty] M) 9)) W.heap.size M 0 xs := by
  refine ⟨List.replicate M ByteArray.empty, ?_, by simp, fun t ht => absurd ht (Nat.not_lt_zero _)⟩
  have q := World.ownsRow_lit (base := W.heap.size) (e := 9) (size := 1) W (madeCells #[.string ByteArray.empty] M) M (Nat.le_refl _) (by simp only [maxLen]; omega) (by rw [size_madeCells]; omega)
  rw [Lo, TO, List.length_replicate, List.map_replicate]
  rw [toList_madeCells_one] at q
  exact q
/-- Two lists that lie side by side in the book. -/
theorem Bk.pair {B : Nat} {w0 W : World} {b n c : Nat} {T : List Tl} (h : Bk B w0 W (.slice (some ⟨b, 0, none⟩) n c) T []) (hn : n = T.length) (pr : Pr T) (j : Nat) (hj : 2 * j + 1 < n) : ∃ q1 c1 q2 c2 n1, W.cell? ⟨b, 2 * j, none⟩ = some (.slice q1 n1 c1) ∧ W.cell? ⟨b, 2 * j + 1, none⟩ = some (.slice q2 n1 c2) ∧ ∀ wx, Below W.heap.size W wx → Calls Tryd.prog 4 #[.slice q1 n1 c1, .slice q2 n1 c2] wx fun e w' => e = .returned (.bool true) ∧ Below wx.heap.size wx w' := by
  subst hn
  have g1 : T[2 * j]? = some T[2 * j] := List.getElem?_eq_getElem (by omega)
  have g2 : T[2 * j + 1]? = some T[2 * j + 1] := List.getElem?_eq_getElem (by omega)
  have e := pr j _ _ g1 g2
  have l1 := h.li T[2 * j] (by rw [List.append_nil]; exact List.getElem_mem _)
  have l2 := h.li T[2 * j + 1] (by rw [List.append_nil]; exact List.getElem_mem _)
  refine ⟨_, _, _, _, _, by rw [World.ownsRow.cellAt h.row (2 * j) (by omega), List.getElem?_map, g1]; rfl, by rw [World.ownsRow.cellAt h.row (2 * j + 1) (by omega), List.getElem?_map, g2]; exact congrArg some (show Tl.val _ = _ by rw [Tl.val, ← e]), fun wx b => ?_⟩
  obtain ⟨a1, d1, e1, _, t1⟩ := (l1.1.below b).read
  obtain ⟨a2, d2, e2, _, t2⟩ := (l2.1.below b).read
  simp only [Value.slice.injEq] at e1 e2
  rw [e1.1]
  rw [e2.1]
  rw [← e] at t2
  exact lalike_yes _ _ _ _ _ wx t1 t2 (by have := l1.2; omega)
theorem Bk.sl {B : Nat} {w0 W : World} {bv : Value} {T P : List Tl} (h : Bk B w0 W bv T P) (h0 : 0 < T.length) : ∃ b c, bv = .slice (some ⟨b, 0, none⟩) T.length c := by
  rcases h.row.2 with ⟨_, z⟩ | ⟨g, c, _, e, _⟩
  · omega
  · exact ⟨g, c, e⟩

theorem held_append {ty : TypeId} {o : Oper} {a : Act} {Q : Exit → Act → World → Prop} {K' : Act → World → Prop} {ops : Array Oper} (hgd : o.guard = none) (s x : Operand)
    (ho : o.op = .call { callee := .builtin .append, args := #[s, x], argTypes := #[ty, ty] }) {v y2 v' : Value} {w w' : World} (hr : (Builtin.append_ #[ty, ty] o.type #[v, y2]).run Tryd.prog w = .ok v' w') (hs : a.eval s = v) (hx : a.eval x = y2)
    (h : K' (a.put o.dst v') w') : if Region.wanted o (yielded ops a.tmps) = true then Oper.wp Tryd.prog o a w K' Q else K' (a.put o.dst undef) w := by
  simp only [Region.wanted, hgd, if_true]
  unfold Oper.wp execOp
  simp only [ho, resolve, invoke, builtin, Sem.run_bind, Sem.run_pure, Result.andThen_ok, List.map_toArray, List.map_cons, List.map_nil, hs, hx, hr]
  exact h
theorem split_bk {B : Nat} {w0 wx : World} {bv : Value} {T P : List Tl} (s sep : ByteArray) (h : Bk B w0 wx bv T P) (ml : ML wx) (hs : s.size ≤ 262144) :
    Calls Tryd.prog 5 #[.string s, .string sep] wx fun e w' => ∃ q c, e = .returned (.slice q (Ch.sp s sep).length c) ∧ Bk B w0 w' bv T (P ++ [(q, c, Ch.sp s sep)]) ∧ Below wx.heap.size wx w' := by
  refine (csplit_any s sep wx ml (by omega)).mono ?_
  rintro e w' ⟨⟨v, rfl, ht⟩, b⟩
  obtain ⟨q, c, rfl, k⟩ := h.add ht b (by have := Ch.sp_len3 s sep; omega)
  exact ⟨q, c, rfl, k, b⟩

set_option maxRecDepth 100000 in
set_option maxHeartbeats 8000000 in
theorem keeps_law (a : Option Addr) (cap : Nat) (qs : List Ak) (w : World) (hm : ML w) (hq : LK20 w a qs) (hk : ∀ q ∈ qs, AkW w q) (hn : qs.length ≤ 2199023255552) :
    Calls Tryd.prog 3 #[.slice a qs.length cap] w fun e w' => e = .returned (.bool true) ∧ Below w.heap.size w w' := by
  have SP0 : Hid (Calls Tryd.prog 5 #[.string ⟨#[97, 44, 98]⟩, .string ⟨#[44]⟩] w fun e w' => (∃ a c, e = .returned (.slice a 2 c) ∧ TR w' a [⟨#[97]⟩, ⟨#[98]⟩]) ∧ Below w.heap.size w w') := by
    refine (csplit_any ⟨#[97, 44, 98]⟩ ⟨#[44]⟩ w hm (by decide)).mono ?_
    rintro e w' ⟨⟨v, rfl, ht⟩, b⟩
    rw [Ch.closedKeep] at ht
    obtain ⟨a, c, rfl, _, hr⟩ := ht.read
    exact ⟨⟨a, c, rfl, hr⟩, b⟩
  have AL0 : Hid (∀ (wx : World) (a : Option Addr) (ca : Nat), TR wx a [⟨#[97]⟩, ⟨#[98]⟩] → Calls Tryd.prog 4 #[.slice a 2 ca, .slice (some ⟨wx.heap.size, 0, none⟩) 2 2] (wx.alloc (.cells #[.string ⟨#[97]⟩, .string ⟨#[98]⟩] 9)) fun e w' => e = .returned (.bool true) ∧ Below wx.heap.size wx w') := fun wx a ca ht => by
    have A := alloc_b wx (.cells #[.string ⟨#[97]⟩, .string ⟨#[98]⟩] 9)
    refine (lalike_yes a _ ca 2 [⟨#[97]⟩, ⟨#[98]⟩] _ (ht.below A (Nat.le_refl _)) (tr_alloc2 wx [⟨#[97]⟩, ⟨#[98]⟩]) (by decide)).mono ?_
    rintro e w' ⟨rfl, b⟩
    exact ⟨rfl, below_on A b⟩
  have MW : Hid (∀ w', Below w.heap.size w w' → ML w') := fun w' b => hm.b b
  have HQ := hid hq
  have HK := hid hk
  have HN := hid hn
  clear hm hq hk hn
  go_enter Tryd.func3, Tryd.ntmps3
  go_wp2_with fail
  refine SP0.out.mono ?_
  rintro e w1 ⟨⟨a1, c1, rfl, hr⟩, hb⟩
  have A1 := hid (AL0.out w1 a1 c1 hr)
  have B1 := hid hb
  clear hb hr SP0 AL0
  go_wp2_with fail
  refine A1.out.mono ?_
  rintro e w2 ⟨rfl, hb⟩
  have B2 := hid (below_on B1.out hb)
  clear hb A1 B1
  go_wp2_with fail
  go_loopg [3, 4, 5] qs.length (fun m bv yv iv wr => ∃ (k y : Nat) (T : List Tl), Hid (k + m = qs.length) ∧ Hid (y ≤ 262144) ∧ yv = .int .i64 (y : Int) ∧ iv = .int .i64 (k : Int) ∧ Hid (Bk w.heap.size w wr bv T []) ∧ Hid (Pr T) ∧ Hid (T.length = 6 * k) ∧ Hid (k ≤ 8) ∧ Hid (k = 0 → bv = .slice none 0 0))
  case atStart => exact ⟨0, 0, [], by rw [Hid]; omega, by rw [Hid]; omega, rfl, rfl, ⟨World.ownsRow_nil _ _ _ _, fun t ht => by simp at ht, by simp, fun t ht => by simp at ht, B2.out, B2.out.size⟩, fun m a b h => by simp at h, rfl, by rw [Hid]; omega, fun _ => rfl⟩
  case round =>
    obtain ⟨k, y, T, hk, hy, rfl, rfl, BK, PR, TL, K8, K0⟩ := hrel
    clear B2
    by_cases kl : k < qs.length
    · have kli : (k : Int) < (qs.length : Int) := by omega
      by_cases k8 : k < 8
      · have k8i : (k : Int) < 8 := by omega
        obtain ⟨b, off, rfl, hc⟩ := (HQ.out.below BK.out.bw).at k kl
        obtain ⟨d0, d1, d2, d3, d4, d5, d6⟩ := hc.flat
        obtain ⟨w0, w1', -, -, -, -, w6', w7', w8'⟩ := HK.out _ (ak_getD kl)
        clear hc
        generalize (qs.getD k Ak.no).S = sS at *
        generalize (qs.getD k Ak.no).T = sT at *
        generalize (qs.getD k Ak.no).V = sV at *
        generalize (qs.getD k Ak.no).M = sM at *
        generalize (qs.getD k Ak.no).N = sN at *
        generalize (qs.getD k Ak.no).a = la at *
        generalize (qs.getD k Ak.no).cap = lc at *
        generalize (qs.getD k Ak.no).most = mo at *
        generalize (qs.getD k Ak.no).xs = xs at *
        generalize hln : xs.length = ln at *
        have HLN := hid hln
        clear hln
        have A1 := alloc_b wr (.cells #[.string sS, .string sT, .string sV, .int .u64 sM, .int .u64 sN, .slice la ln lc, .int .i64 mo] 29)
        have HB := heap_alloc_new wr (.cells #[.string sS, .string sT, .string sV, .int .u64 sM, .int .u64 sN, .slice la ln lc, .int .i64 mo] 29)
        have CS : Hid (∀ wx, Below (wr.alloc (.cells #[.string sS, .string sT, .string sV, .int .u64 sM, .int .u64 sN, .slice la ln lc, .int .i64 mo] 29)).heap.size (wr.alloc (.cells #[.string sS, .string sT, .string sV, .int .u64 sM, .int .u64 sN, .slice la ln lc, .int .i64 mo] 29)) wx → wx.cell? ⟨wr.heap.size, 0, none⟩ = some (.string sS) ∧ wx.cell? ⟨wr.heap.size, 1, none⟩ = some (.string sT) ∧ wx.cell? ⟨wr.heap.size, 5, none⟩ = some (.slice la ln lc)) := fun wx bx => by
          have hlt : wr.heap.size < (wr.alloc (.cells #[.string sS, .string sT, .string sV, .int .u64 sM, .int .u64 sN, .slice la ln lc, .int .i64 mo] 29)).heap.size := by rw [World.size_alloc]; omega
          refine ⟨?_, ?_, ?_⟩
          · rw [bx.cell hlt, cell_of_row _ _ _ _ _ _ HB]; rfl
          · rw [bx.cell hlt, cell_of_row _ _ _ _ _ _ HB]; rfl
          · rw [bx.cell hlt, cell_of_row _ _ _ _ _ _ HB]; rfl
        have BKA := hid (BK.out.on A1)
        have OFF : Hid (∀ g, Value.ownBlock u3 = some g → g ≠ wr.heap.size) := fun g e => by have := (BK.out.bl e).2; omega
        have TRW := hid w8'
        have SZX := hid (ak_getD_size w7')
        have sSi : (sS.size : Int) ≤ 140737488351232 := by omega
        have hyi : (y : Int) ≤ 262144 := by have := hy.out; omega
        have lni : (ln : Int) ≤ 8796093022208 := by omega
        clear A1 HB BK w0 w7' w8' w6'
        go_upto_region 9 with fail
        clear d0 d1 d2 d3 d4 d5 d6
        generalize wr.alloc (.cells #[.string sS, .string sT, .string sV, .int .u64 sM, .int .u64 sN, .slice la ln lc, .int .i64 mo] 29) = wA at *
        generalize wr.heap.size = bx at *
        have MA : Hid (∀ wx, Below wA.heap.size wA wx → ML wx ∧ TR wx la xs) := fun wx b2 => by
          have q := below_on BKA.out.bw b2
          exact ⟨MW.out _ q, TRW.out.below q (Nat.le_refl _)⟩
        obtain ⟨r0, r1, r5⟩ := CS.out _ (Below.refl _ _)
        by_cases big1 : 262144 < y + sS.size
        · have bigi : (262144 : Int) < (y : Int) + (sS.size : Int) := by omega
          clear CS MA OFF TRW SZX HLN
          rcases Nat.eq_zero_or_pos k with k0 | k0
          · obtain ⟨-, rfl⟩ : True ∧ u3 = .slice none 0 0 := ⟨trivial, K0.out k0⟩
            have FB := hid BKA.out.bw
            clear K0 PR TL HQ HK MW
            go_wp2_with fail
            go_loopg [16] 0 (fun m iv wx => Hid (m = 0) ∧ iv = .int .i64 0 ∧ Hid (Below w.heap.size w wx))
            case atStart => exact ⟨rfl, rfl, FB.out⟩
            case round =>
              obtain ⟨_, rfl, F2⟩ := hrel
              go_wp2_with fail
              refine (apart_nil _).mono ?_
              rintro e wz ⟨rfl, hz⟩
              have F3 := hid (below_on F2.out hz)
              clear hz
              go_wp2_with fail
              go_ret
              exact ⟨rfl, F3.out⟩
          · obtain ⟨gb, gc, e⟩ := BKA.out.sl (by have := TL.out; omega)
            obtain ⟨N, hN⟩ : ∃ N, N = T.length := ⟨_, rfl⟩
            rw [← hN] at e
            subst e
            have nb : (N : Int) ≤ 48 := by have := TL.out; have := K8.out; omega
            have n6 : 0 < N := by have := TL.out; omega
            have HNT := hid hN
            clear hN
            have FB := BKA
            clear K0 HQ HK MW TL K8 k0
            go_wp2_with fail
            go_loopg [16] N (fun m iv wx => ∃ I j : Nat, Hid (I = 2 * j) ∧ Hid (m = N - I) ∧ iv = .int .i64 (I : Int) ∧ Hid (I ≤ 49) ∧ Hid (Bk w.heap.size w wx (.slice (some ⟨gb, 0, none⟩) N gc) T []))
            case atStart => exact ⟨0, 0, rfl, by rw [Hid]; omega, rfl, by rw [Hid]; omega, FB.out⟩
            case round =>
              obtain ⟨I, j, hI, hIm, rfl, hIb, F2⟩ := hrel
              have hIi : (I : Int) ≤ 49 := by have := hIb.out; omega
              by_cases il : I + 1 < N
              · have ili : (I : Int) + 1 < (N : Int) := by omega
                have il2 : (I : Int) < (N : Int) := by omega
                have il3 : (0 : Int) ≤ (I : Int) + 1 := by omega
                have iw : IntKind.i64.wrap ((I : Int) + 1) = (I : Int) + 1 := by rw [IntKind.wrap_i64]; omega
                obtain ⟨q1, c1, q2, c2, n1, p1, p2, p3⟩ := F2.out.pair HNT.out PR.out j (by have := hI.out; omega)
                rw [← hI.out] at p1 p2
                have P3 := hid p3
                clear p3
                go_upto_region 32 with fail
                have SSD : Hid (Below wr.heap.size wr wr.drew) := ⟨rfl, rfl, rfl, Nat.le_refl _, fun _ _ => rfl⟩
                have RW : Hid (∀ wx, Below wr.heap.size wr wx → wx.cell? ⟨gb, I, none⟩ = some (.slice q1 n1 c1) ∧ wx.cell? ⟨gb, I + 1, none⟩ = some (.slice q2 n1 c2)) := fun wx b => ⟨by rw [b.cell (cell_lt p1)]; exact p1, by rw [b.cell (cell_lt p2)]; exact p2⟩
                have JO : Hid (∀ wx, Below wr.heap.size wr wx → Bk w.heap.size w wx (.slice (some ⟨gb, 0, none⟩) N gc) T []) := fun wx b => F2.out.on b
                clear F2 FB
                go_region_held3 (fun w' => w'.cell? ⟨gb, I, none⟩ = some (.slice q1 n1 c1) ∧ w'.cell? ⟨gb, I + 1, none⟩ = some (.slice q2 n1 c2)) (first | (with_reducible exact RW.out _ U1.out) | (with_reducible exact RW.out _ SSD.out)) (first
                  | (go_at_call 4; (with_reducible refine (P3.out _ SSD.out).mono ?_); rintro e v1 ⟨rfl, hB⟩; have U1 := hid (below_on SSD.out hB); clear hB))
                all_goals
                  go_wp2_with fail
                  go_roundg (N - (I + 2))
                  case measure => have := hIm.out; omega
                  case rel => exact ⟨I + 2, j + 1, by rw [Hid]; have := hI.out; omega, rfl, by go_num, by rw [Hid]; have := hIb.out; omega, JO.out _ U1.out⟩
              · have ili : ¬ (I : Int) + 1 < (N : Int) := by omega
                obtain ⟨q, ln, cp, k1, kx, kl⟩ := F2.out.k1 HNT.out
                have AP := hid (apart_yes w.heap.size gb N gc q ln cp w _ k1 kx kl (by omega) n6)
                clear k1 kx kl F2 FB
                go_wp2_with fail
                refine AP.out.mono ?_
                rintro e wz ⟨rfl, hz⟩
                have F3 := hid hz
                clear hz
                go_wp2_with fail
                go_ret
                exact ⟨rfl, F3.out⟩
        · have bigi : ¬ (262144 : Int) < (y : Int) + (sS.size : Int) := by omega
          by_cases big2 : 1048576 < ln
          · have bigj : (1048576 : Int) < (ln : Int) := by omega
            clear CS MA OFF TRW SZX HLN
            rcases Nat.eq_zero_or_pos k with k0 | k0
            · obtain ⟨-, rfl⟩ : True ∧ u3 = .slice none 0 0 := ⟨trivial, K0.out k0⟩
              have FB := hid BKA.out.bw
              clear K0 PR TL HQ HK MW
              go_wp2_with fail
              go_loopg [16] 0 (fun m iv wx => Hid (m = 0) ∧ iv = .int .i64 0 ∧ Hid (Below w.heap.size w wx))
              case atStart => exact ⟨rfl, rfl, FB.out⟩
              case round =>
                obtain ⟨_, rfl, F2⟩ := hrel
                go_wp2_with fail
                refine (apart_nil _).mono ?_
                rintro e wz ⟨rfl, hz⟩
                have F3 := hid (below_on F2.out hz)
                clear hz
                go_wp2_with fail
                go_ret
                exact ⟨rfl, F3.out⟩
            · obtain ⟨gb, gc, e⟩ := BKA.out.sl (by have := TL.out; omega)
              obtain ⟨N, hN⟩ : ∃ N, N = T.length := ⟨_, rfl⟩
              rw [← hN] at e
              subst e
              have nb : (N : Int) ≤ 48 := by have := TL.out; have := K8.out; omega
              have n6 : 0 < N := by have := TL.out; omega
              have HNT := hid hN
              clear hN
              have FB := BKA
              clear K0 HQ HK MW TL K8 k0
              go_wp2_with fail
              go_loopg [16] N (fun m iv wx => ∃ I j : Nat, Hid (I = 2 * j) ∧ Hid (m = N - I) ∧ iv = .int .i64 (I : Int) ∧ Hid (I ≤ 49) ∧ Hid (Bk w.heap.size w wx (.slice (some ⟨gb, 0, none⟩) N gc) T []))
              case atStart => exact ⟨0, 0, rfl, by rw [Hid]; omega, rfl, by rw [Hid]; omega, FB.out⟩
              case round =>
                obtain ⟨I, j, hI, hIm, rfl, hIb, F2⟩ := hrel
                have hIi : (I : Int) ≤ 49 := by have := hIb.out; omega
                by_cases il : I + 1 < N
                · have ili : (I : Int) + 1 < (N : Int) := by omega
                  have il2 : (I : Int) < (N : Int) := by omega
                  have il3 : (0 : Int) ≤ (I : Int) + 1 := by omega
                  have iw : IntKind.i64.wrap ((I : Int) + 1) = (I : Int) + 1 := by rw [IntKind.wrap_i64]; omega
                  obtain ⟨q1, c1, q2, c2, n1, p1, p2, p3⟩ := F2.out.pair HNT.out PR.out j (by have := hI.out; omega)
                  rw [← hI.out] at p1 p2
                  have P3 := hid p3
                  clear p3
                  go_upto_region 32 with fail
                  have SSD : Hid (Below wr.heap.size wr wr.drew) := ⟨rfl, rfl, rfl, Nat.le_refl _, fun _ _ => rfl⟩
                  have RW : Hid (∀ wx, Below wr.heap.size wr wx → wx.cell? ⟨gb, I, none⟩ = some (.slice q1 n1 c1) ∧ wx.cell? ⟨gb, I + 1, none⟩ = some (.slice q2 n1 c2)) := fun wx b => ⟨by rw [b.cell (cell_lt p1)]; exact p1, by rw [b.cell (cell_lt p2)]; exact p2⟩
                  have JO : Hid (∀ wx, Below wr.heap.size wr wx → Bk w.heap.size w wx (.slice (some ⟨gb, 0, none⟩) N gc) T []) := fun wx b => F2.out.on b
                  clear F2 FB
                  go_region_held3 (fun w' => w'.cell? ⟨gb, I, none⟩ = some (.slice q1 n1 c1) ∧ w'.cell? ⟨gb, I + 1, none⟩ = some (.slice q2 n1 c2)) (first | (with_reducible exact RW.out _ U1.out) | (with_reducible exact RW.out _ SSD.out)) (first
                    | (go_at_call 4; (with_reducible refine (P3.out _ SSD.out).mono ?_); rintro e v1 ⟨rfl, hB⟩; have U1 := hid (below_on SSD.out hB); clear hB))
                  all_goals
                    go_wp2_with fail
                    go_roundg (N - (I + 2))
                    case measure => have := hIm.out; omega
                    case rel => exact ⟨I + 2, j + 1, by rw [Hid]; have := hI.out; omega, rfl, by go_num, by rw [Hid]; have := hIb.out; omega, JO.out _ U1.out⟩
                · have ili : ¬ (I : Int) + 1 < (N : Int) := by omega
                  obtain ⟨q, ln, cp, k1, kx, kl⟩ := F2.out.k1 HNT.out
                  have AP := hid (apart_yes w.heap.size gb N gc q ln cp w _ k1 kx kl (by omega) n6)
                  clear k1 kx kl F2 FB
                  go_wp2_with fail
                  refine AP.out.mono ?_
                  rintro e wz ⟨rfl, hz⟩
                  have F3 := hid hz
                  clear hz
                  go_wp2_with fail
                  go_ret
                  exact ⟨rfl, F3.out⟩
          · have bigj : ¬ (1048576 : Int) < (ln : Int) := by omega
            have lnb : (ln : Int) ≤ 1048576 := by omega
            obtain ⟨M, hM⟩ : ∃ M, M = ln + 20 := ⟨_, rfl⟩
            have hMi : (ln : Int) + 20 = (M : Int) := by omega
            have Mb : (M : Int) ≤ 1048596 := by omega
            have lnM : (ln : Int) ≤ (M : Int) := by omega
            have lnM' : ln ≤ M := by omega
            have hmk := run_make_row' (P := Tryd.prog) 24 9 (.string ByteArray.empty) 16 Tryd.underlying24 info_str rfl .i64 .i64 M (by omega) (by omega)
            have FU0 := hid (Fu.make wA M xs (by omega))
            have B0 := hid (alloc_b wA (.cells (madeCells #[.string ByteArray.empty] M) 9))
            have HM := hid hM
            have HYS : Hid (y + sS.size ≤ 262144) := by rw [Hid]; omega
            clear hM big1 big2 K0 HQ HK TRW
            go_wp2_with fail
            clear hmk r0 r1 r5 bigi bigj
            generalize wA.alloc (.cells (madeCells #[.string ByteArray.empty] M) 9) = wM at *
            obtain ⟨gf, hgf⟩ : ∃ gf, wA.heap.size = gf := ⟨_, rfl⟩
            rw [hgf] at CS MA FU0 B0 ⊢
            have HGF := hid hgf
            clear hgf
            go_loopg [8] M (fun m jv wx => ∃ j : Nat, Hid (j + m = M) ∧ jv = .int .i64 (j : Int) ∧ Hid (Fu gf wx gf M j xs) ∧ Hid (Below gf wA wx))
            case atStart => exact ⟨0, by rw [Hid]; omega, rfl, FU0.out, B0.out⟩
            case round =>
              obtain ⟨j, hj, rfl, FU, BF⟩ := hrel
              clear FU0 B0
              by_cases jl : j < M
              · have jli : (j : Int) < (M : Int) := by omega
                obtain ⟨⟨v0, c0⟩, f0, FU1, FU1', B1⟩ := FU.out.put jl (⟨#[115, 112, 97, 114, 101]⟩ : ByteArray)
                have B2 := hid (BF.out.trans B1)
                have FU1 := hid FU1
                have FU1' := hid FU1'
                clear B1 FU
                go_upto_region 16 with fail
                clear c0 f0
                generalize wr.setCell ⟨gf, j, none⟩ (.string ⟨#[115, 112, 97, 114, 101]⟩) = w3 at *
                obtain ⟨-, -, r5⟩ := CS.out _ B2.out
                by_cases jn : j < ln
                · have jni : (j : Int) < (ln : Int) := by omega
                  obtain ⟨lb, lo, rfl, cj⟩ := (MA.out _ B2.out).2.at j (by have := HLN.out; omega)
                  obtain ⟨⟨v1, c1⟩, f1, -, FU2, B3⟩ := FU1.out.put jl (xs.getD j ByteArray.empty)
                  have FU3 := hid (FU2 (by rw [Ch.ex, if_pos (by have := HLN.out; omega)]))
                  have B4 := hid (B2.out.trans B3)
                  clear FU1 FU1' FU2 B3
                  generalize xs.getD j ByteArray.empty = z at *
                  go_wp2_with fail
                  go_roundg (M - (j + 1))
                  case measure => have := hj.out; omega
                  case rel => exact ⟨j + 1, by rw [Hid]; have := hj.out; omega, by go_num, FU3, B4⟩
                · have jni : ¬ (j : Int) < (ln : Int) := by omega
                  have FU3 := hid (FU1'.out (by rw [Ch.ex, if_neg (by have := HLN.out; omega)]; rfl))
                  clear FU1 FU1'
                  go_wp2_with fail
                  go_roundg (M - (j + 1))
                  case measure => have := hj.out; omega
                  case rel => exact ⟨j + 1, by rw [Hid]; have := hj.out; omega, by go_num, FU3, B2⟩
              · have jli : ¬ (j : Int) < (M : Int) := by omega
                have je : j = M := by have := hj.out; omega
                have FE : Hid (Fu gf wr gf M M xs) := by have := FU.out; rw [je] at this; exact this
                clear FU hj je
                generalize wr = wF at *
                have CSW : Hid (∀ wx, Below wF.heap.size wF wx → wx.cell? ⟨bx, 0, none⟩ = some (.string sS) ∧ wx.cell? ⟨bx, 1, none⟩ = some (.string sT) ∧ wx.cell? ⟨bx, 5, none⟩ = some (.slice la ln lc)) := fun wx b => CS.out _ (BF.out.trans (b.mono (by have := BF.out.size; have := HGF.out; omega)))
                have MAW : Hid (∀ wx, Below wF.heap.size wF wx → ML wx ∧ TR wx la xs ∧ Bk w.heap.size w wx u3 T [] ∧ wx.cell? ⟨gf, 0, none⟩ = wx.cell? ⟨gf, 0, none⟩) := fun wx b => by
                  have q := BF.out.trans (b.mono (by have := BF.out.size; have := HGF.out; omega))
                  obtain ⟨m1, m2⟩ := MA.out _ q
                  exact ⟨m1, m2, BKA.out.on (by rw [HGF.out]; exact q), rfl⟩
                have SSD : Hid (Below wF.heap.size wF wF.drew) := ⟨rfl, rfl, rfl, Nat.le_refl _, fun _ _ => rfl⟩
                have sTb : sT.size ≤ 140737488355328 := by omega
                have J1 : Hid (∀ wx, Below wF.heap.size wF wx → Calls Tryd.prog 6 #[.slice (some ⟨gf, 0, none⟩) ln M, .string sT] wx fun e w' => e = .returned (.tuple #[.string (Ch.jS sT.data.toList xs), .int .i64 (Ch.jE sT.data.toList xs)]) ∧ Below wx.heap.size wx w') := fun wx b => by
                  have q := cjoin_any (some ⟨gf, 0, none⟩) M xs sT wx ((FE.out.on b).tr (by have := HLN.out; have := HM.out; omega)) (by have := HLN.out; omega) SZX.out sTb
                  rw [HLN.out] at q
                  exact q
                have J2 : Hid (∀ wx, Below wF.heap.size wF wx → Calls Tryd.prog 7 #[.slice (some ⟨gf, 0, none⟩) ln M] wx fun e w' => e = .returned (.tuple #[.string (Ch.jS [] xs), .int .i64 (Ch.jE [] xs)]) ∧ Below wx.heap.size wx w') := fun wx b => by
                  have q := ccat_any (some ⟨gf, 0, none⟩) M xs wx ((FE.out.on b).tr (by have := HLN.out; have := HM.out; omega)) (by have := HLN.out; omega) SZX.out
                  rw [HLN.out] at q
                  exact q
                have J3 : Hid (∀ wx, Below wF.heap.size wF wx → Calls Tryd.prog 6 #[.slice la ln lc, .string sT] wx fun e w' => e = .returned (.tuple #[.string (Ch.jS sT.data.toList xs), .int .i64 (Ch.jE sT.data.toList xs)]) ∧ Below wx.heap.size wx w') := fun wx b => by
                  have q := cjoin_any la lc xs sT wx (MAW.out _ b).2.1 (by have := HLN.out; omega) SZX.out sTb
                  rw [HLN.out] at q
                  exact q
                have J4 : Hid (sT.size = 0 → Ch.jS [] xs = Ch.jS sT.data.toList xs) := fun h => by rw [Ch.size_zero h]
                generalize Ch.jS [] xs = t1 at *
                generalize Ch.jE [] xs = f1 at *
                generalize Ch.jS sT.data.toList xs = s1 at *
                generalize Ch.jE sT.data.toList xs = e1 at *
                clear CS MA BKA
                go_upto_region 18 with fail
                go_cut [9, 10] (fun v1 v2 wx => v1 = .string s1 ∧ v2 = .int .i64 e1 ∧ Hid (Below wF.heap.size wF wx))
                case first =>
                  obtain ⟨r0, r1, r5⟩ := CSW.out _ (Below.refl _ _)
                  clear r0
                  go_region_held3 (fun w' => w'.cell? ⟨bx, 1, none⟩ = some (.string sT) ∧ w'.cell? ⟨bx, 5, none⟩ = some (.slice la ln lc)) (first | (with_reducible exact (CSW.out _ U1.out).2) | (with_reducible exact (CSW.out _ SSD.out).2)) (first
                    | (go_at_call 6; (with_reducible refine (J1.out _ SSD.out).mono ?_); rintro e v1 ⟨rfl, hB⟩; have U1 := hid (below_on SSD.out hB); clear hB))
                  all_goals
                    go_wp2_with fail
                    go_meet
                    exact ⟨rfl, rfl, U1⟩
                case rest =>
                obtain ⟨h9, h10, BC⟩ := hcut
                subst h9
                subst h10
                obtain ⟨-, -, r5⟩ := CSW.out _ BC.out
                go_wp2_with fail
                refine (J2.out _ BC.out).mono ?_
                rintro e v2 ⟨rfl, hB⟩
                have B2 := hid (below_on BC.out hB)
                clear hB r5 BC
                obtain ⟨-, r1, r5⟩ := CSW.out _ B2.out
                go_wp2_with fail
                refine (J3.out _ B2.out).mono ?_
                rintro e v3 ⟨rfl, hB⟩
                have B3 := hid (below_on B2.out hB)
                clear hB r5 r1 B2 J1 J2 J3
                obtain ⟨-, r1, -⟩ := CSW.out _ B3.out
                go_upto_region 21 with fail
                go_cut [124] (fun v wx => v = .bool false ∧ wx = v3)
                case first =>
                  by_cases f0 : f1 = 0
                  · subst f0
                    by_cases t0 : sT.size = 0
                    · have e := J4.out t0
                      subst e
                      obtain rfl := Ch.size_zero t0
                      go_wp2_with fail
                      go_meet
                      exact ⟨rfl, rfl⟩
                    · obtain ⟨n1, n2, n3⟩ := Ch.toList_ne t0
                      go_wp2_with fail
                      go_meet
                      exact ⟨rfl, rfl⟩
                  · have f2 : (f1 == 0) = false := by simpa using f0
                    go_wp2_with fail
                    go_meet
                    exact ⟨rfl, rfl⟩
                case rest =>
                obtain ⟨h124, hwc⟩ := hcut
                have hwc := hwc.symm
                subst hwc
                subst h124
                clear r1 J4
                go_wp2_with fail
                go_loopg [15] M (fun m jv wx => ∃ j : Nat, Hid (j + m = M) ∧ jv = .int .i64 (j : Int) ∧ Hid (Below wF.heap.size wF wx))
                case atStart => exact ⟨0, by rw [Hid]; omega, rfl, B3.out⟩
                case round =>
                  obtain ⟨j2, hj2, rfl, B4⟩ := hrel
                  clear B3
                  obtain ⟨r0, r1, r5⟩ := CSW.out _ B4.out
                  by_cases jl2 : j2 < M
                  · have jli2 : (j2 : Int) < (M : Int) := by omega
                    have c0 := (FE.out.on B4.out).cell jl2
                    have J2 := hid (below_drewN B4.out)
                    by_cases jn : j2 < ln
                    · have jni : (j2 : Int) < (ln : Int) := by omega
                      have jnk : ¬ (ln : Int) ≤ (j2 : Int) := by omega
                      obtain ⟨lb, lo, rfl, cj⟩ := (MAW.out _ B4.out).2.1.at j2 (by have := HLN.out; omega)
                      rw [Ch.ex, if_pos (by have := HLN.out; omega)] at c0
                      generalize xs.getD j2 ByteArray.empty = z at *
                      clear r0 r1 FE CSW MAW
                      go_upto_region 26 with fail
                      go_quiet (fail)
                      go_wp2_with fail
                      go_roundg (M - (j2 + 1))
                      case measure => have := hj2.out; omega
                      case rel => exact ⟨j2 + 1, by rw [Hid]; have := hj2.out; omega, by go_num, J2.out _⟩
                    · have jni : ¬ (j2 : Int) < (ln : Int) := by omega
                      have jnk : (ln : Int) ≤ (j2 : Int) := by omega
                      rw [Ch.ex, if_neg (by have := HLN.out; omega)] at c0
                      change _ = some (Value.string ⟨#[115, 112, 97, 114, 101]⟩) at c0
                      clear r0 r1 FE CSW MAW
                      go_upto_region 26 with fail
                      go_quiet (fail)
                      go_wp2_with fail
                      go_roundg (M - (j2 + 1))
                      case measure => have := hj2.out; omega
                      case rel => exact ⟨j2 + 1, by rw [Hid]; have := hj2.out; omega, by go_num, J2.out _⟩
                  · have jli2 : ¬ (j2 : Int) < (M : Int) := by omega
                    have S5 : Hid (sS.size ≤ 262144) := by have := HYS.out; rw [Hid]; omega
                    have SB : Hid (∀ {P : List Tl} (wx : World), Bk w.heap.size w wx u3 T P → ∀ sep : ByteArray, Below wF.heap.size wF wx → Calls Tryd.prog 5 #[.string sS, .string sep] wx fun e w' => ∃ q c, e = .returned (.slice q (Ch.sp sS sep).length c) ∧ Bk w.heap.size w w' u3 T (P ++ [(q, c, Ch.sp sS sep)]) ∧ Below wx.heap.size wx w') := fun wx h sep bw => split_bk sS sep h (MAW.out _ bw).1 S5.out
                    have U0 : Hid (Below wF.heap.size wF wr.drew) := below_on B4.out ⟨rfl, rfl, rfl, Nat.le_refl _, fun _ _ => rfl⟩
                    have K0 := hid (MAW.out _ U0.out).2.2.1
                    have CS2 : Hid (∀ wx, Below wF.heap.size wF wx → wx.cell? ⟨bx, 0, none⟩ = some (.string sS) ∧ wx.cell? ⟨bx, 1, none⟩ = some (.string sT)) := fun wx b => ⟨(CSW.out _ b).1, (CSW.out _ b).2.1⟩
                    have AA : Hid (∀ {y6 : World} {q1 q2 q3 q4 q5 q6 : Option Addr} {c1 c2 c3 c4 c5 c6 : Nat}, Bk w.heap.size w y6 u3 T ([] ++ [(q1, c1, Ch.sp sS sT)] ++ [(q2, c2, Ch.sp sS sT)] ++ [(q3, c3, Ch.sp sS ⟨#[32]⟩)] ++ [(q4, c4, Ch.sp sS ⟨#[32]⟩)] ++ [(q5, c5, Ch.sp sS ⟨#[]⟩)] ++ [(q6, c6, Ch.sp sS ⟨#[]⟩)]) → Below wF.heap.size wF y6 → ∃ g7 c7 w7, (Builtin.append_ #[26, 26] 26 #[u3, .slice (some ⟨y6.heap.size, 0, none⟩) 6 6]).run Tryd.prog (y6.alloc (.cells #[.slice q1 (Ch.sp sS sT).length c1, .slice q2 (Ch.sp sS sT).length c2, .slice q3 (Ch.sp sS ⟨#[32]⟩).length c3, .slice q4 (Ch.sp sS ⟨#[32]⟩).length c4, .slice q5 (Ch.sp sS ⟨#[]⟩).length c5, .slice q6 (Ch.sp sS ⟨#[]⟩).length c6] 24)) = .ok (.slice (some ⟨g7, 0, none⟩) (T.length + 6) c7) w7 ∧ (w7.cell? ⟨bx, 0, none⟩ = some (.string sS) ∧ w7.cell? ⟨bx, 1, none⟩ = some (.string sT)) ∧ ∃ T', Bk w.heap.size w w7 (.slice (some ⟨g7, 0, none⟩) (T.length + 6) c7) T' [] ∧ Pr T' ∧ T'.length = 6 * (k + 1)) := fun {y6 q1 q2 q3 q4 q5 q6 c1 c2 c3 c4 c5 c6} h6 u6 => by
                      obtain ⟨g7, c7, w7, r, kn, gb⟩ := h6.app (by simp) (by have := TL.out; have := K8.out; simp; omega)
                      have u7 := below_on u6 (alloc_b y6 (.cells #[.slice q1 (Ch.sp sS sT).length c1, .slice q2 (Ch.sp sS sT).length c2, .slice q3 (Ch.sp sS ⟨#[32]⟩).length c3, .slice q4 (Ch.sp sS ⟨#[32]⟩).length c4, .slice q5 (Ch.sp sS ⟨#[]⟩).length c5, .slice q6 (Ch.sp sS ⟨#[]⟩).length c6] 24))
                      obtain ⟨z0, z1, -⟩ := CSW.out _ u7
                      refine ⟨g7, c7, w7, r, ⟨gb_cell gb z0 (fun e => OFF.out _ e rfl), gb_cell gb z1 (fun e => OFF.out _ e rfl)⟩, T ++ [(q1, c1, Ch.sp sS sT), (q2, c2, Ch.sp sS sT), (q3, c3, Ch.sp sS ⟨#[32]⟩), (q4, c4, Ch.sp sS ⟨#[32]⟩), (q5, c5, Ch.sp sS ⟨#[]⟩), (q6, c6, Ch.sp sS ⟨#[]⟩)], kn, PR.out.six TL.out rfl rfl rfl, ?_⟩
                      have := TL.out
                      rw [List.length_append, this]
                      simp
                      omega
                    clear r5 CSW MAW FE SZX
                    go_upto_region 28 with fail
                    go_region_held3 (fun w' => w'.cell? ⟨bx, 0, none⟩ = some (.string sS) ∧ w'.cell? ⟨bx, 1, none⟩ = some (.string sT)) (first | (with_reducible exact X7.out.1) | (with_reducible exact (CS2.out _ U7.out)) | (with_reducible exact (CS2.out _ U6.out)) | (with_reducible exact (CS2.out _ U5.out)) | (with_reducible exact (CS2.out _ U4.out)) | (with_reducible exact (CS2.out _ U3.out)) | (with_reducible exact (CS2.out _ U2.out)) | (with_reducible exact (CS2.out _ U1.out)) | (with_reducible exact (CS2.out _ U0.out))) (first
                      | (go_at_call 5; first
                        | ((with_reducible refine (SB.out _ K5.out ⟨#[]⟩ U5.out).mono ?_); rintro e y6 ⟨q6, c6, rfl, hk2, hB⟩; have U6 := hid (below_on U5.out hB); have K6 := hid hk2; clear hB hk2; obtain ⟨g7, c7, w7, AP, X7⟩ := AA.out K6.out U6.out; have AP := hid AP; have X7 := hid X7; have U7 := hid (below_on U6.out (alloc_b y6 (.cells #[.slice q1 (Ch.sp sS sT).length c1, .slice q2 (Ch.sp sS sT).length c2, .slice q3 (Ch.sp sS ⟨#[32]⟩).length c3, .slice q4 (Ch.sp sS ⟨#[32]⟩).length c4, .slice q5 (Ch.sp sS ⟨#[]⟩).length c5, .slice q6 (Ch.sp sS ⟨#[]⟩).length c6] 24))))
                        | ((with_reducible refine (SB.out _ K4.out ⟨#[]⟩ U4.out).mono ?_); rintro e y5 ⟨q5, c5, rfl, hk2, hB⟩; have U5 := hid (below_on U4.out hB); have K5 := hid hk2; clear hB hk2)
                        | ((with_reducible refine (SB.out _ K3.out ⟨#[32]⟩ U3.out).mono ?_); rintro e y4 ⟨q4, c4, rfl, hk2, hB⟩; have U4 := hid (below_on U3.out hB); have K4 := hid hk2; clear hB hk2)
                        | ((with_reducible refine (SB.out _ K2.out ⟨#[32]⟩ U2.out).mono ?_); rintro e y3 ⟨q3, c3, rfl, hk2, hB⟩; have U3 := hid (below_on U2.out hB); have K3 := hid hk2; clear hB hk2)
                        | ((with_reducible refine (SB.out _ K1.out sT U1.out).mono ?_); rintro e y2 ⟨q2, c2, rfl, hk2, hB⟩; have U2 := hid (below_on U1.out hB); have K2 := hid hk2; clear hB hk2)
                        | ((with_reducible refine (SB.out _ K0.out sT U0.out).mono ?_); rintro e y1 ⟨q1, c1, rfl, hk2, hB⟩; have U1 := hid (below_on U0.out hB); have K1 := hid hk2; clear hB hk2))
                      | (refine held_append rfl _ _ rfl AP.out (by rfl) (by rfl) ?_))
                    all_goals
                      obtain ⟨-, T', KN, PN, TN⟩ := X7.out
                      go_wp2_with fail
                      go_roundg (qs.length - (k + 1))
                      case measure => have := hk.out; omega
                      case rel => exact ⟨k + 1, y + sS.size, T', by rw [Hid]; have := hk.out; omega, HYS, by go_num, by go_num, KN, PN, TN, by rw [Hid]; omega, fun z => absurd z (Nat.succ_ne_zero k)⟩
      · have k8i : ¬ (k : Int) < 8 := by omega
        rcases Nat.eq_zero_or_pos k with k0 | k0
        · omega
        · obtain ⟨gb, gc, e⟩ := BK.out.sl (by have := TL.out; omega)
          obtain ⟨N, hN⟩ : ∃ N, N = T.length := ⟨_, rfl⟩
          rw [← hN] at e
          subst e
          have nb : (N : Int) ≤ 48 := by have := TL.out; have := K8.out; omega
          have n6 : 0 < N := by have := TL.out; omega
          have HNT := hid hN
          clear hN
          have FB := BK
          clear K0 HQ HK MW TL K8 k0
          go_wp2_with fail
          go_loopg [16] N (fun m iv wx => ∃ I j : Nat, Hid (I = 2 * j) ∧ Hid (m = N - I) ∧ iv = .int .i64 (I : Int) ∧ Hid (I ≤ 49) ∧ Hid (Bk w.heap.size w wx (.slice (some ⟨gb, 0, none⟩) N gc) T []))
          case atStart => exact ⟨0, 0, rfl, by rw [Hid]; omega, rfl, by rw [Hid]; omega, FB.out⟩
          case round =>
            obtain ⟨I, j, hI, hIm, rfl, hIb, F2⟩ := hrel
            have hIi : (I : Int) ≤ 49 := by have := hIb.out; omega
            by_cases il : I + 1 < N
            · have ili : (I : Int) + 1 < (N : Int) := by omega
              have il2 : (I : Int) < (N : Int) := by omega
              have il3 : (0 : Int) ≤ (I : Int) + 1 := by omega
              have iw : IntKind.i64.wrap ((I : Int) + 1) = (I : Int) + 1 := by rw [IntKind.wrap_i64]; omega
              obtain ⟨q1, c1, q2, c2, n1, p1, p2, p3⟩ := F2.out.pair HNT.out PR.out j (by have := hI.out; omega)
              rw [← hI.out] at p1 p2
              have P3 := hid p3
              clear p3
              go_upto_region 32 with fail
              have SSD : Hid (Below wr.heap.size wr wr.drew) := ⟨rfl, rfl, rfl, Nat.le_refl _, fun _ _ => rfl⟩
              have RW : Hid (∀ wx, Below wr.heap.size wr wx → wx.cell? ⟨gb, I, none⟩ = some (.slice q1 n1 c1) ∧ wx.cell? ⟨gb, I + 1, none⟩ = some (.slice q2 n1 c2)) := fun wx b => ⟨by rw [b.cell (cell_lt p1)]; exact p1, by rw [b.cell (cell_lt p2)]; exact p2⟩
              have JO : Hid (∀ wx, Below wr.heap.size wr wx → Bk w.heap.size w wx (.slice (some ⟨gb, 0, none⟩) N gc) T []) := fun wx b => F2.out.on b
              clear F2 FB
              go_region_held3 (fun w' => w'.cell? ⟨gb, I, none⟩ = some (.slice q1 n1 c1) ∧ w'.cell? ⟨gb, I + 1, none⟩ = some (.slice q2 n1 c2)) (first | (with_reducible exact RW.out _ U1.out) | (with_reducible exact RW.out _ SSD.out)) (first
                | (go_at_call 4; (with_reducible refine (P3.out _ SSD.out).mono ?_); rintro e v1 ⟨rfl, hB⟩; have U1 := hid (below_on SSD.out hB); clear hB))
              all_goals
                go_wp2_with fail
                go_roundg (N - (I + 2))
                case measure => have := hIm.out; omega
                case rel => exact ⟨I + 2, j + 1, by rw [Hid]; have := hI.out; omega, rfl, by go_num, by rw [Hid]; have := hIb.out; omega, JO.out _ U1.out⟩
            · have ili : ¬ (I : Int) + 1 < (N : Int) := by omega
              obtain ⟨q, ln, cp, k1, kx, kl⟩ := F2.out.k1 HNT.out
              have AP := hid (apart_yes w.heap.size gb N gc q ln cp w _ k1 kx kl (by omega) n6)
              clear k1 kx kl F2 FB
              go_wp2_with fail
              refine AP.out.mono ?_
              rintro e wz ⟨rfl, hz⟩
              have F3 := hid hz
              clear hz
              go_wp2_with fail
              go_ret
              exact ⟨rfl, F3.out⟩
    · have kli : ¬ (k : Int) < (qs.length : Int) := by omega
      rcases Nat.eq_zero_or_pos k with k0 | k0
      · obtain ⟨-, rfl⟩ : True ∧ u3 = .slice none 0 0 := ⟨trivial, K0.out k0⟩
        have FB := hid BK.out.bw
        clear K0 PR TL HQ HK MW
        go_wp2_with fail
        go_loopg [16] 0 (fun m iv wx => Hid (m = 0) ∧ iv = .int .i64 0 ∧ Hid (Below w.heap.size w wx))
        case atStart => exact ⟨rfl, rfl, FB.out⟩
        case round =>
          obtain ⟨_, rfl, F2⟩ := hrel
          go_wp2_with fail
          refine (apart_nil _).mono ?_
          rintro e wz ⟨rfl, hz⟩
          have F3 := hid (below_on F2.out hz)
          clear hz
          go_wp2_with fail
          go_ret
          exact ⟨rfl, F3.out⟩
      · obtain ⟨gb, gc, e⟩ := BK.out.sl (by have := TL.out; omega)
        obtain ⟨N, hN⟩ : ∃ N, N = T.length := ⟨_, rfl⟩
        rw [← hN] at e
        subst e
        have nb : (N : Int) ≤ 48 := by have := TL.out; have := K8.out; omega
        have n6 : 0 < N := by have := TL.out; omega
        have HNT := hid hN
        clear hN
        have FB := BK
        clear K0 HQ HK MW TL K8 k0
        go_wp2_with fail
        go_loopg [16] N (fun m iv wx => ∃ I j : Nat, Hid (I = 2 * j) ∧ Hid (m = N - I) ∧ iv = .int .i64 (I : Int) ∧ Hid (I ≤ 49) ∧ Hid (Bk w.heap.size w wx (.slice (some ⟨gb, 0, none⟩) N gc) T []))
        case atStart => exact ⟨0, 0, rfl, by rw [Hid]; omega, rfl, by rw [Hid]; omega, FB.out⟩
        case round =>
          obtain ⟨I, j, hI, hIm, rfl, hIb, F2⟩ := hrel
          have hIi : (I : Int) ≤ 49 := by have := hIb.out; omega
          by_cases il : I + 1 < N
          · have ili : (I : Int) + 1 < (N : Int) := by omega
            have il2 : (I : Int) < (N : Int) := by omega
            have il3 : (0 : Int) ≤ (I : Int) + 1 := by omega
            have iw : IntKind.i64.wrap ((I : Int) + 1) = (I : Int) + 1 := by rw [IntKind.wrap_i64]; omega
            obtain ⟨q1, c1, q2, c2, n1, p1, p2, p3⟩ := F2.out.pair HNT.out PR.out j (by have := hI.out; omega)
            rw [← hI.out] at p1 p2
            have P3 := hid p3
            clear p3
            go_upto_region 32 with fail
            have SSD : Hid (Below wr.heap.size wr wr.drew) := ⟨rfl, rfl, rfl, Nat.le_refl _, fun _ _ => rfl⟩
            have RW : Hid (∀ wx, Below wr.heap.size wr wx → wx.cell? ⟨gb, I, none⟩ = some (.slice q1 n1 c1) ∧ wx.cell? ⟨gb, I + 1, none⟩ = some (.slice q2 n1 c2)) := fun wx b => ⟨by rw [b.cell (cell_lt p1)]; exact p1, by rw [b.cell (cell_lt p2)]; exact p2⟩
            have JO : Hid (∀ wx, Below wr.heap.size wr wx → Bk w.heap.size w wx (.slice (some ⟨gb, 0, none⟩) N gc) T []) := fun wx b => F2.out.on b
            clear F2 FB
            go_region_held3 (fun w' => w'.cell? ⟨gb, I, none⟩ = some (.slice q1 n1 c1) ∧ w'.cell? ⟨gb, I + 1, none⟩ = some (.slice q2 n1 c2)) (first | (with_reducible exact RW.out _ U1.out) | (with_reducible exact RW.out _ SSD.out)) (first
              | (go_at_call 4; (with_reducible refine (P3.out _ SSD.out).mono ?_); rintro e v1 ⟨rfl, hB⟩; have U1 := hid (below_on SSD.out hB); clear hB))
            all_goals
              go_wp2_with fail
              go_roundg (N - (I + 2))
              case measure => have := hIm.out; omega
              case rel => exact ⟨I + 2, j + 1, by rw [Hid]; have := hI.out; omega, rfl, by go_num, by rw [Hid]; have := hIb.out; omega, JO.out _ U1.out⟩
          · have ili : ¬ (I : Int) + 1 < (N : Int) := by omega
            obtain ⟨q, ln, cp, k1, kx, kl⟩ := F2.out.k1 HNT.out
            have AP := hid (apart_yes w.heap.size gb N gc q ln cp w _ k1 kx kl (by omega) n6)
            clear k1 kx kl F2 FB
            go_wp2_with fail
            refine AP.out.mono ?_
            rintro e wz ⟨rfl, hz⟩
            have F3 := hid hz
            clear hz
            go_wp2_with fail
            go_ret
            exact ⟨rfl, F3.out⟩
theorem keeps_len (a : Option Addr) (len cap : Nat) (qs : List Ak) (w : World) (hm : ML w) (e : qs.length = len) (hq : LK20 w a qs) (hk : ∀ q ∈ qs, AkW w q) (hn : len ≤ 2199023255552) :
    Calls Tryd.prog 3 #[.slice a len cap] w fun e w' => e = .returned (.bool true) ∧ Below w.heap.size w w' := by
  subst e
  exact keeps_law a cap qs w hm hq hk hn
end Go.Proofs.YtgliefdefklfeabDoor
