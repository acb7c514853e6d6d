/-
  abacusref13's printed of any piece in form, Print.
-/
import Derived.Test.YtaadooippelcfaaDoorDRefE
import Derived.Test.YtaadooippelcfaaDoorDRefK
namespace Go.Proofs.YtaadooippelcfaaDoor
open Go Go.RowKit Go.Deep Go.Shelf

theorem rprinted_any (p : Dr.Pc) (w : World) (hp : PcW p) (ho : Dr.ok p) :
    Calls Tryd.prog 36 #[.agg #[.string (strOfNums p.t), .int .u8 p.v, .int .i64 p.fl, .int .i64 p.wk, .int .i64 p.wd, .int .i64 p.pk, .int .i64 p.pr]] w fun e w' => e = .returned (.string (strOfNums (Dr.wr p))) ∧ Below w.heap.size w w' := by
  obtain ⟨t, v, fl, wk, wd, pk, pr⟩ := p
  rcases ho with h | h | h
  · obtain rfl : v = 0 := h.2.1
    have E : Hid (Dr.wr ⟨t, 0, fl, wk, wd, pk, pr⟩ = t) := if_pos rfl
    have B0 := hid (alloc_b w (.cells #[.string (strOfNums t), .int .u8 0, .int .i64 fl, .int .i64 wk, .int .i64 wd, .int .i64 pk, .int .i64 pr] 25))
    rw [E.out]
    clear h hp E
    simp only
    go_enter Tryd.func36, Tryd.ntmps36
    go_wp2_with fail
    go_ret
    exact ⟨rfl, B0.out⟩
  · obtain rfl : v = 37 := h.2.1
    have E : Hid (Dr.wr ⟨t, 37, fl, wk, wd, pk, pr⟩ = [37, 37]) := by rw [Hid, Dr.wr, if_neg (show ¬ (37 : Int) = 0 by decide), if_pos rfl]
    have B0 := hid (alloc_b w (.cells #[.string (strOfNums t), .int .u8 37, .int .i64 fl, .int .i64 wk, .int .i64 wd, .int .i64 pk, .int .i64 pr] 25))
    rw [E.out]
    clear h hp E
    simp only
    go_enter Tryd.func36, Tryd.ntmps36
    go_wp2_with fail
    go_ret
    exact ⟨rfl, B0.out⟩
  · have a := Dr.num_bd h.2.2.2.2.1 (by omega)
    have b := Dr.num_bd h.2.2.2.2.2 (by omega)
    simp only at a b
    obtain ⟨wd, rfl⟩ : ∃ n : Nat, wd = (n : Int) := ⟨wd.toNat, by omega⟩
    obtain ⟨pr, rfl⟩ : ∃ n : Nat, pr = (n : Int) := ⟨pr.toNat, by omega⟩
    exact rprinted_dir t v fl wk pk wd pr w hp h
theorem rcheck_pc (p : Dr.Pc) (w : World) (hp : PcW p) (hl : p.t.length ≤ 140737488355328) : Calls Tryd.prog 16 #[.agg #[.string (strOfNums p.t), .int .u8 p.v, .int .i64 p.fl, .int .i64 p.wk, .int .i64 p.wd, .int .i64 p.pk, .int .i64 p.pr]] w fun e w' => e = .returned (.int .i64 (okN p)) ∧ Below w.heap.size w w' :=
  rcheck_any (strOfNums p.t) p.t p.v p.fl p.wk p.wd p.pk p.pr w (Str.of_nums hp.1) hl

theorem Re8.on {base : Nat} {w w' : World} {mv : Value} {xs : List Int} (h : Row8 base w mv xs) (hB : Below w.heap.size w w') : Row8 base w' mv xs :=
  World.ownsRow.kept (row := none) h ⟨hB.os, hB.tape, hB.output, hB.size, fun j hj _ => hB.block j hj⟩ (by cases h : Value.ownBlock mv <;> simp)
theorem row8_len {base n : Nat} {w : World} {mv : Value} {xs : List Int} (h : Row8 base w mv xs) (hn : xs.length = n) : ∃ r c, mv = .slice r n c := by
  rcases h.2 with ⟨rfl, h0⟩ | ⟨g, c, cur, rfl, _⟩
  · exact ⟨none, 0, by rw [← hn, h0]⟩
  · exact ⟨_, c, by rw [hn]⟩

set_option maxRecDepth 100000 in
set_option maxHeartbeats 4000000 in
theorem rprint_any (a : Option Addr) (cap : Nat) (ps : List Dr.Pc) (w : World) (h : LP w a ps) (hn : ps.length ≤ 2199023255552) (hw : ∀ p ∈ ps, PcW p) (hs : ∀ p ∈ ps, p.t.length ≤ 4398046511104) :
    Calls Tryd.prog 17 #[.slice a ps.length cap] w fun e w' => PrTold ps w e w' := by
  have H := hid h
  have HN := hid hn
  have HW := hid hw
  have CK : Hid (∀ i W, i < ps.length → Calls Tryd.prog 16 #[.agg #[.string (strOfNums (ps.getD i Dr.Pc.no).t), .int .u8 (ps.getD i Dr.Pc.no).v, .int .i64 (ps.getD i Dr.Pc.no).fl, .int .i64 (ps.getD i Dr.Pc.no).wk, .int .i64 (ps.getD i Dr.Pc.no).wd, .int .i64 (ps.getD i Dr.Pc.no).pk, .int .i64 (ps.getD i Dr.Pc.no).pr]] W fun e w' => e = .returned (.int .i64 (okN (ps.getD i Dr.Pc.no))) ∧ Below W.heap.size W w') := fun i W hi => rcheck_pc _ W (hw _ (getD_mem hi)) (by have := hs _ (getD_mem hi); omega)
  have WT : Hid (∀ i W, i < ps.length → (∀ p ∈ ps, Dr.ok p) → Calls Tryd.prog 36 #[.agg #[.string (strOfNums (ps.getD i Dr.Pc.no).t), .int .u8 (ps.getD i Dr.Pc.no).v, .int .i64 (ps.getD i Dr.Pc.no).fl, .int .i64 (ps.getD i Dr.Pc.no).wk, .int .i64 (ps.getD i Dr.Pc.no).wd, .int .i64 (ps.getD i Dr.Pc.no).pk, .int .i64 (ps.getD i Dr.Pc.no).pr]] W fun e w' => e = .returned (.string (strOfNums (Dr.wr (ps.getD i Dr.Pc.no)))) ∧ Below W.heap.size W w') := fun i W hi ha => rprinted_any _ W (hw _ (getD_mem hi)) (ha _ (getD_mem hi))
  have WS : Hid (∀ i, i < ps.length → (∀ p ∈ ps, Dr.ok p) → Str (strOfNums (Dr.wr (ps.getD i Dr.Pc.no))) (Dr.wr (ps.getD i Dr.Pc.no)) ∧ (Dr.wr (ps.getD i Dr.Pc.no)).length ≤ 4398046511104) := by
    intro i hi ha
    have m := getD_mem hi
    refine ⟨Str.of_nums (wr_by (hw _ m) (ha _ m)), ?_⟩
    have h2 := hs _ m
    have h3 := ha _ m
    clear m
    generalize ps.getD i Dr.Pc.no = p at *
    rcases h3 with q | q | q
    · rw [Dr.wr, if_pos q.2.1]; exact h2
    · rw [Dr.wr, q.2.1]; simp
    · have l1 := wn_len q.2.2.2.2.1
      have l2 := wn_len q.2.2.2.2.2
      have l3 := ms_len p.fl
      have v := Dr.verb_ne q.1
      rw [Dr.wr, if_neg v.1, if_neg v.2.1]
      split <;> simp <;> omega
  clear h hn hw hs
  go_enter Tryd.func17, Tryd.ntmps17
  go_wp2_with fail
  go_loopg [4] ps.length (fun m iv wr => ∃ i : Nat, i + m = ps.length ∧ iv = .int .i64 (i : Int) ∧ Hid (Below w.heap.size w wr ∧ ∀ p ∈ ps.take i, Dr.ok p))
  case atStart => exact ⟨0, by omega, rfl, Below.refl _ _, by simp⟩
  case round =>
    obtain ⟨i, hi, rfl, I⟩ := hrel
    by_cases hl : i < ps.length
    · have hli : (i : Int) < (ps.length : Int) := by omega
      have ib : (i : Int) ≤ 2199023255552 := by have := HN.out; omega
      obtain ⟨b, off, rfl, hc⟩ := (H.out.below I.out.1).at i hl
      obtain ⟨c0, c1, c2, c3, c4, c5, c6⟩ := hc
      have C1 := hid (fun W => CK.out i W hl)
      have K0 := hid (fun (q : Dr.ok (ps.getD i Dr.Pc.no)) => ok_take hl I.out.2 q)
      have K1 := hid (fun (q : ¬ Dr.ok (ps.getD i Dr.Pc.no)) => prE_bad hl q)
      have OK := okN_is (ps.getD i Dr.Pc.no)
      have I1 := hid I.out.1
      clear I
      generalize ps.getD i Dr.Pc.no = p at *
      generalize okN p = E at *
      go_wp2_with fail
      refine (C1.out _).mono ?_
      rintro e w1 ⟨rfl, hB⟩
      have B1 := hid (below_on I1.out hB)
      clear hB I1 C1 c0 c1 c2 c3 c4 c5 c6
      rcases OK with ⟨rfl, q⟩ | ⟨rfl, q⟩
      · have F := hid (K0.out q)
        clear K0 K1 q
        go_wp2_with fail
        go_roundg (ps.length - (i + 1))
        case measure => omega
        case rel => exact ⟨i + 1, by omega, by go_num, B1.out, F.out⟩
      · have F : Hid (PrTold ps w (.returned (.tuple #[.string ⟨#[]⟩, .int .i64 132])) w1) := by
          obtain ⟨e1, e2⟩ := K1.out q
          exact ⟨by rw [e1, e2]; rfl, B1.out⟩
        clear K0 K1 q
        go_wp2_with fail
        go_ret2
        exact F.out
    · have hli : ¬ (i : Int) < (ps.length : Int) := by omega
      have AL : Hid (∀ p ∈ ps, Dr.ok p) := by
        have q := I.out.2
        rw [List.take_of_length_le (by omega)] at q
        exact q
      have R0 : Hid (Row8 wr.heap.size (wr.alloc (.cells #[] 5)) (.slice (some ⟨wr.heap.size, 0, none⟩) 0 0) []) := row8_none wr
      have A1 := hid (below_on I.out.1 (alloc_b wr (.cells #[] 5)))
      have sw := I.out.1.size
      have S1 : Hid (wr.heap.size ≤ (wr.alloc (.cells #[] 5)).heap.size) := (alloc_b wr (.cells #[] 5)).size
      clear I CK hi hl
      obtain ⟨bb, hbb⟩ : ∃ bb, wr.heap.size = bb := ⟨_, rfl⟩
      rw [hbb] at R0 S1 sw
      have HBB := hid hbb
      clear hbb
      go_wp2_with fail
      go_loopg [5, 6] ps.length (fun m mv iv wr => ∃ k : Nat, k + m = ps.length ∧ iv = .int .i64 (k : Int) ∧ Hid (Below w.heap.size w wr ∧ Row8 bb wr mv (Dr.wrs (ps.take k)) ∧ mv ≠ .slice none 0 0 ∧ bb ≤ wr.heap.size ∧ (Dr.wrs (ps.take k)).length ≤ 16777216))
      case atStart => exact ⟨0, by omega, rfl, A1.out, by rw [HBB.out]; exact R0.out, fun q => by simp at q, S1.out, by simp [Dr.wrs]⟩
      case round =>
        obtain ⟨k, hk, rfl, J⟩ := hrel
        clear R0 A1 S1 HBB
        by_cases kl : k < ps.length
        · have kli : (k : Int) < (ps.length : Int) := by omega
          have kb : (k : Int) ≤ 2199023255552 := by have := HN.out; omega
          obtain ⟨b, off, rfl, hc⟩ := (H.out.below J.out.1).at k kl
          obtain ⟨c0, c1, c2, c3, c4, c5, c6⟩ := hc
          have C1 := hid (fun W => WT.out k W kl AL.out)
          obtain ⟨str, sl⟩ := WS.out k kl AL.out
          have TK := hid (Dr.wrs_take kl)
          have LG := hid (fun (q : 16777216 < (Dr.wrs (ps.take (k + 1))).length) => prE_long (i := k + 1) AL.out q)
          have STR := hid str
          have SL := hid sl
          clear str sl
          generalize ps.getD k Dr.Pc.no = p at *
          go_wp2_with fail
          refine (C1.out _).mono ?_
          rintro e w1 ⟨rfl, hB⟩
          have B1 := hid (below_on J.out.1 hB)
          have bw : bb ≤ w1.heap.size := by have := J.out.2.2.2.1; have := hB.size; omega
          obtain ⟨mv', w2, ap, q1, q2, q3, _⟩ := Row8.cats (Re8.on J.out.2.1 hB) J.out.2.2.1 (strOfNums (Dr.wr p)) (Dr.wr p) STR.out (by have := J.out.2.2.2.2; have := SL.out; omega) bw
          have AP := hid ap
          rw [← TK.out] at q1
          have LNN : Hid ((Dr.wrs (ps.take (k + 1))).length ≤ 4398063288320) := by
            have a := J.out.2.2.2.2
            have b := SL.out
            rw [TK.out, List.length_append]
            show _ ≤ _
            omega
          have W2 : Hid (Below w.heap.size w w2 ∧ Row8 bb w2 mv' (Dr.wrs (ps.take (k + 1))) ∧ mv' ≠ .slice none 0 0 ∧ bb ≤ w2.heap.size) := ⟨B1.out.trans (q3.mono sw), q1, q2, by have := q3.size; omega⟩
          obtain ⟨r8, c8, hmv⟩ := row8_len W2.out.2.1 rfl
          subst hmv
          clear ap q1 q2 q3 hB J C1 STR SL TK c0 c1 c2 c3 c4 c5 c6 B1
          obtain ⟨L, hL⟩ : ∃ L, (Dr.wrs (ps.take (k + 1))).length = L := ⟨_, rfl⟩
          rw [hL] at AP
          have HL := hid hL
          by_cases lg : 16777216 < L
          · have lgi : (16777216 : Int) < (L : Int) := by omega
            have F : Hid (PrTold ps w (.returned (.tuple #[.string ⟨#[]⟩, .int .i64 3])) w2) := by
              obtain ⟨e1, e2⟩ := LG.out (by rw [HL.out]; exact lg)
              exact ⟨by rw [e1, e2]; rfl, W2.out.1⟩
            clear LG W2 hL LNN
            go_wp2_with (at_builtin; refine wpList_append_s rfl _ _ rfl AP.out (by rfl) (by rfl) ?_; clear AP)
            go_ret2
            exact F.out
          · have lgi : ¬ (16777216 : Int) < (L : Int) := by omega
            have F : Hid (Below w.heap.size w w2 ∧ Row8 bb w2 (.slice r8 L c8) (Dr.wrs (ps.take (k + 1))) ∧ (.slice r8 L c8 : Value) ≠ .slice none 0 0 ∧ bb ≤ w2.heap.size ∧ (Dr.wrs (ps.take (k + 1))).length ≤ 16777216) := by
              have q := W2.out
              rw [HL.out] at q
              exact ⟨q.1, q.2.1, q.2.2.1, q.2.2.2, by rw [HL.out]; omega⟩
            clear LG W2 hL LNN
            go_wp2_with (at_builtin; refine wpList_append_s rfl _ _ rfl AP.out (by rfl) (by rfl) ?_; clear AP)
            go_roundg (ps.length - (k + 1))
            case measure => omega
            case rel => exact ⟨k + 1, by omega, by go_num, F.out⟩
        · have kli : ¬ (k : Int) < (ps.length : Int) := by omega
          have q := J.out.2
          rw [List.take_of_length_le (by omega)] at q
          have CV := q.1.cvs q.2.1
          have F : Hid (PrTold ps w (.returned (.tuple #[.string (strOfNums (Dr.wrs ps)), .int .i64 0])) wr) := by
            obtain ⟨e1, e2⟩ := prE_ok AL.out q.2.2.2
            exact ⟨by rw [e1, e2], J.out.1⟩
          clear q J
          generalize strOfNums (Dr.wrs ps) = S at *
          go_wp2_with fail
          go_ret2
          exact F.out
end Go.Proofs.YtaadooippelcfaaDoor
