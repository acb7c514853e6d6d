/-
  abacuslaw13: DirectiveBack, where nothing is too great.
-/
import Derived.Test.YtdfnpoojbnoeeaaDoorDBackM
import Derived.Test.YtdfnpoojbnoeeaaDoorDAwake
namespace Go.Proofs.YtdfnpoojbnoeeaaDoor
open Go Go.RowKit Go.Deep Go.Shelf

set_option maxRecDepth 100000 in
set_option maxHeartbeats 2000000 in
theorem back_law (a : Option Addr) (cap : Nat) (ps : List Dr.Pc) (w : World) (h : LP w a ps) (hn : ps.length ≤ 1048576) (hw : ∀ p ∈ ps, PcW p) (hs : ∀ p ∈ ps, p.t.length ≤ 1048576) (hT : T10 w.heap.size w) :
    Calls Tryd.prog 5 #[.slice a ps.length cap] w fun e w' => e = .returned (.bool true) ∧ Below w.heap.size w w' := by
  have AW := hid (awake_any w hT)
  have H := hid h
  have HN := hid hn
  have CK : Hid (∀ i W, i < ps.length → Calls Tryd.prog 17 #[.agg #[.string (strOfNums (ps.getD i Dr.Pc.no).t), .int .u8 (ps.getD i Dr.Pc.no).v, .int .i64 (ps.getD i Dr.Pc.no).fl, .int .i64 (ps.getD i Dr.Pc.no).wk, .int .i64 (ps.getD i Dr.Pc.no).wd, .int .i64 (ps.getD i Dr.Pc.no).pk, .int .i64 (ps.getD i Dr.Pc.no).pr]] W fun e w' => e = .returned (.int .i64 (okN (ps.getD i Dr.Pc.no))) ∧ Below W.heap.size W w') := fun i W hi => check_pc _ W (hw _ (getD_mem hi))
  have PR : Hid (∀ W, Below w.heap.size w W → Calls Tryd.prog 18 #[.slice a ps.length cap] W fun e w' => e = .returned (.tuple #[.string (strOfNums (Dr.prT ps)), .int .i64 (Dr.prE ps)]) ∧ Below W.heap.size W w') := fun W b => print_any a cap ps W (h.below b) (by omega) hw (fun p hp => by have := hs p hp; omega) ((hT.on b).up b.size)
  have LB : Hid (∀ i, 0 ≤ Dr.lng (ps.take i) ∧ Dr.lng (ps.take i) ≤ 1099532599296) := by
    intro i
    have q := Dr.lng_bd (l := ps.take i) (fun p hp => hs p (List.mem_of_mem_take hp))
    rw [List.length_take] at q
    omega
  have TL : Hid (∀ i, i < ps.length → ((strOfNums (ps.getD i Dr.Pc.no).t).size : Int) = ((ps.getD i Dr.Pc.no).t.length : Int) ∧ ((ps.getD i Dr.Pc.no).t.length : Int) ≤ 1048576) := by
    intro i hi
    have m := getD_mem hi
    have q := (Str.of_nums (hw _ m).1).size
    have := hs _ m
    omega
  have FIN : Hid ((∀ p ∈ ps, Dr.ok p) → (∀ j, j + 1 < ps.length → ¬ ((ps.getD (j + 1) Dr.Pc.no).v = 0 ∧ (ps.getD j Dr.Pc.no).v = 0)) → ¬ 16777216 < Dr.lng ps → Dr.prE ps = 0 ∧ Dr.prT ps = Dr.wrs ps ∧ Dr.prs (Dr.wrs ps) = (ps, 0, 0) ∧ Str (strOfNums (Dr.wrs ps)) (Dr.wrs ps) ∧ (Dr.wrs ps).length ≤ 1099511627776) := by
    intro ha hb hc
    have l := wrs_lng ha
    obtain ⟨e1, e2⟩ := prE_ok ha (by omega)
    refine ⟨e1, e2, Dr.prs_wrs ps ha (Dr.noTT_of ps hb), Str.of_nums ?_, by omega⟩
    intro x hx
    obtain ⟨p, hp, hx⟩ := List.mem_flatMap.1 hx
    exact wr_by (hw p hp) (ha p hp) x hx
  clear h hn hw hs hT
  go_enter Tryd.func5, Tryd.ntmps5
  go_wp2_with fail
  refine AW.out.mono ?_
  rintro e w0 ⟨rfl, b0⟩
  have B0 := hid b0
  clear b0 AW
  go_wp2_with fail
  go_loopg [3, 4] ps.length (fun m lv iv wr => ∃ i : Nat, i + m = ps.length ∧ lv = .int .i64 (Dr.lng (ps.take i)) ∧ iv = .int .i64 (i : Int) ∧ Hid (Below w.heap.size w wr ∧ (∀ p ∈ ps.take i, Dr.ok p) ∧ ∀ j, j + 1 < i → ¬ ((ps.getD (j + 1) Dr.Pc.no).v = 0 ∧ (ps.getD j Dr.Pc.no).v = 0)))
  case atStart => exact ⟨0, by omega, rfl, rfl, B0.out, by simp, fun j hj => by omega⟩
  case round =>
    obtain ⟨i, hi, rfl, rfl, I⟩ := hrel
    obtain ⟨lb0, lb1⟩ := LB.out i
    by_cases hl : i < ps.length
    · have hli : (i : Int) < (ps.length : Int) := by omega
      have ib : (i : Int) ≤ 1048576 := by have := HN.out; omega
      obtain ⟨t1, t2⟩ := TL.out i hl
      have LP0 := hid (H.out.below I.out.1)
      obtain ⟨g, off, rfl, hc⟩ := LP0.out.at i hl
      obtain ⟨c0, c1, c2, c3, c4, c5, c6⟩ := hc
      have C1 := hid (fun W => CK.out i W hl)
      have OK := okN_is (ps.getD i Dr.Pc.no)
      have K0 := hid (fun (q : Dr.ok (ps.getD i Dr.Pc.no)) => ok_take hl I.out.2.1 q)
      have K1 := hid (fun (q : ¬ Dr.ok (ps.getD i Dr.Pc.no)) => (prE_bad hl q).1)
      have K2 : Hid (¬ ((ps.getD i Dr.Pc.no).v = 0 ∧ 0 < i ∧ (ps.getD (i - 1) Dr.Pc.no).v = 0) → ∀ j, j + 1 < i + 1 → ¬ ((ps.getD (j + 1) Dr.Pc.no).v = 0 ∧ (ps.getD j Dr.Pc.no).v = 0)) := by
        intro q j hj
        by_cases e : j + 1 = i
        · subst e
          intro z
          exact q ⟨z.1, by omega, by simpa using z.2⟩
        · exact I.out.2.2 j (by omega)
      have LT := hid (Dr.lng_take hl)
      have PV : Hid (0 < i → ∃ k : Nat, i = k + 1 ∧ ∀ W, Below wr.heap.size wr W → W.cell? ⟨g, off + k * 7 + 1, none⟩ = some (.int .u8 (ps.getD (i - 1) Dr.Pc.no).v)) := by
        intro q
        refine ⟨i - 1, by omega, fun W hW => ?_⟩
        obtain ⟨g2, o2, e2, h2⟩ := LP0.out.at (i - 1) (by omega)
        simp only [Option.some.injEq, Addr.mk.injEq] at e2
        obtain ⟨rfl, rfl, -⟩ := e2
        exact (h2.below hW).2.1
      have A1 := hid (alloc_b wr (.cells #[.string (strOfNums (ps.getD i Dr.Pc.no).t), .int .u8 (ps.getD i Dr.Pc.no).v, .int .i64 (ps.getD i Dr.Pc.no).fl, .int .i64 (ps.getD i Dr.Pc.no).wk, .int .i64 (ps.getD i Dr.Pc.no).wd, .int .i64 (ps.getD i Dr.Pc.no).pk, .int .i64 (ps.getD i Dr.Pc.no).pr] 25))
      have P1 := hid (P7.new wr (.string (strOfNums (ps.getD i Dr.Pc.no).t)) (.int .u8 (ps.getD i Dr.Pc.no).v) (.int .i64 (ps.getD i Dr.Pc.no).fl) (.int .i64 (ps.getD i Dr.Pc.no).wk) (.int .i64 (ps.getD i Dr.Pc.no).wd) (.int .i64 (ps.getD i Dr.Pc.no).pk) (.int .i64 (ps.getD i Dr.Pc.no).pr))
      have I1 := hid I.out.1
      clear I LP0
      generalize ps.getD i Dr.Pc.no = p at *
      generalize (ps.getD (i - 1) Dr.Pc.no).v = v1 at *
      generalize strOfNums p.t = S at *
      generalize okN p = E at *
      generalize Dr.lng (ps.take i) = ln at *
      go_wp2_with fail
      refine (C1.out _).mono ?_
      rintro e w1 ⟨rfl, hB⟩
      have P2 := hid (P1.out.below hB)
      have B1 := hid (below_on A1.out hB)
      have B2 := hid (below_on I1.out B1.out)
      clear hB A1 C1 P1 c0 c1 c2 c3 c4 c5 c6
      obtain ⟨⟨b0, b1, b2, b3, b4, b5, b6⟩, -⟩ := P2.out.cells
      rcases OK with ⟨rfl, q⟩ | ⟨rfl, q⟩
      · have F0 := hid (K0.out q)
        clear K0 K1 q
        by_cases hv : p.v = 0
        · by_cases h0 : 0 < i
          · have h0i : (0 : Int) < (i : Int) := by omega
            obtain ⟨k, hk, pc⟩ := PV.out h0
            have pc := pc w1 B1.out
            have wr1 : IntKind.i64.wrap ((i : Int) - 1) = (k : Int) := by rw [IntKind.wrap_i64]; omega
            have ik : (i : Int) - 1 = (k : Int) := by omega
            have kl : (k : Int) < (ps.length : Int) := by omega
            by_cases hv1 : v1 = 0
            · rw [hv] at b1
              rw [hv1] at pc
              clear K2 LT F0
              go_wp2_with fail
              go_ret
              exact ⟨rfl, B2.out⟩
            · have F1 := hid (K2.out (fun z => hv1 z.2.2))
              rw [hv] at b1
              go_wp2_with fail
              go_roundg (ps.length - (i + 1))
              case measure => omega
              case rel => exact ⟨i + 1, by omega, by rw [LT.out], by go_num, B2.out, F0.out, F1.out⟩
          · have h0i : ¬ (0 : Int) < (i : Int) := by omega
            have F1 := hid (K2.out (fun z => h0 z.2.1))
            rw [hv] at b1
            go_wp2_with fail
            go_roundg (ps.length - (i + 1))
            case measure => omega
            case rel => exact ⟨i + 1, by omega, by rw [LT.out], by go_num, B2.out, F0.out, F1.out⟩
        · have F1 := hid (K2.out (fun z => hv z.1))
          have hv' : (p.v == 0) = false := by simpa using hv
          clear hv
          go_wp2_with fail
          go_roundg (ps.length - (i + 1))
          case measure => omega
          case rel => exact ⟨i + 1, by omega, by rw [LT.out], by go_num, B2.out, F0.out, F1.out⟩
      · have F := K1.out q
        have P3 := hid (PR.out w1 B2.out)
        rw [F] at P3
        clear K0 K1 q F K2 LT
        go_wp2_with fail
        refine P3.out.mono ?_
        rintro e w2 ⟨rfl, hB⟩
        have B3 := hid (below_on B2.out hB)
        clear hB P3
        go_wp2_with fail
        go_ret
        exact ⟨rfl, B3.out⟩
    · have hli : ¬ (i : Int) < (ps.length : Int) := by omega
      have ie : i = ps.length := by omega
      have q := I.out
      rw [ie] at q lb0 lb1
      rw [List.take_length] at q lb0 lb1
      rw [ie, List.take_length]
      have I1 := hid q
      clear I q hl ie hi
      by_cases hL : 16777216 < Dr.lng ps
      · generalize Dr.lng ps = ln at *
        go_wp2_with fail
        go_ret
        exact ⟨rfl, I1.out.1⟩
      · obtain ⟨f1, f2, f3, f4, f5⟩ := FIN.out I1.out.2.1 I1.out.2.2 (by omega)
        have P3 := hid (PR.out wr I1.out.1)
        rw [f1, f2] at P3
        have PA : Hid (∀ W, Calls Tryd.prog 14 #[.string (strOfNums (Dr.wrs ps))] W fun r w' => ∃ mv, r = .returned (.tuple #[mv, .int .i64 0, .int .i64 0]) ∧ RowP W.heap.size w' mv ps ∧ Below W.heap.size W w') := by
          intro W
          have q := parse_any _ _ W f4 f5
          unfold PaTold at q
          rw [f3] at q
          exact q
        clear f1 f2 f3 f4 f5 FIN
        generalize strOfNums (Dr.wrs ps) = S at *
        generalize Dr.lng ps = ln at *
        go_wp2_with fail
        refine P3.out.mono ?_
        rintro e w1 ⟨rfl, hB⟩
        have B1 := hid (below_on I1.out.1 hB)
        clear hB P3
        go_wp2_with fail
        refine (PA.out w1).mono ?_
        rintro e w2 ⟨mv, rfl, rp, hB⟩
        obtain ⟨a2, cap2, rfl, hc2, lp2⟩ := rp.lp
        have B2 := hid (below_on B1.out hB)
        have SM := hid (same_any a2 a cap2 cap ps w2 lp2 (H.out.below B2.out) (by have := HN.out; omega))
        clear hB PA rp lp2 hc2
        go_wp2_with fail
        refine SM.out.mono ?_
        rintro e w3 ⟨rfl, hB⟩
        have B3 := hid (below_on B2.out hB)
        clear hB SM
        go_wp2_with fail
        go_ret
        exact ⟨rfl, B3.out⟩
end Go.Proofs.YtdfnpoojbnoeeaaDoor
