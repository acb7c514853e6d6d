/-
  directive: Print.
-/
import Derived.Test.YtaadooippelcfaaDoorDList
import Derived.Test.YtaadooippelcfaaDoorDBld
namespace Go.Proofs.YtaadooippelcfaaDoor
open Go Go.RowKit Go.Deep Go.Shelf

namespace Dr
/-- The pieces' text. -/
def wrs (ps : List Pc) : List Int := ps.flatMap wr
theorem wrs_app (a b : List Pc) : wrs (a ++ b) = wrs a ++ wrs b := by simp [wrs]
theorem wrs_take {l : List Pc} {i : Nat} (h : i < l.length) : wrs (l.take (i + 1)) = wrs (l.take i) ++ wr (l.getD i Pc.no) := by
  rw [List.take_add_one, List.getElem?_eq_getElem h, wrs_app, List.getD_eq_getElem?_getD, List.getElem?_eq_getElem h]
  simp [wrs]
theorem wrs_le {l : List Pc} {i : Nat} : (wrs (l.take i)).length ≤ (wrs l).length := by
  have : l = l.take i ++ l.drop i := (List.take_append_drop i l).symm
  have e : wrs l = wrs (l.take i) ++ wrs (l.drop i) := by rw [← wrs_app, List.take_append_drop]
  rw [e, List.length_append]; omega
/-- What Print tells. -/
def prE (ps : List Pc) : Int := if ∀ p ∈ ps, ok p then (if (wrs ps).length ≤ 16777216 then 0 else 3) else 132
def prT (ps : List Pc) : List Int := if prE ps = 0 then wrs ps else []
end Dr

theorem okN_is (p : Dr.Pc) : (okN p = 0 ∧ Dr.ok p) ∨ (okN p = 132 ∧ ¬ Dr.ok p) := by
  unfold okN
  by_cases h : Dr.ok p
  · exact .inl ⟨if_pos h, h⟩
  · exact .inr ⟨if_neg h, h⟩

theorem wr_by {p : Dr.Pc} (hp : PcW p) (ho : Dr.ok p) : ∀ x ∈ Dr.wr p, 0 ≤ x ∧ x < 256 := by
  intro x hx
  unfold Dr.wr at hx
  split at hx
  · exact hp.1 x hx
  · rename_i h0
    split at hx
    · simp at hx; omega
    · rename_i h37
      have hr : Dr.isR p := by
        rcases ho with h | h | h
        · exact absurd h.2.1 h0
        · exact absurd h.2.1 h37
        · exact h
      have wn : ∀ k n, x ∈ Dr.wn k n → 0 ≤ x ∧ x < 256 := by
        intro k n h
        unfold Dr.wn at h
        split at h
        · have := Dr.isD_iff.1 (Dr.dl_D _ x h); omega
        · split at h
          · simp at h; omega
          · simp at h
      simp only [List.mem_cons, List.mem_append, List.not_mem_nil, or_false] at hx
      rcases hx with hx | ((hx | hx) | hx) | hx
      · omega
      · have : x = 45 ∨ x = 43 ∨ x = 32 ∨ x = 35 ∨ x = 48 := by
          unfold Dr.ms at hx
          simp only [List.mem_append] at hx
          rcases hx with (((hx | hx) | hx) | hx) | hx <;> (split at hx <;> simp at hx) <;> omega
        omega
      · exact wn _ _ hx
      · split at hx
        · rcases List.mem_cons.1 hx with h | h
          · omega
          · exact wn _ _ h
        · simp at hx
      · rw [hx]; exact hp.2

theorem prE_bad {ps : List Dr.Pc} {i : Nat} (hi : i < ps.length) (h : ¬ Dr.ok (ps.getD i Dr.Pc.no)) : Dr.prE ps = 132 ∧ Dr.prT ps = [] := by
  have e : Dr.prE ps = 132 := if_neg (fun q => h (q _ (by rw [List.getD_eq_getElem?_getD, List.getElem?_eq_getElem hi]; exact List.getElem_mem hi)))
  exact ⟨e, if_neg (by rw [e]; decide)⟩
theorem prE_long {ps : List Dr.Pc} {i : Nat} (ha : ∀ p ∈ ps, Dr.ok p) (h : 16777216 < (Dr.wrs (ps.take i)).length) : Dr.prE ps = 3 ∧ Dr.prT ps = [] := by
  have := Dr.wrs_le (l := ps) (i := i)
  have e : Dr.prE ps = 3 := by rw [Dr.prE, if_pos ha, if_neg (by omega)]
  exact ⟨e, if_neg (by rw [e]; decide)⟩
theorem prE_ok {ps : List Dr.Pc} (ha : ∀ p ∈ ps, Dr.ok p) (h : (Dr.wrs ps).length ≤ 16777216) : Dr.prE ps = 0 ∧ Dr.prT ps = Dr.wrs ps := by
  have e : Dr.prE ps = 0 := by rw [Dr.prE, if_pos ha, if_pos h]
  exact ⟨e, if_pos e⟩
theorem ok_take {ps : List Dr.Pc} {i : Nat} (hi : i < ps.length) (h : ∀ p ∈ ps.take i, Dr.ok p) (k : Dr.ok (ps.getD i Dr.Pc.no)) : ∀ p ∈ ps.take (i + 1), Dr.ok p := by
  intro p hp
  rw [List.take_add_one, List.getElem?_eq_getElem hi, List.mem_append] at hp
  rcases hp with hp | hp
  · exact h p hp
  · rw [List.getD_eq_getElem?_getD, List.getElem?_eq_getElem hi] at k
    simp at hp
    rw [hp]; exact k
theorem getD_mem {ps : List Dr.Pc} {i : Nat} (hi : i < ps.length) : ps.getD i Dr.Pc.no ∈ ps := by
  rw [List.getD_eq_getElem?_getD, List.getElem?_eq_getElem hi]; exact List.getElem_mem hi

/-- What Print tells. -/
def PrTold (ps : List Dr.Pc) (w : World) (e : Ending) (w' : World) : Prop := e = .returned (.tuple #[.string (strOfNums (Dr.prT ps)), .int .i64 (Dr.prE ps)]) ∧ Below w.heap.size w w'

set_option maxRecDepth 100000 in
set_option maxHeartbeats 2000000 in
theorem print_any (a : Option Addr) (cap : Nat) (ps : List Dr.Pc) (w : World) (h : LP w a ps) (hn : ps.length ≤ 2199023255552) (hw : ∀ p ∈ ps, PcW p) (hs : ∀ p ∈ ps, p.t.length ≤ 140737488355328) (hT : T10 w.heap.size w) :
    Calls Tryd.prog 13 #[.slice a ps.length cap] w fun e w' => PrTold ps w e w' := by
  have H := hid h
  have HN := hid hn
  have HW := hid hw
  have CK : Hid (∀ i W, i < ps.length → Calls Tryd.prog 15 #[.agg #[.string (strOfNums (ps.getD i Dr.Pc.no).t), .int .u8 (ps.getD i Dr.Pc.no).v, .int .i64 (ps.getD i Dr.Pc.no).fl, .int .i64 (ps.getD i Dr.Pc.no).wk, .int .i64 (ps.getD i Dr.Pc.no).wd, .int .i64 (ps.getD i Dr.Pc.no).pk, .int .i64 (ps.getD i Dr.Pc.no).pr]] W fun e w' => e = .returned (.int .i64 (okN (ps.getD i Dr.Pc.no))) ∧ Below W.heap.size W w') := fun i W hi => check_pc _ W (hw _ (getD_mem hi))
  have WT : Hid (∀ i W, i < ps.length → (∀ p ∈ ps, Dr.ok p) → Below w.heap.size w W → Calls Tryd.prog 28 #[.agg #[.string (strOfNums (ps.getD i Dr.Pc.no).t), .int .u8 (ps.getD i Dr.Pc.no).v, .int .i64 (ps.getD i Dr.Pc.no).fl, .int .i64 (ps.getD i Dr.Pc.no).wk, .int .i64 (ps.getD i Dr.Pc.no).wd, .int .i64 (ps.getD i Dr.Pc.no).pk, .int .i64 (ps.getD i Dr.Pc.no).pr]] W fun e w' => e = .returned (.string (strOfNums (Dr.wr (ps.getD i Dr.Pc.no)))) ∧ Below W.heap.size W w') := fun i W hi ha hb => written_pc _ W (hw _ (getD_mem hi)) (ha _ (getD_mem hi)) ((hT.on hb).up hb.size)
  have WS : Hid (∀ i, i < ps.length → (∀ p ∈ ps, Dr.ok p) → Str (strOfNums (Dr.wr (ps.getD i Dr.Pc.no))) (Dr.wr (ps.getD i Dr.Pc.no)) ∧ (Dr.wr (ps.getD i Dr.Pc.no)).length ≤ 140737488355328) := by
    intro i hi ha
    have m := getD_mem hi
    refine ⟨Str.of_nums (wr_by (hw _ m) (ha _ m)), ?_⟩
    have h2 := hs _ m
    have h3 := ha _ m
    clear m
    generalize ps.getD i Dr.Pc.no = p at *
    rcases h3 with q | q | q
    · rw [Dr.wr, if_pos q.2.1]; exact h2
    · rw [Dr.wr, q.2.1]; simp
    · have l1 := wn_len q.2.2.2.2.1
      have l2 := wn_len q.2.2.2.2.2
      have l3 := ms_len p.fl
      have v := Dr.verb_ne q.1
      rw [Dr.wr, if_neg v.1, if_neg v.2.1]
      split <;> simp <;> omega
  clear h hn hw hs hT
  go_enter Tryd.func13, Tryd.ntmps13
  go_wp2_with fail
  go_loopg [13] ps.length (fun m iv wr => ∃ i : Nat, i + m = ps.length ∧ iv = .int .i64 (i : Int) ∧ Hid (Below w.heap.size w wr ∧ ∀ p ∈ ps.take i, Dr.ok p))
  case atStart => exact ⟨0, by omega, rfl, Below.refl _ _, by simp⟩
  case round =>
    obtain ⟨i, hi, rfl, I⟩ := hrel
    by_cases hl : i < ps.length
    · have hli : (i : Int) < (ps.length : Int) := by omega
      have ib : (i : Int) ≤ 2199023255552 := by have := HN.out; omega
      obtain ⟨b, off, rfl, hc⟩ := (H.out.below I.out.1).at i hl
      obtain ⟨c0, c1, c2, c3, c4, c5, c6⟩ := hc
      have C1 := hid (fun W => CK.out i W hl)
      have K0 := hid (fun (q : Dr.ok (ps.getD i Dr.Pc.no)) => ok_take hl I.out.2 q)
      have K1 := hid (fun (q : ¬ Dr.ok (ps.getD i Dr.Pc.no)) => prE_bad hl q)
      have OK := okN_is (ps.getD i Dr.Pc.no)
      have I1 := hid I.out.1
      have A1 := hid (fun v0 v1 v2 v3 v4 v5 v6 => below_on I.out.1 (alloc_b wr (.cells #[v0, v1, v2, v3, v4, v5, v6] 25)))
      clear I
      generalize ps.getD i Dr.Pc.no = p at *
      generalize okN p = E at *
      go_wp2_with fail
      refine (C1.out _).mono ?_
      rintro e w1 ⟨rfl, hB⟩
      have B1 := hid (below_on (A1.out _ _ _ _ _ _ _) hB)
      clear hB A1 C1 c0 c1 c2 c3 c4 c5 c6
      rcases OK with ⟨rfl, q⟩ | ⟨rfl, q⟩
      · have F := hid (K0.out q)
        clear K0 K1 q
        go_wp2_with fail
        go_roundg (ps.length - (i + 1))
        case measure => omega
        case rel => exact ⟨i + 1, by omega, by go_num, B1.out, F.out⟩
      · have F : Hid (PrTold ps w (.returned (.tuple #[.string ⟨#[]⟩, .int .i64 132])) w1) := by
          obtain ⟨e1, e2⟩ := K1.out q
          exact ⟨by rw [e1, e2]; rfl, B1.out⟩
        clear K0 K1 q
        go_wp2_with fail
        go_ret2
        exact F.out
    · have hli : ¬ (i : Int) < (ps.length : Int) := by omega
      have AL : Hid (∀ p ∈ ps, Dr.ok p) := by
        have q := I.out.2
        rw [List.take_of_length_le (by omega)] at q
        exact q
      have I1 := hid I.out.1
      have BL : Hid (∀ x ∈ Dr.wrs ps, 0 ≤ x ∧ x < 256) := by
        intro x hx
        obtain ⟨p, hp, hx⟩ := List.mem_flatMap.1 hx
        exact wr_by (HW.out p hp) (AL.out p hp) x hx
      have B0 : Hid (DIsB wr.heap.size wr.heap.size [] (wr.alloc (.cells #[.pointer none, .slice none 0 0] 64))) := Lib.fresh_isBuilder _ _ wr
      have A1 := hid (below_on I.out.1 (alloc_b wr (.cells #[.pointer none, .slice none 0 0] 64)))
      have sw := I.out.1.size
      have S1 : Hid (wr.heap.size ≤ (wr.alloc (.cells #[.pointer none, .slice none 0 0] 64)).heap.size) := (alloc_b wr (.cells #[.pointer none, .slice none 0 0] 64)).size
      clear I CK hi hl
      go_wp2_with fail
      generalize wr.alloc (.cells #[.pointer none, .slice none 0 0] 64) = wB at *
      generalize wr.heap.size = bb at *
      go_loopg [25] ps.length (fun m iv wr => ∃ k : Nat, k + m = ps.length ∧ iv = .int .i64 (k : Int) ∧ Hid (Below w.heap.size w wr ∧ DIsB bb bb (Dr.wrs (ps.take k)) wr ∧ bb ≤ wr.heap.size ∧ (Dr.wrs (ps.take k)).length ≤ 16777216))
      case atStart => exact ⟨0, by omega, rfl, A1.out, B0.out, S1.out, by simp [Dr.wrs]⟩
      case round =>
        obtain ⟨k, hk, rfl, J⟩ := hrel
        by_cases kl : k < ps.length
        · have kli : (k : Int) < (ps.length : Int) := by omega
          have kb : (k : Int) ≤ 2199023255552 := by have := HN.out; omega
          obtain ⟨b, off, rfl, hc⟩ := (H.out.below J.out.1).at k kl
          obtain ⟨c0, c1, c2, c3, c4, c5, c6⟩ := hc
          have C1 := hid (fun W hb => WT.out k W kl AL.out hb)
          obtain ⟨str, sl⟩ := WS.out k kl AL.out
          have ssz := str.size
          have TK := Dr.wrs_take kl
          have LG := hid (fun (q : 16777216 < (Dr.wrs (ps.take (k + 1))).length) => prE_long (i := k + 1) AL.out q)
          have J2 := hid J.out.2
          have zl := J.out.2.2.2
          have A2 := alloc_b wr (.cells #[.string (strOfNums (ps.getD k Dr.Pc.no).t), .int .u8 (ps.getD k Dr.Pc.no).v, .int .i64 (ps.getD k Dr.Pc.no).fl, .int .i64 (ps.getD k Dr.Pc.no).wk, .int .i64 (ps.getD k Dr.Pc.no).wd, .int .i64 (ps.getD k Dr.Pc.no).pk, .int .i64 (ps.getD k Dr.Pc.no).pr] 25)
          have J3 := hid (below_on J.out.1 A2)
          have J4 := hid A2
          have TK := hid TK
          have STR := hid str
          clear J A2 str
          generalize ps.getD k Dr.Pc.no = p at *
          generalize strOfNums (Dr.wr p) = S at *
          generalize Dr.wr p = u at *
          go_wp2_with fail
          refine (C1.out _ J3.out).mono ?_
          rintro e w1 ⟨rfl, hB⟩
          have B1 := hid (below_on J3.out hB)
          have Q1 := hid (J2.out.1.below (below_on J4.out hB))
          have Z1 : Hid (bb ≤ w1.heap.size) := by have := J2.out.2.1; have := J4.out.size; have := hB.size; show _ ≤ _; omega
          clear hB J3 J4 C1 c0 c1 c2 c3 c4 c5 c6
          have LN := hid (blen_any _ _ _ w1 Q1.out)
          have zi : ((Dr.wrs (ps.take k)).length : Int) ≤ 16777216 := by omega
          have ui : (u.length : Int) ≤ 140737488355328 := by omega
          have BW := hid (fun hl => dbwrite_any _ _ _ _ S w1 Q1.out STR.out hl Z1.out)
          obtain ⟨zn, hzn⟩ : ∃ zn, zn = Dr.wrs (ps.take k) := ⟨_, rfl⟩
          rw [← hzn] at LN BW zi TK zl
          have HZ := hid hzn
          clear hzn J2
          go_wp2_with fail
          refine LN.out.mono ?_
          rintro e w2 ⟨rfl, e2⟩
          rw [e2]
          clear e2 w2 LN
          by_cases hL : zn.length + u.length ≤ 16777216
          · have hLi : ¬ (16777216 : Int) < (zn.length : Int) + (u.length : Int) := by omega
            have BW2 := hid (BW.out hL)
            clear BW LG
            go_wp2_with fail
            refine BW2.out.mono ?_
            rintro e w3 ⟨rfl, q3, b3⟩
            have F : Hid (Below w.heap.size w w3 ∧ DIsB bb bb (Dr.wrs (ps.take (k + 1))) w3 ∧ bb ≤ w3.heap.size ∧ (Dr.wrs (ps.take (k + 1))).length ≤ 16777216) := by
              rw [TK.out]
              exact ⟨B1.out.trans (b3.mono (by omega)), q3, by have := Z1.out; have := b3.size; omega, by rw [List.length_append]; exact hL⟩
            clear q3 b3 BW2
            go_wp2_with fail
            go_roundg (ps.length - (k + 1))
            case measure => omega
            case rel => exact ⟨k + 1, by omega, by go_num, F.out⟩
          · have hLi : (16777216 : Int) < (zn.length : Int) + (u.length : Int) := by omega
            have F : Hid (PrTold ps w (.returned (.tuple #[.string ⟨#[]⟩, .int .i64 3])) w1) := by
              obtain ⟨e1, e2⟩ := LG.out (by rw [TK.out, List.length_append]; omega)
              exact ⟨by rw [e1, e2]; rfl, B1.out⟩
            clear LG BW
            go_wp2_with fail
            go_ret2
            exact F.out
        · have kli : ¬ (k : Int) < (ps.length : Int) := by omega
          have q := J.out.2
          rw [List.take_of_length_le (by omega)] at q
          have ST := hid (dbstr_any _ _ _ wr q.1 BL.out q.2.1)
          have F : Hid (∀ W, Below w.heap.size w W → PrTold ps w (.returned (.tuple #[.string (strOfNums (Dr.wrs ps)), .int .i64 0])) W) := by
            intro W b
            obtain ⟨e1, e2⟩ := prE_ok AL.out q.2.2
            exact ⟨by rw [e1, e2], b⟩
          have J1 := hid J.out.1
          clear q J
          generalize strOfNums (Dr.wrs ps) = S at *
          go_wp2_with fail
          refine ST.out.mono ?_
          rintro e w1 ⟨rfl, hB⟩
          have F2 := hid (F.out w1 (J1.out.trans (hB.mono sw)))
          clear hB F ST
          go_wp2_with fail
          go_ret2
          exact F2.out
end Go.Proofs.YtaadooippelcfaaDoor
