/-
  directive: plain.
-/
import Derived.Test.YtaadooippelcfaaDoorDList
import Derived.Test.YtaadooippelcfaaDoorDBld
import Derived.Test.YtaadooippelcfaaDoorDSgN
namespace Go.Proofs.YtaadooippelcfaaDoor
open Go Go.RowKit Go.Deep Go.Shelf

theorem pgetD_mem {ps : List Dr.Pc} {i : Nat} (hi : i < ps.length) : ps.getD i Dr.Pc.no ∈ ps := by
  rw [List.getD_eq_getElem?_getD, List.getElem?_eq_getElem hi]; exact List.getElem_mem hi

set_option maxRecDepth 100000 in
set_option maxHeartbeats 2000000 in
theorem plain_any (a : Option Addr) (cap : Nat) (ps : List Dr.Pc) (w : World) (h : LP w a ps) (hn : ps.length ≤ 2199023255552) (hw : ∀ p ∈ ps, PcW p) (hs : (Dr.pl ps).length ≤ 16777216) :
    Calls Tryd.prog 39 #[.slice a ps.length cap] w fun e w' => e = .returned (.string (strOfNums (Dr.pl ps))) ∧ Below w.heap.size w w' := by
  have H := hid h
  have HN := hid hn
  have BL : Hid (∀ x ∈ Dr.pl ps, 0 ≤ x ∧ x < 256) := Dr.pl_mem (fun p hp => (hw p hp).1)
  have WS : Hid (∀ i, i < ps.length → Str (strOfNums (ps.getD i Dr.Pc.no).t) (ps.getD i Dr.Pc.no).t) := fun i hi => Str.of_nums (hw _ (pgetD_mem hi)).1
  have LE : Hid (∀ i, (Dr.pl (ps.take i)).length ≤ 16777216) := fun i => Nat.le_trans Dr.pl_le hs
  have B0 : Hid (DIsB w.heap.size w.heap.size [] (w.alloc (.cells #[.pointer none, .slice none 0 0] 64))) := Lib.fresh_isBuilder _ _ w
  have A1 := hid (alloc_b w (.cells #[.pointer none, .slice none 0 0] 64))
  have S1 : Hid (w.heap.size ≤ (w.alloc (.cells #[.pointer none, .slice none 0 0] 64)).heap.size) := A1.out.size
  clear h hn hw hs
  go_enter Tryd.func39, Tryd.ntmps39
  go_wp2_with fail
  generalize w.alloc (.cells #[.pointer none, .slice none 0 0] 64) = wB at *
  go_loopg [8] ps.length (fun m iv wr => ∃ k : Nat, k + m = ps.length ∧ iv = .int .i64 (k : Int) ∧ Hid (Below w.heap.size w wr ∧ DIsB w.heap.size w.heap.size (Dr.pl (ps.take k)) wr ∧ w.heap.size ≤ wr.heap.size))
  case atStart => exact ⟨0, by omega, rfl, A1.out, B0.out, S1.out⟩
  case round =>
    obtain ⟨k, hk, rfl, J⟩ := hrel
    by_cases kl : k < ps.length
    · have kli : (k : Int) < (ps.length : Int) := by omega
      have kb : (k : Int) ≤ 2199023255552 := by have := HN.out; omega
      obtain ⟨b, off, rfl, hc⟩ := (H.out.below J.out.1).at k kl
      obtain ⟨c0, c1, c2, c3, c4, c5, c6⟩ := hc
      have STR := hid (WS.out k kl)
      have TK := Dr.pl_take kl
      have ZL := LE.out (k + 1)
      have A2 := alloc_b wr (.cells #[.string (strOfNums (ps.getD k Dr.Pc.no).t), .int .u8 (ps.getD k Dr.Pc.no).v, .int .i64 (ps.getD k Dr.Pc.no).fl, .int .i64 (ps.getD k Dr.Pc.no).wk, .int .i64 (ps.getD k Dr.Pc.no).wd, .int .i64 (ps.getD k Dr.Pc.no).pk, .int .i64 (ps.getD k Dr.Pc.no).pr] 25)
      have J1 := hid (J.out.1.trans (A2.mono J.out.2.2))
      have Q1 := hid (J.out.2.1.below A2)
      have Z1 : Hid (w.heap.size ≤ (wr.alloc (.cells #[.string (strOfNums (ps.getD k Dr.Pc.no).t), .int .u8 (ps.getD k Dr.Pc.no).v, .int .i64 (ps.getD k Dr.Pc.no).fl, .int .i64 (ps.getD k Dr.Pc.no).wk, .int .i64 (ps.getD k Dr.Pc.no).wd, .int .i64 (ps.getD k Dr.Pc.no).pk, .int .i64 (ps.getD k Dr.Pc.no).pr] 25)).heap.size) := Nat.le_trans J.out.2.2 A2.size
      clear J A2
      generalize ps.getD k Dr.Pc.no = p at *
      by_cases hv : p.v = 37
      · rw [if_pos hv] at TK
        have v1 : (p.v == 37) = true := by simpa using hv
        have BW := hid (dbbyte_any _ _ _ 37 _ Q1.out (by rw [TK, List.length_append] at ZL; simpa using ZL) Z1.out)
        have TK := hid TK
        clear hv ZL
        go_upto_region 6 with fail
        generalize wr.alloc (.cells #[.string (strOfNums p.t), .int .u8 p.v, .int .i64 p.fl, .int .i64 p.wk, .int .i64 p.wd, .int .i64 p.pk, .int .i64 p.pr] 25) = wA at *
        clear c0 c1 c2 c3 c4 c5 c6
        go_wp2_with fail
        refine BW.out.mono ?_
        rintro e w3 ⟨rfl, q3, b3⟩
        have F : Hid (Below w.heap.size w w3 ∧ DIsB w.heap.size w.heap.size (Dr.pl (ps.take (k + 1))) w3 ∧ w.heap.size ≤ w3.heap.size) := by
          rw [TK.out]
          exact ⟨J1.out.trans b3, q3, Nat.le_trans Z1.out b3.size⟩
        clear q3 b3 BW
        go_wp2_with fail
        go_roundg (ps.length - (k + 1))
        case measure => omega
        case rel => exact ⟨k + 1, by omega, by go_num, F.out⟩
      · rw [if_neg hv] at TK
        have v1 : (p.v == 37) = false := by simpa using hv
        have BW := hid (dbwrite_any _ _ _ _ _ _ Q1.out STR.out (by rw [TK, List.length_append] at ZL; exact ZL) Z1.out)
        have TK := hid TK
        clear hv ZL
        go_upto_region 7 with fail
        obtain ⟨⟨b0, -, -, -, -, -, -⟩, -⟩ := (P7.new wr (.string (strOfNums p.t)) (.int .u8 p.v) (.int .i64 p.fl) (.int .i64 p.wk) (.int .i64 p.wd) (.int .i64 p.pk) (.int .i64 p.pr)).cells
        generalize wr.alloc (.cells #[.string (strOfNums p.t), .int .u8 p.v, .int .i64 p.fl, .int .i64 p.wk, .int .i64 p.wd, .int .i64 p.pk, .int .i64 p.pr] 25) = wA at *
        clear c0 c1 c2 c3 c4 c5 c6
        go_wp2_with fail
        refine BW.out.mono ?_
        rintro e w3 ⟨rfl, q3, b3⟩
        have F : Hid (Below w.heap.size w w3 ∧ DIsB w.heap.size w.heap.size (Dr.pl (ps.take (k + 1))) w3 ∧ w.heap.size ≤ w3.heap.size) := by
          rw [TK.out]
          exact ⟨J1.out.trans b3, q3, Nat.le_trans Z1.out b3.size⟩
        clear q3 b3 BW
        go_wp2_with fail
        go_roundg (ps.length - (k + 1))
        case measure => omega
        case rel => exact ⟨k + 1, by omega, by go_num, F.out⟩
    · have kli : ¬ (k : Int) < (ps.length : Int) := by omega
      have q := J.out.2
      rw [List.take_of_length_le (by omega)] at q
      have ST := hid (dbstr_any _ _ _ wr q.1 BL.out q.2)
      have J1 := hid J.out.1
      clear q J
      go_wp2_with fail
      refine ST.out.mono ?_
      rintro e w1 ⟨rfl, hB⟩
      have F2 := hid (J1.out.trans hB)
      clear hB ST
      go_wp2_with fail
      go_ret
      exact ⟨rfl, F2.out⟩
end Go.Proofs.YtaadooippelcfaaDoor
