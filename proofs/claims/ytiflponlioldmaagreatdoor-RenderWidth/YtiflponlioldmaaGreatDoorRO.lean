/-
  Texts put together: RnRdD, RnPc, RnAwN, RnAw, RnWdN, RnWd, RnWdL, FTab, PoCase, GBulk, OpenArgs, OpenSpc.
-/
import Derived.Test.YtiflponlioldmaaGreatDoorRnRdA
import Derived.Test.YtiflponlioldmaaGreatDoorRnRdB
import Derived.Test.YtiflponlioldmaaGreatDoorRnRdC
import Derived.Test.YtiflponlioldmaaGreatDoorRD
import Derived.Test.YtiflponlioldmaaGreatDoorRC
import Derived.Test.YtiflponlioldmaaGreatDoorRI
import Derived.BigQuiet
import Derived.Laws.MakeOwn
import Derived.Test.YtiflponlioldmaaGreatDoorRB
import Derived.Lib.LaidTab
import Derived.Test.YtiflponlioldmaaGreatDoorRows
import Derived.Lib.LaidCaseMet
import Derived.Deep.DeepWitnessRowRef
import Derived.Test.YtiflponlioldmaaGreatDoorRJ
import Derived.SizedLaws
import Derived.ProofKit
namespace Go.Proofs.YtiflponlioldmaaGreatDoor
open Go Go.RowKit Go.Deep Go.Shelf

theorem rendered_dir (w1 w : World) (hT : Tab w1) (v : Value) (A : List Rn.Ag) (zs : List Int) (p : Dr.Pc) (h : RWS w1 v A zs w) (hp : PcW p) (hr : Dr.isR p) (hA : ∀ a ∈ A, AgW a) (hl : A.length ≤ 4398046511104) :
    Calls Tryz.prog 41 #[.pointer (some ⟨w1.heap.size, 0, none⟩), .agg #[.string (strOfNums p.t), .int .u8 p.v, .int .i64 p.fl, .int .i64 p.wk, .int .i64 p.wd, .int .i64 p.pk, .int .i64 p.pr]] w fun r w' => DirTold w1 A zs p r w' := by
  by_cases few : (A.length : Int) < Dr.tk p
  · exact rdA w1 w hT v A zs p h hp hr hA hl (.inl few)
  by_cases bad1 : p.wk = 2 ∧ (Rn.aW A).x = true
  · exact rdA w1 w hT v A zs p h hp hr hA hl (.inr (.inl bad1))
  by_cases bad2 : p.pk = 2 ∧ (Rn.aP p A).x = true
  · exact rdA w1 w hT v A zs p h hp hr hA hl (.inr (.inr bad2))
  by_cases f1 : Ie.fnt (stV p.wk A) = false
  · exact rdB w1 w hT v A zs p h hp hr hA hl few bad1 bad2 (.inl f1)
  by_cases f2 : Ie.fnt (stV p.pk (stA p.wk A)) = false
  · exact rdB w1 w hT v A zs p h hp hr hA hl few bad1 bad2 (.inr f2)
  exact rdC w1 w hT v A zs p h hp hr hA hl few bad1 bad2 ⟨f1, f2⟩
end Go.Proofs.YtiflponlioldmaaGreatDoor

namespace Go.Proofs.YtiflponlioldmaaGreatDoor
open Go Go.RowKit Go.Deep Go.Shelf

/-- What a piece does. -/
def StTold (w1 : World) (A : List Rn.Ag) (zs : List Int) (p : Dr.Pc) (r : Ending) (w' : World) : Prop :=
  (Rn.stE p A ≠ 0 ∧ r = .panicked (flt (Rn.stE p A)) ∧ Below w1.heap.size w1 w') ∨
  (Rn.stE p A = 0 ∧ r = .returned (.string (strOfNums (Rn.stT p A))) ∧ ∃ v', RWS w1 v' (A.drop (Dr.tk p).toNat) zs w')
theorem rendered_any (w1 w : World) (hT : Tab w1) (v : Value) (A : List Rn.Ag) (zs : List Int) (p : Dr.Pc) (h : RWS w1 v A zs w) (hp : PcW p) (ho : Dr.ok p) (hA : ∀ a ∈ A, AgW a) (hl : A.length ≤ 4398046511104) :
    Calls Tryz.prog 41 #[.pointer (some ⟨w1.heap.size, 0, none⟩), .agg #[.string (strOfNums p.t), .int .u8 p.v, .int .i64 p.fl, .int .i64 p.wk, .int .i64 p.wd, .int .i64 p.pk, .int .i64 p.pr]] w fun r w' => StTold w1 A zs p r w' := by
  rcases ho with ho | ho | ho
  · have v0 : p.v = 0 := ho.2.1
    refine (rendered_text w1 w v A zs p h v0).mono ?_
    rintro r w' ⟨rfl, k⟩
    refine .inr ⟨by rw [Rn.stE, if_pos (.inl v0)], by rw [Rn.stT, if_pos v0], v, ?_⟩
    rw [show (Dr.tk p).toNat = 0 by rw [Dr.tk, if_pos (.inl v0)]; rfl, List.drop_zero]; exact k
  · have v0 : p.v = 37 := ho.2.1
    refine (rendered_pct w1 w v A zs p h v0).mono ?_
    rintro r w' ⟨rfl, k⟩
    refine .inr ⟨by rw [Rn.stE, if_pos (.inr v0)], by rw [Rn.stT, if_neg (by omega), if_pos v0], v, ?_⟩
    rw [show (Dr.tk p).toNat = 0 by rw [Dr.tk, if_pos (.inr v0)]; rfl, List.drop_zero]; exact k
  · obtain ⟨n0, n37, -⟩ := Dr.verb_ne ho.1
    refine (rendered_dir w1 w hT v A zs p h hp ho hA hl).mono ?_
    rintro r w' k
    unfold DirTold at k
    unfold StTold
    rw [show Rn.stE p A = Rn.dirE p A by rw [Rn.stE, if_neg (by omega)], show Rn.stT p A = Rn.dirT p A by rw [Rn.stT, if_neg n0, if_neg n37]]
    exact k

/-- The state of the loop. -/
def PI (w3 : World) (ps : List Dr.Pc) (R : Int × List Int) (i : Nat) (wr : World) : Prop :=
  ∃ v Ai zs, RWS w3 v Ai zs wr ∧ R = Rn.run Rn.stE Rn.stT (ps.drop i) Ai zs ∧ zs.length ≤ 16777216 ∧ (∀ a ∈ Ai, AgW a) ∧ Ai.length ≤ 4398046511104
/-- What Pieces tells. -/
def PcsTold (ps : List Dr.Pc) (A : List Rn.Ag) (w : World) (r : Ending) (w' : World) : Prop := r = .returned (.tuple #[.string (strOfNums (Rn.pT ps A)), .int .i64 (Rn.pE ps A)]) ∧ Below w.heap.size w w'

theorem drop_get {ps : List Dr.Pc} {i : Nat} (h : i < ps.length) : ps.drop i = ps.getD i Dr.Pc.no :: ps.drop (i + 1) := by
  rw [List.drop_eq_getElem_cons h, List.getD_eq_getElem?_getD, List.getElem?_eq_getElem h]; rfl

set_option maxRecDepth 100000 in
set_option maxHeartbeats 4000000 in
theorem pieces_any (a : Option Addr) (cap : Nat) (ps : List Dr.Pc) (v : Value) (A : List Rn.Ag) (w : World) (hT : Tab w) (h : LP w a ps) (hn : ps.length ≤ 2199023255552) (hw : ∀ p ∈ ps, PcW p) (hv : AgV w v A) (hA : ∀ q ∈ A, AgW q) (hl : A.length ≤ 4398046511104) :
    Calls Tryz.prog 18 #[.slice a ps.length cap, v] w fun r w' => PcsTold ps A w r w' := by
  have hmf : ∀ (fn : Fn) (first cap : Array Value) (w : World), (Instr.makeFunc fn first cap).run Tryz.prog w = .ok (.func fn first cap) w := fun _ _ _ _ => rfl
  have AL := below_on (alloc_b w (.cells #[.string ⟨#[]⟩] 9)) (alloc_b (w.alloc (.cells #[.string ⟨#[]⟩] 9)) (.cells #[.int .i64 0] 41))
  have bt : ((w.alloc (.cells #[.string ⟨#[]⟩] 9)).alloc (.cells #[.int .i64 0] 41)).heap[w.heap.size]? = some (.cells #[.string ⟨#[]⟩] 9 (0, 0)) := heap_alloc2_old _ _ _
  have be : ((w.alloc (.cells #[.string ⟨#[]⟩] 9)).alloc (.cells #[.int .i64 0] 41)).heap[w.heap.size + 1]? = some (.cells #[.int .i64 0] 41 (0, 0)) := by
    have := heap_alloc_new (w.alloc (.cells #[.string ⟨#[]⟩] 9)) (.cells #[.int .i64 0] 41)
    rwa [World.size_alloc] at this
  have CK := hid (checkAll_any a cap ps _ (h.below AL) hn hw)
  have CP := hid (fun (E : Int) (W : World) (s0 e0 : Value) ht he => catch_panic w.heap.size (w.heap.size + 1) w.heap.size E s0 e0 W (Nat.le_refl _) (by omega) (by omega) ht he)
  have CI := hid (fun W => catch_idle ⟨w.heap.size, 0, none⟩ ⟨w.heap.size + 1, 0, none⟩ W)
  obtain ⟨pv, cv, rfl, lcv, hLA⟩ := hv
  go_enter_defers Tryz.func18, Tryz.ntmps18
  go_wp2_with fail
  by_cases ok : ∀ p ∈ ps, Dr.ok p
  · with_reducible refine CK.out.mono ?_
    rintro r w3 ⟨k, b3⟩
    rcases k with ⟨_, rfl⟩ | ⟨no, _⟩
    · have t3 : w3.heap[w.heap.size]? = some (.cells #[.string ⟨#[]⟩] 9 (0, 0)) := by rw [b3.block _ (blk_lt bt)]; exact bt
      have e3 : w3.heap[w.heap.size + 1]? = some (.cells #[.int .i64 0] 41 (0, 0)) := by rw [b3.block _ (blk_lt be)]; exact be
      have B3 := hid (AL.trans (b3.mono AL.size))
      have TB := hid (hT.below B3.out)
      have W0 : Hid (RWS w3 (.slice pv A.length cv) A [] (w3.alloc (.cells #[.slice pv A.length cv, .pointer none, .slice none 0 0] 83))) := ⟨alloc_b _ _, ⟨pv, cv, rfl, lcv, hLA.below B3.out⟩, IsW.new _ _⟩
      obtain ⟨R, hR⟩ : ∃ R, Rn.run Rn.stE Rn.stT ps A [] = R := ⟨_, rfl⟩
      have I0 : Hid (PI w3 ps R 0 (w3.alloc (.cells #[.slice pv A.length cv, .pointer none, .slice none 0 0] 83))) := ⟨_, A, [], W0.out, by rw [List.drop_zero]; exact hR.symm, by simp, hA, hl⟩
      have FIN : Hid (∀ e t w', R = (e, t) → Below w.heap.size w w' → PcsTold ps A w (.returned (.tuple #[.string (strOfNums t), .int .i64 e])) w') := by
        intro e t w' q k
        refine ⟨?_, k⟩
        rw [Rn.pE, if_pos ok, Rn.pT, if_pos ok, hR, q]
      have H := hid h
      have HW := hid hw
      have HO := hid ok
      have HN := hid hn
      have T3 := hid t3
      have E3 := hid e3
      clear CK b3 bt be AL hT h hw hn hA hl lcv hLA ok W0 hR t3 e3
      go_wp2_with fail
      go_loopg [16] ps.length (fun m iv wr => ∃ i : Nat, i + m = ps.length ∧ iv = .int .i64 (i : Int) ∧ Hid (PI w3 ps R i wr))
      case atStart => exact ⟨0, by omega, rfl, I0.out⟩
      case round =>
        obtain ⟨i, hi, rfl, I⟩ := hrel
        clear I0
        obtain ⟨v1, Ai, zs, S, hR, hz, hAi, hli⟩ := I.out
        clear I
        have BW := hid (below_on B3.out S.bel)
        by_cases il : i < ps.length
        · have ili : (i : Int) < (ps.length : Int) := by omega
          have ib : (i : Int) ≤ 2199023255552 := by have := HN.out; omega
          obtain ⟨b, off, rfl, hc⟩ := (H.out.below BW.out).at i il
          obtain ⟨c0, c1, c2, c3, c4, c5, c6⟩ := hc
          have DG := drop_get il
          rw [DG] at hR
          have RD := hid (fun wk (k : RWS w3 v1 Ai zs wk) => rendered_any w3 wk TB.out v1 Ai zs (ps.getD i Dr.Pc.no) k (HW.out _ (rget_mem il)) (HO.out _ (rget_mem il)) hAi hli)
          have S1 := hid (fun v0 v1' v2 v3 v4 v5 v6 => S.on (alloc_b wr (.cells #[v0, v1', v2, v3, v4, v5, v6] 39)))
          have DR : ∀ q ∈ Ai.drop (Dr.tk (ps.getD i Dr.Pc.no)).toNat, AgW q := fun q hq => hAi q (List.mem_of_mem_drop hq)
          have DN : (Ai.drop (Dr.tk (ps.getD i Dr.Pc.no)).toNat).length ≤ 4398046511104 := by rw [List.length_drop]; omega
          generalize ps.getD i Dr.Pc.no = p at *
          rw [Rn.run] at hR
          have RR := hid hR
          have DR := hid DR
          have DN := hid DN
          have HZ := hid hz
          clear S DG hR hAi hli hz
          go_wp2_with fail
          with_reducible refine (RD.out _ (S1.out _ _ _ _ _ _ _)).mono ?_
          rintro r w4 k
          rcases k with ⟨ne, rfl, b4⟩ | ⟨e0, rfl, v4, S4'⟩
          · have Q : Hid (R = (Rn.stE p Ai, [])) := by rw [Hid, RR.out, if_pos ne]
            clear RR RD S1 ne c0 c1 c2 c3 c4 c5 c6
            generalize Rn.stE p Ai = EE at *
            refine leaves_cons (f := 37) (args := #[.pointer (some ⟨w.heap.size, 0, none⟩), .pointer (some ⟨w.heap.size + 1, 0, none⟩)]) (by simp) (by simp [go_sem]) ?_
            refine (CP.out _ _ _ _ (by rw [b4.block _ (blk_lt T3.out)]; exact T3.out) (by rw [b4.block _ (blk_lt E3.out)]; exact E3.out)).mono ?_
            rintro e u' w9 ⟨rfl, rfl, c1, c2, b9⟩
            have F := FIN.out EE [] w9 Q.out ((below_on B3.out b4).trans b9)
            simp [Leaves, settle, results, Tryz.results18, go_sem, c1, c2]
            exact F
          · have N0 : ¬ Rn.stE p Ai ≠ 0 := fun q => q e0
            have RR := hid RR.out
            rw [if_neg N0] at RR
            clear RD S1 e0 N0 c0 c1 c2 c3 c4 c5 c6
            generalize Rn.stT p Ai = T at *
            by_cases lg : 16777216 < zs.length + T.length
            · have Q : Hid (R = (3, [])) := by rw [Hid, RR.out, if_pos lg]
              have WL := hid (write_long w3 w4 v4 _ zs T S4' HZ.out lg)
              clear RR lg S4'
              go_wp2_with fail
              with_reducible refine WL.out.mono ?_
              rintro r w5 ⟨rfl, b5⟩
              refine leaves_cons (f := 37) (args := #[.pointer (some ⟨w.heap.size, 0, none⟩), .pointer (some ⟨w.heap.size + 1, 0, none⟩)]) (by simp) (by simp [go_sem]) ?_
              refine (CP.out _ _ _ _ (by rw [b5.block _ (blk_lt T3.out)]; exact T3.out) (by rw [b5.block _ (blk_lt E3.out)]; exact E3.out)).mono ?_
              rintro e u' w9 ⟨rfl, rfl, c1, c2, b9⟩
              have F := FIN.out 3 [] w9 Q.out ((below_on B3.out b5).trans b9)
              simp [Leaves, settle, results, Tryz.results18, go_sem, c1, c2]
              exact F
            · have RR := hid RR.out
              rw [if_neg lg] at RR
              have WO := hid (write_ok w3 w4 v4 _ zs T S4' (by omega))
              have LG : Hid (zs.length + T.length ≤ 16777216) := by show _ ≤ _; omega
              clear lg S4'
              go_wp2_with fail
              with_reducible refine WO.out.mono ?_
              rintro r w5 ⟨rfl, S5⟩
              have PP : Hid (PI w3 ps R (i + 1) w5) := ⟨v4, _, _, S5, RR.out, by rw [List.length_append]; exact LG.out, DR.out, DN.out⟩
              clear WO RR S5 DR DN LG HZ
              go_wp2_with fail
              go_roundg (ps.length - (i + 1))
              case measure => omega
              case rel => exact ⟨i + 1, by omega, by go_num, PP.out⟩
        · have ili : ¬ (i : Int) < (ps.length : Int) := by omega
          rw [List.drop_of_length_le (by omega), Rn.run] at hR
          have Q := hid hR
          have ST := hid (wstr_any _ _ v1 zs wr S.isw S.bel.size)
          have SB := hid S.bel
          clear S hR hz hAi hli
          go_wp2_with fail
          with_reducible refine ST.out.mono ?_
          rintro r w5 ⟨rfl, b5⟩
          have b6 := SB.out.trans b5
          have t5 : w5.heap[w.heap.size]? = some (.cells #[.string ⟨#[]⟩] 9 (0, 0)) := by rw [b6.block _ (blk_lt T3.out)]; exact T3.out
          have e5 : w5.heap[w.heap.size + 1]? = some (.cells #[.int .i64 0] 41 (0, 0)) := by rw [b6.block _ (blk_lt E3.out)]; exact E3.out
          have c1 : w5.cell? ⟨w.heap.size, 0, none⟩ = some (.string ⟨#[]⟩) := by rw [Lib.cell_of_heap t5]; rfl
          have c2 : w5.cell? ⟨w.heap.size + 1, 0, none⟩ = some (.int .i64 0) := by rw [Lib.cell_of_heap e5]; rfl
          have f1 := Lib.frozen_of_heap t5 0
          have f2 := Lib.frozen_of_heap e5 0
          have BF := hid (((below_on B3.out b6).setCell (p := ⟨w.heap.size, 0, none⟩) (Nat.le_refl _) (.string (strOfNums zs))).setCell (p := ⟨w.heap.size + 1, 0, none⟩) (Nat.le_succ _) (.int .i64 0))
          have D1 : ((w5.setCell ⟨w.heap.size, 0, none⟩ (.string (strOfNums zs))).setCell ⟨w.heap.size + 1, 0, none⟩ (.int .i64 0)).cell? ⟨w.heap.size, 0, none⟩ = some (.string (strOfNums zs)) := by
            simp [World.cell?, World.setCell, Array.getElem?_modify, t5]
          have D2 : ((w5.setCell ⟨w.heap.size, 0, none⟩ (.string (strOfNums zs))).setCell ⟨w.heap.size + 1, 0, none⟩ (.int .i64 0)).cell? ⟨w.heap.size + 1, 0, none⟩ = some (.int .i64 0) := by
            simp [World.cell?, World.setCell, Array.getElem?_modify, e5]
          have D1 := hid D1
          have D2 := hid D2
          clear t5 e5 b5 b6 ST SB
          go_wp2_with fail
          refine leaves_cons (f := 37) (args := #[.pointer (some ⟨w.heap.size, 0, none⟩), .pointer (some ⟨w.heap.size + 1, 0, none⟩)]) (by simp) (by simp [go_sem]) ?_
          refine (CI.out _).mono ?_
          rintro e u' w9 ⟨rfl, rfl, e9⟩
          subst e9
          have F := FIN.out 0 zs _ Q.out BF.out
          have D1 := D1.out
          have D2 := D2.out
          clear c1 c2 f1 f2
          simp only [Leaves, settle]
          simp [results, Tryz.results18, go_sem, D1, D2]
          exact F
    · exact absurd ok no
  · have PE : Rn.pE ps A = 132 ∧ Rn.pT ps A = [] := ⟨if_neg ok, if_neg ok⟩
    with_reducible refine CK.out.mono ?_
    rintro r w3 ⟨k, b3⟩
    rcases k with ⟨y, _⟩ | ⟨_, rfl⟩
    · exact absurd y ok
    · have t3 : w3.heap[w.heap.size]? = some (.cells #[.string ⟨#[]⟩] 9 (0, 0)) := by rw [b3.block _ (blk_lt bt)]; exact bt
      have e3 : w3.heap[w.heap.size + 1]? = some (.cells #[.int .i64 0] 41 (0, 0)) := by rw [b3.block _ (blk_lt be)]; exact be
      refine leaves_cons (f := 37) (args := #[.pointer (some ⟨w.heap.size, 0, none⟩), .pointer (some ⟨w.heap.size + 1, 0, none⟩)]) (by simp) (by simp [go_sem]) ?_
      refine (CP.out 132 w3 _ _ t3 e3).mono ?_
      rintro e u' w4 ⟨rfl, rfl, c1, c2, b4⟩
      have F : PcsTold ps A w (.returned (.tuple #[.string ⟨#[]⟩, .int .i64 132])) w4 := ⟨by rw [PE.1, PE.2]; rfl, (AL.trans (b3.mono AL.size)).trans b4⟩
      simp [Leaves, settle, results, Tryz.results18, go_sem, c1, c2]
      exact F

theorem pc_of_ok {p : Dr.Pc} (h : Dr.ok p) : 0 ≤ p.v ∧ p.v < 256 := by
  rcases h with h | h | h
  · have := h.2.1; omega
  · have := h.2.1; omega
  · have := Dr.verb_ne h.1; omega

set_option maxRecDepth 100000 in
theorem sprintf_any (s : ByteArray) (xs : List Int) (v : Value) (A : List Rn.Ag) (w : World) (hT : Tab w) (hs : Str s xs) (hx : xs.length ≤ 1099511627776) (hv : AgV w v A) (hA : ∀ q ∈ A, AgW q) (hl : A.length ≤ 4398046511104) :
    Calls Tryz.prog 15 #[.string s, v] w fun r w' => r = .returned (.tuple #[.string (strOfNums (Rn.spT xs A)), .int .i64 (Rn.spE xs A)]) ∧ Below w.heap.size w w' := by
  have PA := hid (parse_any s xs w hs hx)
  by_cases e0 : (Dr.prs xs).2.2 = 0
  · obtain ⟨q1, q2⟩ := Rn.sp_good (A := A) e0
    rw [q1, q2]
    have PC : Hid (∀ (wk : World) (a : Option Addr) (cap : Nat), Below w.heap.size w wk → LP wk a (Dr.prs xs).1 → Calls Tryz.prog 18 #[.slice a (Dr.prs xs).1.length cap, v] wk fun r w' => PcsTold (Dr.prs xs).1 A wk r w') := by
      intro wk a cap k lp
      refine pieces_any a cap _ v A wk (hT.below k) lp (by have := Dr.prs_lng _ xs (Nat.le_refl _); omega) ?_ (hv.below k) hA hl
      intro p hp
      have o := Dr.prs_form _ xs (Nat.le_refl _) p hp
      exact ⟨fun x hx => hs.mem (Dr.prs_sub _ xs (Nat.le_refl _) p hp x hx), pc_of_ok o⟩
    unfold PaTold at PA
    rw [e0] at PA
    generalize (Dr.prs xs).1 = ps at *
    generalize (Dr.prs xs).2.1 = at_ at *
    clear hs hx hv hA hl hT q1 q2 e0
    go_enter Tryz.func15, Tryz.ntmps15
    go_wp2_with fail
    with_reducible refine PA.out.mono ?_
    rintro r w1 ⟨mv, rfl, r1, b1⟩
    obtain ⟨a, cap, rfl, _, lp⟩ := r1.lp
    have LPh := hid lp
    have B1 := hid b1
    clear r1 b1 lp PA
    go_wp2_with fail
    with_reducible refine (PC.out _ _ _ B1.out LPh.out).mono ?_
    rintro r w2 ⟨rfl, b2⟩
    have B2 := hid (below_on B1.out b2)
    clear b2 PC B1 LPh
    go_wp2_with fail
    go_ret2
    exact ⟨rfl, B2.out⟩
  · obtain ⟨q1, q2⟩ := Rn.f_bad (E := Rn.stE) (T := Rn.stT) (A := A) e0
    rw [Rn.spE, Rn.spT, q1, q2]
    unfold PaTold at PA
    generalize (Dr.prs xs).2.2 = E at *
    generalize (Dr.prs xs).2.1 = at_ at *
    have n1 : (E == 0) = false := by simpa using e0
    have n2 : (E != 0) = true := by simpa using e0
    clear hs hx hv hA hl hT q1 q2 e0
    go_enter Tryz.func15, Tryz.ntmps15
    go_wp2_with fail
    with_reducible refine PA.out.mono ?_
    rintro r w1 ⟨mv, rfl, r1, b1⟩
    have B1 := hid b1
    clear r1 b1 PA
    go_wp2_with fail
    go_ret2
    exact ⟨rfl, B1.out⟩
end Go.Proofs.YtiflponlioldmaaGreatDoor

namespace Go.Proofs.YtiflponlioldmaaGreatDoor
open Go Go.RowKit
namespace Wh
theorem dig_n {B v : Int} {up : Bool} (n : Nat) (h0 : 0 < v) (h1 : v < 18446744073709551616) (hB : 2 ≤ B) (h36 : B ≤ 36) (hl : v < B ^ n) : dig B up v = lets (lettersOf up) (Dn.strip (Dn.dg B n v)) := by
  have hz : Nm.Limbs [v] := fun x hx => by simp at hx; omega
  have hv : Nm.val [v] = v := by simp [Nm.val]
  have tp : 0 < Nm.tsize [v] := by have := Nm.tsize_zero_iff hz; omega
  have t1 : Nm.tsize [v] ≤ 4096 := Nat.le_trans (Nm.tsize_le [v]) (by simp)
  have q := dig_is (up := up) (B := B) hz (by rw [hv]; exact h0) t1 hB h36 (InIs.ok (up := up) n tp t1 hB h36 (by rw [hv]; exact hl))
  rw [hv] at q
  exact q.1.symm
end Wh
namespace Fx
theorem r995 : X 4636702106982547456 = [57, 57, 53] ∧ P 4636702106982547456 = -1 := by
  obtain ⟨s, D⟩ := dig_c (T := 199 * 5 ^ 1) (xs := [57, 57, 53]) (fun d h => by simp at h; omega) (by decide) (by decide) (by decide) (by decide)
  have m : Ie.dm 4636702106982547456 = 7001690045677568 := by decide
  have e : Ie.de 4636702106982547456 = -46 := by decide
  refine X_of (by rw [m]; omega) ?_
  rw [m, e]
  exact ex_odd (t := 45) (q := 199) (n := 1) (by decide) (by omega) (by decide) (by omega) (by decide) D
theorem rpl995 : pA 4636702106982547456 1 = [57, 57] ∧ pB 4636702106982547456 1 = [53] := by
  have r : rf 4636702106982547456 1 0 = 0 := by decide
  have w : W 4636702106982547456 1 = [57, 57, 53] := by
    unfold W
    rw [r995.1, r995.2]
    decide
  refine ⟨?_, ?_⟩
  · rw [pA, if_pos r, show (1 : Int).toNat = 1 from rfl, w]
    decide
  · rw [pB, if_pos r, show (1 : Int).toNat = 1 from rfl, w]
    decide
end Fx
namespace Po
theorem rren995 : ren 102 0 5 1 4636702106982547456 = [32, 57, 57, 46, 53] := by
  have r : renE 102 0 5 1 = 0 := by decide
  rw [ren, if_pos r, if_pos (by decide), bd, if_pos (by decide), show pr 1 = 1 from rfl, bdF, Fx.rpl995.1, Fx.rpl995.2]
  decide
end Po
namespace Rn
theorem wpt5 : wpt 4617315517961601024 = 5 := by
  show Ie.whp (4617315517961601024 % 9223372036854775808) = 5
  rw [Ie.whp_low _ 50 (by decide)]; decide
theorem wpt42 : wpt 4631107791820423168 = 42 := by
  show Ie.whp (4631107791820423168 % 9223372036854775808) = 42
  rw [Ie.whp_low _ 47 (by decide)]; decide
theorem wpt4 : wpt 4616189618054758400 = 4 := by
  show Ie.whp (4616189618054758400 % 9223372036854775808) = 4
  rw [Ie.whp_low _ 50 (by decide)]; decide
theorem wpt1 : wpt 13830554455654793216 = 1 := by
  show Ie.whp (13830554455654793216 % 9223372036854775808) = 1
  rw [Ie.whp_low _ 52 (by decide)]; decide
theorem cut5 : cutI 4617315517961601024 = 5 := by rw [cutI, wpt5]; decide
theorem cut4 : cutI 4616189618054758400 = 4 := by rw [cutI, wpt4]; decide

/-- The five arguments, the format, its text. -/
def awA : List Ag := [⟨false, 4617315517961601024, []⟩, ⟨false, 4631107791820423168, []⟩, ⟨false, 4616189618054758400, []⟩, ⟨true, 0, [97, 98]⟩, ⟨false, 4636702106982547456, []⟩]
def awF : List Int := [91, 37, 42, 100, 124, 37, 45, 42, 115, 93, 32, 37, 53, 46, 49, 102, 37, 37]
def awT : List Int := [91, 32, 32, 32, 52, 50, 124, 97, 98, 32, 32, 93, 32, 32, 57, 57, 46, 53, 37]
def p1 : Dr.Pc := ⟨[91], 0, 0, 0, 0, 0, 0⟩
def p2 : Dr.Pc := ⟨[], 100, 0, 2, 0, 0, 0⟩
def p3 : Dr.Pc := ⟨[124], 0, 0, 0, 0, 0, 0⟩
def p4 : Dr.Pc := ⟨[], 115, 1, 2, 0, 0, 0⟩
def p5 : Dr.Pc := ⟨[93, 32], 0, 0, 0, 0, 0, 0⟩
def p6 : Dr.Pc := ⟨[], 102, 0, 1, 5, 1, 1⟩
def p7 : Dr.Pc := ⟨[], 37, 0, 0, 0, 0, 0⟩
theorem awP : Dr.prs awF = ([p1, p2, p3, p4, p5, p6, p7], 0, 0) := by kernel_rfl
theorem drop1 : awA.drop 2 = [⟨false, 4616189618054758400, []⟩, ⟨true, 0, [97, 98]⟩, ⟨false, 4636702106982547456, []⟩] := rfl
theorem aw2 : stE p2 awA = 0 ∧ stT p2 awA = [32, 32, 32, 52, 50] := by
  have cw : cW p2 awA = 5 := by
    rw [cW, if_pos (show p2.wk = 2 from rfl)]
    show cutI 4617315517961601024 = 5
    exact cut5
  have cp : cP p2 awA = 0 := rfl
  refine ⟨?_, ?_⟩
  · rw [stE, if_neg (by decide), dirE, if_neg (by decide), if_neg (by decide), if_neg (by decide), cw, cp, if_neg (by decide)]
    decide
  · rw [stT, if_neg (by decide), if_neg (by decide), dirT, cw, cp]
    show oneT 100 0 5 (-1) ⟨false, 4631107791820423168, []⟩ = _
    rw [oneT, if_neg (by decide), if_neg (by decide), if_neg (by decide), if_pos (by decide), if_pos (by decide), wpt42, Wh.sigT, Wh.dig_n 3 (by decide) (by decide) (by decide) (by decide) (by decide)]
    decide
def awB : List Ag := [⟨false, 4616189618054758400, []⟩, ⟨true, 0, [97, 98]⟩, ⟨false, 4636702106982547456, []⟩]
theorem aw4 : stE p4 awB = 0 ∧ stT p4 awB = [97, 98, 32, 32] := by
  have cw : cW p4 awB = 4 := by
    rw [cW, if_pos (show p4.wk = 2 from rfl)]
    show cutI 4616189618054758400 = 4
    exact cut4
  have cp : cP p4 awB = 0 := rfl
  refine ⟨?_, ?_⟩
  · rw [stE, if_neg (by decide), dirE, if_neg (by decide), if_neg (by decide), if_neg (by decide), cw, cp, if_neg (by decide)]
    decide
  · rw [stT, if_neg (by decide), if_neg (by decide), dirT, cw, cp]
    show oneT 115 1 4 (-1) ⟨true, 0, [97, 98]⟩ = _
    rw [oneT, if_neg (by decide), if_pos (by decide)]
    decide
def awC : List Ag := [⟨false, 4636702106982547456, []⟩]
theorem aw6 : stE p6 awC = 0 ∧ stT p6 awC = [32, 57, 57, 46, 53] := by
  have cw : cW p6 awC = 0 := rfl
  have cp : cP p6 awC = 0 := rfl
  refine ⟨?_, ?_⟩
  · rw [stE, if_neg (by decide), dirE, if_neg (by decide), if_neg (by decide), if_neg (by decide), cw, cp, if_neg (by decide)]
    decide
  · rw [stT, if_neg (by decide), if_neg (by decide), dirT, cw, cp]
    show oneT 102 0 5 1 ⟨false, 4636702106982547456, []⟩ = _
    rw [oneT, if_neg (by decide), if_neg (by decide), if_neg (by decide), if_neg (by decide), if_neg (by decide)]
    exact Po.rren995
theorem run_ok {E : Dr.Pc → List Ag → Int} {T : Dr.Pc → List Ag → List Int} {p : Dr.Pc} {l : List Dr.Pc} {A : List Ag} {o t : List Int} (k : Nat) (h1 : E p A = 0) (h2 : T p A = t) (h3 : (Dr.tk p).toNat = k) (h4 : o.length + t.length ≤ 16777216) : run E T (p :: l) A o = run E T l (A.drop k) (o ++ t) := by
  rw [run, h1, h2, h3, if_neg (fun q => q rfl), if_neg (by omega)]
theorem aw_ok : spE awF awA = 0 ∧ spT awF awA = awT := by
  have e0 : (Dr.prs awF).2.2 = 0 := by rw [awP]
  obtain ⟨a, b⟩ := f_good (E := stE) (T := stT) (A := awA) e0
  have r : run stE stT (Dr.prs awF).1 awA [] = (0, awT) := by
    rw [awP]
    show run stE stT [p1, p2, p3, p4, p5, p6, p7] awA [] = _
    rw [run_ok 0 (by rw [stE, if_pos (.inl rfl)]) (show stT p1 awA = [91] by rw [stT, if_pos (show p1.v = 0 from rfl)]; rfl) rfl (by simp), List.drop_zero,
      run_ok 2 aw2.1 aw2.2 rfl (by simp)]
    show run stE stT [p3, p4, p5, p6, p7] awB _ = _
    rw [run_ok 0 (by rw [stE, if_pos (.inl rfl)]) (show stT p3 awB = [124] by rw [stT, if_pos (show p3.v = 0 from rfl)]; rfl) rfl (by simp), List.drop_zero,
      run_ok 2 aw4.1 aw4.2 rfl (by simp)]
    show run stE stT [p5, p6, p7] awC _ = _
    rw [run_ok 0 (by rw [stE, if_pos (.inl rfl)]) (show stT p5 awC = [93, 32] by rw [stT, if_pos (show p5.v = 0 from rfl)]; rfl) rfl (by simp), List.drop_zero,
      run_ok 1 aw6.1 aw6.2 rfl (by simp)]
    show run stE stT [p7] [] _ = _
    rw [run_ok 0 (by rw [stE, if_pos (.inr rfl)]) (show stT p7 [] = [37] by rw [stT, if_neg (by decide), if_pos (show p7.v = 37 from rfl)]) rfl (by simp)]
    rfl
  exact ⟨by rw [spE, a, r], by rw [spT, b, r]⟩
theorem aw_hex : oneE 120 0 0 (-1) ⟨false, 13830554455654793216, []⟩ = 0 ∧ oneT 120 0 0 (-1) ⟨false, 13830554455654793216, []⟩ = [102, 102, 102, 102, 102, 102, 102, 102, 102, 102, 102, 102, 102, 102, 102, 102] := by
  refine ⟨by decide, ?_⟩
  have lw : low 13830554455654793216 = 18446744073709551615 := by rw [low, wpt1]; decide
  rw [oneT, if_neg (by decide), if_neg (by decide), if_neg (by decide), if_neg (by decide), if_pos (by decide), if_pos (by decide), lw, Wh.unsT, Wh.utext, Wh.umark, Wh.ubody]
  rw [show Wh.base 120 = 16 from rfl, Wh.dig_n (B := 16) 17 (by decide) (by decide) (by decide) (by decide) (by decide)]
  decide
end Rn
end Go.Proofs.YtiflponlioldmaaGreatDoor

namespace Go.Proofs.YtiflponlioldmaaGreatDoor
open Go Go.RowKit Go.Deep Go.Shelf

theorem awA_ok : ∀ q ∈ Rn.awA, AgW q := by
  intro q hq
  simp only [Rn.awA, List.mem_cons, List.not_mem_nil, or_false] at hq
  rcases hq with rfl | rfl | rfl | rfl | rfl
  · exact ⟨by simp, by constructor <;> decide, by decide⟩
  · exact ⟨by simp, by constructor <;> decide, by decide⟩
  · exact ⟨by simp, by constructor <;> decide, by decide⟩
  · exact ⟨by decide, by constructor <;> decide, by decide⟩
  · exact ⟨by simp, by constructor <;> decide, by decide⟩
theorem awA_lies (w : World) : AgV (w.alloc (.cells #[.bool false, .int .u64 4617315517961601024, .string ⟨#[]⟩, .bool false, .int .u64 4631107791820423168, .string ⟨#[]⟩, .bool false, .int .u64 4616189618054758400, .string ⟨#[]⟩, .bool true, .int .u64 0, .string ⟨#[97, 98]⟩, .bool false, .int .u64 4636702106982547456, .string ⟨#[]⟩] 28)) (.slice (some ⟨w.heap.size, 0, none⟩) 5 5) Rn.awA := by
  refine ⟨_, 5, rfl, Nat.le_refl _, .inr ⟨_, 0, rfl, fun i a hi => ?_⟩⟩
  have e := heap_alloc_new w (.cells #[.bool false, .int .u64 4617315517961601024, .string ⟨#[]⟩, .bool false, .int .u64 4631107791820423168, .string ⟨#[]⟩, .bool false, .int .u64 4616189618054758400, .string ⟨#[]⟩, .bool true, .int .u64 0, .string ⟨#[97, 98]⟩, .bool false, .int .u64 4636702106982547456, .string ⟨#[]⟩] 28)
  match i, hi with
  | 0, hi => obtain rfl : _ = a := Option.some.inj hi; exact ⟨by rw [Lib.cell_of_heap e]; rfl, by rw [Lib.cell_of_heap e]; rfl, by rw [Lib.cell_of_heap e]; rfl⟩
  | 1, hi => obtain rfl : _ = a := Option.some.inj hi; exact ⟨by rw [Lib.cell_of_heap e]; rfl, by rw [Lib.cell_of_heap e]; rfl, by rw [Lib.cell_of_heap e]; rfl⟩
  | 2, hi => obtain rfl : _ = a := Option.some.inj hi; exact ⟨by rw [Lib.cell_of_heap e]; rfl, by rw [Lib.cell_of_heap e]; rfl, by rw [Lib.cell_of_heap e]; rfl⟩
  | 3, hi => obtain rfl : _ = a := Option.some.inj hi; exact ⟨by rw [Lib.cell_of_heap e]; rfl, by rw [Lib.cell_of_heap e]; rfl, by rw [Lib.cell_of_heap e]; rfl⟩
  | 4, hi => obtain rfl : _ = a := Option.some.inj hi; exact ⟨by rw [Lib.cell_of_heap e]; rfl, by rw [Lib.cell_of_heap e]; rfl, by rw [Lib.cell_of_heap e]; rfl⟩
  | n + 5, hi => exact absurd hi (by simp [Rn.awA])

set_option maxRecDepth 100000 in
set_option maxHeartbeats 1000000 in
theorem rawake_any (w : World) (hT : Tab w) : Calls Tryz.prog 9 #[] w fun e w' => e = .returned (.bool true) ∧ Below w.heap.size w w' := by
  have AL := alloc_b w (.cells #[.bool false, .int .u64 4617315517961601024, .string ⟨#[]⟩, .bool false, .int .u64 4631107791820423168, .string ⟨#[]⟩, .bool false, .int .u64 4616189618054758400, .string ⟨#[]⟩, .bool true, .int .u64 0, .string ⟨#[97, 98]⟩, .bool false, .int .u64 4636702106982547456, .string ⟨#[]⟩] 28)
  have SP : Hid (Calls Tryz.prog 15 #[.string ⟨#[91, 37, 42, 100, 124, 37, 45, 42, 115, 93, 32, 37, 53, 46, 49, 102, 37, 37]⟩, .slice (some ⟨w.heap.size, 0, none⟩) 5 5] (w.alloc (.cells #[.bool false, .int .u64 4617315517961601024, .string ⟨#[]⟩, .bool false, .int .u64 4631107791820423168, .string ⟨#[]⟩, .bool false, .int .u64 4616189618054758400, .string ⟨#[]⟩, .bool true, .int .u64 0, .string ⟨#[97, 98]⟩, .bool false, .int .u64 4636702106982547456, .string ⟨#[]⟩] 28)) fun r w' => r = .returned (.tuple #[.string ⟨#[91, 32, 32, 32, 52, 50, 124, 97, 98, 32, 32, 93, 32, 32, 57, 57, 46, 53, 37]⟩, .int .i64 0]) ∧ Below w.heap.size w w') := by
    refine (sprintf_any ⟨#[91, 37, 42, 100, 124, 37, 45, 42, 115, 93, 32, 37, 53, 46, 49, 102, 37, 37]⟩ Rn.awF _ Rn.awA _ (hT.below AL) rfl (by decide) (awA_lies w) awA_ok (by decide)).mono ?_
    rintro r w' ⟨rfl, k⟩
    rw [Rn.aw_ok.1, Rn.aw_ok.2]
    exact ⟨rfl, below_on AL k⟩
  have ON : Hid (∀ wk, Tab wk → Calls Tryz.prog 22 #[.agg #[.int .u8 120, .int .i64 0, .int .i64 0, .int .i64 (-1)], .agg #[.bool false, .int .u64 13830554455654793216, .string ⟨#[]⟩]] wk fun r w' => r = .returned (.tuple #[.string ⟨#[102, 102, 102, 102, 102, 102, 102, 102, 102, 102, 102, 102, 102, 102, 102, 102]⟩, .int .i64 0]) ∧ Below wk.heap.size wk w') := by
    intro wk k
    refine (one_any 120 0 0 (-1) ⟨false, 13830554455654793216, []⟩ wk k (by decide) (by decide) ⟨by simp, by constructor <;> decide, by decide⟩).mono ?_
    rintro r w' ⟨rfl, b⟩
    rw [Rn.aw_hex.1, Rn.aw_hex.2]
    exact ⟨rfl, b⟩
  have TB : Hid (∀ wk, Below w.heap.size w wk → Tab wk) := fun wk k => hT.below k
  clear AL hT
  go_enter Tryz.func9, Tryz.ntmps9
  go_wp2_with fail
  with_reducible refine SP.out.mono ?_
  rintro r w1 ⟨rfl, b1⟩
  have B1 := hid b1
  clear b1 SP
  go_wp2_with fail
  with_reducible refine (ON.out _ (TB.out _ B1.out)).mono ?_
  rintro r w2 ⟨rfl, b2⟩
  have B2 := hid (below_on B1.out b2)
  clear b2 ON TB B1
  go_wp2_with fail
  go_ret
  exact ⟨rfl, B2.out⟩
end Go.Proofs.YtiflponlioldmaaGreatDoor

namespace Go.Proofs.YtiflponlioldmaaGreatDoor
open Go
namespace Rn

theorem chk_wd {F W P : Int} (h0 : 0 ≤ W) (h1 : W ≤ 4096) : Wh.chk F W P = Wh.chk F 0 P := by
  unfold Wh.chk
  have a : (F < 0 ∨ 31 < F ∨ W < 0 ∨ P < -1) ↔ (F < 0 ∨ 31 < F ∨ (0:Int) < 0 ∨ P < -1) := by omega
  have b : (4096 < W ∨ 4096 < P) ↔ ((4096:Int) < 0 ∨ 4096 < P) := by omega
  simp only [a, b]
theorem tex_wd {V F W P : Int} {t : List Int} (h0 : 0 ≤ W) (h1 : W ≤ 4096) : Wh.texE V F W P t = Wh.texE V F 0 P t := by
  unfold Wh.texE Wh.padE
  rw [chk_wd h0 h1]
theorem oneE_wd {V F W P : Int} {a : Ag} (h0 : 0 ≤ W) (h1 : W ≤ 4096) : oneE V F W P a = oneE V F 0 P a := by
  unfold oneE
  rw [chk_wd h0 h1, tex_wd h0 h1]
theorem oneE_out {V F W P : Int} {a : Ag} (h : W < 0 ∨ 4096 < W) : oneE V F W P a ≠ 0 ∧ oneT V F W P a = [] := by
  have e : oneE V F W P a ≠ 0 := by
    unfold oneE
    split
    · decide
    · have c : Wh.chk F W P ≠ 0 := fun q => by have := Wh.chk_ok q; omega
      rw [if_pos c]; exact c
  exact ⟨e, by rw [oneT, if_pos e]⟩

/-- A text without a width, in two parts; with one, padded between them or beside them. -/
theorem one_pad {V F P : Int} {a : Ag} (hs : Wh.By a.s) (h : oneE V F 0 P a = 0) : ∃ (z : Bool) (hd b : List Int), (hd.length ≤ 2 ∧ Wh.By hd ∧ Wh.By b) ∧ ∀ W, 0 ≤ W → W ≤ 4096 → oneT V F W P a = Wh.padT F W z hd b := by
  have hv : ¬ Dr.idx Dr.verbs V < 0 := fun q => by rw [oneE, if_pos q] at h; omega
  have hc : Wh.chk F 0 P = 0 := by
    rw [oneE, if_neg hv] at h
    by_cases q : Wh.chk F 0 P = 0
    · exact q
    · rw [if_pos q] at h; exact h
  have E : ∀ W, 0 ≤ W → W ≤ 4096 → ¬ oneE V F W P a ≠ 0 := fun W h0 h1 q => q (by rw [oneE_wd h0 h1]; exact h)
  have C : ∀ W, 0 ≤ W → W ≤ 4096 → Wh.chk F W P = 0 := fun W h0 h1 => by rw [chk_wd h0 h1]; exact hc
  by_cases q1 : V = 115
  · refine ⟨false, [], Wh.cut P a.s, ⟨by simp, Wh.By.nil, by unfold Wh.cut; split; exact hs; exact hs.take _⟩, fun W h0 h1 => ?_⟩
    have t : Wh.texE V F W P a.s = 0 := by
      rw [oneE, if_neg hv, if_neg (by rw [hc]; decide)] at h
      split at h
      · omega
      · rw [tex_wd h0 h1]; first | exact h | (rw [if_pos q1] at h; exact h)
    rw [oneT, if_neg (E W h0 h1), if_pos q1, Wh.tex, if_pos t]
  by_cases q2 : V = 99
  · have ce : ∀ W, 0 ≤ W → W ≤ 4096 → Wh.chrE V F W P = 0 := fun W h0 h1 => by rw [Wh.chrE, if_pos q2]; exact C W h0 h1
    by_cases q3 : a.x = true
    · exact ⟨false, [], a.s.take 1, ⟨by simp, Wh.By.nil, hs.take _⟩, fun W h0 h1 => by rw [oneT, if_neg (E W h0 h1), if_neg q1, if_pos q2, if_pos q3, Wh.chr, if_pos (ce W h0 h1)]⟩
    · exact ⟨false, [], [low a.n % 256].take 1, ⟨by simp, Wh.By.nil, Wh.By.cons (by omega) Wh.By.nil⟩, fun W h0 h1 => by rw [oneT, if_neg (E W h0 h1), if_neg q1, if_pos q2, if_neg q3, Wh.chr, if_pos (ce W h0 h1)]⟩
  have sl : ∀ x, (Wh.sgn F x).length ≤ 2 := fun x => Nat.le_trans (Wh.sgn_len F x) (by omega)
  have SP : Ie.fnt a.n ≠ true → ∀ W, 0 ≤ W → W ≤ 4096 → Po.spc V F W P a.n = Wh.padT F W false (Wh.sgn F (Po.ng a.n)) (Po.nm (Po.cap V) (Ie.cls a.n)) := fun q W h0 h1 => by
    rw [Po.spc, if_pos ⟨C W h0 h1, by simpa using q⟩]
  by_cases q4 : V = 100 ∨ V = 105
  · by_cases q3 : Ie.fnt a.n = true
    · exact ⟨decide (P = -1), Wh.sgn F (Po.ng a.n && decide (wpt a.n ≠ 0)), Wh.fil P (Wh.dig 10 false (wpt a.n)), ⟨sl _, Wh.sgn_by _ _, Wh.fil_by (Wh.dig_by _ _ _)⟩, fun W h0 h1 => by rw [oneT, if_neg (E W h0 h1), if_neg q1, if_neg q2, if_pos q4, if_pos q3, Wh.sigT]⟩
    · exact ⟨false, Wh.sgn F (Po.ng a.n), Po.nm (Po.cap V) (Ie.cls a.n), ⟨sl _, Wh.sgn_by _ _, Po.nm_by _ _⟩, fun W h0 h1 => by rw [oneT, if_neg (E W h0 h1), if_neg q1, if_neg q2, if_pos q4, if_neg q3, SP q3 W h0 h1]⟩
  by_cases q5 : V = 111 ∨ V = 117 ∨ V = 120 ∨ V = 88
  · by_cases q3 : Ie.fnt a.n = true
    · refine ⟨decide (P = -1), Wh.uhead V F (low a.n), Wh.utext V F P (low a.n), ?_, fun W h0 h1 => by rw [oneT, if_neg (E W h0 h1), if_neg q1, if_neg q2, if_neg q4, if_pos q5, if_pos q3, Wh.unsT]⟩
      refine ⟨?_, ?_, ?_⟩
      · unfold Wh.uhead
        split
        · simp
        · split <;> simp
      · unfold Wh.uhead
        split
        · intro x hx; simp at hx; omega
        · split
          · intro x hx; simp at hx; omega
          · exact Wh.By.nil
      · unfold Wh.utext
        split
        · exact Wh.By.cons (by omega) (Wh.fil_by (Wh.dig_by _ _ _))
        · exact Wh.fil_by (Wh.dig_by _ _ _)
    · exact ⟨false, Wh.sgn F (Po.ng a.n), Po.nm (Po.cap V) (Ie.cls a.n), ⟨sl _, Wh.sgn_by _ _, Po.nm_by _ _⟩, fun W h0 h1 => by rw [oneT, if_neg (E W h0 h1), if_neg q1, if_neg q2, if_neg q4, if_pos q5, if_neg q3, SP q3 W h0 h1]⟩
  have ok : Po.okV V = true := by
    have hx : 0 ≤ Dr.idx Dr.verbs V := by omega
    unfold Po.okV
    rw [decide_eq_true_iff]
    unfold Dr.verbs at hx
    have K := hx
    iterate 20 (first | (rcases Dr.idx_cons K with K | K; · omega) | skip)
    first | (simp [Dr.idx] at K; done) | omega
  refine ⟨Ie.fnt a.n, Wh.sgn F (Po.ng a.n), Po.tb V F P a.n, ⟨sl _, Wh.sgn_by _ _, (Po.tb_ok (Wh.chk_ok hc).2.2.1 (Wh.chk_ok hc).2.2.2).1⟩, fun W h0 h1 => ?_⟩
  rw [oneT, if_neg (E W h0 h1), if_neg q1, if_neg q2, if_neg q4, if_neg q5]
  exact Po.ren_pad (by rw [Po.renE, if_pos ok]; exact C W h0 h1)

/-- What the law asks of it. -/
theorem one_width {V F W P : Int} {a : Ag} (hs : Wh.By a.s) (h : oneE V F 0 P a = 0) (h0 : 0 ≤ W) (h1 : W ≤ 4096) :
    Wh.By (oneT V F 0 P a) ∧ (W ≤ (oneT V F 0 P a).length → oneT V F W P a = oneT V F 0 P a) ∧
    ((oneT V F 0 P a).length < W →
      (Wh.bit F 1 = true → oneT V F W P a = oneT V F 0 P a ++ Wh.rep 32 (W - (oneT V F 0 P a).length)) ∧
      (Wh.bit F 1 ≠ true → Wh.bit F 16 ≠ true → oneT V F W P a = Wh.rep 32 (W - (oneT V F 0 P a).length) ++ oneT V F 0 P a) ∧
      ((oneT V F W P a).length : Int) = W ∧
      (Wh.bit F 1 ≠ true → oneT V F W P a = Wh.rep 32 (W - (oneT V F 0 P a).length) ++ oneT V F 0 P a ∨
        ∃ hd b, (hd.length ≤ 2 ∧ Wh.By hd ∧ Wh.By b) ∧ oneT V F 0 P a = hd ++ b ∧ oneT V F W P a = hd ++ Wh.rep 48 (W - (oneT V F 0 P a).length) ++ b)) := by
  obtain ⟨z, hd, b, l, e⟩ := one_pad hs h
  rw [e W h0 h1, e 0 (by omega) (by omega), Wh.padT_zero]
  have len : (hd ++ b).length = hd.length + b.length := by simp
  have n : W - ((hd ++ b).length : Int) = W - hd.length - b.length := by rw [len]; omega
  refine ⟨l.2.1.app l.2.2, fun q => ?_, fun q => ⟨fun f => ?_, fun f g => ?_, ?_, fun f => ?_⟩⟩
  · have r : ∀ c, Wh.rep c (W - (hd.length : Int) - (b.length : Int)) = [] := fun c => Wh.rep_neg (by rw [len] at q; omega)
    unfold Wh.padT
    rw [r, r]
    split
    · simp
    · split <;> simp
  · rw [n, Wh.padT, if_pos f]
  · rw [n, Wh.padT, if_neg f, if_neg (fun y => g y.1), List.append_assoc]
  · rw [Wh.padT_len]; rw [len] at q; omega
  · rw [n, Wh.padT, if_neg f]
    by_cases y : Wh.bit F 16 = true ∧ z = true
    · rw [if_pos y]; exact .inr ⟨hd, b, l, rfl, rfl⟩
    · rw [if_neg y, List.append_assoc]; exact .inl rfl
theorem one_flags {V F P : Int} {a : Ag} (h : oneE V F 0 P a = 0) : 0 ≤ F ∧ F ≤ 31 := by
  have hv : ¬ Dr.idx Dr.verbs V < 0 := fun q => by rw [oneE, if_pos q] at h; omega
  have hc : Wh.chk F 0 P = 0 := by
    rw [oneE, if_neg hv] at h
    by_cases q : Wh.chk F 0 P = 0
    · exact q
    · rw [if_pos q] at h; exact h
  exact (Wh.chk_ok hc).1
theorem and_one : ∀ n : Fin 32, ((bits .and .i64 (n.1 : Int) 1 != 0) = Wh.bit n.1 1) ∧ ((bits .and .i64 (n.1 : Int) 16 == 0) = !Wh.bit n.1 16) := by decide
theorem and_flags {F : Int} (h0 : 0 ≤ F) (h1 : F ≤ 31) : ((bits .and .i64 F 1 != 0) = Wh.bit F 1) ∧ ((bits .and .i64 F 16 == 0) = !Wh.bit F 16) := by
  have := and_one ⟨F.toNat, by omega⟩
  rwa [show ((F.toNat : Nat) : Int) = F by omega] at this
end Rn
end Go.Proofs.YtiflponlioldmaaGreatDoor

namespace Go.Proofs.YtiflponlioldmaaGreatDoor
open Go Go.RowKit Go.Deep Go.Shelf

theorem rmake0 (n : Nat) (h : n ≤ 35184372088832) (w : World) :
    (Instr.makeSlice 70 (.int .i64 0) (.int .i64 (n : Int))).run Tryz.prog w = .ok (.slice (some ⟨w.heap.size, 0, none⟩) 0 n) (w.alloc (.cells (madeCells #[.int .u8 0] n) 5)) := by
  obtain ⟨i, hi, hz⟩ := Option.map_eq_some_iff.1 info8
  simp only [Prod.mk.injEq] at hz
  obtain ⟨z1, z2, z3⟩ := hz
  have hr := run_make (P := Tryz.prog) w 70 5 i (.int .u8 0) Tryz.underlying70 hi z1 .i64 .i64 0 n (by omega) (by omega) (by rw [z3]; omega) (by omega)
  simp only [Int.toNat_natCast, z2, Nat.mul_one] at hr
  exact hr
theorem rrow8 (n : Nat) (h : n ≤ 100000) (w : World) : Row8 w.heap.size (w.alloc (.cells (madeCells #[.int .u8 0] n) 5)) (.slice (some ⟨w.heap.size, 0, none⟩) 0 n) [] :=
  World.ownsRow_made w _ n (Nat.le_refl _) (by simp only [maxLen]; omega) (by rw [← Array.length_toList, toList_madeCells_one]; simp)
theorem Row8.rstr {base : Nat} {w : World} {mv : Value} {xs : List Int} (h : Row8 base w mv xs) (h0 : xs ≠ []) : (convert 70 9 mv).run Tryz.prog w = .ok (.string (strOfNums xs)) w := by
  obtain ⟨g, cp, rfl, c⟩ := h.cells h0
  exact run_convert_bytes_arg (P := Tryz.prog) w 70 5 Tryz.underlying70 Tryz.underlying5 g 0 xs.length cp xs rfl c 9 Tryz.underlying9

set_option maxRecDepth 100000 in
set_option maxHeartbeats 2000000 in
theorem rblanks_any (m : Nat) (w : World) (m1 : 1 ≤ m) (hn : m ≤ 4096) :
    Calls Tryz.prog 23 #[.int .i64 (m : Int)] w fun e w' => e = .returned (.string (strOfNums (Wh.rep 32 (m : Int)))) ∧ Below w.heap.size w w' := by
  have A0 := hid (alloc_b w (.cells (madeCells #[.int .u8 0] m) 5))
  have R0 := hid (rrow8 m (by omega) w)
  have MK := rmake0 m (by omega) w
  have mx : max (0 : Int) (m : Int) = (m : Int) := by omega
  have hrp : Hid (Wh.rep 32 (m : Int) = List.replicate m 32) := rfl
  have mi : (m : Int) ≤ 4096 := by omega
  generalize hW0 : w.alloc (.cells (madeCells #[.int .u8 0] m) 5) = w0 at *
  replace hW0 := hid hW0
  go_enter Tryz.func23, Tryz.ntmps23
  go_wp2_with fail
  go_loopg [3, 4] m (fun k b i wr => ∃ t : Nat, t + k = m ∧ i = .int .i64 (t : Int) ∧ Hid (Row8 w.heap.size wr b (List.replicate t 32) ∧ Below w.heap.size w wr))
  case atStart => exact ⟨0, by omega, rfl, R0.out, A0.out⟩
  case round =>
    obtain ⟨t, ht, rfl, I⟩ := hrel
    clear R0 A0 MK mx
    by_cases htm : t = m
    · subst htm
      have cv := I.out.1.rstr (fun q => by have := congrArg List.length q; simp at this; omega)
      rw [← hrp.out] at cv
      have B := hid I.out.2
      clear I
      go_wp2_with fail
      go_ret
      exact ⟨rfl, B.out⟩
    · have hti : (t : Int) < (m : Int) := by omega
      obtain ⟨mv', w2, ap, r2, z2, b2, _⟩ := I.out.1.push 32 (by simp; omega) I.out.2.size
      have F : Hid (Row8 w.heap.size w2 mv' (List.replicate (t + 1) 32) ∧ Below w.heap.size w w2) := ⟨by rw [List.replicate_succ']; exact r2, I.out.2.trans b2⟩
      have AP := hid ap
      clear ap r2 z2 b2 I
      go_wp2_with (at_builtin; refine wpList_append_b rfl _ _ rfl AP.out (by rfl) (by rfl) ?_; clear AP)
      go_roundg (m - (t + 1))
      case measure => omega
      case rel => exact ⟨t + 1, by omega, by go_num, F.out⟩

set_option maxRecDepth 100000 in
set_option maxHeartbeats 4000000 in
theorem rzeroed_any (hd b : List Int) (n : Nat) (w : World) (hl : hd.length ≤ 2) (hh : Wh.By hd) (hb : Wh.By b) (hn : n ≤ 4096) (hL : hd.length + b.length ≤ 16777216) :
    Calls Tryz.prog 24 #[.string (strOfNums (hd ++ Wh.rep 48 (n : Int) ++ b)), .string (strOfNums (hd ++ b))] w fun e w' => e = .returned (.bool true) ∧ Below w.heap.size w w' := by
  have rl : (Wh.rep 48 (n : Int)).length = n := by rw [Wh.rep_len]; omega
  have ST := hid (Str.of_nums ((hh.app (Wh.By.rep (c := 48) (n := (n : Int)) (by omega))).app hb))
  have SU := hid (Str.of_nums (hh.app hb))
  have P1 : Hid (∀ a : Nat, a ≤ hd.length → ((hd ++ Wh.rep 48 (n : Int) ++ b).drop 0).take (a - 0) = ((hd ++ b).drop 0).take (a - 0)) := fun a h => by
    rw [List.drop_zero, List.drop_zero, List.append_assoc, List.take_append_of_le_length (by omega), List.take_append_of_le_length (by omega)]
  have P2 : Hid (∀ x y : Nat, x = (hd ++ Wh.rep 48 (n : Int) ++ b).length → y = (hd ++ b).length → ((hd ++ Wh.rep 48 (n : Int) ++ b).drop (hd.length + n)).take (x - (hd.length + n)) = ((hd ++ b).drop hd.length).take (y - hd.length)) := fun x y hx hy => by
    rw [show hd.length + n = (hd ++ Wh.rep 48 (n : Int)).length by rw [List.length_append, rl], List.drop_left, List.drop_left, hx, hy, List.take_of_length_le (by simp only [List.length_append]; omega), List.take_of_length_le (by simp only [List.length_append]; omega)]
  have P3 : Hid (∀ i : Nat, hd.length ≤ i → i < hd.length + n → (hd ++ Wh.rep 48 (n : Int) ++ b).getD i 0 = 48) := fun i h1 h2 => by
    rw [List.append_assoc, List.getD_eq_getElem?_getD, List.getElem?_append_right h1, List.getElem?_append_left (by omega), Wh.rep, List.getElem?_replicate_of_lt (by omega)]
    rfl
  have lt : (hd ++ Wh.rep 48 (n : Int) ++ b).length = (hd ++ b).length + n := by simp [rl]; omega
  have lu : (hd ++ b).length ≤ 16777216 := by rw [List.length_append]; omega
  have lh : hd.length ≤ (hd ++ b).length := by simp
  clear rl hh hb hL
  generalize hd ++ Wh.rep 48 (n : Int) ++ b = T at *
  generalize hd ++ b = U at *
  generalize hd.length = H at *
  have st : (strOfNums T).size = T.length := ST.out.size
  have su : (strOfNums U).size = U.length := SU.out.size
  generalize strOfNums T = s at *
  generalize strOfNums U = u at *
  obtain ⟨L, hLT⟩ : ∃ L, T.length = L := ⟨_, rfl⟩
  obtain ⟨M, hMU⟩ : ∃ M, U.length = M := ⟨_, rfl⟩
  rw [hLT] at st lt
  rw [hMU] at su lt lu lh
  have HLT := hid hLT
  have HMU := hid hMU
  have mo : (L : Int) - (M : Int) = (n : Int) := by omega
  have Mi : (M : Int) ≤ 16777216 := by omega
  have Li : (L : Int) ≤ 16781312 := by omega
  have ni : (n : Int) ≤ 4096 := by omega
  clear hLT hMU lt
  go_enter Tryz.func24, Tryz.ntmps24
  go_wp2_with fail
  go_loopg [6, 7, 8] H (fun k at_ ok i wr => ∃ a : Nat, a + k = H ∧ at_ = .int .i64 (a : Int) ∧ Hid (Below w.heap.size w wr))
  case atStart => exact ⟨0, by omega, rfl, Below.refl _ _⟩
  case round =>
    obtain ⟨a, ha, rfl, BW⟩ := hrel
    have a2 : (a : Int) ≤ 2 := by omega
    have aM : (a : Int) ≤ (M : Int) := by omega
    have aL : (a : Int) + (n : Int) ≤ (L : Int) := by omega
    have aL0 : (a : Int) ≤ (L : Int) := by omega
    have E1 : ((s.extract 0 a).toList == (u.extract 0 a).toList) = true := by
      rw [(ST.out.extract 0 a).eq (SU.out.extract 0 a), P1.out a (by omega)]; simp
    obtain ⟨q, E2, QE⟩ : ∃ q, ((s.extract (a + n) L).toList == (u.extract a M).toList) = q ∧ Hid (a = H → q = true) := by
      refine ⟨_, rfl, fun e => ?_⟩
      subst e
      rw [(ST.out.extract _ _).eq (SU.out.extract _ _), P2.out L M HLT.out.symm HMU.out.symm]; simp
    have AT := hid ST.out.at
    have xd : Hid (H = a → ∀ i : Nat, a ≤ i → i < a + n → T.getD i 0 = 48) := fun e i h1 h2 => P3.out i (by omega) (by omega)
    have ab := hid (fun i => ST.out.atb i)
    clear P1 P2 P3 SU ST
    go_wp2_with fail
    go_quiet (fail)
    go_wp2_with fail
    go_loopg [7, 8] n (fun m ok i wr => ∃ (c : Bool) (j : Nat), j + m = a + n ∧ a ≤ j ∧ ok = .bool c ∧ i = .int .i64 (j : Int) ∧ Hid (a = H → c = true) ∧ Hid (Below w.heap.size w wr))
    case atStart => exact ⟨q, a, rfl, Nat.le_refl _, rfl, rfl, QE.out, below_drewN BW.out _⟩
    case round =>
      obtain ⟨c, j, hj, haj, rfl, rfl, CE, BX⟩ := hrel
      clear QE E1 E2 BW
      by_cases hjn : j < a + n
      · have ji : (j : Int) < (a : Int) + (n : Int) := by omega
        have jL : (j : Int) < (L : Int) := by omega
        have x0 := fun k => AT.out j k
        generalize hx : T.getD j 0 = x at *
        have xb : 0 ≤ x ∧ x < 256 := by rw [← hx]; exact ab.out j
        obtain ⟨xb0, xb1⟩ := xb
        by_cases x48 : x = 48
        · subst x48
          clear hx
          go_wp2_with fail
          go_roundg (a + n - (j + 1))
          case measure => omega
          case rel => exact ⟨c, j + 1, by omega, by omega, rfl, by go_num, CE.out, BX.out⟩
        · have g1 : (x != 48) = true := by simpa using x48
          have F : Hid (a = H → False) := fun e => x48 (by rw [← hx]; exact xd.out e.symm j haj hjn)
          clear hx
          go_wp2_with fail
          go_roundg (a + n - (j + 1))
          case measure => omega
          case rel => exact ⟨false, j + 1, by omega, by omega, rfl, by go_num, fun e => absurd e F.out, BX.out⟩
      · have ji : (j : Int) = (a : Int) + (n : Int) := by omega
        have jn : ¬ (j : Int) < (a : Int) + (n : Int) := by omega
        cases c with
        | true =>
          go_wp2_with fail
          go_ret
          exact ⟨rfl, BX.out⟩
        | false =>
          have aH : a < H := by
            rcases Nat.lt_or_ge a H with z | z
            · exact z
            · exact absurd (CE.out (by omega)) Bool.false_ne_true
          go_wp2_with fail
          go_roundg (H - (a + 1))
          case measure => omega
          case rel => exact ⟨a + 1, by omega, by go_num, BX.out⟩
end Go.Proofs.YtiflponlioldmaaGreatDoor

namespace Go.Proofs.YtiflponlioldmaaGreatDoor
open Go Go.RowKit Go.Deep Go.Shelf

set_option maxRecDepth 100000 in
set_option maxHeartbeats 4000000 in
theorem rwidth_law (V F W P : Int) (a : Rn.Ag) (w : World) (hT : Tab w) (v0 : 0 ≤ V) (v1 : V < 256) (ha : AgW a) :
    Calls Tryz.prog 7 #[.agg #[.int .u8 V, .int .i64 F, .int .i64 W, .int .i64 P], .agg #[.bool a.x, .int .u64 a.n, .string (strOfNums a.s)]] w fun e w' => e = .returned (.bool true) ∧ Below w.heap.size w w' := by
  have AW := hid (fun wk (k : Tab wk) => rawake_any wk k)
  have O1 := hid (fun wk (k : Tab wk) => one_any V F W P a wk k v0 v1 ha)
  have O2 := hid (fun wk (k : Tab wk) => one_any V F 0 P a wk k v0 v1 ha)
  unfold OneTold at O1 O2
  have TB : Hid (∀ wk, Below w.heap.size w wk → Tab wk) := fun wk k => hT.below k
  have B0 := hid (OB.new w V F W P a.x a.n (strOfNums a.s))
  have K0 := hid (TB.out _ B0.out.bel)
  have wout : Hid (W < 0 ∨ 4096 < W → Rn.oneE V F W P a ≠ 0 ∧ Rn.oneT V F W P a = []) := Rn.oneE_out
  have win : Hid (0 ≤ W → W ≤ 4096 → Rn.oneE V F W P a = Rn.oneE V F 0 P a) := Rn.oneE_wd
  have wbad : Hid (Rn.oneE V F W P a ≠ 0 → Rn.oneT V F W P a = []) := fun h => by rw [Rn.oneT, if_pos h]
  have wbad0 : Hid (Rn.oneE V F 0 P a ≠ 0 → Rn.oneT V F 0 P a = []) := fun h => by rw [Rn.oneT, if_pos h]
  have wfl : Hid (Rn.oneE V F 0 P a = 0 → 0 ≤ F ∧ F ≤ 31) := Rn.one_flags
  have wgood := hid (fun h h0 h1 => Rn.one_width (V := V) (F := F) (W := W) (P := P) (a := a) ha.1 h h0 h1)
  generalize Rn.oneE V F W P a = E at *
  generalize Rn.oneE V F 0 P a = E0 at *
  generalize Rn.oneT V F W P a = T at *
  generalize Rn.oneT V F 0 P a = U at *
  obtain ⟨ax, an, as_⟩ := a
  simp only at B0 O1 O2 K0 ⊢
  generalize strOfNums as_ = sa at *
  clear hT v0 v1 ha
  go_enter Tryz.func7, Tryz.ntmps7
  go_wp2_with fail
  with_reducible refine (AW.out _ K0.out).mono ?_
  rintro e w1 ⟨rfl, b1⟩
  have B1 := hid (B0.out.on b1)
  have K1 := hid (TB.out _ B1.out.bel)
  clear b1 B0 K0 AW
  obtain ⟨⟨c0, c1, c2, c3⟩, ⟨d0, d1, d2⟩⟩ := B1.out.flat
  go_wp2_with fail
  with_reducible refine (O1.out _ K1.out).mono ?_
  rintro e w2 ⟨rfl, b2⟩
  have B2 := hid (B1.out.on b2)
  clear b2 B1 K1 O1 c0 c1 c2 c3 d0 d1 d2
  obtain ⟨⟨c0, c1, c2, c3⟩, ⟨d0, d1, d2⟩⟩ := B2.out.flat
  have B3 := hid (B2.out.on (alloc_b w2 (.cells #[.int .u8 V, .int .i64 F, .int .i64 0, .int .i64 P] 25)))
  have K3 := hid (TB.out _ B3.out.bel)
  obtain ⟨-, ⟨f0, f1, f2⟩⟩ := B3.out.flat
  clear B2 TB
  go_wp2_with fail
  with_reducible refine (O2.out _ K3.out).mono ?_
  rintro e w4 ⟨rfl, b4⟩
  have B4 := hid (B3.out.on b4)
  clear b4 B3 K3 O2 c0 c1 c2 c3 d0 d1 d2 f0 f1 f2
  obtain ⟨⟨c0, c1, c2, c3⟩, -⟩ := B4.out.flat
  have B := hid B4.out.bel
  clear B4
  by_cases ho : W < 0 ∨ 4096 < W
  · obtain ⟨x1, x2⟩ := wout.out ho
    subst x2
    have g1 : (E != 0) = true := by simpa using x1
    have z : strOfNums [] = ⟨#[]⟩ := rfl
    rw [z]
    clear wout win wbad wbad0 wfl wgood
    rcases ho with ho | ho
    · go_wp2_with fail
      go_ret
      exact ⟨rfl, B.out⟩
    · have g2 : ¬ W < 0 := by omega
      go_wp2_with fail
      go_ret
      exact ⟨rfl, B.out⟩
  · have h0 : 0 ≤ W := by omega
    have h1 : W ≤ 4096 := by omega
    have g0 : ¬ W < 0 := by omega
    have g1 : ¬ 4096 < W := by omega
    have e := win.out h0 h1
    subst e
    by_cases hE : E ≠ 0
    · have x1 := wbad.out hE
      have x2 := wbad0.out hE
      subst x1
      subst x2
      have g2 : (E != 0) = true := by simpa using hE
      have z : strOfNums [] = ⟨#[]⟩ := rfl
      rw [z]
      clear wout win wbad wbad0 wfl wgood
      go_wp2_with fail
      go_ret
      exact ⟨rfl, B.out⟩
    · have hE0 : E = 0 := by simpa using hE
      subst hE0
      obtain ⟨UB, wa, wb⟩ := wgood.out rfl h0 h1
      obtain ⟨fl0, fl1⟩ := wfl.out rfl
      obtain ⟨n1, n2⟩ := Rn.and_flags fl0 fl1
      clear wout win wbad wbad0 wfl wgood hE ho
      obtain ⟨L, hL⟩ : ∃ L, U.length = L := ⟨_, rfl⟩
      have us : (strOfNums U).size = L := by rw [strOfNums_size, hL]
      rw [hL] at wa wb
      by_cases hw : W ≤ (L : Int)
      · have x := wa hw
        subst x
        clear wa wb
        go_wp2_with fail
        go_ret
        exact ⟨rfl, B.out⟩
      · have gL : ¬ W ≤ (L : Int) := hw
        obtain ⟨n, hn⟩ : ∃ n : Nat, W - (L : Int) = (n : Int) := ⟨(W - L).toNat, by omega⟩
        obtain ⟨y1, y2, y3, y4⟩ := wb (by omega)
        rw [hn] at y1 y2 y4
        have BK := hid (fun wk => rblanks_any n wk (by omega) (by omega))
        have Li : (L : Int) ≤ 4096 := by omega
        have nl : (n : Int) ≤ 4096 := by omega
        clear wa wb
        have RB : Wh.By (Wh.rep 32 (n : Int)) := Wh.By.rep (by omega)
        have rz : (strOfNums (Wh.rep 32 (n : Int))).size = n := by rw [strOfNums_size, Wh.rep_len]; omega
        have CA : ∀ wx, (Op.stringOp .add (strOfNums U) (strOfNums (Wh.rep 32 (n : Int)))).run Tryz.prog wx = .ok (.string (strOfNums (U ++ Wh.rep 32 (n : Int)))) wx := fun wx => by
          rw [← str_app UB RB]; exact run_string_add_sum wx _ _ (by omega)
        have CB : ∀ wx, (Op.stringOp .add (strOfNums (Wh.rep 32 (n : Int))) (strOfNums U)).run Tryz.prog wx = .ok (.string (strOfNums (Wh.rep 32 (n : Int) ++ U))) wx := fun wx => by
          rw [← str_app RB UB]; exact run_string_add_sum wx _ _ (by omega)
        have gE : ¬ (L : Int) ≥ W := by omega
        by_cases k1 : Wh.bit F 1 = true
        · rw [k1] at n1
          have x := y1 k1
          subst x
          clear y1 y2 y3 y4 CB k1 n2
          generalize strOfNums (U ++ Wh.rep 32 (n : Int)) = tt at *
          generalize strOfNums (Wh.rep 32 (n : Int)) = rr at *
          generalize strOfNums U = uu at *
          go_wp2_with fail
          with_reducible refine (BK.out _).mono ?_
          rintro e w5 ⟨rfl, b5⟩
          have B5 := hid (below_on B.out b5)
          have D1 : w5.cell? ⟨w.heap.size, 1, none⟩ = some (.int .i64 F) := acell_below c1 b5 (cell_lt c1)
          clear b5 BK c0 c1 c2 c3
          go_wp2_with fail
          go_ret
          exact ⟨rfl, B5.out⟩
        · rw [show Wh.bit F 1 = false by simpa using k1] at n1
          by_cases k2 : Wh.bit F 16 = true
          · rw [k2] at n2
            have ts : ((strOfNums T).size : Int) = W := by rw [strOfNums_size]; exact y3
            by_cases k3 : T = Wh.rep 32 (n : Int) ++ U
            · rw [← k3] at CB
              clear y1 y2 y3 y4 CA k1 k2 k3
              generalize strOfNums T = tt at *
              generalize strOfNums (Wh.rep 32 (n : Int)) = rr at *
              generalize strOfNums U = uu at *
              go_wp2_with fail
              with_reducible refine (BK.out _).mono ?_
              rintro e w5 ⟨rfl, b5⟩
              have B5 := hid (below_on B.out b5)
              have D1 : w5.cell? ⟨w.heap.size, 1, none⟩ = some (.int .i64 F) := acell_below c1 b5 (cell_lt c1)
              have D2 : w5.cell? ⟨w.heap.size, 2, none⟩ = some (.int .i64 W) := acell_below c2 b5 (cell_lt c2)
              clear b5 BK c0 c1 c2 c3
              go_wp2_with fail
              go_ret
              exact ⟨rfl, B5.out⟩
            · obtain ⟨hd, b, ⟨q1, q2, q3⟩, q4, q5⟩ := (y4 k1).resolve_left k3
              have TBy : Wh.By T := by rw [q5]; exact (q2.app (Wh.By.rep (by omega))).app q3
              have NE : ((strOfNums T).toList == (strOfNums (Wh.rep 32 (n : Int) ++ U)).toList) = false := by
                rw [(Str.of_nums TBy).eq (Str.of_nums (RB.app UB))]; exact decide_eq_false k3
              have ZR : Hid (∀ wk, Calls Tryz.prog 24 #[.string (strOfNums T), .string (strOfNums U)] wk fun e w' => e = .returned (.bool true) ∧ Below wk.heap.size wk w') := fun wk => by
                rw [q4, q5]; exact rzeroed_any hd b n wk q1 q2 q3 (by omega) (by rw [q4, List.length_append] at hL; omega)
              clear y1 y2 y3 y4 CA k1 k2 k3 q1 q2 q3 q4 q5 TBy UB RB hL
              generalize strOfNums T = tt at *
              generalize strOfNums (Wh.rep 32 (n : Int) ++ U) = cc at *
              generalize strOfNums (Wh.rep 32 (n : Int)) = rr at *
              generalize strOfNums U = uu at *
              go_wp2_with fail
              with_reducible refine (BK.out _).mono ?_
              rintro e w5 ⟨rfl, b5⟩
              have B5 := hid (below_on B.out b5)
              have D1 : w5.cell? ⟨w.heap.size, 1, none⟩ = some (.int .i64 F) := acell_below c1 b5 (cell_lt c1)
              have D2 : w5.cell? ⟨w.heap.size, 2, none⟩ = some (.int .i64 W) := acell_below c2 b5 (cell_lt c2)
              clear b5 BK c0 c1 c2 c3
              go_wp2_with fail
              with_reducible refine (ZR.out _).mono ?_
              rintro e w6 ⟨rfl, b6⟩
              have B6 := hid (below_on B5.out b6)
              clear b6 ZR D1 D2 B5
              go_wp2_with fail
              go_ret
              exact ⟨rfl, B6.out⟩
          · rw [show Wh.bit F 16 = false by simpa using k2] at n2
            have x := y2 k1 k2
            subst x
            clear y1 y2 y3 y4 CA k1 k2
            generalize strOfNums (Wh.rep 32 (n : Int) ++ U) = tt at *
            generalize strOfNums (Wh.rep 32 (n : Int)) = rr at *
            generalize strOfNums U = uu at *
            go_wp2_with fail
            with_reducible refine (BK.out _).mono ?_
            rintro e w5 ⟨rfl, b5⟩
            have B5 := hid (below_on B.out b5)
            have D1 : w5.cell? ⟨w.heap.size, 1, none⟩ = some (.int .i64 F) := acell_below c1 b5 (cell_lt c1)
            clear b5 BK c0 c1 c2 c3
            go_wp2_with fail
            go_ret
            exact ⟨rfl, B5.out⟩
end Go.Proofs.YtiflponlioldmaaGreatDoor

namespace Go.Proofs.YtiflponlioldmaaGreatDoor
open Go Go.RowKit Go.Deep

theorem tab_laid : (Rows.laid_math_bits_deBruijn64tab : DataW Unit) = Lib.tabData .u8 (List.map Int.ofNat Lib.deBruijn64tab) := by kernel_rfl

theorem tab_of {W : World} {rest : List (String × DataW Unit)} (h : laidMet Tryz.prog (("math/bits.deBruijn64tab", Rows.laid_math_bits_deBruijn64tab) :: rest) W) : Tab W := by
  rw [tab_laid] at h
  have ht := Lib.tabIs_of_head (g := 1) (t := 260) (e := 5) (n := 64) (k := .u8) (zs := List.map Int.ofNat Lib.deBruijn64tab) (by kernel_rfl) (by kernel_rfl) Tryz.underlying260 Tryz.underlying5 (by kernel_rfl) (by kernel_rfl) h
  intro j hj
  have hl : (List.map Int.ofNat Lib.deBruijn64tab).length = Lib.deBruijn64tab.length := by simp
  rw [ht.cell (g := 1) (by kernel_rfl) j (by omega)]
  simp [List.getD, hj]

end Go.Proofs.YtiflponlioldmaaGreatDoor

namespace Go.Proofs.YtiflponlioldmaaGreatDoor
open Go Go.RowKit Go.Deep Go.Shelf

theorem case_laid : Rows.laid_unicode_CaseRanges = Lib.caseData := by kernel_rfl

theorem laidVars_swap {P : Program} {w : World} {x y : String × DataW Unit} : ∀ {l : List (String × DataW Unit)} {ps : List MemPlace}, DataW.LaidVars P w (l ++ [y, x]) ps → ∃ qs, DataW.LaidVars P w (l ++ [x, y]) qs ∧ qs.Perm ps
  | [], ps, h => by
    obtain ⟨x1, x2⟩ := x
    obtain ⟨y1, y2⟩ := y
    obtain ⟨g, t, cs, fuel, p, q, h1, h2, h3, h4, ⟨g', t', cs', fuel', p', q', k1, k2, k3, k4, k5, rfl⟩, rfl⟩ := h
    have k5 : q' = [] := k5
    subst k5
    refine ⟨_, ⟨g', t', cs', fuel', p', _, k1, k2, k3, k4, ⟨g, t, cs, fuel, p, [], h1, h2, h3, h4, rfl, rfl⟩, rfl⟩, ?_⟩
    simp only [List.append_nil]
    exact List.perm_append_comm
  | (n, d) :: l, ps, h => by
    obtain ⟨g, t, cs, fuel, p, q, h1, h2, h3, h4, h5, rfl⟩ := h
    obtain ⟨qs, k1, k2⟩ := laidVars_swap h5
    exact ⟨_, ⟨g, t, cs, fuel, p, qs, h1, h2, h3, h4, k1, rfl⟩, List.Perm.append_left _ k2⟩
theorem laidMet_swap {P : Program} {w : World} {x y : String × DataW Unit} {l : List (String × DataW Unit)} (h : laidMet P (l ++ [y, x]) w) : laidMet P (l ++ [x, y]) w := by
  obtain ⟨ps, h1, h2, h3⟩ := h
  obtain ⟨qs, k1, k2⟩ := laidVars_swap h1
  exact ⟨qs, k1, (k2.nodup_iff).2 h2, fun b off hp => h3 b off (k2.mem_iff.1 hp)⟩
end Go.Proofs.YtiflponlioldmaaGreatDoor

namespace Go.Proofs.YtiflponlioldmaaGreatDoor

theorem bulk_pos {H : Type} (d : DataW H) : 1 ≤ Rows.uptoBulk d := by
  rcases d with l | _ | _ | _ | _ | _ | _ | _
  · cases l <;> simp [Rows.uptoBulk]
  all_goals simp [Rows.uptoBulk]

theorem bulk_all {H : Type} : ∀ l : List (DataW H), l.length ≤ Rows.uptoBulkAll l
  | [] => Nat.zero_le _
  | d :: r => by
    have h1 := bulk_pos d
    have h2 := bulk_all r
    simp only [Rows.uptoBulkAll, List.length_cons]
    omega

theorem bulk_slice {H : Type} (es sp : List (DataW H)) : es.length ≤ Rows.uptoBulk (.slice es sp) := by
  have := bulk_all es
  simp only [Rows.uptoBulk]
  omega
end Go.Proofs.YtiflponlioldmaaGreatDoor

namespace Go.Proofs.YtiflponlioldmaaGreatDoor
open Go Go.RowKit Go.Deep Go.ChangeShapes Go.WideShapes Go.ChangeAt

theorem abulk_mem {H : Type} : ∀ {l : List (DataW H)} {d : DataW H}, d ∈ l → Rows.uptoBulk d ≤ Rows.uptoBulkAll l
  | [], _, h => by simp at h
  | x :: r, d, h => by
    simp only [Rows.uptoBulkAll]
    rcases List.mem_cons.1 h with rfl | h
    · omega
    · have := abulk_mem h
      omega

theorem aall_mem {H : Type} {P : Program} {e : TypeId} : ∀ {l : List (DataW H)} {d : DataW H}, d ∈ l → ∀ n ∈ d.weights P e, n ∈ DataW.weightsAll P e l
  | [], _, h, _, _ => by simp at h
  | x :: r, d, h, n, hn => by
    simp only [DataW.weightsAll, List.mem_append]
    rcases List.mem_cons.1 h with rfl | h
    · exact .inl hn
    · exact .inr (aall_mem h n hn)

/-- What can be told of each place can be told of a list. -/
theorem alist_of_each {α : Type} {Q : Nat → α → Prop} : ∀ n, (∀ i, i < n → ∃ x, Q i x) → ∃ l : List α, l.length = n ∧ ∀ i x, l[i]? = some x → Q i x
  | 0, _ => ⟨[], rfl, by simp⟩
  | n + 1, h => by
    obtain ⟨l, h1, h2⟩ := alist_of_each n (fun i hi => h i (by omega))
    obtain ⟨x, hx⟩ := h n (by omega)
    refine ⟨l ++ [x], by simp [h1], fun i y hy => ?_⟩
    by_cases hi : i < l.length
    · rw [List.getElem?_append_left hi] at hy
      exact h2 i y hy
    · have hlt := (List.getElem?_eq_some_iff.1 hy).1
      simp only [List.length_append, List.length_cons, List.length_nil] at hlt
      obtain rfl : i = n := by omega
      rw [List.getElem?_append_right (by omega), h1, Nat.sub_self] at hy
      simp at hy
      subst hy
      exact hx

theorem list3 {α : Type} {l : List α} (h : l.length = 3) : ∃ c0 c1 c2, l = [c0, c1, c2] := by
  match l, h with
  | [c0, c1, c2], _ => exact ⟨c0, c1, c2, rfl⟩

theorem open_arg_cells {H : Type} {enc : TypeId × Value → H} {W : World} {fuel : Nat} {a0 a1 a2 : Value} {x : DataW H × List MemPlace} (hf : DataW.trod enc Tryz.prog W 0 (fun _ => true) true fuel 28 [a0, a1, a2] = some x)
    (hsz : ∀ n ∈ x.1.weights Tryz.prog 28, n ≤ reachBytes) :
    ∃ q : Rn.Ag, (a0 = .bool q.x ∧ a1 = .int .u64 q.n ∧ a2 = .string (strOfNums q.s)) ∧ AgW q ∧ q.s.length ≤ Rows.uptoBulk x.1 := by
  obtain ⟨xs, n, _, hx, _, hlen, hfs⟩ := DataW.trod_struct Tryz.underlying28 hf
  obtain ⟨y0, y1, y2, rfl⟩ := list3 hlen
  have c4 : Tryz.prog.cellsOf 4 = 1 := by kernel_rfl
  have c6 : Tryz.prog.cellsOf 26 = 1 := by kernel_rfl
  have cs : Tryz.prog.cellsOf 9 = 1 := by kernel_rfl
  have f0 : DataW.trod enc Tryz.prog W 0 (fun _ => true) true n 4 [a0] = some y0 := by simpa [c4] using hfs 0 _ rfl
  have f1 : DataW.trod enc Tryz.prog W 0 (fun _ => true) true n 26 [a1] = some y1 := by simpa [c6] using hfs 1 _ rfl
  have f2 : DataW.trod enc Tryz.prog W 0 (fun _ => true) true n 9 [a2] = some y2 := by simpa [cs] using hfs 2 _ rfl
  have hd : x.1 = .agg [y0.1, y1.1, y2.1] := by rw [hx]; rfl
  obtain ⟨bx, e0, _⟩ := DataW.trod_bool Tryz.underlying4 f0
  obtain ⟨v, e1, _, w1⟩ := DataW.trod_int Tryz.underlying26 f1
  obtain ⟨s, e2, q2, _⟩ := DataW.trod_string Tryz.underlying9 f2
  have hs : s.data.toList.length ≤ reachBytes := by
    refine hsz _ ?_
    rw [hd]
    simp only [DataW.weights, Tryz.underlying28]
    refine DataW.weights_mem_each (ts := [4, 26, 9]) (ds := [y0.1, y1.1, y2.1]) (j := 2) (t := 9) (d := y2.1) rfl rfl _ ?_
    rw [q2]
    simp [DataW.weights]
  have hb : s.data.toList.length ≤ Rows.uptoBulk x.1 := by
    rw [hd, q2]
    simp only [Rows.uptoBulk, Rows.uptoBulkAll]
    simp
    omega
  have b1 := bounds_u64 w1
  refine ⟨⟨bx, v, s.data.toList.map (fun b => (b.toNat : Int))⟩, ⟨(List.cons.inj e0).1, (List.cons.inj e1).1, ?_⟩, ⟨fun x hx => (Str.self s).mem hx, ⟨b1.1, Int.lt_of_le_of_lt b1.2 (by decide)⟩, ?_⟩, ?_⟩
  · rw [(List.cons.inj e2).1, ← str_is (Str.self s)]
  · rw [List.length_map]; exact Nat.le_trans hs (by decide)
  · rw [List.length_map]; exact hb

theorem array3 {α : Type} {cs : Array α} (h : cs.size = 3) : ∃ c0 c1 c2, cs = #[c0, c1, c2] := by
  obtain ⟨l⟩ := cs
  match l, h with
  | [c0, c1, c2], _ => exact ⟨c0, c1, c2, rfl⟩

set_option maxRecDepth 100000 in
theorem open_arg {H : Type} {enc : TypeId × Value → H} {W : World} {base : Nat} {v : Value} {d : DataW H} {p : List MemPlace} (hv : Value.okWide Tryz.prog W .any base 28 v) (h : DataW.Trod enc Tryz.prog W 0 (fun _ => true) true 28 v d p)
    (hsz : ∀ n ∈ d.weights Tryz.prog 28, n ≤ reachBytes) :
    ∃ q : Rn.Ag, v = .agg #[.bool q.x, .int .u64 q.n, .string (strOfNums q.s)] ∧ AgW q ∧ q.s.length ≤ Rows.uptoBulk d := by
  obtain ⟨cs, rfl, hs7⟩ := okWide_struct Tryz.underlying28 hv
  obtain ⟨a0, a1, a2, rfl⟩ := array3 (hs7.trans (show Tryz.prog.cellsOf 28 = 3 by kernel_rfl))
  obtain ⟨fuel, hf⟩ := h
  have hf' : DataW.trod enc Tryz.prog W 0 (fun _ => true) true fuel 28 [a0, a1, a2] = some (d, p) := by simpa [Value.cells] using hf
  obtain ⟨q, ⟨e0, e1, e2⟩, h1, h3⟩ := open_arg_cells (x := (d, p)) hf' hsz
  rw [e0, e1, e2]
  exact ⟨q, rfl, h1, h3⟩

set_option maxRecDepth 100000 in
theorem open_args {H : Type} {enc : TypeId × Value → H} {W : World} {a : Option Addr} {len cap : Nat} {d : DataW H} {p : List MemPlace} (h : DataW.Trod enc Tryz.prog W 0 (fun _ => true) true 30 (.slice a len cap) d p)
    (hsz : ∀ n ∈ d.weights Tryz.prog 30, n ≤ reachBytes) : ∃ ps : List Rn.Ag, ps.length = len ∧ LA W a ps ∧ (∀ q ∈ ps, AgW q) ∧ (∀ q ∈ ps, q.s.length ≤ Rows.uptoBulk d) ∧ len ≤ cap ∧ len ≤ 4398046511104 ∧ len ≤ Rows.uptoBulk d ∧ (a = none → cap = 0) ∧ cap ≤ 4398046511104 := by
  obtain ⟨fuel, hf⟩ := h
  rcases DataW.trod_slice Tryz.underlying30 hf with ⟨hcs, _⟩ | ⟨x, l, c, elems, rest, n, _, hcs, hx, _, hl, hm, he, hel, hsp, _⟩
  · simp [Value.cells] at hcs
    obtain ⟨rfl, rfl, rfl⟩ := hcs
    exact ⟨[], rfl, .inl rfl, by intro it h; simp at h, by intro it h; simp at h, by omega, by omega, by omega, fun _ => rfl, by omega⟩
  · simp [Value.cells] at hcs
    obtain ⟨rfl, rfl, rfl⟩ := hcs
    have hd : d = .slice (elems.map (·.1)) (rest.map (·.1)) := (Prod.mk.inj hx).1
    have hw : ∀ n ∈ (DataW.slice (elems.map (·.1)) (rest.map (·.1)) : DataW H).weights Tryz.prog 30, n ≤ reachBytes := by rw [← hd]; exact hsz
    simp only [DataW.weights, Tryz.underlying30] at hw
    have hr := hw _ List.mem_cons_self
    rw [show Tryz.prog.bytesOf 28 = 32 by kernel_rfl] at hr
    have hrl := (hsp rfl).1
    simp only [List.length_map, reachBytes] at hr
    have hbl : len ≤ Rows.uptoBulk d := by
      rw [hd]
      refine Nat.le_trans ?_ (bulk_slice _ _)
      rw [List.length_map]; omega
    rw [show Tryz.prog.cellsOf 28 = 3 by kernel_rfl] at hel
    obtain ⟨its, i1, i2⟩ := alist_of_each (Q := fun i (it : Rn.Ag) => (W.cell? (x.add (i * 3)) = some (.bool it.x) ∧ W.cell? ((x.add (i * 3)).add 1) = some (.int .u64 it.n) ∧ W.cell? ((x.add (i * 3)).add 2) = some (.string (strOfNums it.s))) ∧ AgW it ∧ it.s.length ≤ Rows.uptoBulk d) len (fun i hi => by
      have h1 := hel i hi
      have h2 : elems[i]? = some elems[i] := List.getElem?_eq_getElem (by omega)
      rw [h2] at h1
      obtain ⟨cs, h3, h4⟩ := Option.bind_eq_some_iff.1 h1
      obtain ⟨_, h5, h6⟩ := World.cells?_some h3
      obtain ⟨v0, v1, v2, rfl⟩ := list3 h5
      have e0 := h6 0 (by omega)
      have e1 := h6 1 (by omega)
      have e2 := h6 2 (by omega)
      have h8 : (x.add (i * 3)).add 0 = x.add (i * 3) := by simp [Addr.add]
      rw [h8] at e0
      obtain ⟨q, ⟨q0, q1, q2⟩, hA, hC⟩ := open_arg_cells h4 (fun m hm => hw m (List.mem_cons_of_mem _ (List.mem_append_left _ (aall_mem (List.mem_map.2 ⟨elems[i], List.getElem_mem _, rfl⟩) m hm))))
      subst q0 q1 q2
      refine ⟨q, ⟨e0, e1, e2⟩, hA, Nat.le_trans hC ?_⟩
      have := abulk_mem (l := elems.map (·.1)) (d := elems[i].1) (List.mem_map.2 ⟨elems[i], List.getElem_mem _, rfl⟩)
      rw [hd]
      simp only [Rows.uptoBulk]
      omega)
    refine ⟨its, i1, ?_, ?_, ?_, by omega, by omega, hbl, fun q => by simp at q, by omega⟩
    · rcases Nat.eq_zero_or_pos its.length with h0 | h0
      · exact .inl (List.eq_nil_of_length_eq_zero h0)
      · obtain ⟨b, off, spot⟩ := x
        have hspot : spot = none := by simpa [Addr.add] using World.cell?_spot (i2 0 _ (List.getElem?_eq_getElem h0)).1.1
        subst hspot
        refine .inr ⟨b, off, rfl, fun i it hi => ?_⟩
        obtain ⟨⟨q0, q1, q2⟩, _⟩ := i2 i it hi
        simp only [Go.WideShapes.add_plain] at q0 q1 q2
        exact ⟨q0, q1, q2⟩
    · intro it hit
      obtain ⟨i, hi⟩ := List.getElem?_of_mem hit
      exact (i2 i it hi).2.1
    · intro it hit
      obtain ⟨i, hi⟩ := List.getElem?_of_mem hit
      exact (i2 i it hi).2.2
end Go.Proofs.YtiflponlioldmaaGreatDoor

namespace Go.Proofs.YtiflponlioldmaaGreatDoor
open Go.RowKit Go.Deep Go.ChangeShapes Go.WideShapes Go.ChangeAt

theorem spc_array {α : Type} {cs : Array α} (h : cs.size = 4) : ∃ c0 c1 c2 c3, cs = #[c0, c1, c2, c3] := by
  obtain ⟨l⟩ := cs
  match l, h with
  | [c0, c1, c2, c3], _ => exact ⟨c0, c1, c2, c3, rfl⟩
theorem spc_list {α : Type} {l : List α} (h : l.length = 4) : ∃ c0 c1 c2 c3, l = [c0, c1, c2, c3] := by
  match l, h with
  | [c0, c1, c2, c3], _ => exact ⟨c0, c1, c2, c3, rfl⟩

set_option maxRecDepth 100000 in
theorem open_spc_cells {H : Type} {enc : TypeId × Value → H} {W : World} {fuel : Nat} {a0 a1 a2 a3 : Value} {x : DataW H × List MemPlace} (hf : DataW.trod enc Tryz.prog W 0 (fun _ => true) true fuel 25 [a0, a1, a2, a3] = some x) :
    ∃ V F D P : Int, a0 = .int .u8 V ∧ a1 = .int .i64 F ∧ a2 = .int .i64 D ∧ a3 = .int .i64 P ∧ (0 ≤ V ∧ V < 256) := by
  obtain ⟨xs, n, _, hx, _, hlen, hfs⟩ := DataW.trod_struct Tryz.underlying25 hf
  obtain ⟨y0, y1, y2, y3, rfl⟩ := spc_list hlen
  have c3 : Tryz.prog.cellsOf 3 = 1 := by kernel_rfl
  have c8 : Tryz.prog.cellsOf 5 = 1 := by kernel_rfl
  have f0 : DataW.trod enc Tryz.prog W 0 (fun _ => true) true n 5 [a0] = some y0 := by simpa [c8] using hfs 0 _ rfl
  have f1 : DataW.trod enc Tryz.prog W 0 (fun _ => true) true n 3 [a1] = some y1 := by simpa [c3] using hfs 1 _ rfl
  have f2 : DataW.trod enc Tryz.prog W 0 (fun _ => true) true n 3 [a2] = some y2 := by simpa [c3] using hfs 2 _ rfl
  have f3 : DataW.trod enc Tryz.prog W 0 (fun _ => true) true n 3 [a3] = some y3 := by simpa [c3] using hfs 3 _ rfl
  obtain ⟨V, e0, _, w0⟩ := DataW.trod_int Tryz.underlying5 f0
  obtain ⟨F, e1, _, w1⟩ := DataW.trod_int Tryz.underlying3 f1
  obtain ⟨D, e2, _, w2⟩ := DataW.trod_int Tryz.underlying3 f2
  obtain ⟨P, e3, _, w3⟩ := DataW.trod_int Tryz.underlying3 f3
  have b0 := bounds_u8 w0
  exact ⟨V, F, D, P, (List.cons.inj e0).1, (List.cons.inj e1).1, (List.cons.inj e2).1, (List.cons.inj e3).1, by omega, by omega⟩

set_option maxRecDepth 100000 in
theorem open_spc {H : Type} {enc : TypeId × Value → H} {W : World} {base : Nat} {v : Value} {d : DataW H} {p : List MemPlace} (hv : Value.okWide Tryz.prog W .any base 25 v) (h : DataW.Trod enc Tryz.prog W 0 (fun _ => true) true 25 v d p) :
    ∃ V F D P : Int, v = .agg #[.int .u8 V, .int .i64 F, .int .i64 D, .int .i64 P] ∧ (0 ≤ V ∧ V < 256) := by
  obtain ⟨cs, rfl, hs3⟩ := okWide_struct Tryz.underlying25 hv
  obtain ⟨a0, a1, a2, a3, rfl⟩ := spc_array (hs3.trans (show Tryz.prog.cellsOf 25 = 4 by kernel_rfl))
  obtain ⟨fuel, hf⟩ := h
  have hf' : DataW.trod enc Tryz.prog W 0 (fun _ => true) true fuel 25 [a0, a1, a2, a3] = some (d, p) := by simpa [Value.cells] using hf
  obtain ⟨V, F, D, P, e0, e1, e2, e3, h1⟩ := open_spc_cells (x := (d, p)) hf'
  rw [e0, e1, e2, e3]
  exact ⟨V, F, D, P, rfl, h1⟩
end Go.Proofs.YtiflponlioldmaaGreatDoor
