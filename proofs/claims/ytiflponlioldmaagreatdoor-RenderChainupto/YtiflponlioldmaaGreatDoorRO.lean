/-
  Texts put together: RnRdD, RnPc, RnAwN, RnAw, RnChL, FTab, PoCase, GBulk, OpenArgs.
-/
import Derived.Test.YtiflponlioldmaaGreatDoorRnRdA
import Derived.Test.YtiflponlioldmaaGreatDoorRnRdB
import Derived.Test.YtiflponlioldmaaGreatDoorRnRdC
import Derived.Test.YtiflponlioldmaaGreatDoorRD
import Derived.Test.YtiflponlioldmaaGreatDoorRC
import Derived.Test.YtiflponlioldmaaGreatDoorRB
import Derived.Lib.LaidTab
import Derived.Test.YtiflponlioldmaaGreatDoorRI
import Derived.Test.YtiflponlioldmaaGreatDoorRows
import Derived.Lib.LaidCaseMet
import Derived.Deep.DeepWitnessRowRef
import Derived.Test.YtiflponlioldmaaGreatDoorRJ
import Derived.SizedLaws
import Derived.ProofKit
namespace Go.Proofs.YtiflponlioldmaaGreatDoor
open Go Go.RowKit Go.Deep Go.Shelf

theorem rendered_dir (w1 w : World) (hT : Tab w1) (v : Value) (A : List Rn.Ag) (zs : List Int) (p : Dr.Pc) (h : RWS w1 v A zs w) (hp : PcW p) (hr : Dr.isR p) (hA : ∀ a ∈ A, AgW a) (hl : A.length ≤ 4398046511104) :
    Calls Tryz.prog 41 #[.pointer (some ⟨w1.heap.size, 0, none⟩), .agg #[.string (strOfNums p.t), .int .u8 p.v, .int .i64 p.fl, .int .i64 p.wk, .int .i64 p.wd, .int .i64 p.pk, .int .i64 p.pr]] w fun r w' => DirTold w1 A zs p r w' := by
  by_cases few : (A.length : Int) < Dr.tk p
  · exact rdA w1 w hT v A zs p h hp hr hA hl (.inl few)
  by_cases bad1 : p.wk = 2 ∧ (Rn.aW A).x = true
  · exact rdA w1 w hT v A zs p h hp hr hA hl (.inr (.inl bad1))
  by_cases bad2 : p.pk = 2 ∧ (Rn.aP p A).x = true
  · exact rdA w1 w hT v A zs p h hp hr hA hl (.inr (.inr bad2))
  by_cases f1 : Ie.fnt (stV p.wk A) = false
  · exact rdB w1 w hT v A zs p h hp hr hA hl few bad1 bad2 (.inl f1)
  by_cases f2 : Ie.fnt (stV p.pk (stA p.wk A)) = false
  · exact rdB w1 w hT v A zs p h hp hr hA hl few bad1 bad2 (.inr f2)
  exact rdC w1 w hT v A zs p h hp hr hA hl few bad1 bad2 ⟨f1, f2⟩
end Go.Proofs.YtiflponlioldmaaGreatDoor

namespace Go.Proofs.YtiflponlioldmaaGreatDoor
open Go Go.RowKit Go.Deep Go.Shelf

/-- What a piece does. -/
def StTold (w1 : World) (A : List Rn.Ag) (zs : List Int) (p : Dr.Pc) (r : Ending) (w' : World) : Prop :=
  (Rn.stE p A ≠ 0 ∧ r = .panicked (flt (Rn.stE p A)) ∧ Below w1.heap.size w1 w') ∨
  (Rn.stE p A = 0 ∧ r = .returned (.string (strOfNums (Rn.stT p A))) ∧ ∃ v', RWS w1 v' (A.drop (Dr.tk p).toNat) zs w')
theorem rendered_any (w1 w : World) (hT : Tab w1) (v : Value) (A : List Rn.Ag) (zs : List Int) (p : Dr.Pc) (h : RWS w1 v A zs w) (hp : PcW p) (ho : Dr.ok p) (hA : ∀ a ∈ A, AgW a) (hl : A.length ≤ 4398046511104) :
    Calls Tryz.prog 41 #[.pointer (some ⟨w1.heap.size, 0, none⟩), .agg #[.string (strOfNums p.t), .int .u8 p.v, .int .i64 p.fl, .int .i64 p.wk, .int .i64 p.wd, .int .i64 p.pk, .int .i64 p.pr]] w fun r w' => StTold w1 A zs p r w' := by
  rcases ho with ho | ho | ho
  · have v0 : p.v = 0 := ho.2.1
    refine (rendered_text w1 w v A zs p h v0).mono ?_
    rintro r w' ⟨rfl, k⟩
    refine .inr ⟨by rw [Rn.stE, if_pos (.inl v0)], by rw [Rn.stT, if_pos v0], v, ?_⟩
    rw [show (Dr.tk p).toNat = 0 by rw [Dr.tk, if_pos (.inl v0)]; rfl, List.drop_zero]; exact k
  · have v0 : p.v = 37 := ho.2.1
    refine (rendered_pct w1 w v A zs p h v0).mono ?_
    rintro r w' ⟨rfl, k⟩
    refine .inr ⟨by rw [Rn.stE, if_pos (.inr v0)], by rw [Rn.stT, if_neg (by omega), if_pos v0], v, ?_⟩
    rw [show (Dr.tk p).toNat = 0 by rw [Dr.tk, if_pos (.inr v0)]; rfl, List.drop_zero]; exact k
  · obtain ⟨n0, n37, -⟩ := Dr.verb_ne ho.1
    refine (rendered_dir w1 w hT v A zs p h hp ho hA hl).mono ?_
    rintro r w' k
    unfold DirTold at k
    unfold StTold
    rw [show Rn.stE p A = Rn.dirE p A by rw [Rn.stE, if_neg (by omega)], show Rn.stT p A = Rn.dirT p A by rw [Rn.stT, if_neg n0, if_neg n37]]
    exact k

/-- The state of the loop. -/
def PI (w3 : World) (ps : List Dr.Pc) (R : Int × List Int) (i : Nat) (wr : World) : Prop :=
  ∃ v Ai zs, RWS w3 v Ai zs wr ∧ R = Rn.run Rn.stE Rn.stT (ps.drop i) Ai zs ∧ zs.length ≤ 16777216 ∧ (∀ a ∈ Ai, AgW a) ∧ Ai.length ≤ 4398046511104
/-- What Pieces tells. -/
def PcsTold (ps : List Dr.Pc) (A : List Rn.Ag) (w : World) (r : Ending) (w' : World) : Prop := r = .returned (.tuple #[.string (strOfNums (Rn.pT ps A)), .int .i64 (Rn.pE ps A)]) ∧ Below w.heap.size w w'

theorem drop_get {ps : List Dr.Pc} {i : Nat} (h : i < ps.length) : ps.drop i = ps.getD i Dr.Pc.no :: ps.drop (i + 1) := by
  rw [List.drop_eq_getElem_cons h, List.getD_eq_getElem?_getD, List.getElem?_eq_getElem h]; rfl

set_option maxRecDepth 100000 in
set_option maxHeartbeats 4000000 in
theorem pieces_any (a : Option Addr) (cap : Nat) (ps : List Dr.Pc) (v : Value) (A : List Rn.Ag) (w : World) (hT : Tab w) (h : LP w a ps) (hn : ps.length ≤ 2199023255552) (hw : ∀ p ∈ ps, PcW p) (hv : AgV w v A) (hA : ∀ q ∈ A, AgW q) (hl : A.length ≤ 4398046511104) :
    Calls Tryz.prog 18 #[.slice a ps.length cap, v] w fun r w' => PcsTold ps A w r w' := by
  have hmf : ∀ (fn : Fn) (first cap : Array Value) (w : World), (Instr.makeFunc fn first cap).run Tryz.prog w = .ok (.func fn first cap) w := fun _ _ _ _ => rfl
  have AL := below_on (alloc_b w (.cells #[.string ⟨#[]⟩] 9)) (alloc_b (w.alloc (.cells #[.string ⟨#[]⟩] 9)) (.cells #[.int .i64 0] 41))
  have bt : ((w.alloc (.cells #[.string ⟨#[]⟩] 9)).alloc (.cells #[.int .i64 0] 41)).heap[w.heap.size]? = some (.cells #[.string ⟨#[]⟩] 9 (0, 0)) := heap_alloc2_old _ _ _
  have be : ((w.alloc (.cells #[.string ⟨#[]⟩] 9)).alloc (.cells #[.int .i64 0] 41)).heap[w.heap.size + 1]? = some (.cells #[.int .i64 0] 41 (0, 0)) := by
    have := heap_alloc_new (w.alloc (.cells #[.string ⟨#[]⟩] 9)) (.cells #[.int .i64 0] 41)
    rwa [World.size_alloc] at this
  have CK := hid (checkAll_any a cap ps _ (h.below AL) hn hw)
  have CP := hid (fun (E : Int) (W : World) (s0 e0 : Value) ht he => catch_panic w.heap.size (w.heap.size + 1) w.heap.size E s0 e0 W (Nat.le_refl _) (by omega) (by omega) ht he)
  have CI := hid (fun W => catch_idle ⟨w.heap.size, 0, none⟩ ⟨w.heap.size + 1, 0, none⟩ W)
  obtain ⟨pv, cv, rfl, lcv, hLA⟩ := hv
  go_enter_defers Tryz.func18, Tryz.ntmps18
  go_wp2_with fail
  by_cases ok : ∀ p ∈ ps, Dr.ok p
  · with_reducible refine CK.out.mono ?_
    rintro r w3 ⟨k, b3⟩
    rcases k with ⟨_, rfl⟩ | ⟨no, _⟩
    · have t3 : w3.heap[w.heap.size]? = some (.cells #[.string ⟨#[]⟩] 9 (0, 0)) := by rw [b3.block _ (blk_lt bt)]; exact bt
      have e3 : w3.heap[w.heap.size + 1]? = some (.cells #[.int .i64 0] 41 (0, 0)) := by rw [b3.block _ (blk_lt be)]; exact be
      have B3 := hid (AL.trans (b3.mono AL.size))
      have TB := hid (hT.below B3.out)
      have W0 : Hid (RWS w3 (.slice pv A.length cv) A [] (w3.alloc (.cells #[.slice pv A.length cv, .pointer none, .slice none 0 0] 83))) := ⟨alloc_b _ _, ⟨pv, cv, rfl, lcv, hLA.below B3.out⟩, IsW.new _ _⟩
      obtain ⟨R, hR⟩ : ∃ R, Rn.run Rn.stE Rn.stT ps A [] = R := ⟨_, rfl⟩
      have I0 : Hid (PI w3 ps R 0 (w3.alloc (.cells #[.slice pv A.length cv, .pointer none, .slice none 0 0] 83))) := ⟨_, A, [], W0.out, by rw [List.drop_zero]; exact hR.symm, by simp, hA, hl⟩
      have FIN : Hid (∀ e t w', R = (e, t) → Below w.heap.size w w' → PcsTold ps A w (.returned (.tuple #[.string (strOfNums t), .int .i64 e])) w') := by
        intro e t w' q k
        refine ⟨?_, k⟩
        rw [Rn.pE, if_pos ok, Rn.pT, if_pos ok, hR, q]
      have H := hid h
      have HW := hid hw
      have HO := hid ok
      have HN := hid hn
      have T3 := hid t3
      have E3 := hid e3
      clear CK b3 bt be AL hT h hw hn hA hl lcv hLA ok W0 hR t3 e3
      go_wp2_with fail
      go_loopg [16] ps.length (fun m iv wr => ∃ i : Nat, i + m = ps.length ∧ iv = .int .i64 (i : Int) ∧ Hid (PI w3 ps R i wr))
      case atStart => exact ⟨0, by omega, rfl, I0.out⟩
      case round =>
        obtain ⟨i, hi, rfl, I⟩ := hrel
        clear I0
        obtain ⟨v1, Ai, zs, S, hR, hz, hAi, hli⟩ := I.out
        clear I
        have BW := hid (below_on B3.out S.bel)
        by_cases il : i < ps.length
        · have ili : (i : Int) < (ps.length : Int) := by omega
          have ib : (i : Int) ≤ 2199023255552 := by have := HN.out; omega
          obtain ⟨b, off, rfl, hc⟩ := (H.out.below BW.out).at i il
          obtain ⟨c0, c1, c2, c3, c4, c5, c6⟩ := hc
          have DG := drop_get il
          rw [DG] at hR
          have RD := hid (fun wk (k : RWS w3 v1 Ai zs wk) => rendered_any w3 wk TB.out v1 Ai zs (ps.getD i Dr.Pc.no) k (HW.out _ (rget_mem il)) (HO.out _ (rget_mem il)) hAi hli)
          have S1 := hid (fun v0 v1' v2 v3 v4 v5 v6 => S.on (alloc_b wr (.cells #[v0, v1', v2, v3, v4, v5, v6] 39)))
          have DR : ∀ q ∈ Ai.drop (Dr.tk (ps.getD i Dr.Pc.no)).toNat, AgW q := fun q hq => hAi q (List.mem_of_mem_drop hq)
          have DN : (Ai.drop (Dr.tk (ps.getD i Dr.Pc.no)).toNat).length ≤ 4398046511104 := by rw [List.length_drop]; omega
          generalize ps.getD i Dr.Pc.no = p at *
          rw [Rn.run] at hR
          have RR := hid hR
          have DR := hid DR
          have DN := hid DN
          have HZ := hid hz
          clear S DG hR hAi hli hz
          go_wp2_with fail
          with_reducible refine (RD.out _ (S1.out _ _ _ _ _ _ _)).mono ?_
          rintro r w4 k
          rcases k with ⟨ne, rfl, b4⟩ | ⟨e0, rfl, v4, S4'⟩
          · have Q : Hid (R = (Rn.stE p Ai, [])) := by rw [Hid, RR.out, if_pos ne]
            clear RR RD S1 ne c0 c1 c2 c3 c4 c5 c6
            generalize Rn.stE p Ai = EE at *
            refine leaves_cons (f := 37) (args := #[.pointer (some ⟨w.heap.size, 0, none⟩), .pointer (some ⟨w.heap.size + 1, 0, none⟩)]) (by simp) (by simp [go_sem]) ?_
            refine (CP.out _ _ _ _ (by rw [b4.block _ (blk_lt T3.out)]; exact T3.out) (by rw [b4.block _ (blk_lt E3.out)]; exact E3.out)).mono ?_
            rintro e u' w9 ⟨rfl, rfl, c1, c2, b9⟩
            have F := FIN.out EE [] w9 Q.out ((below_on B3.out b4).trans b9)
            simp [Leaves, settle, results, Tryz.results18, go_sem, c1, c2]
            exact F
          · have N0 : ¬ Rn.stE p Ai ≠ 0 := fun q => q e0
            have RR := hid RR.out
            rw [if_neg N0] at RR
            clear RD S1 e0 N0 c0 c1 c2 c3 c4 c5 c6
            generalize Rn.stT p Ai = T at *
            by_cases lg : 16777216 < zs.length + T.length
            · have Q : Hid (R = (3, [])) := by rw [Hid, RR.out, if_pos lg]
              have WL := hid (write_long w3 w4 v4 _ zs T S4' HZ.out lg)
              clear RR lg S4'
              go_wp2_with fail
              with_reducible refine WL.out.mono ?_
              rintro r w5 ⟨rfl, b5⟩
              refine leaves_cons (f := 37) (args := #[.pointer (some ⟨w.heap.size, 0, none⟩), .pointer (some ⟨w.heap.size + 1, 0, none⟩)]) (by simp) (by simp [go_sem]) ?_
              refine (CP.out _ _ _ _ (by rw [b5.block _ (blk_lt T3.out)]; exact T3.out) (by rw [b5.block _ (blk_lt E3.out)]; exact E3.out)).mono ?_
              rintro e u' w9 ⟨rfl, rfl, c1, c2, b9⟩
              have F := FIN.out 3 [] w9 Q.out ((below_on B3.out b5).trans b9)
              simp [Leaves, settle, results, Tryz.results18, go_sem, c1, c2]
              exact F
            · have RR := hid RR.out
              rw [if_neg lg] at RR
              have WO := hid (write_ok w3 w4 v4 _ zs T S4' (by omega))
              have LG : Hid (zs.length + T.length ≤ 16777216) := by show _ ≤ _; omega
              clear lg S4'
              go_wp2_with fail
              with_reducible refine WO.out.mono ?_
              rintro r w5 ⟨rfl, S5⟩
              have PP : Hid (PI w3 ps R (i + 1) w5) := ⟨v4, _, _, S5, RR.out, by rw [List.length_append]; exact LG.out, DR.out, DN.out⟩
              clear WO RR S5 DR DN LG HZ
              go_wp2_with fail
              go_roundg (ps.length - (i + 1))
              case measure => omega
              case rel => exact ⟨i + 1, by omega, by go_num, PP.out⟩
        · have ili : ¬ (i : Int) < (ps.length : Int) := by omega
          rw [List.drop_of_length_le (by omega), Rn.run] at hR
          have Q := hid hR
          have ST := hid (wstr_any _ _ v1 zs wr S.isw S.bel.size)
          have SB := hid S.bel
          clear S hR hz hAi hli
          go_wp2_with fail
          with_reducible refine ST.out.mono ?_
          rintro r w5 ⟨rfl, b5⟩
          have b6 := SB.out.trans b5
          have t5 : w5.heap[w.heap.size]? = some (.cells #[.string ⟨#[]⟩] 9 (0, 0)) := by rw [b6.block _ (blk_lt T3.out)]; exact T3.out
          have e5 : w5.heap[w.heap.size + 1]? = some (.cells #[.int .i64 0] 41 (0, 0)) := by rw [b6.block _ (blk_lt E3.out)]; exact E3.out
          have c1 : w5.cell? ⟨w.heap.size, 0, none⟩ = some (.string ⟨#[]⟩) := by rw [Lib.cell_of_heap t5]; rfl
          have c2 : w5.cell? ⟨w.heap.size + 1, 0, none⟩ = some (.int .i64 0) := by rw [Lib.cell_of_heap e5]; rfl
          have f1 := Lib.frozen_of_heap t5 0
          have f2 := Lib.frozen_of_heap e5 0
          have BF := hid (((below_on B3.out b6).setCell (p := ⟨w.heap.size, 0, none⟩) (Nat.le_refl _) (.string (strOfNums zs))).setCell (p := ⟨w.heap.size + 1, 0, none⟩) (Nat.le_succ _) (.int .i64 0))
          have D1 : ((w5.setCell ⟨w.heap.size, 0, none⟩ (.string (strOfNums zs))).setCell ⟨w.heap.size + 1, 0, none⟩ (.int .i64 0)).cell? ⟨w.heap.size, 0, none⟩ = some (.string (strOfNums zs)) := by
            simp [World.cell?, World.setCell, Array.getElem?_modify, t5]
          have D2 : ((w5.setCell ⟨w.heap.size, 0, none⟩ (.string (strOfNums zs))).setCell ⟨w.heap.size + 1, 0, none⟩ (.int .i64 0)).cell? ⟨w.heap.size + 1, 0, none⟩ = some (.int .i64 0) := by
            simp [World.cell?, World.setCell, Array.getElem?_modify, e5]
          have D1 := hid D1
          have D2 := hid D2
          clear t5 e5 b5 b6 ST SB
          go_wp2_with fail
          refine leaves_cons (f := 37) (args := #[.pointer (some ⟨w.heap.size, 0, none⟩), .pointer (some ⟨w.heap.size + 1, 0, none⟩)]) (by simp) (by simp [go_sem]) ?_
          refine (CI.out _).mono ?_
          rintro e u' w9 ⟨rfl, rfl, e9⟩
          subst e9
          have F := FIN.out 0 zs _ Q.out BF.out
          have D1 := D1.out
          have D2 := D2.out
          clear c1 c2 f1 f2
          simp only [Leaves, settle]
          simp [results, Tryz.results18, go_sem, D1, D2]
          exact F
    · exact absurd ok no
  · have PE : Rn.pE ps A = 132 ∧ Rn.pT ps A = [] := ⟨if_neg ok, if_neg ok⟩
    with_reducible refine CK.out.mono ?_
    rintro r w3 ⟨k, b3⟩
    rcases k with ⟨y, _⟩ | ⟨_, rfl⟩
    · exact absurd y ok
    · have t3 : w3.heap[w.heap.size]? = some (.cells #[.string ⟨#[]⟩] 9 (0, 0)) := by rw [b3.block _ (blk_lt bt)]; exact bt
      have e3 : w3.heap[w.heap.size + 1]? = some (.cells #[.int .i64 0] 41 (0, 0)) := by rw [b3.block _ (blk_lt be)]; exact be
      refine leaves_cons (f := 37) (args := #[.pointer (some ⟨w.heap.size, 0, none⟩), .pointer (some ⟨w.heap.size + 1, 0, none⟩)]) (by simp) (by simp [go_sem]) ?_
      refine (CP.out 132 w3 _ _ t3 e3).mono ?_
      rintro e u' w4 ⟨rfl, rfl, c1, c2, b4⟩
      have F : PcsTold ps A w (.returned (.tuple #[.string ⟨#[]⟩, .int .i64 132])) w4 := ⟨by rw [PE.1, PE.2]; rfl, (AL.trans (b3.mono AL.size)).trans b4⟩
      simp [Leaves, settle, results, Tryz.results18, go_sem, c1, c2]
      exact F

theorem pc_of_ok {p : Dr.Pc} (h : Dr.ok p) : 0 ≤ p.v ∧ p.v < 256 := by
  rcases h with h | h | h
  · have := h.2.1; omega
  · have := h.2.1; omega
  · have := Dr.verb_ne h.1; omega

set_option maxRecDepth 100000 in
theorem sprintf_any (s : ByteArray) (xs : List Int) (v : Value) (A : List Rn.Ag) (w : World) (hT : Tab w) (hs : Str s xs) (hx : xs.length ≤ 1099511627776) (hv : AgV w v A) (hA : ∀ q ∈ A, AgW q) (hl : A.length ≤ 4398046511104) :
    Calls Tryz.prog 15 #[.string s, v] w fun r w' => r = .returned (.tuple #[.string (strOfNums (Rn.spT xs A)), .int .i64 (Rn.spE xs A)]) ∧ Below w.heap.size w w' := by
  have PA := hid (parse_any s xs w hs hx)
  by_cases e0 : (Dr.prs xs).2.2 = 0
  · obtain ⟨q1, q2⟩ := Rn.sp_good (A := A) e0
    rw [q1, q2]
    have PC : Hid (∀ (wk : World) (a : Option Addr) (cap : Nat), Below w.heap.size w wk → LP wk a (Dr.prs xs).1 → Calls Tryz.prog 18 #[.slice a (Dr.prs xs).1.length cap, v] wk fun r w' => PcsTold (Dr.prs xs).1 A wk r w') := by
      intro wk a cap k lp
      refine pieces_any a cap _ v A wk (hT.below k) lp (by have := Dr.prs_lng _ xs (Nat.le_refl _); omega) ?_ (hv.below k) hA hl
      intro p hp
      have o := Dr.prs_form _ xs (Nat.le_refl _) p hp
      exact ⟨fun x hx => hs.mem (Dr.prs_sub _ xs (Nat.le_refl _) p hp x hx), pc_of_ok o⟩
    unfold PaTold at PA
    rw [e0] at PA
    generalize (Dr.prs xs).1 = ps at *
    generalize (Dr.prs xs).2.1 = at_ at *
    clear hs hx hv hA hl hT q1 q2 e0
    go_enter Tryz.func15, Tryz.ntmps15
    go_wp2_with fail
    with_reducible refine PA.out.mono ?_
    rintro r w1 ⟨mv, rfl, r1, b1⟩
    obtain ⟨a, cap, rfl, _, lp⟩ := r1.lp
    have LPh := hid lp
    have B1 := hid b1
    clear r1 b1 lp PA
    go_wp2_with fail
    with_reducible refine (PC.out _ _ _ B1.out LPh.out).mono ?_
    rintro r w2 ⟨rfl, b2⟩
    have B2 := hid (below_on B1.out b2)
    clear b2 PC B1 LPh
    go_wp2_with fail
    go_ret2
    exact ⟨rfl, B2.out⟩
  · obtain ⟨q1, q2⟩ := Rn.f_bad (E := Rn.stE) (T := Rn.stT) (A := A) e0
    rw [Rn.spE, Rn.spT, q1, q2]
    unfold PaTold at PA
    generalize (Dr.prs xs).2.2 = E at *
    generalize (Dr.prs xs).2.1 = at_ at *
    have n1 : (E == 0) = false := by simpa using e0
    have n2 : (E != 0) = true := by simpa using e0
    clear hs hx hv hA hl hT q1 q2 e0
    go_enter Tryz.func15, Tryz.ntmps15
    go_wp2_with fail
    with_reducible refine PA.out.mono ?_
    rintro r w1 ⟨mv, rfl, r1, b1⟩
    have B1 := hid b1
    clear r1 b1 PA
    go_wp2_with fail
    go_ret2
    exact ⟨rfl, B1.out⟩
end Go.Proofs.YtiflponlioldmaaGreatDoor

namespace Go.Proofs.YtiflponlioldmaaGreatDoor
open Go Go.RowKit
namespace Wh
theorem dig_n {B v : Int} {up : Bool} (n : Nat) (h0 : 0 < v) (h1 : v < 18446744073709551616) (hB : 2 ≤ B) (h36 : B ≤ 36) (hl : v < B ^ n) : dig B up v = lets (lettersOf up) (Dn.strip (Dn.dg B n v)) := by
  have hz : Nm.Limbs [v] := fun x hx => by simp at hx; omega
  have hv : Nm.val [v] = v := by simp [Nm.val]
  have tp : 0 < Nm.tsize [v] := by have := Nm.tsize_zero_iff hz; omega
  have t1 : Nm.tsize [v] ≤ 4096 := Nat.le_trans (Nm.tsize_le [v]) (by simp)
  have q := dig_is (up := up) (B := B) hz (by rw [hv]; exact h0) t1 hB h36 (InIs.ok (up := up) n tp t1 hB h36 (by rw [hv]; exact hl))
  rw [hv] at q
  exact q.1.symm
end Wh
namespace Fx
theorem r995 : X 4636702106982547456 = [57, 57, 53] ∧ P 4636702106982547456 = -1 := by
  obtain ⟨s, D⟩ := dig_c (T := 199 * 5 ^ 1) (xs := [57, 57, 53]) (fun d h => by simp at h; omega) (by decide) (by decide) (by decide) (by decide)
  have m : Ie.dm 4636702106982547456 = 7001690045677568 := by decide
  have e : Ie.de 4636702106982547456 = -46 := by decide
  refine X_of (by rw [m]; omega) ?_
  rw [m, e]
  exact ex_odd (t := 45) (q := 199) (n := 1) (by decide) (by omega) (by decide) (by omega) (by decide) D
theorem rpl995 : pA 4636702106982547456 1 = [57, 57] ∧ pB 4636702106982547456 1 = [53] := by
  have r : rf 4636702106982547456 1 0 = 0 := by decide
  have w : W 4636702106982547456 1 = [57, 57, 53] := by
    unfold W
    rw [r995.1, r995.2]
    decide
  refine ⟨?_, ?_⟩
  · rw [pA, if_pos r, show (1 : Int).toNat = 1 from rfl, w]
    decide
  · rw [pB, if_pos r, show (1 : Int).toNat = 1 from rfl, w]
    decide
end Fx
namespace Po
theorem rren995 : ren 102 0 5 1 4636702106982547456 = [32, 57, 57, 46, 53] := by
  have r : renE 102 0 5 1 = 0 := by decide
  rw [ren, if_pos r, if_pos (by decide), bd, if_pos (by decide), show pr 1 = 1 from rfl, bdF, Fx.rpl995.1, Fx.rpl995.2]
  decide
end Po
namespace Rn
theorem wpt5 : wpt 4617315517961601024 = 5 := by
  show Ie.whp (4617315517961601024 % 9223372036854775808) = 5
  rw [Ie.whp_low _ 50 (by decide)]; decide
theorem wpt42 : wpt 4631107791820423168 = 42 := by
  show Ie.whp (4631107791820423168 % 9223372036854775808) = 42
  rw [Ie.whp_low _ 47 (by decide)]; decide
theorem wpt4 : wpt 4616189618054758400 = 4 := by
  show Ie.whp (4616189618054758400 % 9223372036854775808) = 4
  rw [Ie.whp_low _ 50 (by decide)]; decide
theorem wpt1 : wpt 13830554455654793216 = 1 := by
  show Ie.whp (13830554455654793216 % 9223372036854775808) = 1
  rw [Ie.whp_low _ 52 (by decide)]; decide
theorem cut5 : cutI 4617315517961601024 = 5 := by rw [cutI, wpt5]; decide
theorem cut4 : cutI 4616189618054758400 = 4 := by rw [cutI, wpt4]; decide

/-- The five arguments, the format, its text. -/
def awA : List Ag := [⟨false, 4617315517961601024, []⟩, ⟨false, 4631107791820423168, []⟩, ⟨false, 4616189618054758400, []⟩, ⟨true, 0, [97, 98]⟩, ⟨false, 4636702106982547456, []⟩]
def awF : List Int := [91, 37, 42, 100, 124, 37, 45, 42, 115, 93, 32, 37, 53, 46, 49, 102, 37, 37]
def awT : List Int := [91, 32, 32, 32, 52, 50, 124, 97, 98, 32, 32, 93, 32, 32, 57, 57, 46, 53, 37]
def p1 : Dr.Pc := ⟨[91], 0, 0, 0, 0, 0, 0⟩
def p2 : Dr.Pc := ⟨[], 100, 0, 2, 0, 0, 0⟩
def p3 : Dr.Pc := ⟨[124], 0, 0, 0, 0, 0, 0⟩
def p4 : Dr.Pc := ⟨[], 115, 1, 2, 0, 0, 0⟩
def p5 : Dr.Pc := ⟨[93, 32], 0, 0, 0, 0, 0, 0⟩
def p6 : Dr.Pc := ⟨[], 102, 0, 1, 5, 1, 1⟩
def p7 : Dr.Pc := ⟨[], 37, 0, 0, 0, 0, 0⟩
theorem awP : Dr.prs awF = ([p1, p2, p3, p4, p5, p6, p7], 0, 0) := by kernel_rfl
theorem drop1 : awA.drop 2 = [⟨false, 4616189618054758400, []⟩, ⟨true, 0, [97, 98]⟩, ⟨false, 4636702106982547456, []⟩] := rfl
theorem aw2 : stE p2 awA = 0 ∧ stT p2 awA = [32, 32, 32, 52, 50] := by
  have cw : cW p2 awA = 5 := by
    rw [cW, if_pos (show p2.wk = 2 from rfl)]
    show cutI 4617315517961601024 = 5
    exact cut5
  have cp : cP p2 awA = 0 := rfl
  refine ⟨?_, ?_⟩
  · rw [stE, if_neg (by decide), dirE, if_neg (by decide), if_neg (by decide), if_neg (by decide), cw, cp, if_neg (by decide)]
    decide
  · rw [stT, if_neg (by decide), if_neg (by decide), dirT, cw, cp]
    show oneT 100 0 5 (-1) ⟨false, 4631107791820423168, []⟩ = _
    rw [oneT, if_neg (by decide), if_neg (by decide), if_neg (by decide), if_pos (by decide), if_pos (by decide), wpt42, Wh.sigT, Wh.dig_n 3 (by decide) (by decide) (by decide) (by decide) (by decide)]
    decide
def awB : List Ag := [⟨false, 4616189618054758400, []⟩, ⟨true, 0, [97, 98]⟩, ⟨false, 4636702106982547456, []⟩]
theorem aw4 : stE p4 awB = 0 ∧ stT p4 awB = [97, 98, 32, 32] := by
  have cw : cW p4 awB = 4 := by
    rw [cW, if_pos (show p4.wk = 2 from rfl)]
    show cutI 4616189618054758400 = 4
    exact cut4
  have cp : cP p4 awB = 0 := rfl
  refine ⟨?_, ?_⟩
  · rw [stE, if_neg (by decide), dirE, if_neg (by decide), if_neg (by decide), if_neg (by decide), cw, cp, if_neg (by decide)]
    decide
  · rw [stT, if_neg (by decide), if_neg (by decide), dirT, cw, cp]
    show oneT 115 1 4 (-1) ⟨true, 0, [97, 98]⟩ = _
    rw [oneT, if_neg (by decide), if_pos (by decide)]
    decide
def awC : List Ag := [⟨false, 4636702106982547456, []⟩]
theorem aw6 : stE p6 awC = 0 ∧ stT p6 awC = [32, 57, 57, 46, 53] := by
  have cw : cW p6 awC = 0 := rfl
  have cp : cP p6 awC = 0 := rfl
  refine ⟨?_, ?_⟩
  · rw [stE, if_neg (by decide), dirE, if_neg (by decide), if_neg (by decide), if_neg (by decide), cw, cp, if_neg (by decide)]
    decide
  · rw [stT, if_neg (by decide), if_neg (by decide), dirT, cw, cp]
    show oneT 102 0 5 1 ⟨false, 4636702106982547456, []⟩ = _
    rw [oneT, if_neg (by decide), if_neg (by decide), if_neg (by decide), if_neg (by decide), if_neg (by decide)]
    exact Po.rren995
theorem run_ok {E : Dr.Pc → List Ag → Int} {T : Dr.Pc → List Ag → List Int} {p : Dr.Pc} {l : List Dr.Pc} {A : List Ag} {o t : List Int} (k : Nat) (h1 : E p A = 0) (h2 : T p A = t) (h3 : (Dr.tk p).toNat = k) (h4 : o.length + t.length ≤ 16777216) : run E T (p :: l) A o = run E T l (A.drop k) (o ++ t) := by
  rw [run, h1, h2, h3, if_neg (fun q => q rfl), if_neg (by omega)]
theorem aw_ok : spE awF awA = 0 ∧ spT awF awA = awT := by
  have e0 : (Dr.prs awF).2.2 = 0 := by rw [awP]
  obtain ⟨a, b⟩ := f_good (E := stE) (T := stT) (A := awA) e0
  have r : run stE stT (Dr.prs awF).1 awA [] = (0, awT) := by
    rw [awP]
    show run stE stT [p1, p2, p3, p4, p5, p6, p7] awA [] = _
    rw [run_ok 0 (by rw [stE, if_pos (.inl rfl)]) (show stT p1 awA = [91] by rw [stT, if_pos (show p1.v = 0 from rfl)]; rfl) rfl (by simp), List.drop_zero,
      run_ok 2 aw2.1 aw2.2 rfl (by simp)]
    show run stE stT [p3, p4, p5, p6, p7] awB _ = _
    rw [run_ok 0 (by rw [stE, if_pos (.inl rfl)]) (show stT p3 awB = [124] by rw [stT, if_pos (show p3.v = 0 from rfl)]; rfl) rfl (by simp), List.drop_zero,
      run_ok 2 aw4.1 aw4.2 rfl (by simp)]
    show run stE stT [p5, p6, p7] awC _ = _
    rw [run_ok 0 (by rw [stE, if_pos (.inl rfl)]) (show stT p5 awC = [93, 32] by rw [stT, if_pos (show p5.v = 0 from rfl)]; rfl) rfl (by simp), List.drop_zero,
      run_ok 1 aw6.1 aw6.2 rfl (by simp)]
    show run stE stT [p7] [] _ = _
    rw [run_ok 0 (by rw [stE, if_pos (.inr rfl)]) (show stT p7 [] = [37] by rw [stT, if_neg (by decide), if_pos (show p7.v = 37 from rfl)]) rfl (by simp)]
    rfl
  exact ⟨by rw [spE, a, r], by rw [spT, b, r]⟩
theorem aw_hex : oneE 120 0 0 (-1) ⟨false, 13830554455654793216, []⟩ = 0 ∧ oneT 120 0 0 (-1) ⟨false, 13830554455654793216, []⟩ = [102, 102, 102, 102, 102, 102, 102, 102, 102, 102, 102, 102, 102, 102, 102, 102] := by
  refine ⟨by decide, ?_⟩
  have lw : low 13830554455654793216 = 18446744073709551615 := by rw [low, wpt1]; decide
  rw [oneT, if_neg (by decide), if_neg (by decide), if_neg (by decide), if_neg (by decide), if_pos (by decide), if_pos (by decide), lw, Wh.unsT, Wh.utext, Wh.umark, Wh.ubody]
  rw [show Wh.base 120 = 16 from rfl, Wh.dig_n (B := 16) 17 (by decide) (by decide) (by decide) (by decide) (by decide)]
  decide
end Rn
end Go.Proofs.YtiflponlioldmaaGreatDoor

namespace Go.Proofs.YtiflponlioldmaaGreatDoor
open Go Go.RowKit Go.Deep Go.Shelf

theorem awA_ok : ∀ q ∈ Rn.awA, AgW q := by
  intro q hq
  simp only [Rn.awA, List.mem_cons, List.not_mem_nil, or_false] at hq
  rcases hq with rfl | rfl | rfl | rfl | rfl
  · exact ⟨by simp, by constructor <;> decide, by decide⟩
  · exact ⟨by simp, by constructor <;> decide, by decide⟩
  · exact ⟨by simp, by constructor <;> decide, by decide⟩
  · exact ⟨by decide, by constructor <;> decide, by decide⟩
  · exact ⟨by simp, by constructor <;> decide, by decide⟩
theorem awA_lies (w : World) : AgV (w.alloc (.cells #[.bool false, .int .u64 4617315517961601024, .string ⟨#[]⟩, .bool false, .int .u64 4631107791820423168, .string ⟨#[]⟩, .bool false, .int .u64 4616189618054758400, .string ⟨#[]⟩, .bool true, .int .u64 0, .string ⟨#[97, 98]⟩, .bool false, .int .u64 4636702106982547456, .string ⟨#[]⟩] 28)) (.slice (some ⟨w.heap.size, 0, none⟩) 5 5) Rn.awA := by
  refine ⟨_, 5, rfl, Nat.le_refl _, .inr ⟨_, 0, rfl, fun i a hi => ?_⟩⟩
  have e := heap_alloc_new w (.cells #[.bool false, .int .u64 4617315517961601024, .string ⟨#[]⟩, .bool false, .int .u64 4631107791820423168, .string ⟨#[]⟩, .bool false, .int .u64 4616189618054758400, .string ⟨#[]⟩, .bool true, .int .u64 0, .string ⟨#[97, 98]⟩, .bool false, .int .u64 4636702106982547456, .string ⟨#[]⟩] 28)
  match i, hi with
  | 0, hi => obtain rfl : _ = a := Option.some.inj hi; exact ⟨by rw [Lib.cell_of_heap e]; rfl, by rw [Lib.cell_of_heap e]; rfl, by rw [Lib.cell_of_heap e]; rfl⟩
  | 1, hi => obtain rfl : _ = a := Option.some.inj hi; exact ⟨by rw [Lib.cell_of_heap e]; rfl, by rw [Lib.cell_of_heap e]; rfl, by rw [Lib.cell_of_heap e]; rfl⟩
  | 2, hi => obtain rfl : _ = a := Option.some.inj hi; exact ⟨by rw [Lib.cell_of_heap e]; rfl, by rw [Lib.cell_of_heap e]; rfl, by rw [Lib.cell_of_heap e]; rfl⟩
  | 3, hi => obtain rfl : _ = a := Option.some.inj hi; exact ⟨by rw [Lib.cell_of_heap e]; rfl, by rw [Lib.cell_of_heap e]; rfl, by rw [Lib.cell_of_heap e]; rfl⟩
  | 4, hi => obtain rfl : _ = a := Option.some.inj hi; exact ⟨by rw [Lib.cell_of_heap e]; rfl, by rw [Lib.cell_of_heap e]; rfl, by rw [Lib.cell_of_heap e]; rfl⟩
  | n + 5, hi => exact absurd hi (by simp [Rn.awA])

set_option maxRecDepth 100000 in
set_option maxHeartbeats 1000000 in
theorem rawake_any (w : World) (hT : Tab w) : Calls Tryz.prog 9 #[] w fun e w' => e = .returned (.bool true) ∧ Below w.heap.size w w' := by
  have AL := alloc_b w (.cells #[.bool false, .int .u64 4617315517961601024, .string ⟨#[]⟩, .bool false, .int .u64 4631107791820423168, .string ⟨#[]⟩, .bool false, .int .u64 4616189618054758400, .string ⟨#[]⟩, .bool true, .int .u64 0, .string ⟨#[97, 98]⟩, .bool false, .int .u64 4636702106982547456, .string ⟨#[]⟩] 28)
  have SP : Hid (Calls Tryz.prog 15 #[.string ⟨#[91, 37, 42, 100, 124, 37, 45, 42, 115, 93, 32, 37, 53, 46, 49, 102, 37, 37]⟩, .slice (some ⟨w.heap.size, 0, none⟩) 5 5] (w.alloc (.cells #[.bool false, .int .u64 4617315517961601024, .string ⟨#[]⟩, .bool false, .int .u64 4631107791820423168, .string ⟨#[]⟩, .bool false, .int .u64 4616189618054758400, .string ⟨#[]⟩, .bool true, .int .u64 0, .string ⟨#[97, 98]⟩, .bool false, .int .u64 4636702106982547456, .string ⟨#[]⟩] 28)) fun r w' => r = .returned (.tuple #[.string ⟨#[91, 32, 32, 32, 52, 50, 124, 97, 98, 32, 32, 93, 32, 32, 57, 57, 46, 53, 37]⟩, .int .i64 0]) ∧ Below w.heap.size w w') := by
    refine (sprintf_any ⟨#[91, 37, 42, 100, 124, 37, 45, 42, 115, 93, 32, 37, 53, 46, 49, 102, 37, 37]⟩ Rn.awF _ Rn.awA _ (hT.below AL) rfl (by decide) (awA_lies w) awA_ok (by decide)).mono ?_
    rintro r w' ⟨rfl, k⟩
    rw [Rn.aw_ok.1, Rn.aw_ok.2]
    exact ⟨rfl, below_on AL k⟩
  have ON : Hid (∀ wk, Tab wk → Calls Tryz.prog 22 #[.agg #[.int .u8 120, .int .i64 0, .int .i64 0, .int .i64 (-1)], .agg #[.bool false, .int .u64 13830554455654793216, .string ⟨#[]⟩]] wk fun r w' => r = .returned (.tuple #[.string ⟨#[102, 102, 102, 102, 102, 102, 102, 102, 102, 102, 102, 102, 102, 102, 102, 102]⟩, .int .i64 0]) ∧ Below wk.heap.size wk w') := by
    intro wk k
    refine (one_any 120 0 0 (-1) ⟨false, 13830554455654793216, []⟩ wk k (by decide) (by decide) ⟨by simp, by constructor <;> decide, by decide⟩).mono ?_
    rintro r w' ⟨rfl, b⟩
    rw [Rn.aw_hex.1, Rn.aw_hex.2]
    exact ⟨rfl, b⟩
  have TB : Hid (∀ wk, Below w.heap.size w wk → Tab wk) := fun wk k => hT.below k
  clear AL hT
  go_enter Tryz.func9, Tryz.ntmps9
  go_wp2_with fail
  with_reducible refine SP.out.mono ?_
  rintro r w1 ⟨rfl, b1⟩
  have B1 := hid b1
  clear b1 SP
  go_wp2_with fail
  with_reducible refine (ON.out _ (TB.out _ B1.out)).mono ?_
  rintro r w2 ⟨rfl, b2⟩
  have B2 := hid (below_on B1.out b2)
  clear b2 ON TB B1
  go_wp2_with fail
  go_ret
  exact ⟨rfl, B2.out⟩
end Go.Proofs.YtiflponlioldmaaGreatDoor

namespace Go.Proofs.YtiflponlioldmaaGreatDoor
open Go Go.RowKit Go.Deep Go.Shelf

theorem str_ne {T : List Int} (h : T ≠ []) : (strOfNums T).toList ≠ [] ∧ ((strOfNums T).toList == []) = false ∧ (strOfNums T).toList.isEmpty = false := by
  have e : (strOfNums T).toList.isEmpty = T.isEmpty := isEmpty_nums T
  have e2 : T.isEmpty = false := by cases T with
    | nil => exact absurd rfl h
    | cons x l => rfl
  have n : (strOfNums T).toList ≠ [] := by
    intro q
    rw [q, e2] at e
    simp at e
  exact ⟨n, by simpa using n, by rw [e, e2]⟩

set_option maxRecDepth 100000 in
set_option maxHeartbeats 4000000 in
theorem rchain_law (s t : ByteArray) (xs ys : List Int) (pv : Option Addr) (cap : Nat) (A : List Rn.Ag) (w : World) (hT : Tab w) (hs : Str s xs) (ht : Str t ys) (hx : xs.length ≤ 1048576) (hy : ys.length ≤ 1048576) (hL : LA w pv A) (hA : ∀ q ∈ A, AgW q) (hc : A.length ≤ cap) (hl : A.length ≤ 1048576) (hz : pv = none → cap = 0) (hcb : cap ≤ 4398046511104) :
    Calls Tryz.prog 5 #[.string s, .string t, .slice pv A.length cap] w fun e w' => e = .returned (.bool true) ∧ Below w.heap.size w w' := by
  have AW := hid (rawake_any w hT)
  have sx := hs.size
  have sy := ht.size
  have PX := hid (fun W => parse_any s xs W hs (by omega))
  have PY := hid (fun W => parse_any t ys W ht (by omega))
  unfold PaTold at PX PY
  have TB : Hid (∀ wk, Below w.heap.size w wk → Tab wk) := fun wk k => hT.below k
  have SA : Hid (∀ wk (v : Value) (B : List Rn.Ag), Below w.heap.size w wk → AgV w v B → (∀ q ∈ B, AgW q) → B.length ≤ 1048576 → Calls Tryz.prog 15 #[.string s, v] wk fun r w' => r = .returned (.tuple #[.string (strOfNums (Rn.spT xs B)), .int .i64 (Rn.spE xs B)]) ∧ Below wk.heap.size wk w') := fun wk v B k h1 h2 h3 => sprintf_any s xs v B wk (TB.out _ k) hs (by omega) (h1.below k) h2 (by omega)
  have SB' : Hid (∀ wk (v : Value) (B : List Rn.Ag), Below w.heap.size w wk → AgV w v B → (∀ q ∈ B, AgW q) → B.length ≤ 1048576 → Calls Tryz.prog 15 #[.string t, v] wk fun r w' => r = .returned (.tuple #[.string (strOfNums (Rn.spT ys B)), .int .i64 (Rn.spE ys B)]) ∧ Below wk.heap.size wk w') := fun wk v B k h1 h2 h3 => sprintf_any t ys v B wk (TB.out _ k) ht (by omega) (h1.below k) h2 (by omega)
  have SC : Hid (∀ wk (v : Value) (B : List Rn.Ag), Below w.heap.size w wk → AgV w v B → (∀ q ∈ B, AgW q) → B.length ≤ 1048576 → Calls Tryz.prog 15 #[.string (s ++ t), v] wk fun r w' => r = .returned (.tuple #[.string (strOfNums (Rn.spT (xs ++ ys) B)), .int .i64 (Rn.spE (xs ++ ys) B)]) ∧ Below wk.heap.size wk w') := fun wk v B k h1 h2 h3 => sprintf_any (s ++ t) (xs ++ ys) v B wk (TB.out _ k) (hs.app ht) (by rw [List.length_append]; omega) (h1.below k) h2 (by omega)
  have AV0 : Hid (AgV w (.slice pv A.length cap) A) := ⟨pv, cap, rfl, hc, hL⟩
  have CAT : ∀ wx, (Op.stringOp .add s t).run Tryz.prog wx = .ok (.string (s ++ t)) wx := fun wx => run_string_add_sum wx _ _ (by omega)
  have HA := hid hA
  by_cases ok : (Dr.prs xs).2.2 = 0
  · rw [ok] at PX
    by_cases ok2 : (Dr.prs ys).2.2 = 0
    · rw [ok2] at PY
      have WN : Hid (∀ wk (a : Option Addr) (c : Nat), LP wk a (Dr.prs xs).1 → Calls Tryz.prog 16 #[.slice a (Dr.prs xs).1.length c] wk fun e w' => e = .returned (.int .i64 (Dr.wants (Dr.prs xs).1)) ∧ Below wk.heap.size wk w') := fun wk a c k => wants_any a c _ wk k (by have := Dr.prs_lng _ xs (Nat.le_refl _); omega)
      have SAc := hid (fun wk k => SA.out wk _ A k AV0.out HA.out hl)
      have SCc := hid (fun wk k => SC.out wk _ A k AV0.out HA.out hl)
      by_cases e1 : Rn.spE xs A ≠ 0
      · obtain ⟨q1, q2, q3⟩ := Rn.chain_err Rn.loc A ok ok2 e1
        have SAc : Hid (∀ wk, Below w.heap.size w wk → Calls Tryz.prog 15 #[.string s, .slice pv A.length cap] wk fun r w' => r = .returned (.tuple #[.string ⟨#[]⟩, .int .i64 (Rn.spE xs A)]) ∧ Below wk.heap.size wk w') := fun wk k => by
          have q := SAc.out wk k
          rw [show Rn.spT xs A = [] from q3] at q
          exact q
        have SCc : Hid (∀ wk, Below w.heap.size w wk → Calls Tryz.prog 15 #[.string (s ++ t), .slice pv A.length cap] wk fun r w' => r = .returned (.tuple #[.string ⟨#[]⟩, .int .i64 (Rn.spE xs A)]) ∧ Below wk.heap.size wk w') := fun wk k => by
          have q := SCc.out wk k
          rw [show Rn.spT (xs ++ ys) A = [] from q2, show Rn.spE (xs ++ ys) A = Rn.spE xs A from q1] at q
          exact q
        generalize Rn.spE xs A = E at *
        have n1 : (E == 0) = false := by simpa using e1
        have n2 : (E != 0) = true := by simpa using e1
        generalize (Dr.prs xs).1 = l at *
        generalize Dr.wants l = k at *
        clear hT hs ht hx hy hL hA hc hl hz hcb sx sy TB SA SB' SC AV0 HA ok ok2 e1 q1 q2 q3
        go_enter Tryz.func5, Tryz.ntmps5
        go_wp2_with fail
        refine AW.out.mono ?_
        rintro e w0 ⟨rfl, b0⟩
        have B0 := hid b0
        clear b0 AW
        go_wp2_with fail
        with_reducible refine (PX.out _).mono ?_
        rintro r w1 ⟨mv, rfl, r1, b1⟩
        obtain ⟨la, lc, rfl, _, lp⟩ := r1.lp
        have LP1 := hid lp
        have K1 := hid b1
        have B1 := hid (below_on B0.out b1)
        clear b1 r1 lp PX B0
        go_wp2_with fail
        with_reducible refine (SCc.out _ B1.out).mono ?_
        rintro r w2 ⟨rfl, b2⟩
        have B2 := hid (below_on B1.out b2)
        have LP2 := hid (LP1.out.below b2)
        clear b2 SCc LP1 B1
        go_wp2_with fail
        with_reducible refine (PY.out _).mono ?_
        rintro r w3 ⟨mv3, rfl, r3, b3⟩
        have B3 := hid (below_on B2.out b3)
        have LP3 := hid (LP2.out.below b3)
        clear b3 r3 PY LP2 B2
        go_wp2_with fail
        with_reducible refine (WN.out _ _ _ LP3.out).mono ?_
        rintro r w4 ⟨rfl, b4⟩
        have B4 := hid (below_on B3.out b4)
        clear b4 WN LP3 B3
        go_wp2_with fail
        with_reducible refine (SAc.out _ B4.out).mono ?_
        rintro r w5 ⟨rfl, b5⟩
        have B5 := hid (below_on B4.out b5)
        clear b5 SAc B4
        go_wp2_with fail
        go_ret
        exact ⟨rfl, B5.out⟩
      · have e1' : Rn.spE xs A = 0 := by simpa using e1
        obtain ⟨k0, k1, t1, t2, fB, fG⟩ := Rn.chain_ok Rn.loc A ok ok2 e1'
        obtain ⟨K, hK⟩ : ∃ K : Nat, Dr.wants (Dr.prs xs).1 = (K : Int) := ⟨(Dr.wants (Dr.prs xs).1).toNat, by omega⟩
        rw [hK] at WN k1
        rw [show (Dr.wants (Dr.prs xs).1).toNat = K by omega] at t1 t2 fB fG
        have SAc : Hid (∀ wk, Below w.heap.size w wk → Calls Tryz.prog 15 #[.string s, .slice pv A.length cap] wk fun r w' => r = .returned (.tuple #[.string (strOfNums (Rn.spT xs A)), .int .i64 0]) ∧ Below wk.heap.size wk w') := fun wk k => by
          have q := SAc.out wk k
          rw [e1'] at q
          exact q
        have SAk : Hid (∀ wk, Below w.heap.size w wk → Calls Tryz.prog 15 #[.string s, .slice pv K cap] wk fun r w' => r = .returned (.tuple #[.string (strOfNums (Rn.spT xs A)), .int .i64 0]) ∧ Below wk.heap.size wk w') := fun wk k => by
          have q := SA.out wk (.slice pv K cap) (A.take K) k ⟨pv, cap, by rw [List.length_take, Nat.min_eq_left (by omega)], by rw [List.length_take]; omega, hL.take K⟩ (fun q hq => hA q (List.mem_of_mem_take hq)) (by rw [List.length_take]; omega)
          rw [show Rn.spE xs (A.take K) = 0 from t1, show Rn.spT xs (A.take K) = Rn.spT xs A from t2] at q
          exact q
        have SBk := hid (fun wk v k h1 => SB'.out wk v (A.drop K) k h1 (fun q hq => hA q (List.mem_of_mem_drop hq)) (by rw [List.length_drop]; omega))
        have HD : Hid (∀ b off, pv = some ⟨b, off, none⟩ → LA w (some ⟨b, off + 3 * K, none⟩) (A.drop K)) := fun b off q => by
          rw [q] at hL; exact hL.drop K
        have kc : (K : Int) ≤ (A.length : Int) := by omega
        have kcap : (A.length : Int) ≤ (cap : Int) := by omega
        have cb : (cap : Int) ≤ 4398046511104 := by omega
        have FB : Hid (Rn.spE ys (A.drop K) ≠ 0 → Rn.spT (xs ++ ys) A = [] ∧ (Rn.spE (xs ++ ys) A = Rn.spE ys (A.drop K) ∨ (Rn.spE (xs ++ ys) A = 3 ∧ Rn.spT xs A ≠ []))) := fB
        have FG : Hid (Rn.spE ys (A.drop K) = 0 → (16777216 < (Rn.spT xs A).length + (Rn.spT ys (A.drop K)).length → Rn.spE (xs ++ ys) A = 3 ∧ Rn.spT (xs ++ ys) A = []) ∧ (¬ 16777216 < (Rn.spT xs A).length + (Rn.spT ys (A.drop K)).length → Rn.spE (xs ++ ys) A = 0 ∧ Rn.spT (xs ++ ys) A = Rn.spT xs A ++ Rn.spT ys (A.drop K))) := fG
        have ls : (Rn.spT xs A).length ≤ 16777216 := by
          obtain ⟨_, z⟩ := Rn.f_good (E := Rn.stE) (T := Rn.stT) (A := A) ok
          rw [show Rn.spT xs A = _ from z]
          exact Rn.run_len _ _ _ (by simp)
        have lt' : (Rn.spT ys (A.drop K)).length ≤ 16777216 := by
          obtain ⟨_, z⟩ := Rn.f_good (E := Rn.stE) (T := Rn.stT) (A := A.drop K) ok2
          rw [show Rn.spT ys (A.drop K) = _ from z]
          exact Rn.run_len _ _ _ (by simp)
        have HZ := hid hz
        have HLn := hid (List.length_drop (l := A) (i := K))
        have HNL := hid hL
        clear hT hs ht hx hy hL hA hc hl hz hcb sx sy TB SA SB' SC AV0 HA ok ok2 e1 e1' k0 k1 t1 t2 fB fG hK
        generalize Rn.spE ys (A.drop K) = f at *
        generalize Rn.spT ys (A.drop K) = T at *
        generalize Rn.spE (xs ++ ys) A = g at *
        generalize Rn.spT (xs ++ ys) A = U at *
        generalize Rn.spT xs A = S at *
        generalize (Dr.prs xs).1 = l at *
        generalize (Dr.prs xs).2.1 = at1 at *
        generalize (Dr.prs ys).1 = l2 at *
        generalize (Dr.prs ys).2.1 = at2 at *
        have szS : ((strOfNums S).size : Int) ≤ 16777216 := by rw [strOfNums_size]; omega
        have szT : ((strOfNums T).size : Int) ≤ 16777216 := by rw [strOfNums_size]; omega
        go_enter Tryz.func5, Tryz.ntmps5
        go_wp2_with fail
        refine AW.out.mono ?_
        rintro e w0 ⟨rfl, b0⟩
        have B0 := hid b0
        clear b0 AW
        go_wp2_with fail
        with_reducible refine (PX.out _).mono ?_
        rintro r w1 ⟨mv, rfl, r1, b1⟩
        obtain ⟨la, lc, rfl, _, lp⟩ := r1.lp
        have LP1 := hid lp
        have B1 := hid (below_on B0.out b1)
        clear b1 r1 lp PX B0
        go_wp2_with fail
        with_reducible refine (SCc.out _ B1.out).mono ?_
        rintro r w2 ⟨rfl, b2⟩
        have B2 := hid (below_on B1.out b2)
        have LP2 := hid (LP1.out.below b2)
        clear b2 SCc LP1 B1
        go_wp2_with fail
        with_reducible refine (PY.out _).mono ?_
        rintro r w3 ⟨mv3, rfl, r3, b3⟩
        have B3 := hid (below_on B2.out b3)
        have LP3 := hid (LP2.out.below b3)
        clear b3 r3 PY LP2 B2
        go_wp2_with fail
        with_reducible refine (WN.out _ _ _ LP3.out).mono ?_
        rintro r w4 ⟨rfl, b4⟩
        have B4 := hid (below_on B3.out b4)
        clear b4 WN LP3 B3
        go_wp2_with fail
        with_reducible refine (SAc.out _ B4.out).mono ?_
        rintro r w5 ⟨rfl, b5⟩
        have B5 := hid (below_on B4.out b5)
        clear b5 SAc B4
        go_wp2_with fail
        with_reducible refine (SAk.out _ B5.out).mono ?_
        rintro r w6 ⟨rfl, b6⟩
        have B6 := hid (below_on B5.out b6)
        clear b6 SAk B5
        cases pv with
        | none =>
          have z0 := HZ.out rfl
          subst z0
          have AD : Hid (AgV w (.slice none (A.length - K) 0) (A.drop K)) := ⟨none, 0, by rw [HLn.out], by rw [HLn.out]; omega, .inl (List.eq_nil_of_length_eq_zero (by rw [HLn.out]; omega))⟩
          go_wp2_with fail
          with_reducible refine (SBk.out _ _ B6.out AD.out).mono ?_
          rintro r w7 ⟨rfl, b7⟩
          have B7 := hid (below_on B6.out b7)
          clear b7 SBk B6
          by_cases f0 : f = 0
          · have G := hid (FG.out f0)
            subst f0
            clear FB FG HD HZ HLn HNL
            by_cases lg : 16777216 < S.length + T.length
            · obtain ⟨rfl, rfl⟩ := G.out.1 lg
              have lgi : (16777216 : Int) < ((strOfNums S).size : Int) + ((strOfNums T).size : Int) := by rw [strOfNums_size, strOfNums_size]; omega
              rw [show strOfNums [] = ⟨#[]⟩ from rfl]
              clear G lg ls lt'
              go_wp2_with fail
              go_ret
              exact ⟨rfl, B7.out⟩
            · obtain ⟨rfl, rfl⟩ := G.out.2 lg
              have lgi : ¬ (16777216 : Int) < ((strOfNums S).size : Int) + ((strOfNums T).size : Int) := by rw [strOfNums_size, strOfNums_size]; omega
              have CAT2 : ∀ wx, (Op.stringOp .add (strOfNums S) (strOfNums T)).run Tryz.prog wx = .ok (.string (strOfNums (S ++ T))) wx := fun wx => by
                rw [nums_app]; exact run_string_add_sum wx _ _ (by omega)
              clear G lg ls lt'
              generalize strOfNums (S ++ T) = sst at *
              go_wp2_with fail
              go_ret
              exact ⟨rfl, B7.out⟩
          · have n1 : (f == 0) = false := by simpa using f0
            have n2 : (f != 0) = true := by simpa using f0
            obtain ⟨rfl, q⟩ := FB.out f0
            rw [show strOfNums [] = ⟨#[]⟩ from rfl]
            clear FB FG HD HZ HLn HNL ls lt' f0
            rcases q with q | ⟨q, sne⟩
            · subst q
              go_wp2_with fail
              go_ret
              exact ⟨rfl, B7.out⟩
            · subst q
              obtain ⟨s1, s2, s3⟩ := str_ne sne
              clear sne
              by_cases f3 : f = 3
              · subst f3
                go_wp2_with fail
                go_ret
                exact ⟨rfl, B7.out⟩
              · have m1 : ((3 : Int) == f) = false := by simpa using Ne.symm f3
                clear f3
                go_wp2_with fail
                go_ret
                exact ⟨rfl, B7.out⟩
        | some pa =>
          obtain ⟨pb, po, ps⟩ := pa
          have AD1 : Hid (cap = K → AgV w (.slice (some ⟨pb, po, ps⟩) (A.length - K) 0) (A.drop K)) := fun q => ⟨_, 0, by rw [HLn.out], by rw [HLn.out]; omega, .inl (List.eq_nil_of_length_eq_zero (by rw [HLn.out]; omega))⟩
          have AD2 : Hid (AgV w (.slice (some ((⟨pb, po, ps⟩ : Addr).add (K * 3))) (A.length - K) (cap - K)) (A.drop K)) := by
            refine ⟨_, cap - K, by rw [HLn.out], by rw [HLn.out]; omega, ?_⟩
            rcases HNL.out with q | ⟨b, off, q, _⟩
            · left; rw [q]; simp
            · simp only [Option.some.injEq, Addr.mk.injEq] at q
              obtain ⟨rfl, rfl, rfl⟩ := q
              rw [Go.WideShapes.add_plain, Nat.mul_comm]
              exact HD.out _ _ rfl
          by_cases ck : cap = K
          · have AD := hid (AD1.out ck)
            subst ck
            clear AD1 AD2
            go_wp2_with fail
            with_reducible refine (SBk.out _ _ B6.out AD.out).mono ?_
            rintro r w7 ⟨rfl, b7⟩
            have B7 := hid (below_on B6.out b7)
            clear b7 SBk B6
            by_cases f0 : f = 0
            · have G := hid (FG.out f0)
              subst f0
              clear FB FG HD HZ HLn HNL
              by_cases lg : 16777216 < S.length + T.length
              · obtain ⟨rfl, rfl⟩ := G.out.1 lg
                have lgi : (16777216 : Int) < ((strOfNums S).size : Int) + ((strOfNums T).size : Int) := by rw [strOfNums_size, strOfNums_size]; omega
                rw [show strOfNums [] = ⟨#[]⟩ from rfl]
                clear G lg ls lt'
                go_wp2_with fail
                go_ret
                exact ⟨rfl, B7.out⟩
              · obtain ⟨rfl, rfl⟩ := G.out.2 lg
                have lgi : ¬ (16777216 : Int) < ((strOfNums S).size : Int) + ((strOfNums T).size : Int) := by rw [strOfNums_size, strOfNums_size]; omega
                have CAT2 : ∀ wx, (Op.stringOp .add (strOfNums S) (strOfNums T)).run Tryz.prog wx = .ok (.string (strOfNums (S ++ T))) wx := fun wx => by
                  rw [nums_app]; exact run_string_add_sum wx _ _ (by omega)
                clear G lg ls lt'
                generalize strOfNums (S ++ T) = sst at *
                go_wp2_with fail
                go_ret
                exact ⟨rfl, B7.out⟩
            · have n1 : (f == 0) = false := by simpa using f0
              have n2 : (f != 0) = true := by simpa using f0
              obtain ⟨rfl, q⟩ := FB.out f0
              rw [show strOfNums [] = ⟨#[]⟩ from rfl]
              clear FB FG HD HZ HLn HNL ls lt' f0
              rcases q with q | ⟨q, sne⟩
              · subst q
                go_wp2_with fail
                go_ret
                exact ⟨rfl, B7.out⟩
              · subst q
                obtain ⟨s1, s2, s3⟩ := str_ne sne
                clear sne
                by_cases f3 : f = 3
                · subst f3
                  go_wp2_with fail
                  go_ret
                  exact ⟨rfl, B7.out⟩
                · have m1 : ((3 : Int) == f) = false := by simpa using Ne.symm f3
                  clear f3
                  go_wp2_with fail
                  go_ret
                  exact ⟨rfl, B7.out⟩
          · clear AD1
            go_wp2_with fail
            with_reducible refine (SBk.out _ _ B6.out AD2.out).mono ?_
            rintro r w7 ⟨rfl, b7⟩
            have B7 := hid (below_on B6.out b7)
            clear b7 SBk B6
            by_cases f0 : f = 0
            · have G := hid (FG.out f0)
              subst f0
              clear FB FG HD HZ HLn HNL
              by_cases lg : 16777216 < S.length + T.length
              · obtain ⟨rfl, rfl⟩ := G.out.1 lg
                have lgi : (16777216 : Int) < ((strOfNums S).size : Int) + ((strOfNums T).size : Int) := by rw [strOfNums_size, strOfNums_size]; omega
                rw [show strOfNums [] = ⟨#[]⟩ from rfl]
                clear G lg ls lt'
                go_wp2_with fail
                go_ret
                exact ⟨rfl, B7.out⟩
              · obtain ⟨rfl, rfl⟩ := G.out.2 lg
                have lgi : ¬ (16777216 : Int) < ((strOfNums S).size : Int) + ((strOfNums T).size : Int) := by rw [strOfNums_size, strOfNums_size]; omega
                have CAT2 : ∀ wx, (Op.stringOp .add (strOfNums S) (strOfNums T)).run Tryz.prog wx = .ok (.string (strOfNums (S ++ T))) wx := fun wx => by
                  rw [nums_app]; exact run_string_add_sum wx _ _ (by omega)
                clear G lg ls lt'
                generalize strOfNums (S ++ T) = sst at *
                go_wp2_with fail
                go_ret
                exact ⟨rfl, B7.out⟩
            · have n1 : (f == 0) = false := by simpa using f0
              have n2 : (f != 0) = true := by simpa using f0
              obtain ⟨rfl, q⟩ := FB.out f0
              rw [show strOfNums [] = ⟨#[]⟩ from rfl]
              clear FB FG HD HZ HLn HNL ls lt' f0
              rcases q with q | ⟨q, sne⟩
              · subst q
                go_wp2_with fail
                go_ret
                exact ⟨rfl, B7.out⟩
              · subst q
                obtain ⟨s1, s2, s3⟩ := str_ne sne
                clear sne
                by_cases f3 : f = 3
                · subst f3
                  go_wp2_with fail
                  go_ret
                  exact ⟨rfl, B7.out⟩
                · have m1 : ((3 : Int) == f) = false := by simpa using Ne.symm f3
                  clear f3
                  go_wp2_with fail
                  go_ret
                  exact ⟨rfl, B7.out⟩
    · obtain ⟨q1, q2⟩ := Rn.chain_bad (E := Rn.stE) (T := Rn.stT) A ok ok2
      have SCc : Hid (∀ wk, Below w.heap.size w wk → Calls Tryz.prog 15 #[.string (s ++ t), .slice pv A.length cap] wk fun r w' => r = .returned (.tuple #[.string ⟨#[]⟩, .int .i64 (Dr.prs ys).2.2]) ∧ Below wk.heap.size wk w') := fun wk k => by
        have q := SC.out wk _ A k AV0.out HA.out hl
        rw [show Rn.spT (xs ++ ys) A = [] from q2, show Rn.spE (xs ++ ys) A = (Dr.prs ys).2.2 from q1] at q
        exact q
      generalize (Dr.prs ys).2.2 = E at *
      have n1 : (E == 0) = false := by simpa using ok2
      have n2 : (E != 0) = true := by simpa using ok2
      clear hT hs ht hx hy hL hA hc hl hz hcb sx sy TB SA SB' SC AV0 HA ok ok2 q1 q2
      go_enter Tryz.func5, Tryz.ntmps5
      go_wp2_with fail
      refine AW.out.mono ?_
      rintro e w0 ⟨rfl, b0⟩
      have B0 := hid b0
      clear b0 AW
      go_wp2_with fail
      with_reducible refine (PX.out _).mono ?_
      rintro r w1 ⟨mv, rfl, r1, b1⟩
      have B1 := hid (below_on B0.out b1)
      clear b1 r1 PX B0
      go_wp2_with fail
      with_reducible refine (SCc.out _ B1.out).mono ?_
      rintro r w2 ⟨rfl, b2⟩
      have B2 := hid (below_on B1.out b2)
      clear b2 SCc B1
      go_wp2_with fail
      with_reducible refine (PY.out _).mono ?_
      rintro r w3 ⟨mv3, rfl, r3, b3⟩
      have B3 := hid (below_on B2.out b3)
      clear b3 r3 PY B2
      go_wp2_with fail
      go_ret
      exact ⟨rfl, B3.out⟩
  · obtain ⟨q1, q2⟩ := Rn.f_bad (E := Rn.stE) (T := Rn.stT) (A := A) ok
    have SAc : Hid (∀ wk, Below w.heap.size w wk → Calls Tryz.prog 15 #[.string s, .slice pv A.length cap] wk fun r w' => r = .returned (.tuple #[.string ⟨#[]⟩, .int .i64 (Dr.prs xs).2.2]) ∧ Below wk.heap.size wk w') := fun wk k => by
      have q := SA.out wk _ A k AV0.out HA.out hl
      rw [show Rn.spT xs A = [] from q2, show Rn.spE xs A = (Dr.prs xs).2.2 from q1] at q
      exact q
    generalize (Dr.prs xs).2.2 = E at *
    have n1 : (E == 0) = false := by simpa using ok
    have n2 : (E != 0) = true := by simpa using ok
    clear hT hs ht hx hy hL hA hc hl hz hcb sx sy TB SA SB' SC AV0 HA ok q1 q2 CAT PY
    go_enter Tryz.func5, Tryz.ntmps5
    go_wp2_with fail
    refine AW.out.mono ?_
    rintro e w0 ⟨rfl, b0⟩
    have B0 := hid b0
    clear b0 AW
    go_wp2_with fail
    with_reducible refine (PX.out _).mono ?_
    rintro r w1 ⟨mv, rfl, r1, b1⟩
    have B1 := hid (below_on B0.out b1)
    clear b1 r1 PX B0
    go_wp2_with fail
    with_reducible refine (SAc.out _ B1.out).mono ?_
    rintro r w2 ⟨rfl, b2⟩
    have B2 := hid (below_on B1.out b2)
    clear b2 SAc B1
    go_wp2_with fail
    go_ret
    exact ⟨rfl, B2.out⟩
end Go.Proofs.YtiflponlioldmaaGreatDoor

namespace Go.Proofs.YtiflponlioldmaaGreatDoor
open Go Go.RowKit Go.Deep

theorem tab_laid : (Rows.laid_math_bits_deBruijn64tab : DataW Unit) = Lib.tabData .u8 (List.map Int.ofNat Lib.deBruijn64tab) := by kernel_rfl

theorem tab_of {W : World} {rest : List (String × DataW Unit)} (h : laidMet Tryz.prog (("math/bits.deBruijn64tab", Rows.laid_math_bits_deBruijn64tab) :: rest) W) : Tab W := by
  rw [tab_laid] at h
  have ht := Lib.tabIs_of_head (g := 1) (t := 260) (e := 5) (n := 64) (k := .u8) (zs := List.map Int.ofNat Lib.deBruijn64tab) (by kernel_rfl) (by kernel_rfl) Tryz.underlying260 Tryz.underlying5 (by kernel_rfl) (by kernel_rfl) h
  intro j hj
  have hl : (List.map Int.ofNat Lib.deBruijn64tab).length = Lib.deBruijn64tab.length := by simp
  rw [ht.cell (g := 1) (by kernel_rfl) j (by omega)]
  simp [List.getD, hj]

end Go.Proofs.YtiflponlioldmaaGreatDoor

namespace Go.Proofs.YtiflponlioldmaaGreatDoor
open Go Go.RowKit Go.Deep Go.Shelf

theorem case_laid : Rows.laid_unicode_CaseRanges = Lib.caseData := by kernel_rfl

theorem laidVars_swap {P : Program} {w : World} {x y : String × DataW Unit} : ∀ {l : List (String × DataW Unit)} {ps : List MemPlace}, DataW.LaidVars P w (l ++ [y, x]) ps → ∃ qs, DataW.LaidVars P w (l ++ [x, y]) qs ∧ qs.Perm ps
  | [], ps, h => by
    obtain ⟨x1, x2⟩ := x
    obtain ⟨y1, y2⟩ := y
    obtain ⟨g, t, cs, fuel, p, q, h1, h2, h3, h4, ⟨g', t', cs', fuel', p', q', k1, k2, k3, k4, k5, rfl⟩, rfl⟩ := h
    have k5 : q' = [] := k5
    subst k5
    refine ⟨_, ⟨g', t', cs', fuel', p', _, k1, k2, k3, k4, ⟨g, t, cs, fuel, p, [], h1, h2, h3, h4, rfl, rfl⟩, rfl⟩, ?_⟩
    simp only [List.append_nil]
    exact List.perm_append_comm
  | (n, d) :: l, ps, h => by
    obtain ⟨g, t, cs, fuel, p, q, h1, h2, h3, h4, h5, rfl⟩ := h
    obtain ⟨qs, k1, k2⟩ := laidVars_swap h5
    exact ⟨_, ⟨g, t, cs, fuel, p, qs, h1, h2, h3, h4, k1, rfl⟩, List.Perm.append_left _ k2⟩
theorem laidMet_swap {P : Program} {w : World} {x y : String × DataW Unit} {l : List (String × DataW Unit)} (h : laidMet P (l ++ [y, x]) w) : laidMet P (l ++ [x, y]) w := by
  obtain ⟨ps, h1, h2, h3⟩ := h
  obtain ⟨qs, k1, k2⟩ := laidVars_swap h1
  exact ⟨qs, k1, (k2.nodup_iff).2 h2, fun b off hp => h3 b off (k2.mem_iff.1 hp)⟩
end Go.Proofs.YtiflponlioldmaaGreatDoor

namespace Go.Proofs.YtiflponlioldmaaGreatDoor

theorem bulk_pos {H : Type} (d : DataW H) : 1 ≤ Rows.uptoBulk d := by
  rcases d with l | _ | _ | _ | _ | _ | _ | _
  · cases l <;> simp [Rows.uptoBulk]
  all_goals simp [Rows.uptoBulk]

theorem bulk_all {H : Type} : ∀ l : List (DataW H), l.length ≤ Rows.uptoBulkAll l
  | [] => Nat.zero_le _
  | d :: r => by
    have h1 := bulk_pos d
    have h2 := bulk_all r
    simp only [Rows.uptoBulkAll, List.length_cons]
    omega

theorem bulk_slice {H : Type} (es sp : List (DataW H)) : es.length ≤ Rows.uptoBulk (.slice es sp) := by
  have := bulk_all es
  simp only [Rows.uptoBulk]
  omega
end Go.Proofs.YtiflponlioldmaaGreatDoor

namespace Go.Proofs.YtiflponlioldmaaGreatDoor
open Go Go.RowKit Go.Deep Go.ChangeShapes Go.WideShapes Go.ChangeAt

theorem abulk_mem {H : Type} : ∀ {l : List (DataW H)} {d : DataW H}, d ∈ l → Rows.uptoBulk d ≤ Rows.uptoBulkAll l
  | [], _, h => by simp at h
  | x :: r, d, h => by
    simp only [Rows.uptoBulkAll]
    rcases List.mem_cons.1 h with rfl | h
    · omega
    · have := abulk_mem h
      omega

theorem aall_mem {H : Type} {P : Program} {e : TypeId} : ∀ {l : List (DataW H)} {d : DataW H}, d ∈ l → ∀ n ∈ d.weights P e, n ∈ DataW.weightsAll P e l
  | [], _, h, _, _ => by simp at h
  | x :: r, d, h, n, hn => by
    simp only [DataW.weightsAll, List.mem_append]
    rcases List.mem_cons.1 h with rfl | h
    · exact .inl hn
    · exact .inr (aall_mem h n hn)

/-- What can be told of each place can be told of a list. -/
theorem alist_of_each {α : Type} {Q : Nat → α → Prop} : ∀ n, (∀ i, i < n → ∃ x, Q i x) → ∃ l : List α, l.length = n ∧ ∀ i x, l[i]? = some x → Q i x
  | 0, _ => ⟨[], rfl, by simp⟩
  | n + 1, h => by
    obtain ⟨l, h1, h2⟩ := alist_of_each n (fun i hi => h i (by omega))
    obtain ⟨x, hx⟩ := h n (by omega)
    refine ⟨l ++ [x], by simp [h1], fun i y hy => ?_⟩
    by_cases hi : i < l.length
    · rw [List.getElem?_append_left hi] at hy
      exact h2 i y hy
    · have hlt := (List.getElem?_eq_some_iff.1 hy).1
      simp only [List.length_append, List.length_cons, List.length_nil] at hlt
      obtain rfl : i = n := by omega
      rw [List.getElem?_append_right (by omega), h1, Nat.sub_self] at hy
      simp at hy
      subst hy
      exact hx

theorem list3 {α : Type} {l : List α} (h : l.length = 3) : ∃ c0 c1 c2, l = [c0, c1, c2] := by
  match l, h with
  | [c0, c1, c2], _ => exact ⟨c0, c1, c2, rfl⟩

theorem open_arg_cells {H : Type} {enc : TypeId × Value → H} {W : World} {fuel : Nat} {a0 a1 a2 : Value} {x : DataW H × List MemPlace} (hf : DataW.trod enc Tryz.prog W 0 (fun _ => true) true fuel 28 [a0, a1, a2] = some x)
    (hsz : ∀ n ∈ x.1.weights Tryz.prog 28, n ≤ reachBytes) :
    ∃ q : Rn.Ag, (a0 = .bool q.x ∧ a1 = .int .u64 q.n ∧ a2 = .string (strOfNums q.s)) ∧ AgW q ∧ q.s.length ≤ Rows.uptoBulk x.1 := by
  obtain ⟨xs, n, _, hx, _, hlen, hfs⟩ := DataW.trod_struct Tryz.underlying28 hf
  obtain ⟨y0, y1, y2, rfl⟩ := list3 hlen
  have c4 : Tryz.prog.cellsOf 4 = 1 := by kernel_rfl
  have c6 : Tryz.prog.cellsOf 26 = 1 := by kernel_rfl
  have cs : Tryz.prog.cellsOf 9 = 1 := by kernel_rfl
  have f0 : DataW.trod enc Tryz.prog W 0 (fun _ => true) true n 4 [a0] = some y0 := by simpa [c4] using hfs 0 _ rfl
  have f1 : DataW.trod enc Tryz.prog W 0 (fun _ => true) true n 26 [a1] = some y1 := by simpa [c6] using hfs 1 _ rfl
  have f2 : DataW.trod enc Tryz.prog W 0 (fun _ => true) true n 9 [a2] = some y2 := by simpa [cs] using hfs 2 _ rfl
  have hd : x.1 = .agg [y0.1, y1.1, y2.1] := by rw [hx]; rfl
  obtain ⟨bx, e0, _⟩ := DataW.trod_bool Tryz.underlying4 f0
  obtain ⟨v, e1, _, w1⟩ := DataW.trod_int Tryz.underlying26 f1
  obtain ⟨s, e2, q2, _⟩ := DataW.trod_string Tryz.underlying9 f2
  have hs : s.data.toList.length ≤ reachBytes := by
    refine hsz _ ?_
    rw [hd]
    simp only [DataW.weights, Tryz.underlying28]
    refine DataW.weights_mem_each (ts := [4, 26, 9]) (ds := [y0.1, y1.1, y2.1]) (j := 2) (t := 9) (d := y2.1) rfl rfl _ ?_
    rw [q2]
    simp [DataW.weights]
  have hb : s.data.toList.length ≤ Rows.uptoBulk x.1 := by
    rw [hd, q2]
    simp only [Rows.uptoBulk, Rows.uptoBulkAll]
    simp
    omega
  have b1 := bounds_u64 w1
  refine ⟨⟨bx, v, s.data.toList.map (fun b => (b.toNat : Int))⟩, ⟨(List.cons.inj e0).1, (List.cons.inj e1).1, ?_⟩, ⟨fun x hx => (Str.self s).mem hx, ⟨b1.1, Int.lt_of_le_of_lt b1.2 (by decide)⟩, ?_⟩, ?_⟩
  · rw [(List.cons.inj e2).1, ← str_is (Str.self s)]
  · rw [List.length_map]; exact Nat.le_trans hs (by decide)
  · rw [List.length_map]; exact hb

theorem array3 {α : Type} {cs : Array α} (h : cs.size = 3) : ∃ c0 c1 c2, cs = #[c0, c1, c2] := by
  obtain ⟨l⟩ := cs
  match l, h with
  | [c0, c1, c2], _ => exact ⟨c0, c1, c2, rfl⟩

set_option maxRecDepth 100000 in
theorem open_arg {H : Type} {enc : TypeId × Value → H} {W : World} {base : Nat} {v : Value} {d : DataW H} {p : List MemPlace} (hv : Value.okWide Tryz.prog W .any base 28 v) (h : DataW.Trod enc Tryz.prog W 0 (fun _ => true) true 28 v d p)
    (hsz : ∀ n ∈ d.weights Tryz.prog 28, n ≤ reachBytes) :
    ∃ q : Rn.Ag, v = .agg #[.bool q.x, .int .u64 q.n, .string (strOfNums q.s)] ∧ AgW q ∧ q.s.length ≤ Rows.uptoBulk d := by
  obtain ⟨cs, rfl, hs7⟩ := okWide_struct Tryz.underlying28 hv
  obtain ⟨a0, a1, a2, rfl⟩ := array3 (hs7.trans (show Tryz.prog.cellsOf 28 = 3 by kernel_rfl))
  obtain ⟨fuel, hf⟩ := h
  have hf' : DataW.trod enc Tryz.prog W 0 (fun _ => true) true fuel 28 [a0, a1, a2] = some (d, p) := by simpa [Value.cells] using hf
  obtain ⟨q, ⟨e0, e1, e2⟩, h1, h3⟩ := open_arg_cells (x := (d, p)) hf' hsz
  rw [e0, e1, e2]
  exact ⟨q, rfl, h1, h3⟩

set_option maxRecDepth 100000 in
theorem open_args {H : Type} {enc : TypeId × Value → H} {W : World} {a : Option Addr} {len cap : Nat} {d : DataW H} {p : List MemPlace} (h : DataW.Trod enc Tryz.prog W 0 (fun _ => true) true 30 (.slice a len cap) d p)
    (hsz : ∀ n ∈ d.weights Tryz.prog 30, n ≤ reachBytes) : ∃ ps : List Rn.Ag, ps.length = len ∧ LA W a ps ∧ (∀ q ∈ ps, AgW q) ∧ (∀ q ∈ ps, q.s.length ≤ Rows.uptoBulk d) ∧ len ≤ cap ∧ len ≤ 4398046511104 ∧ len ≤ Rows.uptoBulk d ∧ (a = none → cap = 0) ∧ cap ≤ 4398046511104 := by
  obtain ⟨fuel, hf⟩ := h
  rcases DataW.trod_slice Tryz.underlying30 hf with ⟨hcs, _⟩ | ⟨x, l, c, elems, rest, n, _, hcs, hx, _, hl, hm, he, hel, hsp, _⟩
  · simp [Value.cells] at hcs
    obtain ⟨rfl, rfl, rfl⟩ := hcs
    exact ⟨[], rfl, .inl rfl, by intro it h; simp at h, by intro it h; simp at h, by omega, by omega, by omega, fun _ => rfl, by omega⟩
  · simp [Value.cells] at hcs
    obtain ⟨rfl, rfl, rfl⟩ := hcs
    have hd : d = .slice (elems.map (·.1)) (rest.map (·.1)) := (Prod.mk.inj hx).1
    have hw : ∀ n ∈ (DataW.slice (elems.map (·.1)) (rest.map (·.1)) : DataW H).weights Tryz.prog 30, n ≤ reachBytes := by rw [← hd]; exact hsz
    simp only [DataW.weights, Tryz.underlying30] at hw
    have hr := hw _ List.mem_cons_self
    rw [show Tryz.prog.bytesOf 28 = 32 by kernel_rfl] at hr
    have hrl := (hsp rfl).1
    simp only [List.length_map, reachBytes] at hr
    have hbl : len ≤ Rows.uptoBulk d := by
      rw [hd]
      refine Nat.le_trans ?_ (bulk_slice _ _)
      rw [List.length_map]; omega
    rw [show Tryz.prog.cellsOf 28 = 3 by kernel_rfl] at hel
    obtain ⟨its, i1, i2⟩ := alist_of_each (Q := fun i (it : Rn.Ag) => (W.cell? (x.add (i * 3)) = some (.bool it.x) ∧ W.cell? ((x.add (i * 3)).add 1) = some (.int .u64 it.n) ∧ W.cell? ((x.add (i * 3)).add 2) = some (.string (strOfNums it.s))) ∧ AgW it ∧ it.s.length ≤ Rows.uptoBulk d) len (fun i hi => by
      have h1 := hel i hi
      have h2 : elems[i]? = some elems[i] := List.getElem?_eq_getElem (by omega)
      rw [h2] at h1
      obtain ⟨cs, h3, h4⟩ := Option.bind_eq_some_iff.1 h1
      obtain ⟨_, h5, h6⟩ := World.cells?_some h3
      obtain ⟨v0, v1, v2, rfl⟩ := list3 h5
      have e0 := h6 0 (by omega)
      have e1 := h6 1 (by omega)
      have e2 := h6 2 (by omega)
      have h8 : (x.add (i * 3)).add 0 = x.add (i * 3) := by simp [Addr.add]
      rw [h8] at e0
      obtain ⟨q, ⟨q0, q1, q2⟩, hA, hC⟩ := open_arg_cells h4 (fun m hm => hw m (List.mem_cons_of_mem _ (List.mem_append_left _ (aall_mem (List.mem_map.2 ⟨elems[i], List.getElem_mem _, rfl⟩) m hm))))
      subst q0 q1 q2
      refine ⟨q, ⟨e0, e1, e2⟩, hA, Nat.le_trans hC ?_⟩
      have := abulk_mem (l := elems.map (·.1)) (d := elems[i].1) (List.mem_map.2 ⟨elems[i], List.getElem_mem _, rfl⟩)
      rw [hd]
      simp only [Rows.uptoBulk]
      omega)
    refine ⟨its, i1, ?_, ?_, ?_, by omega, by omega, hbl, fun q => by simp at q, by omega⟩
    · rcases Nat.eq_zero_or_pos its.length with h0 | h0
      · exact .inl (List.eq_nil_of_length_eq_zero h0)
      · obtain ⟨b, off, spot⟩ := x
        have hspot : spot = none := by simpa [Addr.add] using World.cell?_spot (i2 0 _ (List.getElem?_eq_getElem h0)).1.1
        subst hspot
        refine .inr ⟨b, off, rfl, fun i it hi => ?_⟩
        obtain ⟨⟨q0, q1, q2⟩, _⟩ := i2 i it hi
        simp only [Go.WideShapes.add_plain] at q0 q1 q2
        exact ⟨q0, q1, q2⟩
    · intro it hit
      obtain ⟨i, hi⟩ := List.getElem?_of_mem hit
      exact (i2 i it hi).2.1
    · intro it hit
      obtain ⟨i, hi⟩ := List.getElem?_of_mem hit
      exact (i2 i it hi).2.2
end Go.Proofs.YtiflponlioldmaaGreatDoor
