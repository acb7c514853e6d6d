/-
  Texts put together: RnRdD, RnPc, RnAwN, RnAw, IWalk1A, IWhole1, DPrint, DBackM, RnStA, RnStB.
-/
import Derived.Test.YtiflponlioldmaaGreatDoorRnRdA
import Derived.Test.YtiflponlioldmaaGreatDoorRnRdB
import Derived.Test.YtiflponlioldmaaGreatDoorRnRdC
import Derived.Test.YtiflponlioldmaaGreatDoorRD
import Derived.Test.YtiflponlioldmaaGreatDoorRC
import Derived.Test.YtiflponlioldmaaGreatDoorIWalk1C
import Derived.Test.YtiflponlioldmaaGreatDoorRE
import Derived.Test.YtiflponlioldmaaGreatDoorFromW
import Derived.Deep.RegionWith
import Derived.Test.YtiflponlioldmaaGreatDoorRH
import Derived.Test.YtiflponlioldmaaGreatDoorRL
import Derived.Test.YtiflponlioldmaaGreatDoorDSettle
namespace Go.Proofs.YtiflponlioldmaaGreatDoor
open Go Go.RowKit Go.Deep Go.Shelf

theorem rendered_dir (w1 w : World) (hT : Tab w1) (v : Value) (A : List Rn.Ag) (zs : List Int) (p : Dr.Pc) (h : RWS w1 v A zs w) (hp : PcW p) (hr : Dr.isR p) (hA : ∀ a ∈ A, AgW a) (hl : A.length ≤ 4398046511104) :
    Calls Tryz.prog 41 #[.pointer (some ⟨w1.heap.size, 0, none⟩), .agg #[.string (strOfNums p.t), .int .u8 p.v, .int .i64 p.fl, .int .i64 p.wk, .int .i64 p.wd, .int .i64 p.pk, .int .i64 p.pr]] w fun r w' => DirTold w1 A zs p r w' := by
  by_cases few : (A.length : Int) < Dr.tk p
  · exact rdA w1 w hT v A zs p h hp hr hA hl (.inl few)
  by_cases bad1 : p.wk = 2 ∧ (Rn.aW A).x = true
  · exact rdA w1 w hT v A zs p h hp hr hA hl (.inr (.inl bad1))
  by_cases bad2 : p.pk = 2 ∧ (Rn.aP p A).x = true
  · exact rdA w1 w hT v A zs p h hp hr hA hl (.inr (.inr bad2))
  by_cases f1 : Ie.fnt (stV p.wk A) = false
  · exact rdB w1 w hT v A zs p h hp hr hA hl few bad1 bad2 (.inl f1)
  by_cases f2 : Ie.fnt (stV p.pk (stA p.wk A)) = false
  · exact rdB w1 w hT v A zs p h hp hr hA hl few bad1 bad2 (.inr f2)
  exact rdC w1 w hT v A zs p h hp hr hA hl few bad1 bad2 ⟨f1, f2⟩
end Go.Proofs.YtiflponlioldmaaGreatDoor

namespace Go.Proofs.YtiflponlioldmaaGreatDoor
open Go Go.RowKit Go.Deep Go.Shelf

/-- What a piece does. -/
def StTold (w1 : World) (A : List Rn.Ag) (zs : List Int) (p : Dr.Pc) (r : Ending) (w' : World) : Prop :=
  (Rn.stE p A ≠ 0 ∧ r = .panicked (flt (Rn.stE p A)) ∧ Below w1.heap.size w1 w') ∨
  (Rn.stE p A = 0 ∧ r = .returned (.string (strOfNums (Rn.stT p A))) ∧ ∃ v', RWS w1 v' (A.drop (Dr.tk p).toNat) zs w')
theorem rendered_any (w1 w : World) (hT : Tab w1) (v : Value) (A : List Rn.Ag) (zs : List Int) (p : Dr.Pc) (h : RWS w1 v A zs w) (hp : PcW p) (ho : Dr.ok p) (hA : ∀ a ∈ A, AgW a) (hl : A.length ≤ 4398046511104) :
    Calls Tryz.prog 41 #[.pointer (some ⟨w1.heap.size, 0, none⟩), .agg #[.string (strOfNums p.t), .int .u8 p.v, .int .i64 p.fl, .int .i64 p.wk, .int .i64 p.wd, .int .i64 p.pk, .int .i64 p.pr]] w fun r w' => StTold w1 A zs p r w' := by
  rcases ho with ho | ho | ho
  · have v0 : p.v = 0 := ho.2.1
    refine (rendered_text w1 w v A zs p h v0).mono ?_
    rintro r w' ⟨rfl, k⟩
    refine .inr ⟨by rw [Rn.stE, if_pos (.inl v0)], by rw [Rn.stT, if_pos v0], v, ?_⟩
    rw [show (Dr.tk p).toNat = 0 by rw [Dr.tk, if_pos (.inl v0)]; rfl, List.drop_zero]; exact k
  · have v0 : p.v = 37 := ho.2.1
    refine (rendered_pct w1 w v A zs p h v0).mono ?_
    rintro r w' ⟨rfl, k⟩
    refine .inr ⟨by rw [Rn.stE, if_pos (.inr v0)], by rw [Rn.stT, if_neg (by omega), if_pos v0], v, ?_⟩
    rw [show (Dr.tk p).toNat = 0 by rw [Dr.tk, if_pos (.inr v0)]; rfl, List.drop_zero]; exact k
  · obtain ⟨n0, n37, -⟩ := Dr.verb_ne ho.1
    refine (rendered_dir w1 w hT v A zs p h hp ho hA hl).mono ?_
    rintro r w' k
    unfold DirTold at k
    unfold StTold
    rw [show Rn.stE p A = Rn.dirE p A by rw [Rn.stE, if_neg (by omega)], show Rn.stT p A = Rn.dirT p A by rw [Rn.stT, if_neg n0, if_neg n37]]
    exact k

/-- The state of the loop. -/
def PI (w3 : World) (ps : List Dr.Pc) (R : Int × List Int) (i : Nat) (wr : World) : Prop :=
  ∃ v Ai zs, RWS w3 v Ai zs wr ∧ R = Rn.run Rn.stE Rn.stT (ps.drop i) Ai zs ∧ zs.length ≤ 16777216 ∧ (∀ a ∈ Ai, AgW a) ∧ Ai.length ≤ 4398046511104
/-- What Pieces tells. -/
def PcsTold (ps : List Dr.Pc) (A : List Rn.Ag) (w : World) (r : Ending) (w' : World) : Prop := r = .returned (.tuple #[.string (strOfNums (Rn.pT ps A)), .int .i64 (Rn.pE ps A)]) ∧ Below w.heap.size w w'

theorem drop_get {ps : List Dr.Pc} {i : Nat} (h : i < ps.length) : ps.drop i = ps.getD i Dr.Pc.no :: ps.drop (i + 1) := by
  rw [List.drop_eq_getElem_cons h, List.getD_eq_getElem?_getD, List.getElem?_eq_getElem h]; rfl

set_option maxRecDepth 100000 in
set_option maxHeartbeats 4000000 in
theorem pieces_any (a : Option Addr) (cap : Nat) (ps : List Dr.Pc) (v : Value) (A : List Rn.Ag) (w : World) (hT : Tab w) (h : LP w a ps) (hn : ps.length ≤ 2199023255552) (hw : ∀ p ∈ ps, PcW p) (hv : AgV w v A) (hA : ∀ q ∈ A, AgW q) (hl : A.length ≤ 4398046511104) :
    Calls Tryz.prog 18 #[.slice a ps.length cap, v] w fun r w' => PcsTold ps A w r w' := by
  have hmf : ∀ (fn : Fn) (first cap : Array Value) (w : World), (Instr.makeFunc fn first cap).run Tryz.prog w = .ok (.func fn first cap) w := fun _ _ _ _ => rfl
  have AL := below_on (alloc_b w (.cells #[.string ⟨#[]⟩] 9)) (alloc_b (w.alloc (.cells #[.string ⟨#[]⟩] 9)) (.cells #[.int .i64 0] 41))
  have bt : ((w.alloc (.cells #[.string ⟨#[]⟩] 9)).alloc (.cells #[.int .i64 0] 41)).heap[w.heap.size]? = some (.cells #[.string ⟨#[]⟩] 9 (0, 0)) := heap_alloc2_old _ _ _
  have be : ((w.alloc (.cells #[.string ⟨#[]⟩] 9)).alloc (.cells #[.int .i64 0] 41)).heap[w.heap.size + 1]? = some (.cells #[.int .i64 0] 41 (0, 0)) := by
    have := heap_alloc_new (w.alloc (.cells #[.string ⟨#[]⟩] 9)) (.cells #[.int .i64 0] 41)
    rwa [World.size_alloc] at this
  have CK := hid (checkAll_any a cap ps _ (h.below AL) hn hw)
  have CP := hid (fun (E : Int) (W : World) (s0 e0 : Value) ht he => catch_panic w.heap.size (w.heap.size + 1) w.heap.size E s0 e0 W (Nat.le_refl _) (by omega) (by omega) ht he)
  have CI := hid (fun W => catch_idle ⟨w.heap.size, 0, none⟩ ⟨w.heap.size + 1, 0, none⟩ W)
  obtain ⟨pv, cv, rfl, lcv, hLA⟩ := hv
  go_enter_defers Tryz.func18, Tryz.ntmps18
  go_wp2_with fail
  by_cases ok : ∀ p ∈ ps, Dr.ok p
  · with_reducible refine CK.out.mono ?_
    rintro r w3 ⟨k, b3⟩
    rcases k with ⟨_, rfl⟩ | ⟨no, _⟩
    · have t3 : w3.heap[w.heap.size]? = some (.cells #[.string ⟨#[]⟩] 9 (0, 0)) := by rw [b3.block _ (blk_lt bt)]; exact bt
      have e3 : w3.heap[w.heap.size + 1]? = some (.cells #[.int .i64 0] 41 (0, 0)) := by rw [b3.block _ (blk_lt be)]; exact be
      have B3 := hid (AL.trans (b3.mono AL.size))
      have TB := hid (hT.below B3.out)
      have W0 : Hid (RWS w3 (.slice pv A.length cv) A [] (w3.alloc (.cells #[.slice pv A.length cv, .pointer none, .slice none 0 0] 83))) := ⟨alloc_b _ _, ⟨pv, cv, rfl, lcv, hLA.below B3.out⟩, IsW.new _ _⟩
      obtain ⟨R, hR⟩ : ∃ R, Rn.run Rn.stE Rn.stT ps A [] = R := ⟨_, rfl⟩
      have I0 : Hid (PI w3 ps R 0 (w3.alloc (.cells #[.slice pv A.length cv, .pointer none, .slice none 0 0] 83))) := ⟨_, A, [], W0.out, by rw [List.drop_zero]; exact hR.symm, by simp, hA, hl⟩
      have FIN : Hid (∀ e t w', R = (e, t) → Below w.heap.size w w' → PcsTold ps A w (.returned (.tuple #[.string (strOfNums t), .int .i64 e])) w') := by
        intro e t w' q k
        refine ⟨?_, k⟩
        rw [Rn.pE, if_pos ok, Rn.pT, if_pos ok, hR, q]
      have H := hid h
      have HW := hid hw
      have HO := hid ok
      have HN := hid hn
      have T3 := hid t3
      have E3 := hid e3
      clear CK b3 bt be AL hT h hw hn hA hl lcv hLA ok W0 hR t3 e3
      go_wp2_with fail
      go_loopg [16] ps.length (fun m iv wr => ∃ i : Nat, i + m = ps.length ∧ iv = .int .i64 (i : Int) ∧ Hid (PI w3 ps R i wr))
      case atStart => exact ⟨0, by omega, rfl, I0.out⟩
      case round =>
        obtain ⟨i, hi, rfl, I⟩ := hrel
        clear I0
        obtain ⟨v1, Ai, zs, S, hR, hz, hAi, hli⟩ := I.out
        clear I
        have BW := hid (below_on B3.out S.bel)
        by_cases il : i < ps.length
        · have ili : (i : Int) < (ps.length : Int) := by omega
          have ib : (i : Int) ≤ 2199023255552 := by have := HN.out; omega
          obtain ⟨b, off, rfl, hc⟩ := (H.out.below BW.out).at i il
          obtain ⟨c0, c1, c2, c3, c4, c5, c6⟩ := hc
          have DG := drop_get il
          rw [DG] at hR
          have RD := hid (fun wk (k : RWS w3 v1 Ai zs wk) => rendered_any w3 wk TB.out v1 Ai zs (ps.getD i Dr.Pc.no) k (HW.out _ (rget_mem il)) (HO.out _ (rget_mem il)) hAi hli)
          have S1 := hid (fun v0 v1' v2 v3 v4 v5 v6 => S.on (alloc_b wr (.cells #[v0, v1', v2, v3, v4, v5, v6] 39)))
          have DR : ∀ q ∈ Ai.drop (Dr.tk (ps.getD i Dr.Pc.no)).toNat, AgW q := fun q hq => hAi q (List.mem_of_mem_drop hq)
          have DN : (Ai.drop (Dr.tk (ps.getD i Dr.Pc.no)).toNat).length ≤ 4398046511104 := by rw [List.length_drop]; omega
          generalize ps.getD i Dr.Pc.no = p at *
          rw [Rn.run] at hR
          have RR := hid hR
          have DR := hid DR
          have DN := hid DN
          have HZ := hid hz
          clear S DG hR hAi hli hz
          go_wp2_with fail
          with_reducible refine (RD.out _ (S1.out _ _ _ _ _ _ _)).mono ?_
          rintro r w4 k
          rcases k with ⟨ne, rfl, b4⟩ | ⟨e0, rfl, v4, S4'⟩
          · have Q : Hid (R = (Rn.stE p Ai, [])) := by rw [Hid, RR.out, if_pos ne]
            clear RR RD S1 ne c0 c1 c2 c3 c4 c5 c6
            generalize Rn.stE p Ai = EE at *
            refine leaves_cons (f := 37) (args := #[.pointer (some ⟨w.heap.size, 0, none⟩), .pointer (some ⟨w.heap.size + 1, 0, none⟩)]) (by simp) (by simp [go_sem]) ?_
            refine (CP.out _ _ _ _ (by rw [b4.block _ (blk_lt T3.out)]; exact T3.out) (by rw [b4.block _ (blk_lt E3.out)]; exact E3.out)).mono ?_
            rintro e u' w9 ⟨rfl, rfl, c1, c2, b9⟩
            have F := FIN.out EE [] w9 Q.out ((below_on B3.out b4).trans b9)
            simp [Leaves, settle, results, Tryz.results18, go_sem, c1, c2]
            exact F
          · have N0 : ¬ Rn.stE p Ai ≠ 0 := fun q => q e0
            have RR := hid RR.out
            rw [if_neg N0] at RR
            clear RD S1 e0 N0 c0 c1 c2 c3 c4 c5 c6
            generalize Rn.stT p Ai = T at *
            by_cases lg : 16777216 < zs.length + T.length
            · have Q : Hid (R = (3, [])) := by rw [Hid, RR.out, if_pos lg]
              have WL := hid (write_long w3 w4 v4 _ zs T S4' HZ.out lg)
              clear RR lg S4'
              go_wp2_with fail
              with_reducible refine WL.out.mono ?_
              rintro r w5 ⟨rfl, b5⟩
              refine leaves_cons (f := 37) (args := #[.pointer (some ⟨w.heap.size, 0, none⟩), .pointer (some ⟨w.heap.size + 1, 0, none⟩)]) (by simp) (by simp [go_sem]) ?_
              refine (CP.out _ _ _ _ (by rw [b5.block _ (blk_lt T3.out)]; exact T3.out) (by rw [b5.block _ (blk_lt E3.out)]; exact E3.out)).mono ?_
              rintro e u' w9 ⟨rfl, rfl, c1, c2, b9⟩
              have F := FIN.out 3 [] w9 Q.out ((below_on B3.out b5).trans b9)
              simp [Leaves, settle, results, Tryz.results18, go_sem, c1, c2]
              exact F
            · have RR := hid RR.out
              rw [if_neg lg] at RR
              have WO := hid (write_ok w3 w4 v4 _ zs T S4' (by omega))
              have LG : Hid (zs.length + T.length ≤ 16777216) := by show _ ≤ _; omega
              clear lg S4'
              go_wp2_with fail
              with_reducible refine WO.out.mono ?_
              rintro r w5 ⟨rfl, S5⟩
              have PP : Hid (PI w3 ps R (i + 1) w5) := ⟨v4, _, _, S5, RR.out, by rw [List.length_append]; exact LG.out, DR.out, DN.out⟩
              clear WO RR S5 DR DN LG HZ
              go_wp2_with fail
              go_roundg (ps.length - (i + 1))
              case measure => omega
              case rel => exact ⟨i + 1, by omega, by go_num, PP.out⟩
        · have ili : ¬ (i : Int) < (ps.length : Int) := by omega
          rw [List.drop_of_length_le (by omega), Rn.run] at hR
          have Q := hid hR
          have ST := hid (wstr_any _ _ v1 zs wr S.isw S.bel.size)
          have SB := hid S.bel
          clear S hR hz hAi hli
          go_wp2_with fail
          with_reducible refine ST.out.mono ?_
          rintro r w5 ⟨rfl, b5⟩
          have b6 := SB.out.trans b5
          have t5 : w5.heap[w.heap.size]? = some (.cells #[.string ⟨#[]⟩] 9 (0, 0)) := by rw [b6.block _ (blk_lt T3.out)]; exact T3.out
          have e5 : w5.heap[w.heap.size + 1]? = some (.cells #[.int .i64 0] 41 (0, 0)) := by rw [b6.block _ (blk_lt E3.out)]; exact E3.out
          have c1 : w5.cell? ⟨w.heap.size, 0, none⟩ = some (.string ⟨#[]⟩) := by rw [Lib.cell_of_heap t5]; rfl
          have c2 : w5.cell? ⟨w.heap.size + 1, 0, none⟩ = some (.int .i64 0) := by rw [Lib.cell_of_heap e5]; rfl
          have f1 := Lib.frozen_of_heap t5 0
          have f2 := Lib.frozen_of_heap e5 0
          have BF := hid (((below_on B3.out b6).setCell (p := ⟨w.heap.size, 0, none⟩) (Nat.le_refl _) (.string (strOfNums zs))).setCell (p := ⟨w.heap.size + 1, 0, none⟩) (Nat.le_succ _) (.int .i64 0))
          have D1 : ((w5.setCell ⟨w.heap.size, 0, none⟩ (.string (strOfNums zs))).setCell ⟨w.heap.size + 1, 0, none⟩ (.int .i64 0)).cell? ⟨w.heap.size, 0, none⟩ = some (.string (strOfNums zs)) := by
            simp [World.cell?, World.setCell, Array.getElem?_modify, t5]
          have D2 : ((w5.setCell ⟨w.heap.size, 0, none⟩ (.string (strOfNums zs))).setCell ⟨w.heap.size + 1, 0, none⟩ (.int .i64 0)).cell? ⟨w.heap.size + 1, 0, none⟩ = some (.int .i64 0) := by
            simp [World.cell?, World.setCell, Array.getElem?_modify, e5]
          have D1 := hid D1
          have D2 := hid D2
          clear t5 e5 b5 b6 ST SB
          go_wp2_with fail
          refine leaves_cons (f := 37) (args := #[.pointer (some ⟨w.heap.size, 0, none⟩), .pointer (some ⟨w.heap.size + 1, 0, none⟩)]) (by simp) (by simp [go_sem]) ?_
          refine (CI.out _).mono ?_
          rintro e u' w9 ⟨rfl, rfl, e9⟩
          subst e9
          have F := FIN.out 0 zs _ Q.out BF.out
          have D1 := D1.out
          have D2 := D2.out
          clear c1 c2 f1 f2
          simp only [Leaves, settle]
          simp [results, Tryz.results18, go_sem, D1, D2]
          exact F
    · exact absurd ok no
  · have PE : Rn.pE ps A = 132 ∧ Rn.pT ps A = [] := ⟨if_neg ok, if_neg ok⟩
    with_reducible refine CK.out.mono ?_
    rintro r w3 ⟨k, b3⟩
    rcases k with ⟨y, _⟩ | ⟨_, rfl⟩
    · exact absurd y ok
    · have t3 : w3.heap[w.heap.size]? = some (.cells #[.string ⟨#[]⟩] 9 (0, 0)) := by rw [b3.block _ (blk_lt bt)]; exact bt
      have e3 : w3.heap[w.heap.size + 1]? = some (.cells #[.int .i64 0] 41 (0, 0)) := by rw [b3.block _ (blk_lt be)]; exact be
      refine leaves_cons (f := 37) (args := #[.pointer (some ⟨w.heap.size, 0, none⟩), .pointer (some ⟨w.heap.size + 1, 0, none⟩)]) (by simp) (by simp [go_sem]) ?_
      refine (CP.out 132 w3 _ _ t3 e3).mono ?_
      rintro e u' w4 ⟨rfl, rfl, c1, c2, b4⟩
      have F : PcsTold ps A w (.returned (.tuple #[.string ⟨#[]⟩, .int .i64 132])) w4 := ⟨by rw [PE.1, PE.2]; rfl, (AL.trans (b3.mono AL.size)).trans b4⟩
      simp [Leaves, settle, results, Tryz.results18, go_sem, c1, c2]
      exact F

theorem pc_of_ok {p : Dr.Pc} (h : Dr.ok p) : 0 ≤ p.v ∧ p.v < 256 := by
  rcases h with h | h | h
  · have := h.2.1; omega
  · have := h.2.1; omega
  · have := Dr.verb_ne h.1; omega

set_option maxRecDepth 100000 in
theorem sprintf_any (s : ByteArray) (xs : List Int) (v : Value) (A : List Rn.Ag) (w : World) (hT : Tab w) (hs : Str s xs) (hx : xs.length ≤ 1099511627776) (hv : AgV w v A) (hA : ∀ q ∈ A, AgW q) (hl : A.length ≤ 4398046511104) :
    Calls Tryz.prog 15 #[.string s, v] w fun r w' => r = .returned (.tuple #[.string (strOfNums (Rn.spT xs A)), .int .i64 (Rn.spE xs A)]) ∧ Below w.heap.size w w' := by
  have PA := hid (parse_any s xs w hs hx)
  by_cases e0 : (Dr.prs xs).2.2 = 0
  · obtain ⟨q1, q2⟩ := Rn.sp_good (A := A) e0
    rw [q1, q2]
    have PC : Hid (∀ (wk : World) (a : Option Addr) (cap : Nat), Below w.heap.size w wk → LP wk a (Dr.prs xs).1 → Calls Tryz.prog 18 #[.slice a (Dr.prs xs).1.length cap, v] wk fun r w' => PcsTold (Dr.prs xs).1 A wk r w') := by
      intro wk a cap k lp
      refine pieces_any a cap _ v A wk (hT.below k) lp (by have := Dr.prs_lng _ xs (Nat.le_refl _); omega) ?_ (hv.below k) hA hl
      intro p hp
      have o := Dr.prs_form _ xs (Nat.le_refl _) p hp
      exact ⟨fun x hx => hs.mem (Dr.prs_sub _ xs (Nat.le_refl _) p hp x hx), pc_of_ok o⟩
    unfold PaTold at PA
    rw [e0] at PA
    generalize (Dr.prs xs).1 = ps at *
    generalize (Dr.prs xs).2.1 = at_ at *
    clear hs hx hv hA hl hT q1 q2 e0
    go_enter Tryz.func15, Tryz.ntmps15
    go_wp2_with fail
    with_reducible refine PA.out.mono ?_
    rintro r w1 ⟨mv, rfl, r1, b1⟩
    obtain ⟨a, cap, rfl, _, lp⟩ := r1.lp
    have LPh := hid lp
    have B1 := hid b1
    clear r1 b1 lp PA
    go_wp2_with fail
    with_reducible refine (PC.out _ _ _ B1.out LPh.out).mono ?_
    rintro r w2 ⟨rfl, b2⟩
    have B2 := hid (below_on B1.out b2)
    clear b2 PC B1 LPh
    go_wp2_with fail
    go_ret2
    exact ⟨rfl, B2.out⟩
  · obtain ⟨q1, q2⟩ := Rn.f_bad (E := Rn.stE) (T := Rn.stT) (A := A) e0
    rw [Rn.spE, Rn.spT, q1, q2]
    unfold PaTold at PA
    generalize (Dr.prs xs).2.2 = E at *
    generalize (Dr.prs xs).2.1 = at_ at *
    have n1 : (E == 0) = false := by simpa using e0
    have n2 : (E != 0) = true := by simpa using e0
    clear hs hx hv hA hl hT q1 q2 e0
    go_enter Tryz.func15, Tryz.ntmps15
    go_wp2_with fail
    with_reducible refine PA.out.mono ?_
    rintro r w1 ⟨mv, rfl, r1, b1⟩
    have B1 := hid b1
    clear r1 b1 PA
    go_wp2_with fail
    go_ret2
    exact ⟨rfl, B1.out⟩
end Go.Proofs.YtiflponlioldmaaGreatDoor

namespace Go.Proofs.YtiflponlioldmaaGreatDoor
open Go Go.RowKit
namespace Wh
theorem dig_n {B v : Int} {up : Bool} (n : Nat) (h0 : 0 < v) (h1 : v < 18446744073709551616) (hB : 2 ≤ B) (h36 : B ≤ 36) (hl : v < B ^ n) : dig B up v = lets (lettersOf up) (Dn.strip (Dn.dg B n v)) := by
  have hz : Nm.Limbs [v] := fun x hx => by simp at hx; omega
  have hv : Nm.val [v] = v := by simp [Nm.val]
  have tp : 0 < Nm.tsize [v] := by have := Nm.tsize_zero_iff hz; omega
  have t1 : Nm.tsize [v] ≤ 4096 := Nat.le_trans (Nm.tsize_le [v]) (by simp)
  have q := dig_is (up := up) (B := B) hz (by rw [hv]; exact h0) t1 hB h36 (InIs.ok (up := up) n tp t1 hB h36 (by rw [hv]; exact hl))
  rw [hv] at q
  exact q.1.symm
end Wh
namespace Fx
theorem r995 : X 4636702106982547456 = [57, 57, 53] ∧ P 4636702106982547456 = -1 := by
  obtain ⟨s, D⟩ := dig_c (T := 199 * 5 ^ 1) (xs := [57, 57, 53]) (fun d h => by simp at h; omega) (by decide) (by decide) (by decide) (by decide)
  have m : Ie.dm 4636702106982547456 = 7001690045677568 := by decide
  have e : Ie.de 4636702106982547456 = -46 := by decide
  refine X_of (by rw [m]; omega) ?_
  rw [m, e]
  exact ex_odd (t := 45) (q := 199) (n := 1) (by decide) (by omega) (by decide) (by omega) (by decide) D
theorem rpl995 : pA 4636702106982547456 1 = [57, 57] ∧ pB 4636702106982547456 1 = [53] := by
  have r : rf 4636702106982547456 1 0 = 0 := by decide
  have w : W 4636702106982547456 1 = [57, 57, 53] := by
    unfold W
    rw [r995.1, r995.2]
    decide
  refine ⟨?_, ?_⟩
  · rw [pA, if_pos r, show (1 : Int).toNat = 1 from rfl, w]
    decide
  · rw [pB, if_pos r, show (1 : Int).toNat = 1 from rfl, w]
    decide
end Fx
namespace Po
theorem rren995 : ren 102 0 5 1 4636702106982547456 = [32, 57, 57, 46, 53] := by
  have r : renE 102 0 5 1 = 0 := by decide
  rw [ren, if_pos r, if_pos (by decide), bd, if_pos (by decide), show pr 1 = 1 from rfl, bdF, Fx.rpl995.1, Fx.rpl995.2]
  decide
end Po
namespace Rn
theorem wpt5 : wpt 4617315517961601024 = 5 := by
  show Ie.whp (4617315517961601024 % 9223372036854775808) = 5
  rw [Ie.whp_low _ 50 (by decide)]; decide
theorem wpt42 : wpt 4631107791820423168 = 42 := by
  show Ie.whp (4631107791820423168 % 9223372036854775808) = 42
  rw [Ie.whp_low _ 47 (by decide)]; decide
theorem wpt4 : wpt 4616189618054758400 = 4 := by
  show Ie.whp (4616189618054758400 % 9223372036854775808) = 4
  rw [Ie.whp_low _ 50 (by decide)]; decide
theorem wpt1 : wpt 13830554455654793216 = 1 := by
  show Ie.whp (13830554455654793216 % 9223372036854775808) = 1
  rw [Ie.whp_low _ 52 (by decide)]; decide
theorem cut5 : cutI 4617315517961601024 = 5 := by rw [cutI, wpt5]; decide
theorem cut4 : cutI 4616189618054758400 = 4 := by rw [cutI, wpt4]; decide

/-- The five arguments, the format, its text. -/
def awA : List Ag := [⟨false, 4617315517961601024, []⟩, ⟨false, 4631107791820423168, []⟩, ⟨false, 4616189618054758400, []⟩, ⟨true, 0, [97, 98]⟩, ⟨false, 4636702106982547456, []⟩]
def awF : List Int := [91, 37, 42, 100, 124, 37, 45, 42, 115, 93, 32, 37, 53, 46, 49, 102, 37, 37]
def awT : List Int := [91, 32, 32, 32, 52, 50, 124, 97, 98, 32, 32, 93, 32, 32, 57, 57, 46, 53, 37]
def p1 : Dr.Pc := ⟨[91], 0, 0, 0, 0, 0, 0⟩
def p2 : Dr.Pc := ⟨[], 100, 0, 2, 0, 0, 0⟩
def p3 : Dr.Pc := ⟨[124], 0, 0, 0, 0, 0, 0⟩
def p4 : Dr.Pc := ⟨[], 115, 1, 2, 0, 0, 0⟩
def p5 : Dr.Pc := ⟨[93, 32], 0, 0, 0, 0, 0, 0⟩
def p6 : Dr.Pc := ⟨[], 102, 0, 1, 5, 1, 1⟩
def p7 : Dr.Pc := ⟨[], 37, 0, 0, 0, 0, 0⟩
theorem awP : Dr.prs awF = ([p1, p2, p3, p4, p5, p6, p7], 0, 0) := by kernel_rfl
theorem aw2 : stE p2 awA = 0 ∧ stT p2 awA = [32, 32, 32, 52, 50] := by
  have cw : cW p2 awA = 5 := by
    rw [cW, if_pos (show p2.wk = 2 from rfl)]
    show cutI 4617315517961601024 = 5
    exact cut5
  have cp : cP p2 awA = 0 := rfl
  refine ⟨?_, ?_⟩
  · rw [stE, if_neg (by decide), dirE, if_neg (by decide), if_neg (by decide), if_neg (by decide), cw, cp, if_neg (by decide)]
    decide
  · rw [stT, if_neg (by decide), if_neg (by decide), dirT, cw, cp]
    show oneT 100 0 5 (-1) ⟨false, 4631107791820423168, []⟩ = _
    rw [oneT, if_neg (by decide), if_neg (by decide), if_neg (by decide), if_pos (by decide), if_pos (by decide), wpt42, Wh.sigT, Wh.dig_n 3 (by decide) (by decide) (by decide) (by decide) (by decide)]
    decide
def awB : List Ag := [⟨false, 4616189618054758400, []⟩, ⟨true, 0, [97, 98]⟩, ⟨false, 4636702106982547456, []⟩]
theorem aw4 : stE p4 awB = 0 ∧ stT p4 awB = [97, 98, 32, 32] := by
  have cw : cW p4 awB = 4 := by
    rw [cW, if_pos (show p4.wk = 2 from rfl)]
    show cutI 4616189618054758400 = 4
    exact cut4
  have cp : cP p4 awB = 0 := rfl
  refine ⟨?_, ?_⟩
  · rw [stE, if_neg (by decide), dirE, if_neg (by decide), if_neg (by decide), if_neg (by decide), cw, cp, if_neg (by decide)]
    decide
  · rw [stT, if_neg (by decide), if_neg (by decide), dirT, cw, cp]
    show oneT 115 1 4 (-1) ⟨true, 0, [97, 98]⟩ = _
    rw [oneT, if_neg (by decide), if_pos (by decide)]
    decide
def awC : List Ag := [⟨false, 4636702106982547456, []⟩]
theorem aw6 : stE p6 awC = 0 ∧ stT p6 awC = [32, 57, 57, 46, 53] := by
  have cw : cW p6 awC = 0 := rfl
  have cp : cP p6 awC = 0 := rfl
  refine ⟨?_, ?_⟩
  · rw [stE, if_neg (by decide), dirE, if_neg (by decide), if_neg (by decide), if_neg (by decide), cw, cp, if_neg (by decide)]
    decide
  · rw [stT, if_neg (by decide), if_neg (by decide), dirT, cw, cp]
    show oneT 102 0 5 1 ⟨false, 4636702106982547456, []⟩ = _
    rw [oneT, if_neg (by decide), if_neg (by decide), if_neg (by decide), if_neg (by decide), if_neg (by decide)]
    exact Po.rren995
theorem run_ok {E : Dr.Pc → List Ag → Int} {T : Dr.Pc → List Ag → List Int} {p : Dr.Pc} {l : List Dr.Pc} {A : List Ag} {o t : List Int} (k : Nat) (h1 : E p A = 0) (h2 : T p A = t) (h3 : (Dr.tk p).toNat = k) (h4 : o.length + t.length ≤ 16777216) : run E T (p :: l) A o = run E T l (A.drop k) (o ++ t) := by
  rw [run, h1, h2, h3, if_neg (fun q => q rfl), if_neg (by omega)]
theorem aw_ok : spE awF awA = 0 ∧ spT awF awA = awT := by
  have e0 : (Dr.prs awF).2.2 = 0 := by rw [awP]
  obtain ⟨a, b⟩ := f_good (E := stE) (T := stT) (A := awA) e0
  have r : run stE stT (Dr.prs awF).1 awA [] = (0, awT) := by
    rw [awP]
    show run stE stT [p1, p2, p3, p4, p5, p6, p7] awA [] = _
    rw [run_ok 0 (by rw [stE, if_pos (.inl rfl)]) (show stT p1 awA = [91] by rw [stT, if_pos (show p1.v = 0 from rfl)]; rfl) rfl (by simp), List.drop_zero,
      run_ok 2 aw2.1 aw2.2 rfl (by simp)]
    show run stE stT [p3, p4, p5, p6, p7] awB _ = _
    rw [run_ok 0 (by rw [stE, if_pos (.inl rfl)]) (show stT p3 awB = [124] by rw [stT, if_pos (show p3.v = 0 from rfl)]; rfl) rfl (by simp), List.drop_zero,
      run_ok 2 aw4.1 aw4.2 rfl (by simp)]
    show run stE stT [p5, p6, p7] awC _ = _
    rw [run_ok 0 (by rw [stE, if_pos (.inl rfl)]) (show stT p5 awC = [93, 32] by rw [stT, if_pos (show p5.v = 0 from rfl)]; rfl) rfl (by simp), List.drop_zero,
      run_ok 1 aw6.1 aw6.2 rfl (by simp)]
    show run stE stT [p7] [] _ = _
    rw [run_ok 0 (by rw [stE, if_pos (.inr rfl)]) (show stT p7 [] = [37] by rw [stT, if_neg (by decide), if_pos (show p7.v = 37 from rfl)]) rfl (by simp)]
    rfl
  exact ⟨by rw [spE, a, r], by rw [spT, b, r]⟩
theorem aw_hex : oneE 120 0 0 (-1) ⟨false, 13830554455654793216, []⟩ = 0 ∧ oneT 120 0 0 (-1) ⟨false, 13830554455654793216, []⟩ = [102, 102, 102, 102, 102, 102, 102, 102, 102, 102, 102, 102, 102, 102, 102, 102] := by
  refine ⟨by decide, ?_⟩
  have lw : low 13830554455654793216 = 18446744073709551615 := by rw [low, wpt1]; decide
  rw [oneT, if_neg (by decide), if_neg (by decide), if_neg (by decide), if_neg (by decide), if_pos (by decide), if_pos (by decide), lw, Wh.unsT, Wh.utext, Wh.umark, Wh.ubody]
  rw [show Wh.base 120 = 16 from rfl, Wh.dig_n (B := 16) 17 (by decide) (by decide) (by decide) (by decide) (by decide)]
  decide
end Rn
end Go.Proofs.YtiflponlioldmaaGreatDoor

namespace Go.Proofs.YtiflponlioldmaaGreatDoor
open Go Go.RowKit Go.Deep Go.Shelf

theorem awA_ok : ∀ q ∈ Rn.awA, AgW q := by
  intro q hq
  simp only [Rn.awA, List.mem_cons, List.not_mem_nil, or_false] at hq
  rcases hq with rfl | rfl | rfl | rfl | rfl
  · exact ⟨by simp, by constructor <;> decide, by decide⟩
  · exact ⟨by simp, by constructor <;> decide, by decide⟩
  · exact ⟨by simp, by constructor <;> decide, by decide⟩
  · exact ⟨by decide, by constructor <;> decide, by decide⟩
  · exact ⟨by simp, by constructor <;> decide, by decide⟩
theorem awA_lies (w : World) : AgV (w.alloc (.cells #[.bool false, .int .u64 4617315517961601024, .string ⟨#[]⟩, .bool false, .int .u64 4631107791820423168, .string ⟨#[]⟩, .bool false, .int .u64 4616189618054758400, .string ⟨#[]⟩, .bool true, .int .u64 0, .string ⟨#[97, 98]⟩, .bool false, .int .u64 4636702106982547456, .string ⟨#[]⟩] 28)) (.slice (some ⟨w.heap.size, 0, none⟩) 5 5) Rn.awA := by
  refine ⟨_, 5, rfl, Nat.le_refl _, .inr ⟨_, 0, rfl, fun i a hi => ?_⟩⟩
  have e := heap_alloc_new w (.cells #[.bool false, .int .u64 4617315517961601024, .string ⟨#[]⟩, .bool false, .int .u64 4631107791820423168, .string ⟨#[]⟩, .bool false, .int .u64 4616189618054758400, .string ⟨#[]⟩, .bool true, .int .u64 0, .string ⟨#[97, 98]⟩, .bool false, .int .u64 4636702106982547456, .string ⟨#[]⟩] 28)
  match i, hi with
  | 0, hi => obtain rfl : _ = a := Option.some.inj hi; exact ⟨by rw [Lib.cell_of_heap e]; rfl, by rw [Lib.cell_of_heap e]; rfl, by rw [Lib.cell_of_heap e]; rfl⟩
  | 1, hi => obtain rfl : _ = a := Option.some.inj hi; exact ⟨by rw [Lib.cell_of_heap e]; rfl, by rw [Lib.cell_of_heap e]; rfl, by rw [Lib.cell_of_heap e]; rfl⟩
  | 2, hi => obtain rfl : _ = a := Option.some.inj hi; exact ⟨by rw [Lib.cell_of_heap e]; rfl, by rw [Lib.cell_of_heap e]; rfl, by rw [Lib.cell_of_heap e]; rfl⟩
  | 3, hi => obtain rfl : _ = a := Option.some.inj hi; exact ⟨by rw [Lib.cell_of_heap e]; rfl, by rw [Lib.cell_of_heap e]; rfl, by rw [Lib.cell_of_heap e]; rfl⟩
  | 4, hi => obtain rfl : _ = a := Option.some.inj hi; exact ⟨by rw [Lib.cell_of_heap e]; rfl, by rw [Lib.cell_of_heap e]; rfl, by rw [Lib.cell_of_heap e]; rfl⟩
  | n + 5, hi => exact absurd hi (by simp [Rn.awA])

set_option maxRecDepth 100000 in
set_option maxHeartbeats 1000000 in
theorem rawake_any (w : World) (hT : Tab w) : Calls Tryz.prog 9 #[] w fun e w' => e = .returned (.bool true) ∧ Below w.heap.size w w' := by
  have AL := alloc_b w (.cells #[.bool false, .int .u64 4617315517961601024, .string ⟨#[]⟩, .bool false, .int .u64 4631107791820423168, .string ⟨#[]⟩, .bool false, .int .u64 4616189618054758400, .string ⟨#[]⟩, .bool true, .int .u64 0, .string ⟨#[97, 98]⟩, .bool false, .int .u64 4636702106982547456, .string ⟨#[]⟩] 28)
  have SP : Hid (Calls Tryz.prog 15 #[.string ⟨#[91, 37, 42, 100, 124, 37, 45, 42, 115, 93, 32, 37, 53, 46, 49, 102, 37, 37]⟩, .slice (some ⟨w.heap.size, 0, none⟩) 5 5] (w.alloc (.cells #[.bool false, .int .u64 4617315517961601024, .string ⟨#[]⟩, .bool false, .int .u64 4631107791820423168, .string ⟨#[]⟩, .bool false, .int .u64 4616189618054758400, .string ⟨#[]⟩, .bool true, .int .u64 0, .string ⟨#[97, 98]⟩, .bool false, .int .u64 4636702106982547456, .string ⟨#[]⟩] 28)) fun r w' => r = .returned (.tuple #[.string ⟨#[91, 32, 32, 32, 52, 50, 124, 97, 98, 32, 32, 93, 32, 32, 57, 57, 46, 53, 37]⟩, .int .i64 0]) ∧ Below w.heap.size w w') := by
    refine (sprintf_any ⟨#[91, 37, 42, 100, 124, 37, 45, 42, 115, 93, 32, 37, 53, 46, 49, 102, 37, 37]⟩ Rn.awF _ Rn.awA _ (hT.below AL) rfl (by decide) (awA_lies w) awA_ok (by decide)).mono ?_
    rintro r w' ⟨rfl, k⟩
    rw [Rn.aw_ok.1, Rn.aw_ok.2]
    exact ⟨rfl, below_on AL k⟩
  have ON : Hid (∀ wk, Tab wk → Calls Tryz.prog 22 #[.agg #[.int .u8 120, .int .i64 0, .int .i64 0, .int .i64 (-1)], .agg #[.bool false, .int .u64 13830554455654793216, .string ⟨#[]⟩]] wk fun r w' => r = .returned (.tuple #[.string ⟨#[102, 102, 102, 102, 102, 102, 102, 102, 102, 102, 102, 102, 102, 102, 102, 102]⟩, .int .i64 0]) ∧ Below wk.heap.size wk w') := by
    intro wk k
    refine (one_any 120 0 0 (-1) ⟨false, 13830554455654793216, []⟩ wk k (by decide) (by decide) ⟨by simp, by constructor <;> decide, by decide⟩).mono ?_
    rintro r w' ⟨rfl, b⟩
    rw [Rn.aw_hex.1, Rn.aw_hex.2]
    exact ⟨rfl, b⟩
  have TB : Hid (∀ wk, Below w.heap.size w wk → Tab wk) := fun wk k => hT.below k
  clear AL hT
  go_enter Tryz.func9, Tryz.ntmps9
  go_wp2_with fail
  with_reducible refine SP.out.mono ?_
  rintro r w1 ⟨rfl, b1⟩
  have B1 := hid b1
  clear b1 SP
  go_wp2_with fail
  with_reducible refine (ON.out _ (TB.out _ B1.out)).mono ?_
  rintro r w2 ⟨rfl, b2⟩
  have B2 := hid (below_on B1.out b2)
  clear b2 ON TB B1
  go_wp2_with fail
  go_ret
  exact ⟨rfl, B2.out⟩
end Go.Proofs.YtiflponlioldmaaGreatDoor

/-
  ieee: Neg.
-/
namespace Go.Proofs.YtiflponlioldmaaGreatDoor
open Go Go.RowKit Go.Deep

set_option maxRecDepth 100000 in
theorem neg_any (d : Int) (w : World) (h0 : 0 ≤ d) (h1 : d < 18446744073709551616) :
    Calls Tryz.prog 35 #[.int .u64 d] w fun e w' => e = .returned (.int .u64 (Ie.ng d)) ∧ w' = w := by
  have B : bits .xor .u64 d 9223372036854775808 = Ie.ng d := Ib.sign_xor d h0 h1
  go_enter Tryz.func35, Tryz.ntmps35
  go_wp2
  go_ret
  exact ⟨rfl, rfl⟩
end Go.Proofs.YtiflponlioldmaaGreatDoor

/-
  ieee: finite, FromUint, FromInt, Whole.
-/
namespace Go.Proofs.YtiflponlioldmaaGreatDoor
open Go Go.RowKit Go.Deep

set_option maxRecDepth 100000 in
theorem fromI_nn (i : Int) (w : World) (hT : Tab w) (h0 : 0 ≤ i) (h1 : i ≤ 9223372036854775807) :
    Calls Tryz.prog 17 #[.int .i64 i] w fun e w' => ∃ x, e = .returned (.int .u64 x) ∧ Ie.Rnd i 1 0 false x ∧ Below w.heap.size w w' := by
  have F := hid (fromU_any i w hT h0 (by omega))
  clear hT
  go_enter Tryz.func17, Tryz.ntmps17
  go_wp2_with fail
  refine F.out.mono ?_
  rintro e w1 ⟨x, rfl, R, hB⟩
  have K := hid (And.intro R hB)
  clear R hB
  go_wp2_with fail
  go_ret
  exact ⟨x, rfl, K.out⟩

set_option maxRecDepth 100000 in
theorem fromI_ng (i : Int) (w : World) (hT : Tab w) (h0 : i < 0) (h1 : -9223372036854775808 ≤ i) :
    Calls Tryz.prog 17 #[.int .i64 i] w fun e w' => ∃ x, e = .returned (.int .u64 (x + 9223372036854775808)) ∧ Ie.Rnd (-i) 1 0 false x ∧ Below w.heap.size w w' := by
  have F := hid (fun (u : Int) (hu : u = -i) => fromU_any u w hT (by omega) (by omega))
  have W1 : IntKind.u64.wrap i = i + 18446744073709551616 := by rw [IntKind.wrap_u64]; omega
  have W2 : IntKind.u64.wrap (-(i + 18446744073709551616)) = -i := by rw [IntKind.wrap_u64]; omega
  clear hT
  go_enter Tryz.func17, Tryz.ntmps17
  go_wp2_with fail
  refine (F.out _ (by omega)).mono ?_
  rintro e w1 ⟨x, rfl, R, hB⟩
  have b := R.bd
  have N : Hid (Calls Tryz.prog 35 #[.int .u64 x] w1 fun e w' => e = .returned (.int .u64 (x + 9223372036854775808)) ∧ w' = w1) := by
    have := neg_any x w1 b.1 (by omega)
    rw [Ie.ng, if_pos (by omega)] at this
    exact this
  have K := hid (And.intro R hB)
  clear R hB b F
  go_wp2_with fail
  refine N.out.mono ?_
  rintro e w2 ⟨rfl, rfl⟩
  go_wp2_with fail
  go_ret
  refine ⟨x, rfl, ?_⟩
  exact K.out
end Go.Proofs.YtiflponlioldmaaGreatDoor

namespace Go.Proofs.YtiflponlioldmaaGreatDoor
open Go Go.RowKit Go.Deep Go.Shelf

namespace Dr
/-- The pieces' text. -/
def wrs (ps : List Pc) : List Int := ps.flatMap wr
theorem wrs_app (a b : List Pc) : wrs (a ++ b) = wrs a ++ wrs b := by simp [wrs]
theorem wrs_take {l : List Pc} {i : Nat} (h : i < l.length) : wrs (l.take (i + 1)) = wrs (l.take i) ++ wr (l.getD i Pc.no) := by
  rw [List.take_add_one, List.getElem?_eq_getElem h, wrs_app, List.getD_eq_getElem?_getD, List.getElem?_eq_getElem h]
  simp [wrs]
theorem wrs_le {l : List Pc} {i : Nat} : (wrs (l.take i)).length ≤ (wrs l).length := by
  have : l = l.take i ++ l.drop i := (List.take_append_drop i l).symm
  have e : wrs l = wrs (l.take i) ++ wrs (l.drop i) := by rw [← wrs_app, List.take_append_drop]
  rw [e, List.length_append]; omega
/-- What Print tells. -/
def prE (ps : List Pc) : Int := if ∀ p ∈ ps, ok p then (if (wrs ps).length ≤ 16777216 then 0 else 3) else 132
def prT (ps : List Pc) : List Int := if prE ps = 0 then wrs ps else []
end Dr

theorem okN_is (p : Dr.Pc) : (okN p = 0 ∧ Dr.ok p) ∨ (okN p = 132 ∧ ¬ Dr.ok p) := by
  unfold okN
  by_cases h : Dr.ok p
  · exact .inl ⟨if_pos h, h⟩
  · exact .inr ⟨if_neg h, h⟩

theorem wr_by {p : Dr.Pc} (hp : PcW p) (ho : Dr.ok p) : ∀ x ∈ Dr.wr p, 0 ≤ x ∧ x < 256 := by
  intro x hx
  unfold Dr.wr at hx
  split at hx
  · exact hp.1 x hx
  · rename_i h0
    split at hx
    · simp at hx; omega
    · rename_i h37
      have hr : Dr.isR p := by
        rcases ho with h | h | h
        · exact absurd h.2.1 h0
        · exact absurd h.2.1 h37
        · exact h
      have wn : ∀ k n, x ∈ Dr.wn k n → 0 ≤ x ∧ x < 256 := by
        intro k n h
        unfold Dr.wn at h
        split at h
        · have := Dr.isD_iff.1 (Dr.dl_D _ x h); omega
        · split at h
          · simp at h; omega
          · simp at h
      simp only [List.mem_cons, List.mem_append, List.not_mem_nil, or_false] at hx
      rcases hx with hx | ((hx | hx) | hx) | hx
      · omega
      · have : x = 45 ∨ x = 43 ∨ x = 32 ∨ x = 35 ∨ x = 48 := by
          unfold Dr.ms at hx
          simp only [List.mem_append] at hx
          rcases hx with (((hx | hx) | hx) | hx) | hx <;> (split at hx <;> simp at hx) <;> omega
        omega
      · exact wn _ _ hx
      · split at hx
        · rcases List.mem_cons.1 hx with h | h
          · omega
          · exact wn _ _ h
        · simp at hx
      · rw [hx]; exact hp.2

/-- Bytes as cells. -/
theorem dstr_cells {s : ByteArray} {xs : List Int} (h : Str s xs) : Lib.strCells s = xs.map (Value.int .u8) := by
  rw [← h, List.map_map]; rfl

def DIsB (B b : Nat) (zs : List Int) (w : World) : Prop := Lib.IsBuilder 81 5 B b (zs.map (Value.int .u8)) w
theorem DIsB.below {B b : Nat} {zs : List Int} {w w' : World} (h : DIsB B b zs w) (k : Below w.heap.size w w') : DIsB B b zs w' := by
  have key : ∀ p, Lib.BuilderAt 81 5 B b p (zs.map (Value.int .u8)) w → Lib.BuilderAt 81 5 B b p (zs.map (Value.int .u8)) w' := by
    rintro p ⟨h1, v, h2, h3, h4⟩
    have hl : b < w.heap.size := by
      rcases Nat.lt_or_ge b w.heap.size with c | c
      · exact c
      · simp [Array.getElem?_eq_none c] at h2
    exact ⟨h1, v, by rw [k.block b hl]; exact h2, World.ownsRow.kept (row := none) h3 ⟨k.os, k.tape, k.output, k.size, fun j hj _ => k.block j hj⟩ (by cases h : Value.ownBlock v <;> simp), h4⟩
  rcases h with h | h
  · exact .inl (key _ h)
  · exact .inr (key _ h)
theorem blen_any (B b : Nat) (zs : List Int) (w : World) (h : DIsB B b zs w) : Calls Tryz.prog 47 #[.pointer (some ⟨b, 0, none⟩)] w fun e w' => e = .returned (.int .i64 (zs.length : Int)) ∧ w' = w := by
  have q := Any.Builder_Len dlenLays B b (zs.map (Value.int .u8)) w h
  rw [List.length_map] at q
  exact q
theorem dbwrite_any (B b : Nat) (zs xs : List Int) (s : ByteArray) (w : World) (h : DIsB B b zs w) (hs : Str s xs) (hl : zs.length + xs.length ≤ 16777216) (hB : B ≤ w.heap.size) : Calls Tryz.prog 48 #[.pointer (some ⟨b, 0, none⟩), .string s] w fun e w' => e = .returned (.tuple #[.int .i64 s.size, .nilIface]) ∧ DIsB B b (zs ++ xs) w' ∧ Below B w w' := by
  have q := Any.Builder_WriteString wsLays bExtra B b (zs.map (Value.int .u8)) s w h (by have := hs.size; rw [List.length_map]; omega) hB
  rw [dstr_cells hs, ← List.map_append] at q
  refine q.mono ?_
  rintro e w' ⟨rfl, h1, h2⟩
  exact ⟨rfl, .inr h1, h2⟩
theorem dbstr_any (B b : Nat) (zs : List Int) (w : World) (h : DIsB B b zs w) (hz : ∀ x ∈ zs, 0 ≤ x ∧ x < 256) (hB : B ≤ w.heap.size) : Calls Tryz.prog 42 #[.pointer (some ⟨b, 0, none⟩)] w fun e w' => e = .returned (.string (strOfNums zs)) ∧ Below B w w' := by
  have S := Str.of_nums hz
  have e1 : zs.map (Value.int .u8) = Lib.byteCells (strOfNums zs).data.toList := by rw [← dstr_cells S]; rfl
  have h' : Lib.IsBuilder 81 5 B b (Lib.byteCells (strOfNums zs).data.toList) w := by rw [← e1]; exact h
  have q := Any.Builder_String_any strLays bExtra B b (strOfNums zs).data.toList w h' hB
  have e2 : (⟨(strOfNums zs).data.toList.toArray⟩ : ByteArray) = strOfNums zs := by simp
  rw [e2] at q
  exact q

theorem prE_bad {ps : List Dr.Pc} {i : Nat} (hi : i < ps.length) (h : ¬ Dr.ok (ps.getD i Dr.Pc.no)) : Dr.prE ps = 132 ∧ Dr.prT ps = [] := by
  have e : Dr.prE ps = 132 := if_neg (fun q => h (q _ (by rw [List.getD_eq_getElem?_getD, List.getElem?_eq_getElem hi]; exact List.getElem_mem hi)))
  exact ⟨e, if_neg (by rw [e]; decide)⟩
theorem prE_long {ps : List Dr.Pc} {i : Nat} (ha : ∀ p ∈ ps, Dr.ok p) (h : 16777216 < (Dr.wrs (ps.take i)).length) : Dr.prE ps = 3 ∧ Dr.prT ps = [] := by
  have := Dr.wrs_le (l := ps) (i := i)
  have e : Dr.prE ps = 3 := by rw [Dr.prE, if_pos ha, if_neg (by omega)]
  exact ⟨e, if_neg (by rw [e]; decide)⟩
theorem prE_ok {ps : List Dr.Pc} (ha : ∀ p ∈ ps, Dr.ok p) (h : (Dr.wrs ps).length ≤ 16777216) : Dr.prE ps = 0 ∧ Dr.prT ps = Dr.wrs ps := by
  have e : Dr.prE ps = 0 := by rw [Dr.prE, if_pos ha, if_pos h]
  exact ⟨e, if_pos e⟩
theorem ok_take {ps : List Dr.Pc} {i : Nat} (hi : i < ps.length) (h : ∀ p ∈ ps.take i, Dr.ok p) (k : Dr.ok (ps.getD i Dr.Pc.no)) : ∀ p ∈ ps.take (i + 1), Dr.ok p := by
  intro p hp
  rw [List.take_add_one, List.getElem?_eq_getElem hi, List.mem_append] at hp
  rcases hp with hp | hp
  · exact h p hp
  · rw [List.getD_eq_getElem?_getD, List.getElem?_eq_getElem hi] at k
    simp at hp
    rw [hp]; exact k
theorem getD_mem {ps : List Dr.Pc} {i : Nat} (hi : i < ps.length) : ps.getD i Dr.Pc.no ∈ ps := by
  rw [List.getD_eq_getElem?_getD, List.getElem?_eq_getElem hi]; exact List.getElem_mem hi

/-- What Print tells. -/
def PrTold (ps : List Dr.Pc) (w : World) (e : Ending) (w' : World) : Prop := e = .returned (.tuple #[.string (strOfNums (Dr.prT ps)), .int .i64 (Dr.prE ps)]) ∧ Below w.heap.size w w'

set_option maxRecDepth 100000 in
set_option maxHeartbeats 2000000 in
theorem print_any (a : Option Addr) (cap : Nat) (ps : List Dr.Pc) (w : World) (h : LP w a ps) (hn : ps.length ≤ 2199023255552) (hw : ∀ p ∈ ps, PcW p) (hs : ∀ p ∈ ps, p.t.length ≤ 140737488355328) (hT : T10 w.heap.size w) :
    Calls Tryz.prog 20 #[.slice a ps.length cap] w fun e w' => PrTold ps w e w' := by
  have H := hid h
  have HN := hid hn
  have HW := hid hw
  have CK : Hid (∀ i W, i < ps.length → Calls Tryz.prog 19 #[.agg #[.string (strOfNums (ps.getD i Dr.Pc.no).t), .int .u8 (ps.getD i Dr.Pc.no).v, .int .i64 (ps.getD i Dr.Pc.no).fl, .int .i64 (ps.getD i Dr.Pc.no).wk, .int .i64 (ps.getD i Dr.Pc.no).wd, .int .i64 (ps.getD i Dr.Pc.no).pk, .int .i64 (ps.getD i Dr.Pc.no).pr]] W fun e w' => e = .returned (.int .i64 (okN (ps.getD i Dr.Pc.no))) ∧ Below W.heap.size W w') := fun i W hi => check_pc _ W (hw _ (getD_mem hi))
  have WT : Hid (∀ i W, i < ps.length → (∀ p ∈ ps, Dr.ok p) → Below w.heap.size w W → Calls Tryz.prog 46 #[.agg #[.string (strOfNums (ps.getD i Dr.Pc.no).t), .int .u8 (ps.getD i Dr.Pc.no).v, .int .i64 (ps.getD i Dr.Pc.no).fl, .int .i64 (ps.getD i Dr.Pc.no).wk, .int .i64 (ps.getD i Dr.Pc.no).wd, .int .i64 (ps.getD i Dr.Pc.no).pk, .int .i64 (ps.getD i Dr.Pc.no).pr]] W fun e w' => e = .returned (.string (strOfNums (Dr.wr (ps.getD i Dr.Pc.no)))) ∧ Below W.heap.size W w') := fun i W hi ha hb => written_pc _ W (hw _ (getD_mem hi)) (ha _ (getD_mem hi)) ((hT.on hb).up hb.size)
  have WS : Hid (∀ i, i < ps.length → (∀ p ∈ ps, Dr.ok p) → Str (strOfNums (Dr.wr (ps.getD i Dr.Pc.no))) (Dr.wr (ps.getD i Dr.Pc.no)) ∧ (Dr.wr (ps.getD i Dr.Pc.no)).length ≤ 140737488355328) := by
    intro i hi ha
    have m := getD_mem hi
    refine ⟨Str.of_nums (wr_by (hw _ m) (ha _ m)), ?_⟩
    have h2 := hs _ m
    have h3 := ha _ m
    clear m
    generalize ps.getD i Dr.Pc.no = p at *
    rcases h3 with q | q | q
    · rw [Dr.wr, if_pos q.2.1]; exact h2
    · rw [Dr.wr, q.2.1]; simp
    · have l1 := wn_len q.2.2.2.2.1
      have l2 := wn_len q.2.2.2.2.2
      have l3 := ms_len p.fl
      have v := Dr.verb_ne q.1
      rw [Dr.wr, if_neg v.1, if_neg v.2.1]
      split <;> simp <;> omega
  clear h hn hw hs hT
  go_enter Tryz.func20, Tryz.ntmps20
  go_wp2_with fail
  go_loopg [13] ps.length (fun m iv wr => ∃ i : Nat, i + m = ps.length ∧ iv = .int .i64 (i : Int) ∧ Hid (Below w.heap.size w wr ∧ ∀ p ∈ ps.take i, Dr.ok p))
  case atStart => exact ⟨0, by omega, rfl, Below.refl _ _, by simp⟩
  case round =>
    obtain ⟨i, hi, rfl, I⟩ := hrel
    by_cases hl : i < ps.length
    · have hli : (i : Int) < (ps.length : Int) := by omega
      have ib : (i : Int) ≤ 2199023255552 := by have := HN.out; omega
      obtain ⟨b, off, rfl, hc⟩ := (H.out.below I.out.1).at i hl
      obtain ⟨c0, c1, c2, c3, c4, c5, c6⟩ := hc
      have C1 := hid (fun W => CK.out i W hl)
      have K0 := hid (fun (q : Dr.ok (ps.getD i Dr.Pc.no)) => ok_take hl I.out.2 q)
      have K1 := hid (fun (q : ¬ Dr.ok (ps.getD i Dr.Pc.no)) => prE_bad hl q)
      have OK := okN_is (ps.getD i Dr.Pc.no)
      have I1 := hid I.out.1
      have A1 := hid (fun v0 v1 v2 v3 v4 v5 v6 => below_on I.out.1 (alloc_b wr (.cells #[v0, v1, v2, v3, v4, v5, v6] 39)))
      clear I
      generalize ps.getD i Dr.Pc.no = p at *
      generalize okN p = E at *
      go_wp2_with fail
      refine (C1.out _).mono ?_
      rintro e w1 ⟨rfl, hB⟩
      have B1 := hid (below_on (A1.out _ _ _ _ _ _ _) hB)
      clear hB A1 C1 c0 c1 c2 c3 c4 c5 c6
      rcases OK with ⟨rfl, q⟩ | ⟨rfl, q⟩
      · have F := hid (K0.out q)
        clear K0 K1 q
        go_wp2_with fail
        go_roundg (ps.length - (i + 1))
        case measure => omega
        case rel => exact ⟨i + 1, by omega, by go_num, B1.out, F.out⟩
      · have F : Hid (PrTold ps w (.returned (.tuple #[.string ⟨#[]⟩, .int .i64 132])) w1) := by
          obtain ⟨e1, e2⟩ := K1.out q
          exact ⟨by rw [e1, e2]; rfl, B1.out⟩
        clear K0 K1 q
        go_wp2_with fail
        go_ret2
        exact F.out
    · have hli : ¬ (i : Int) < (ps.length : Int) := by omega
      have AL : Hid (∀ p ∈ ps, Dr.ok p) := by
        have q := I.out.2
        rw [List.take_of_length_le (by omega)] at q
        exact q
      have I1 := hid I.out.1
      have BL : Hid (∀ x ∈ Dr.wrs ps, 0 ≤ x ∧ x < 256) := by
        intro x hx
        obtain ⟨p, hp, hx⟩ := List.mem_flatMap.1 hx
        exact wr_by (HW.out p hp) (AL.out p hp) x hx
      have B0 : Hid (DIsB wr.heap.size wr.heap.size [] (wr.alloc (.cells #[.pointer none, .slice none 0 0] 81))) := Lib.fresh_isBuilder _ _ wr
      have A1 := hid (below_on I.out.1 (alloc_b wr (.cells #[.pointer none, .slice none 0 0] 81)))
      have sw := I.out.1.size
      have S1 : Hid (wr.heap.size ≤ (wr.alloc (.cells #[.pointer none, .slice none 0 0] 81)).heap.size) := (alloc_b wr (.cells #[.pointer none, .slice none 0 0] 81)).size
      clear I CK hi hl
      go_wp2_with fail
      generalize wr.alloc (.cells #[.pointer none, .slice none 0 0] 81) = wB at *
      generalize wr.heap.size = bb at *
      go_loopg [25] ps.length (fun m iv wr => ∃ k : Nat, k + m = ps.length ∧ iv = .int .i64 (k : Int) ∧ Hid (Below w.heap.size w wr ∧ DIsB bb bb (Dr.wrs (ps.take k)) wr ∧ bb ≤ wr.heap.size ∧ (Dr.wrs (ps.take k)).length ≤ 16777216))
      case atStart => exact ⟨0, by omega, rfl, A1.out, B0.out, S1.out, by simp [Dr.wrs]⟩
      case round =>
        obtain ⟨k, hk, rfl, J⟩ := hrel
        by_cases kl : k < ps.length
        · have kli : (k : Int) < (ps.length : Int) := by omega
          have kb : (k : Int) ≤ 2199023255552 := by have := HN.out; omega
          obtain ⟨b, off, rfl, hc⟩ := (H.out.below J.out.1).at k kl
          obtain ⟨c0, c1, c2, c3, c4, c5, c6⟩ := hc
          have C1 := hid (fun W hb => WT.out k W kl AL.out hb)
          obtain ⟨str, sl⟩ := WS.out k kl AL.out
          have ssz := str.size
          have TK := Dr.wrs_take kl
          have LG := hid (fun (q : 16777216 < (Dr.wrs (ps.take (k + 1))).length) => prE_long (i := k + 1) AL.out q)
          have J2 := hid J.out.2
          have zl := J.out.2.2.2
          have A2 := alloc_b wr (.cells #[.string (strOfNums (ps.getD k Dr.Pc.no).t), .int .u8 (ps.getD k Dr.Pc.no).v, .int .i64 (ps.getD k Dr.Pc.no).fl, .int .i64 (ps.getD k Dr.Pc.no).wk, .int .i64 (ps.getD k Dr.Pc.no).wd, .int .i64 (ps.getD k Dr.Pc.no).pk, .int .i64 (ps.getD k Dr.Pc.no).pr] 39)
          have J3 := hid (below_on J.out.1 A2)
          have J4 := hid A2
          have TK := hid TK
          have STR := hid str
          clear J A2 str
          generalize ps.getD k Dr.Pc.no = p at *
          generalize strOfNums (Dr.wr p) = S at *
          generalize Dr.wr p = u at *
          go_wp2_with fail
          refine (C1.out _ J3.out).mono ?_
          rintro e w1 ⟨rfl, hB⟩
          have B1 := hid (below_on J3.out hB)
          have Q1 := hid (J2.out.1.below (below_on J4.out hB))
          have Z1 : Hid (bb ≤ w1.heap.size) := by have := J2.out.2.1; have := J4.out.size; have := hB.size; show _ ≤ _; omega
          clear hB J3 J4 C1 c0 c1 c2 c3 c4 c5 c6
          have LN := hid (blen_any _ _ _ w1 Q1.out)
          have zi : ((Dr.wrs (ps.take k)).length : Int) ≤ 16777216 := by omega
          have ui : (u.length : Int) ≤ 140737488355328 := by omega
          have BW := hid (fun hl => dbwrite_any _ _ _ _ S w1 Q1.out STR.out hl Z1.out)
          obtain ⟨zn, hzn⟩ : ∃ zn, zn = Dr.wrs (ps.take k) := ⟨_, rfl⟩
          rw [← hzn] at LN BW zi TK zl
          have HZ := hid hzn
          clear hzn J2
          go_wp2_with fail
          refine LN.out.mono ?_
          rintro e w2 ⟨rfl, e2⟩
          rw [e2]
          clear e2 w2 LN
          by_cases hL : zn.length + u.length ≤ 16777216
          · have hLi : ¬ (16777216 : Int) < (zn.length : Int) + (u.length : Int) := by omega
            have BW2 := hid (BW.out hL)
            clear BW LG
            go_wp2_with fail
            refine BW2.out.mono ?_
            rintro e w3 ⟨rfl, q3, b3⟩
            have F : Hid (Below w.heap.size w w3 ∧ DIsB bb bb (Dr.wrs (ps.take (k + 1))) w3 ∧ bb ≤ w3.heap.size ∧ (Dr.wrs (ps.take (k + 1))).length ≤ 16777216) := by
              rw [TK.out]
              exact ⟨B1.out.trans (b3.mono (by omega)), q3, by have := Z1.out; have := b3.size; omega, by rw [List.length_append]; exact hL⟩
            clear q3 b3 BW2
            go_wp2_with fail
            go_roundg (ps.length - (k + 1))
            case measure => omega
            case rel => exact ⟨k + 1, by omega, by go_num, F.out⟩
          · have hLi : (16777216 : Int) < (zn.length : Int) + (u.length : Int) := by omega
            have F : Hid (PrTold ps w (.returned (.tuple #[.string ⟨#[]⟩, .int .i64 3])) w1) := by
              obtain ⟨e1, e2⟩ := LG.out (by rw [TK.out, List.length_append]; omega)
              exact ⟨by rw [e1, e2]; rfl, B1.out⟩
            clear LG BW
            go_wp2_with fail
            go_ret2
            exact F.out
        · have kli : ¬ (k : Int) < (ps.length : Int) := by omega
          have q := J.out.2
          rw [List.take_of_length_le (by omega)] at q
          have ST := hid (dbstr_any _ _ _ wr q.1 BL.out q.2.1)
          have F : Hid (∀ W, Below w.heap.size w W → PrTold ps w (.returned (.tuple #[.string (strOfNums (Dr.wrs ps)), .int .i64 0])) W) := by
            intro W b
            obtain ⟨e1, e2⟩ := prE_ok AL.out q.2.2
            exact ⟨by rw [e1, e2], b⟩
          have J1 := hid J.out.1
          clear q J
          generalize strOfNums (Dr.wrs ps) = S at *
          go_wp2_with fail
          refine ST.out.mono ?_
          rintro e w1 ⟨rfl, hB⟩
          have F2 := hid (F.out w1 (J1.out.trans (hB.mono sw)))
          clear hB F ST
          go_wp2_with fail
          go_ret2
          exact F2.out
end Go.Proofs.YtiflponlioldmaaGreatDoor

namespace Go.Proofs.YtiflponlioldmaaGreatDoor
namespace Dr

def noTT : List Pc → Prop
  | [] => True
  | p :: l => (p.v = 0 → (l.head?.map (·.v)) ≠ some 0) ∧ noTT l

theorem wr_ne {p : Pc} (h : ok p) : wr p ≠ [] := by
  rcases h with h | h | h
  · rw [wr, if_pos h.2.1]; exact h.1
  · rw [wr, h.2.1]; simp
  · have v := verb_ne h.1
    rw [wr, if_neg v.1, if_neg v.2.1]; simp
theorem wr_head {p : Pc} (h : ok p) (hv : p.v ≠ 0) (r : List Int) : (wr p ++ r).headD 0 = 37 := by
  rcases h with h | h | h
  · exact absurd h.2.1 hv
  · rw [wr, h.2.1]; simp
  · have v := verb_ne h.1
    rw [wr, if_neg v.1, if_neg v.2.1]; simp

theorem prs_wrs : ∀ (ps : List Pc), (∀ p ∈ ps, ok p) → noTT ps → prs (wrs ps) = (ps, 0, 0)
  | [], _, _ => by rw [show wrs [] = [] from rfl, prs_nil]
  | p :: l, h, a => by
    have hp := h p (by simp)
    have hl : ∀ q ∈ l, ok q := fun q hq => h q (by simp [hq])
    have ih := prs_wrs l hl a.2
    have e : wrs (p :: l) = wr p ++ wrs l := by simp [wrs]
    have rd : qe (wr p ++ wrs l) = 0 ∧ qp (wr p ++ wrs l) = p ∧ qu (wr p ++ wrs l) = (wr p).length := by
      rcases hp with k | k | k
      · refine txt_read k _ ?_
        cases l with
        | nil => exact .inl rfl
        | cons q l =>
          right
          have hv : q.v ≠ 0 := fun z => a.1 k.2.1 (by simp [z])
          rw [show wrs (q :: l) = wr q ++ wrs l by simp [wrs]]
          exact wr_head (hl q (by simp)) hv _
      · exact pct_read k _
      · exact dir_read k _
    have ne : wr p ++ wrs l ≠ [] := fun q => wr_ne hp (List.append_eq_nil_iff.1 q).1
    rw [e, prs_cons ne rd.1, rd.2.1, rd.2.2, List.drop_left, ih]
    rfl

/-- By places. -/
theorem noTT_of : ∀ (ps : List Pc), (∀ j, j + 1 < ps.length → ¬ ((ps.getD (j + 1) Pc.no).v = 0 ∧ (ps.getD j Pc.no).v = 0)) → noTT ps
  | [], _ => trivial
  | p :: l, h => by
    refine ⟨fun hv q => ?_, noTT_of l (fun j hj => by have := h (j + 1) (by simp; omega); simpa using this)⟩
    cases l with
    | nil => simp at q
    | cons r l =>
      simp at q
      exact h 0 (by simp) ⟨by simpa using q, by simpa using hv⟩

end Dr
open Dr in
theorem wr_len {p : Pc} (h : ok p) : (wr p).length ≤ p.t.length + 20 := by
  rcases h with q | q | q
  · rw [wr, if_pos q.2.1]; omega
  · rw [wr, q.2.1]; simp
  · have l1 := wn_len q.2.2.2.2.1
    have l2 := wn_len q.2.2.2.2.2
    have l3 := ms_len p.fl
    have v := verb_ne q.1
    rw [wr, if_neg v.1, if_neg v.2.1]
    split <;> simp <;> omega
end Go.Proofs.YtiflponlioldmaaGreatDoor

namespace Go.Proofs.YtiflponlioldmaaGreatDoor
open Go Go.RowKit Go.Deep Go.Shelf

def agc (a : Rn.Ag) : Array Value := #[.bool a.x, .int .u64 a.n, .string (strOfNums a.s)]
def ags (A : List Rn.Ag) : List Value := A.flatMap fun a => (agc a).toList
theorem ags_app (a b : List Rn.Ag) : ags (a ++ b) = ags a ++ ags b := by simp [ags]
theorem ags_one (a : Rn.Ag) : ags [a] = (agc a).toList := by simp [ags]
theorem ags_at : ∀ {A : List Rn.Ag} {i : Nat} {a : Rn.Ag}, A[i]? = some a → ∀ j, j < 3 → (ags A)[i * 3 + j]? = (agc a)[j]?
  | [], i, a, h, _, _ => by simp at h
  | b :: A, 0, a, h, j, hj => by
    obtain rfl : b = a := Option.some.inj h
    rw [ags, List.flatMap_cons, List.getElem?_append_left (by simp [agc]; omega)]
    simp
  | b :: A, i + 1, a, h, j, hj => by
    rw [ags, List.flatMap_cons, List.getElem?_append_right (by simp [agc]; omega), ← ags]
    rw [← ags_at (A := A) (i := i) (a := a) (by simpa using h) j hj]
    congr 1
    simp [agc]
    omega

def RowA (base : Nat) (w : World) (mv : Value) (A : List Rn.Ag) : Prop := w.ownsRow base 28 3 mv A.length (ags A)
theorem RowA.below {base : Nat} {w w' : World} {mv : Value} {A : List Rn.Ag} (h : RowA base w mv A) (hb : Below w.heap.size w w') : RowA base w' mv A :=
  World.ownsRow.kept (row := none) h ⟨hb.os, hb.tape, hb.output, hb.size, fun j hj _ => hb.block j hj⟩ (by cases h : Value.ownBlock mv <;> simp)
theorem RowA.nil (base : Nat) (w : World) : RowA base w (.slice none 0 0) [] := World.ownsRow_nil _ _ _ _
theorem infoA : (Tryz.prog.info? 28).map (fun i => (i.zero, i.size, i.bytes)) = some (some (.agg #[.bool false, .int .u64 0, .string ⟨#[]⟩]), 3, 32) := by kernel_rfl

theorem RowA.push {base : Nat} {w : World} {mv : Value} {A : List Rn.Ag} (ho : RowA base w mv A) (a : Rn.Ag) (cs : Array Value) (hcs : cs = agc a) (hn : A.length ≤ 1000) (hb : base ≤ w.heap.size) :
    ∃ mv' w', (Builtin.append_ #[30, 30] 30 #[mv, .slice (some ⟨w.heap.size, 0, none⟩) 1 1]).run Tryz.prog (w.alloc (.cells cs 28)) = .ok mv' w' ∧ RowA base w' mv' (A ++ [a]) ∧ w.heap.size ≤ w'.heap.size ∧ Below base w w' := by
  subst hcs
  obtain ⟨i, hi, hz⟩ := Option.map_eq_some_iff.1 infoA
  simp only [Prod.mk.injEq] at hz
  obtain ⟨z1, z2, z3⟩ := hz
  have bm : Below w.heap.size w (w.alloc (.cells (agc a) 28)) := (Below.refl _ _).alloc (Nat.le_refl _) _
  have hs : (w.alloc (.cells (agc a) 28)).heap.size = w.heap.size + 1 := World.size_alloc _ _
  have ho' := World.ownsRow.alloc ho (.cells (agc a) 28)
  have hcell : ∀ j u, (agc a)[j]? = some u → (w.alloc (.cells (agc a) 28)).cell? ⟨w.heap.size, j, none⟩ = some u := by
    intro j u hu
    have h0 : (w.alloc (.cells (agc a) 28)).heap[w.heap.size]? = some (.cells (agc a) 28 (0, 0)) := heap_alloc_new w _
    simp only [World.cell?, h0]
    simpa using hu
  obtain ⟨v', w', hr, h1, h2, _⟩ := run_append_own (P := Tryz.prog) (w.alloc (.cells (agc a) 28)) base 30 30 28 i _ 3 32 Tryz.underlying30 hi z1 z2 z3 rfl (by omega) mv A.length (ags A) ho'
    ⟨w.heap.size, 0, none⟩ 1 1 (agc a).toList (by simp [agc]) (fun j u hu => by
      rw [Go.WideShapes.add_plain, Nat.zero_add]
      exact hcell j u (by simpa using hu)) (fun u hu => by
        simp only [agc, List.mem_cons, List.not_mem_nil, or_false] at hu
        rcases hu with rfl | rfl | rfl <;> rfl) (by simp only [maxLen]; omega) (by omega) (by rw [hs]; omega)
  refine ⟨v', w', hr, ?_, by have := h2.size; omega, ?_⟩
  · have h1' := h1
    rw [← ags_one, ← ags_app] at h1'
    simpa [RowA] using h1'
  · have hb2 : Below base (w.alloc (.cells (agc a) 28)) w' := by
      refine ⟨h2.os, h2.tape, h2.output, h2.size, fun j hj => h2.block j (by rw [hs]; omega) ?_⟩
      intro hk
      have := (ho'.lt j hk.symm).1
      omega
    exact (bm.mono hb).trans hb2

/-- Such a row can be read. -/
theorem RowA.la {base : Nat} {w : World} {mv : Value} {A : List Rn.Ag} (h : RowA base w mv A) (h0 : A ≠ []) : ∃ g cap, mv = .slice (some ⟨g, 0, none⟩) A.length cap ∧ A.length ≤ cap ∧ cap ≤ maxLen ∧ LA w (some ⟨g, 0, none⟩) A := by
  have hh := h
  rcases h.2 with ⟨rfl, hn⟩ | ⟨g, cp, cur, rfl, _, _, hc, hm, _⟩
  · exact absurd (List.eq_nil_of_length_eq_zero hn) h0
  · refine ⟨g, cp, rfl, hc, hm, .inr ⟨g, 0, rfl, fun i a hi => ?_⟩⟩
    have K : ∀ j u, j < 3 → (agc a)[j]? = some u → w.cell? ⟨g, 0 + i * 3 + j, none⟩ = some u := fun j u hj hu => by
      have := World.ownsRow.cells hh (g := g) rfl (i * 3 + j) u (by rw [ags_at hi j hj]; exact hu)
      rw [Go.WideShapes.add_plain] at this
      rw [Nat.add_assoc]; exact this
    exact ⟨K 0 _ (by omega) rfl, K 1 _ (by omega) rfl, K 2 _ (by omega) rfl⟩

theorem lp_one (w : World) (p : Dr.Pc) : LP (w.alloc (.cells (pcv p) 39)) (some ⟨w.heap.size, 0, none⟩) [p] := by
  refine .inr ⟨w.heap.size, 0, rfl, fun i q hi => ?_⟩
  match i, hi with
  | 0, hi =>
    obtain rfl : p = q := Option.some.inj hi
    have e := heap_alloc_new w (.cells (pcv p) 39)
    simp only [PCells]
    refine ⟨?_, ?_, ?_, ?_, ?_, ?_, ?_⟩ <;> rw [Lib.cell_of_heap e] <;> rfl
  | n + 1, hi => exact absurd hi (by simp)

theorem from_any (x : Int) (w : World) (hT : Tab w) (h0 : -9007199254740992 ≤ x) (h1 : x ≤ 9007199254740992) :
    Calls Tryz.prog 17 #[.int .i64 x] w fun e w' => ∃ X, e = .returned (.int .u64 X) ∧ Rn.FI x X ∧ Below w.heap.size w w' := by
  by_cases h : 0 ≤ x
  · refine (fromI_nn x w hT h (by omega)).mono ?_
    rintro e w' ⟨X, rfl, r, b⟩
    exact ⟨X, rfl, Rn.fi_nn h h1 r, b⟩
  · refine (fromI_ng x w hT (by omega) (by omega)).mono ?_
    rintro e w' ⟨X, rfl, r, b⟩
    exact ⟨_, rfl, Rn.fi_ng (by omega) h0 r, b⟩
end Go.Proofs.YtiflponlioldmaaGreatDoor

namespace Go.Proofs.YtiflponlioldmaaGreatDoor
open Go Go.RowKit Go.Deep Go.Shelf

/-- The Starred as it came in. -/
structure SV (w0 : World) (p : Dr.Pc) (x y : Int) (a : Rn.Ag) (wk : World) : Prop where
  bel : Below w0.heap.size w0 wk
  b1 : wk.heap[w0.heap.size]? = some (.cells #[.string (strOfNums p.t), .int .u8 p.v, .int .i64 p.fl, .int .i64 p.wk, .int .i64 p.wd, .int .i64 p.pk, .int .i64 p.pr, .int .i64 x, .int .i64 y, .bool a.x, .int .u64 a.n, .string (strOfNums a.s)] 49 (0, 0))
theorem SV.new (w : World) (p : Dr.Pc) (x y : Int) (a : Rn.Ag) : SV w p x y a (w.alloc (.cells #[.string (strOfNums p.t), .int .u8 p.v, .int .i64 p.fl, .int .i64 p.wk, .int .i64 p.wd, .int .i64 p.pk, .int .i64 p.pr, .int .i64 x, .int .i64 y, .bool a.x, .int .u64 a.n, .string (strOfNums a.s)] 49)) := ⟨alloc_b w _, heap_alloc_new w _⟩
theorem SV.on {w0 wk w' : World} {p : Dr.Pc} {x y : Int} {a : Rn.Ag} (h : SV w0 p x y a wk) (k : Below wk.heap.size wk w') : SV w0 p x y a w' := by
  have hl : w0.heap.size < wk.heap.size := by
    rcases Nat.lt_or_ge w0.heap.size wk.heap.size with q | q
    · exact q
    · have := h.b1; rw [Array.getElem?_eq_none q] at this; cases this
  exact ⟨below_on h.bel k, by rw [k.block _ hl]; exact h.b1⟩
theorem SV.flat {w0 wk : World} {p : Dr.Pc} {x y : Int} {a : Rn.Ag} (h : SV w0 p x y a wk) :
    (wk.cell? ⟨w0.heap.size, 0, none⟩ = some (.string (strOfNums p.t)) ∧ wk.cell? ⟨w0.heap.size, 1, none⟩ = some (.int .u8 p.v) ∧ wk.cell? ⟨w0.heap.size, 2, none⟩ = some (.int .i64 p.fl) ∧ wk.cell? ⟨w0.heap.size, 3, none⟩ = some (.int .i64 p.wk) ∧ wk.cell? ⟨w0.heap.size, 4, none⟩ = some (.int .i64 p.wd) ∧ wk.cell? ⟨w0.heap.size, 5, none⟩ = some (.int .i64 p.pk) ∧ wk.cell? ⟨w0.heap.size, 6, none⟩ = some (.int .i64 p.pr)) ∧
    (wk.cell? ⟨w0.heap.size, 7, none⟩ = some (.int .i64 x) ∧ wk.cell? ⟨w0.heap.size, 8, none⟩ = some (.int .i64 y) ∧ wk.cell? ⟨w0.heap.size, 9, none⟩ = some (.bool a.x) ∧ wk.cell? ⟨w0.heap.size, 10, none⟩ = some (.int .u64 a.n) ∧ wk.cell? ⟨w0.heap.size, 11, none⟩ = some (.string (strOfNums a.s))) := by
  refine ⟨⟨?_, ?_, ?_, ?_, ?_, ?_, ?_⟩, ⟨?_, ?_, ?_, ?_, ?_⟩⟩ <;> rw [Lib.cell_of_heap h.b1] <;> rfl

/-- The piece's box, the argument's behind it, the arguments in a row of our own. -/
structure SX (w0 : World) (b : Nat) (p : Dr.Pc) (a : Rn.Ag) (mv : Value) (A : List Rn.Ag) (wk : World) : Prop where
  bel : Below w0.heap.size w0 wk
  lo : w0.heap.size ≤ b
  b1 : wk.heap[b]? = some (.cells #[.string (strOfNums p.t), .int .u8 p.v, .int .i64 p.fl, .int .i64 p.wk, .int .i64 p.wd, .int .i64 p.pk, .int .i64 p.pr] 39 (0, 0))
  b2 : wk.heap[b + 1]? = some (.cells #[.bool a.x, .int .u64 a.n, .string (strOfNums a.s)] 28 (0, 0))
  row : RowA (b + 2) wk mv A
  siz : b + 2 ≤ wk.heap.size
theorem SX.new {w0 w : World} (p : Dr.Pc) (a : Rn.Ag) (h : Below w0.heap.size w0 w) : SX w0 w.heap.size p a (.slice none 0 0) [] ((w.alloc (.cells #[.string (strOfNums p.t), .int .u8 p.v, .int .i64 p.fl, .int .i64 p.wk, .int .i64 p.wd, .int .i64 p.pk, .int .i64 p.pr] 39)).alloc (.cells #[.bool a.x, .int .u64 a.n, .string (strOfNums a.s)] 28)) := by
  have A1 := alloc_b w (.cells #[.string (strOfNums p.t), .int .u8 p.v, .int .i64 p.fl, .int .i64 p.wk, .int .i64 p.wd, .int .i64 p.pk, .int .i64 p.pr] 39)
  have A2 := alloc_b (w.alloc (.cells #[.string (strOfNums p.t), .int .u8 p.v, .int .i64 p.fl, .int .i64 p.wk, .int .i64 p.wd, .int .i64 p.pk, .int .i64 p.pr] 39)) (.cells #[.bool a.x, .int .u64 a.n, .string (strOfNums a.s)] 28)
  have e2 := heap_alloc_new (w.alloc (.cells #[.string (strOfNums p.t), .int .u8 p.v, .int .i64 p.fl, .int .i64 p.wk, .int .i64 p.wd, .int .i64 p.pk, .int .i64 p.pr] 39)) (.cells #[.bool a.x, .int .u64 a.n, .string (strOfNums a.s)] 28)
  rw [World.size_alloc] at e2
  exact ⟨below_on (below_on h A1) A2, h.size, heap_alloc2_old _ _ _, e2, RowA.nil _ _, by rw [World.size_alloc, World.size_alloc]; omega⟩
theorem SX.low {w0 wk w' : World} {b : Nat} {p : Dr.Pc} {a : Rn.Ag} {mv mv' : Value} {A A' : List Rn.Ag} (h : SX w0 b p a mv A wk) (k : Below (b + 2) wk w') (r : RowA (b + 2) w' mv' A') : SX w0 b p a mv' A' w' :=
  ⟨h.bel.trans (k.mono (by have := h.lo; omega)), h.lo, by rw [k.block _ (by omega)]; exact h.b1, by rw [k.block _ (by omega)]; exact h.b2, r, Nat.le_trans h.siz k.size⟩
theorem SX.on {w0 wk w' : World} {b : Nat} {p : Dr.Pc} {a : Rn.Ag} {mv : Value} {A : List Rn.Ag} (h : SX w0 b p a mv A wk) (k : Below wk.heap.size wk w') : SX w0 b p a mv A w' := h.low (k.mono h.siz) (h.row.below k)
theorem SX.push {w0 wk : World} {b : Nat} {p : Dr.Pc} {a : Rn.Ag} {mv : Value} {A : List Rn.Ag} (h : SX w0 b p a mv A wk) (q : Rn.Ag) (cs : Array Value) (hcs : cs = agc q) (hn : A.length ≤ 1000) :
    ∃ mv' w', (Builtin.append_ #[30, 30] 30 #[mv, .slice (some ⟨wk.heap.size, 0, none⟩) 1 1]).run Tryz.prog (wk.alloc (.cells cs 28)) = .ok mv' w' ∧ SX w0 b p a mv' (A ++ [q]) w' := by
  obtain ⟨mv', w', r, h1, _, h3⟩ := h.row.push q cs hcs hn h.siz
  exact ⟨mv', w', r, h.low h3 h1⟩
theorem SX.flat {w0 wk : World} {b : Nat} {p : Dr.Pc} {a : Rn.Ag} {mv : Value} {A : List Rn.Ag} (h : SX w0 b p a mv A wk) :
    (wk.cell? ⟨b, 0, none⟩ = some (.string (strOfNums p.t)) ∧ wk.cell? ⟨b, 1, none⟩ = some (.int .u8 p.v) ∧ wk.cell? ⟨b, 2, none⟩ = some (.int .i64 p.fl) ∧ wk.cell? ⟨b, 3, none⟩ = some (.int .i64 p.wk) ∧ wk.cell? ⟨b, 4, none⟩ = some (.int .i64 p.wd) ∧ wk.cell? ⟨b, 5, none⟩ = some (.int .i64 p.pk) ∧ wk.cell? ⟨b, 6, none⟩ = some (.int .i64 p.pr)) ∧
    (wk.cell? ⟨b + 1, 0, none⟩ = some (.bool a.x) ∧ wk.cell? ⟨b + 1, 1, none⟩ = some (.int .u64 a.n) ∧ wk.cell? ⟨b + 1, 2, none⟩ = some (.string (strOfNums a.s))) := by
  refine ⟨⟨?_, ?_, ?_, ?_, ?_, ?_, ?_⟩, ⟨?_, ?_, ?_⟩⟩
  · rw [Lib.cell_of_heap h.b1]; rfl
  · rw [Lib.cell_of_heap h.b1]; rfl
  · rw [Lib.cell_of_heap h.b1]; rfl
  · rw [Lib.cell_of_heap h.b1]; rfl
  · rw [Lib.cell_of_heap h.b1]; rfl
  · rw [Lib.cell_of_heap h.b1]; rfl
  · rw [Lib.cell_of_heap h.b1]; rfl
  · rw [Lib.cell_of_heap h.b2]; rfl
  · rw [Lib.cell_of_heap h.b2]; rfl
  · rw [Lib.cell_of_heap h.b2]; rfl

theorem SX.agv {w0 wk : World} {b : Nat} {p : Dr.Pc} {a : Rn.Ag} {mv : Value} {A : List Rn.Ag} (h : SX w0 b p a mv A wk) (h0 : A ≠ []) : AgV wk mv A := by
  obtain ⟨g, cap, rfl, h1, _, h2⟩ := h.row.la h0
  exact ⟨_, cap, rfl, h1, h2⟩

/-- Pieces of the one piece that has just been laid. -/
theorem spieces {w0 wk : World} {b : Nat} {p : Dr.Pc} {a : Rn.Ag} {mv : Value} {A : List Rn.Ag} (h : SX w0 b p a mv A wk) (h0 : A ≠ []) (hT : Tab wk) (hp : PcW p) (hA : ∀ q ∈ A, AgW q) (hl : A.length ≤ 3) :
    Calls Tryz.prog 18 #[.slice (some ⟨wk.heap.size, 0, none⟩) 1 1, mv] (wk.alloc (.cells #[.string (strOfNums p.t), .int .u8 p.v, .int .i64 p.fl, .int .i64 p.wk, .int .i64 p.wd, .int .i64 p.pk, .int .i64 p.pr] 39)) fun r w' => r = .returned (.tuple #[.string (strOfNums (Rn.pT [p] A)), .int .i64 (Rn.pE [p] A)]) ∧ Below wk.heap.size wk w' := by
  have A1 := alloc_b wk (.cells #[.string (strOfNums p.t), .int .u8 p.v, .int .i64 p.fl, .int .i64 p.wk, .int .i64 p.wd, .int .i64 p.pk, .int .i64 p.pr] 39)
  refine (pieces_any (some ⟨wk.heap.size, 0, none⟩) 1 [p] mv A _ (hT.below A1) (lp_one wk p) (by simp) (fun q hq => by simp at hq; rw [hq]; exact hp) ((h.agv h0).below A1) hA (by omega)).mono ?_
  rintro r w' ⟨rfl, k⟩
  exact ⟨rfl, below_on A1 k⟩
/-- Print likewise, where the piece is a directive. -/
theorem wr1_len {p : Dr.Pc} (h : Dr.isR p) : (Dr.wrs [p]).length ≤ 100 := by
  have k := wr_len (p := p) (.inr (.inr h))
  rw [h.2.1] at k
  simp [Dr.wrs] at k ⊢
  omega
theorem sprint (p : Dr.Pc) (wk : World) (hR : Dr.isR p) (hT : T10 wk.heap.size wk) (hp : PcW p) :
    Calls Tryz.prog 20 #[.slice (some ⟨wk.heap.size, 0, none⟩) 1 1] (wk.alloc (.cells #[.string (strOfNums p.t), .int .u8 p.v, .int .i64 p.fl, .int .i64 p.wk, .int .i64 p.wd, .int .i64 p.pk, .int .i64 p.pr] 39)) fun r w' => r = .returned (.tuple #[.string (strOfNums (Dr.wrs [p])), .int .i64 0]) ∧ Below wk.heap.size wk w' := by
  have A1 := alloc_b wk (.cells #[.string (strOfNums p.t), .int .u8 p.v, .int .i64 p.fl, .int .i64 p.wk, .int .i64 p.wd, .int .i64 p.pk, .int .i64 p.pr] 39)
  have ok : ∀ q ∈ [p], Dr.ok q := fun q hq => by simp at hq; rw [hq]; exact .inr (.inr hR)
  obtain ⟨e1, e2⟩ := prE_ok ok (Nat.le_trans (wr1_len hR) (by omega))
  refine (print_any (some ⟨wk.heap.size, 0, none⟩) 1 [p] _ (lp_one wk p) (by simp) (fun q hq => by simp at hq; rw [hq]; exact hp) (fun q hq => by simp at hq; rw [hq, hR.2.1]; simp) ((hT.on A1).up A1.size)).mono ?_
  rintro r w' ⟨rfl, k⟩
  rw [e1, e2]
  exact ⟨rfl, below_on A1 k⟩
/-- Sprintf of what was printed. -/
theorem ssprintf (p : Dr.Pc) (v : Value) (A : List Rn.Ag) (wk : World) (hR : Dr.isR p) (hT : Tab wk) (hp : PcW p) (hv : AgV wk v A) (hA : ∀ q ∈ A, AgW q) (hl : A.length ≤ 3) :
    Calls Tryz.prog 15 #[.string (strOfNums (Dr.wrs [p])), v] wk fun r w' => r = .returned (.tuple #[.string (strOfNums (Rn.pT [p] A)), .int .i64 (Rn.pE [p] A)]) ∧ Below wk.heap.size wk w' := by
  have ok : ∀ q ∈ [p], Dr.ok q := fun q hq => by simp at hq; rw [hq]; exact .inr (.inr hR)
  have g := Dr.prs_wrs [p] ok (Dr.noTT_of [p] (by simp))
  have by_ : ∀ z ∈ Dr.wrs [p], 0 ≤ z ∧ z < 256 := fun z hz => wr_by hp (.inr (.inr hR)) z (by simpa [Dr.wrs] using hz)
  refine (sprintf_any (strOfNums (Dr.wrs [p])) (Dr.wrs [p]) v A wk hT (Str.of_nums by_) (by have := wr1_len hR; omega) hv hA (by omega)).mono ?_
  rintro r w' ⟨rfl, k⟩
  obtain ⟨q1, q2⟩ := Rn.sp_good (xs := Dr.wrs [p]) (A := A) (by rw [g])
  rw [q1, q2, g]
  exact ⟨rfl, k⟩
end Go.Proofs.YtiflponlioldmaaGreatDoor
