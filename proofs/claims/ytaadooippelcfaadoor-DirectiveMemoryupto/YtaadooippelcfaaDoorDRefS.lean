/-
  abacusref13's plain, Settle where there is no star, Single.
-/
import Derived.Test.YtaadooippelcfaaDoorDSgl
import Derived.Test.YtaadooippelcfaaDoorDRefP
import Derived.Test.YtaadooippelcfaaDoorDRefC
import Derived.Lib.AppendStr
namespace Go.Proofs.YtaadooippelcfaaDoor
open Go Go.RowKit Go.Deep Go.Shelf

theorem wpList_append_s {ty tz : TypeId} {ops : Array Oper} {rest : List Oper} {o : Oper} {a : Act} {Q : Exit → Act → World → Prop} (hgd : o.guard = none) (s x : Operand)
    (ho : o.op = .call { callee := .builtin .append, args := #[s, x], argTypes := #[ty, tz] }) {v y v' : Value} {w w' : World} (hr : (Builtin.append_ #[ty, tz] o.type #[v, y]).run Tryd.prog w = .ok v' w') (hs : a.eval s = v) (hx : a.eval x = y)
    (h : wpList Tryd.prog ops Q rest (a.put o.dst v') w') : wpList Tryd.prog ops Q (o :: rest) a w := by
  refine wpList_plain hgd fun K hK => ?_
  unfold Oper.wp execOp
  simp only [ho, resolve, invoke, builtin, Sem.run_bind, Sem.run_pure, Result.andThen_ok, List.map_toArray, List.map_cons, List.map_nil, hs, hx, hr]
  exact hK _ _ h
theorem scells_str {s : ByteArray} {ys : List Int} (h : Str s ys) : Lib.strCells s = ys.map (Value.int .u8) := by
  rw [← h, List.map_map]; rfl
/-- A text's bytes put behind a row of bytes. -/
theorem Row8.cats {base : Nat} {w : World} {mv : Value} {xs : List Int} (ho : Row8 base w mv xs) (hnn : mv ≠ .slice none 0 0) (s : ByteArray) (ys : List Int) (hs : Str s ys) (hn : xs.length + ys.length ≤ 140737488351232) (hb : base ≤ w.heap.size) :
    ∃ mv' w', (Builtin.append_ #[62, 9] 62 #[mv, .string s]).run Tryd.prog w = .ok mv' w' ∧ Row8 base w' mv' (xs ++ ys) ∧ mv' ≠ .slice none 0 0 ∧ Below base w w' ∧ (∀ j, j < w.heap.size → some j ≠ mv.ownBlock → w'.heap[j]? = w.heap[j]?) := by
  obtain ⟨i, hi, hz⟩ := Option.map_eq_some_iff.1 info8
  simp only [Prod.mk.injEq] at hz
  obtain ⟨z1, z2, z3⟩ := hz
  have sz := hs.size
  obtain ⟨v', w', hr, h1, h2, h3⟩ := Lib.run_append_own_string (P := Tryd.prog) (w := w) base 62 9 62 5 i Tryd.underlying62 Tryd.underlying9 hi z1 z2 z3 mv xs.length (xs.map (Value.int .u8)) ho s (by simp only [maxLen]; omega) (by omega) hb
  refine ⟨v', w', hr, ?_, fun q => hnn (h3.1 q).1, ?_, fun j hj hne => h2.block j hj hne⟩
  · rw [scells_str hs, sz, ← List.map_append] at h1
    rw [Row8, List.length_append]; exact h1
  · refine ⟨h2.os, h2.tape, h2.output, h2.size, fun j hj => h2.block j (by omega) ?_⟩
    intro hk
    have := (World.ownsRow.lt ho j hk.symm).1
    omega
theorem Row8.cvs {base : Nat} {w : World} {mv : Value} {xs : List Int} (h : Row8 base w mv xs) (hn : mv ≠ .slice none 0 0) : (convert 62 9 mv).run Tryd.prog w = .ok (.string (strOfNums xs)) w := by
  by_cases h0 : xs = []
  · subst h0
    rcases h.2 with ⟨e, _⟩ | ⟨g, cap, cur, rfl, _⟩
    · exact absurd e hn
    · exact run_convert_bytes_arg (P := Tryd.prog) w 62 5 Tryd.underlying62 Tryd.underlying5 g 0 0 cap [] rfl (fun i hi => by simp at hi) 9 Tryd.underlying9
  · obtain ⟨g, cp, rfl, c⟩ := h.cells h0
    exact run_convert_bytes_arg (P := Tryd.prog) w 62 5 Tryd.underlying62 Tryd.underlying5 g 0 xs.length cp xs rfl c 9 Tryd.underlying9
theorem row8_none (w : World) : Row8 w.heap.size (w.alloc (.cells #[] 5)) (.slice (some ⟨w.heap.size, 0, none⟩) 0 0) [] :=
  ⟨rfl, .inr ⟨w.heap.size, 0, #[], rfl, Nat.le_refl _, heap_alloc_new w _, Nat.le_refl _, by simp [maxLen], rfl, rfl⟩⟩

set_option maxRecDepth 100000 in
set_option maxHeartbeats 2000000 in
theorem rplain_any (a : Option Addr) (cap : Nat) (ps : List Dr.Pc) (w : World) (h : LP w a ps) (hn : ps.length ≤ 2199023255552) (hw : ∀ p ∈ ps, PcW p) (hs : (Dr.pl ps).length ≤ 16777216) :
    Calls Tryd.prog 40 #[.slice a ps.length cap] w fun e w' => e = .returned (.string (strOfNums (Dr.pl ps))) ∧ Below w.heap.size w w' := by
  have H := hid h
  have HN := hid hn
  have WS : Hid (∀ i, i < ps.length → Str (strOfNums (ps.getD i Dr.Pc.no).t) (ps.getD i Dr.Pc.no).t) := fun i hi => Str.of_nums (hw _ (pgetD_mem hi)).1
  have LE : Hid (∀ i, (Dr.pl (ps.take i)).length ≤ 16777216) := fun i => Nat.le_trans Dr.pl_le hs
  have S0 : Hid (Below w.heap.size w (w.alloc (.cells #[] 5)) ∧ Row8 w.heap.size (w.alloc (.cells #[] 5)) (.slice (some ⟨w.heap.size, 0, none⟩) 0 0) []) := ⟨alloc_b w _, row8_none w⟩
  clear h hn hw hs
  go_enter Tryd.func40, Tryd.ntmps40
  go_wp2_with fail
  go_loopg [3, 4] ps.length (fun m mv iv wr => ∃ k : Nat, k + m = ps.length ∧ iv = .int .i64 (k : Int) ∧ Hid (Below w.heap.size w wr ∧ Row8 w.heap.size wr mv (Dr.pl (ps.take k)) ∧ mv ≠ .slice none 0 0))
  case atStart => exact ⟨0, by omega, rfl, S0.out.1, S0.out.2, fun q => by simp at q⟩
  case round =>
    obtain ⟨k, hk, rfl, J⟩ := hrel
    have szw := J.out.1.size
    by_cases kl : k < ps.length
    · have kli : (k : Int) < (ps.length : Int) := by omega
      have kb : (k : Int) ≤ 2199023255552 := by have := HN.out; omega
      obtain ⟨b, off, rfl, hc⟩ := (H.out.below J.out.1).at k kl
      obtain ⟨c0, c1, c2, c3, c4, c5, c6⟩ := hc
      have STR := hid (WS.out k kl)
      have TK := Dr.pl_take kl
      have ZL := LE.out (k + 1)
      generalize ps.getD k Dr.Pc.no = p at *
      by_cases hv : p.v = 37
      · rw [if_pos hv] at TK
        have v1 : (p.v == 37) = true := by simpa using hv
        obtain ⟨mv', w2, ap, q1, q2, q3, q4⟩ := J.out.2.1.push 37 (by rw [TK, List.length_append] at ZL; simp at ZL; omega) szw
        have AP := hid ap
        have F : Hid (Below w.heap.size w w2 ∧ Row8 w.heap.size w2 mv' (Dr.pl (ps.take (k + 1))) ∧ mv' ≠ .slice none 0 0) := by
          rw [TK]
          refine ⟨J.out.1.trans q3, q1, fun q => ?_⟩
          rw [q] at q1
          have e := q1.2
          rcases e with ⟨_, e⟩ | ⟨g, cap, cur, e, _⟩
          · simp at e
          · simp at e
        clear ap q1 q2 q3 q4 hv ZL TK J c2 c3 c4 c5 c6
        go_wp2_with (at_builtin; refine wpList_append_b rfl _ _ rfl AP.out (by rfl) (by rfl) ?_; clear AP)
        go_roundg (ps.length - (k + 1))
        case measure => omega
        case rel => exact ⟨k + 1, by omega, by go_num, F.out⟩
      · rw [if_neg hv] at TK
        have v1 : (p.v == 37) = false := by simpa using hv
        obtain ⟨mv', w2, ap, q1, q2, q3, q4⟩ := J.out.2.1.cats J.out.2.2 (strOfNums p.t) p.t STR.out (by rw [TK, List.length_append] at ZL; omega) szw
        have AP := hid ap
        have F : Hid (Below w.heap.size w w2 ∧ Row8 w.heap.size w2 mv' (Dr.pl (ps.take (k + 1))) ∧ mv' ≠ .slice none 0 0) := by
          rw [TK]
          exact ⟨J.out.1.trans q3, q1, q2⟩
        clear ap q1 q2 q3 q4 hv ZL TK J c2 c3 c4 c5 c6
        go_wp2_with (at_builtin; refine wpList_append_s rfl _ _ rfl AP.out (by rfl) (by rfl) ?_; clear AP)
        go_roundg (ps.length - (k + 1))
        case measure => omega
        case rel => exact ⟨k + 1, by omega, by go_num, F.out⟩
    · have kli : ¬ (k : Int) < (ps.length : Int) := by omega
      have q := J.out.2
      rw [List.take_of_length_le (by omega)] at q
      have CV := q.1.cvs q.2
      have J1 := hid J.out.1
      clear q J
      go_wp2_with fail
      go_ret
      exact ⟨rfl, J1.out⟩

theorem far_heap {w : World} {b c o : Nat} {v : Value} (hc : c ≠ b) : (w.setCell ⟨c, o, none⟩ v).heap[b]? = w.heap[b]? := by
  simp only [World.setCell, Array.getElem?_modify]
  rw [if_neg hc]
theorem S4.set3 {w : World} {b : Nat} {v0 v1 v2 v3 : Value} (h : S4 w b v0 v1 v2 v3) (v : Value) : S4 (w.setCell ⟨b, 3, none⟩ v) b v0 v1 v2 v := by
  simp only [S4] at *
  simp [World.setCell, Array.getElem?_modify, h]

set_option maxRecDepth 100000 in
set_option maxHeartbeats 2000000 in
/-- Settle of a directive in form without a star. -/
theorem rsettle0_any (p : Dr.Pc) (w : World) (hp : PcW p) (hr : Dr.isR p) (h1 : p.wk ≠ 2) (h2 : p.pk ≠ 2) :
    Calls Tryd.prog 20 #[.agg #[.string (strOfNums p.t), .int .u8 p.v, .int .i64 p.fl, .int .i64 p.wk, .int .i64 p.wd, .int .i64 p.pk, .int .i64 p.pr], .int .i64 0, .int .i64 0] w fun e w' => e = .returned (.tuple #[.agg (spv p 0 0), .int .i64 0]) ∧ Below w.heap.size w w' := by
  have E : Hid (spv p 0 0 = #[.int .u8 p.v, .int .i64 p.fl, .int .i64 p.wd, .int .i64 (if p.pk = 0 then -1 else p.pr)]) := by
    have a := Dr.num_bd hr.2.2.2.2.1 (by omega)
    rw [Hid, spv, if_pos (Dr.ste_zero hr h1 h2)]
    unfold sW sP
    rw [if_neg h1, if_neg h2, if_neg (by omega), if_neg (by omega)]
  have DR := hid (fun W => rdirective_any (strOfNums p.t) p.t p.v p.fl p.wk p.wd p.pk p.pr W (Str.of_nums hp.1))
  have dR : Hid (decide (Dr.isR ⟨p.t, p.v, p.fl, p.wk, p.wd, p.pk, p.pr⟩) = true) := decide_eq_true hr
  rw [dR.out] at DR
  have A1 := hid (below_on (alloc_b w (.cells #[.string (strOfNums p.t), .int .u8 p.v, .int .i64 p.fl, .int .i64 p.wk, .int .i64 p.wd, .int .i64 p.pk, .int .i64 p.pr] 25)) (alloc_b _ (.cells #[.int .u8 0, .int .i64 0, .int .i64 0, .int .i64 0] 46)))
  have P1 := hid ((P7.new w (.string (strOfNums p.t)) (.int .u8 p.v) (.int .i64 p.fl) (.int .i64 p.wk) (.int .i64 p.wd) (.int .i64 p.pk) (.int .i64 p.pr)).below (alloc_b _ (.cells #[.int .u8 0, .int .i64 0, .int .i64 0, .int .i64 0] 46)))
  have S1 := hid (S4.new (w.alloc (.cells #[.string (strOfNums p.t), .int .u8 p.v, .int .i64 p.fl, .int .i64 p.wk, .int .i64 p.wd, .int .i64 p.pk, .int .i64 p.pr] 25)) (.int .u8 0) (.int .i64 0) (.int .i64 0) (.int .i64 0))
  have PK : Hid (p.pk = 0 ∨ p.pk = 1) := by
    show _ ∨ _
    rcases hr.2.2.2.2.2 with q | q
    · rcases q.1 with q | q
      · exact .inl q
      · exact absurd q h2
    · exact .inr q.1
  have k1 : (p.wk == 2) = false := by simpa using h1
  have k2 : (p.pk == 2) = false := by simpa using h2
  rw [World.size_alloc] at S1
  clear hr dR hp h1 h2
  go_enter Tryd.func20, Tryd.ntmps20
  go_upto_region 1 with fail
  generalize (w.alloc (.cells #[.string (strOfNums p.t), .int .u8 p.v, .int .i64 p.fl, .int .i64 p.wk, .int .i64 p.wd, .int .i64 p.pk, .int .i64 p.pr] 25)).alloc (.cells #[.int .u8 0, .int .i64 0, .int .i64 0, .int .i64 0] 46) = wA at *
  obtain ⟨⟨b0, b1, b2, b3, b4, b5, b6⟩, -⟩ := P1.out.cells
  go_wp2_with fail
  refine (DR.out _).mono ?_
  rintro e w1 ⟨rfl, d1⟩
  clear b0 b1 b2 b3 b4 b5 b6
  obtain ⟨⟨b0, b1, b2, b3, b4, b5, b6⟩, -⟩ := (P1.out.below d1).cells
  have S2 := hid (S1.out.below d1)
  have A2 := hid (below_on A1.out d1)
  have lt : w.heap.size + 1 < w1.heap.size := S2.out.lt
  have aS := alloc_b w1 (.cells #[.int .u8 p.v, .int .i64 p.fl, .int .i64 p.wd, .int .i64 (-1)] 46)
  have A3 := hid (below_on A2.out aS)
  have S3 := hid (S2.out.below aS)
  have P3 := hid ((P1.out.below d1).below aS)
  have N3 := hid (S4.new w1 (.int .u8 p.v) (.int .i64 p.fl) (.int .i64 p.wd) (.int .i64 (-1)))
  clear d1 P1 S1 A1 DR S2 A2 aS
  go_upto_region 4 with fail
  generalize w1.alloc (.cells #[.int .u8 p.v, .int .i64 p.fl, .int .i64 p.wd, .int .i64 (-1)] 46) = wS at *
  obtain ⟨sb, hsb⟩ : ∃ sb, w1.heap.size = sb := ⟨_, rfl⟩
  rw [hsb] at N3 lt ⊢
  clear hsb b0 b1 b2 b3 b4 b5 b6
  obtain ⟨⟨b0, b1, b2, b3, b4, b5, b6⟩, -⟩ := P3.out.cells
  obtain ⟨⟨n0, n1, n2, n3⟩, m0, m1, m2, m3⟩ := N3.out.cells
  have e1 : w.heap.size ≠ sb := by omega
  have e3 : w.heap.size + 1 ≠ sb := by omega
  rcases PK.out with h | h
  · rw [h] at b5 E k2
    clear k2
    rw [if_pos rfl] at E
    obtain ⟨⟨s0, s1, s2, s3⟩, f0, f1, f2, f3⟩ := S3.out.cells
    go_wp2_with fail
    (try simp only [Exit.inBlock, Exit.then])
    refine bodyPost_ret (results_row_tmp rfl _ _ (w.heap.size + 1) 46 _ (0, 0) _ rfl (S3.out.put _ _ _ _) Tryd.underlying46 rfl (by kernel_rfl)) rfl ?_
    exact ⟨by rw [E.out]; rfl, dset4_below A3.out (by omega)⟩
  · rw [h] at b5 E k2 P3
    clear k2
    rw [if_neg (by decide)] at E
    have P4 : Hid (P7 (wS.setCell ⟨sb, 3, none⟩ (.int .i64 p.pr)) w.heap.size (.string (strOfNums p.t)) (.int .u8 p.v) (.int .i64 p.fl) (.int .i64 p.wk) (.int .i64 p.wd) (.int .i64 1) (.int .i64 p.pr)) := by
      rw [Hid, P7, far_heap (Ne.symm e1)]; exact P3.out
    have S5 := hid (S3.out.far (o := 3) (v := .int .i64 p.pr) (Ne.symm e3))
    have N4 := hid (N3.out.set3 (.int .i64 p.pr))
    have A4 := hid (sb_below (o := 3) (v := .int .i64 p.pr) A3.out (show w.heap.size ≤ sb by omega))
    go_upto_region 14 with fail
    generalize wS.setCell ⟨sb, 3, none⟩ (.int .i64 p.pr) = wT at *
    clear b0 b1 b2 b3 b4 b5 b6 n0 n1 n2 n3 m0 m1 m2 m3
    obtain ⟨⟨b0, b1, b2, b3, b4, b5, b6⟩, -⟩ := P4.out.cells
    obtain ⟨⟨n0, n1, n2, n3⟩, -⟩ := N4.out.cells
    obtain ⟨⟨s0, s1, s2, s3⟩, f0, f1, f2, f3⟩ := S5.out.cells
    go_wp2_with fail
    (try simp only [Exit.inBlock, Exit.then])
    refine bodyPost_ret (results_row_tmp rfl _ _ (w.heap.size + 1) 46 _ (0, 0) _ rfl (S5.out.put _ _ _ _) Tryd.underlying46 rfl (by kernel_rfl)) rfl ?_
    exact ⟨by rw [E.out]; rfl, dset4_below A4.out (by omega)⟩

set_option maxRecDepth 100000 in
set_option maxHeartbeats 4000000 in
theorem rsingle_any (s : ByteArray) (xs : List Int) (w : World) (hs : Str s xs) (hl : xs.length ≤ 16777216) :
    Calls Tryd.prog 22 #[.string s] w fun e w' => SgTold xs w e w' := by
  have PA := hid (fun W => rparse_any s xs W hs (by omega))
  have LG := hid (Dr.prs_lng _ xs (Nat.le_refl _))
  have PL := hid (Dr.pl_prs _ xs (Nat.le_refl _))
  have HS := hid hs
  have HL := hid hl
  have R0 := hid (S4.new w (.int .u8 0) (.int .i64 0) (.int .i64 0) (.int .i64 0))
  have B0 := hid (alloc_b w (.cells #[.int .u8 0, .int .i64 0, .int .i64 0, .int .i64 0] 46))
  clear hs hl
  go_enter Tryd.func22, Tryd.ntmps22
  go_wp2_with fail
  generalize w.alloc (.cells #[.int .u8 0, .int .i64 0, .int .i64 0, .int .i64 0] 46) = w0 at *
  refine (PA.out _).mono ?_
  rintro e w1 ⟨mv, rfl, r1, b1⟩
  obtain ⟨a, cap, rfl, hcap, lp⟩ := r1.lp
  have L1 := hid lp
  have S1 := hid (R0.out.below b1)
  have B1 := hid (below_on B0.out b1)
  have HC := hid hcap
  clear r1 b1 lp hcap PA B0 R0
  have PW := hid (pcw_prs HS.out)
  have LN : ((Dr.prs xs).1.length : Int) ≤ 16777216 := by have := LG.out; have := HL.out; omega
  have SO : Hid (Dr.sgO xs = decide ((Dr.prs xs).2.2 = 0 ∧ Dr.wants (Dr.prs xs).1 = 1 ∧ 0 ≤ Dr.idx Dr.pvs (Dr.sgP xs).v)) := rfl
  have ON := hid (fun h => Dr.sg_one (xs := xs) h)
  have YE := hid (fun h => Dr.sg_yes (xs := xs) h)
  have SP : Hid (Dr.sgP xs = (Dr.prs xs).1.getD (Dr.fd (Dr.prs xs).1) Dr.Pc.no) := rfl
  have PLt : Hid (∀ k, (Dr.pl ((Dr.prs xs).1.take k)).length ≤ 16777216) := fun k => by have := Dr.pl_le (l := (Dr.prs xs).1) (i := k); have := PL.out; have := HL.out; omega
  have PLd : Hid (∀ k, (Dr.pl ((Dr.prs xs).1.drop k)).length ≤ 16777216) := fun k => by
    have e : Dr.pl (Dr.prs xs).1 = Dr.pl ((Dr.prs xs).1.take k) ++ Dr.pl ((Dr.prs xs).1.drop k) := by rw [← Dr.pl_app, List.take_append_drop]
    have h1 := PL.out
    have h2 := HL.out
    rw [e, List.length_append] at h1; omega
  obtain ⟨⟨z0, z1, z2, z3⟩, g0, g1, g2, g3⟩ := S1.out.cells
  clear PL LG HL HS
  generalize (Dr.prs xs).1 = ps at *
  generalize (Dr.prs xs).2.2 = E at *
  by_cases hE : E = 0
  · subst hE
    go_wp2_with fail
    go_loopg [9, 10, 11] ps.length (fun m nv kv iv wr => ∃ (i k : Nat) (n : Int), i + m = ps.length ∧ nv = .int .i64 n ∧ kv = .int .i64 (k : Int) ∧ iv = .int .i64 (i : Int) ∧ wr = w1 ∧ Hid (Dr.Lw ps i n k))
    case atStart => exact ⟨0, 0, 0, by omega, rfl, rfl, rfl, rfl, Dr.Lw.start ps⟩
    case round =>
      obtain ⟨i, k, n, hi, rfl, rfl, rfl, hwr, I⟩ := hrel
      have hwr := hwr.symm
      subst hwr
      have nb : 0 ≤ n ∧ n ≤ 16777216 := by
        have a := I.out.1
        have b := Dr.cq_bd (ps.take i)
        rw [List.length_take] at b; omega
      obtain ⟨n0, n1⟩ := nb
      by_cases il : i < ps.length
      · have ili : (i : Int) < (ps.length : Int) := by omega
        obtain ⟨b, off, rfl, hc⟩ := L1.out.at i il
        obtain ⟨-, c1, -, -, -, -, -⟩ := hc
        have HI := hid (fun h => I.out.hit il h)
        have SK := hid (fun h => I.out.skip il h)
        clear I
        generalize ps.getD i Dr.Pc.no = p at *
        by_cases v0 : p.v = 0
        · have F := hid (SK.out (.inl v0))
          have u0 : (p.v == 0) = true := by simpa using v0
          have u1 : (p.v != 0) = false := by simpa using v0
          clear v0 SK HI
          go_wp2_with fail
          go_roundg (ps.length - (i + 1))
          case measure => omega
          case rel => exact ⟨i + 1, k, n, by omega, rfl, rfl, by go_num, rfl, F.out⟩
        · have u0 : (p.v == 0) = false := by simpa using v0
          have u1 : (p.v != 0) = true := by simpa using v0
          by_cases v3 : p.v = 37
          · have F := hid (SK.out (.inr v3))
            have t0 : (p.v == 37) = true := by simpa using v3
            have t1 : (p.v != 37) = false := by simpa using v3
            clear v0 v3 SK HI
            go_wp2_with fail
            go_roundg (ps.length - (i + 1))
            case measure => omega
            case rel => exact ⟨i + 1, k, n, by omega, rfl, rfl, by go_num, rfl, F.out⟩
          · have F := hid (HI.out (fun q => q.elim v0 v3))
            have t0 : (p.v == 37) = false := by simpa using v3
            have t1 : (p.v != 37) = true := by simpa using v3
            clear v0 v3 SK HI
            go_wp2_with fail
            go_roundg (ps.length - (i + 1))
            case measure => omega
            case rel => exact ⟨i + 1, i, n + 1, by omega, by go_num, rfl, by go_num, rfl, F.out⟩
      · have ili : ¬ (i : Int) < (ps.length : Int) := by omega
        have LW := I.out
        rw [show i = ps.length by omega] at LW
        obtain ⟨d1, d2⟩ := LW.done
        clear I LW
        by_cases hn : n = 1
        · have kf := d2 hn
          subst hn
          have fl := Dr.fd_lt (l := ps) (by omega)
          have kl : k < ps.length := by omega
          have kli : (k : Int) < (ps.length : Int) := by omega
          have kb : (k : Int) ≤ 16777216 := by omega
          have PWk := PW.out _ (pgetD_mem kl)
          have WO : Hid (Dr.wants ps = 1 ↔ Dr.tk (ps.getD k Dr.Pc.no) = 1) := by
            rw [Hid, Dr.wants_one, ← d1, ← kf]; simp
          have SPk : Hid (Dr.sgP xs = ps.getD k Dr.Pc.no) := by rw [kf]; exact SP.out
          rw [SPk.out] at SO YE ON
          have YE : Hid (Dr.sgO xs = true → Dr.sgA xs = Dr.pl (ps.take k) ∧ Dr.sgB xs = Dr.pl (ps.drop (k + 1)) ∧ Dr.sgS xs = spv (ps.getD k Dr.Pc.no) 0 0) := by rw [kf]; rw [kf] at YE; exact YE.out
          obtain ⟨b, off, rfl, hc⟩ := L1.out.at k kl
          obtain ⟨c0, c1, c2, c3, c4, c5, c6⟩ := hc
          have A2 := alloc_b w1 (.cells #[.string (strOfNums (ps.getD k Dr.Pc.no).t), .int .u8 (ps.getD k Dr.Pc.no).v, .int .i64 (ps.getD k Dr.Pc.no).fl, .int .i64 (ps.getD k Dr.Pc.no).wk, .int .i64 (ps.getD k Dr.Pc.no).wd, .int .i64 (ps.getD k Dr.Pc.no).pk, .int .i64 (ps.getD k Dr.Pc.no).pr] 25)
          have L2 := hid (L1.out.below A2)
          have S2 := hid (S1.out.below A2)
          have B2 := hid (below_on B1.out A2)
          have P2 := hid (P7.new w1 (.string (strOfNums (ps.getD k Dr.Pc.no).t)) (.int .u8 (ps.getD k Dr.Pc.no).v) (.int .i64 (ps.getD k Dr.Pc.no).fl) (.int .i64 (ps.getD k Dr.Pc.no).wk) (.int .i64 (ps.getD k Dr.Pc.no).wd) (.int .i64 (ps.getD k Dr.Pc.no).pk) (.int .i64 (ps.getD k Dr.Pc.no).pr))
          have IX := hid (fun W => rat_any ⟨#[101, 69, 102, 70, 103, 71]⟩ Dr.pvs (ps.getD k Dr.Pc.no).v W rfl (by decide))
          have TK := hid (fun W => rtakes_any (strOfNums (ps.getD k Dr.Pc.no).t) (ps.getD k Dr.Pc.no).t (ps.getD k Dr.Pc.no).v (ps.getD k Dr.Pc.no).fl (ps.getD k Dr.Pc.no).wk (ps.getD k Dr.Pc.no).wd (ps.getD k Dr.Pc.no).pk (ps.getD k Dr.Pc.no).pr W)
          have TE : Hid (Dr.tk ⟨(ps.getD k Dr.Pc.no).t, (ps.getD k Dr.Pc.no).v, (ps.getD k Dr.Pc.no).fl, (ps.getD k Dr.Pc.no).wk, (ps.getD k Dr.Pc.no).wd, (ps.getD k Dr.Pc.no).pk, (ps.getD k Dr.Pc.no).pr⟩ = Dr.tk (ps.getD k Dr.Pc.no)) := rfl
          rw [TE.out] at TK
          have PWs := hid PWk
          clear A2 SP SPk d1 d2 kf fl PWk TE L1 S1 B1 z0 z1 z2 z3 g0 g1 g2 g3
          generalize ps.getD k Dr.Pc.no = p at *
          go_upto_region 15 with fail
          generalize w1.alloc (.cells #[.string (strOfNums p.t), .int .u8 p.v, .int .i64 p.fl, .int .i64 p.wk, .int .i64 p.wd, .int .i64 p.pk, .int .i64 p.pr] 25) = wA at *
          obtain ⟨pb, hpb⟩ : ∃ pb, w1.heap.size = pb := ⟨_, rfl⟩
          rw [hpb] at P2 ⊢
          clear hpb c0 c1 c2 c3 c4 c5 c6
          obtain ⟨⟨b0, b1, b2, b3, b4, b5, b6⟩, -⟩ := P2.out.cells
          obtain ⟨⟨z0, z1, z2, z3⟩, g0, g1, g2, g3⟩ := S2.out.cells
          by_cases hv : 0 ≤ Dr.idx Dr.pvs p.v
          · have hv1 : ¬ Dr.idx Dr.pvs p.v < 0 := by omega
            by_cases ht : Dr.tk p = 1
            · have hW := WO.out.2 ht
              obtain ⟨l1, l2, l3, l4, l5⟩ := ON.out hW
              have OT : Hid (Dr.sgO xs = true) := by rw [SO.out]; exact decide_eq_true ⟨by trivial, hW, hv⟩
              have YY := hid (YE.out OT.out)
              obtain ⟨q1, q2, q3, hq⟩ : ∃ q1 q2 q3 : Int, Hid (spv p 0 0 = #[.int .u8 p.v, .int .i64 q1, .int .i64 q2, .int .i64 q3]) := ⟨_, _, _, if_pos l5⟩
              have ES : Hid (∀ W, Calls Tryd.prog 20 #[.agg #[.string (strOfNums p.t), .int .u8 p.v, .int .i64 p.fl, .int .i64 p.wk, .int .i64 p.wd, .int .i64 p.pk, .int .i64 p.pr], .int .i64 0, .int .i64 0] W fun e w' => e = .returned (.tuple #[.agg #[.int .u8 p.v, .int .i64 q1, .int .i64 q2, .int .i64 q3], .int .i64 0]) ∧ Below W.heap.size W w') := fun W => by
                have q := rsettle0_any p W PWs.out l2 l3 l4
                rw [hq.out] at q
                exact q
              have YR : Hid (∀ W, Below w.heap.size w W → SgTold xs w (.returned (.tuple #[.string (strOfNums (Dr.pl (ps.take k))), .agg #[.int .u8 p.v, .int .i64 q1, .int .i64 q2, .int .i64 q3], .string (strOfNums (Dr.pl (ps.drop (k + 1)))), .bool true])) W) := fun W h => by
                obtain ⟨e1, e2, e3⟩ := YY.out
                exact ⟨by rw [e1, e2, e3, hq.out, OT.out], h⟩
              rw [ht] at TK
              clear SO YE hv YY OT hq ON WO ht hW l1 l2 l3 l4 l5 z0 z1 z2 z3 g0 g1 g2 g3
              generalize Dr.idx Dr.pvs p.v = vi at *
              go_wp2_with (go_at_call 26; refine (IX.out _).mono ?_; rintro e w4 ⟨rfl, hw4⟩; rw [hw4]; clear hw4 w4)
              refine (TK.out _).mono ?_
              rintro e w3 ⟨rfl, d3⟩
              have L3 := hid (L2.out.below d3)
              have S3 := hid (S2.out.below d3)
              have B3 := hid (below_on B2.out d3)
              clear b0 b1 b2 b3 b4 b5 b6
              obtain ⟨⟨b0, b1, b2, b3, b4, b5, b6⟩, -⟩ := (P2.out.below d3).cells
              clear d3 L2 S2 B2 P2 IX TK
              go_wp2_with fail
              refine (ES.out _).mono ?_
              rintro e w4 ⟨rfl, b4⟩
              have sl := (S3.out.below b4).lt
              have aL := alloc_b w4 (.cells #[.int .u8 p.v, .int .i64 q1, .int .i64 q2, .int .i64 q3] 46)
              have S5 := hid ((S3.out.below b4).below aL)
              have X5 := hid (S4.new w4 (.int .u8 p.v) (.int .i64 q1) (.int .i64 q2) (.int .i64 q3))
              have L5 := hid ((L3.out.below b4).below aL)
              have B5 := hid (below_on (below_on B3.out b4) aL)
              clear b4 aL b0 b1 b2 b3 b5 b6 ES S3 L3 B3
              go_upto_region 18 with fail
              generalize w4.alloc (.cells #[.int .u8 p.v, .int .i64 q1, .int .i64 q2, .int .i64 q3] 46) = w5 at *
              obtain ⟨bx, hbx⟩ : ∃ bx, w4.heap.size = bx := ⟨_, rfl⟩
              rw [hbx] at X5 sl ⊢
              clear hbx
              have ne : w.heap.size ≠ bx := by omega
              obtain ⟨g, hg⟩ : ∃ g : World → Nat → Value, Hid (∀ w' i, g w' i = (w'.cell? ⟨w.heap.size, i, none⟩).getD (.bool false)) := ⟨_, fun _ _ => rfl⟩
              have TG : Hid (∀ (wx : World) (x0 x1 x2 x3 : Value), S4 wx w.heap.size x0 x1 x2 x3 → (wx.cell? ⟨w.heap.size, 0, none⟩ = some (g wx 0) ∧ wx.frozen? ⟨w.heap.size, 0, none⟩ = false) ∧ (wx.cell? ⟨w.heap.size, 1, none⟩ = some (g wx 1) ∧ wx.frozen? ⟨w.heap.size, 1, none⟩ = false) ∧ (wx.cell? ⟨w.heap.size, 2, none⟩ = some (g wx 2) ∧ wx.frozen? ⟨w.heap.size, 2, none⟩ = false) ∧ (wx.cell? ⟨w.heap.size, 3, none⟩ = some (g wx 3) ∧ wx.frozen? ⟨w.heap.size, 3, none⟩ = false)) := by
                intro wx x0 x1 x2 x3 h
                have key : ∀ i v, wx.cell? ⟨w.heap.size, i, none⟩ = some v → wx.cell? ⟨w.heap.size, i, none⟩ = some (g wx i) := fun i v q => by rw [hg.out, q]; rfl
                obtain ⟨⟨y0, y1, y2, y3⟩, f0, f1, f2, f3⟩ := h.cells
                exact ⟨⟨key 0 _ y0, f0⟩, ⟨key 1 _ y1, f1⟩, ⟨key 2 _ y2, f2⟩, ⟨key 3 _ y3, f3⟩⟩
              have FT : Hid (∀ wx : World, Below w5.heap.size w5 wx → (wx.cell? ⟨bx, 0, none⟩ = some (.int .u8 p.v) ∧ wx.cell? ⟨bx, 1, none⟩ = some (.int .i64 q1) ∧ wx.cell? ⟨bx, 2, none⟩ = some (.int .i64 q2) ∧ wx.cell? ⟨bx, 3, none⟩ = some (.int .i64 q3)) ∧ (wx.cell? ⟨w.heap.size, 0, none⟩ = some (g wx 0) ∧ wx.frozen? ⟨w.heap.size, 0, none⟩ = false) ∧ (wx.cell? ⟨w.heap.size, 1, none⟩ = some (g wx 1) ∧ wx.frozen? ⟨w.heap.size, 1, none⟩ = false) ∧ (wx.cell? ⟨w.heap.size, 2, none⟩ = some (g wx 2) ∧ wx.frozen? ⟨w.heap.size, 2, none⟩ = false) ∧ (wx.cell? ⟨w.heap.size, 3, none⟩ = some (g wx 3) ∧ wx.frozen? ⟨w.heap.size, 3, none⟩ = false)) := fun wx h => ⟨(X5.out.below h).cells.1, TG.out wx _ _ _ _ (S5.out.below h)⟩
              have FS : Hid (∀ (wx : World) (x0 x1 x2 x3 : Value), Below w5.heap.size w5 wx → (((((wx.setCell ⟨w.heap.size, 0, none⟩ x0).setCell ⟨w.heap.size, 1, none⟩ x1).setCell ⟨w.heap.size, 2, none⟩ x2).setCell ⟨w.heap.size, 3, none⟩ x3).cell? ⟨bx, 0, none⟩ = some (.int .u8 p.v) ∧ ((((wx.setCell ⟨w.heap.size, 0, none⟩ x0).setCell ⟨w.heap.size, 1, none⟩ x1).setCell ⟨w.heap.size, 2, none⟩ x2).setCell ⟨w.heap.size, 3, none⟩ x3).cell? ⟨bx, 1, none⟩ = some (.int .i64 q1) ∧ ((((wx.setCell ⟨w.heap.size, 0, none⟩ x0).setCell ⟨w.heap.size, 1, none⟩ x1).setCell ⟨w.heap.size, 2, none⟩ x2).setCell ⟨w.heap.size, 3, none⟩ x3).cell? ⟨bx, 2, none⟩ = some (.int .i64 q2) ∧ ((((wx.setCell ⟨w.heap.size, 0, none⟩ x0).setCell ⟨w.heap.size, 1, none⟩ x1).setCell ⟨w.heap.size, 2, none⟩ x2).setCell ⟨w.heap.size, 3, none⟩ x3).cell? ⟨bx, 3, none⟩ = some (.int .i64 q3)) ∧ (((((wx.setCell ⟨w.heap.size, 0, none⟩ x0).setCell ⟨w.heap.size, 1, none⟩ x1).setCell ⟨w.heap.size, 2, none⟩ x2).setCell ⟨w.heap.size, 3, none⟩ x3).cell? ⟨w.heap.size, 0, none⟩ = some (g ((((wx.setCell ⟨w.heap.size, 0, none⟩ x0).setCell ⟨w.heap.size, 1, none⟩ x1).setCell ⟨w.heap.size, 2, none⟩ x2).setCell ⟨w.heap.size, 3, none⟩ x3) 0) ∧ ((((wx.setCell ⟨w.heap.size, 0, none⟩ x0).setCell ⟨w.heap.size, 1, none⟩ x1).setCell ⟨w.heap.size, 2, none⟩ x2).setCell ⟨w.heap.size, 3, none⟩ x3).frozen? ⟨w.heap.size, 0, none⟩ = false) ∧ (((((wx.setCell ⟨w.heap.size, 0, none⟩ x0).setCell ⟨w.heap.size, 1, none⟩ x1).setCell ⟨w.heap.size, 2, none⟩ x2).setCell ⟨w.heap.size, 3, none⟩ x3).cell? ⟨w.heap.size, 1, none⟩ = some (g ((((wx.setCell ⟨w.heap.size, 0, none⟩ x0).setCell ⟨w.heap.size, 1, none⟩ x1).setCell ⟨w.heap.size, 2, none⟩ x2).setCell ⟨w.heap.size, 3, none⟩ x3) 1) ∧ ((((wx.setCell ⟨w.heap.size, 0, none⟩ x0).setCell ⟨w.heap.size, 1, none⟩ x1).setCell ⟨w.heap.size, 2, none⟩ x2).setCell ⟨w.heap.size, 3, none⟩ x3).frozen? ⟨w.heap.size, 1, none⟩ = false) ∧ (((((wx.setCell ⟨w.heap.size, 0, none⟩ x0).setCell ⟨w.heap.size, 1, none⟩ x1).setCell ⟨w.heap.size, 2, none⟩ x2).setCell ⟨w.heap.size, 3, none⟩ x3).cell? ⟨w.heap.size, 2, none⟩ = some (g ((((wx.setCell ⟨w.heap.size, 0, none⟩ x0).setCell ⟨w.heap.size, 1, none⟩ x1).setCell ⟨w.heap.size, 2, none⟩ x2).setCell ⟨w.heap.size, 3, none⟩ x3) 2) ∧ ((((wx.setCell ⟨w.heap.size, 0, none⟩ x0).setCell ⟨w.heap.size, 1, none⟩ x1).setCell ⟨w.heap.size, 2, none⟩ x2).setCell ⟨w.heap.size, 3, none⟩ x3).frozen? ⟨w.heap.size, 2, none⟩ = false) ∧ (((((wx.setCell ⟨w.heap.size, 0, none⟩ x0).setCell ⟨w.heap.size, 1, none⟩ x1).setCell ⟨w.heap.size, 2, none⟩ x2).setCell ⟨w.heap.size, 3, none⟩ x3).cell? ⟨w.heap.size, 3, none⟩ = some (g ((((wx.setCell ⟨w.heap.size, 0, none⟩ x0).setCell ⟨w.heap.size, 1, none⟩ x1).setCell ⟨w.heap.size, 2, none⟩ x2).setCell ⟨w.heap.size, 3, none⟩ x3) 3) ∧ ((((wx.setCell ⟨w.heap.size, 0, none⟩ x0).setCell ⟨w.heap.size, 1, none⟩ x1).setCell ⟨w.heap.size, 2, none⟩ x2).setCell ⟨w.heap.size, 3, none⟩ x3).frozen? ⟨w.heap.size, 3, none⟩ = false)) := fun wx x0 x1 x2 x3 h => ⟨((((X5.out.below h).far ne).far ne).far ne |>.far ne).cells.1, TG.out _ _ _ _ _ ((S5.out.below h).put x0 x1 x2 x3)⟩
              have FB : Hid (∀ wx : World, Below w5.heap.size w5 wx → Below w.heap.size w wx) := fun wx h => below_on B5.out h
              have FR : Hid (∀ wx : World, Below w5.heap.size w5 wx → S4 wx w.heap.size (.int .u8 0) (.int .i64 0) (.int .i64 0) (.int .i64 0)) := fun wx h => S5.out.below h
              have T0 := hid (dsg_drew w5)
              have C1 : Hid (∀ W, Below w5.heap.size w5 W → Calls Tryd.prog 40 #[.slice (some ⟨b, off, none⟩) k cap] W fun e w' => e = .returned (.string (strOfNums (Dr.pl (ps.take k)))) ∧ Below W.heap.size W w') := fun W h => by
                have q := rplain_any (some ⟨b, off, none⟩) cap (ps.take k) W ((L5.out.below h).take k) (by rw [List.length_take]; omega) (fun p hp => PW.out p (List.mem_of_mem_take hp)) (PLt.out _)
                rw [List.length_take, Nat.min_eq_left (by omega)] at q
                exact q
              obtain ⟨k1, hk1⟩ : ∃ k1, k + 1 = k1 := ⟨_, rfl⟩
              have hc1 : ps.length ≤ cap := HC.out
              have WK : IntKind.i64.wrap ((k : Int) + 1) = (k1 : Int) := by rw [IntKind.wrap_i64]; omega
              have WS : IntKind.i64.wrap (k : Int) = (k : Int) := by rw [IntKind.wrap_i64]; omega
              have WS1 : IntKind.i64.wrap (k1 : Int) = (k1 : Int) := by rw [IntKind.wrap_i64]; omega
              have kp : (0 : Int) ≤ (k1 : Int) := by omega
              have kp0 : (0 : Int) ≤ (k : Int) := by omega
              have kc : k ≤ cap := by omega
              have kci : (k : Int) ≤ (cap : Int) := by omega
              have kc1 : k1 ≤ cap := by omega
              have kc1i : (k1 : Int) ≤ (cap : Int) := by omega
              have kl1 : k1 ≤ ps.length := by omega
              have kl2 : (k1 : Int) ≤ (ps.length : Int) := by omega
              rw [hk1] at YR
              clear X5 S5 B5 TG hg HC
              by_cases hcap : cap = k1
              · have pl1 : ps.length = k1 := by omega
                have C2 : Hid (∀ W, Below w5.heap.size w5 W → Calls Tryd.prog 40 #[.slice (some ⟨b, off, none⟩) 0 0] W fun e w' => e = .returned (.string (strOfNums (Dr.pl (ps.drop k1)))) ∧ Below W.heap.size W w') := fun W h => by
                  rw [show Dr.pl (ps.drop k1) = [] by rw [List.drop_of_length_le (by omega)]; rfl]
                  exact rplain_any (some ⟨b, off, none⟩) 0 [] W (.inl rfl) (by simp) (fun _ h => by simp at h) (by simp [Dr.pl])
                rw [pl1]
                subst hcap
                clear hc1 kc1 kc1i kl1 kl2 pl1 LN hk1 kl kli
                clear L5 PLd PLt PW
                generalize strOfNums (Dr.pl (ps.drop cap)) = sB at *
                generalize strOfNums (Dr.pl (ps.take k)) = sA at *
                go_region_held3 (fun w' => (w'.cell? ⟨bx, 0, none⟩ = some (.int .u8 p.v) ∧ w'.cell? ⟨bx, 1, none⟩ = some (.int .i64 q1) ∧ w'.cell? ⟨bx, 2, none⟩ = some (.int .i64 q2) ∧ w'.cell? ⟨bx, 3, none⟩ = some (.int .i64 q3)) ∧ (w'.cell? ⟨w.heap.size, 0, none⟩ = some (g w' 0) ∧ w'.frozen? ⟨w.heap.size, 0, none⟩ = false) ∧ (w'.cell? ⟨w.heap.size, 1, none⟩ = some (g w' 1) ∧ w'.frozen? ⟨w.heap.size, 1, none⟩ = false) ∧ (w'.cell? ⟨w.heap.size, 2, none⟩ = some (g w' 2) ∧ w'.frozen? ⟨w.heap.size, 2, none⟩ = false) ∧ (w'.cell? ⟨w.heap.size, 3, none⟩ = some (g w' 3) ∧ w'.frozen? ⟨w.heap.size, 3, none⟩ = false)) (first | (with_reducible exact FS.out _ _ _ _ _ T2.out) | (with_reducible exact FT.out _ T2.out) | (with_reducible exact FT.out _ T1.out) | (with_reducible exact FT.out _ T0.out)) (first
                  | (go_at_call 40; with_reducible refine (C1.out _ T1.out).mono ?_; rintro e w6 ⟨rfl, hB⟩; have T2 := hid (below_on T1.out hB); clear hB)
                  | (go_at_call 40; with_reducible refine (C2.out _ T1.out).mono ?_; rintro e w6 ⟨rfl, hB⟩; have T2 := hid (below_on T1.out hB); clear hB)
                  | (go_at_call 40; with_reducible refine (C1.out _ T0.out).mono ?_; rintro e w6 ⟨rfl, hB⟩; have T1 := hid (below_on T0.out hB); clear hB)
                  | (go_at_call 40; with_reducible refine (C2.out _ T0.out).mono ?_; rintro e w6 ⟨rfl, hB⟩; have T1 := hid (below_on T0.out hB); clear hB))
                have KB := hid (FB.out _ T2.out)
                have KT := hid (FR.out _ T2.out)
                clear FT FS T0 T1 T2 C1 C2
                go_wp2_with fail
                (try simp only [Exit.inBlock, Exit.then])
                refine bodyPost_ret (results_tmp_cell_tmp2 rfl _ _ w.heap.size 46 _ (0, 0) _ rfl (KT.out.put _ _ _ _) Tryd.underlying46 rfl (by kernel_rfl)) rfl ?_
                exact YR.out _ (dset4_below KB.out (Nat.le_refl _))
              · have C2 : Hid (∀ W, Below w5.heap.size w5 W → Calls Tryd.prog 40 #[.slice (some ⟨b, off + k1 * 7, none⟩) (ps.length - k1) (cap - k1)] W fun e w' => e = .returned (.string (strOfNums (Dr.pl (ps.drop k1)))) ∧ Below W.heap.size W w') := fun W h => by
                  have q := rplain_any (some ⟨b, off + k1 * 7, none⟩) (cap - k1) (ps.drop k1) W ((L5.out.below h).drop k1) (by rw [List.length_drop]; omega) (fun p hp => PW.out p (List.mem_of_mem_drop hp)) (PLd.out _)
                  rw [List.length_drop] at q
                  exact q
                clear hk1
                clear L5 PLd PLt PW
                generalize strOfNums (Dr.pl (ps.drop k1)) = sB at *
                generalize strOfNums (Dr.pl (ps.take k)) = sA at *
                go_region_held3 (fun w' => (w'.cell? ⟨bx, 0, none⟩ = some (.int .u8 p.v) ∧ w'.cell? ⟨bx, 1, none⟩ = some (.int .i64 q1) ∧ w'.cell? ⟨bx, 2, none⟩ = some (.int .i64 q2) ∧ w'.cell? ⟨bx, 3, none⟩ = some (.int .i64 q3)) ∧ (w'.cell? ⟨w.heap.size, 0, none⟩ = some (g w' 0) ∧ w'.frozen? ⟨w.heap.size, 0, none⟩ = false) ∧ (w'.cell? ⟨w.heap.size, 1, none⟩ = some (g w' 1) ∧ w'.frozen? ⟨w.heap.size, 1, none⟩ = false) ∧ (w'.cell? ⟨w.heap.size, 2, none⟩ = some (g w' 2) ∧ w'.frozen? ⟨w.heap.size, 2, none⟩ = false) ∧ (w'.cell? ⟨w.heap.size, 3, none⟩ = some (g w' 3) ∧ w'.frozen? ⟨w.heap.size, 3, none⟩ = false)) (first | (with_reducible exact FS.out _ _ _ _ _ T2.out) | (with_reducible exact FT.out _ T2.out) | (with_reducible exact FT.out _ T1.out) | (with_reducible exact FT.out _ T0.out)) (first
                  | (go_at_call 40; with_reducible refine (C1.out _ T1.out).mono ?_; rintro e w6 ⟨rfl, hB⟩; have T2 := hid (below_on T1.out hB); clear hB)
                  | (go_at_call 40; with_reducible refine (C2.out _ T1.out).mono ?_; rintro e w6 ⟨rfl, hB⟩; have T2 := hid (below_on T1.out hB); clear hB)
                  | (go_at_call 40; with_reducible refine (C1.out _ T0.out).mono ?_; rintro e w6 ⟨rfl, hB⟩; have T1 := hid (below_on T0.out hB); clear hB)
                  | (go_at_call 40; with_reducible refine (C2.out _ T0.out).mono ?_; rintro e w6 ⟨rfl, hB⟩; have T1 := hid (below_on T0.out hB); clear hB))
                have KB := hid (FB.out _ T2.out)
                have KT := hid (FR.out _ T2.out)
                clear FT FS T0 T1 T2 C1 C2
                go_wp2_with fail
                (try simp only [Exit.inBlock, Exit.then])
                refine bodyPost_ret (results_tmp_cell_tmp2 rfl _ _ w.heap.size 46 _ (0, 0) _ rfl (KT.out.put _ _ _ _) Tryd.underlying46 rfl (by kernel_rfl)) rfl ?_
                exact YR.out _ (dset4_below KB.out (Nat.le_refl _))

            · have F := hid (fun W (b : Below w.heap.size w W) => sg_exit (xs := xs) (by rw [SO.out]; exact decide_eq_false (fun q => ht (WO.out.1 q.2.1))) b)
              have ht1 : (Dr.tk p == 1) = false := by simpa using ht
              have ht2 : (Dr.tk p != 1) = true := by simpa using ht
              clear SO YE hv ON WO ht z0 z1 z2 z3 g0 g1 g2 g3
              generalize Dr.idx Dr.pvs p.v = vi at *
              generalize Dr.tk p = tv at *
              go_wp2_with (go_at_call 26; refine (IX.out _).mono ?_; rintro e w4 ⟨rfl, hw4⟩; rw [hw4]; clear hw4 w4)
              refine (TK.out _).mono ?_
              rintro e w3 ⟨rfl, d3⟩
              have S3 := hid (S2.out.below d3)
              have F := hid (F.out _ (below_on B2.out d3))
              obtain ⟨⟨z0, z1, z2, z3⟩, g0, g1, g2, g3⟩ := S3.out.cells
              clear d3 S2 B2 P2 IX TK b0 b1 b2 b3 b4 b5 b6
              go_wp2_with fail
              (try simp only [Exit.inBlock, Exit.then])
              refine bodyPost_ret (results_tmp_cell_tmp2 rfl _ _ w.heap.size 46 _ (0, 0) _ rfl (S3.out.put _ _ _ _) Tryd.underlying46 rfl (by kernel_rfl)) rfl ?_
              exact F.out
          · have F := hid (sg_exit (xs := xs) (by rw [SO.out]; exact decide_eq_false (fun q => hv q.2.2)) B2.out)
            have hv1 : Dr.idx Dr.pvs p.v < 0 := by omega
            clear SO YE hv ON WO
            generalize Dr.idx Dr.pvs p.v = vi at *
            go_wp2_with (go_at_call 26; refine (IX.out _).mono ?_; rintro e w4 ⟨rfl, hw4⟩; rw [hw4]; clear hw4 w4)
            (try simp only [Exit.inBlock, Exit.then])
            refine bodyPost_ret (results_tmp_cell_tmp2 rfl _ _ w.heap.size 46 _ (0, 0) _ rfl (S2.out.put _ _ _ _) Tryd.underlying46 rfl (by kernel_rfl)) rfl ?_
            exact F.out
        · have hn1 : (n == 1) = false := by simpa using hn
          have hn2 : (n != 1) = true := by simpa using hn
          have F := hid (sg_exit (xs := xs) (by rw [SO.out]; exact decide_eq_false (fun q => hn (d1.trans (Dr.wants_one.1 q.2.1).1))) B1.out)
          clear SO YE ON d1 d2 hn
          go_wp2_with fail
          (try simp only [Exit.inBlock, Exit.then])
          refine bodyPost_ret (results_tmp_cell_tmp2 rfl _ _ w.heap.size 46 _ (0, 0) _ rfl (S1.out.put _ _ _ _) Tryd.underlying46 rfl (by kernel_rfl)) rfl ?_
          exact F.out
  · have e0 : (E == 0) = false := by simpa using hE
    have e1 : (E != 0) = true := by simpa using hE
    have F := hid (sg_exit (xs := xs) (by rw [SO.out]; exact decide_eq_false (fun q => hE q.1)) B1.out)
    clear SO ON hE L1 B1
    go_wp2_with fail
    (try simp only [Exit.inBlock, Exit.then])
    refine bodyPost_ret (results_tmp_cell_tmp2 rfl _ _ w.heap.size 46 _ (0, 0) _ rfl (S1.out.put _ _ _ _) Tryd.underlying46 rfl (by kernel_rfl)) rfl ?_
    exact F.out
end Go.Proofs.YtaadooippelcfaaDoor
