/-
  directive: Single.
-/
import Derived.Test.YtaadooippelcfaaDoorDPl
import Derived.Test.YtaadooippelcfaaDoorDSettle
import Derived.Deep.DeepCutAuto
namespace Go.Proofs.YtaadooippelcfaaDoor
open Go Go.RowKit Go.Deep Go.Shelf

theorem results_tmp_cell_tmp2 {P : Program} {fn : Func} {p q u v : Tmp} {ty : TypeId} (h : fn.results = #[.tmp q, .cell p ty, .tmp u, .tmp v]) (tmps : Array Value) (w : World) (g : Nat) (t : TypeId) (cs : Array Value) (fr : Nat × Nat) (d : TypeDesc)
    (hp : tmps.getD p undef = .pointer (some ⟨g, 0, none⟩)) (hg : w.heap[g]? = some (.cells cs t fr))
    (hu : P.underlying ty = some d) (hd : (match d with | .struct _ | .array _ _ => true | _ => false) = true) (hi : (P.info? ty).map (·.size) = some cs.size) :
    (results fn tmps).run P w = .ok (.tuple #[tmps.getD q undef, .agg cs, tmps.getD u undef, tmps.getD v undef]) w := by
  simp only [results, h]
  simp [Sem.run_bind, Result.andThen]
  rw [Array.getD_eq_getD_getElem?] at hp
  rw [hp]
  simp [asAddr, run_loadVar_row w g t ty cs fr d hg hu hd hi]

theorem dsg_drew (w : World) : Below w.heap.size w w.drew := ⟨rfl, rfl, rfl, Nat.le_refl _, fun _ _ => rfl⟩
/-- What Single tells. -/
def SgTold (xs : List Int) (w : World) (e : Ending) (w' : World) : Prop := e = .returned (.tuple #[.string (strOfNums (Dr.sgA xs)), .agg (Dr.sgS xs), .string (strOfNums (Dr.sgB xs)), .bool (Dr.sgO xs)]) ∧ Below w.heap.size w w'

theorem LP.take {w : World} {a : Option Addr} {ps : List Dr.Pc} (h : LP w a ps) (k : Nat) : LP w a (ps.take k) := by
  rcases h with h | ⟨b, off, e, h⟩
  · left; rw [h]; simp
  · right
    refine ⟨b, off, e, fun i p hi => h i p ?_⟩
    rw [List.getElem?_take] at hi
    split at hi
    · exact hi
    · simp at hi
theorem LP.drop {w : World} {b off : Nat} {ps : List Dr.Pc} (h : LP w (some ⟨b, off, none⟩) ps) (k : Nat) : LP w (some ⟨b, off + k * 7, none⟩) (ps.drop k) := by
  rcases h with h | ⟨b', off', e, h⟩
  · left; rw [h]; simp
  · right
    cases e
    refine ⟨b, off + k * 7, rfl, fun i p hi => ?_⟩
    rw [List.getElem?_drop] at hi
    have := h (k + i) p hi
    rw [show off + k * 7 + i * 7 = off + (k + i) * 7 by omega]; exact this

theorem pcw_prs {s : ByteArray} {xs : List Int} (hs : Str s xs) : ∀ p ∈ (Dr.prs xs).1, PcW p := by
  intro p hp
  refine ⟨fun x hx => hs.mem (Dr.prs_sub _ xs (Nat.le_refl _) p hp x hx), ?_⟩
  rcases Dr.prs_form _ xs (Nat.le_refl _) p hp with h | h | h
  · rw [h.2.1]; omega
  · rw [h.2.1]; omega
  · exact (Dr.verb_ne h.1).2.2.2.2.2.2
theorem sg_exit {xs : List Int} {w W : World} (h : Dr.sgO xs = false) (b : Below w.heap.size w W) :
    SgTold xs w (.returned (.tuple #[.string ⟨#[]⟩, .agg #[.int .u8 0, .int .i64 0, .int .i64 0, .int .i64 0], .string ⟨#[]⟩, .bool false])) ((((W.setCell ⟨w.heap.size, 0, none⟩ (.int .u8 0)).setCell ⟨w.heap.size, 1, none⟩ (.int .i64 0)).setCell ⟨w.heap.size, 2, none⟩ (.int .i64 0)).setCell ⟨w.heap.size, 3, none⟩ (.int .i64 0)) := by
  obtain ⟨a, c, d⟩ := Dr.sg_no h
  exact ⟨by rw [a, c, d, h]; rfl, dset4_below b (Nat.le_refl _)⟩

set_option maxRecDepth 100000 in
set_option maxHeartbeats 4000000 in
theorem dsingle_any (s : ByteArray) (xs : List Int) (w : World) (hs : Str s xs) (hl : xs.length ≤ 16777216) :
    Calls Tryd.prog 21 #[.string s] w fun e w' => SgTold xs w e w' := by
  have PA := hid (fun W => parse_any s xs W hs (by omega))
  have FM := hid (Dr.prs_form _ xs (Nat.le_refl _))
  have SU := hid (Dr.prs_sub _ xs (Nat.le_refl _))
  have LG := hid (Dr.prs_lng _ xs (Nat.le_refl _))
  have PL := hid (Dr.pl_prs _ xs (Nat.le_refl _))
  have HS := hid hs
  have HL := hid hl
  have R0 := hid (S4.new w (.int .u8 0) (.int .i64 0) (.int .i64 0) (.int .i64 0))
  have B0 := hid (alloc_b w (.cells #[.int .u8 0, .int .i64 0, .int .i64 0, .int .i64 0] 46))
  clear hs hl
  go_enter Tryd.func21, Tryd.ntmps21
  go_wp2_with fail
  generalize w.alloc (.cells #[.int .u8 0, .int .i64 0, .int .i64 0, .int .i64 0] 46) = w0 at *
  refine (PA.out _).mono ?_
  rintro e w1 ⟨mv, rfl, r1, b1⟩
  obtain ⟨a, cap, rfl, hcap, lp⟩ := r1.lp
  have L1 := hid lp
  have S1 := hid (R0.out.below b1)
  have B1 := hid (below_on B0.out b1)
  have HC := hid hcap
  clear r1 b1 lp hcap PA B0 R0
  have PW := hid (pcw_prs HS.out)
  have WT := hid (fun W (h : LP W a (Dr.prs xs).1) => wants_any a cap (Dr.prs xs).1 W h (by have := LG.out; have := HL.out; omega))
  have LN : ((Dr.prs xs).1.length : Int) ≤ 16777216 := by have := LG.out; have := HL.out; omega
  have SO : Hid (Dr.sgO xs = decide ((Dr.prs xs).2.2 = 0 ∧ Dr.wants (Dr.prs xs).1 = 1 ∧ 0 ≤ Dr.idx Dr.pvs (Dr.sgP xs).v)) := rfl
  have ON := hid (fun h => Dr.sg_one (xs := xs) h)
  have YE := hid (fun h => Dr.sg_yes (xs := xs) h)
  have AH : Hid (∀ i, i < Dr.fd (Dr.prs xs).1 → Dr.isN ((Dr.prs xs).1.getD i Dr.Pc.no)) := fun i h => Dr.fd_ahead h
  have SP : Hid (Dr.sgP xs = (Dr.prs xs).1.getD (Dr.fd (Dr.prs xs).1) Dr.Pc.no) := rfl
  have PLt : Hid (∀ k, (Dr.pl ((Dr.prs xs).1.take k)).length ≤ 16777216) := fun k => by have := Dr.pl_le (l := (Dr.prs xs).1) (i := k); have := PL.out; have := HL.out; omega
  have PLd : Hid (∀ k, (Dr.pl ((Dr.prs xs).1.drop k)).length ≤ 16777216) := fun k => by
    have e : Dr.pl (Dr.prs xs).1 = Dr.pl ((Dr.prs xs).1.take k) ++ Dr.pl ((Dr.prs xs).1.drop k) := by rw [← Dr.pl_app, List.take_append_drop]
    have h1 := PL.out
    have h2 := HL.out
    rw [e, List.length_append] at h1; omega
  obtain ⟨⟨z0, z1, z2, z3⟩, g0, g1, g2, g3⟩ := S1.out.cells
  clear SU PL LG HL HS
  generalize (Dr.prs xs).1 = ps at *
  generalize (Dr.prs xs).2.2 = E at *
  by_cases hE : E = 0
  · have e0 : (E == 0) = true := by simpa using hE
    by_cases hW : Dr.wants ps = 1
    · obtain ⟨l1, l2, l3, l4, l5⟩ := ON.out hW
      have w1e : (Dr.wants ps == 1) = true := by simpa using hW
      have SO2 : Hid (Dr.sgO xs = decide (0 ≤ Dr.idx Dr.pvs (Dr.sgP xs).v)) := by
        show _ = _
        rw [SO.out]
        simp [hE, hW]
      have WT1 := hid (WT.out w1 L1.out)
      subst hE
      rw [hW] at WT1
      clear SO ON hW WT e0 w1e
      have LL := hid l1
      have RR := hid l2
      have ST := hid l5
      have l1i : ((Dr.fd ps : Nat) : Int) < (ps.length : Int) := by omega
      clear l1 l2 l3 l4 l5
      go_wp2_with fail
      refine WT1.out.mono ?_
      rintro e w2 ⟨rfl, b2⟩
      have L2 := hid (L1.out.below b2)
      have S2 := hid (S1.out.below b2)
      have B2 := hid (below_on B1.out b2)
      clear b2 z0 z1 z2 z3 g0 g1 g2 g3 S1 L1 B1 WT1
      go_wp2_with fail
      go_loopg [9] (Dr.fd ps) (fun m iv wr => ∃ k : Nat, k + m = Dr.fd ps ∧ iv = .int .i64 (k : Int) ∧ Hid (Below w2.heap.size w2 wr))
      case atStart => exact ⟨0, by omega, rfl, Below.refl _ _⟩
      case round =>
        obtain ⟨k, hk, rfl, I⟩ := hrel
        have kl : k < ps.length := by have := LL.out; omega
        have kli : (k : Int) < (ps.length : Int) := by omega
        have kb : (k : Int) ≤ 16777216 := by omega
        obtain ⟨b, off, rfl, hc⟩ := (L2.out.below I.out).at k kl
        obtain ⟨c0, c1, c2, c3, c4, c5, c6⟩ := hc
        have PWk := PW.out _ (pgetD_mem kl)
        have ID := hid (fun W => isdir_any (strOfNums (ps.getD k Dr.Pc.no).t) (ps.getD k Dr.Pc.no).t (ps.getD k Dr.Pc.no).v (ps.getD k Dr.Pc.no).fl (ps.getD k Dr.Pc.no).wk (ps.getD k Dr.Pc.no).wd (ps.getD k Dr.Pc.no).pk (ps.getD k Dr.Pc.no).pr W (Str.of_nums PWk.1) PWk.2.1 PWk.2.2)
        by_cases hf : k < Dr.fd ps
        · have nR : decide (Dr.isR (ps.getD k Dr.Pc.no)) = false := decide_eq_false (fun q => (Dr.ok_isR (FM.out _ (pgetD_mem kl))).1 q (AH.out k hf))
          have nR : Hid (decide (Dr.isR ⟨(ps.getD k Dr.Pc.no).t, (ps.getD k Dr.Pc.no).v, (ps.getD k Dr.Pc.no).fl, (ps.getD k Dr.Pc.no).wk, (ps.getD k Dr.Pc.no).wd, (ps.getD k Dr.Pc.no).pk, (ps.getD k Dr.Pc.no).pr⟩) = false) := nR
          rw [nR.out] at ID
          clear nR PWk
          generalize ps.getD k Dr.Pc.no = p at *
          go_wp2_with fail
          refine (ID.out _).mono ?_
          rintro e w3 ⟨rfl, b3⟩
          have F := hid (below_on I.out b3)
          clear b3 ID I
          go_wp2_with fail
          go_roundg (Dr.fd ps - (k + 1))
          case measure => omega
          case rel => exact ⟨k + 1, by omega, by go_num, F.out⟩
        · have kf : k = Dr.fd ps := by omega
          have yR : Hid (decide (Dr.isR ⟨(ps.getD k Dr.Pc.no).t, (ps.getD k Dr.Pc.no).v, (ps.getD k Dr.Pc.no).fl, (ps.getD k Dr.Pc.no).wk, (ps.getD k Dr.Pc.no).wd, (ps.getD k Dr.Pc.no).pk, (ps.getD k Dr.Pc.no).pr⟩) = true) := by
            have q := RR.out
            rw [SP.out, ← kf] at q
            exact decide_eq_true q
          rw [yR.out] at ID
          have PWs := hid PWk
          have SPk : Hid (Dr.sgP xs = ps.getD k Dr.Pc.no) := by rw [kf]; exact SP.out
          rw [SPk.out] at ST SO2 YE
          have CC : Hid (∀ W, Below w2.heap.size w2 W → PCells W b (off + k * 7) (ps.getD k Dr.Pc.no)) := fun W h => by
            obtain ⟨b', off', e, q⟩ := (L2.out.below h).at k kl
            cases e; exact q
          have YE : Hid (Dr.sgO xs = true → Dr.sgA xs = Dr.pl (ps.take k) ∧ Dr.sgB xs = Dr.pl (ps.drop (k + 1)) ∧ Dr.sgS xs = spv (ps.getD k Dr.Pc.no) 0 0) := by rw [kf]; rw [kf] at YE; exact YE.out
          clear yR PWk SP SPk RR AH LL hf kf l1i
          generalize ps.getD k Dr.Pc.no = p at *
          go_wp2_with fail
          refine (ID.out _).mono ?_
          rintro e w3 ⟨rfl, b3⟩
          have F3 := hid (below_on I.out b3)
          clear b3 ID I c0 c1 c2 c3 c4 c5 c6
          obtain ⟨c0, c1, c2, c3, c4, c5, c6⟩ := CC.out w3 F3.out
          have IX := hid (fun W => idx_any ⟨#[101, 69, 102, 70, 103, 71]⟩ Dr.pvs p.v W rfl PWs.out.2.1 PWs.out.2.2)
          have S3 := hid (S2.out.below F3.out)
          have B3 := hid (below_on B2.out F3.out)
          by_cases hv : 0 ≤ Dr.idx Dr.pvs p.v
          · have OT : Hid (Dr.sgO xs = true) := by rw [SO2.out]; exact decide_eq_true hv
            have hv1 : ¬ Dr.idx Dr.pvs p.v < 0 := by omega
            have YY := hid (YE.out OT.out)
            obtain ⟨q1, q2, q3, hq⟩ : ∃ q1 q2 q3 : Int, Hid (spv p 0 0 = #[.int .u8 p.v, .int .i64 q1, .int .i64 q2, .int .i64 q3]) := ⟨_, _, _, if_pos ST.out⟩
            have ES : Hid (∀ W, Calls Tryd.prog 19 #[.agg #[.string (strOfNums p.t), .int .u8 p.v, .int .i64 p.fl, .int .i64 p.wk, .int .i64 p.wd, .int .i64 p.pk, .int .i64 p.pr], .int .i64 0, .int .i64 0] W fun e w' => e = .returned (.tuple #[.agg #[.int .u8 p.v, .int .i64 q1, .int .i64 q2, .int .i64 q3], .int .i64 0]) ∧ Below W.heap.size W w') := fun W => by
              have q := settle_any p 0 0 W PWs.out (by omega) (by omega) (by omega) (by omega)
              simp only [SeTold, hq.out, ST.out] at q
              exact q
            have YR : Hid (∀ W, Below w.heap.size w W → SgTold xs w (.returned (.tuple #[.string (strOfNums (Dr.pl (ps.take k))), .agg #[.int .u8 p.v, .int .i64 q1, .int .i64 q2, .int .i64 q3], .string (strOfNums (Dr.pl (ps.drop (k + 1)))), .bool true])) W) := fun W h => by
              obtain ⟨e1, e2, e3⟩ := YY.out
              exact ⟨by rw [e1, e2, e3, hq.out, OT.out], h⟩
            clear SO2 YE hv YY OT hq ST FM
            generalize Dr.idx Dr.pvs p.v = vi at *
            go_wp2_with (go_at_call 38; refine (IX.out _).mono ?_; rintro e w4 ⟨rfl, hw4⟩; rw [hw4]; clear hw4 w4)
            refine (ES.out _).mono ?_
            rintro e w4 ⟨rfl, b4⟩
            have sl := (S3.out.below b4).lt
            have aL := alloc_b w4 (.cells #[.int .u8 p.v, .int .i64 q1, .int .i64 q2, .int .i64 q3] 46)
            have S5 := hid ((S3.out.below b4).below aL)
            have X5 := hid (S4.new w4 (.int .u8 p.v) (.int .i64 q1) (.int .i64 q2) (.int .i64 q3))
            have L5 := hid (((L2.out.below F3.out).below b4).below aL)
            have B5 := hid (below_on (below_on B3.out b4) aL)
            clear b4 aL c0 c1 c2 c3 c4 c5 c6 ES IX S3 S2 L2 F3 B3 B2 CC
            go_upto_region 12 with fail
            generalize w4.alloc (.cells #[.int .u8 p.v, .int .i64 q1, .int .i64 q2, .int .i64 q3] 46) = w5 at *
            obtain ⟨bx, hbx⟩ : ∃ bx, w4.heap.size = bx := ⟨_, rfl⟩
            rw [hbx] at X5 sl ⊢
            clear hbx
            have ne : w.heap.size ≠ bx := by omega
            obtain ⟨g, hg⟩ : ∃ g : World → Nat → Value, Hid (∀ w' i, g w' i = (w'.cell? ⟨w.heap.size, i, none⟩).getD (.bool false)) := ⟨_, fun _ _ => rfl⟩
            have TG : Hid (∀ (wx : World) (x0 x1 x2 x3 : Value), S4 wx w.heap.size x0 x1 x2 x3 → (wx.cell? ⟨w.heap.size, 0, none⟩ = some (g wx 0) ∧ wx.frozen? ⟨w.heap.size, 0, none⟩ = false) ∧ (wx.cell? ⟨w.heap.size, 1, none⟩ = some (g wx 1) ∧ wx.frozen? ⟨w.heap.size, 1, none⟩ = false) ∧ (wx.cell? ⟨w.heap.size, 2, none⟩ = some (g wx 2) ∧ wx.frozen? ⟨w.heap.size, 2, none⟩ = false) ∧ (wx.cell? ⟨w.heap.size, 3, none⟩ = some (g wx 3) ∧ wx.frozen? ⟨w.heap.size, 3, none⟩ = false)) := by
              intro wx x0 x1 x2 x3 h
              have key : ∀ i v, wx.cell? ⟨w.heap.size, i, none⟩ = some v → wx.cell? ⟨w.heap.size, i, none⟩ = some (g wx i) := fun i v q => by rw [hg.out, q]; rfl
              obtain ⟨⟨y0, y1, y2, y3⟩, f0, f1, f2, f3⟩ := h.cells
              exact ⟨⟨key 0 _ y0, f0⟩, ⟨key 1 _ y1, f1⟩, ⟨key 2 _ y2, f2⟩, ⟨key 3 _ y3, f3⟩⟩
            have FT : Hid (∀ wx : World, Below w5.heap.size w5 wx → (wx.cell? ⟨bx, 0, none⟩ = some (.int .u8 p.v) ∧ wx.cell? ⟨bx, 1, none⟩ = some (.int .i64 q1) ∧ wx.cell? ⟨bx, 2, none⟩ = some (.int .i64 q2) ∧ wx.cell? ⟨bx, 3, none⟩ = some (.int .i64 q3)) ∧ (wx.cell? ⟨w.heap.size, 0, none⟩ = some (g wx 0) ∧ wx.frozen? ⟨w.heap.size, 0, none⟩ = false) ∧ (wx.cell? ⟨w.heap.size, 1, none⟩ = some (g wx 1) ∧ wx.frozen? ⟨w.heap.size, 1, none⟩ = false) ∧ (wx.cell? ⟨w.heap.size, 2, none⟩ = some (g wx 2) ∧ wx.frozen? ⟨w.heap.size, 2, none⟩ = false) ∧ (wx.cell? ⟨w.heap.size, 3, none⟩ = some (g wx 3) ∧ wx.frozen? ⟨w.heap.size, 3, none⟩ = false)) := fun wx h => ⟨(X5.out.below h).cells.1, TG.out wx _ _ _ _ (S5.out.below h)⟩
            have FS : Hid (∀ (wx : World) (x0 x1 x2 x3 : Value), Below w5.heap.size w5 wx → (((((wx.setCell ⟨w.heap.size, 0, none⟩ x0).setCell ⟨w.heap.size, 1, none⟩ x1).setCell ⟨w.heap.size, 2, none⟩ x2).setCell ⟨w.heap.size, 3, none⟩ x3).cell? ⟨bx, 0, none⟩ = some (.int .u8 p.v) ∧ ((((wx.setCell ⟨w.heap.size, 0, none⟩ x0).setCell ⟨w.heap.size, 1, none⟩ x1).setCell ⟨w.heap.size, 2, none⟩ x2).setCell ⟨w.heap.size, 3, none⟩ x3).cell? ⟨bx, 1, none⟩ = some (.int .i64 q1) ∧ ((((wx.setCell ⟨w.heap.size, 0, none⟩ x0).setCell ⟨w.heap.size, 1, none⟩ x1).setCell ⟨w.heap.size, 2, none⟩ x2).setCell ⟨w.heap.size, 3, none⟩ x3).cell? ⟨bx, 2, none⟩ = some (.int .i64 q2) ∧ ((((wx.setCell ⟨w.heap.size, 0, none⟩ x0).setCell ⟨w.heap.size, 1, none⟩ x1).setCell ⟨w.heap.size, 2, none⟩ x2).setCell ⟨w.heap.size, 3, none⟩ x3).cell? ⟨bx, 3, none⟩ = some (.int .i64 q3)) ∧ (((((wx.setCell ⟨w.heap.size, 0, none⟩ x0).setCell ⟨w.heap.size, 1, none⟩ x1).setCell ⟨w.heap.size, 2, none⟩ x2).setCell ⟨w.heap.size, 3, none⟩ x3).cell? ⟨w.heap.size, 0, none⟩ = some (g ((((wx.setCell ⟨w.heap.size, 0, none⟩ x0).setCell ⟨w.heap.size, 1, none⟩ x1).setCell ⟨w.heap.size, 2, none⟩ x2).setCell ⟨w.heap.size, 3, none⟩ x3) 0) ∧ ((((wx.setCell ⟨w.heap.size, 0, none⟩ x0).setCell ⟨w.heap.size, 1, none⟩ x1).setCell ⟨w.heap.size, 2, none⟩ x2).setCell ⟨w.heap.size, 3, none⟩ x3).frozen? ⟨w.heap.size, 0, none⟩ = false) ∧ (((((wx.setCell ⟨w.heap.size, 0, none⟩ x0).setCell ⟨w.heap.size, 1, none⟩ x1).setCell ⟨w.heap.size, 2, none⟩ x2).setCell ⟨w.heap.size, 3, none⟩ x3).cell? ⟨w.heap.size, 1, none⟩ = some (g ((((wx.setCell ⟨w.heap.size, 0, none⟩ x0).setCell ⟨w.heap.size, 1, none⟩ x1).setCell ⟨w.heap.size, 2, none⟩ x2).setCell ⟨w.heap.size, 3, none⟩ x3) 1) ∧ ((((wx.setCell ⟨w.heap.size, 0, none⟩ x0).setCell ⟨w.heap.size, 1, none⟩ x1).setCell ⟨w.heap.size, 2, none⟩ x2).setCell ⟨w.heap.size, 3, none⟩ x3).frozen? ⟨w.heap.size, 1, none⟩ = false) ∧ (((((wx.setCell ⟨w.heap.size, 0, none⟩ x0).setCell ⟨w.heap.size, 1, none⟩ x1).setCell ⟨w.heap.size, 2, none⟩ x2).setCell ⟨w.heap.size, 3, none⟩ x3).cell? ⟨w.heap.size, 2, none⟩ = some (g ((((wx.setCell ⟨w.heap.size, 0, none⟩ x0).setCell ⟨w.heap.size, 1, none⟩ x1).setCell ⟨w.heap.size, 2, none⟩ x2).setCell ⟨w.heap.size, 3, none⟩ x3) 2) ∧ ((((wx.setCell ⟨w.heap.size, 0, none⟩ x0).setCell ⟨w.heap.size, 1, none⟩ x1).setCell ⟨w.heap.size, 2, none⟩ x2).setCell ⟨w.heap.size, 3, none⟩ x3).frozen? ⟨w.heap.size, 2, none⟩ = false) ∧ (((((wx.setCell ⟨w.heap.size, 0, none⟩ x0).setCell ⟨w.heap.size, 1, none⟩ x1).setCell ⟨w.heap.size, 2, none⟩ x2).setCell ⟨w.heap.size, 3, none⟩ x3).cell? ⟨w.heap.size, 3, none⟩ = some (g ((((wx.setCell ⟨w.heap.size, 0, none⟩ x0).setCell ⟨w.heap.size, 1, none⟩ x1).setCell ⟨w.heap.size, 2, none⟩ x2).setCell ⟨w.heap.size, 3, none⟩ x3) 3) ∧ ((((wx.setCell ⟨w.heap.size, 0, none⟩ x0).setCell ⟨w.heap.size, 1, none⟩ x1).setCell ⟨w.heap.size, 2, none⟩ x2).setCell ⟨w.heap.size, 3, none⟩ x3).frozen? ⟨w.heap.size, 3, none⟩ = false)) := fun wx x0 x1 x2 x3 h => ⟨((((X5.out.below h).far ne).far ne).far ne |>.far ne).cells.1, TG.out _ _ _ _ _ ((S5.out.below h).put x0 x1 x2 x3)⟩
            have FB : Hid (∀ wx : World, Below w5.heap.size w5 wx → Below w.heap.size w wx) := fun wx h => below_on B5.out h
            have FR : Hid (∀ wx : World, Below w5.heap.size w5 wx → S4 wx w.heap.size (.int .u8 0) (.int .i64 0) (.int .i64 0) (.int .i64 0)) := fun wx h => S5.out.below h
            have T0 := hid (dsg_drew w5)
            have C1 : Hid (∀ W, Below w5.heap.size w5 W → Calls Tryd.prog 39 #[.slice (some ⟨b, off, none⟩) k cap] W fun e w' => e = .returned (.string (strOfNums (Dr.pl (ps.take k)))) ∧ Below W.heap.size W w') := fun W h => by
              have q := plain_any (some ⟨b, off, none⟩) cap (ps.take k) W ((L5.out.below h).take k) (by rw [List.length_take]; omega) (fun p hp => PW.out p (List.mem_of_mem_take hp)) (PLt.out _)
              rw [List.length_take, Nat.min_eq_left (by omega)] at q
              exact q
            obtain ⟨k1, hk1⟩ : ∃ k1, k + 1 = k1 := ⟨_, rfl⟩
            have hc1 : ps.length ≤ cap := HC.out
            have WK : IntKind.i64.wrap ((k : Int) + 1) = (k1 : Int) := by rw [IntKind.wrap_i64]; omega
            have WS : IntKind.i64.wrap (k : Int) = (k : Int) := by rw [IntKind.wrap_i64]; omega
            have WS1 : IntKind.i64.wrap (k1 : Int) = (k1 : Int) := by rw [IntKind.wrap_i64]; omega
            have kp : (0 : Int) ≤ (k1 : Int) := by omega
            have kp0 : (0 : Int) ≤ (k : Int) := by omega
            have kc : k ≤ cap := by omega
            have kci : (k : Int) ≤ (cap : Int) := by omega
            have kc1 : k1 ≤ cap := by omega
            have kc1i : (k1 : Int) ≤ (cap : Int) := by omega
            have kl1 : k1 ≤ ps.length := by omega
            have kl2 : (k1 : Int) ≤ (ps.length : Int) := by omega
            rw [hk1] at YR
            clear X5 S5 B5 TG hg HC
            by_cases hcap : cap = k1
            · have pl1 : ps.length = k1 := by omega
              have C2 : Hid (∀ W, Below w5.heap.size w5 W → Calls Tryd.prog 39 #[.slice (some ⟨b, off, none⟩) 0 0] W fun e w' => e = .returned (.string (strOfNums (Dr.pl (ps.drop k1)))) ∧ Below W.heap.size W w') := fun W h => by
                rw [show Dr.pl (ps.drop k1) = [] by rw [List.drop_of_length_le (by omega)]; rfl]
                exact plain_any (some ⟨b, off, none⟩) 0 [] W (.inl rfl) (by simp) (fun _ h => by simp at h) (by simp [Dr.pl])
              rw [pl1]
              subst hcap
              clear hc1 kc1 kc1i kl1 kl2 pl1 hk LN hk1 kl kli
              clear L5 PLd PLt PW
              generalize strOfNums (Dr.pl (ps.drop cap)) = sB at *
              generalize strOfNums (Dr.pl (ps.take k)) = sA at *
              go_region_held3 (fun w' => (w'.cell? ⟨bx, 0, none⟩ = some (.int .u8 p.v) ∧ w'.cell? ⟨bx, 1, none⟩ = some (.int .i64 q1) ∧ w'.cell? ⟨bx, 2, none⟩ = some (.int .i64 q2) ∧ w'.cell? ⟨bx, 3, none⟩ = some (.int .i64 q3)) ∧ (w'.cell? ⟨w.heap.size, 0, none⟩ = some (g w' 0) ∧ w'.frozen? ⟨w.heap.size, 0, none⟩ = false) ∧ (w'.cell? ⟨w.heap.size, 1, none⟩ = some (g w' 1) ∧ w'.frozen? ⟨w.heap.size, 1, none⟩ = false) ∧ (w'.cell? ⟨w.heap.size, 2, none⟩ = some (g w' 2) ∧ w'.frozen? ⟨w.heap.size, 2, none⟩ = false) ∧ (w'.cell? ⟨w.heap.size, 3, none⟩ = some (g w' 3) ∧ w'.frozen? ⟨w.heap.size, 3, none⟩ = false)) (first | (with_reducible exact FS.out _ _ _ _ _ T2.out) | (with_reducible exact FT.out _ T2.out) | (with_reducible exact FT.out _ T1.out) | (with_reducible exact FT.out _ T0.out)) (first
                | (go_at_call 39; with_reducible refine (C1.out _ T1.out).mono ?_; rintro e w6 ⟨rfl, hB⟩; have T2 := hid (below_on T1.out hB); clear hB)
                | (go_at_call 39; with_reducible refine (C2.out _ T1.out).mono ?_; rintro e w6 ⟨rfl, hB⟩; have T2 := hid (below_on T1.out hB); clear hB)
                | (go_at_call 39; with_reducible refine (C1.out _ T0.out).mono ?_; rintro e w6 ⟨rfl, hB⟩; have T1 := hid (below_on T0.out hB); clear hB)
                | (go_at_call 39; with_reducible refine (C2.out _ T0.out).mono ?_; rintro e w6 ⟨rfl, hB⟩; have T1 := hid (below_on T0.out hB); clear hB))
              have KB := hid (FB.out _ T2.out)
              have KT := hid (FR.out _ T2.out)
              clear FT FS T0 T1 T2 C1 C2
              go_wp2_with fail
              (try simp only [Exit.inBlock, Exit.then])
              refine bodyPost_ret (results_tmp_cell_tmp2 rfl _ _ w.heap.size 46 _ (0, 0) _ rfl (KT.out.put _ _ _ _) Tryd.underlying46 rfl (by kernel_rfl)) rfl ?_
              exact YR.out _ (dset4_below KB.out (Nat.le_refl _))
            · have C2 : Hid (∀ W, Below w5.heap.size w5 W → Calls Tryd.prog 39 #[.slice (some ⟨b, off + k1 * 7, none⟩) (ps.length - k1) (cap - k1)] W fun e w' => e = .returned (.string (strOfNums (Dr.pl (ps.drop k1)))) ∧ Below W.heap.size W w') := fun W h => by
                have q := plain_any (some ⟨b, off + k1 * 7, none⟩) (cap - k1) (ps.drop k1) W ((L5.out.below h).drop k1) (by rw [List.length_drop]; omega) (fun p hp => PW.out p (List.mem_of_mem_drop hp)) (PLd.out _)
                rw [List.length_drop] at q
                exact q
              clear hk1 hk
              clear L5 PLd PLt PW
              generalize strOfNums (Dr.pl (ps.drop k1)) = sB at *
              generalize strOfNums (Dr.pl (ps.take k)) = sA at *
              go_region_held3 (fun w' => (w'.cell? ⟨bx, 0, none⟩ = some (.int .u8 p.v) ∧ w'.cell? ⟨bx, 1, none⟩ = some (.int .i64 q1) ∧ w'.cell? ⟨bx, 2, none⟩ = some (.int .i64 q2) ∧ w'.cell? ⟨bx, 3, none⟩ = some (.int .i64 q3)) ∧ (w'.cell? ⟨w.heap.size, 0, none⟩ = some (g w' 0) ∧ w'.frozen? ⟨w.heap.size, 0, none⟩ = false) ∧ (w'.cell? ⟨w.heap.size, 1, none⟩ = some (g w' 1) ∧ w'.frozen? ⟨w.heap.size, 1, none⟩ = false) ∧ (w'.cell? ⟨w.heap.size, 2, none⟩ = some (g w' 2) ∧ w'.frozen? ⟨w.heap.size, 2, none⟩ = false) ∧ (w'.cell? ⟨w.heap.size, 3, none⟩ = some (g w' 3) ∧ w'.frozen? ⟨w.heap.size, 3, none⟩ = false)) (first | (with_reducible exact FS.out _ _ _ _ _ T2.out) | (with_reducible exact FT.out _ T2.out) | (with_reducible exact FT.out _ T1.out) | (with_reducible exact FT.out _ T0.out)) (first
                | (go_at_call 39; with_reducible refine (C1.out _ T1.out).mono ?_; rintro e w6 ⟨rfl, hB⟩; have T2 := hid (below_on T1.out hB); clear hB)
                | (go_at_call 39; with_reducible refine (C2.out _ T1.out).mono ?_; rintro e w6 ⟨rfl, hB⟩; have T2 := hid (below_on T1.out hB); clear hB)
                | (go_at_call 39; with_reducible refine (C1.out _ T0.out).mono ?_; rintro e w6 ⟨rfl, hB⟩; have T1 := hid (below_on T0.out hB); clear hB)
                | (go_at_call 39; with_reducible refine (C2.out _ T0.out).mono ?_; rintro e w6 ⟨rfl, hB⟩; have T1 := hid (below_on T0.out hB); clear hB))
              have KB := hid (FB.out _ T2.out)
              have KT := hid (FR.out _ T2.out)
              clear FT FS T0 T1 T2 C1 C2
              go_wp2_with fail
              (try simp only [Exit.inBlock, Exit.then])
              refine bodyPost_ret (results_tmp_cell_tmp2 rfl _ _ w.heap.size 46 _ (0, 0) _ rfl (KT.out.put _ _ _ _) Tryd.underlying46 rfl (by kernel_rfl)) rfl ?_
              exact YR.out _ (dset4_below KB.out (Nat.le_refl _))
          · have F : Hid (SgTold xs w (.returned (.tuple #[.string ⟨#[]⟩, .agg #[.int .u8 0, .int .i64 0, .int .i64 0, .int .i64 0], .string ⟨#[]⟩, .bool false])) ((((w3.setCell ⟨w.heap.size, 0, none⟩ (.int .u8 0)).setCell ⟨w.heap.size, 1, none⟩ (.int .i64 0)).setCell ⟨w.heap.size, 2, none⟩ (.int .i64 0)).setCell ⟨w.heap.size, 3, none⟩ (.int .i64 0))) := sg_exit (by rw [SO2.out]; exact decide_eq_false hv) B3.out
            have hv1 : Dr.idx Dr.pvs p.v < 0 := by omega
            obtain ⟨⟨z0, z1, z2, z3⟩, g0, g1, g2, g3⟩ := S3.out.cells
            clear SO2 YE hv B3
            generalize Dr.idx Dr.pvs p.v = vi at *
            go_wp2_with (go_at_call 38; refine (IX.out _).mono ?_; rintro e w4 ⟨rfl, hw4⟩; rw [hw4]; clear hw4 w4)
            (try simp only [Exit.inBlock, Exit.then])
            refine bodyPost_ret (results_tmp_cell_tmp2 rfl _ _ w.heap.size 46 _ (0, 0) _ rfl (S3.out.put _ _ _ _) Tryd.underlying46 rfl (by kernel_rfl)) rfl ?_
            exact F.out
    · have w1e : (Dr.wants ps == 1) = false := by simpa using hW
      have WT1 := hid (WT.out w1 L1.out)
      have OF : Hid (Dr.sgO xs = false) := by
        rw [SO.out]; exact decide_eq_false (fun q => hW q.2.1)
      have w1n : (Dr.wants ps != 1) = true := by simpa using hW
      subst hE
      clear SO ON hW WT e0
      generalize Dr.wants ps = wn at *
      go_wp2_with fail
      refine WT1.out.mono ?_
      rintro e w2 ⟨rfl, b2⟩
      have S2 := hid (S1.out.below b2)
      have F := hid (sg_exit OF.out (below_on B1.out b2))
      clear b2 z0 z1 z2 z3 g0 g1 g2 g3 S1 L1 B1 WT1
      obtain ⟨⟨z0, z1, z2, z3⟩, g0, g1, g2, g3⟩ := S2.out.cells
      go_wp2_with fail
      (try simp only [Exit.inBlock, Exit.then])
      refine bodyPost_ret (results_tmp_cell_tmp2 rfl _ _ w.heap.size 46 _ (0, 0) _ rfl (S2.out.put _ _ _ _) Tryd.underlying46 rfl (by kernel_rfl)) rfl ?_
      exact F.out
  · have e0 : (E == 0) = false := by simpa using hE
    have e1 : (E != 0) = true := by simpa using hE
    have F := hid (sg_exit (by rw [SO.out]; exact decide_eq_false (fun q => hE q.1)) B1.out)
    clear SO ON hE WT L1 B1
    go_wp2_with fail
    (try simp only [Exit.inBlock, Exit.then])
    refine bodyPost_ret (results_tmp_cell_tmp2 rfl _ _ w.heap.size 46 _ (0, 0) _ rfl (S1.out.put _ _ _ _) Tryd.underlying46 rfl (by kernel_rfl)) rfl ?_
    exact F.out
end Go.Proofs.YtaadooippelcfaaDoor
