/-
  abacuslaw13: DirectiveSingle.
-/
import Derived.Test.YtoceghlfckfojaaDoorDSgC
import Derived.Deep.DeepCutAuto
namespace Go.Proofs.YtoceghlfckfojaaDoor
open Go Go.RowKit Go.Deep Go.Shelf

/-- The piece's box and the memory that stays. -/
structure SgB (w : World) (p : Dr.Pc) (W : World) : Prop where
  bel : Below w.heap.size w W
  box : P7 W w.heap.size (.string (strOfNums p.t)) (.int .u8 p.v) (.int .i64 p.fl) (.int .i64 p.wk) (.int .i64 p.wd) (.int .i64 p.pk) (.int .i64 p.pr)
theorem SgB.on {w W W' : World} {p : Dr.Pc} (h : SgB w p W) (k : Below W.heap.size W W') : SgB w p W' := ⟨below_on h.bel k, h.box.below k⟩
theorem SgB.onB {B : Nat} {w W W' : World} {p : Dr.Pc} (h : SgB w p W) (k : Below B W W') (hB : w.heap.size < B) : SgB w p W' := ⟨h.bel.trans (k.mono (by omega)), by rw [P7, k.block _ hB]; exact h.box⟩

set_option maxRecDepth 100000 in
set_option maxHeartbeats 8000000 in
theorem single_law (xs ys : List Int) (p : Dr.Pc) (w : World) (h1 : ∀ x ∈ xs, 0 ≤ x ∧ x < 256) (h2 : ∀ x ∈ ys, 0 ≤ x ∧ x < 256) (l1 : xs.length ≤ 140737488355328) (l2 : ys.length ≤ 140737488355328) (l3 : p.t.length ≤ 140737488355328) (hp : PcW p) (hT : T10 w.heap.size w) :
    Calls Tryd.prog 5 #[.string (strOfNums xs), .agg #[.string (strOfNums p.t), .int .u8 p.v, .int .i64 p.fl, .int .i64 p.wk, .int .i64 p.wd, .int .i64 p.pk, .int .i64 p.pr], .string (strOfNums ys)] w fun e w' => e = .returned (.bool true) ∧ Below w.heap.size w w' := by
  have S1 := hid (Str.of_nums h1)
  have S2 := hid (Str.of_nums h2)
  have S3 := hid (Str.of_nums hp.1)
  have z1 : ((strOfNums xs).size : Int) = (xs.length : Int) := by have := S1.out.size; omega
  have z2 : ((strOfNums ys).size : Int) = (ys.length : Int) := by have := S2.out.size; omega
  have z3 : ((strOfNums p.t).size : Int) = (p.t.length : Int) := by have := S3.out.size; omega
  have K0 : Hid (SgB w p (w.alloc (.cells #[.string (strOfNums p.t), .int .u8 p.v, .int .i64 p.fl, .int .i64 p.wk, .int .i64 p.wd, .int .i64 p.pk, .int .i64 p.pr] 25))) := ⟨alloc_b w _, P7.new w _ _ _ _ _ _ _⟩
  have AW : Hid (∀ W, Below w.heap.size w W → Calls Tryd.prog 6 #[] W fun e w' => e = .returned (.bool true) ∧ Below W.heap.size W w') := fun W h => awake_any W ((hT.on h).up h.size)
  have HT := hid hT
  have HP := hid hp
  have H1 := hid h1
  have H2 := hid h2
  clear h1 h2 hp hT
  go_enter Tryd.func5, Tryd.ntmps5
  go_wp2_with fail
  generalize w.alloc (.cells #[.string (strOfNums p.t), .int .u8 p.v, .int .i64 p.fl, .int .i64 p.wk, .int .i64 p.wd, .int .i64 p.pk, .int .i64 p.pr] 25) = wA at *
  refine (AW.out _ K0.out.bel).mono ?_
  rintro e w0 ⟨rfl, b0⟩
  have K1 := hid (K0.out.on b0)
  clear b0 AW K0
  obtain ⟨⟨c0, c1, c2, c3, c4, c5, c6⟩, -⟩ := K1.out.box.cells
  by_cases g1 : 1048576 < xs.length
  · have g1i : (1048576 : Int) < (xs.length : Int) := by omega
    have F := hid K1.out.bel
    clear K1
    go_wp2_with fail
    go_ret
    exact ⟨rfl, F.out⟩
  have g1i : ¬ (1048576 : Int) < (xs.length : Int) := by omega
  by_cases g3 : 1048576 < p.t.length
  · have g3i : (1048576 : Int) < (p.t.length : Int) := by omega
    have F := hid K1.out.bel
    clear K1
    go_wp2_with fail
    go_ret
    exact ⟨rfl, F.out⟩
  have g3i : ¬ (1048576 : Int) < (p.t.length : Int) := by omega
  by_cases g2 : 1048576 < ys.length
  · have g2i : (1048576 : Int) < (ys.length : Int) := by omega
    have F := hid K1.out.bel
    clear K1
    go_wp2_with fail
    go_ret
    exact ⟨rfl, F.out⟩
  have g2i : ¬ (1048576 : Int) < (ys.length : Int) := by omega
  have C1 := hid (fun W => cut_any (strOfNums xs) xs W S1.out (by omega))
  have C2 := hid (fun W => cut_any (strOfNums ys) ys W S2.out (by omega))
  have L1 := hid (show xs.length ≤ 1048576 by omega)
  have L2 := hid (show ys.length ≤ 1048576 by omega)
  have L3 := hid (show p.t.length ≤ 1048576 by omega)
  clear g1 g2 g3 l1 l2 l3
  go_wp2_with fail
  refine (C1.out _).mono ?_
  rintro e w1 ⟨mv1, rfl, r1, b1⟩
  have K2 := hid (K1.out.on b1)
  obtain ⟨lv1, w2, ap, q1, q2, q3⟩ := (RowP.nil w1.heap.size w1).cat r1 (by have := Dr.cutF_len xs []; have := L1.out; simp only [List.length_nil, Dr.cutL]; omega) (Nat.le_refl _)
  rw [List.nil_append] at q1
  have AP := hid ap
  have K3 := hid (K2.out.on q2)
  have s12 := q2.size
  clear ap r1 b1 q2 q3 c0 c1 c2 c3 c4 c5 c6 z1 z2 z3 g1i g2i g3i C1 K1
  obtain ⟨⟨c0, c1, c2, c3, c4, c5, c6⟩, -⟩ := K3.out.box.cells
  have sz2 := K3.out.bel.size
  have sb2 : w.heap.size < w1.heap.size := K2.out.box.lt
  obtain ⟨lv2, w3, bp, r1, r2, r3, r4⟩ := q1.push p (by have := Dr.cutF_len xs []; have := L1.out; simp only [Dr.cutL]; omega) s12
  have BP : Hid ((Builtin.append_ #[26, 26] 26 #[lv1, .slice (some ⟨w2.heap.size, 0, none⟩) 1 1]).run Tryd.prog (w2.alloc (.cells #[.string (strOfNums p.t), .int .u8 p.v, .int .i64 p.fl, .int .i64 p.wk, .int .i64 p.wd, .int .i64 p.pk, .int .i64 p.pr] 25)) = .ok lv2 w3) := bp
  have K4 : Hid (SgB w p w3) := K3.out.onB r3 sb2
  have s23 := r2
  clear bp r2 r3 r4
  go_wp2_with (at_builtin; first | (refine wpList_append_b rfl _ _ rfl AP.out (by rfl) (by rfl) ?_; clear AP) | (refine wpList_append_b rfl _ _ rfl BP.out (by rfl) (by rfl) ?_; clear BP))
  refine (C2.out _).mono ?_
  rintro e w4 ⟨mv2, rfl, t1, b4⟩
  have R1 := r1.below b4
  have K5 := hid (K4.out.on b4)
  obtain ⟨lv3, w5, cp, u1, u2, u3⟩ := R1.cat t1 (by have := Dr.cutF_len xs []; have := L1.out; have := Dr.cutF_len ys []; have := L2.out; simp only [List.length_append, List.length_cons, List.length_nil, Dr.cutL]; omega) (by have := b4.size; omega)
  rw [List.append_assoc] at u1
  have CP := hid cp
  have K6 : Hid (SgB w p w5) := K5.out.onB u2 sb2
  have U1 : Hid (RowP w1.heap.size w5 lv3 (Dr.sgl xs p ys)) := u1
  obtain ⟨a, cap, hlv, hcap, lp⟩ := U1.out.lp
  subst hlv
  clear cp u1 u2 u3 R1 t1 b4 r1 C2 U1 hcap
  go_wp2_with (at_builtin; refine wpList_append_b rfl _ _ rfl CP.out (by rfl) (by rfl) ?_; clear CP)
  have PWL := hid (sgl_pcw H1.out H2.out HP.out)
  have PR := hid (fun (h : T10 w5.heap.size w5) => print_any a cap (Dr.sgl xs p ys) w5 lp (by have := Dr.sgl_len xs p ys; have := L1.out; have := L2.out; omega) PWL.out (fun q hq => Nat.le_trans (sgl_small L1.out L2.out L3.out q hq) (by omega)) h)
  have T5 : Hid (T10 w5.heap.size w5) := (HT.out.on K6.out.bel).up K6.out.bel.size
  have CK := hid (fun W => check_pc p W HP.out)
  have IX : Dr.sgl xs p ys = Dr.cutL xs ++ p :: Dr.cutL ys := rfl
  clear lp K5 K4 K3 K2 c0 c1 c2 c3 c4 c5 c6 sz2 sb2 s12 s23
  by_cases hok : Dr.ok p
  · have LG := sgl_long L1.out L2.out L3.out hok (a := xs) (b := ys)
    obtain ⟨e1, e2⟩ := prE_ok (Dr.sgl_ok (a := xs) (b := ys) hok) (by omega)
    have ok0 : okN p = 0 := if_pos hok
    have PR1 := PR.out T5.out
    simp only [PrTold, e1, e2] at PR1
    rw [ok0] at CK
    have STR : Hid (Str (strOfNums (Dr.wrs (Dr.sgl xs p ys))) (Dr.wrs (Dr.sgl xs p ys))) := Str.of_nums (fun x hx => by
      obtain ⟨q, hq, hx⟩ := List.mem_flatMap.1 hx
      exact wr_by (PWL.out q hq) (Dr.sgl_ok hok q hq) x hx)
    have LGh := hid LG
    have SG := hid (fun W => dsingle_any (strOfNums (Dr.wrs (Dr.sgl xs p ys))) (Dr.wrs (Dr.sgl xs p ys)) W STR.out (by omega))
    have PR2 := hid PR1
    have OKh := hid hok
    clear PR PR1 IX e1 e2 ok0 hok PWL LG
    by_cases hO : Dr.sgO (Dr.wrs (Dr.sgl xs p ys)) = true
    · have isr : Hid (Dr.isR p) := by
        rcases OKh.out with k | k | k
        · exact absurd hO (by rw [Dr.sgl_none (.inl k)]; exact Bool.false_ne_true)
        · exact absurd hO (by rw [Dr.sgl_none (.inr k)]; exact Bool.false_ne_true)
        · exact k
      obtain ⟨y1, y2, y3⟩ := Dr.sgl_yes isr.out hO
      have y4 := hO
      rw [Dr.sgl_O isr.out] at y4
      obtain ⟨y5, y6, y7⟩ := of_decide_eq_true y4
      have tk1 := (Dr.tk_one isr.out).2 ⟨y5, y6⟩
      have TW := hid (Dr.sgl_two (a := xs) (b := ys) isr.out tk1)
      have st0 := Dr.ste_zero isr.out y5 y6
      obtain ⟨q1, q2, q3, hq⟩ : ∃ q1 q2 q3 : Int, Hid (spv p 0 0 = #[.int .u8 p.v, .int .i64 q1, .int .i64 q2, .int .i64 q3]) := ⟨_, _, _, if_pos st0⟩
      have ES : Hid (∀ W, Calls Tryd.prog 18 #[.agg #[.string (strOfNums p.t), .int .u8 p.v, .int .i64 p.fl, .int .i64 p.wk, .int .i64 p.wd, .int .i64 p.pk, .int .i64 p.pr], .int .i64 0, .int .i64 0] W fun e w' => e = .returned (.tuple #[.agg #[.int .u8 p.v, .int .i64 q1, .int .i64 q2, .int .i64 q3], .int .i64 0]) ∧ Below W.heap.size W w') := fun W => by
        have q := settle_any p 0 0 W HP.out (by omega) (by omega) (by omega) (by omega)
        simp only [SeTold, hq.out, st0] at q
        exact q
      have SG1 : Hid (∀ W, Calls Tryd.prog 17 #[.string (strOfNums (Dr.wrs (Dr.sgl xs p ys)))] W fun e w' => e = .returned (.tuple #[.string (strOfNums xs), .agg #[.int .u8 p.v, .int .i64 q1, .int .i64 q2, .int .i64 q3], .string (strOfNums ys), .bool true]) ∧ Below W.heap.size W w') := fun W => by
        have q := SG.out W
        simp only [SgTold, y1, y2, y3, hq.out, hO] at q
        exact q
      have SG2 : Hid (∀ W, Calls Tryd.prog 17 #[.string (strOfNums (Dr.wrs (Dr.sgl xs p ys)) ++ strOfNums (Dr.wrs (Dr.sgl xs p ys)))] W fun e w' => e = .returned (.tuple #[.string ⟨#[]⟩, .agg #[.int .u8 0, .int .i64 0, .int .i64 0, .int .i64 0], .string ⟨#[]⟩, .bool false]) ∧ Below W.heap.size W w') := fun W => by
        have q := dsingle_any _ _ W (app_str STR.out STR.out) (by have := LGh.out; rw [List.length_append]; omega)
        obtain ⟨n1, n2, n3⟩ := Dr.sg_no TW.out
        simp only [SgTold, n1, n2, n3, TW.out] at q
        exact q
      have CAT : ∀ wx, (Op.stringOp .add (strOfNums (Dr.wrs (Dr.sgl xs p ys))) (strOfNums (Dr.wrs (Dr.sgl xs p ys)))).run Tryd.prog wx = .ok (.string (strOfNums (Dr.wrs (Dr.sgl xs p ys)) ++ strOfNums (Dr.wrs (Dr.sgl xs p ys)))) wx := fun wx => run_string_add_sum wx _ _ (by have := STR.out.size; have := LGh.out; omega)
      obtain ⟨PT, hPT⟩ : ∃ PT, PT = true := ⟨_, rfl⟩
      have PTs : Hid ((p.v = 101 ∨ p.v = 69 ∨ p.v = 102 ∨ p.v = 70 ∨ p.v = 103 ∨ p.v = 71) → PT = true) := fun _ => hPT
      have PF : Hid (p.v ≠ 101 → p.v ≠ 69 → p.v ≠ 102 → p.v ≠ 70 → p.v ≠ 103 → p.v ≠ 71 → PT = false) := fun b1 b2 b3 b4 b5 b6 => by
        rcases Dr.pvs_iff.1 y7 with z | z | z | z | z | z
        · exact absurd z b1
        · exact absurd z b2
        · exact absurd z b3
        · exact absurd z b4
        · exact absurd z b5
        · exact absurd z b6
      have PTe := hid hPT
      have wk2 : (p.wk == 2) = false := by simpa using y5
      have pk2 : (p.pk == 2) = false := by simpa using y6
      clear hPT y1 y2 y3 y4 y5 y6 y7 tk1 st0 hq SG TW hO isr OKh STR LGh
      generalize strOfNums (Dr.wrs (Dr.sgl xs p ys)) = sS at *
      generalize strOfNums xs = sX at *
      generalize strOfNums ys = sY at *
      refine PR2.out.mono ?_
      rintro e w6 ⟨rfl, d6⟩
      have K7 := hid (K6.out.on d6)
      clear d6 PR2 K6 T5
      obtain ⟨⟨c0, c1, c2, c3, c4, c5, c6⟩, -⟩ := K7.out.box.cells
      go_wp2_with fail
      refine (CK.out _).mono ?_
      rintro e w7 ⟨rfl, d7⟩
      have K8 := hid (K7.out.on d7)
      clear d7 CK K7 c0 c1 c2 c3 c4 c5 c6
      go_wp2_with fail
      refine (SG1.out _).mono ?_
      rintro e w8 ⟨rfl, d8⟩
      have K9 := hid ((K8.out.on d8).on (alloc_b w8 (.cells #[.int .u8 p.v, .int .i64 q1, .int .i64 q2, .int .i64 q3] 46)))
      have X9 := hid (S4.new w8 (.int .u8 p.v) (.int .i64 q1) (.int .i64 q2) (.int .i64 q3))
      clear d8 SG1 K8
      go_upto_region 15 with fail
      generalize w8.alloc (.cells #[.int .u8 p.v, .int .i64 q1, .int .i64 q2, .int .i64 q3] 46) = w9 at *
      obtain ⟨xb, hxb⟩ : ∃ xb, w8.heap.size = xb := ⟨_, rfl⟩
      rw [hxb] at X9 ⊢
      clear hxb
      obtain ⟨⟨c0, c1, c2, c3, c4, c5, c6⟩, -⟩ := K9.out.box.cells
      go_cut [14] (fun v wx => v = .bool PT ∧ wx = w9)
      case first =>
        by_cases a101 : p.v = 101
        · have e0 : Hid (PT = true) := PTs.out (.inl a101)
          have f101 : (p.v == 101) = true := by simpa using a101
          clear PF PTs a101
          go_wp2_with fail
          go_meet
          exact ⟨by rw [e0.out], rfl⟩
        · have f101 : (p.v == 101) = false := by simpa using a101
          by_cases a69 : p.v = 69
          · have e0 : Hid (PT = true) := PTs.out (.inr (.inl a69))
            have f69 : (p.v == 69) = true := by simpa using a69
            clear PF PTs a69
            go_wp2_with fail
            go_meet
            exact ⟨by rw [e0.out], rfl⟩
          · have f69 : (p.v == 69) = false := by simpa using a69
            by_cases a102 : p.v = 102
            · have e0 : Hid (PT = true) := PTs.out (.inr (.inr (.inl a102)))
              have f102 : (p.v == 102) = true := by simpa using a102
              clear PF PTs a102
              go_wp2_with fail
              go_meet
              exact ⟨by rw [e0.out], rfl⟩
            · have f102 : (p.v == 102) = false := by simpa using a102
              by_cases a70 : p.v = 70
              · have e0 : Hid (PT = true) := PTs.out (.inr (.inr (.inr (.inl a70))))
                have f70 : (p.v == 70) = true := by simpa using a70
                clear PF PTs a70
                go_wp2_with fail
                go_meet
                exact ⟨by rw [e0.out], rfl⟩
              · have f70 : (p.v == 70) = false := by simpa using a70
                by_cases a103 : p.v = 103
                · have e0 : Hid (PT = true) := PTs.out (.inr (.inr (.inr (.inr (.inl a103)))))
                  have f103 : (p.v == 103) = true := by simpa using a103
                  clear PF PTs a103
                  go_wp2_with fail
                  go_meet
                  exact ⟨by rw [e0.out], rfl⟩
                · have f103 : (p.v == 103) = false := by simpa using a103
                  by_cases a71 : p.v = 71
                  · have e0 : Hid (PT = true) := PTs.out (.inr (.inr (.inr (.inr (.inr a71)))))
                    have f71 : (p.v == 71) = true := by simpa using a71
                    clear PF PTs a71
                    go_wp2_with fail
                    go_meet
                    exact ⟨by rw [e0.out], rfl⟩
                  · have f71 : (p.v == 71) = false := by simpa using a71
                    have e0 : Hid (PT = false) := PF.out a101 a69 a102 a70 a103 a71
                    clear PF PTs
                    go_wp2_with fail
                    go_meet
                    exact ⟨by rw [e0.out], rfl⟩
      case rest =>
      obtain ⟨h14, hwc⟩ := hcut
      have hwc := hwc.symm
      subst hwc
      subst h14
      have PTq := PTe.out
      subst PTq
      clear PF PTs PTe
      go_wp2_with fail
      refine (ES.out _).mono ?_
      rintro e wB ⟨rfl, dB⟩
      have KB := hid ((K9.out.on dB).on (alloc_b wB (.cells #[.int .u8 p.v, .int .i64 q1, .int .i64 q2, .int .i64 q3] 46)))
      have XB := hid ((X9.out.below dB).below (alloc_b wB (.cells #[.int .u8 p.v, .int .i64 q1, .int .i64 q2, .int .i64 q3] 46)))
      have YB := hid (S4.new wB (.int .u8 p.v) (.int .i64 q1) (.int .i64 q2) (.int .i64 q3))
      clear dB ES K9 X9 c0 c1 c2 c3 c4 c5 c6
      go_upto_region 19 with fail
      generalize wB.alloc (.cells #[.int .u8 p.v, .int .i64 q1, .int .i64 q2, .int .i64 q3] 46) = wC at *
      obtain ⟨yb, hyb⟩ : ∃ yb, wB.heap.size = yb := ⟨_, rfl⟩
      rw [hyb] at YB ⊢
      clear hyb
      obtain ⟨⟨x0, x1, x2, x3⟩, -⟩ := XB.out.cells
      obtain ⟨⟨y0, y1, y2, y3⟩, -⟩ := YB.out.cells
      have EQ := eq_spec13 p.v q1 q2 q3 p.v q1 q2 q3
      simp only [beq_self_eq_true, Bool.and_self] at EQ
      go_wp2_with fail
      refine (SG2.out _).mono ?_
      rintro e wD ⟨rfl, dD⟩
      have KD := hid (((KB.out.on dD).on (alloc_b wD (.cells #[.int .u8 0, .int .i64 0, .int .i64 0, .int .i64 0] 46))).bel)
      clear dD SG2 KB XB YB x0 x1 x2 x3 y0 y1 y2 y3 EQ
      go_wp2_with fail
      go_ret
      exact ⟨rfl, KD.out⟩
    · have OF : Dr.sgO (Dr.wrs (Dr.sgl xs p ys)) = false := by simpa using hO
      have NP : Hid (Dr.idx Dr.pvs p.v < 0 ∨ p.wk = 2 ∨ p.pk = 2) := by
        show _ ∨ _
        have nv : ∀ v : Int, v = 0 ∨ v = 37 → Dr.idx Dr.pvs v < 0 := by rintro v (rfl | rfl) <;> decide
        rcases OKh.out with k | k | k
        · exact .inl (nv _ (.inl k.2.1))
        · exact .inl (nv _ (.inr k.2.1))
        · rw [Dr.sgl_O k] at OF
          have z := of_decide_eq_false OF
          by_cases y1 : p.wk = 2
          · exact .inr (.inl y1)
          · by_cases y2 : p.pk = 2
            · exact .inr (.inr y2)
            · exact .inl (by
                rcases Int.lt_or_le (Dr.idx Dr.pvs p.v) 0 with y3 | y3
                · exact y3
                · exact absurd ⟨y1, y2, y3⟩ z)
      have SG1 : Hid (∀ W, Calls Tryd.prog 17 #[.string (strOfNums (Dr.wrs (Dr.sgl xs p ys)))] W fun e w' => e = .returned (.tuple #[.string ⟨#[]⟩, .agg #[.int .u8 0, .int .i64 0, .int .i64 0, .int .i64 0], .string ⟨#[]⟩, .bool false]) ∧ Below W.heap.size W w') := fun W => by
        have q := SG.out W
        obtain ⟨n1, n2, n3⟩ := Dr.sg_no OF
        simp only [SgTold, n1, n2, n3, OF] at q
        exact q
      obtain ⟨PT, hPT⟩ : ∃ PT, PT = decide (0 ≤ Dr.idx Dr.pvs p.v) := ⟨_, rfl⟩
      have PTs : Hid ((p.v = 101 ∨ p.v = 69 ∨ p.v = 102 ∨ p.v = 70 ∨ p.v = 103 ∨ p.v = 71) → PT = true) := fun q => by rw [hPT]; exact decide_eq_true (Dr.pvs_iff.2 q)
      have PF : Hid (p.v ≠ 101 → p.v ≠ 69 → p.v ≠ 102 → p.v ≠ 70 → p.v ≠ 103 → p.v ≠ 71 → PT = false) := fun b1 b2 b3 b4 b5 b6 => by
        rw [hPT]
        refine decide_eq_false (fun y7 => ?_)
        rcases Dr.pvs_iff.1 y7 with z | z | z | z | z | z
        · exact b1 z
        · exact b2 z
        · exact b3 z
        · exact b4 z
        · exact b5 z
        · exact b6 z
      have NP2 : Hid (PT = false ∨ p.wk = 2 ∨ p.pk = 2) := by
        rcases NP.out with z | z
        · exact .inl (by rw [hPT]; exact decide_eq_false (by omega))
        · exact .inr z
      clear hPT SG hO OF OKh STR LGh NP
      generalize strOfNums (Dr.wrs (Dr.sgl xs p ys)) = sS at *
      refine PR2.out.mono ?_
      rintro e w6 ⟨rfl, d6⟩
      have K7 := hid (K6.out.on d6)
      clear d6 PR2 K6 T5
      obtain ⟨⟨c0, c1, c2, c3, c4, c5, c6⟩, -⟩ := K7.out.box.cells
      go_wp2_with fail
      refine (CK.out _).mono ?_
      rintro e w7 ⟨rfl, d7⟩
      have K8 := hid (K7.out.on d7)
      clear d7 CK K7 c0 c1 c2 c3 c4 c5 c6
      go_wp2_with fail
      refine (SG1.out _).mono ?_
      rintro e w8 ⟨rfl, d8⟩
      have K9 := hid ((K8.out.on d8).on (alloc_b w8 (.cells #[.int .u8 0, .int .i64 0, .int .i64 0, .int .i64 0] 46)))
      have X9 := hid (S4.new w8 (.int .u8 0) (.int .i64 0) (.int .i64 0) (.int .i64 0))
      clear d8 SG1 K8
      go_upto_region 15 with fail
      generalize w8.alloc (.cells #[.int .u8 0, .int .i64 0, .int .i64 0, .int .i64 0] 46) = w9 at *
      obtain ⟨xb, hxb⟩ : ∃ xb, w8.heap.size = xb := ⟨_, rfl⟩
      rw [hxb] at X9 ⊢
      clear hxb
      obtain ⟨⟨c0, c1, c2, c3, c4, c5, c6⟩, -⟩ := K9.out.box.cells
      go_cut [14] (fun v wx => v = .bool PT ∧ wx = w9)
      case first =>
        by_cases a101 : p.v = 101
        · have e0 : Hid (PT = true) := PTs.out (.inl a101)
          have f101 : (p.v == 101) = true := by simpa using a101
          clear PF PTs a101
          go_wp2_with fail
          go_meet
          exact ⟨by rw [e0.out], rfl⟩
        · have f101 : (p.v == 101) = false := by simpa using a101
          by_cases a69 : p.v = 69
          · have e0 : Hid (PT = true) := PTs.out (.inr (.inl a69))
            have f69 : (p.v == 69) = true := by simpa using a69
            clear PF PTs a69
            go_wp2_with fail
            go_meet
            exact ⟨by rw [e0.out], rfl⟩
          · have f69 : (p.v == 69) = false := by simpa using a69
            by_cases a102 : p.v = 102
            · have e0 : Hid (PT = true) := PTs.out (.inr (.inr (.inl a102)))
              have f102 : (p.v == 102) = true := by simpa using a102
              clear PF PTs a102
              go_wp2_with fail
              go_meet
              exact ⟨by rw [e0.out], rfl⟩
            · have f102 : (p.v == 102) = false := by simpa using a102
              by_cases a70 : p.v = 70
              · have e0 : Hid (PT = true) := PTs.out (.inr (.inr (.inr (.inl a70))))
                have f70 : (p.v == 70) = true := by simpa using a70
                clear PF PTs a70
                go_wp2_with fail
                go_meet
                exact ⟨by rw [e0.out], rfl⟩
              · have f70 : (p.v == 70) = false := by simpa using a70
                by_cases a103 : p.v = 103
                · have e0 : Hid (PT = true) := PTs.out (.inr (.inr (.inr (.inr (.inl a103)))))
                  have f103 : (p.v == 103) = true := by simpa using a103
                  clear PF PTs a103
                  go_wp2_with fail
                  go_meet
                  exact ⟨by rw [e0.out], rfl⟩
                · have f103 : (p.v == 103) = false := by simpa using a103
                  by_cases a71 : p.v = 71
                  · have e0 : Hid (PT = true) := PTs.out (.inr (.inr (.inr (.inr (.inr a71)))))
                    have f71 : (p.v == 71) = true := by simpa using a71
                    clear PF PTs a71
                    go_wp2_with fail
                    go_meet
                    exact ⟨by rw [e0.out], rfl⟩
                  · have f71 : (p.v == 71) = false := by simpa using a71
                    have e0 : Hid (PT = false) := PF.out a101 a69 a102 a70 a103 a71
                    clear PF PTs
                    go_wp2_with fail
                    go_meet
                    exact ⟨by rw [e0.out], rfl⟩
      case rest =>
      obtain ⟨h14, hwc⟩ := hcut
      have hwc := hwc.symm
      subst hwc
      subst h14
      clear PF PTs
      go_upto_region 16 with fail
      go_cut [106] (fun v wx => v = .bool true ∧ wx = w9)
      case first =>
        rcases NP2.out with z | z | z
        · subst z
          clear NP2
          go_wp2_with fail
          go_meet
          exact ⟨rfl, rfl⟩
        · rw [z] at c3
          clear NP2 z
          cases PT
          · go_wp2_with fail
            go_meet
            exact ⟨rfl, rfl⟩
          · go_wp2_with fail
            go_meet
            exact ⟨rfl, rfl⟩
        · rw [z] at c5
          clear NP2 z
          by_cases y : p.wk = 2
          · have y' : (p.wk == 2) = true := by simpa using y
            clear y
            cases PT
            · go_wp2_with fail
              go_meet
              exact ⟨rfl, rfl⟩
            · go_wp2_with fail
              go_meet
              exact ⟨rfl, rfl⟩
          · have y' : (p.wk == 2) = false := by simpa using y
            clear y
            cases PT
            · go_wp2_with fail
              go_meet
              exact ⟨rfl, rfl⟩
            · go_wp2_with fail
              go_meet
              exact ⟨rfl, rfl⟩
      case rest =>
      obtain ⟨h106, hwc⟩ := hcut
      have hwc := hwc.symm
      subst hwc
      subst h106
      obtain ⟨⟨x0, x1, x2, x3⟩, -⟩ := X9.out.cells
      have EQ := eq_spec13 0 0 0 0 0 0 0 0
      simp only [beq_self_eq_true, Bool.and_self] at EQ
      have KF := hid K9.out.bel
      clear K9 X9 NP2
      go_wp2_with fail
      go_ret
      exact ⟨rfl, KF.out⟩
  · have ok1 : okN p = 132 := if_neg hok
    have gl : (Dr.sgl xs p ys).getD (Dr.cutL xs).length Dr.Pc.no = p := by rw [IX]; simp
    obtain ⟨e1, e2⟩ := prE_bad (ps := Dr.sgl xs p ys) (i := (Dr.cutL xs).length) (by rw [IX]; simp) (by rw [gl]; exact hok)
    have PR1 := PR.out T5.out
    simp only [PrTold, e1, e2] at PR1
    rw [ok1] at CK
    have PR2 := hid PR1
    clear PR PR1 IX e1 e2 ok1 gl hok PWL
    refine PR2.out.mono ?_
    rintro e w6 ⟨rfl, d6⟩
    have K7 := hid (K6.out.on d6)
    clear d6 PR2 K6 T5
    obtain ⟨⟨c0, c1, c2, c3, c4, c5, c6⟩, -⟩ := K7.out.box.cells
    go_wp2_with fail
    refine (CK.out _).mono ?_
    rintro e w7 ⟨rfl, d7⟩
    have K8 := hid (K7.out.on d7).bel
    clear d7 CK K7 c0 c1 c2 c3 c4 c5 c6
    go_wp2_with fail
    go_ret
    exact ⟨rfl, K8.out⟩
theorem single_law2 (s1 s2 : ByteArray) (xs ys : List Int) (p : Dr.Pc) (w : World) (h1 : Str s1 xs) (h2 : Str s2 ys) (l1 : xs.length ≤ 140737488355328) (l2 : ys.length ≤ 140737488355328) (l3 : p.t.length ≤ 140737488355328) (hp : PcW p) (hT : T10 w.heap.size w) :
    Calls Tryd.prog 5 #[.string s1, .agg #[.string (strOfNums p.t), .int .u8 p.v, .int .i64 p.fl, .int .i64 p.wk, .int .i64 p.wd, .int .i64 p.pk, .int .i64 p.pr], .string s2] w fun e w' => e = .returned (.bool true) ∧ Below w.heap.size w w' := by
  rw [str_of h1, str_of h2]
  exact single_law xs ys p w (fun x hx => h1.mem hx) (fun x hx => h2.mem hx) l1 l2 l3 hp hT
end Go.Proofs.YtoceghlfckfojaaDoor
