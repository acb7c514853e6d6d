/-
  abacuslaw18's RelateSorted, walked.
-/
import Derived.Test.YthpecfncndclfaaGreatDoorGJ
import Derived.Deep.LoopGhost
namespace Go.Proofs.YthpecfncndclfaaGreatDoor
open Go Go.RowKit Go.Deep Go.Shelf

set_option maxRecDepth 100000 in
set_option maxHeartbeats 8000000 in
theorem rsorted_law (p : Option Addr) (cap : Nat) (A : List Re.Vl) (k : Int) (w : World) (ht : Tab10 w) (hv : Re.LV w p A) (hw : ∀ a ∈ A, 0 ≤ a.n ∧ a.n < 18446744073709551616) (hl : A.length ≤ 4398046511104) (hk : k ≤ 9223372036854775807) :
    Calls Tryz.prog 7 #[.slice p A.length cap, .int .i64 k] w fun e w' => e = .returned (.bool true) ∧ Below w.heap.size w w' := by
  have AW := hid (rawake_any w ht)
  have VA := hid (fun W (z : Below w.heap.size w W) => values_any p cap A W (hv.on z) hl)
  have SO := hid (fun q c W (z : Re.LV W q A) => sort_any q c A W z hw hl)
  have TO := hid (fun q c W (z : Re.LV W q A) => top_any q c A k W z hw hl hk)
  obtain ⟨n, hn⟩ : ∃ n, A.length = n := ⟨_, rfl⟩
  have HN := hid hn
  have HV := hid hv
  have HW := hid hw
  rw [hn] at VA SO TO hl ⊢
  have HL := hid hl
  have M1 := Re.make_b n hl
  have M2 := Re.make_v0 n hl
  have ln : (n : Int) ≤ 4398046511104 := by omega
  clear hv hw hn ht hl
  go_enter Tryz.func7, Tryz.ntmps7
  go_wp2_with fail
  refine AW.out.mono ?_
  rintro e w1 ⟨rfl, b1⟩
  have B1 := hid b1
  clear b1 AW
  go_wp2_with fail
  refine (VA.out _ B1.out).mono ?_
  rintro e w2 ⟨g2, rfl, hg2, x2, b2⟩
  have B2 := hid (And.intro x2 (below_on B1.out b2))
  clear x2 b2 B1 hg2
  go_wp2_with fail
  refine (SO.out _ _ _ (Re.LV.row B2.out.1)).mono ?_
  rintro e w3 ⟨gp, P, rfl, hgp, x3, so, pl, b3⟩
  have SP := hid so
  have PL := hid pl
  have sz3 := x3.lt
  have y1 := alloc_b w3 (.cells (Re.fl Re.eb (List.replicate n false)).toArray 4)
  have y2 := alloc_b (w3.alloc (.cells (Re.fl Re.eb (List.replicate n false)).toArray 4)) (.cells (Re.fl Re.ev (List.replicate n Re.zv)).toArray 27)
  have l1 : (w3.alloc (.cells (Re.fl Re.eb (List.replicate n false)).toArray 4)).heap.size = w3.heap.size + 1 := Array.size_push ..
  have I0 : Hid (Re.SS w A P n gp w3.heap.size (w3.heap.size + 1) 0 ((w3.alloc (.cells (Re.fl Re.eb (List.replicate n false)).toArray 4)).alloc (.cells (Re.fl Re.ev (List.replicate n Re.zv)).toArray 27))) := by
    have bw := below_on B2.out.2 b3
    have ww := bw.size
    refine ⟨(x3.on y1).on y2, ?_, ?_, below_on (below_on bw y1) y2, ww, by omega, by omega, by omega, by omega⟩
    · rw [Re.sn_zero]; exact (Bx.new w3 _ _).on y2
    · rw [Re.fil_zero, Re.agn_len, PL.out, ← l1]; exact Bx.new _ _ _
  clear so pl hgp x3 b3 B2 y1 y2 sz3
  go_upto_region 9 with fail
  generalize (w3.alloc (.cells (Re.fl Re.eb (List.replicate n false)).toArray 4)).alloc (.cells (Re.fl Re.ev (List.replicate n Re.zv)).toArray 27) = wa at *
  clear M1 M2 l1
  generalize w3.heap.size + 1 = ga at *
  generalize w3.heap.size = gs at *
  go_wp2_with fail
  go_loopg [8, 9] n (fun m av iv wr => ∃ i : Nat, i + m = n ∧ av = .slice (some ⟨ga, 0, none⟩) i n ∧ iv = .int .i64 (i : Int) ∧ Hid (Re.SS w A P n gp gs ga i wr))
  case atStart => exact ⟨0, by omega, rfl, rfl, I0⟩
  case round =>
    obtain ⟨i, hi, rfl, rfl, I⟩ := hrel
    by_cases hlt : i < n
    · have hli : (i : Int) < (n : Int) := by omega
      obtain ⟨j, a, hj, hP, hA, -⟩ := SP.out.at (i := i) (by have := PL.out; omega)
      have hjn : j < n := by have := HN.out; omega
      have c0 := I.out.pc hP
      have d0 := I.out.sc (Re.sn_at SP.out.nodup hP hjn)
      have df := I.out.bs.free j
      have jl : (j : Int) < (n : Int) := by omega
      obtain ⟨W3, ap, s3⟩ := I.out.step hP hjn hA PL.out
      have AP := hid ap
      have S3 := hid s3
      clear ap s3
      have HP := hid hP
      have HA := hid hA
      have B5 := hid (show Below w.heap.size w (wr.setCell ⟨gs, j, none⟩ (.bool true)) from I.out.bl.setCell (p := ⟨gs, j, none⟩) I.out.ls _)
      have P5 := hid (show Bx (wr.setCell ⟨gs, j, none⟩ (.bool true)) gp 3 (Re.fl Re.ei P).toArray from I.out.bp.far I.out.ps)
      clear hP hA hj I0
      go_upto_region 15 with fail
      generalize wr.setCell ⟨gs, j, none⟩ (.bool true) = w5 at *
      clear c0 d0 df I
      have c0 : w5.cell? ⟨gp, i, none⟩ = some (.int .i64 (j : Int)) := by
        have := Re.bx_cell Re.ei_len P5.out HP.out 0 (by omega) _ rfl
        rwa [Nat.mul_one, Nat.add_zero] at this
      obtain ⟨b, off, rfl, v0, v1, v2⟩ := (HV.out.on B5.out).at HA.out
      go_upto_region 16 with (at_builtin; refine wpList_append_t rfl _ _ rfl AP.out (by rfl) (by rfl) ?_; clear AP)
      clear c0 v0 v1 v2 B5 P5
      by_cases i0 : i = 0
      · subst i0
        go_wp2_with fail
        go_roundg (n - 1)
        case measure => omega
        case rel => exact ⟨1, by omega, rfl, by go_num, S3⟩
      · obtain ⟨l, hl⟩ : ∃ l, i = l + 1 := ⟨i - 1, by omega⟩
        have ip : (0 : Int) < (i : Int) := by omega
        have ws : IntKind.i64.wrap ((i : Int) - 1) = (l : Int) := by rw [IntKind.wrap_i64]; omega
        have l0 : (0 : Int) ≤ (l : Int) := by omega
        have HI := hid hl
        obtain ⟨j', a', hj', hP', hA', -⟩ := SP.out.at (i := l) (by have := PL.out; omega)
        have jl' : (j' : Int) < (n : Int) := by have := HN.out; omega
        have lb : (l : Int) < (n : Int) := by omega
        have FL : Hid (∀ W, Below W3.heap.size W3 W → W.cell? ⟨gp, l, none⟩ = some (.int .i64 (j' : Int)) ∧ W.cell? ⟨gp, i, none⟩ = some (.int .i64 (j : Int)) ∧ W.cell? ⟨b, off + j' * 3, none⟩ = some (.int .i64 a'.k) ∧ W.cell? ⟨b, off + j' * 3 + 1, none⟩ = some (.int .u64 a'.n) ∧ W.cell? ⟨b, off + j' * 3 + 2, none⟩ = some (.string a'.s) ∧ W.cell? ⟨b, off + j * 3, none⟩ = some (.int .i64 a.k) ∧ W.cell? ⟨b, off + j * 3 + 1, none⟩ = some (.int .u64 a.n) ∧ W.cell? ⟨b, off + j * 3 + 2, none⟩ = some (.string a.s)) := fun W hB => by
          have s := S3.out.on hB
          obtain ⟨b2, off2, eb, v0, v1, v2⟩ := (HV.out.on s.bl).at hA'
          obtain ⟨b3, off3, ec, u0, u1, u2⟩ := (HV.out.on s.bl).at HA.out
          obtain ⟨rfl, rfl⟩ : b2 = b ∧ off2 = off := by simp at eb; exact ⟨eb.1.symm, eb.2.symm⟩
          obtain ⟨rfl, rfl⟩ : b3 = b2 ∧ off3 = off2 := by simp at ec; exact ⟨ec.1.symm, ec.2.symm⟩
          exact ⟨s.pc hP', s.pc HP.out, v0, v1, v2, u0, u1, u2⟩
        have FM : Hid (∀ W, Re.SS w A P n gp gs ga (i + 1) W → W.drew.cell? ⟨gp, l, none⟩ = some (.int .i64 (j' : Int)) ∧ W.drew.cell? ⟨gp, i, none⟩ = some (.int .i64 (j : Int))) := fun W h => by
          have s := h.on (Below.drew (Below.refl _ _))
          exact ⟨s.pc hP', s.pc HP.out⟩
        have nx := SP.out.next (show l < i by omega) hP' HP.out hA' HA.out
        have n1 := HW.out a' (List.mem_of_getElem? hA')
        have n2 := HW.out a (List.mem_of_getElem? HA.out)
        have OR := hid (fun W => order_any a'.k a'.n a'.s a.k a.n a.s W n1.1 n1.2 n2.1 n2.2)
        have T0 := hid (FL.out _ (Below.drew (Below.refl _ _)))
        have cb := Re.cm_b (Re.rt a'.k a'.n a'.s) (Re.rt a.k a.n a.s)
        clear hl hP' hA' hj' n1 n2
        rcases nx with z | ⟨zc, z2⟩
        · have zc : Re.cm (Re.rt a'.k a'.n a'.s) (Re.rt a.k a.n a.s) = -1 := by omega
          clear z cb
          have OC : Hid (∀ W, Calls Tryz.prog 17 #[.agg #[.int .i64 a'.k, .int .u64 a'.n, .string a'.s], .agg #[.int .i64 a.k, .int .u64 a.n, .string a.s]] W fun e w' => e = .returned (.int .i64 (-1)) ∧ Below W.heap.size W w') := fun W => by
            have h := OR.out W
            rw [zc] at h
            exact h
          clear OR
          go_upto_region 17 with fail
          go_region_held3 (fun wx => wx.cell? ⟨gp, l, none⟩ = some (.int .i64 (j' : Int)) ∧ wx.cell? ⟨gp, i, none⟩ = some (.int .i64 (j : Int)) ∧ wx.cell? ⟨b, off + j' * 3, none⟩ = some (.int .i64 a'.k) ∧ wx.cell? ⟨b, off + j' * 3 + 1, none⟩ = some (.int .u64 a'.n) ∧ wx.cell? ⟨b, off + j' * 3 + 2, none⟩ = some (.string a'.s) ∧ wx.cell? ⟨b, off + j * 3, none⟩ = some (.int .i64 a.k) ∧ wx.cell? ⟨b, off + j * 3 + 1, none⟩ = some (.int .u64 a.n) ∧ wx.cell? ⟨b, off + j * 3 + 2, none⟩ = some (.string a.s)) (first | (with_reducible exact T1.out) | (with_reducible exact T0.out)) (first
            | (go_at_call 17; with_reducible refine (OC.out _).mono ?_; rintro e w6 ⟨rfl, hB⟩; have T1 := hid (FL.out _ (below_on (Below.drew (Below.refl _ _)) hB)); have S6 := hid (S3.out.on (below_on (Below.drew (Below.refl _ _)) hB)); clear hB))
          have T2 := hid (FM.out _ S6.out)
          have S7 := hid (fun q => S6.out.on (below_drewN (Below.refl _ _) q))
          clear T0 T1 FL OC S3 S6
          go_upto_region 18 with fail
          obtain ⟨q0, q1⟩ := T2.out
          go_quiet (fail)
          go_wp2_with fail
          go_roundg (n - (i + 1))
          case measure => omega
          case rel => exact ⟨i + 1, by omega, rfl, by go_num, S7.out _⟩
        · clear cb
          have z3 : ¬ ((j : Int) < (j' : Int)) := by omega
          have OC : Hid (∀ W, Calls Tryz.prog 17 #[.agg #[.int .i64 a'.k, .int .u64 a'.n, .string a'.s], .agg #[.int .i64 a.k, .int .u64 a.n, .string a.s]] W fun e w' => e = .returned (.int .i64 0) ∧ Below W.heap.size W w') := fun W => by
            have h := OR.out W
            rw [zc] at h
            exact h
          clear OR
          go_upto_region 17 with fail
          go_region_held3 (fun wx => wx.cell? ⟨gp, l, none⟩ = some (.int .i64 (j' : Int)) ∧ wx.cell? ⟨gp, i, none⟩ = some (.int .i64 (j : Int)) ∧ wx.cell? ⟨b, off + j' * 3, none⟩ = some (.int .i64 a'.k) ∧ wx.cell? ⟨b, off + j' * 3 + 1, none⟩ = some (.int .u64 a'.n) ∧ wx.cell? ⟨b, off + j' * 3 + 2, none⟩ = some (.string a'.s) ∧ wx.cell? ⟨b, off + j * 3, none⟩ = some (.int .i64 a.k) ∧ wx.cell? ⟨b, off + j * 3 + 1, none⟩ = some (.int .u64 a.n) ∧ wx.cell? ⟨b, off + j * 3 + 2, none⟩ = some (.string a.s)) (first | (with_reducible exact T1.out) | (with_reducible exact T0.out)) (first
            | (go_at_call 17; with_reducible refine (OC.out _).mono ?_; rintro e w6 ⟨rfl, hB⟩; have T1 := hid (FL.out _ (below_on (Below.drew (Below.refl _ _)) hB)); have S6 := hid (S3.out.on (below_on (Below.drew (Below.refl _ _)) hB)); clear hB))
          have T2 := hid (FM.out _ S6.out)
          have S7 := hid (fun q => S6.out.on (below_drewN (Below.refl _ _) q))
          clear T0 T1 FL OC S3 S6
          go_upto_region 18 with fail
          obtain ⟨q0, q1⟩ := T2.out
          go_quiet (fail)
          go_wp2_with fail
          go_roundg (n - (i + 1))
          case measure => omega
          case rel => exact ⟨i + 1, by omega, rfl, by go_num, S7.out _⟩
    · have hli : ¬ (i : Int) < (n : Int) := by omega
      obtain rfl : i = n := by omega
      have GL : Hid ((Re.agn A P).length = i) := by rw [Hid, Re.agn_len]; exact PL.out
      have J : Hid (Below w.heap.size w wr ∧ Bx wr gp 3 (Re.fl Re.ei P).toArray ∧ Re.LV wr (some ⟨ga, 0, none⟩) (Re.agn A P)) := by
        refine ⟨I.out.bl, I.out.bp, Re.LV.row ?_⟩
        have := I.out.ba
        rw [show i = (Re.agn A P).length from GL.out.symm, Re.fil_all] at this
        exact this
      have SG : Hid (∀ W, Re.LV W (some ⟨ga, 0, none⟩) (Re.agn A P) → Calls Tryz.prog 19 #[.slice (some ⟨ga, 0, none⟩) i i] W fun e w' => ∃ g, e = .returned (.slice (some ⟨g, 0, none⟩) i i) ∧ Bx w' g 3 (Re.fl Re.ei ((List.range i).map fun l : Nat => (l : Int))).toArray ∧ Below W.heap.size W w') := fun W z => by
        have h := sort_any (some ⟨ga, 0, none⟩) i (Re.agn A P) W z (fun a ha => by
          obtain ⟨l, hl, e⟩ := List.getElem_of_mem ha
          obtain ⟨j, b, _, _, hb, hg⟩ := SP.out.at (i := l) (by rw [← Re.agn_len A P]; exact hl)
          rw [List.getElem?_eq_getElem hl, e] at hg
          obtain rfl := Option.some.inj hg
          exact HW.out a (List.mem_of_getElem? hb)) (by rw [GL.out]; exact HL.out)
        rw [GL.out] at h
        refine h.mono ?_
        rintro e w' ⟨g, Q, rfl, _, x, so, _, b⟩
        refine ⟨g, rfl, ?_, b⟩
        rw [SP.out.again so, PL.out] at x
        exact x
      clear I I0 hlt hi SO
      go_wp2_with fail
      refine (SG.out _ J.out.2.2).mono ?_
      rintro e w5 ⟨gq, rfl, x5, b5⟩
      have J5 := hid (And.intro (below_on J.out.1 b5) (And.intro (J.out.2.1.on b5) x5))
      clear x5 b5 J SG
      go_wp2_with fail
      refine (VA.out _ J5.out.1).mono ?_
      rintro e w6 ⟨g6, rfl, -, x6, b6⟩
      have J6 := hid (And.intro (below_on J5.out.1 b6) (And.intro (J5.out.2.1.on b6) (And.intro (J5.out.2.2.on b6) (Re.LV.row x6))))
      clear x6 b6 J5 VA
      go_wp2_with fail
      refine (TO.out _ _ _ J6.out.2.2.2).mono ?_
      rintro e w7 ⟨q, m, c, rfl, hm, hc, b7⟩
      have J7 := hid (And.intro (below_on J6.out.1 b7) (And.intro (J6.out.2.1.on b7) (J6.out.2.2.1.on b7)))
      have HC := hid hc
      have I2 := hid (Below.refl w7.heap.size w7)
      have mn : (m : Int) ≤ (i : Int) := by omega
      clear hc b7 J6 TO
      go_wp2_with fail
      clear hm
      go_loopg [13] i (fun m' iv wr => ∃ l : Nat, l + m' = i ∧ iv = .int .i64 (l : Int) ∧ Hid (Below w7.heap.size w7 wr))
      case atStart => exact ⟨0, by omega, rfl, I2⟩
      case round =>
        obtain ⟨l, hl, rfl, K⟩ := hrel
        by_cases hlt : l < i
        · have hli2 : (l : Int) < (i : Int) := by omega
          obtain ⟨j, a, hj, hP, hA, -⟩ := SP.out.at (i := l) (by have := PL.out; omega)
          have kd := K.out
          have KN := hid (fun q => below_on K.out (below_drewN (Below.refl wr.heap.size wr) q))
          have cp : wr.cell? ⟨gp, l, none⟩ = some (.int .i64 (j : Int)) := by
            have := Re.bx_cell Re.ei_len (J7.out.2.1.on kd) hP 0 (by omega) _ rfl
            rwa [Nat.mul_one, Nat.add_zero] at this
          have cq : wr.cell? ⟨gq, l, none⟩ = some (.int .i64 (l : Int)) := by
            have := Re.bx_cell Re.ei_len (J7.out.2.2.on kd) (a := (l : Int)) (i := l) (by rw [List.getElem?_map, List.getElem?_range hlt]; rfl) 0 (by omega) _ rfl
            rwa [Nat.mul_one, Nat.add_zero] at this
          by_cases lm : l < m
          · have lmi : (l : Int) < (m : Int) := by omega
            obtain ⟨bt, rfl, ct⟩ := HC.out (by omega)
            have c7 := ct P SP.out l (j : Int) lm hP
            have cc : wr.cell? ⟨bt, l, none⟩ = some (.int .i64 (j : Int)) := by
              rw [kd.cell (cell_lt c7)]; exact c7
            clear ct c7 kd hP hA hj I2
            go_upto_region 27 with fail
            go_quiet (fail)
            go_wp2_with fail
            go_roundg (i - (l + 1))
            case measure => omega
            case rel => exact ⟨l + 1, by omega, by go_num, KN.out _⟩
          · have lmi : ¬ (l : Int) < (m : Int) := by omega
            clear kd hP hA hj I2
            go_upto_region 27 with fail
            go_quiet (fail)
            go_wp2_with fail
            go_roundg (i - (l + 1))
            case measure => omega
            case rel => exact ⟨l + 1, by omega, by go_num, KN.out _⟩
        · have hli2 : ¬ (l : Int) < (i : Int) := by omega
          have F := hid (below_on J7.out.1 K.out)
          clear J7 HC K I2
          go_wp2_with fail
          go_ret
          exact ⟨rfl, F.out⟩
end Go.Proofs.YthpecfncndclfaaGreatDoor
