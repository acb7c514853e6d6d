/-
  abacusref20: Replace (a leaf).
-/
import Derived.Test.YtgliefdefklfeaaChQ0
namespace Go.Proofs.Ytgliefdefklfeaa
open Go Go.RowKit Go.Deep Go.Shelf

set_option maxRecDepth 100000 in
set_option maxHeartbeats 4000000 in
theorem rrep_Cp (s old new : ByteArray) (most : Int) (w : World) (l ol nl T : Ch.L8) (all : List Nat) (N RL : Nat) (P : Int) (hneg : ¬ most < 0) (_m0 : -9223372036854775808 ≤ most) (_m1 : most ≤ 9223372036854775807)
    (hsl : s.data.toList = l) (hol : old.data.toList = ol) (hnl : new.data.toList = nl) (hs : s.size ≤ 16777216) (ho : old.size ≤ 140737488355328) (hn : new.size ≤ 140737488355328)
    (hSc0 : Ch.Sc l ol 0 (Ch.bud l most) all) (hall : all.length = N) (htb : Ch.tb l nl old.size 0 all = T) (hok : Ch.okp s.size old.size 0 all) (hTl : T.length = RL) (hNb : N ≤ 16777217)
    (hmul : (N : Int) * ((new.size : Int) - (old.size : Int)) = P) (_p0 : -16777216 ≤ P) (_p1 : P ≤ P) (hsum : (s.size : Int) + P = (RL : Int)) (n0 : (0 : Int) < (N : Int)) (g0 : (0 : Int) < (new.size : Int) - (old.size : Int)) (q : Int) (qd : Int.tdiv 16777216 ((new.size : Int) - (old.size : Int)) = q) (qe : (16777216 : Int) / ((new.size : Int) - (old.size : Int)) = q) (gz : ((new.size : Int) - (old.size : Int) == 0) = false) (qb : q ≤ 16777216) (qc : 0 ≤ q) (qn : q < (N : Int)) 
    (hF : ∀ w', Below w.heap.size w w' → RpTold l ol nl most w (.returned (.tuple #[.string ⟨#[]⟩, .int .i64 0, .int .i64 3])) w') :
    Calls Try.prog 21 #[.string s, .string old, .string new, .int .i64 most] w (RpTold l ol nl most w) := by
  have F := hid hF
  have HSL := hid hsl
  have HNW := hid hnl
  have HAL := hid hall
  have HTL := hid hTl
  have TB := hid htb
  have OK := hid hok
  have HNL : Hid (nl.length = new.size) := by rw [Hid, ← hnl, Ch.size_len]
  have HLS : Hid (l.length = s.size) := by rw [Hid, ← hsl, Ch.size_len]
  have HOL : Hid (ol.length = old.size) := by rw [Hid, ← hol, Ch.size_len]
  have hfw : Hid (Ch.fw ol = if old.size = 0 then 1 else old.size) := by
    rw [Hid, Ch.fw, ← hol, Ch.size_len]
    by_cases c : old.size = 0
    · rw [if_pos ((Ch.emp_iff old).2 c), if_pos c]
    · rw [if_neg (fun q => c ((Ch.emp_iff old).1 q)), if_neg c]
  have OCC : Hid (∀ i, i ≤ s.size → Lib.occAt l ol i = true → i + old.size ≤ s.size) := fun i hi hq => by
    rcases Lib.occAt_room hq with q | q
    · rw [HOL.out, HLS.out] at q; exact q
    · have := HOL.out; rw [q] at this; simp at this; omega
  skip
  have SD := hid (fun (i : Nat) (hi : i ≤ s.size) (wx : World) => rstands_any s old i wx hi (by omega) (by omega))
  rw [hsl, hol] at SD
  have hsi : (s.size : Int) ≤ 16777216 := by omega
  have hoi : (old.size : Int) ≤ 140737488355328 := by omega
  have hni : (new.size : Int) ≤ 140737488355328 := by omega
  have hNi : (N : Int) ≤ 16777217 := by omega
  have S0 : Hid (∃ ps rest, ps.length = 0 ∧ TI w.heap.size w (.slice none 0 0) ps ∧ Below w.heap.size w w ∧ ps ++ rest = all ∧ Ch.Sc l ol 0 (Ch.bud l most - 0) rest) := ⟨[], all, rfl, TI.nil _ _, Below.refl _ _, rfl, hSc0⟩
  have BD : Hid (Ch.bud l most = most.toNat) := by rw [Hid, Ch.bud, if_neg hneg]
  clear hsl hol hnl hall htb hok hTl hs ho hn hSc0 hF hNb
  by_cases oz : old.size = 0
  · have e1 : Hid (Ch.fw ol = 1) := by rw [Hid, hfw.out, if_pos oz]
    obtain rfl := Ch.size_zero' oz
    have ot : (⟨#[]⟩ : ByteArray).size = 0 := rfl
    have TB := hid (show Ch.tb l nl 0 0 all = T from TB.out)
    have OK := hid (show Ch.okp s.size 0 0 all from OK.out)
    have OCC : Hid (∀ i, i ≤ s.size → Lib.occAt l ol i = true → i + 0 ≤ s.size) := OCC.out
    simp only [ot, Int.natCast_zero, Int.sub_zero] at hmul g0 qd qe gz
    clear oz hoi
    go_enter Try.func21, Try.ntmps21
    go_wp2_with fail
    go_loopg [11, 12] (s.size + 1) (fun m pv iv wr => ∃ i j : Nat, i ≤ s.size + 1 ∧ j ≤ i ∧ m = s.size + 1 - i ∧ iv = .int .i64 (i : Int) ∧ Hid (∃ ps rest, ps.length = j ∧ TI w.heap.size wr pv ps ∧ Below w.heap.size w wr ∧ ps ++ rest = all ∧ Ch.Sc l ol i (Ch.bud l most - j) rest))
    case atStart => exact ⟨0, 0, by omega, by omega, by omega, rfl, S0.out⟩
    case round =>
      obtain ⟨i, j, hi, hji, hm, rfl, J⟩ := hrel
      have HM := hid hm
      clear hm S0
      obtain ⟨ps, rest, hln, hT, hB, hal, hSc⟩ := J.out
      clear J
      by_cases il : i ≤ s.size
      · have ili : (i : Int) ≤ (s.size : Int) := by omega
        obtain ⟨pa, pc, rfl, -, -⟩ := hT.read
        rw [hln] at hT ⊢
        by_cases jb : (j : Int) < most
        · have hbp : 0 < Ch.bud l most - j := by rw [BD.out]; omega
          have S1 := hid (SD.out i il wr)
          have hps : ps.length < 8796093022000 := by omega
          cases hoc : Lib.occAt l ol i with
          | true =>
            rw [hoc] at S1
            obtain ⟨r, hr1, hr2⟩ := hSc.hit' (by rw [HLS.out]; exact il) hbp hoc
            have hro := OCC.out i il hoc
            obtain ⟨mv', w', ap, a1, a2, a3⟩ := hT.push i hps hB.size
            have AP := hid ap
            have FL : Hid (∃ ps rest, ps.length = j + 1 ∧ TI w.heap.size w' mv' ps ∧ Below w.heap.size w w' ∧ ps ++ rest = all ∧ Ch.Sc l ol (i + 1) (Ch.bud l most - (j + 1)) rest) := ⟨ps ++ [i], r, by rw [List.length_append, hln]; rfl, a1, hB.trans a3, by rw [← hal, hr1, List.append_assoc]; rfl, by rw [e1.out] at hr2; rw [show Ch.bud l most - (j + 1) = Ch.bud l most - j - 1 by omega]; exact hr2⟩
            have hroi : (i : Int) + 0 ≤ (s.size : Int) := by omega
            clear hT hB hal hSc hr1 hr2 ap a1 a2 a3 hoc hbp hps hln
            go_wp2_with fail
            refine S1.out.mono ?_
            rintro e w2 ⟨rfl, hw2⟩
            rw [hw2]
            go_wp2_with (at_builtin; refine wpList_append_c rfl _ _ rfl AP.out (by rfl) (by rfl) ?_; clear AP)
            go_roundg (s.size + 1 - (i + 1))
            case measure => have := HM.out; omega
            case rel => exact ⟨i + 1, j + 1, by omega, by omega, by omega, by go_num, FL⟩
          | false =>
            rw [hoc] at S1
            have FL : Hid (∃ ps rest, ps.length = j ∧ TI w.heap.size wr (.slice pa j pc) ps ∧ Below w.heap.size w wr ∧ ps ++ rest = all ∧ Ch.Sc l ol (i + 1) (Ch.bud l most - j) rest) := ⟨ps, rest, hln, hT, hB, hal, hSc.miss' (by rw [HLS.out]; exact il) hbp hoc⟩
            clear hT hB hal hSc hoc hbp hps hln
            go_wp2_with fail
            refine S1.out.mono ?_
            rintro e w2 ⟨rfl, hw2⟩
            rw [hw2]
            go_wp2_with fail
            go_roundg (s.size + 1 - (i + 1))
            case measure => have := HM.out; omega
            case rel => exact ⟨i + 1, j, by omega, by omega, by omega, by go_num, FL⟩
        · have hre := hSc.stop' (.inr (by rw [BD.out]; omega))
          rw [hre, List.append_nil] at hal
          have hal2 := hal.symm
          subst hal2
          obtain ⟨pa', pc', he, -, hri⟩ := hT.read
          rw [HAL.out] at hln he
          obtain ⟨he1, he2, he3⟩ : pa = pa' ∧ j = N ∧ pc = pc' := by cases he; exact ⟨rfl, rfl, rfl⟩
          have he2' := he2.symm
          subst he1 he2' he3
          clear he
          have RR := hid hri
          have hBB := hB
          clear hT hB hSc hre hri hln

          have FF := hid (F.out _ hBB)
          clear hBB
          go_wp2_with fail
          go_ret3
          exact FF.out
      · have ili : ¬ (i : Int) ≤ (s.size : Int) := by omega
        have hre := hSc.stop' (.inl (by rw [HLS.out]; omega))
        rw [hre, List.append_nil] at hal
        have hal2 := hal.symm
        subst hal2
        obtain ⟨pa, pc, rfl, -, hri⟩ := hT.read
        rw [HAL.out] at hln ⊢
        have RR := hid hri
        have hBB := hB
        clear hT hB hSc hre hri hln

        have FF := hid (F.out _ hBB)
        clear hBB
        go_wp2_with fail
        go_ret3
        exact FF.out
  · have e1 : Hid (Ch.fw ol = old.size) := by rw [Hid, hfw.out, if_neg oz]
    obtain ⟨oo1, oo2, oo3⟩ := Ch.toList_ne' oz
    go_enter Try.func21, Try.ntmps21
    go_wp2_with fail
    go_loopg [11, 12] (s.size + 1) (fun m pv iv wr => ∃ i j : Nat, i ≤ s.size + 1 ∧ j ≤ i ∧ m = s.size + 1 - i ∧ iv = .int .i64 (i : Int) ∧ Hid (∃ ps rest, ps.length = j ∧ TI w.heap.size wr pv ps ∧ Below w.heap.size w wr ∧ ps ++ rest = all ∧ Ch.Sc l ol i (Ch.bud l most - j) rest))
    case atStart => exact ⟨0, 0, by omega, by omega, by omega, rfl, S0.out⟩
    case round =>
      obtain ⟨i, j, hi, hji, hm, rfl, J⟩ := hrel
      have HM := hid hm
      clear hm S0
      obtain ⟨ps, rest, hln, hT, hB, hal, hSc⟩ := J.out
      clear J
      by_cases il : i ≤ s.size
      · have ili : (i : Int) ≤ (s.size : Int) := by omega
        obtain ⟨pa, pc, rfl, -, -⟩ := hT.read
        rw [hln] at hT ⊢
        by_cases jb : (j : Int) < most
        · have hbp : 0 < Ch.bud l most - j := by rw [BD.out]; omega
          have S1 := hid (SD.out i il wr)
          have hps : ps.length < 8796093022000 := by omega
          cases hoc : Lib.occAt l ol i with
          | true =>
            rw [hoc] at S1
            obtain ⟨r, hr1, hr2⟩ := hSc.hit' (by rw [HLS.out]; exact il) hbp hoc
            have hro := OCC.out i il hoc
            obtain ⟨mv', w', ap, a1, a2, a3⟩ := hT.push i hps hB.size
            have AP := hid ap
            have FL : Hid (∃ ps rest, ps.length = j + 1 ∧ TI w.heap.size w' mv' ps ∧ Below w.heap.size w w' ∧ ps ++ rest = all ∧ Ch.Sc l ol (i + old.size) (Ch.bud l most - (j + 1)) rest) := ⟨ps ++ [i], r, by rw [List.length_append, hln]; rfl, a1, hB.trans a3, by rw [← hal, hr1, List.append_assoc]; rfl, by rw [e1.out] at hr2; rw [show Ch.bud l most - (j + 1) = Ch.bud l most - j - 1 by omega]; exact hr2⟩
            have hroi : (i : Int) + (old.size : Int) ≤ (s.size : Int) := by omega
            clear hT hB hal hSc hr1 hr2 ap a1 a2 a3 hoc hbp hps hln
            go_wp2_with fail
            refine S1.out.mono ?_
            rintro e w2 ⟨rfl, hw2⟩
            rw [hw2]
            go_wp2_with (at_builtin; refine wpList_append_c rfl _ _ rfl AP.out (by rfl) (by rfl) ?_; clear AP)
            go_roundg (s.size + 1 - (i + old.size))
            case measure => have := HM.out; omega
            case rel => exact ⟨i + old.size, j + 1, by omega, by omega, by omega, by go_num, FL⟩
          | false =>
            rw [hoc] at S1
            have FL : Hid (∃ ps rest, ps.length = j ∧ TI w.heap.size wr (.slice pa j pc) ps ∧ Below w.heap.size w wr ∧ ps ++ rest = all ∧ Ch.Sc l ol (i + 1) (Ch.bud l most - j) rest) := ⟨ps, rest, hln, hT, hB, hal, hSc.miss' (by rw [HLS.out]; exact il) hbp hoc⟩
            clear hT hB hal hSc hoc hbp hps hln
            go_wp2_with fail
            refine S1.out.mono ?_
            rintro e w2 ⟨rfl, hw2⟩
            rw [hw2]
            go_wp2_with fail
            go_roundg (s.size + 1 - (i + 1))
            case measure => have := HM.out; omega
            case rel => exact ⟨i + 1, j, by omega, by omega, by omega, by go_num, FL⟩
        · have hre := hSc.stop' (.inr (by rw [BD.out]; omega))
          rw [hre, List.append_nil] at hal
          have hal2 := hal.symm
          subst hal2
          obtain ⟨pa', pc', he, -, hri⟩ := hT.read
          rw [HAL.out] at hln he
          obtain ⟨he1, he2, he3⟩ : pa = pa' ∧ j = N ∧ pc = pc' := by cases he; exact ⟨rfl, rfl, rfl⟩
          have he2' := he2.symm
          subst he1 he2' he3
          clear he
          have RR := hid hri
          have hBB := hB
          clear hT hB hSc hre hri hln

          have FF := hid (F.out _ hBB)
          clear hBB
          go_wp2_with fail
          go_ret3
          exact FF.out
      · have ili : ¬ (i : Int) ≤ (s.size : Int) := by omega
        have hre := hSc.stop' (.inl (by rw [HLS.out]; omega))
        rw [hre, List.append_nil] at hal
        have hal2 := hal.symm
        subst hal2
        obtain ⟨pa, pc, rfl, -, hri⟩ := hT.read
        rw [HAL.out] at hln ⊢
        have RR := hid hri
        have hBB := hB
        clear hT hB hSc hre hri hln

        have FF := hid (F.out _ hBB)
        clear hBB
        go_wp2_with fail
        go_ret3
        exact FF.out
end Go.Proofs.Ytgliefdefklfeaa
