/-
  directive's reader: directive (mkddir.py).
-/
import Derived.Test.YtaadooippelcfaaDoorGF
namespace Go.Proofs.YtaadooippelcfaaDoor
open Go Go.RowKit Go.Deep Go.Shelf

/-- What directive tells. -/
def DTold (b : Nat) (s : ByteArray) (l : List Int) (k : Nat) (w : World) (r : Ending) (w' : World) : Prop := r = .returned (.tuple #[.agg (pcv (Dr.dp l)), .int .i64 (Dr.de l)]) ∧ RB w' b s (k + Dr.du l) ∧ Oth b w w'

theorem nu_zero {l : List Int} (h : Dr.ne l ≠ 0) : Dr.nu l = 0 := by
  unfold Dr.ne at h
  unfold Dr.nu
  split at h
  · simp at h
  · rename_i h1
    rw [if_neg h1]
    split at h
    · simp at h
    · rename_i h2
      rw [if_neg h2]
      split at h
      · rename_i h3; rw [if_pos h3]
      · simp at h
theorem num_zero {l : List Int} (h1 : Dr.isD (l.headD 0) = false) (h2 : l.headD 0 ≠ 42) : Dr.ne l = 0 ∧ Dr.nk l = 0 ∧ Dr.nv l = 0 ∧ Dr.nu l = 0 := by
  have c := Dr.ct_zero (p := Dr.isD) h1
  unfold Dr.ne Dr.nk Dr.nv Dr.nu
  simp only [if_neg h2, if_pos c]
  exact ⟨trivial, trivial, trivial, trivial⟩
theorem prec_zero {l : List Int} (h : l.headD 0 ≠ 46) : Dr.pe l = 0 ∧ Dr.pk l = 0 ∧ Dr.pv l = 0 ∧ Dr.pu l = 0 := by
  unfold Dr.pe Dr.pk Dr.pv Dr.pu
  simp only [if_neg h]
  exact ⟨trivial, trivial, trivial, trivial⟩
theorem flag_zero {l : List Int} (h : Dr.isF (l.headD 0) = false) : Dr.ct Dr.isF l = 0 ∧ Dr.fS 0 l = 0 ∧ Dr.l1 l = l := by
  have c := Dr.ct_zero (p := Dr.isF) h
  exact ⟨c, Dr.fS_stop h, by rw [Dr.l1, c]; rfl⟩


set_option maxRecDepth 100000 in
set_option maxHeartbeats 4000000 in
theorem dir_over (b k j1 j2 j3 j4 : Nat) (s : ByteArray) (c : Int) (w : World) (Q : Ending → World → Prop) (S1 K1 V1 E1 K2 V2 E2 V3 E3 : Int) (hb : RB w b s k)
    (NX : ∀ W, RB W b s k → Calls Tryd.prog 42 #[.pointer (some ⟨b, 0, none⟩)] W fun e w' => e = .returned (.int .u8 c) ∧ Below W.heap.size W w')
    (FL : ∀ W, RB W b s k → Calls Tryd.prog 53 #[.pointer (some ⟨b, 0, none⟩)] W fun r w' => r = .returned (.int .i64 S1) ∧ RB w' b s j1 ∧ Oth b W w')
    (NU : ∀ W, RB W b s j1 → Calls Tryd.prog 54 #[.pointer (some ⟨b, 0, none⟩)] W fun r w' => r = .returned (.tuple #[.int .i64 K1, .int .i64 V1, .int .i64 E1]) ∧ RB w' b s j2 ∧ Oth b W w')
    (PR : ∀ W, RB W b s j2 → Calls Tryd.prog 55 #[.pointer (some ⟨b, 0, none⟩)] W fun r w' => r = .returned (.tuple #[.int .i64 K2, .int .i64 V2, .int .i64 E2]) ∧ RB w' b s j3 ∧ Oth b W w')
    (VE : ∀ W, RB W b s j3 → Calls Tryd.prog 56 #[.pointer (some ⟨b, 0, none⟩)] W fun r w' => r = .returned (.tuple #[.int .u8 V3, .int .i64 E3]) ∧ RB w' b s j4 ∧ Oth b W w')
    (C1 : Dr.isF c = false → S1 = 0 ∧ j1 = k)
    (C2 : Dr.isF c = false → Dr.isD c = false → c ≠ 42 → K1 = 0 ∧ V1 = 0 ∧ E1 = 0 ∧ j2 = k)
    (C3 : Dr.isF c = false → Dr.isD c = false → c ≠ 42 → c ≠ 46 → K2 = 0 ∧ V2 = 0 ∧ E2 = 0 ∧ j3 = k)
    (KE1 : E1 ≠ 0 → ∀ W, RB W b s j2 → Oth b w W → Q (.returned (.tuple #[.agg #[.string ⟨#[]⟩, .int .u8 0, .int .i64 0, .int .i64 0, .int .i64 0, .int .i64 0, .int .i64 0], .int .i64 E1])) W)
    (KE2 : E1 = 0 → E2 ≠ 0 → ∀ W, RB W b s j3 → Oth b w W → Q (.returned (.tuple #[.agg #[.string ⟨#[]⟩, .int .u8 0, .int .i64 0, .int .i64 0, .int .i64 0, .int .i64 0, .int .i64 0], .int .i64 E2])) W)
    (KE3 : E1 = 0 → E2 = 0 → E3 ≠ 0 → ∀ W, RB W b s j4 → Oth b w W → Q (.returned (.tuple #[.agg #[.string ⟨#[]⟩, .int .u8 0, .int .i64 0, .int .i64 0, .int .i64 0, .int .i64 0, .int .i64 0], .int .i64 E3])) W)
    (KOK : E1 = 0 → E2 = 0 → E3 = 0 → ∀ W, RB W b s j4 → Oth b w W → Q (.returned (.tuple #[.agg #[.string ⟨#[]⟩, .int .u8 V3, .int .i64 S1, .int .i64 K1, .int .i64 V1, .int .i64 K2, .int .i64 V2], .int .i64 0])) W) :
    Calls Tryd.prog 44 #[.pointer (some ⟨b, 0, none⟩)] w Q := by
  have NX := hid NX
  have FL := hid FL
  have NU := hid NU
  have PR := hid PR
  have VE := hid VE
  have KE1 := hid KE1
  have KE2 := hid KE2
  have KE3 := hid KE3
  have KOK := hid KOK
  have A1 := alloc_b w (.cells #[.string ⟨#[]⟩, .int .u8 0, .int .i64 0, .int .i64 0, .int .i64 0, .int .i64 0, .int .i64 0] 25)
  have A2 := alloc_b (w.alloc (.cells #[.string ⟨#[]⟩, .int .u8 0, .int .i64 0, .int .i64 0, .int .i64 0, .int .i64 0, .int .i64 0] 25)) (.cells #[.string ⟨#[]⟩, .int .u8 0, .int .i64 0, .int .i64 0, .int .i64 0, .int .i64 0, .int .i64 0] 25)
  have P1 := P7.new w (.string ⟨#[]⟩) (.int .u8 0) (.int .i64 0) (.int .i64 0) (.int .i64 0) (.int .i64 0) (.int .i64 0)
  have P2 := P7.new (w.alloc (.cells #[.string ⟨#[]⟩, .int .u8 0, .int .i64 0, .int .i64 0, .int .i64 0, .int .i64 0, .int .i64 0] 25)) (.string ⟨#[]⟩) (.int .u8 0) (.int .i64 0) (.int .i64 0) (.int .i64 0) (.int .i64 0) (.int .i64 0)
  have sz1 : (w.alloc (.cells #[.string ⟨#[]⟩, .int .u8 0, .int .i64 0, .int .i64 0, .int .i64 0, .int .i64 0, .int .i64 0] 25)).heap.size = w.heap.size + 1 := Array.size_push ..
  rw [sz1] at P2
  have B2 := below_on A1 A2
  have D0 : Hid (DS w b s k (.string ⟨#[]⟩) (.int .u8 0) (.int .i64 0) (.int .i64 0) (.int .i64 0) (.int .i64 0) (.int .i64 0) ((w.alloc (.cells #[.string ⟨#[]⟩, .int .u8 0, .int .i64 0, .int .i64 0, .int .i64 0, .int .i64 0, .int .i64 0] 25)).alloc (.cells #[.string ⟨#[]⟩, .int .u8 0, .int .i64 0, .int .i64 0, .int .i64 0, .int .i64 0, .int .i64 0] 25))) :=
    ⟨hb.below B2, hb.lt, B2.os, B2.tape, B2.output, B2.size, fun i hi _ => B2.block i hi, P1.below A2, P2⟩
  clear A1 A2 P1 P2 B2 hb sz1
  by_cases hf : Dr.isF c = true
  · clear C1 C2 C3
    rcases Dr.isF_cases.1 hf with rfl | rfl | rfl | rfl | rfl
    all_goals
      clear hf
      go_enter Tryd.func44, Tryd.ntmps44
      go_wp2_with fail
      refine (NX.out _ D0.out.rb).mono ?_
      rintro e w1 ⟨rfl, hB⟩
      have D1 := hid (D0.out.call (D0.out.rb.below hB) (Oth.of_below hB))
      clear hB D0
      go_wp2_with fail
      refine (FL.out _ D1.out.rb).mono ?_
      rintro e w2 ⟨rfl, r2', o2'⟩
      have D2 := hid (D1.out.call r2' o2')
      clear r2' o2'
      have D2' := hid (D2.out.set (o := 2) (v := .int .i64 S1) P7.s2)
      obtain ⟨⟨r0, r1, r2, r3, r4, r5, r6⟩, ⟨q0, q1, q2, q3, q4, q5, q6⟩⟩ := D2.out.res.cells
      obtain ⟨⟨b0, b1, b2, b3, b4, b5, b6⟩, ⟨f0, f1, f2, f3, f4, f5, f6⟩⟩ := D2.out.box.cells
      go_wp2_with fail
      clear r0 r1 r2 r3 r4 r5 r6 q0 q1 q2 q3 q4 q5 q6 b0 b1 b2 b3 b4 b5 b6 f0 f1 f2 f3 f4 f5 f6
      refine (NU.out _ D2'.out.rb).mono ?_
      rintro e w3 ⟨rfl, r3', o3'⟩
      have D3 := hid (D2'.out.call r3' o3')
      clear r3' o3'
      have D3' := hid ((D3.out.set (o := 3) (v := .int .i64 K1) P7.s3).set (o := 4) (v := .int .i64 V1) P7.s4)
      obtain ⟨⟨r0, r1, r2, r3, r4, r5, r6⟩, ⟨q0, q1, q2, q3, q4, q5, q6⟩⟩ := D3.out.res.cells
      obtain ⟨⟨b0, b1, b2, b3, b4, b5, b6⟩, ⟨f0, f1, f2, f3, f4, f5, f6⟩⟩ := D3.out.box.cells
      by_cases e1 : E1 = 0
      · subst e1
        go_wp2_with fail
        clear r0 r1 r2 r3 r4 r5 r6 q0 q1 q2 q3 q4 q5 q6 b0 b1 b2 b3 b4 b5 b6 f0 f1 f2 f3 f4 f5 f6
        refine (PR.out _ D3'.out.rb).mono ?_
        rintro e w4 ⟨rfl, r4', o4'⟩
        have D4 := hid (D3'.out.call r4' o4')
        clear r4' o4'
        have D4' := hid ((D4.out.set (o := 5) (v := .int .i64 K2) P7.s5).set (o := 6) (v := .int .i64 V2) P7.s6)
        obtain ⟨⟨r0, r1, r2, r3, r4, r5, r6⟩, ⟨q0, q1, q2, q3, q4, q5, q6⟩⟩ := D4.out.res.cells
        obtain ⟨⟨b0, b1, b2, b3, b4, b5, b6⟩, ⟨f0, f1, f2, f3, f4, f5, f6⟩⟩ := D4.out.box.cells
        by_cases e2 : E2 = 0
        · subst e2
          go_wp2_with fail
          clear r0 r1 r2 r3 r4 r5 r6 q0 q1 q2 q3 q4 q5 q6 b0 b1 b2 b3 b4 b5 b6 f0 f1 f2 f3 f4 f5 f6
          refine (VE.out _ D4'.out.rb).mono ?_
          rintro e w5 ⟨rfl, r5', o5'⟩
          have D5 := hid (D4'.out.call r5' o5')
          clear r5' o5'
          have D5' := hid (D5.out.set (o := 1) (v := .int .u8 V3) P7.s1)
          obtain ⟨⟨r0, r1, r2, r3, r4, r5, r6⟩, ⟨q0, q1, q2, q3, q4, q5, q6⟩⟩ := D5.out.res.cells
          obtain ⟨⟨b0, b1, b2, b3, b4, b5, b6⟩, ⟨f0, f1, f2, f3, f4, f5, f6⟩⟩ := D5.out.box.cells
          by_cases e3 : E3 = 0
          · subst e3
            have KF := hid (KOK.out (by trivial) (by trivial) (by trivial))
            go_wp2_with fail
            (try simp only [Exit.inBlock, Exit.then])
            refine bodyPost_ret (results_row_tmp rfl _ _ w.heap.size 25 _ (0, 0) _ rfl (D5'.out.fin _ _ _ _ _ _ _).1 Tryd.underlying25 rfl (by kernel_rfl)) rfl ?_
            exact KF.out _ (D5'.out.fin _ _ _ _ _ _ _).2.1 (D5'.out.fin _ _ _ _ _ _ _).2.2
          · have KF := hid (KE3.out (by trivial) (by trivial) e3)
            go_wp2_with fail
            (try simp only [Exit.inBlock, Exit.then])
            refine bodyPost_ret (results_row_tmp rfl _ _ w.heap.size 25 _ (0, 0) _ rfl (D5'.out.fin _ _ _ _ _ _ _).1 Tryd.underlying25 rfl (by kernel_rfl)) rfl ?_
            exact KF.out _ (D5'.out.fin _ _ _ _ _ _ _).2.1 (D5'.out.fin _ _ _ _ _ _ _).2.2
        · have KF := hid (KE2.out (by trivial) e2)
          go_wp2_with fail
          (try simp only [Exit.inBlock, Exit.then])
          refine bodyPost_ret (results_row_tmp rfl _ _ w.heap.size 25 _ (0, 0) _ rfl (D4'.out.fin _ _ _ _ _ _ _).1 Tryd.underlying25 rfl (by kernel_rfl)) rfl ?_
          exact KF.out _ (D4'.out.fin _ _ _ _ _ _ _).2.1 (D4'.out.fin _ _ _ _ _ _ _).2.2
      · have KF := hid (KE1.out e1)
        go_wp2_with fail
        (try simp only [Exit.inBlock, Exit.then])
        refine bodyPost_ret (results_row_tmp rfl _ _ w.heap.size 25 _ (0, 0) _ rfl (D3'.out.fin _ _ _ _ _ _ _).1 Tryd.underlying25 rfl (by kernel_rfl)) rfl ?_
        exact KF.out _ (D3'.out.fin _ _ _ _ _ _ _).2.1 (D3'.out.fin _ _ _ _ _ _ _).2.2
  · obtain ⟨rfl, rfl⟩ := C1 (by simpa using hf)
    by_cases hn : Dr.isD c = true ∨ c = 42
    · clear C2 C3
      have hc : c = 42 ∨ c = 49 ∨ c = 50 ∨ c = 51 ∨ c = 52 ∨ c = 53 ∨ c = 54 ∨ c = 55 ∨ c = 56 ∨ c = 57 := by
        rcases hn with h | h
        · have := Dr.isD_iff.1 h
          have : c ≠ 48 := fun e => hf (by rw [e]; decide)
          omega
        · omega
      clear hn hf
      rcases hc with rfl | rfl | rfl | rfl | rfl | rfl | rfl | rfl | rfl | rfl
      all_goals
        go_enter Tryd.func44, Tryd.ntmps44
        go_wp2_with fail
        refine (NX.out _ D0.out.rb).mono ?_
        rintro e w1 ⟨rfl, hB⟩
        have D1 := hid (D0.out.call (D0.out.rb.below hB) (Oth.of_below hB))
        clear hB D0
        go_wp2_with fail
        refine (NU.out _ D1.out.rb).mono ?_
        rintro e w2 ⟨rfl, r2', o2'⟩
        have D2 := hid (D1.out.call r2' o2')
        clear r2' o2'
        have D2' := hid ((D2.out.set (o := 3) (v := .int .i64 K1) P7.s3).set (o := 4) (v := .int .i64 V1) P7.s4)
        obtain ⟨⟨r0, r1, r2, r3, r4, r5, r6⟩, ⟨q0, q1, q2, q3, q4, q5, q6⟩⟩ := D2.out.res.cells
        obtain ⟨⟨b0, b1, b2, b3, b4, b5, b6⟩, ⟨f0, f1, f2, f3, f4, f5, f6⟩⟩ := D2.out.box.cells
        by_cases e1 : E1 = 0
        · subst e1
          go_wp2_with fail
          clear r0 r1 r2 r3 r4 r5 r6 q0 q1 q2 q3 q4 q5 q6 b0 b1 b2 b3 b4 b5 b6 f0 f1 f2 f3 f4 f5 f6
          refine (PR.out _ D2'.out.rb).mono ?_
          rintro e w3 ⟨rfl, r3', o3'⟩
          have D3 := hid (D2'.out.call r3' o3')
          clear r3' o3'
          have D3' := hid ((D3.out.set (o := 5) (v := .int .i64 K2) P7.s5).set (o := 6) (v := .int .i64 V2) P7.s6)
          obtain ⟨⟨r0, r1, r2, r3, r4, r5, r6⟩, ⟨q0, q1, q2, q3, q4, q5, q6⟩⟩ := D3.out.res.cells
          obtain ⟨⟨b0, b1, b2, b3, b4, b5, b6⟩, ⟨f0, f1, f2, f3, f4, f5, f6⟩⟩ := D3.out.box.cells
          by_cases e2 : E2 = 0
          · subst e2
            go_wp2_with fail
            clear r0 r1 r2 r3 r4 r5 r6 q0 q1 q2 q3 q4 q5 q6 b0 b1 b2 b3 b4 b5 b6 f0 f1 f2 f3 f4 f5 f6
            refine (VE.out _ D3'.out.rb).mono ?_
            rintro e w4 ⟨rfl, r4', o4'⟩
            have D4 := hid (D3'.out.call r4' o4')
            clear r4' o4'
            have D4' := hid (D4.out.set (o := 1) (v := .int .u8 V3) P7.s1)
            obtain ⟨⟨r0, r1, r2, r3, r4, r5, r6⟩, ⟨q0, q1, q2, q3, q4, q5, q6⟩⟩ := D4.out.res.cells
            obtain ⟨⟨b0, b1, b2, b3, b4, b5, b6⟩, ⟨f0, f1, f2, f3, f4, f5, f6⟩⟩ := D4.out.box.cells
            by_cases e3 : E3 = 0
            · subst e3
              have KF := hid (KOK.out (by trivial) (by trivial) (by trivial))
              go_wp2_with fail
              (try simp only [Exit.inBlock, Exit.then])
              refine bodyPost_ret (results_row_tmp rfl _ _ w.heap.size 25 _ (0, 0) _ rfl (D4'.out.fin _ _ _ _ _ _ _).1 Tryd.underlying25 rfl (by kernel_rfl)) rfl ?_
              exact KF.out _ (D4'.out.fin _ _ _ _ _ _ _).2.1 (D4'.out.fin _ _ _ _ _ _ _).2.2
            · have KF := hid (KE3.out (by trivial) (by trivial) e3)
              go_wp2_with fail
              (try simp only [Exit.inBlock, Exit.then])
              refine bodyPost_ret (results_row_tmp rfl _ _ w.heap.size 25 _ (0, 0) _ rfl (D4'.out.fin _ _ _ _ _ _ _).1 Tryd.underlying25 rfl (by kernel_rfl)) rfl ?_
              exact KF.out _ (D4'.out.fin _ _ _ _ _ _ _).2.1 (D4'.out.fin _ _ _ _ _ _ _).2.2
          · have KF := hid (KE2.out (by trivial) e2)
            go_wp2_with fail
            (try simp only [Exit.inBlock, Exit.then])
            refine bodyPost_ret (results_row_tmp rfl _ _ w.heap.size 25 _ (0, 0) _ rfl (D3'.out.fin _ _ _ _ _ _ _).1 Tryd.underlying25 rfl (by kernel_rfl)) rfl ?_
            exact KF.out _ (D3'.out.fin _ _ _ _ _ _ _).2.1 (D3'.out.fin _ _ _ _ _ _ _).2.2
        · have KF := hid (KE1.out e1)
          go_wp2_with fail
          (try simp only [Exit.inBlock, Exit.then])
          refine bodyPost_ret (results_row_tmp rfl _ _ w.heap.size 25 _ (0, 0) _ rfl (D2'.out.fin _ _ _ _ _ _ _).1 Tryd.underlying25 rfl (by kernel_rfl)) rfl ?_
          exact KF.out _ (D2'.out.fin _ _ _ _ _ _ _).2.1 (D2'.out.fin _ _ _ _ _ _ _).2.2
    · have hd : Dr.isD c = false := by cases h : Dr.isD c with | false => rfl | true => exact absurd (.inl h) hn
      have h42 : c ≠ 42 := fun e => hn (.inr e)
      obtain ⟨rfl, rfl, rfl, rfl⟩ := C2 (by simpa using hf) hd h42
      by_cases h46 : c = 46
      · subst h46
        clear C3 hn hd h42 hf
        go_enter Tryd.func44, Tryd.ntmps44
        go_wp2_with fail
        refine (NX.out _ D0.out.rb).mono ?_
        rintro e w1 ⟨rfl, hB⟩
        have D1 := hid (D0.out.call (D0.out.rb.below hB) (Oth.of_below hB))
        clear hB D0
        go_wp2_with fail
        refine (PR.out _ D1.out.rb).mono ?_
        rintro e w2 ⟨rfl, r2', o2'⟩
        have D2 := hid (D1.out.call r2' o2')
        clear r2' o2'
        have D2' := hid ((D2.out.set (o := 5) (v := .int .i64 K2) P7.s5).set (o := 6) (v := .int .i64 V2) P7.s6)
        obtain ⟨⟨r0, r1, r2, r3, r4, r5, r6⟩, ⟨q0, q1, q2, q3, q4, q5, q6⟩⟩ := D2.out.res.cells
        obtain ⟨⟨b0, b1, b2, b3, b4, b5, b6⟩, ⟨f0, f1, f2, f3, f4, f5, f6⟩⟩ := D2.out.box.cells
        by_cases e2 : E2 = 0
        · subst e2
          go_wp2_with fail
          clear r0 r1 r2 r3 r4 r5 r6 q0 q1 q2 q3 q4 q5 q6 b0 b1 b2 b3 b4 b5 b6 f0 f1 f2 f3 f4 f5 f6
          refine (VE.out _ D2'.out.rb).mono ?_
          rintro e w3 ⟨rfl, r3', o3'⟩
          have D3 := hid (D2'.out.call r3' o3')
          clear r3' o3'
          have D3' := hid (D3.out.set (o := 1) (v := .int .u8 V3) P7.s1)
          obtain ⟨⟨r0, r1, r2, r3, r4, r5, r6⟩, ⟨q0, q1, q2, q3, q4, q5, q6⟩⟩ := D3.out.res.cells
          obtain ⟨⟨b0, b1, b2, b3, b4, b5, b6⟩, ⟨f0, f1, f2, f3, f4, f5, f6⟩⟩ := D3.out.box.cells
          by_cases e3 : E3 = 0
          · subst e3
            have KF := hid (KOK.out (by trivial) (by trivial) (by trivial))
            go_wp2_with fail
            (try simp only [Exit.inBlock, Exit.then])
            refine bodyPost_ret (results_row_tmp rfl _ _ w.heap.size 25 _ (0, 0) _ rfl (D3'.out.fin _ _ _ _ _ _ _).1 Tryd.underlying25 rfl (by kernel_rfl)) rfl ?_
            exact KF.out _ (D3'.out.fin _ _ _ _ _ _ _).2.1 (D3'.out.fin _ _ _ _ _ _ _).2.2
          · have KF := hid (KE3.out (by trivial) (by trivial) e3)
            go_wp2_with fail
            (try simp only [Exit.inBlock, Exit.then])
            refine bodyPost_ret (results_row_tmp rfl _ _ w.heap.size 25 _ (0, 0) _ rfl (D3'.out.fin _ _ _ _ _ _ _).1 Tryd.underlying25 rfl (by kernel_rfl)) rfl ?_
            exact KF.out _ (D3'.out.fin _ _ _ _ _ _ _).2.1 (D3'.out.fin _ _ _ _ _ _ _).2.2
        · have KF := hid (KE2.out (by trivial) e2)
          go_wp2_with fail
          (try simp only [Exit.inBlock, Exit.then])
          refine bodyPost_ret (results_row_tmp rfl _ _ w.heap.size 25 _ (0, 0) _ rfl (D2'.out.fin _ _ _ _ _ _ _).1 Tryd.underlying25 rfl (by kernel_rfl)) rfl ?_
          exact KF.out _ (D2'.out.fin _ _ _ _ _ _ _).2.1 (D2'.out.fin _ _ _ _ _ _ _).2.2
      · obtain ⟨rfl, rfl, rfl, rfl⟩ := C3 (by simpa using hf) hd h42 h46
        have n1 : c ≠ 45 := fun e => hf (by rw [e]; decide)
        have n2 : c ≠ 43 := fun e => hf (by rw [e]; decide)
        have n3 : c ≠ 32 := fun e => hf (by rw [e]; decide)
        have n4 : c ≠ 35 := fun e => hf (by rw [e]; decide)
        have n5 : c ≠ 48 := fun e => hf (by rw [e]; decide)
        have m0 : c ≠ 49 := fun e => by rw [e] at hd; exact absurd hd (by decide)
        have m1 : c ≠ 50 := fun e => by rw [e] at hd; exact absurd hd (by decide)
        have m2 : c ≠ 51 := fun e => by rw [e] at hd; exact absurd hd (by decide)
        have m3 : c ≠ 52 := fun e => by rw [e] at hd; exact absurd hd (by decide)
        have m4 : c ≠ 53 := fun e => by rw [e] at hd; exact absurd hd (by decide)
        have m5 : c ≠ 54 := fun e => by rw [e] at hd; exact absurd hd (by decide)
        have m6 : c ≠ 55 := fun e => by rw [e] at hd; exact absurd hd (by decide)
        have m7 : c ≠ 56 := fun e => by rw [e] at hd; exact absurd hd (by decide)
        have m8 : c ≠ 57 := fun e => by rw [e] at hd; exact absurd hd (by decide)
        clear hn hd hf
        go_enter Tryd.func44, Tryd.ntmps44
        go_wp2_with fail
        refine (NX.out _ D0.out.rb).mono ?_
        rintro e w1 ⟨rfl, hB⟩
        have D1 := hid (D0.out.call (D0.out.rb.below hB) (Oth.of_below hB))
        clear hB D0
        go_wp2_with fail
        refine (VE.out _ D1.out.rb).mono ?_
        rintro e w2 ⟨rfl, r2', o2'⟩
        have D2 := hid (D1.out.call r2' o2')
        clear r2' o2'
        have D2' := hid (D2.out.set (o := 1) (v := .int .u8 V3) P7.s1)
        obtain ⟨⟨r0, r1, r2, r3, r4, r5, r6⟩, ⟨q0, q1, q2, q3, q4, q5, q6⟩⟩ := D2.out.res.cells
        obtain ⟨⟨b0, b1, b2, b3, b4, b5, b6⟩, ⟨f0, f1, f2, f3, f4, f5, f6⟩⟩ := D2.out.box.cells
        by_cases e3 : E3 = 0
        · subst e3
          have KF := hid (KOK.out (by trivial) (by trivial) (by trivial))
          go_wp2_with fail
          (try simp only [Exit.inBlock, Exit.then])
          refine bodyPost_ret (results_row_tmp rfl _ _ w.heap.size 25 _ (0, 0) _ rfl (D2'.out.fin _ _ _ _ _ _ _).1 Tryd.underlying25 rfl (by kernel_rfl)) rfl ?_
          exact KF.out _ (D2'.out.fin _ _ _ _ _ _ _).2.1 (D2'.out.fin _ _ _ _ _ _ _).2.2
        · have KF := hid (KE3.out (by trivial) (by trivial) e3)
          go_wp2_with fail
          (try simp only [Exit.inBlock, Exit.then])
          refine bodyPost_ret (results_row_tmp rfl _ _ w.heap.size 25 _ (0, 0) _ rfl (D2'.out.fin _ _ _ _ _ _ _).1 Tryd.underlying25 rfl (by kernel_rfl)) rfl ?_
          exact KF.out _ (D2'.out.fin _ _ _ _ _ _ _).2.1 (D2'.out.fin _ _ _ _ _ _ _).2.2

theorem directive_any (b k : Nat) (s : ByteArray) (xs : List Int) (w : World) (hs : Str s xs) (hk : k ≤ xs.length) (hl : xs.length ≤ 4611686018427387904) (h : RB w b s k) :
    Calls Tryd.prog 44 #[.pointer (some ⟨b, 0, none⟩)] w fun r w' => DTold b s (xs.drop k) k w r w' := by
  have a1 := Dr.ct_le Dr.isF (xs.drop k)
  have a2 := Dr.nu_le (Dr.l1 (xs.drop k))
  have a3 := Dr.pu_le (Dr.l2 (xs.drop k))
  have e1 : Dr.l1 (xs.drop k) = xs.drop (k + Dr.ct Dr.isF (xs.drop k)) := by rw [Dr.l1, List.drop_drop]
  have e2 : Dr.l2 (xs.drop k) = xs.drop (k + Dr.ct Dr.isF (xs.drop k) + Dr.nu (Dr.l1 (xs.drop k))) := by rw [Dr.l2, e1, List.drop_drop]
  have e3 : Dr.l3 (xs.drop k) = xs.drop (k + Dr.ct Dr.isF (xs.drop k) + Dr.nu (Dr.l1 (xs.drop k)) + Dr.pu (Dr.l2 (xs.drop k))) := by rw [Dr.l3, e2, List.drop_drop]
  have q1 : (Dr.l1 (xs.drop k)).length = xs.length - (k + Dr.ct Dr.isF (xs.drop k)) := by rw [e1, List.length_drop]
  have q2 : (Dr.l2 (xs.drop k)).length = xs.length - (k + Dr.ct Dr.isF (xs.drop k) + Dr.nu (Dr.l1 (xs.drop k))) := by rw [e2, List.length_drop]
  rw [List.length_drop] at a1
  rw [q1] at a2
  rw [q2] at a3
  refine dir_over b k (k + Dr.ct Dr.isF (xs.drop k)) (k + Dr.ct Dr.isF (xs.drop k) + Dr.nu (Dr.l1 (xs.drop k))) (k + Dr.ct Dr.isF (xs.drop k) + Dr.nu (Dr.l1 (xs.drop k)) + Dr.pu (Dr.l2 (xs.drop k))) (k + Dr.ct Dr.isF (xs.drop k) + Dr.nu (Dr.l1 (xs.drop k)) + Dr.pu (Dr.l2 (xs.drop k)) + Dr.vu (Dr.l3 (xs.drop k))) s (Dr.nx xs k) w _
    (Dr.fS 0 (xs.drop k) : Nat) (Dr.nk (Dr.l1 (xs.drop k))) (Dr.nv (Dr.l1 (xs.drop k))) (Dr.ne (Dr.l1 (xs.drop k))) (Dr.pk (Dr.l2 (xs.drop k))) (Dr.pv (Dr.l2 (xs.drop k))) (Dr.pe (Dr.l2 (xs.drop k))) (Dr.vv (Dr.l3 (xs.drop k))) (Dr.ve (Dr.l3 (xs.drop k))) h
    (fun W hb => next_any b k s xs W hs hk hb)
    (fun W hb => flags_any b k s xs W hs hk hl hb)
    (fun W hb => by have := number_any b _ s xs W hs (by omega) hl hb; rw [← e1] at this; exact this)
    (fun W hb => by have := precision_any b _ s xs W hs (by omega) hl hb; rw [← e2] at this; exact this)
    (fun W hb => by have := verb_any b _ s xs W hs (by omega) hl hb; rw [← e3] at this; exact this) ?_ ?_ ?_ ?_ ?_ ?_ ?_
  · intro hf
    rw [← Dr.head_drop] at hf
    obtain ⟨z1, z2, z3⟩ := flag_zero hf
    exact ⟨by rw [z2]; rfl, by rw [z1]; rfl⟩
  · intro hf hd h42
    rw [← Dr.head_drop] at hf hd h42
    obtain ⟨z1, z2, z3⟩ := flag_zero hf
    obtain ⟨y1, y2, y3, y4⟩ := num_zero hd h42
    rw [z3, z1, y1, y2, y3, y4]
    exact ⟨rfl, rfl, rfl, rfl⟩
  · intro hf hd h42 h46
    rw [← Dr.head_drop] at hf hd h42 h46
    obtain ⟨z1, z2, z3⟩ := flag_zero hf
    obtain ⟨y1, y2, y3, y4⟩ := num_zero hd h42
    obtain ⟨x1, x2, x3, x4⟩ := prec_zero h46
    have : Dr.l2 (xs.drop k) = xs.drop k := by rw [Dr.l2, z3, y4]; rfl
    rw [this, z3, z1, y4, x1, x2, x3, x4]
    exact ⟨rfl, rfl, rfl, rfl⟩
  · intro h1 W r o
    have de : Dr.de (xs.drop k) = Dr.ne (Dr.l1 (xs.drop k)) := by rw [Dr.de, if_pos h1]
    refine ⟨by rw [Dr.dp, if_neg (by rw [de]; exact h1), pcv_no, de], ?_, o⟩
    rw [Dr.du, if_pos h1]
    rw [nu_zero h1] at r
    exact r
  · intro h1 h2 W r o
    have de : Dr.de (xs.drop k) = Dr.pe (Dr.l2 (xs.drop k)) := by rw [Dr.de, if_neg (by simp [h1]), if_pos h2]
    refine ⟨by rw [Dr.dp, if_neg (by rw [de]; exact h2), pcv_no, de], ?_, o⟩
    rw [Dr.du, if_neg (by simp [h1]), if_pos h2]
    rw [← Nat.add_assoc, ← Nat.add_assoc]
    exact r
  · intro h1 h2 h3 W r o
    have de : Dr.de (xs.drop k) = Dr.ve (Dr.l3 (xs.drop k)) := by rw [Dr.de, if_neg (by simp [h1]), if_neg (by simp [h2])]
    refine ⟨by rw [Dr.dp, if_neg (by rw [de]; exact h3), pcv_no, de], ?_, o⟩
    rw [Dr.du, if_neg (by simp [h1]), if_neg (by simp [h2])]
    rw [← Nat.add_assoc, ← Nat.add_assoc, ← Nat.add_assoc]
    exact r
  · intro h1 h2 h3 W r o
    have de : Dr.de (xs.drop k) = 0 := by rw [Dr.de, if_neg (by simp [h1]), if_neg (by simp [h2]), h3]
    refine ⟨by rw [Dr.dp, if_pos de, de]; rfl, ?_, o⟩
    rw [Dr.du, if_neg (by simp [h1]), if_neg (by simp [h2])]
    rw [← Nat.add_assoc, ← Nat.add_assoc, ← Nat.add_assoc]
    exact r
end Go.Proofs.YtaadooippelcfaaDoor
