/-
  abacuslaw26: CodeBack.
-/
import Derived.Test.YtnobafmleellhaaDoorCdRk
namespace Go.Proofs.YtnobafmleellhaaDoor
open Go Go.RowKit Go.Deep Go.Shelf

set_option maxRecDepth 100000 in
set_option maxHeartbeats 8000000 in
theorem back_law (l : List Cd.In) (nums : List Int) (strs : List ByteArray) (p q r : Option Addr) (cap c2 c3 : Nat) (i y : Int) (w : World) (hT : Tab10 w) (hL : Cd.LI w p l) (hQ : Cd.NI w q nums) (hR : TR w r strs) (hU : Cd.U64 nums) (hZ : ∀ s ∈ strs, s.size ≤ 9223372036854775807)
    (hn : l.length ≤ 9223372036854775807) (hN : nums.length ≤ 9223372036854775807) (hS : strs.length ≤ 9223372036854775807) (hy : 0 ≤ y ∧ y < 256) :
    Calls Tryd.prog 7 #[.agg #[.slice p l.length cap, .slice q nums.length c2, .slice r strs.length c3], .int .i64 i, .int .u8 y] w fun e w' => e = .returned (.bool true) ∧ Below w.heap.size w w' := by
  have B1 := hid (alloc_b w (.cells #[.slice p l.length cap, .slice q nums.length c2, .slice r strs.length c3] 31))
  have X1 := hid (Bx.new w 31 #[.slice p l.length cap, .slice q nums.length c2, .slice r strs.length c3])
  have AW : Hid (∀ W, Below w.heap.size w W → Calls Tryd.prog 9 #[] W fun e w' => e = .returned (.bool true) ∧ Below W.heap.size W w') := fun W hB => caw_any W (ctab10_below hT hB)
  have EN : Hid (∀ W, Below w.heap.size w W → _) := fun W hB => cenc_any l nums strs p q r cap c2 c3 W (hL.below hB (Nat.le_refl _)) (hQ.below hB (Nat.le_refl _)) (TR.below hR hB (Nat.le_refl _)) hU hZ hn hN hS
  have CH : Hid (∀ W, Below w.heap.size w W → Calls Tryd.prog 17 #[.agg #[.slice p l.length cap, .slice q nums.length c2, .slice r strs.length c3]] W fun e w' => e = .returned (.tuple #[.int .i64 (Cd.chk l nums.length strs.length).1, .int .i64 ((Cd.chk l nums.length strs.length).2.1 : Int), .int .i64 (Cd.chk l nums.length strs.length).2.2]) ∧ Below W.heap.size W w') := fun W hB =>
    cchk_any l p q r cap nums.length c2 strs.length c3 W (hL.below hB (Nat.le_refl _)) hn hN hS
  have DC : Hid (∀ W q B cap, Cd.BR W q B → (q = none ∨ ∃ b off, q = some ⟨b, off, none⟩) → (∀ b off, q = some ⟨b, off, none⟩ → b < W.heap.size) → B.length ≤ 1099511627776 → B.length ≤ cap → _) := fun W q B cap h1 h2 h3 h4 h5 => cdec_any q B cap W h1 h2 h3 h4 h5
  have CE := Cd.chk_err l nums.length strs.length
  have RD : Hid ((Cd.chk l nums.length strs.length).2.2 = 0 → (Cd.enc l nums strs).length ≤ 16777216 → Cd.Reads Cd.dcd0 (Cd.enc l nums strs) (nums, strs, l)) := fun h1 h2 => Cd.reads_taken h1 hU h2
  have E4 := (Cd.enc_len l nums strs).2.2.2.2
  have SM : (Cd.chk l nums.length strs.length).2.2 = 0 → l.length ≤ 131072 := fun h => by
    rcases Cd.hts_err l nums.length strs.length with e | ⟨e, _⟩
    · have := (Cd.hts_ok e).1; omega
    · rw [Cd.chk_no e] at h
      exact absurd h (by show ¬ (260 : Int) = 0; decide)
  have SA : Hid (∀ W l' nums' strs' p' q' r' d1 d2 d3, Below w.heap.size w W → l' = l → nums' = nums → strs' = strs → Cd.LI W p' l' → Cd.NI W q' nums' → TR W r' strs' → Calls Tryd.prog 15 #[.agg #[.slice p l.length cap, .slice q nums.length c2, .slice r strs.length c3], .agg #[.slice p' l'.length d1, .slice q' nums'.length d2, .slice r' strs'.length d3]] W fun e w' => e = .returned (.bool true) ∧ Below W.heap.size W w') := by
    rintro W _ _ _ p' q' r' d1 d2 d3 hB rfl rfl rfl h1 h2 h3
    exact csame_yes _ _ _ p q r p' q' r' cap c2 c3 d1 d2 d3 W (hL.below hB (Nat.le_refl _)) (hQ.below hB (Nat.le_refl _)) (TR.below hR hB (Nat.le_refl _)) h1 h2 h3 hn hN hS
  clear hT hL hQ hR hU hZ
  generalize Cd.enc l nums strs = E at *
  go_enter Tryd.func7, Tryd.ntmps7
  go_upto_region 1 with fail
  obtain ⟨k0, k1, k2⟩ := bx3 X1.out
  generalize w.alloc (.cells #[.slice p l.length cap, .slice q nums.length c2, .slice r strs.length c3] 31) = w1 at *
  go_upto_region 3 with (go_at_call 9; refine (AW.out _ B1.out).mono ?_; rintro e w2 ⟨rfl, hB⟩; have B2 := hid (below_on B1.out hB); have X2 := hid (X1.out.on hB); clear k0 k1 k2; obtain ⟨k0, k1, k2⟩ := bx3 X2.out; clear hB AW B1 X1)
  go_upto_region 4 with (go_at_call 13; refine (EN.out _ B2.out).mono ?_; rintro e w3 ⟨v, err, rfl, hB, hcase⟩; have B3 := hid (below_on B2.out hB); have X3 := hid (X2.out.on hB); have HC := hid hcase; clear k0 k1 k2; obtain ⟨k0, k1, k2⟩ := bx3 X3.out; clear hB EN B2 X2 hcase)
  rcases HC.out with ⟨z1, rfl, rfl⟩ | ⟨z1, z2, rfl, rfl⟩ | ⟨z1, z2, rfl, z3⟩
  · have CW := hid (CH.out w3 B3.out)
    rw [z1] at CW
    clear HC CH DC RD SM SA CE
    go_wp2_with (go_at_call 17; refine CW.out.mono ?_; rintro e w4 ⟨rfl, hB⟩; have B4 := hid (below_on B3.out hB); clear hB CW)
    go_ret
    exact ⟨rfl, B4.out⟩
  · have CW := hid (CH.out w3 B3.out)
    rw [z1] at CW
    clear HC CH DC RD SM SA CE
    go_wp2_with (go_at_call 17; refine CW.out.mono ?_; rintro e w4 ⟨rfl, hB⟩; have B4 := hid (below_on B3.out hB); clear hB CW)
    go_ret
    exact ⟨rfl, B4.out⟩
  · have RE := hid (RD.out z1 z2)
    have sm := SM z1
    obtain ⟨g, ce, rfl, g1, g2, g3, bre⟩ := Cd.BR.of_b8 z3 (by omega)
    have BE := hid bre
    clear HC CH RD SM CE z3 bre
    have DA : Hid (Calls Tryd.prog 14 #[.slice (some ⟨g, 0, none⟩) E.length ce] w3 fun e w' => ∃ p' q' r' d1 d2 d3, e = .returned (.tuple #[.agg #[.slice p' l.length d1, .slice q' nums.length d2, .slice r' strs.length d3], .int .i64 0, .int .i64 0]) ∧ Below w3.heap.size w3 w' ∧ Cd.LI w' p' l ∧ Cd.NI w' q' nums ∧ TR w' r' strs) := by
      obtain ⟨f1, f2, f3, f4⟩ := Cd.dec_all RE.out sm
      refine (DC.out w3 (some ⟨g, 0, none⟩) E ce BE.out (.inr ⟨g, 0, rfl⟩) (fun b off e => by cases e; exact g2) (by omega) g3).mono ?_
      rintro e w' ⟨v, at', err, rfl, hB, ⟨p', h, _⟩ | ⟨_, h, _⟩ | ⟨_, _, rfl, rfl, p', q', r', d1, d2, d3, rfl, h1, h2, h3⟩⟩
      · rw [f1] at h; cases h
      · rw [f2, f3, f4, z1] at h; exact absurd h (by show ¬ (0 : Int) = 260; decide)
      · rw [f2] at h1 ⊢
        rw [f3] at h2 ⊢
        rw [f4] at h3 ⊢
        exact ⟨p', q', r', d1, d2, d3, rfl, hB, h1, h2, h3⟩
    have el : (E.length : Int) ≤ 16777216 := by omega
    have e0 : ¬ (E.length : Int) = 0 := by omega
    have e1 : (0 : Int) < (E.length : Int) := by omega
    have lw := B3.out.size
    obtain ⟨k, hk, kl⟩ : ∃ k : Nat, wrap64 ((IntKind.u64.wrap i).tmod (E.length : Int)) = (k : Int) ∧ k < E.length := by
      have u0 : 0 ≤ IntKind.u64.wrap i := by rw [IntKind.wrap_u64]; omega
      have q1 := Int.tmod_eq_emod_of_nonneg (b := (E.length : Int)) u0
      have q2 := Int.emod_nonneg (IntKind.u64.wrap i) (show (E.length : Int) ≠ 0 from e0)
      have q3 := Int.emod_lt_of_pos (IntKind.u64.wrap i) e1
      refine ⟨(IntKind.u64.wrap i % (E.length : Int)).toNat, ?_, by omega⟩
      rw [q1]
      generalize IntKind.u64.wrap i % (E.length : Int) = m at *
      unfold wrap64
      omega
    have DB : Hid (∀ W, Cd.BR W (some ⟨g, 0, none⟩) E → g < W.heap.size → Calls Tryd.prog 14 #[.slice (some ⟨g, 0, none⟩) k ce] W fun e w' => ∃ v, e = .returned (.tuple #[v, .int .i64 (k : Int), .int .i64 261]) ∧ Below W.heap.size W w') := fun W hb hg => by
      have f1 := Cd.dec_cut RE.out kl
      have ek : (E.take k).length = k := by rw [List.length_take]; omega
      have := DC.out W (some ⟨g, 0, none⟩) (E.take k) ce (hb.take k) (.inr ⟨g, 0, rfl⟩) (fun b off e => by cases e; exact hg) (by omega) (by omega)
      rw [ek] at this
      refine this.mono ?_
      rintro e w' ⟨v, at', err, rfl, hB, ⟨p', h, _, rfl, rfl⟩ | ⟨h, _⟩ | ⟨h, _⟩⟩
      · rw [f1] at h; cases h; exact ⟨_, rfl, hB⟩
      · rw [f1] at h; cases h
      · rw [f1] at h; cases h
    obtain ⟨yb, hyb⟩ : ∃ yb : UInt8, (yb.toNat : Int) = y := ⟨UInt8.ofNat y.toNat, by rw [UInt8.toNat_ofNat_of_lt' (by show y.toNat < 256; omega)]; omega⟩
    have DM : Hid (∀ W p9 c9, Cd.BR W p9 (E ++ [yb]) → (p9 = none ∨ ∃ b off, p9 = some ⟨b, off, none⟩) → (∀ b off, p9 = some ⟨b, off, none⟩ → b < W.heap.size) → (E ++ [yb]).length ≤ c9 → Calls Tryd.prog 14 #[.slice p9 (E ++ [yb]).length c9] W fun e w' => ∃ v, e = .returned (.tuple #[v, .int .i64 (E.length : Int), .int .i64 261]) ∧ Below W.heap.size W w') := fun W p9 c9 h1 h2 h3 h4 => by
      have f1 := Cd.dec_more RE.out yb
      refine (DC.out W p9 (E ++ [yb]) c9 h1 h2 h3 (by rw [List.length_append]; simp; omega) h4).mono ?_
      rintro e w' ⟨v, at', err, rfl, hB, ⟨p', h, _, rfl, rfl⟩ | ⟨h, _⟩ | ⟨h, _⟩⟩
      · rw [f1] at h; cases h; exact ⟨_, rfl, hB⟩
      · rw [f1] at h; cases h
      · rw [f1] at h; cases h
    clear DC RE sm
    subst hyb
    go_upto_region 8 with (go_at_call 14; refine DA.out.mono ?_; rintro e w4 ⟨p', q', r', d1, d2, d3, rfl, hB, h1, h2, h3⟩; have al := alloc_b w4 (.cells #[.slice p' l.length d1, .slice q' nums.length d2, .slice r' strs.length d3] 31); have BB := hid (below_on hB al); have B4 := hid (below_on (below_on B3.out hB) al); have X4 := hid ((X3.out.on hB).on al); have D4 := hid (Bx.new w4 31 #[.slice p' l.length d1, .slice q' nums.length d2, .slice r' strs.length d3]); have L4 := hid (h1.on al); have N4 := hid (h2.on al); have S4 := hid (TR.below h3 al (Nat.le_refl _)); clear hB h1 h2 h3 al DA B3 X3)
    generalize w4.alloc (.cells #[.slice p' l.length d1, .slice q' nums.length d2, .slice r' strs.length d3] 31) = w5 at *
    generalize w4.heap.size = bd at *
    clear k0 k1 k2
    obtain ⟨k0, k1, k2⟩ := bx3 X4.out
    obtain ⟨j0, j1, j2⟩ := bx3 D4.out
    have SW := hid (SA.out w5 l nums strs p' q' r' d1 d2 d3 B4.out rfl rfl rfl L4.out N4.out S4.out)
    clear SA L4 N4 S4 X4 D4
    go_upto_region 11 with (go_at_call 15; refine SW.out.mono ?_; rintro e w6 ⟨rfl, hB⟩; have B6 := hid (below_on B4.out hB); have BB6 := hid (below_on BB.out hB); clear hB SW B4 BB k0 k1 k2 j0 j1 j2)
    rw [hk]
    have gz : g < w6.heap.size := Nat.lt_of_lt_of_le g2 BB6.out.size
    have DB6 := hid (DB.out w6 (BE.out.on BB6.out) gz)
    have k0i : (0 : Int) ≤ (k : Int) := by omega
    have k1i : (k : Int) ≤ (ce : Int) := by omega
    clear DB hk
    obtain ⟨ti, hi, hz⟩ := Option.map_eq_some_iff.1 info_u8
    simp only [Prod.mk.injEq] at hz
    obtain ⟨z1', z2', z3'⟩ := hz
    have MM : Hid (∀ W, Below w3.heap.size w3 W → ∃ W8 p9 c9 w9 p10 c10 w10, (Instr.makeSlice 32 (.int .i64 0) (.int .i64 ((E.length : Int) + 1))).run Tryd.prog W = .ok (.slice (some ⟨W.heap.size, 0, none⟩) 0 (E.length + 1)) W8 ∧
        (Builtin.append_ #[32, 32] 32 #[.slice (some ⟨W.heap.size, 0, none⟩) 0 (E.length + 1), .slice (some ⟨g, 0, none⟩) E.length ce]).run Tryd.prog W8 = .ok (.slice p9 E.length c9) w9 ∧
        (Builtin.append_ #[32, 32] 32 #[.slice p9 E.length c9, .slice (some ⟨w9.heap.size, 0, none⟩) 1 1]).run Tryd.prog (w9.alloc (.cells #[.int .u8 (yb.toNat : Int)] 5)) = .ok (.slice p10 (E ++ [yb]).length c10) w10 ∧
        Below W.heap.size W w10 ∧ Cd.BR w10 p10 (E ++ [yb]) ∧ (p10 = none ∨ ∃ b off, p10 = some ⟨b, off, none⟩) ∧ (∀ b off, p10 = some ⟨b, off, none⟩ → b < w10.heap.size) ∧ (E ++ [yb]).length ≤ c10) := fun W hW => by
      obtain ⟨W8, m1, m2, m3⟩ := cd_makeO Cd.ebb 32 5 ti _ Tryd.underlying32 hi z1' z2' z3' (E.length + 1) W.heap.size W (by omega) (by omega) (Nat.le_refl _)
      rw [show ((E.length + 1 : Nat) : Int) = (E.length : Int) + 1 by omega] at m1
      obtain ⟨mv9, w9, a1, a2, a3⟩ := Cd.Ow_cat Cd.ebb_len Cd.ebb_one (by omega) 32 5 ti _ Tryd.underlying32 hi z1' z2' z3' rfl m2 ⟨g, 0, none⟩ ce ((BE.out.on hW).on m3).cells (by simp; omega) (by simp; omega) m3.size
      rw [List.nil_append] at a2
      obtain ⟨p9, c9, rfl⟩ := Cd.Ow_len a2
      have s9 : W.heap.size ≤ w9.heap.size := Nat.le_trans m3.size a3.size
      obtain ⟨mv10, w10, b1, b2, b3, b4, b5⟩ := a2.push (k := 1) Cd.ebb_len Cd.ebb_one (by omega) (P := Tryd.prog) 32 Tryd.underlying32 (z := .int .u8 0) (bytes := 1) info_u8 (by omega) rfl yb (by omega) s9
      obtain ⟨p10, c10, rfl⟩ := Cd.Ow_len b2
      obtain ⟨_, r1, r2, r3, r4⟩ := Cd.BR.of_ow b2
      exact ⟨W8, p9, c9, w9, p10, c10, w10, m1, a1, b1, m3.trans (a3.trans b4), r1, r2, r3, r4⟩
    clear hi z1' z2' z3' ti
    have ll : (E ++ [yb]).length = E.length + 1 := by rw [List.length_append]; rfl
    rw [ll] at DM MM
    go_upto_region 14 with (go_at_call 14; refine DB6.out.mono ?_; rintro e w7 ⟨v7, rfl, hB⟩; have B7 := hid (below_on B6.out hB); obtain ⟨W8, p9, c9, w9, p10, c10, w10, m1, a1, b1, s1, r1, r2, r3, r4⟩ := MM.out w7 (below_on BB6.out hB); have AP9 := hid a1; have AP10 := hid b1; have DX := hid (DM.out w10 p10 c10 r1 r2 r3 (by omega)); have BX := hid (below_on B7.out s1); clear hB a1 b1 r1 r2 r3 r4 s1 DB6 MM DM BB6 B6)
    go_wp2_with (first
      | (at_builtin; first | (refine wpList_append_d rfl _ _ rfl AP9.out (by rfl) (by rfl) ?_; clear AP9) | (refine wpList_append_d rfl _ _ rfl AP10.out (by rfl) (by rfl) ?_; clear AP10))
      | (go_at_call 14; refine DX.out.mono ?_; rintro e wx ⟨vx, rfl, hB⟩; have BZ := hid (below_on BX.out hB); clear hB DX BX))
    go_ret
    exact ⟨rfl, BZ.out⟩
end Go.Proofs.YtnobafmleellhaaDoor
