/-
  abacuslaw26: CodeTurned.
-/
import Derived.Test.YtnobafmleellhabDoorCdTb
namespace Go.Proofs.YtnobafmleellhabDoor
open Go Go.RowKit Go.Deep Go.Shelf

theorem cd_isz : (Tryd.prog.info? 28).map (·.size) = some 3 := by kernel_rfl
theorem cd_ione {a b c : Int} : (#[Value.int .i64 a, Value.int .i64 b, Value.int .i64 c]).all (·.oneCell') = true := all_oneCell_toArray (Cd.en_one ⟨a, b, c⟩)
set_option maxRecDepth 100000 in
set_option maxHeartbeats 8000000 in
theorem turned_law (l : List Cd.In) (nums : List Int) (strs : List ByteArray) (p q r : Option Addr) (cap c2 c3 : Nat) (i : Int) (x : Cd.In) (w : World) (hT : Tab10 w) (hL : Cd.LI w p l) (hQ : Cd.NI w q nums) (hR : TR w r strs) (hU : Cd.U64 nums) (hZ : ∀ s ∈ strs, s.size ≤ 9223372036854775807)
    (hn : l.length * 24 ≤ 140737488355328) (hN : nums.length * 8 ≤ 140737488355328) (hS : strs.length * 16 ≤ 140737488355328) :
    Calls Tryd.prog 3 #[.agg #[.slice p l.length cap, .slice q nums.length c2, .slice r strs.length c3], .int .i64 i, .agg #[.int .i64 x.w, .int .i64 x.a, .int .i64 x.b]] w fun e w' => e = .returned (.bool true) ∧ Below w.heap.size w w' := by
  have B1 := hid (cd_b2 w (.cells #[.slice p l.length cap, .slice q nums.length c2, .slice r strs.length c3] 26) (.cells #[.int .i64 x.w, .int .i64 x.a, .int .i64 x.b] 28))
  obtain ⟨y1, y2⟩ := bx_two w #[.slice p l.length cap, .slice q nums.length c2, .slice r strs.length c3] #[.int .i64 x.w, .int .i64 x.a, .int .i64 x.b] 26 28
  have X1 := hid y1
  have Z1 := hid y2
  clear y1 y2
  have AW : Hid (∀ W, Below w.heap.size w W → Calls Tryd.prog 5 #[] W fun e w' => e = .returned (.bool true) ∧ Below W.heap.size W w') := fun W hB => caw_any W (ctab10_below hT hB)
  have CH : Hid (∀ W, Below w.heap.size w W → Calls Tryd.prog 6 #[.agg #[.slice p l.length cap, .slice q nums.length c2, .slice r strs.length c3]] W fun e w' => e = .returned (.tuple #[.int .i64 (Cd.chk l nums.length strs.length).1, .int .i64 ((Cd.chk l nums.length strs.length).2.1 : Int), .int .i64 (Cd.chk l nums.length strs.length).2.2]) ∧ Below W.heap.size W w') := fun W hB =>
    cchk_any l p q r cap nums.length c2 strs.length c3 W (hL.below hB (Nat.le_refl _)) (by omega) (by omega) (by omega)
  have CP : Hid (∀ W, Below w.heap.size w W → _) := fun W hB => ccop_any l nums strs p q r cap c2 c3 W (hL.below hB (Nat.le_refl _)) (hQ.below hB (Nat.le_refl _)) (hR.below hB (Nat.le_refl _)) hn hN hS
  have CE := Cd.chk_err l nums.length strs.length
  have EF := hid (fun W => cEffect_any x W)
  have CJ := hid (fun W => cjmp_any x.w W)
  have hni : l.length ≤ 5864062014805 := by omega
  have hNi : nums.length ≤ 17592186044416 := by omega
  have hSi : strs.length ≤ 8796093022208 := by omega
  have hnn : (l.length : Int) ≤ 5864062014805 := by omega
  obtain ⟨xw, xa, xb⟩ := x
  go_enter Tryd.func3, Tryd.ntmps3
  go_upto_region 1 with fail
  obtain ⟨k0, k1, k2⟩ := bx3 X1.out
  obtain ⟨j0, j1, j2⟩ := bx3 Z1.out
  generalize (w.alloc (.cells #[.slice p l.length cap, .slice q nums.length c2, .slice r strs.length c3] 26)).alloc (.cells #[.int .i64 xw, .int .i64 xa, .int .i64 xb] 28) = w1 at *
  go_upto_region 3 with (go_at_call 5; with_reducible refine (AW.out _ B1.out).mono ?_; rintro e w2 ⟨rfl, hB⟩; have B2 := hid (below_on B1.out hB); have X2 := hid (X1.out.on hB); have Z2 := hid (Z1.out.on hB); clear k0 k1 k2 j0 j1 j2; obtain ⟨k0, k1, k2⟩ := bx3 X2.out; obtain ⟨j0, j1, j2⟩ := bx3 Z2.out; clear hB AW B1 X1 Z1)
  go_upto_region 4 with (go_at_call 6; with_reducible refine (CH.out _ B2.out).mono ?_; rintro e w3 ⟨rfl, hB⟩; have B3 := hid (below_on B2.out hB); have X3 := hid (X2.out.on hB); have Z3 := hid (Z2.out.on hB); clear k0 k1 k2 j0 j1 j2; obtain ⟨k0, k1, k2⟩ := bx3 X3.out; obtain ⟨j0, j1, j2⟩ := bx3 Z3.out; clear hB CH B2 X2 Z2)
  rcases CE with ⟨h3, hx⟩ | h3
  · have l0 : l.length ≠ 0 := fun e => by
      have z : l = [] := List.eq_nil_of_length_eq_zero e
      rw [z] at h3
      exact absurd h3 (by simp [Cd.chk, Cd.hts, Cd.bad, Cd.run, Cd.h0])
    have l0i : ¬ (l.length : Int) = 0 := by omega
    have l1i : (0 : Int) < (l.length : Int) := by omega
    obtain ⟨k, hk, kl⟩ : ∃ k : Nat, wrap64 ((IntKind.u64.wrap i).tmod (l.length : Int)) = (k : Int) ∧ k < l.length := by
      have u0 : 0 ≤ IntKind.u64.wrap i := by rw [IntKind.wrap_u64]; omega
      have e1 := Int.tmod_eq_emod_of_nonneg (b := (l.length : Int)) u0
      have e2 := Int.emod_nonneg (IntKind.u64.wrap i) (show (l.length : Int) ≠ 0 from l0i)
      have e3 := Int.emod_lt_of_pos (IntKind.u64.wrap i) l1i
      refine ⟨(IntKind.u64.wrap i % (l.length : Int)).toNat, ?_, by omega⟩
      rw [e1]
      generalize IntKind.u64.wrap i % (l.length : Int) = m at *
      unfold wrap64
      omega
    have CB : Hid (Cd.rt l.length nums.length strs.length k ⟨xw, xa, xb⟩ = false → _) := fun h => Cd.turned h3 kl h
    have RB : Hid (¬ (Cd.ok ⟨xw, xa, xb⟩ = true ∧ ¬ ((xw = 27 ∨ xw = 28 ∨ xw = 29) ∧ (xa ≤ k ∨ (l.length : Int) < xa))) → Cd.rt l.length nums.length strs.length k ⟨xw, xa, xb⟩ = false) := fun h => Cd.rt_bad h
    have EO : (Cd.ef ⟨xw, xa, xb⟩).2.2 = Cd.ok ⟨xw, xa, xb⟩ := by
      unfold Cd.ef
      cases h : Cd.ok ⟨xw, xa, xb⟩ <;> rfl
    rw [EO] at EF
    have kli : (k : Int) < (l.length : Int) := by omega
    rw [h3]
    generalize hok : Cd.ok ⟨xw, xa, xb⟩ = okb at *
    generalize hfb : decide (xw = 27 ∨ xw = 28 ∨ xw = 29) = fb at *
    go_upto_region 8 with fail
    rw [hk]
    go_upto_region 9 with (go_at_call 7; with_reducible refine (EF.out _).mono ?_; rintro e w4 ⟨rfl, hB⟩; have B4 := hid (below_on B3.out hB); have X4 := hid (X3.out.on hB); have Z4 := hid (Z3.out.on hB); clear k0 k1 k2 j0 j1 j2; obtain ⟨k0, k1, k2⟩ := bx3 X4.out; obtain ⟨j0, j1, j2⟩ := bx3 Z4.out; clear hB EF B3 X3 Z3)
    go_upto_region 10 with (go_at_call 8; with_reducible refine (CJ.out _).mono ?_; rintro e w5 ⟨rfl, rfl⟩; clear CJ)
    have SPL : (okb = true ∧ fb = false) ∨ (okb = true ∧ fb = true ∧ ¬ xa ≤ (k : Int) ∧ ¬ (l.length : Int) < xa) ∨ ((okb = false ∨ (okb = true ∧ fb = true ∧ xa ≤ (k : Int)) ∨ (okb = true ∧ fb = true ∧ ¬ xa ≤ (k : Int) ∧ (l.length : Int) < xa)) ∧ Cd.rt l.length nums.length strs.length k ⟨xw, xa, xb⟩ = false) := by
      have RO := RB.out
      cases okb with
      | false => exact .inr (.inr ⟨.inl rfl, RO (fun z => by cases z.1)⟩)
      | true =>
        cases fb with
        | false => exact .inl ⟨rfl, rfl⟩
        | true =>
          have f3 := of_decide_eq_true hfb
          by_cases c1 : xa ≤ (k : Int)
          · exact .inr (.inr ⟨.inr (.inl ⟨rfl, rfl, c1⟩), RO (fun z => z.2 ⟨f3, .inl c1⟩)⟩)
          · by_cases c2 : (l.length : Int) < xa
            · exact .inr (.inr ⟨.inr (.inr ⟨rfl, rfl, c1, c2⟩), RO (fun z => z.2 ⟨f3, .inr c2⟩)⟩)
            · exact .inr (.inl ⟨rfl, rfl, c1, c2⟩)
    clear RB hok hfb
    rcases SPL with ⟨rfl, rfl⟩ | ⟨rfl, rfl, q1, q2⟩ | ⟨SP, hr⟩
    · clear CB CP
      go_wp2_with fail
      go_ret
      exact ⟨rfl, B4.out⟩
    · clear CB CP
      go_wp2_with fail
      go_ret
      exact ⟨rfl, B4.out⟩
    · obtain ⟨HT0, CK0⟩ := CB.out hr
      have HT0 := hid HT0
      have CK0 := hid CK0
      clear CB hr
      rcases SP with rfl | ⟨rfl, rfl, q1⟩ | ⟨rfl, rfl, q1, q2⟩
      all_goals
        go_upto_region 12 with fail
        go_upto_region 13 with (go_at_call 9; refine (CP.out _ B4.out).mono ?_; rintro e w6 ⟨ga, gb, gc, rfl, o1, o2, o3, ya, yb, yc, hB⟩; have ba := B4.out.size; have YA := hid ya; have YB := hid yb; have YC := hid yc; have B6 := hid (below_on B4.out hB); have Z6 := hid (Z4.out.on hB); clear k0 k1 k2 j0 j1 j2; obtain ⟨j0, j1, j2⟩ := bx3 Z6.out; clear hB CP B4 X4 Z4 ya yb yc)
        have L7 := hid (alloc_b w6 (.cells #[.slice (some ⟨ga, 0, none⟩) l.length l.length, .slice (some ⟨gb, 0, none⟩) nums.length nums.length, .slice (some ⟨gc, 0, none⟩) strs.length strs.length] 26))
        have D7 := hid (Bx.new w6 26 #[.slice (some ⟨ga, 0, none⟩) l.length l.length, .slice (some ⟨gb, 0, none⟩) nums.length nums.length, .slice (some ⟨gc, 0, none⟩) strs.length strs.length])
        have A7 := hid (YA.out.on L7.out)
        have N7 := hid (YB.out.on L7.out)
        have S7 := hid (YC.out.on L7.out)
        have Z7 := hid (Z6.out.on L7.out)
        have B7 := hid (below_on B6.out L7.out)
        have ag := YA.out.lt
        generalize w6.alloc (.cells #[.slice (some ⟨ga, 0, none⟩) l.length l.length, .slice (some ⟨gb, 0, none⟩) nums.length nums.length, .slice (some ⟨gc, 0, none⟩) strs.length strs.length] 26) = w7 at *
        generalize w6.heap.size = bd at *
        clear j0 j1 j2 YA YB YC B6 Z6 L7
        obtain ⟨j0, j1, j2⟩ := bx3 Z7.out
        obtain ⟨k0, k1, k2⟩ := bx3 D7.out
        have TH := hid (Re.bx_there (k := 3) Cd.en_len A7.out kl)
        have A8 := hid (Re.bx_put Cd.en_len A7.out ⟨xw, xa, xb⟩ kl)
        have D8 := hid (D7.out.setc (g := ga) (o := k * 3) (vs := Cd.en ⟨xw, xa, xb⟩) (by omega))
        have N8 := hid (N7.out.setc (g := ga) (o := k * 3) (vs := Cd.en ⟨xw, xa, xb⟩) (by omega))
        have S8 := hid (S7.out.setc (g := ga) (o := k * 3) (vs := Cd.en ⟨xw, xa, xb⟩) (by omega))
        have B8 := hid (setCells_below ga (Cd.en ⟨xw, xa, xb⟩) (k * 3) _ _ _ B7.out (by omega))
        clear A7 D7 N7 S7 B7
        obtain ⟨w8, h8⟩ : ∃ w8, w7.setCells ga (k * 3) (Cd.en ⟨xw, xa, xb⟩) = w8 := ⟨_, rfl⟩
        rw [h8] at A8 D8 N8 S8 B8
        have H8 := hid h8
        clear h8
        go_upto_region 14 with (refine wpList_store_to rfl 28 _ _ rfl ga (k * 3) _ rfl rfl TH.out cd_isz cd_ione H8.out ?_; clear TH H8)
        clear j0 j1 j2 k0 k1 k2
        have HE : Calls Tryd.prog 10 #[.agg #[.slice (some ⟨ga, 0, none⟩) l.length l.length, .slice (some ⟨gb, 0, none⟩) nums.length nums.length, .slice (some ⟨gc, 0, none⟩) strs.length strs.length]] w8 fun e w' => e = .returned (.tuple #[.slice none 0 0, .int .i64 (k : Int), .int .i64 260]) ∧ Below w8.heap.size w8 w' := by
          have := chts_any (l.set k ⟨xw, xa, xb⟩) (some ⟨ga, 0, none⟩) (some ⟨gb, 0, none⟩) (some ⟨gc, 0, none⟩) l.length nums.length nums.length strs.length strs.length w8 (Cd.LI.row A8.out (fun _ _ h => h)) (by rw [List.length_set]; omega) (by omega) (by omega)
          rw [HT0.out, List.length_set] at this
          refine this.mono ?_
          rintro e w' ⟨v, rfl, hB, ⟨z, _⟩ | ⟨_, rfl⟩⟩
          · exact absurd z (show ¬ (260 : Int) = 0 by decide)
          · exact ⟨rfl, hB⟩
        have EN : Hid (∀ W, Below w8.heap.size w8 W → Calls Tryd.prog 11 #[.agg #[.slice (some ⟨ga, 0, none⟩) l.length l.length, .slice (some ⟨gb, 0, none⟩) nums.length nums.length, .slice (some ⟨gc, 0, none⟩) strs.length strs.length]] W fun e w' => e = .returned (.tuple #[.slice none 0 0, .int .i64 260]) ∧ Below W.heap.size W w') := fun W hW => by
          have := cenc_any (l.set k ⟨xw, xa, xb⟩) nums strs (some ⟨ga, 0, none⟩) (some ⟨gb, 0, none⟩) (some ⟨gc, 0, none⟩) l.length nums.length strs.length W ((Cd.LI.row A8.out (fun _ _ h => h)).on hW) ((Cd.NI.row N8.out).on hW) (TR.below (show TR w8 _ strs from Cd.TR.row S8.out) hW (Nat.le_refl _)) hU hZ (by rw [List.length_set]; omega) (by omega) (by omega)
          rw [CK0.out, List.length_set] at this
          refine this.mono ?_
          rintro e w' ⟨v, err, rfl, hB, ⟨_, rfl, rfl⟩ | ⟨z, _⟩ | ⟨z, _⟩⟩
          · exact ⟨rfl, hB⟩
          · exact absurd z (show ¬ (260 : Int) = 0 by decide)
          · exact absurd z (show ¬ (260 : Int) = 0 by decide)
        have HE := hid HE
        obtain ⟨k0, k1, k2⟩ := bx3 D8.out
        clear A8 N8 S8 HT0 CK0 Z7
        go_upto_region 15 with (go_at_call 10; refine HE.out.mono ?_; rintro e w9 ⟨rfl, hB⟩; have B9 := hid hB; have D9 := hid (D8.out.on hB); clear k0 k1 k2; obtain ⟨k0, k1, k2⟩ := bx3 D9.out; clear hB HE D8)
        go_wp2_with (go_at_call 11; refine (EN.out _ B9.out).mono ?_; rintro e wa ⟨rfl, hB⟩; have BA := hid (below_on B9.out hB); clear hB EN D9 k0 k1 k2)
        go_ret
        exact ⟨rfl, B8.out.trans (BA.out.mono B8.out.size)⟩
  · rw [h3]
    go_wp2_with fail
    go_ret
    exact ⟨rfl, B3.out⟩
end Go.Proofs.YtnobafmleellhabDoor
