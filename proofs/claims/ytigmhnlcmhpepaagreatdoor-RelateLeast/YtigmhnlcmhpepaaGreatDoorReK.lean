/-
  value.Plain of a number; the law's num and str; Queue's Push.
-/
import Derived.Test.YtigmhnlcmhpepaaGreatDoorReJ
import Derived.Test.YtigmhnlcmhpepaaGreatDoorReC
namespace Go.Proofs.YtigmhnlcmhpepaaGreatDoor
open Go Go.RowKit Go.Deep Go.Shelf

set_option maxRecDepth 100000 in
theorem rnum_any (n : Int) (w : World) : Calls Tryz.prog 18 #[.int .u64 n] w fun e w' => e = .returned (.agg #[.int .i64 1, .int .u64 n, .string ⟨#[]⟩]) ∧ Below w.heap.size w w' := by
  have B := hid (alloc_b w (.cells #[.int .i64 1, .int .u64 n, .string ⟨#[]⟩] 24))
  have X := hid (Bx.new w 24 #[.int .i64 1, .int .u64 n, .string ⟨#[]⟩])
  go_enter Tryz.func18, Tryz.ntmps18
  go_wp2_with fail
  (try simp only [Exit.inBlock, Exit.then])
  refine bodyPost_ret (results_cell_row rfl _ _ w.heap.size 24 _ (0, 0) _ rfl X.out Tryz.underlying24 rfl (by kernel_rfl)) rfl ?_
  exact ⟨rfl, B.out⟩

set_option maxRecDepth 100000 in
theorem rstr_any (s : ByteArray) (w : World) : Calls Tryz.prog 17 #[.string s] w fun e w' => e = .returned (.agg #[.int .i64 2, .int .u64 0, .string s]) ∧ Below w.heap.size w w' := by
  have B := hid (alloc_b w (.cells #[.int .i64 2, .int .u64 0, .string s] 24))
  have X := hid (Bx.new w 24 #[.int .i64 2, .int .u64 0, .string s])
  go_enter Tryz.func17, Tryz.ntmps17
  go_wp2_with fail
  (try simp only [Exit.inBlock, Exit.then])
  refine bodyPost_ret (results_cell_row rfl _ _ w.heap.size 24 _ (0, 0) _ rfl X.out Tryz.underlying24 rfl (by kernel_rfl)) rfl ?_
  exact ⟨rfl, B.out⟩

set_option maxRecDepth 100000 in
theorem nplain_any (n : Int) (w : World) : Calls Tryz.prog 273 #[.agg #[.int .u64 n]] w fun e w' => e = .returned (.agg #[.int .i64 1, .int .u64 n, .string ⟨#[]⟩]) ∧ Below w.heap.size w w' := by
  have a := alloc_b w (.cells #[.int .u64 n] 88)
  have B := hid (below_on a (alloc_b (w.alloc (.cells #[.int .u64 n] 88)) (.cells #[.int .i64 1, .int .u64 n, .string ⟨#[]⟩] 24)))
  have sz : (w.alloc (.cells #[.int .u64 n] 88)).heap.size = w.heap.size + 1 := Array.size_push ..
  have X : Hid (Bx ((w.alloc (.cells #[.int .u64 n] 88)).alloc (.cells #[.int .i64 1, .int .u64 n, .string ⟨#[]⟩] 24)) (w.heap.size + 1) 24 #[.int .i64 1, .int .u64 n, .string ⟨#[]⟩]) := by rw [Hid, ← sz]; exact Bx.new _ _ _
  clear a sz
  go_enter Tryz.func273, Tryz.ntmps273
  go_wp2_with fail
  (try simp only [Exit.inBlock, Exit.then])
  refine bodyPost_ret (results_cell_row rfl _ _ (w.heap.size + 1) 24 _ (0, 0) _ rfl X.out Tryz.underlying24 rfl (by kernel_rfl)) rfl ?_
  exact ⟨rfl, B.out⟩

namespace Re
/-- Two boxes of values, the second of zeros. -/
structure RP (w : World) (k n : Int) (s : ByteArray) (W : World) : Prop where
  bel : Below w.heap.size w W
  vb : Bx W w.heap.size 24 #[.int .i64 k, .int .u64 n, .string s]
  rb : Bx W (w.heap.size + 1) 24 #[.int .i64 0, .int .u64 0, .string ⟨#[]⟩]
theorem RP.new (w : World) (k n : Int) (s : ByteArray) : RP w k n s ((w.alloc (.cells #[.int .i64 k, .int .u64 n, .string s] 24)).alloc (.cells #[.int .i64 0, .int .u64 0, .string ⟨#[]⟩] 24)) := by
  have b := B2.new w k n s 0 0 ⟨#[]⟩
  exact ⟨b.bel, b.vb, b.vc⟩
theorem RP.on {w W W' : World} {k n : Int} {s : ByteArray} (h : RP w k n s W) (b : Below W.heap.size W W') : RP w k n s W' := ⟨below_on h.bel b, h.vb.on b, h.rb.on b⟩
end Re

set_option maxRecDepth 100000 in
set_option maxHeartbeats 1000000 in
theorem vplainN_any (n : Int) (s : ByteArray) (w : World) : Calls Tryz.prog 13 #[.agg #[.int .i64 1, .int .u64 n, .string s]] w fun e w' => e = .returned (.agg #[.int .i64 1, .int .u64 n, .string ⟨#[]⟩]) ∧ Below w.heap.size w w' := by
  have IN1 : Hid (∀ W, Calls Tryz.prog 26 #[.agg #[.int .i64 1, .int .u64 n, .string s]] W fun e w' => e = .returned (.iface 88 (.agg #[.int .u64 n])) ∧ Below W.heap.size W w') := fun W => vinside_any 1 n s W
  have PN := hid (fun W => nplain_any n W)
  have B0 := hid (Re.RP.new w 1 n s)
  go_enter Tryz.func13, Tryz.ntmps13
  go_wp2_with fail
  generalize (w.alloc (.cells #[.int .i64 1, .int .u64 n, .string s] 24)).alloc (.cells #[.int .i64 0, .int .u64 0, .string ⟨#[]⟩] 24) = wA at *
  refine (IN1.out _).mono ?_
  rintro e w1 ⟨rfl, b1⟩
  have B1 := hid (B0.out.on b1)
  clear b1 B0 IN1
  go_wp2_with fail
  refine (PN.out _).mono ?_
  rintro e w2 ⟨rfl, b2⟩
  have B2 := hid (B1.out.on b2)
  clear b2 B1 PN
  have c0 := B2.out.rb.cell 0 _ rfl
  have c1 := B2.out.rb.cell 1 _ rfl
  have c2 := B2.out.rb.cell 2 _ rfl
  have f0 := B2.out.rb.free 0
  have f1 := B2.out.rb.free 1
  have f2 := B2.out.rb.free 2
  go_wp2_with fail
  (try simp only [Exit.inBlock, Exit.then])
  refine bodyPost_ret (results_cell_row rfl _ _ (w.heap.size + 1) 24 _ (0, 0) _ rfl (B2.out.rb.put3 _ _ _) Tryz.underlying24 rfl (by kernel_rfl)) rfl ?_
  exact ⟨rfl, bset3_below B2.out.bel (Nat.le_succ _)⟩

set_option maxRecDepth 100000 in
set_option maxHeartbeats 4000000 in
theorem qpush_any (base q h : Nat) (mv : Value) (E : List Re.En) (c k n : Int) (s : ByteArray) (K M : Int) (S : ByteArray) (w : World) (st : Re.QS base q h mv E c w) (hE : E.length < 1000000000000) (c0 : 0 ≤ c) (c1 : c < 1000000000000000) (M0 : 0 ≤ M) (M1 : M < 18446744073709551616) (hb : base ≤ w.heap.size)
    (PL : ∀ W, Calls Tryz.prog 13 #[.agg #[.int .i64 k, .int .u64 n, .string s]] W fun e w' => e = .returned (.agg #[.int .i64 K, .int .u64 M, .string S]) ∧ Below W.heap.size W w') :
    Calls Tryz.prog 12 #[.pointer (some ⟨q, 0, none⟩), .agg #[.int .i64 k, .int .u64 n, .string s]] w fun e w' => e = .returned (.int .i64 c) ∧ (∃ mv', Re.QS base q h mv' (Re.upF (E ++ [⟨⟨Re.rt K M S, c⟩, K, M, S⟩]) E.length) (c + 1) w') ∧ Re.Kp (fun b => b = q ∨ b = h ∨ mv.ownBlock = some b) w w' := by
  have PL := hid PL
  have B0 := alloc_b w (.cells #[.int .i64 k, .int .u64 n, .string s] 24)
  have MA : Hid (∀ W, Below w.heap.size w W → Calls Tryz.prog 29 #[.pointer (some ⟨q, 0, none⟩)] W fun e w' => e = .returned (.bool true) ∧ w' = W) := fun W hW => made_any q h c W (st.qb.on hW)
  have RK := hid (fun W => rankof_any K M S W M0 M1)
  obtain ⟨t, p, u, er⟩ := Re.er_ex (Re.rt K M S)
  rw [er] at RK
  have V0 := hid (Bx.new w 24 #[.int .i64 k, .int .u64 n, .string s])
  have ex : Re.ee ⟨⟨Re.rt K M S, c⟩, K, M, S⟩ = [.bool t, .int .i64 p, .string u, .int .i64 c, .int .i64 K, .int .u64 M, .string S] := by rw [Re.ee, Re.et, er]; rfl
  have ST := hid st
  have HP : Hid (∀ W, Re.QS base q h mv E (c + 1) W → base ≤ W.heap.size → Calls Tryz.prog 30 #[.pointer (some ⟨h, 0, none⟩), .agg #[.bool t, .int .i64 p, .string u, .int .i64 c, .int .i64 K, .int .u64 M, .string S]] W fun e w' => e = .returned (.tuple #[]) ∧ (∃ mv', Re.QS base q h mv' (Re.upF (E ++ [⟨⟨Re.rt K M S, c⟩, K, M, S⟩]) E.length) (c + 1) w') ∧ Re.Kp (fun b => b = h ∨ mv.ownBlock = some b) W w') := fun W sW hW => by
    have := hpush_any base h mv E ⟨⟨Re.rt K M S, c⟩, K, M, S⟩ W sW.hb sW.row hE hW
    rw [ex] at this
    refine this.mono ?_
    rintro e w' ⟨rfl, mv', b', r', k'⟩
    refine ⟨rfl, ⟨mv', ?_, b', r', sW.bq, sW.bh⟩, k'⟩
    exact sW.qb.kp k' (fun z => by
      rcases z with z | z
      · have e := sW.qb
        rw [z] at e
        have e2 := sW.hb
        unfold Bx at e e2
        rw [e] at e2
        simp at e2
      · exact sW.row.apart sW.qb (by decide) z)
  have cb : c ≤ 999999999999999 := by omega
  have wc : IntKind.i64.wrap (c + 1) = c + 1 := by rw [IntKind.wrap_i64]; omega
  have HB := hid hb
  generalize Re.upF (E ++ [⟨⟨Re.rt K M S, c⟩, K, M, S⟩]) E.length = U at *
  clear st hE c1 M0 M1 hb er ex
  go_enter Tryz.func12, Tryz.ntmps12
  go_wp2_with fail
  generalize w.alloc (.cells #[.int .i64 k, .int .u64 n, .string s] 24) = wa at *
  refine (MA.out _ B0).mono ?_
  rintro e w1 ⟨rfl, rfl⟩
  clear MA
  have v0 := V0.out.cell 0 _ rfl
  have v1 := V0.out.cell 1 _ rfl
  have v2 := V0.out.cell 2 _ rfl
  go_wp2_with fail
  refine (PL.out _).mono ?_
  rintro e w2 ⟨rfl, b2⟩
  have Q2 := ST.out.on (below_on B0 b2)
  have Q3 := Q2.on (alloc_b w2 (.cells #[.int .i64 K, .int .u64 M, .string S] 24))
  have q0 := Q3.qb.cell 0 _ rfl
  have q1 := Q3.qb.cell 1 _ rfl
  have qf := Q3.qb.free 1
  have q0' := Q2.qb.cell 0 _ rfl
  have q1' := Q2.qb.cell 1 _ rfl
  have ql := Q2.qb.lt
  clear v0 v1 v2 V0
  have hq : h ≠ q := fun e => by
    have e1 := Q2.qb
    have e2 := Q2.hb
    rw [e] at e2
    unfold Bx at e1 e2
    rw [e1] at e2
    simp at e2
  have sz : (w2.setCell ⟨q, 1, none⟩ (.int .i64 (c + 1))).heap.size = w2.heap.size := by simp [World.setCell]
  have o2 : Bx ((w2.setCell ⟨q, 1, none⟩ (.int .i64 (c + 1))).alloc (.cells #[.int .i64 K, .int .u64 M, .string S] 24)) w2.heap.size 24 #[.int .i64 K, .int .u64 M, .string S] := by
    have := Bx.new (w2.setCell ⟨q, 1, none⟩ (.int .i64 (c + 1))) 24 #[.int .i64 K, .int .u64 M, .string S]
    rwa [sz] at this
  have Q4 : Re.QS base q h mv E (c + 1) (w2.setCell ⟨q, 1, none⟩ (.int .i64 (c + 1))) := ⟨Q2.qb.set 1 _, Q2.hb.far (fun e => hq e.symm), Q2.row.same (fun g e => Below.heap_setCell _ _ _ _ (fun z => Q2.row.apart Q2.qb (by decide) (e.trans (congrArg some z)))), Q2.bq, Q2.bh⟩
  have T0 : Hid (Re.QS base q h mv E (c + 1) ((w2.setCell ⟨q, 1, none⟩ (.int .i64 (c + 1))).alloc (.cells #[.int .i64 K, .int .u64 M, .string S] 24)) ∧ Bx ((w2.setCell ⟨q, 1, none⟩ (.int .i64 (c + 1))).alloc (.cells #[.int .i64 K, .int .u64 M, .string S] 24)) w2.heap.size 24 #[.int .i64 K, .int .u64 M, .string S] ∧ Re.Kp (fun b => b = q ∨ b = h ∨ mv.ownBlock = some b) w ((w2.setCell ⟨q, 1, none⟩ (.int .i64 (c + 1))).alloc (.cells #[.int .i64 K, .int .u64 M, .string S] 24))) :=
    ⟨Q4.on (alloc_b _ _), o2, ((Re.Kp.of (below_on B0 b2)).set (.inl rfl) _ _).trans (Re.Kp.of (alloc_b _ _))⟩
  have ZS : Hid (base ≤ ((w2.setCell ⟨q, 1, none⟩ (.int .i64 (c + 1))).alloc (.cells #[.int .i64 K, .int .u64 M, .string S] 24)).heap.size) := by
    have h1 := B0.size
    have h2 := b2.size
    have h3 := (alloc_b (w2.setCell ⟨q, 1, none⟩ (.int .i64 (c + 1))) (.cells #[.int .i64 K, .int .u64 M, .string S] 24)).size
    have := HB.out
    rw [Hid]; omega
  clear b2 B0 Q2 Q3 Q4 PL ST o2 hq HB sz
  go_upto_region 6 with fail
  clear q0 q1 qf q0' q1' ql
  generalize ((w2.setCell ⟨q, 1, none⟩ (.int .i64 (c + 1))).alloc (.cells #[.int .i64 K, .int .u64 M, .string S] 24)) = w3 at *
  have T1 : Hid ((Re.QS base q h mv E (c + 1) w3.drew ∧ Bx w3.drew w2.heap.size 24 #[.int .i64 K, .int .u64 M, .string S] ∧ Re.Kp (fun b => b = q ∨ b = h ∨ mv.ownBlock = some b) w w3.drew) ∧ base ≤ w3.drew.heap.size) := ⟨⟨T0.out.1.on (Below.drew (Below.refl _ _)), T0.out.2.1.on (Below.drew (Below.refl _ _)), T0.out.2.2.trans (Re.Kp.of (Below.drew (Below.refl _ _)))⟩, ZS.out⟩
  have SS : Hid (∀ W, (Re.QS base q h mv E (c + 1) W ∧ Bx W w2.heap.size 24 #[.int .i64 K, .int .u64 M, .string S] ∧ Re.Kp (fun b => b = q ∨ b = h ∨ mv.ownBlock = some b) w W) ∧ base ≤ W.heap.size → W.cell? ⟨q, 0, none⟩ = some (.pointer (some ⟨h, 0, none⟩)) ∧ W.cell? ⟨w2.heap.size, 0, none⟩ = some (.int .i64 K) ∧ W.cell? ⟨w2.heap.size, 1, none⟩ = some (.int .u64 M) ∧ W.cell? ⟨w2.heap.size, 2, none⟩ = some (.string S)) := fun W z => ⟨z.1.1.qb.cell 0 _ rfl, z.1.2.1.cell 0 _ rfl, z.1.2.1.cell 1 _ rfl, z.1.2.1.cell 2 _ rfl⟩
  have MK : Hid (∀ W W', ((Re.QS base q h mv E (c + 1) W ∧ Bx W w2.heap.size 24 #[.int .i64 K, .int .u64 M, .string S] ∧ Re.Kp (fun b => b = q ∨ b = h ∨ mv.ownBlock = some b) w W) ∧ base ≤ W.heap.size) → Below W.heap.size W W' → (Re.QS base q h mv E (c + 1) W' ∧ Bx W' w2.heap.size 24 #[.int .i64 K, .int .u64 M, .string S] ∧ Re.Kp (fun b => b = q ∨ b = h ∨ mv.ownBlock = some b) w W') ∧ base ≤ W'.heap.size) := fun W W' z b => ⟨⟨z.1.1.on b, z.1.2.1.on b, z.1.2.2.trans (Re.Kp.of b)⟩, Nat.le_trans z.2 b.size⟩
  have HPC : Hid (∀ W, ((Re.QS base q h mv E (c + 1) W ∧ Bx W w2.heap.size 24 #[.int .i64 K, .int .u64 M, .string S] ∧ Re.Kp (fun b => b = q ∨ b = h ∨ mv.ownBlock = some b) w W) ∧ base ≤ W.heap.size) → Calls Tryz.prog 30 #[.pointer (some ⟨h, 0, none⟩), .agg #[.bool t, .int .i64 p, .string u, .int .i64 c, .int .i64 K, .int .u64 M, .string S]] W fun e w' => e = .returned (.tuple #[]) ∧ ((∃ mv', Re.QS base q h mv' U (c + 1) w') ∧ Re.Kp (fun b => b = q ∨ b = h ∨ mv.ownBlock = some b) w w') ∧ (w'.cell? ⟨q, 0, none⟩ = some (.pointer (some ⟨h, 0, none⟩)) ∧ w'.cell? ⟨w2.heap.size, 0, none⟩ = some (.int .i64 K) ∧ w'.cell? ⟨w2.heap.size, 1, none⟩ = some (.int .u64 M) ∧ w'.cell? ⟨w2.heap.size, 2, none⟩ = some (.string S))) := fun W z => by
    refine (HP.out W z.1.1 z.2).mono ?_
    rintro e w' ⟨rfl, ⟨mv', s'⟩, k'⟩
    have hne : ¬ (w2.heap.size = h ∨ mv.ownBlock = some w2.heap.size) := by
      rintro (e | e)
      · have e1 := z.1.1.hb
        have e2 := z.1.2.1
        rw [e] at e2
        unfold Bx at e1 e2
        rw [e1] at e2
        simp at e2
      · exact z.1.1.row.apart z.1.2.1 (by decide) e
    have ob := z.1.2.1.kp k' hne
    exact ⟨rfl, ⟨⟨mv', s'⟩, z.1.2.2.trans (k'.mono (fun b e => .inr e))⟩, s'.qb.cell 0 _ rfl, ob.cell 0 _ rfl, ob.cell 1 _ rfl, ob.cell 2 _ rfl⟩
  clear T0 ZS HP
  go_region_held3 (fun wx => wx.cell? ⟨q, 0, none⟩ = some (.pointer (some ⟨h, 0, none⟩)) ∧ wx.cell? ⟨w2.heap.size, 0, none⟩ = some (.int .i64 K) ∧ wx.cell? ⟨w2.heap.size, 1, none⟩ = some (.int .u64 M) ∧ wx.cell? ⟨w2.heap.size, 2, none⟩ = some (.string S)) (first | (with_reducible exact T3.out) | (with_reducible exact SS.out _ T2.out) | (with_reducible exact SS.out _ T1.out)) (first
    | (go_at_call 31; with_reducible refine (RK.out _).mono ?_; rintro e w5 ⟨rfl, hB⟩; have T2 := hid (MK.out _ _ T1.out hB); clear hB)
    | (go_at_call 30; with_reducible refine (HPC.out _ T2.out).mono ?_; rintro e w6 ⟨rfl, hF, hS⟩; have T3 := hid hS; have FF := hid hF; clear hF hS))
  clear T1 T2 T3 SS MK HPC RK
  go_wp2_with fail
  go_ret
  exact ⟨rfl, FF.out⟩
end Go.Proofs.YtigmhnlcmhpepaaGreatDoor
