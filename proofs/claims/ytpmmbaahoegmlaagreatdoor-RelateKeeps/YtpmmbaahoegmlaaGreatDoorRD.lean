/-
  Texts put together: ReK, ReL, ReM, ReR.
-/
import Derived.Test.YtpmmbaahoegmlaaGreatDoorReJ
import Derived.Test.YtpmmbaahoegmlaaGreatDoorRC
namespace Go.Proofs.YtpmmbaahoegmlaaGreatDoor
open Go Go.RowKit Go.Deep Go.Shelf

set_option maxRecDepth 100000 in
theorem rnum_any (n : Int) (w : World) : Calls Tryz.prog 10 #[.int .u64 n] w fun e w' => e = .returned (.agg #[.int .i64 1, .int .u64 n, .string ⟨#[]⟩]) ∧ Below w.heap.size w w' := by
  have B := hid (alloc_b w (.cells #[.int .i64 1, .int .u64 n, .string ⟨#[]⟩] 26))
  have X := hid (Bx.new w 26 #[.int .i64 1, .int .u64 n, .string ⟨#[]⟩])
  go_enter Tryz.func10, Tryz.ntmps10
  go_wp2_with fail
  (try simp only [Exit.inBlock, Exit.then])
  refine bodyPost_ret (results_cell_row rfl _ _ w.heap.size 26 _ (0, 0) _ rfl X.out Tryz.underlying26 rfl (by kernel_rfl)) rfl ?_
  exact ⟨rfl, B.out⟩

set_option maxRecDepth 100000 in
theorem rstr_any (s : ByteArray) (w : World) : Calls Tryz.prog 5 #[.string s] w fun e w' => e = .returned (.agg #[.int .i64 2, .int .u64 0, .string s]) ∧ Below w.heap.size w w' := by
  have B := hid (alloc_b w (.cells #[.int .i64 2, .int .u64 0, .string s] 26))
  have X := hid (Bx.new w 26 #[.int .i64 2, .int .u64 0, .string s])
  go_enter Tryz.func5, Tryz.ntmps5
  go_wp2_with fail
  (try simp only [Exit.inBlock, Exit.then])
  refine bodyPost_ret (results_cell_row rfl _ _ w.heap.size 26 _ (0, 0) _ rfl X.out Tryz.underlying26 rfl (by kernel_rfl)) rfl ?_
  exact ⟨rfl, B.out⟩

set_option maxRecDepth 100000 in
theorem nplain_any (n : Int) (w : World) : Calls Tryz.prog 275 #[.agg #[.int .u64 n]] w fun e w' => e = .returned (.agg #[.int .i64 1, .int .u64 n, .string ⟨#[]⟩]) ∧ Below w.heap.size w w' := by
  have a := alloc_b w (.cells #[.int .u64 n] 81)
  have B := hid (below_on a (alloc_b (w.alloc (.cells #[.int .u64 n] 81)) (.cells #[.int .i64 1, .int .u64 n, .string ⟨#[]⟩] 26)))
  have sz : (w.alloc (.cells #[.int .u64 n] 81)).heap.size = w.heap.size + 1 := Array.size_push ..
  have X : Hid (Bx ((w.alloc (.cells #[.int .u64 n] 81)).alloc (.cells #[.int .i64 1, .int .u64 n, .string ⟨#[]⟩] 26)) (w.heap.size + 1) 26 #[.int .i64 1, .int .u64 n, .string ⟨#[]⟩]) := by rw [Hid, ← sz]; exact Bx.new _ _ _
  clear a sz
  go_enter Tryz.func275, Tryz.ntmps275
  go_wp2_with fail
  (try simp only [Exit.inBlock, Exit.then])
  refine bodyPost_ret (results_cell_row rfl _ _ (w.heap.size + 1) 26 _ (0, 0) _ rfl X.out Tryz.underlying26 rfl (by kernel_rfl)) rfl ?_
  exact ⟨rfl, B.out⟩

namespace Re
/-- Two boxes of values, the second of zeros. -/
structure RP (w : World) (k n : Int) (s : ByteArray) (W : World) : Prop where
  bel : Below w.heap.size w W
  vb : Bx W w.heap.size 26 #[.int .i64 k, .int .u64 n, .string s]
  rb : Bx W (w.heap.size + 1) 26 #[.int .i64 0, .int .u64 0, .string ⟨#[]⟩]
theorem RP.new (w : World) (k n : Int) (s : ByteArray) : RP w k n s ((w.alloc (.cells #[.int .i64 k, .int .u64 n, .string s] 26)).alloc (.cells #[.int .i64 0, .int .u64 0, .string ⟨#[]⟩] 26)) := by
  have b := B2.new w k n s 0 0 ⟨#[]⟩
  exact ⟨b.bel, b.vb, b.vc⟩
theorem RP.on {w W W' : World} {k n : Int} {s : ByteArray} (h : RP w k n s W) (b : Below W.heap.size W W') : RP w k n s W' := ⟨below_on h.bel b, h.vb.on b, h.rb.on b⟩
end Re

set_option maxRecDepth 100000 in
set_option maxHeartbeats 1000000 in
theorem vplainN_any (n : Int) (s : ByteArray) (w : World) : Calls Tryz.prog 42 #[.agg #[.int .i64 1, .int .u64 n, .string s]] w fun e w' => e = .returned (.agg #[.int .i64 1, .int .u64 n, .string ⟨#[]⟩]) ∧ Below w.heap.size w w' := by
  have IN1 : Hid (∀ W, Calls Tryz.prog 35 #[.agg #[.int .i64 1, .int .u64 n, .string s]] W fun e w' => e = .returned (.iface 81 (.agg #[.int .u64 n])) ∧ Below W.heap.size W w') := fun W => vinside_any 1 n s W
  have PN := hid (fun W => nplain_any n W)
  have B0 := hid (Re.RP.new w 1 n s)
  go_enter Tryz.func42, Tryz.ntmps42
  go_wp2_with fail
  generalize (w.alloc (.cells #[.int .i64 1, .int .u64 n, .string s] 26)).alloc (.cells #[.int .i64 0, .int .u64 0, .string ⟨#[]⟩] 26) = wA at *
  refine (IN1.out _).mono ?_
  rintro e w1 ⟨rfl, b1⟩
  have B1 := hid (B0.out.on b1)
  clear b1 B0 IN1
  go_wp2_with fail
  refine (PN.out _).mono ?_
  rintro e w2 ⟨rfl, b2⟩
  have B2 := hid (B1.out.on b2)
  clear b2 B1 PN
  have c0 := B2.out.rb.cell 0 _ rfl
  have c1 := B2.out.rb.cell 1 _ rfl
  have c2 := B2.out.rb.cell 2 _ rfl
  have f0 := B2.out.rb.free 0
  have f1 := B2.out.rb.free 1
  have f2 := B2.out.rb.free 2
  go_wp2_with fail
  (try simp only [Exit.inBlock, Exit.then])
  refine bodyPost_ret (results_cell_row rfl _ _ (w.heap.size + 1) 26 _ (0, 0) _ rfl (B2.out.rb.put3 _ _ _) Tryz.underlying26 rfl (by kernel_rfl)) rfl ?_
  exact ⟨rfl, bset3_below B2.out.bel (Nat.le_succ _)⟩

set_option maxRecDepth 100000 in
set_option maxHeartbeats 4000000 in
theorem qpush_any (base q h : Nat) (mv : Value) (E : List Re.En) (c k n : Int) (s : ByteArray) (K M : Int) (S : ByteArray) (w : World) (st : Re.QS base q h mv E c w) (hE : E.length < 1000000000000) (c0 : 0 ≤ c) (c1 : c < 1000000000000000) (M0 : 0 ≤ M) (M1 : M < 18446744073709551616) (hb : base ≤ w.heap.size)
    (PL : ∀ W, Calls Tryz.prog 42 #[.agg #[.int .i64 k, .int .u64 n, .string s]] W fun e w' => e = .returned (.agg #[.int .i64 K, .int .u64 M, .string S]) ∧ Below W.heap.size W w') :
    Calls Tryz.prog 27 #[.pointer (some ⟨q, 0, none⟩), .agg #[.int .i64 k, .int .u64 n, .string s]] w fun e w' => e = .returned (.int .i64 c) ∧ (∃ mv', Re.QS base q h mv' (Re.upF (E ++ [⟨⟨Re.rt K M S, c⟩, K, M, S⟩]) E.length) (c + 1) w') ∧ Re.Kp (fun b => b = q ∨ b = h ∨ mv.ownBlock = some b) w w' := by
  have PL := hid PL
  have B0 := alloc_b w (.cells #[.int .i64 k, .int .u64 n, .string s] 26)
  have MA : Hid (∀ W, Below w.heap.size w W → Calls Tryz.prog 41 #[.pointer (some ⟨q, 0, none⟩)] W fun e w' => e = .returned (.bool true) ∧ w' = W) := fun W hW => made_any q h c W (st.qb.on hW)
  have RK := hid (fun W => rankof_any K M S W M0 M1)
  obtain ⟨t, p, u, er⟩ := Re.er_ex (Re.rt K M S)
  rw [er] at RK
  have V0 := hid (Bx.new w 26 #[.int .i64 k, .int .u64 n, .string s])
  have ex : Re.ee ⟨⟨Re.rt K M S, c⟩, K, M, S⟩ = [.bool t, .int .i64 p, .string u, .int .i64 c, .int .i64 K, .int .u64 M, .string S] := by rw [Re.ee, Re.et, er]; rfl
  have ST := hid st
  have HP : Hid (∀ W, Re.QS base q h mv E (c + 1) W → base ≤ W.heap.size → Calls Tryz.prog 43 #[.pointer (some ⟨h, 0, none⟩), .agg #[.bool t, .int .i64 p, .string u, .int .i64 c, .int .i64 K, .int .u64 M, .string S]] W fun e w' => e = .returned (.tuple #[]) ∧ (∃ mv', Re.QS base q h mv' (Re.upF (E ++ [⟨⟨Re.rt K M S, c⟩, K, M, S⟩]) E.length) (c + 1) w') ∧ Re.Kp (fun b => b = h ∨ mv.ownBlock = some b) W w') := fun W sW hW => by
    have := hpush_any base h mv E ⟨⟨Re.rt K M S, c⟩, K, M, S⟩ W sW.hb sW.row hE hW
    rw [ex] at this
    refine this.mono ?_
    rintro e w' ⟨rfl, mv', b', r', k'⟩
    refine ⟨rfl, ⟨mv', ?_, b', r', sW.bq, sW.bh⟩, k'⟩
    exact sW.qb.kp k' (fun z => by
      rcases z with z | z
      · have e := sW.qb
        rw [z] at e
        have e2 := sW.hb
        unfold Bx at e e2
        rw [e] at e2
        simp at e2
      · exact sW.row.apart sW.qb (by decide) z)
  have cb : c ≤ 999999999999999 := by omega
  have wc : IntKind.i64.wrap (c + 1) = c + 1 := by rw [IntKind.wrap_i64]; omega
  have HB := hid hb
  generalize Re.upF (E ++ [⟨⟨Re.rt K M S, c⟩, K, M, S⟩]) E.length = U at *
  clear st hE c1 M0 M1 hb er ex
  go_enter Tryz.func27, Tryz.ntmps27
  go_wp2_with fail
  generalize w.alloc (.cells #[.int .i64 k, .int .u64 n, .string s] 26) = wa at *
  refine (MA.out _ B0).mono ?_
  rintro e w1 ⟨rfl, rfl⟩
  clear MA
  have v0 := V0.out.cell 0 _ rfl
  have v1 := V0.out.cell 1 _ rfl
  have v2 := V0.out.cell 2 _ rfl
  go_wp2_with fail
  refine (PL.out _).mono ?_
  rintro e w2 ⟨rfl, b2⟩
  have Q2 := ST.out.on (below_on B0 b2)
  have Q3 := Q2.on (alloc_b w2 (.cells #[.int .i64 K, .int .u64 M, .string S] 26))
  have q0 := Q3.qb.cell 0 _ rfl
  have q1 := Q3.qb.cell 1 _ rfl
  have qf := Q3.qb.free 1
  have q0' := Q2.qb.cell 0 _ rfl
  have q1' := Q2.qb.cell 1 _ rfl
  have ql := Q2.qb.lt
  clear v0 v1 v2 V0
  have hq : h ≠ q := fun e => by
    have e1 := Q2.qb
    have e2 := Q2.hb
    rw [e] at e2
    unfold Bx at e1 e2
    rw [e1] at e2
    simp at e2
  have sz : (w2.setCell ⟨q, 1, none⟩ (.int .i64 (c + 1))).heap.size = w2.heap.size := by simp [World.setCell]
  have o2 : Bx ((w2.setCell ⟨q, 1, none⟩ (.int .i64 (c + 1))).alloc (.cells #[.int .i64 K, .int .u64 M, .string S] 26)) w2.heap.size 26 #[.int .i64 K, .int .u64 M, .string S] := by
    have := Bx.new (w2.setCell ⟨q, 1, none⟩ (.int .i64 (c + 1))) 26 #[.int .i64 K, .int .u64 M, .string S]
    rwa [sz] at this
  have Q4 : Re.QS base q h mv E (c + 1) (w2.setCell ⟨q, 1, none⟩ (.int .i64 (c + 1))) := ⟨Q2.qb.set 1 _, Q2.hb.far (fun e => hq e.symm), Q2.row.same (fun g e => Below.heap_setCell _ _ _ _ (fun z => Q2.row.apart Q2.qb (by decide) (e.trans (congrArg some z)))), Q2.bq, Q2.bh⟩
  have T0 : Hid (Re.QS base q h mv E (c + 1) ((w2.setCell ⟨q, 1, none⟩ (.int .i64 (c + 1))).alloc (.cells #[.int .i64 K, .int .u64 M, .string S] 26)) ∧ Bx ((w2.setCell ⟨q, 1, none⟩ (.int .i64 (c + 1))).alloc (.cells #[.int .i64 K, .int .u64 M, .string S] 26)) w2.heap.size 26 #[.int .i64 K, .int .u64 M, .string S] ∧ Re.Kp (fun b => b = q ∨ b = h ∨ mv.ownBlock = some b) w ((w2.setCell ⟨q, 1, none⟩ (.int .i64 (c + 1))).alloc (.cells #[.int .i64 K, .int .u64 M, .string S] 26))) :=
    ⟨Q4.on (alloc_b _ _), o2, ((Re.Kp.of (below_on B0 b2)).set (.inl rfl) _ _).trans (Re.Kp.of (alloc_b _ _))⟩
  have ZS : Hid (base ≤ ((w2.setCell ⟨q, 1, none⟩ (.int .i64 (c + 1))).alloc (.cells #[.int .i64 K, .int .u64 M, .string S] 26)).heap.size) := by
    have h1 := B0.size
    have h2 := b2.size
    have h3 := (alloc_b (w2.setCell ⟨q, 1, none⟩ (.int .i64 (c + 1))) (.cells #[.int .i64 K, .int .u64 M, .string S] 26)).size
    have := HB.out
    rw [Hid]; omega
  clear b2 B0 Q2 Q3 Q4 PL ST o2 hq HB sz
  go_upto_region 6 with fail
  clear q0 q1 qf q0' q1' ql
  generalize ((w2.setCell ⟨q, 1, none⟩ (.int .i64 (c + 1))).alloc (.cells #[.int .i64 K, .int .u64 M, .string S] 26)) = w3 at *
  have T1 : Hid ((Re.QS base q h mv E (c + 1) w3.drew ∧ Bx w3.drew w2.heap.size 26 #[.int .i64 K, .int .u64 M, .string S] ∧ Re.Kp (fun b => b = q ∨ b = h ∨ mv.ownBlock = some b) w w3.drew) ∧ base ≤ w3.drew.heap.size) := ⟨⟨T0.out.1.on (Below.drew (Below.refl _ _)), T0.out.2.1.on (Below.drew (Below.refl _ _)), T0.out.2.2.trans (Re.Kp.of (Below.drew (Below.refl _ _)))⟩, ZS.out⟩
  have SS : Hid (∀ W, (Re.QS base q h mv E (c + 1) W ∧ Bx W w2.heap.size 26 #[.int .i64 K, .int .u64 M, .string S] ∧ Re.Kp (fun b => b = q ∨ b = h ∨ mv.ownBlock = some b) w W) ∧ base ≤ W.heap.size → W.cell? ⟨q, 0, none⟩ = some (.pointer (some ⟨h, 0, none⟩)) ∧ W.cell? ⟨w2.heap.size, 0, none⟩ = some (.int .i64 K) ∧ W.cell? ⟨w2.heap.size, 1, none⟩ = some (.int .u64 M) ∧ W.cell? ⟨w2.heap.size, 2, none⟩ = some (.string S)) := fun W z => ⟨z.1.1.qb.cell 0 _ rfl, z.1.2.1.cell 0 _ rfl, z.1.2.1.cell 1 _ rfl, z.1.2.1.cell 2 _ rfl⟩
  have MK : Hid (∀ W W', ((Re.QS base q h mv E (c + 1) W ∧ Bx W w2.heap.size 26 #[.int .i64 K, .int .u64 M, .string S] ∧ Re.Kp (fun b => b = q ∨ b = h ∨ mv.ownBlock = some b) w W) ∧ base ≤ W.heap.size) → Below W.heap.size W W' → (Re.QS base q h mv E (c + 1) W' ∧ Bx W' w2.heap.size 26 #[.int .i64 K, .int .u64 M, .string S] ∧ Re.Kp (fun b => b = q ∨ b = h ∨ mv.ownBlock = some b) w W') ∧ base ≤ W'.heap.size) := fun W W' z b => ⟨⟨z.1.1.on b, z.1.2.1.on b, z.1.2.2.trans (Re.Kp.of b)⟩, Nat.le_trans z.2 b.size⟩
  have HPC : Hid (∀ W, ((Re.QS base q h mv E (c + 1) W ∧ Bx W w2.heap.size 26 #[.int .i64 K, .int .u64 M, .string S] ∧ Re.Kp (fun b => b = q ∨ b = h ∨ mv.ownBlock = some b) w W) ∧ base ≤ W.heap.size) → Calls Tryz.prog 43 #[.pointer (some ⟨h, 0, none⟩), .agg #[.bool t, .int .i64 p, .string u, .int .i64 c, .int .i64 K, .int .u64 M, .string S]] W fun e w' => e = .returned (.tuple #[]) ∧ ((∃ mv', Re.QS base q h mv' U (c + 1) w') ∧ Re.Kp (fun b => b = q ∨ b = h ∨ mv.ownBlock = some b) w w') ∧ (w'.cell? ⟨q, 0, none⟩ = some (.pointer (some ⟨h, 0, none⟩)) ∧ w'.cell? ⟨w2.heap.size, 0, none⟩ = some (.int .i64 K) ∧ w'.cell? ⟨w2.heap.size, 1, none⟩ = some (.int .u64 M) ∧ w'.cell? ⟨w2.heap.size, 2, none⟩ = some (.string S))) := fun W z => by
    refine (HP.out W z.1.1 z.2).mono ?_
    rintro e w' ⟨rfl, ⟨mv', s'⟩, k'⟩
    have hne : ¬ (w2.heap.size = h ∨ mv.ownBlock = some w2.heap.size) := by
      rintro (e | e)
      · have e1 := z.1.1.hb
        have e2 := z.1.2.1
        rw [e] at e2
        unfold Bx at e1 e2
        rw [e1] at e2
        simp at e2
      · exact z.1.1.row.apart z.1.2.1 (by decide) e
    have ob := z.1.2.1.kp k' hne
    exact ⟨rfl, ⟨⟨mv', s'⟩, z.1.2.2.trans (k'.mono (fun b e => .inr e))⟩, s'.qb.cell 0 _ rfl, ob.cell 0 _ rfl, ob.cell 1 _ rfl, ob.cell 2 _ rfl⟩
  clear T0 ZS HP
  go_region_held3 (fun wx => wx.cell? ⟨q, 0, none⟩ = some (.pointer (some ⟨h, 0, none⟩)) ∧ wx.cell? ⟨w2.heap.size, 0, none⟩ = some (.int .i64 K) ∧ wx.cell? ⟨w2.heap.size, 1, none⟩ = some (.int .u64 M) ∧ wx.cell? ⟨w2.heap.size, 2, none⟩ = some (.string S)) (first | (with_reducible exact T3.out) | (with_reducible exact SS.out _ T2.out) | (with_reducible exact SS.out _ T1.out)) (first
    | (go_at_call 15; with_reducible refine (RK.out _).mono ?_; rintro e w5 ⟨rfl, hB⟩; have T2 := hid (MK.out _ _ T1.out hB); clear hB)
    | (go_at_call 43; with_reducible refine (HPC.out _ T2.out).mono ?_; rintro e w6 ⟨rfl, hF, hS⟩; have T3 := hid hS; have FF := hid hF; clear hF hS))
  clear T1 T2 T3 SS MK HPC RK
  go_wp2_with fail
  go_ret
  exact ⟨rfl, FF.out⟩
end Go.Proofs.YtpmmbaahoegmlaaGreatDoor

namespace Go.Proofs.YtpmmbaahoegmlaaGreatDoor
open Go Go.RowKit Go.Deep Go.Shelf

theorem results_c3 {P : Program} {fn : Func} {p u v : Tmp} {ty : TypeId} (h : fn.results = #[.cell p ty, .tmp u, .tmp v]) (tmps : Array Value) (w : World) (g : Nat) (t : TypeId) (cs : Array Value) (fr : Nat × Nat) (d : TypeDesc)
    (hp : tmps.getD p undef = .pointer (some ⟨g, 0, none⟩)) (hg : w.heap[g]? = some (.cells cs t fr))
    (hu : P.underlying ty = some d) (hd : (match d with | .struct _ | .array _ _ => true | _ => false) = true) (hi : (P.info? ty).map (·.size) = some cs.size) :
    (results fn tmps).run P w = .ok (.tuple #[.agg cs, tmps.getD u undef, tmps.getD v undef]) w := by
  have e := hp
  rw [Array.getD_eq_getD_getElem?] at e
  simp only [results, h]
  simp [Result.andThen, e, asAddr, run_loadVar_row w g t ty cs fr d hg hu hd hi]

set_option maxRecDepth 100000 in
set_option maxHeartbeats 4000000 in
theorem qpop_any (base q h : Nat) (mv mv' : Value) (E E' : List Re.En) (c : Int) (x : Re.En) (S : Nat → Prop) (w : World) (st : Re.QS base q h mv E c w) (hne : 0 < E.length) (hS : ∀ b, S b → b < w.heap.size)
    (PC : ∀ W, Re.QS base q h mv E c W → Calls Tryz.prog 44 #[.pointer (some ⟨h, 0, none⟩)] W fun e w' => e = .returned (.agg (Re.ee x).toArray) ∧ Re.QS base q h mv' E' c w' ∧ Re.Kp S W w') :
    Calls Tryz.prog 28 #[.pointer (some ⟨q, 0, none⟩)] w fun e w' => e = .returned (.tuple #[.agg #[.int .i64 x.k, .int .u64 x.n, .string x.s], .int .i64 x.x.i, .bool true]) ∧ Re.QS base q h mv' E' c w' ∧ Re.Kp S w w' := by
  have b0 := alloc_b w (.cells #[.int .i64 0, .int .u64 0, .string ⟨#[]⟩] 26)
  have r0 := Bx.new w 26 #[.int .i64 0, .int .u64 0, .string ⟨#[]⟩]
  have q0 := st.on b0
  have LE := hid (fun W (z : Re.QS base q h mv E c W) => qlen_any base q h mv E c W z)
  have n0 : ((E.length : Int) == 0) = false := beq_false_of_ne (by omega)
  have sl : w.heap.size < (w.alloc (.cells #[.int .i64 0, .int .u64 0, .string ⟨#[]⟩] 26)).heap.size := by rw [World.size_alloc]; omega
  obtain ⟨t, p, u, ex, -⟩ := Re.ee_ex x
  have PC := hid PC
  rw [ex] at PC
  clear ex hne st
  go_enter Tryz.func28, Tryz.ntmps28
  go_wp2_with fail
  generalize w.alloc (.cells #[.int .i64 0, .int .u64 0, .string ⟨#[]⟩] 26) = wa at *
  refine (LE.out _ q0).mono ?_
  rintro e w1 ⟨rfl, rfl⟩
  clear LE
  have c0 := q0.qb.cell 0 _ rfl
  go_wp2_with fail
  refine (PC.out _ q0).mono ?_
  rintro e w2 ⟨rfl, q2, k2⟩
  have r2 := r0.kp k2 (fun z => absurd (hS _ z) (Nat.lt_irrefl _))
  have kk : Re.Kp S w w2 := (Re.Kp.of b0).trans k2
  have s2 : w.heap.size < w2.heap.size := Nat.lt_of_lt_of_le sl k2.size
  clear PC k2 c0 q0 r0 b0 sl
  have ba := alloc_b w2 (.cells #[.bool t, .int .i64 p, .string u, .int .i64 x.x.i, .int .i64 x.k, .int .u64 x.n, .string x.s] 87)
  have e3 := Bx.new w2 87 #[.bool t, .int .i64 p, .string u, .int .i64 x.x.i, .int .i64 x.k, .int .u64 x.n, .string x.s]
  have r3 := r2.on ba
  have q3 := q2.on ba
  have k3 := kk.trans (Re.Kp.of (S := S) ba)
  go_upto_region 4 with fail
  generalize w2.alloc (.cells #[.bool t, .int .i64 p, .string u, .int .i64 x.x.i, .int .i64 x.k, .int .u64 x.n, .string x.s] 87) = w3 at *
  have dd : Below w3.heap.size w3 w3.drew := Below.drew (Below.refl _ _)
  have e4 := e3.on dd
  have r4 := r3.on dd
  have q4 := q3.on dd
  have k4 := k3.trans (Re.Kp.of (S := S) dd)
  have nz : w.heap.size ≠ w2.heap.size := by omega
  obtain ⟨w5, hw5⟩ : ∃ w5, ((w3.drew.setCell ⟨w.heap.size, 0, none⟩ (.int .i64 x.k)).setCell ⟨w.heap.size, 1, none⟩ (.int .u64 x.n)).setCell ⟨w.heap.size, 2, none⟩ (.string x.s) = w5 := ⟨_, rfl⟩
  have e5 : Bx w5 w2.heap.size 87 #[.bool t, .int .i64 p, .string u, .int .i64 x.x.i, .int .i64 x.k, .int .u64 x.n, .string x.s] := hw5 ▸ ((e4.far nz).far nz).far nz
  have r5 : Bx w5 w.heap.size 26 #[.int .i64 x.k, .int .u64 x.n, .string x.s] := hw5 ▸ r4.put3 _ _ _
  have R5 : Hid (Bx w5 w.heap.size 26 #[.int .i64 x.k, .int .u64 x.n, .string x.s] ∧ Re.QS base q h mv' E' c w5 ∧ Re.Kp S w w5) := by
    refine ⟨r5, ?_, ?_⟩
    · have nq : w.heap.size ≠ q := fun e => by
        have a1 := q4.qb
        have a2 := r4
        rw [e] at a2
        unfold Bx at a1 a2
        rw [a1] at a2
        simp at a2
      have nh : w.heap.size ≠ h := fun e => by
        have a1 := q4.hb
        have a2 := r4
        rw [e] at a2
        unfold Bx at a1 a2
        rw [a1] at a2
        simp at a2
      have nr : ∀ g, mv'.ownBlock = some g → g ≠ w.heap.size := fun g e z => q4.row.apart r4 (by decide) (by rw [← z]; exact e)
      rw [← hw5]
      exact ⟨((q4.qb.far nq).far nq).far nq, ((q4.hb.far nh).far nh).far nh, q4.row.same (fun g e => (Re.setCells_all w.heap.size [.int .i64 x.k, .int .u64 x.n, .string x.s] 0 w3.drew).2.2.2.2 g (nr g e)), q4.bq, q4.bh⟩
    · rw [← hw5]
      exact k4.setcs (.inr (Nat.le_refl _)) 0 [.int .i64 x.k, .int .u64 x.n, .string x.s]
  have T0 : Hid (w3.drew.cell? ⟨w2.heap.size, 3, none⟩ = some (.int .i64 x.x.i) ∧ w3.drew.cell? ⟨w2.heap.size, 4, none⟩ = some (.int .i64 x.k) ∧ w3.drew.cell? ⟨w2.heap.size, 5, none⟩ = some (.int .u64 x.n) ∧ w3.drew.cell? ⟨w2.heap.size, 6, none⟩ = some (.string x.s)) := ⟨e4.cell 3 _ rfl, e4.cell 4 _ rfl, e4.cell 5 _ rfl, e4.cell 6 _ rfl⟩
  have T1 : Hid (w5.cell? ⟨w2.heap.size, 3, none⟩ = some (.int .i64 x.x.i) ∧ w5.cell? ⟨w2.heap.size, 4, none⟩ = some (.int .i64 x.k) ∧ w5.cell? ⟨w2.heap.size, 5, none⟩ = some (.int .u64 x.n) ∧ w5.cell? ⟨w2.heap.size, 6, none⟩ = some (.string x.s)) := ⟨e5.cell 3 _ rfl, e5.cell 4 _ rfl, e5.cell 5 _ rfl, e5.cell 6 _ rfl⟩
  have tR : Hid (w3.drew.there w.heap.size 0 3) := fun i hi => by
    refine ⟨?_, r4.free _⟩
    rw [Nat.zero_add]
    rcases (show i = 0 ∨ i = 1 ∨ i = 2 by omega) with rfl | rfl | rfl <;> rw [r4.cell _ _ rfl] <;> rfl
  have oR : Hid ((#[.int .i64 x.k, .int .u64 x.n, .string x.s] : Array Value).all (·.oneCell') = true) := by simp [Hid, Value.oneCell']
  clear q2 kk r2 s2 ba e3 r3 q3 k3 dd e4 r4 q4 k4 e5 r5 hS nz
  refine wp_region_held_drew (S := (fun wx : World => wx.cell? ⟨w2.heap.size, 3, none⟩ = some (.int .i64 x.x.i) ∧ wx.cell? ⟨w2.heap.size, 4, none⟩ = some (.int .i64 x.k) ∧ wx.cell? ⟨w2.heap.size, 5, none⟩ = some (.int .u64 x.n) ∧ wx.cell? ⟨w2.heap.size, 6, none⟩ = some (.string x.s))) (by kernel_rfl) T0.out (fun hHeld => ?_)
  refine wpAnyH_take (i := 0) (oi := { dst := some 15, op := Go.Op.fieldAddr 87 (Go.Operand.tmp 5) 1, type := 0, pos := "queue.go:44", after := #[], guard := none }) (v := ?_) rfl (by kernel_rfl) (by kernel_rfl) (by kernel_rfl) (fun _ _ _ h => h) (Or.inl ⟨by rfl, ?_⟩) (by assumption) ?_
  rotate_left
  · (intro w hSw; (try dsimp only at hSw); go_simp; try with_reducible rfl)
  (try simp only [Act.put]); (try simp only [List.setIfInBounds_toArray]); (try simp only [List.set_cons_succ]); (try simp only [List.set_cons_zero])
  refine wpAnyH_take (i := 1) (oi := { dst := some 16, op := Go.Op.load 26 (Go.Operand.tmp 15), type := 26, pos := "queue.go:44", after := #[{ on := 0, ground := Go.Ground.data }], guard := none }) (v := ?_) rfl (by kernel_rfl) (by kernel_rfl) (by kernel_rfl) (fun _ _ _ h => h) (Or.inl ⟨by rfl, ?_⟩) (by assumption) ?_
  rotate_left
  · (intro w hSw; (try dsimp only at hSw); go_simp; try with_reducible rfl)
  (try simp only [Act.put]); (try simp only [List.setIfInBounds_toArray]); (try simp only [List.set_cons_succ]); (try simp only [List.set_cons_zero])
  refine wpAnyH_take (i := 2) (oi := { dst := some 17, op := Go.Op.fieldAddr 87 (Go.Operand.tmp 5) 0, type := 0, pos := "queue.go:44", after := #[{ on := 5, ground := Go.Ground.gcOnly Go.Departure.lateStores }], guard := none }) (v := ?_) rfl (by kernel_rfl) (by kernel_rfl) (by kernel_rfl) (fun _ _ _ h => h) (Or.inl ⟨by rfl, ?_⟩) (by assumption) ?_
  rotate_left
  · (intro w hSw; (try dsimp only at hSw); go_simp; try with_reducible rfl)
  (try simp only [Act.put]); (try simp only [List.setIfInBounds_toArray]); (try simp only [List.set_cons_succ]); (try simp only [List.set_cons_zero])
  refine wpAnyH_take (i := 3) (oi := { dst := some 18, op := Go.Op.fieldAddr 47 (Go.Operand.tmp 17) 1, type := 0, pos := "queue.go:44", after := #[{ on := 2, ground := Go.Ground.data }, { on := 5, ground := Go.Ground.gcOnly Go.Departure.lateStores }], guard := none }) (v := ?_) rfl (by kernel_rfl) (by kernel_rfl) (by kernel_rfl) (fun _ _ _ h => h) (Or.inl ⟨by rfl, ?_⟩) (by assumption) ?_
  rotate_left
  · (intro w hSw; (try dsimp only at hSw); go_simp; try with_reducible rfl)
  (try simp only [Act.put]); (try simp only [List.setIfInBounds_toArray]); (try simp only [List.set_cons_succ]); (try simp only [List.set_cons_zero])
  refine wpAnyH_take (i := 4) (oi := { dst := some 19, op := Go.Op.load 3 (Go.Operand.tmp 18), type := 3, pos := "queue.go:44", after := #[{ on := 3, ground := Go.Ground.data }, { on := 5, ground := Go.Ground.gcOnly Go.Departure.lateStores }], guard := none }) (v := ?_) rfl (by kernel_rfl) (by kernel_rfl) (by kernel_rfl) (fun _ _ _ h => h) (Or.inl ⟨by rfl, ?_⟩) (by assumption) ?_
  rotate_left
  · (intro w hSw; (try dsimp only at hSw); go_simp; try with_reducible rfl)
  (try simp only [Act.put]); (try simp only [List.setIfInBounds_toArray]); (try simp only [List.set_cons_succ]); (try simp only [List.set_cons_zero])
  refine wpAnyH_ready (rs := [5]) (by kernel_rfl) (by simp) ?_
  refine AllReadyH.cons (o := { dst := none, op := Go.Op.store 26 (Go.Operand.tmp 2) (Go.Operand.tmp 16), type := 0, pos := "queue.go:44", after := #[{ on := 1, ground := Go.Ground.data }, { on := 0, ground := Go.Ground.phase }, { on := 1, ground := Go.Ground.phase }, { on := 2, ground := Go.Ground.textOnly Go.Departure.lateStores }, { on := 3, ground := Go.Ground.textOnly Go.Departure.lateStores }, { on := 4, ground := Go.Ground.textOnly Go.Departure.lateStores }], guard := none }) rfl (fun K hK => ?_) (AllReadyH.nil)
  · rw [if_pos (by rfl)]
    refine wp_store_mid 26 _ _ rfl w.heap.size 0 #[.int .i64 x.k, .int .u64 x.n, .string x.s] rfl rfl tR.out (by kernel_rfl) oR.out ?_
    change K _ (((w3.drew.setCell ⟨w.heap.size, 0, none⟩ (.int .i64 x.k)).setCell ⟨w.heap.size, 1, none⟩ (.int .u64 x.n)).setCell ⟨w.heap.size, 2, none⟩ (.string x.s))
    rw [hw5]
    (try simp only [Act.put]); (try simp only [List.setIfInBounds_toArray]); (try simp only [List.set_cons_succ]); (try simp only [List.set_cons_zero])
    refine hK.out _ _ T1.out (fun hHeld => ?_)
    clear hK K
    refine wpAnyH_take (i := 6) (oi := { dst := some 3, op := Go.Op.assign (Go.Operand.tmp 19), type := 3, pos := "queue.go:44", after := #[{ on := 4, ground := Go.Ground.data }, { on := 5, ground := Go.Ground.chain }, { on := 0, ground := Go.Ground.phase }, { on := 1, ground := Go.Ground.phase }, { on := 2, ground := Go.Ground.phase }, { on := 3, ground := Go.Ground.phase }, { on := 4, ground := Go.Ground.phase }, { on := 5, ground := Go.Ground.phase }], guard := none }) (v := ?_) rfl (by kernel_rfl) (by kernel_rfl) (by kernel_rfl) (fun _ _ _ h => h) (Or.inl ⟨by rfl, ?_⟩) (by assumption) ?_
    rotate_left
    · (intro w hSw; (try dsimp only at hSw); go_simp; try with_reducible rfl)
    (try simp only [Act.put]); (try simp only [List.setIfInBounds_toArray]); (try simp only [List.set_cons_succ]); (try simp only [List.set_cons_zero])
    refine wpAnyH_take (i := 7) (oi := { dst := some 4, op := Go.Op.assign (Go.Operand.const (Go.Value.bool true)), type := 4, pos := "queue.go:44", after := #[{ on := 6, ground := Go.Ground.chain }, { on := 0, ground := Go.Ground.phase }, { on := 1, ground := Go.Ground.phase }, { on := 2, ground := Go.Ground.phase }, { on := 3, ground := Go.Ground.phase }, { on := 4, ground := Go.Ground.phase }, { on := 5, ground := Go.Ground.phase }, { on := 6, ground := Go.Ground.phase }], guard := none }) (v := ?_) rfl (by kernel_rfl) (by kernel_rfl) (by kernel_rfl) (fun _ _ _ h => h) (Or.inl ⟨by rfl, ?_⟩) (by assumption) ?_
    rotate_left
    · (intro w hSw; (try dsimp only at hSw); go_simp; try with_reducible rfl)
    (try simp only [Act.put]); (try simp only [List.setIfInBounds_toArray]); (try simp only [List.set_cons_succ]); (try simp only [List.set_cons_zero])
    refine wpAnyH_done (by kernel_rfl) ?_ _
    go_wp2_with fail
    (try simp only [Exit.inBlock, Exit.then])
    refine bodyPost_ret (results_c3 rfl _ _ w.heap.size 26 _ (0, 0) _ rfl R5.out.1 Tryz.underlying26 rfl (by kernel_rfl)) rfl ?_
    exact ⟨rfl, R5.out.2⟩
end Go.Proofs.YtpmmbaahoegmlaaGreatDoor

namespace Go.Proofs.YtpmmbaahoegmlaaGreatDoor
open Go Go.RowKit Go.Deep Go.Shelf

namespace Re
def eTwo : En := ⟨⟨rt 1 4611686018427387904 ⟨#[]⟩, 0⟩, 1, 4611686018427387904, ⟨#[]⟩⟩
def eOne : En := ⟨⟨rt 1 4607182418800017408 ⟨#[]⟩, 1⟩, 1, 4607182418800017408, ⟨#[]⟩⟩
theorem one_two : ct eOne.x eTwo.x < 0 := by
  have a : rt 1 4607182418800017408 ⟨#[]⟩ = .nu 4607182418800017408 := by
    rw [rt, if_neg (by decide)]
    congr 1
  have b : rt 1 4611686018427387904 ⟨#[]⟩ = .nu 4611686018427387904 := by
    rw [rt, if_neg (by decide)]
    congr 1
  show ct ⟨rt 1 4607182418800017408 ⟨#[]⟩, 1⟩ ⟨rt 1 4611686018427387904 ⟨#[]⟩, 0⟩ < 0
  rw [a, b]
  decide
theorem up1 : upF ([] ++ [eTwo]) ([] : List En).length = [eTwo] := upF_zero _
theorem up2 : upF ([eTwo] ++ [eOne]) [eTwo].length = [eOne, eTwo] := by
  have := upF_go (E := [eTwo, eOne]) (i := 1) (by decide) one_two
  rw [upF_zero] at this
  exact this
theorem QS.bel {base q h : Nat} {mv : Value} {E : List En} {c : Int} {W W' : World} (s : QS base q h mv E c W) (k : Kp (fun b => b = q ∨ b = h ∨ mv.ownBlock = some b) W W') (hb : base ≤ W.heap.size) : Below base W W' :=
  k.below hb (fun b e => by
    rcases e with e | e | e
    · rw [e]; exact s.bq
    · rw [e]; exact s.bh
    · exact (World.ownsRow.lt s.row b e).1)
theorem QS.qh {base q h : Nat} {mv : Value} {E : List En} {c : Int} {W : World} (s : QS base q h mv E c W) : q ≠ h := fun e => by
  have e1 := s.qb
  have e2 := s.hb
  rw [← e] at e2
  unfold Bx at e1 e2
  rw [e1] at e2
  simp at e2
end Re

theorem eq_value (k n k' n' : Int) (s t : ByteArray) (w : World) : (Op.equalIn 10000 26 (.agg #[.int .i64 k, .int .u64 n, .string s]) (.agg #[.int .i64 k', .int .u64 n', .string t])).run Tryz.prog w = .ok (k == k' && n == n' && (s.toList == t.toList)) w := by
  have u3 := Tryz.underlying3
  have a3 := Tryz.isAgg3
  have z3 := Tryz.sizeOf3
  have u5 := Tryz.underlying24
  have a5 := Tryz.isAgg24
  have z5 := Tryz.sizeOf24
  have u9 := Tryz.underlying9
  have a9 := Tryz.isAgg9
  have z9 := Tryz.sizeOf9
  have hS : Tryz.prog.underlying 26 = some (.struct (Tryz.prog.fieldsOf 26)) := by kernel_rfl
  rw [show (10000 : Nat) = 9999 + 1 from rfl, run_equalIn_struct w 9999 26 _ _ hS (by kernel_rfl)]
  simp only [Program.fieldsOf, Tryz.underlying26]
  go_simp
  by_cases h1 : k = k' <;> by_cases h2 : n = n' <;> by_cases h3 : s.toList = t.toList <;> simp [h1, h2, h3]

/-- pop of a queue of two. -/
theorem pop_two (base q h g cap : Nat) (x y : Re.En) (c : Int) (hcap : 2 ≤ cap) (hm : cap ≤ 9223372036854775807) (W : World) (s : Re.QS base q h (.slice (some ⟨g, 0, none⟩) 2 cap) [x, y] c W) :
    Calls Tryz.prog 44 #[.pointer (some ⟨h, 0, none⟩)] W fun e w' => e = .returned (.agg (Re.ee x).toArray) ∧ Re.QS base q h (.slice (some ⟨g, 0, none⟩) 1 cap) [y] c w' ∧ Re.Kp (fun b => b = h ∨ b = g) W w' := by
  refine (hpop_any base h g cap [x, y] [y] x y 2 1 W s.hb s.row rfl rfl (by omega) hcap hm rfl rfl (fun W' hb hr => ?_)).mono ?_
  · refine (down_small h g cap 1 _ W' hb (Nat.le_refl _)).mono ?_
    rintro e w' ⟨rfl, rfl⟩
    exact ⟨rfl, hr, Re.Kp.refl _ _⟩
  · rintro e w' ⟨rfl, hb, hr, hk⟩
    refine ⟨rfl, ⟨s.qb.kp hk ?_, hb, hr, s.bq, s.bh⟩, hk⟩
    rintro (z | z)
    · exact s.qh z
    · exact s.row.apart s.qb (by decide) (by rw [z]; rfl)

set_option maxRecDepth 100000 in
set_option maxHeartbeats 4000000 in
theorem queued_any (w : World) : Calls Tryz.prog 14 #[] w fun e w' => e = .returned (.bool true) ∧ Below w.heap.size w w' := by
  have NQ := hid (newq_any w)
  have N2 := hid (fun W => rnum_any 4611686018427387904 W)
  have N1 := hid (fun W => rnum_any 4607182418800017408 W)
  have P2 : Hid (∀ W, Re.QS w.heap.size (w.heap.size + 1) w.heap.size (.slice none 0 0) [] 0 W → Below w.heap.size w W → Calls Tryz.prog 27 #[.pointer (some ⟨w.heap.size + 1, 0, none⟩), .agg #[.int .i64 1, .int .u64 4611686018427387904, .string ⟨#[]⟩]] W fun e w' => e = .returned (.int .i64 0) ∧ (∃ mv', Re.QS w.heap.size (w.heap.size + 1) w.heap.size mv' [Re.eTwo] 1 w') ∧ Below w.heap.size w w') := fun W s b => by
    refine (qpush_any w.heap.size (w.heap.size + 1) w.heap.size _ [] 0 1 4611686018427387904 ⟨#[]⟩ 1 4611686018427387904 ⟨#[]⟩ W s (by decide) (by omega) (by omega) (by omega) (by omega) b.size (fun W => vplainN_any _ _ W)).mono ?_
    rintro e w' ⟨rfl, ⟨mv', s'⟩, k⟩
    have e1 := Re.up1
    rw [Re.eTwo] at e1
    rw [e1] at s'
    exact ⟨rfl, ⟨mv', s'⟩, b.trans (s.bel k b.size)⟩
  have P1 : Hid (∀ W mv, Re.QS w.heap.size (w.heap.size + 1) w.heap.size mv [Re.eTwo] 1 W → Below w.heap.size w W → Calls Tryz.prog 27 #[.pointer (some ⟨w.heap.size + 1, 0, none⟩), .agg #[.int .i64 1, .int .u64 4607182418800017408, .string ⟨#[]⟩]] W fun e w' => e = .returned (.int .i64 1) ∧ (∃ mv', Re.QS w.heap.size (w.heap.size + 1) w.heap.size mv' [Re.eOne, Re.eTwo] 2 w') ∧ Below w.heap.size w w') := fun W mv s b => by
    refine (qpush_any w.heap.size (w.heap.size + 1) w.heap.size mv [Re.eTwo] 1 1 4607182418800017408 ⟨#[]⟩ 1 4607182418800017408 ⟨#[]⟩ W s (by decide) (by omega) (by omega) (by omega) (by omega) b.size (fun W => vplainN_any _ _ W)).mono ?_
    rintro e w' ⟨rfl, ⟨mv', s'⟩, k⟩
    have e1 := Re.up2
    have e2 : Re.eOne = ⟨⟨Re.rt 1 4607182418800017408 ⟨#[]⟩, 1⟩, 1, 4607182418800017408, ⟨#[]⟩⟩ := rfl
    rw [← e2, e1] at s'
    exact ⟨rfl, ⟨mv', s'⟩, b.trans (s.bel k b.size)⟩
  have PP : Hid (∀ W mv, Re.QS w.heap.size (w.heap.size + 1) w.heap.size mv [Re.eOne, Re.eTwo] 2 W → Below w.heap.size w W → Calls Tryz.prog 28 #[.pointer (some ⟨w.heap.size + 1, 0, none⟩)] W fun e w' => e = .returned (.tuple #[.agg #[.int .i64 1, .int .u64 4607182418800017408, .string ⟨#[]⟩], .int .i64 1, .bool true]) ∧ (∃ mv', Re.QS w.heap.size (w.heap.size + 1) w.heap.size mv' [Re.eTwo] 2 w') ∧ Below w.heap.size w w') := fun W mv s b => by
    obtain ⟨g, cap, rfl, h1, h2, h3, _⟩ := s.row.open (by simp)
    have hg : g < W.heap.size := (World.ownsRow.lt s.row g rfl).2
    refine (qpop_any w.heap.size (w.heap.size + 1) w.heap.size _ _ [Re.eOne, Re.eTwo] [Re.eTwo] 2 Re.eOne (fun b => b = w.heap.size ∨ b = g) W s (by decide) (fun b e => by rcases e with e | e; rw [e]; exact s.hb.lt; rw [e]; exact hg) (fun W' s' => pop_two _ _ _ g cap _ _ _ h1 (by simp only [maxLen] at h2; omega) W' s')).mono ?_
    rintro e w' ⟨rfl, s', k⟩
    exact ⟨rfl, ⟨_, s'⟩, b.trans (k.below b.size (fun b e => by rcases e with e | e; rw [e]; exact Nat.le_refl _; rw [e]; exact h3))⟩
  have LE : Hid (∀ W mv, Re.QS w.heap.size (w.heap.size + 1) w.heap.size mv [Re.eTwo] 2 W → Calls Tryz.prog 29 #[.pointer (some ⟨w.heap.size + 1, 0, none⟩)] W fun e w' => e = .returned (.int .i64 1) ∧ w' = W) := fun W mv s => qlen_any _ _ _ mv _ _ W s
  go_enter Tryz.func14, Tryz.ntmps14
  go_wp2_with fail
  refine NQ.out.mono ?_
  rintro e w1 ⟨rfl, q1, b1⟩
  have T1 := hid (And.intro q1 b1)
  clear q1 b1 NQ
  go_wp2_with fail
  refine (N2.out _).mono ?_
  rintro e w2 ⟨rfl, b2⟩
  have T2 := hid (And.intro (T1.out.1.on b2) (below_on T1.out.2 b2))
  clear b2 T1 N2
  go_wp2_with fail
  refine (P2.out _ T2.out.1 T2.out.2).mono ?_
  rintro e w3 ⟨rfl, ⟨m3, q3⟩, b3⟩
  have T3 := hid (And.intro q3 b3)
  clear q3 b3 T2 P2
  go_wp2_with fail
  refine (N1.out _).mono ?_
  rintro e w4 ⟨rfl, b4⟩
  have T4 := hid (And.intro (T3.out.1.on b4) (below_on T3.out.2 b4))
  clear b4 T3
  go_wp2_with fail
  refine (P1.out _ _ T4.out.1 T4.out.2).mono ?_
  rintro e w5 ⟨rfl, ⟨m5, q5⟩, b5⟩
  have T5 := hid (And.intro q5 b5)
  clear q5 b5 T4 P1
  go_wp2_with fail
  refine (PP.out _ _ T5.out.1 T5.out.2).mono ?_
  rintro e w6 ⟨rfl, ⟨m6, q6⟩, b6⟩
  have x6 := Bx.new w6 26 #[.int .i64 1, .int .u64 4607182418800017408, .string ⟨#[]⟩]
  have b7 := alloc_b w6 (.cells #[.int .i64 1, .int .u64 4607182418800017408, .string ⟨#[]⟩] 26)
  have T6 := hid (And.intro (q6.on b7) (below_on b6 b7))
  have X6 := hid x6
  clear q6 b6 b7 T5 PP x6
  have EQ : ∀ W, (Op.equalIn 10000 26 (.agg #[.int .i64 1, .int .u64 4607182418800017408, .string ⟨#[]⟩]) (.agg #[.int .i64 1, .int .u64 4607182418800017408, .string ⟨#[]⟩])).run Tryz.prog W = .ok true W := fun W => by rw [eq_value]; simp
  go_upto_region 7 with fail
  generalize w6.alloc (.cells #[.int .i64 1, .int .u64 4607182418800017408, .string ⟨#[]⟩] 26) = w7 at *
  have MK : Hid (∀ W W' : World, (Re.QS w.heap.size (w.heap.size + 1) w.heap.size m6 [Re.eTwo] 2 W ∧ Below w.heap.size w W) ∧ Bx W w6.heap.size 26 #[.int .i64 1, .int .u64 4607182418800017408, .string ⟨#[]⟩] → Below W.heap.size W W' → (Re.QS w.heap.size (w.heap.size + 1) w.heap.size m6 [Re.eTwo] 2 W' ∧ Below w.heap.size w W') ∧ Bx W' w6.heap.size 26 #[.int .i64 1, .int .u64 4607182418800017408, .string ⟨#[]⟩]) := fun W W' z b => ⟨⟨z.1.1.on b, below_on z.1.2 b⟩, z.2.on b⟩
  have SS : Hid (∀ W : World, (Re.QS w.heap.size (w.heap.size + 1) w.heap.size m6 [Re.eTwo] 2 W ∧ Below w.heap.size w W) ∧ Bx W w6.heap.size 26 #[.int .i64 1, .int .u64 4607182418800017408, .string ⟨#[]⟩] → W.cell? ⟨w6.heap.size, 0, none⟩ = some (.int .i64 1) ∧ W.cell? ⟨w6.heap.size, 1, none⟩ = some (.int .u64 4607182418800017408) ∧ W.cell? ⟨w6.heap.size, 2, none⟩ = some (.string ⟨#[]⟩)) := fun W z => ⟨z.2.cell 0 _ rfl, z.2.cell 1 _ rfl, z.2.cell 2 _ rfl⟩
  have U0 := hid (MK.out w7 w7.drew ⟨T6.out, X6.out⟩ (Below.drew (Below.refl _ _)))
  have LC : Hid (∀ W : World, (Re.QS w.heap.size (w.heap.size + 1) w.heap.size m6 [Re.eTwo] 2 W ∧ Below w.heap.size w W) ∧ Bx W w6.heap.size 26 #[.int .i64 1, .int .u64 4607182418800017408, .string ⟨#[]⟩] → Calls Tryz.prog 29 #[.pointer (some ⟨w.heap.size + 1, 0, none⟩)] W fun e w' => e = .returned (.int .i64 1) ∧ w' = W) := fun W z => LE.out W _ z.1.1
  clear LE T6 X6
  go_region_held3 (fun wx => wx.cell? ⟨w6.heap.size, 0, none⟩ = some (.int .i64 1) ∧ wx.cell? ⟨w6.heap.size, 1, none⟩ = some (.int .u64 4607182418800017408) ∧ wx.cell? ⟨w6.heap.size, 2, none⟩ = some (.string ⟨#[]⟩)) (first | (with_reducible exact SS.out _ U1.out) | (with_reducible exact SS.out _ U0.out)) (first
    | (go_at_call 10; with_reducible refine (N1.out _).mono ?_; rintro e w8 ⟨rfl, hB⟩; have U1 := hid (MK.out _ _ U0.out hB); clear hB)
    | (go_at_call 29; with_reducible refine (LC.out _ U1.out).mono ?_; rintro e w9 ⟨rfl, hw⟩; rw [hw]; clear hw))
  have F := hid U1.out.1.2
  clear U0 U1 SS MK LC N1
  go_wp2_with fail
  go_ret
  exact ⟨rfl, F.out⟩
end Go.Proofs.YtpmmbaahoegmlaaGreatDoor

namespace Go.Proofs.YtpmmbaahoegmlaaGreatDoor
open Go Go.RowKit Go.Deep Go.Shelf

namespace Re
/-- The cells of a list. -/
def fl {α : Type} (enc : α → List Value) (D : List α) : List Value := D.flatMap enc
section
variable {α : Type} {enc : α → List Value} {k : Nat} (hk : ∀ x, (enc x).length = k)
include hk
theorem fl_len (D : List α) : (fl enc D).length = D.length * k := by
  induction D with
  | nil => simp [fl]
  | cons x D ih => rw [fl, List.flatMap_cons, List.length_append, hk, ← fl, ih, List.length_cons, Nat.add_mul, Nat.one_mul, Nat.add_comm]
theorem fl_at : ∀ {D : List α} {i : Nat} {a : α}, D[i]? = some a → ∀ j, j < k → (fl enc D)[i * k + j]? = (enc a)[j]?
  | [], i, a, h, _, _ => by simp at h
  | b :: D, 0, a, h, j, hj => by
    obtain rfl : b = a := Option.some.inj h
    rw [fl, List.flatMap_cons, List.getElem?_append_left (by rw [hk]; omega)]
    simp
  | b :: D, i + 1, a, h, j, hj => by
    rw [fl, List.flatMap_cons, List.getElem?_append_right (by rw [hk, Nat.add_mul]; omega), ← fl]
    rw [← fl_at (D := D) (i := i) (a := a) (by simpa using h) j hj]
    congr 1
    rw [hk, Nat.add_mul]
    omega
/-- One thing of a list, written. -/
theorem fl_set : ∀ (D : List α) (i : Nat) (x : α), i < D.length → (fl enc D).take (i * k) ++ enc x ++ (fl enc D).drop (i * k + k) = fl enc (D.set i x)
  | [], i, x, h => by simp at h
  | b :: D, 0, x, _ => by
    rw [List.set_cons_zero, fl, fl, List.flatMap_cons, List.flatMap_cons, Nat.zero_mul, List.take_zero, List.nil_append, Nat.zero_add, List.drop_append_of_le_length (by rw [hk]; omega), List.drop_of_length_le (by rw [hk]; omega), List.nil_append]
  | b :: D, i + 1, x, h => by
    have ih := fl_set D i x (by simpa using h)
    rw [List.set_cons_succ, fl, fl, List.flatMap_cons, List.flatMap_cons, ← fl, ← fl, ← ih]
    have e : (i + 1) * k = (enc b).length + i * k := by rw [hk, Nat.add_mul]; omega
    rw [e, List.take_append, List.drop_append]
    have e1 : (enc b).take ((enc b).length + i * k) = enc b := List.take_of_length_le (by omega)
    have e2 : (enc b).drop ((enc b).length + i * k + k) = [] := List.drop_of_length_le (by omega)
    rw [e1, e2, List.nil_append, show (enc b).length + i * k - (enc b).length = i * k by omega, show (enc b).length + i * k + k - (enc b).length = i * k + k by omega]
    simp [List.append_assoc]
end
/-- Cells of a block, written one behind the other. -/
theorem bx_setc {g t : Nat} : ∀ (vs : List Value) (o : Nat) (w : World) (L : List Value), Bx w g t L.toArray → o + vs.length ≤ L.length → Bx (w.setCells g o vs) g t (L.take o ++ vs ++ L.drop (o + vs.length)).toArray
  | [], o, w, L, h, _ => by
    have e : L.take o ++ [] ++ L.drop (o + ([] : List Value).length) = L := by simp
    rw [e]; exact h
  | v :: r, o, w, L, h, hl => by
    simp only [List.length_cons] at hl
    have h1 : Bx (w.setCell ⟨g, o, none⟩ v) g t (L.set o v).toArray := by
      have := h.set o v
      rwa [List.setIfInBounds_toArray] at this
    have h2 := bx_setc r (o + 1) _ (L.set o v) h1 (by rw [List.length_set]; omega)
    have e : (L.set o v).take (o + 1) ++ r ++ (L.set o v).drop (o + 1 + r.length) = L.take o ++ v :: r ++ L.drop (o + (v :: r).length) := by
      have e1 : (L.set o v).take (o + 1) = L.take o ++ [v] := by
        rw [List.take_add_one, List.take_set, List.getElem?_set_self (by omega)]
        rw [List.set_eq_of_length_le (by rw [List.length_take]; omega)]
        rfl
      have e2 : (L.set o v).drop (o + 1 + r.length) = L.drop (o + 1 + r.length) := by
        rw [List.drop_set_of_lt (by omega)]
      rw [e1, e2, List.length_cons, show o + 1 + r.length = o + (r.length + 1) by omega]
      simp [List.append_assoc]
    rw [e] at h2
    exact h2
section
variable {α : Type} {enc : α → List Value} {k : Nat} (hk : ∀ x, (enc x).length = k)
include hk
theorem bx_put {g t i : Nat} {D : List α} {w : World} (h : Bx w g t (fl enc D).toArray) (x : α) (hi : i < D.length) : Bx (w.setCells g (i * k) (enc x)) g t (fl enc (D.set i x)).toArray := by
  have e := fl_len hk D
  have m : i * k + k ≤ D.length * k := by
    have := Nat.mul_le_mul_right k (show i + 1 ≤ D.length from hi)
    rwa [Nat.add_mul, Nat.one_mul] at this
  have := bx_setc (enc x) (i * k) w (fl enc D) h (by rw [hk]; omega)
  rw [hk, fl_set hk D i x hi] at this
  exact this
theorem bx_cell {g t i : Nat} {D : List α} {w : World} {a : α} (h : Bx w g t (fl enc D).toArray) (hi : D[i]? = some a) (j : Nat) (hj : j < k) (v : Value) (hv : (enc a)[j]? = some v) : w.cell? ⟨g, i * k + j, none⟩ = some v :=
  h.cell _ _ (by rw [List.getElem?_toArray, fl_at hk hi j hj]; exact hv)
theorem bx_range {g t i : Nat} {D : List α} {w : World} {a : α} (h : Bx w g t (fl enc D).toArray) (hi : D[i]? = some a) : w.rangeAt g (i * k) (enc a) := fun j v hv =>
  bx_cell hk h hi j (by rw [← hk a]; exact (List.getElem?_eq_some_iff.1 hv).1) v hv
theorem bx_there {g t i : Nat} {D : List α} {w : World} (h : Bx w g t (fl enc D).toArray) (hi : i < D.length) : w.there g (i * k) k := fun c hc => by
  obtain ⟨a, ha⟩ : ∃ a, D[i]? = some a := ⟨_, List.getElem?_eq_getElem hi⟩
  have hv : (enc a)[c]? = some ((enc a)[c]'(by rw [hk]; exact hc)) := List.getElem?_eq_getElem _
  exact ⟨by rw [bx_cell hk h ha c hc _ hv]; rfl, h.free _⟩
end
/-- What makeSlice lays. -/
theorem made_fl {α : Type} {enc : α → List Value} {k : Nat} (hk : ∀ x, (enc x).length = k) (z : α) (k0 : 0 < k) (n : Nat) : madeCells (enc z).toArray (n * k) = (fl enc (List.replicate n z)).toArray := by
  have sz : (enc z).toArray.size = k := by rw [List.size_toArray]; exact hk z
  have l2 := fl_len hk (List.replicate n z)
  rw [List.length_replicate] at l2
  apply Array.ext
  · rw [size_madeCells, List.size_toArray, l2]
  · intro j h1 h2
    rw [size_madeCells] at h1
    have hi : j / k < n := Nat.div_lt_of_lt_mul (by rwa [Nat.mul_comm])
    have hc : j % k < k := Nat.mod_lt _ k0
    have e := fl_at hk (D := List.replicate n z) (i := j / k) (a := z) (by simp [hi]) (j % k) hc
    rw [Nat.div_add_mod'] at e
    have hz : j % k < (enc z).length := by rw [hk]; exact hc
    rw [List.getElem?_eq_getElem (by rw [l2]; exact h1), List.getElem?_eq_getElem hz] at e
    have e3 : (fl enc (List.replicate n z)).toArray[j] = (enc z)[j % k] := Option.some.inj e
    rw [e3]
    simp [madeCells, hk]
    rw [List.getElem?_eq_getElem hz]
    rfl
/-- A row that is filled from its beginning on. -/
def fil {α : Type} (T : List α) (z : α) (i : Nat) : List α := T.take i ++ List.replicate (T.length - i) z
theorem fil_zero {α : Type} (T : List α) (z : α) : fil T z 0 = List.replicate T.length z := by simp [fil]
theorem fil_all {α : Type} (T : List α) (z : α) : fil T z T.length = T := by simp [fil]
theorem fil_len {α : Type} (T : List α) (z : α) {i : Nat} (h : i ≤ T.length) : (fil T z i).length = T.length := by simp [fil]; omega
theorem fil_at {α : Type} (T : List α) (z : α) {i : Nat} (h : i < T.length) : (fil T z i)[i]? = some z := by
  rw [fil, List.getElem?_append_right (by simp; omega), List.length_take, List.getElem?_replicate]
  rw [if_pos (by omega)]
theorem fil_set {α : Type} (T : List α) (z : α) {i : Nat} {x : α} (h : T[i]? = some x) : (fil T z i).set i x = fil T z (i + 1) := by
  have hl : i < T.length := (List.getElem?_eq_some_iff.1 h).1
  unfold fil
  have l1 : (T.take i).length = i := by rw [List.length_take]; omega
  rw [List.set_append_right _ _ (by omega), l1, Nat.sub_self]
  have e : T.length - i = (T.length - (i + 1)) + 1 := by omega
  rw [e, List.replicate_succ, List.set_cons_zero, List.take_add_one, h]
  simp
end Re
end Go.Proofs.YtpmmbaahoegmlaaGreatDoor
