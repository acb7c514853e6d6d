/-
  Texts put together: ReP, ReNo, ReQ, ReMu.
-/
import Derived.Test.YtigmhnlcmhpepaaGreatDoorReL
import Derived.Test.YtigmhnlcmhpepaaGreatDoorVClone
import Derived.Test.YtigmhnlcmhpepaaGreatDoorReU
import Derived.Deep.LoopGhost
import Derived.Test.YtigmhnlcmhpepaaGreatDoorReHp
namespace Go.Proofs.YtigmhnlcmhpepaaGreatDoor
open Go Go.RowKit Go.Deep Go.Shelf

namespace Re
/-- The box of an argument, and one of zeros. -/
structure RQ (w : World) (t : TypeId) (a : Array Value) (W : World) : Prop where
  bel : Below w.heap.size w W
  vb : Bx W w.heap.size t a
  rb : Bx W (w.heap.size + 1) 24 #[.int .i64 0, .int .u64 0, .string ⟨#[]⟩]
theorem RQ.new (w : World) (t : TypeId) (a : Array Value) : RQ w t a ((w.alloc (.cells a t)).alloc (.cells #[.int .i64 0, .int .u64 0, .string ⟨#[]⟩] 24)) := by
  have sz : (w.alloc (.cells a t)).heap.size = w.heap.size + 1 := Array.size_push ..
  refine ⟨below_on (alloc_b w _) (alloc_b _ _), (Bx.new w t a).on (alloc_b _ _), ?_⟩
  rw [← sz]
  exact Bx.new _ _ _
theorem RQ.on {w W W' : World} {t : TypeId} {a : Array Value} (h : RQ w t a W) (b : Below W.heap.size W W') : RQ w t a W' := ⟨below_on h.bel b, h.vb.on b, h.rb.on b⟩
end Re

set_option maxRecDepth 100000 in
set_option maxHeartbeats 1000000 in
theorem oplain_any (w : World) : Calls Tryz.prog 275 #[.agg #[]] w fun e w' => e = .returned (.agg #[.int .i64 0, .int .u64 0, .string ⟨#[]⟩]) ∧ Below w.heap.size w w' := by
  have B0 := hid (Re.RQ.new w 94 #[])
  go_enter Tryz.func275, Tryz.ntmps275
  go_upto_region 1 with fail
  generalize (w.alloc (.cells #[] 94)).alloc (.cells #[.int .i64 0, .int .u64 0, .string ⟨#[]⟩] 24) = wA at *
  have c0 := B0.out.rb.cell 0 _ rfl
  have c1 := B0.out.rb.cell 1 _ rfl
  have c2 := B0.out.rb.cell 2 _ rfl
  have f0 := B0.out.rb.free 0
  have f1 := B0.out.rb.free 1
  have f2 := B0.out.rb.free 2
  go_wp2_with fail
  (try simp only [Exit.inBlock, Exit.then])
  refine bodyPost_ret (results_cell_row rfl _ _ (w.heap.size + 1) 24 _ (0, 0) _ rfl (B0.out.rb.put3 _ _ _) Tryz.underlying24 rfl (by kernel_rfl)) rfl ?_
  exact ⟨rfl, bset3_below B0.out.bel (Nat.le_succ _)⟩

set_option maxRecDepth 100000 in
set_option maxHeartbeats 1000000 in
theorem tplain_any (s : ByteArray) (w : World) (hs : s.size ≤ 281474976710656) : Calls Tryz.prog 272 #[.agg #[.string s]] w fun e w' => e = .returned (.agg #[.int .i64 2, .int .u64 0, .string s]) ∧ Below w.heap.size w w' := by
  have B0 := hid (Re.RQ.new w 62 #[.string s])
  have CL := hid (fun W => vclone_any s W hs)
  clear hs
  go_enter Tryz.func272, Tryz.ntmps272
  go_upto_region 1 with fail
  generalize (w.alloc (.cells #[.string s] 62)).alloc (.cells #[.int .i64 0, .int .u64 0, .string ⟨#[]⟩] 24) = wA at *
  have v0 := B0.out.vb.cell 0 _ rfl
  go_wp2_with fail
  refine (CL.out _).mono ?_
  rintro e w1 ⟨rfl, b1⟩
  have B1 := hid (B0.out.on b1)
  clear b1 B0 CL v0
  have c0 := B1.out.rb.cell 0 _ rfl
  have c1 := B1.out.rb.cell 1 _ rfl
  have c2 := B1.out.rb.cell 2 _ rfl
  have f0 := B1.out.rb.free 0
  have f1 := B1.out.rb.free 1
  have f2 := B1.out.rb.free 2
  go_wp2_with fail
  (try simp only [Exit.inBlock, Exit.then])
  refine bodyPost_ret (results_cell_row rfl _ _ (w.heap.size + 1) 24 _ (0, 0) _ rfl (B1.out.rb.put3 _ _ _) Tryz.underlying24 rfl (by kernel_rfl)) rfl ?_
  exact ⟨rfl, bset3_below B1.out.bel (Nat.le_succ _)⟩

set_option maxRecDepth 100000 in
set_option maxHeartbeats 2000000 in
theorem splain_any (n : Int) (s : ByteArray) (w : World) (hs : s.size ≤ 281474976710656) : Calls Tryz.prog 274 #[.agg #[.int .u64 n, .string s]] w fun e w' => e = .returned (.agg #[.int .i64 3, .int .u64 n, .string s]) ∧ Below w.heap.size w w' := by
  have B0 := hid (Re.RQ.new w 90 #[.int .u64 n, .string s])
  have CL := hid (fun W => vclone_any s W hs)
  clear hs
  go_enter Tryz.func274, Tryz.ntmps274
  go_upto_region 1 with fail
  generalize (w.alloc (.cells #[.int .u64 n, .string s] 90)).alloc (.cells #[.int .i64 0, .int .u64 0, .string ⟨#[]⟩] 24) = wA at *
  have dd : Below wA.heap.size wA wA.drew := Below.drew (Below.refl _ _)
  have B1 := hid (B0.out.on dd)
  have T0 : Hid (wA.drew.cell? ⟨w.heap.size, 0, none⟩ = some (.int .u64 n) ∧ wA.drew.cell? ⟨w.heap.size, 1, none⟩ = some (.string s)) := ⟨B1.out.vb.cell 0 _ rfl, B1.out.vb.cell 1 _ rfl⟩
  have oR : Hid ((#[.int .i64 3, .int .u64 n, .string s] : Array Value).all (·.oneCell') = true) := by simp [Hid, Value.oneCell']
  clear dd B0
  refine wp_region_held_drew (S := (fun wx : World => wx.cell? ⟨w.heap.size, 0, none⟩ = some (.int .u64 n) ∧ wx.cell? ⟨w.heap.size, 1, none⟩ = some (.string s))) (by kernel_rfl) T0.out (fun hHeld => ?_)
  refine wpAnyH_take (i := 0) (oi := { dst := some 3, op := Go.Op.fieldAddr 90 (Go.Operand.tmp 1) 0, type := 0, pos := "content.go:37", after := #[], guard := none }) (v := ?_) rfl (by kernel_rfl) (by kernel_rfl) (by kernel_rfl) (fun _ _ _ h => h) (Or.inl ⟨by rfl, ?_⟩) (by assumption) ?_
  rotate_left
  · (intro w hSw; (try dsimp only at hSw); go_simp; try with_reducible rfl)
  (try simp only [Act.put]); (try simp only [List.setIfInBounds_toArray]); (try simp only [List.set_cons_succ]); (try simp only [List.set_cons_zero])
  refine wpAnyH_take (i := 1) (oi := { dst := some 4, op := Go.Op.load 22 (Go.Operand.tmp 3), type := 22, pos := "content.go:37", after := #[{ on := 0, ground := Go.Ground.data }], guard := none }) (v := ?_) rfl (by kernel_rfl) (by kernel_rfl) (by kernel_rfl) (fun _ _ _ h => h) (Or.inl ⟨by rfl, ?_⟩) (by assumption) ?_
  rotate_left
  · (intro w hSw; (try dsimp only at hSw); go_simp; try with_reducible rfl)
  (try simp only [Act.put]); (try simp only [List.setIfInBounds_toArray]); (try simp only [List.set_cons_succ]); (try simp only [List.set_cons_zero])
  refine wpAnyH_take (i := 2) (oi := { dst := some 5, op := Go.Op.fieldAddr 90 (Go.Operand.tmp 1) 1, type := 0, pos := "content.go:37", after := #[], guard := none }) (v := ?_) rfl (by kernel_rfl) (by kernel_rfl) (by kernel_rfl) (fun _ _ _ h => h) (Or.inl ⟨by rfl, ?_⟩) (by assumption) ?_
  rotate_left
  · (intro w hSw; (try dsimp only at hSw); go_simp; try with_reducible rfl)
  (try simp only [Act.put]); (try simp only [List.setIfInBounds_toArray]); (try simp only [List.set_cons_succ]); (try simp only [List.set_cons_zero])
  refine wpAnyH_take (i := 3) (oi := { dst := some 6, op := Go.Op.load 9 (Go.Operand.tmp 5), type := 9, pos := "content.go:37", after := #[{ on := 2, ground := Go.Ground.data }], guard := none }) (v := ?_) rfl (by kernel_rfl) (by kernel_rfl) (by kernel_rfl) (fun _ _ _ h => h) (Or.inl ⟨by rfl, ?_⟩) (by assumption) ?_
  rotate_left
  · (intro w hSw; (try dsimp only at hSw); go_simp; try with_reducible rfl)
  (try simp only [Act.put]); (try simp only [List.setIfInBounds_toArray]); (try simp only [List.set_cons_succ]); (try simp only [List.set_cons_zero])
  refine wpAnyH_ready (rs := [4]) (by kernel_rfl) (by simp) ?_
  refine AllReadyH.cons (o := { dst := some 7, op := Go.Op.call { callee := Go.Callee.value (Go.Operand.func 50), args := #[Go.Operand.tmp 6], argTypes := #[9] }, type := 9, pos := "content.go:37", after := #[{ on := 3, ground := Go.Ground.data }], guard := none }) rfl (fun K hK => ?_) (AllReadyH.nil)
  · rw [if_pos (by rfl)]
    go_simp
    with_reducible refine (CL.out _).mono ?_
    rintro e w5 ⟨rfl, b5⟩
    have B5 := hid (B1.out.on b5)
    clear b5 B1 CL
    have tR : Hid (w5.there (w.heap.size + 1) 0 3) := fun i hi => by
      refine ⟨?_, B5.out.rb.free _⟩
      rw [Nat.zero_add]
      rcases (show i = 0 ∨ i = 1 ∨ i = 2 by omega) with rfl | rfl | rfl <;> rw [B5.out.rb.cell _ _ rfl] <;> rfl
    obtain ⟨w6, hw6⟩ : ∃ w6, ((w5.setCell ⟨w.heap.size + 1, 0, none⟩ (.int .i64 3)).setCell ⟨w.heap.size + 1, 1, none⟩ (.int .u64 n)).setCell ⟨w.heap.size + 1, 2, none⟩ (.string s) = w6 := ⟨_, rfl⟩
    have r6 := hid (show Bx w6 (w.heap.size + 1) 24 #[.int .i64 3, .int .u64 n, .string s] from hw6 ▸ B5.out.rb.put3 _ _ _)
    have b6 := hid (show Below w.heap.size w w6 from hw6 ▸ bset3_below B5.out.bel (Nat.le_succ _))
    have nz : w.heap.size + 1 ≠ w.heap.size := by omega
    have v6 : Bx w6 w.heap.size 90 #[.int .u64 n, .string s] := hw6 ▸ ((B5.out.vb.far nz).far nz).far nz
    have T5 : Hid (w5.cell? ⟨w.heap.size, 0, none⟩ = some (.int .u64 n) ∧ w5.cell? ⟨w.heap.size, 1, none⟩ = some (.string s)) := ⟨B5.out.vb.cell 0 _ rfl, B5.out.vb.cell 1 _ rfl⟩
    have T6 : Hid (w6.cell? ⟨w.heap.size, 0, none⟩ = some (.int .u64 n) ∧ w6.cell? ⟨w.heap.size, 1, none⟩ = some (.string s)) := ⟨v6.cell 0 _ rfl, v6.cell 1 _ rfl⟩
    clear v6 nz B5
    (try go_simp)
    (try simp only [Act.put]); (try simp only [List.setIfInBounds_toArray]); (try simp only [List.set_cons_succ]); (try simp only [List.set_cons_zero])
    refine hK.out _ _ T5.out (fun hHeld => ?_)
    clear hK K
    refine wpAnyH_take (i := 5) (oi := { dst := some 8, op := Go.Op.build 24 #[(0, Go.Operand.const (Go.Value.int Go.IntKind.i64 3)), (1, Go.Operand.tmp 4), (2, Go.Operand.tmp 7)], type := 24, pos := "content.go:37", after := #[{ on := 1, ground := Go.Ground.data }, { on := 4, ground := Go.Ground.data }], guard := none }) (v := ?_) rfl (by kernel_rfl) (by kernel_rfl) (by kernel_rfl) (fun _ _ _ h => h) (Or.inl ⟨by rfl, ?_⟩) (by assumption) ?_
    rotate_left
    · (intro w hSw; (try dsimp only at hSw); go_simp; try with_reducible rfl)
    (try simp only [Act.put]); (try simp only [List.setIfInBounds_toArray]); (try simp only [List.set_cons_succ]); (try simp only [List.set_cons_zero])
    refine wpAnyH_ready (rs := [6]) (by kernel_rfl) (by simp) ?_
    refine AllReadyH.cons (o := { dst := none, op := Go.Op.store 24 (Go.Operand.tmp 2) (Go.Operand.tmp 8), type := 0, pos := "content.go:37", after := #[{ on := 5, ground := Go.Ground.data }, { on := 4, ground := Go.Ground.chain }, { on := 0, ground := Go.Ground.phase }, { on := 1, ground := Go.Ground.phase }, { on := 2, ground := Go.Ground.phase }, { on := 3, ground := Go.Ground.phase }, { on := 4, ground := Go.Ground.phase }, { on := 5, ground := Go.Ground.phase }], guard := none }) rfl (fun K hK => ?_) (AllReadyH.nil)
    · rw [if_pos (by rfl)]
      refine wp_store_mid 24 _ _ rfl (w.heap.size + 1) 0 #[.int .i64 3, .int .u64 n, .string s] rfl rfl tR.out (by kernel_rfl) oR.out ?_
      change K _ (((w5.setCell ⟨w.heap.size + 1, 0, none⟩ (.int .i64 3)).setCell ⟨w.heap.size + 1, 1, none⟩ (.int .u64 n)).setCell ⟨w.heap.size + 1, 2, none⟩ (.string s))
      rw [hw6]
      (try simp only [Act.put]); (try simp only [List.setIfInBounds_toArray]); (try simp only [List.set_cons_succ]); (try simp only [List.set_cons_zero])
      refine hK.out _ _ T6.out (fun hHeld => ?_)
      clear hK K
      refine wpAnyH_done (by kernel_rfl) ?_ _
      go_wp2_with fail
      (try simp only [Exit.inBlock, Exit.then])
      refine bodyPost_ret (results_cell_row rfl _ _ (w.heap.size + 1) 24 _ (0, 0) _ rfl r6.out Tryz.underlying24 rfl (by kernel_rfl)) rfl ?_
      exact ⟨rfl, b6.out⟩

set_option maxRecDepth 100000 in
set_option maxHeartbeats 1000000 in
theorem vplainT_any (n : Int) (s : ByteArray) (w : World) (hs : s.size ≤ 281474976710656) : Calls Tryz.prog 13 #[.agg #[.int .i64 2, .int .u64 n, .string s]] w fun e w' => e = .returned (.agg #[.int .i64 2, .int .u64 0, .string s]) ∧ Below w.heap.size w w' := by
  have IN1 : Hid (∀ W, Calls Tryz.prog 26 #[.agg #[.int .i64 2, .int .u64 n, .string s]] W fun e w' => e = .returned (.iface 62 (.agg #[.string s])) ∧ Below W.heap.size W w') := fun W => vinside_any 2 n s W
  have PN := hid (fun W => tplain_any s W hs)
  have B0 := hid (Re.RP.new w 2 n s)
  go_enter Tryz.func13, Tryz.ntmps13
  go_wp2_with fail
  generalize (w.alloc (.cells #[.int .i64 2, .int .u64 n, .string s] 24)).alloc (.cells #[.int .i64 0, .int .u64 0, .string ⟨#[]⟩] 24) = wA at *
  refine (IN1.out _).mono ?_
  rintro e w1 ⟨rfl, b1⟩
  have B1 := hid (B0.out.on b1)
  clear b1 B0 IN1
  go_wp2_with fail
  refine (PN.out _).mono ?_
  rintro e w2 ⟨rfl, b2⟩
  have B2 := hid (B1.out.on b2)
  clear b2 B1 PN
  have c0 := B2.out.rb.cell 0 _ rfl
  have c1 := B2.out.rb.cell 1 _ rfl
  have c2 := B2.out.rb.cell 2 _ rfl
  have f0 := B2.out.rb.free 0
  have f1 := B2.out.rb.free 1
  have f2 := B2.out.rb.free 2
  go_wp2_with fail
  (try simp only [Exit.inBlock, Exit.then])
  refine bodyPost_ret (results_cell_row rfl _ _ (w.heap.size + 1) 24 _ (0, 0) _ rfl (B2.out.rb.put3 _ _ _) Tryz.underlying24 rfl (by kernel_rfl)) rfl ?_
  exact ⟨rfl, bset3_below B2.out.bel (Nat.le_succ _)⟩

set_option maxRecDepth 100000 in
set_option maxHeartbeats 1000000 in
theorem vplainS_any (n : Int) (s : ByteArray) (w : World) (hs : s.size ≤ 281474976710656) : Calls Tryz.prog 13 #[.agg #[.int .i64 3, .int .u64 n, .string s]] w fun e w' => e = .returned (.agg #[.int .i64 3, .int .u64 n, .string s]) ∧ Below w.heap.size w w' := by
  have IN1 : Hid (∀ W, Calls Tryz.prog 26 #[.agg #[.int .i64 3, .int .u64 n, .string s]] W fun e w' => e = .returned (.iface 90 (.agg #[.int .u64 n, .string s])) ∧ Below W.heap.size W w') := fun W => vinside_any 3 n s W
  have PN := hid (fun W => splain_any n s W hs)
  have B0 := hid (Re.RP.new w 3 n s)
  go_enter Tryz.func13, Tryz.ntmps13
  go_wp2_with fail
  generalize (w.alloc (.cells #[.int .i64 3, .int .u64 n, .string s] 24)).alloc (.cells #[.int .i64 0, .int .u64 0, .string ⟨#[]⟩] 24) = wA at *
  refine (IN1.out _).mono ?_
  rintro e w1 ⟨rfl, b1⟩
  have B1 := hid (B0.out.on b1)
  clear b1 B0 IN1
  go_wp2_with fail
  refine (PN.out _).mono ?_
  rintro e w2 ⟨rfl, b2⟩
  have B2 := hid (B1.out.on b2)
  clear b2 B1 PN
  have c0 := B2.out.rb.cell 0 _ rfl
  have c1 := B2.out.rb.cell 1 _ rfl
  have c2 := B2.out.rb.cell 2 _ rfl
  have f0 := B2.out.rb.free 0
  have f1 := B2.out.rb.free 1
  have f2 := B2.out.rb.free 2
  go_wp2_with fail
  (try simp only [Exit.inBlock, Exit.then])
  refine bodyPost_ret (results_cell_row rfl _ _ (w.heap.size + 1) 24 _ (0, 0) _ rfl (B2.out.rb.put3 _ _ _) Tryz.underlying24 rfl (by kernel_rfl)) rfl ?_
  exact ⟨rfl, bset3_below B2.out.bel (Nat.le_succ _)⟩

set_option maxRecDepth 100000 in
set_option maxHeartbeats 1000000 in
theorem vplainO_any (k n : Int) (s : ByteArray) (w : World) (k1 : k ≠ 1) (k2 : k ≠ 2) (k3 : k ≠ 3) : Calls Tryz.prog 13 #[.agg #[.int .i64 k, .int .u64 n, .string s]] w fun e w' => e = .returned (.agg #[.int .i64 0, .int .u64 0, .string ⟨#[]⟩]) ∧ Below w.heap.size w w' := by
  have IN1 : Hid (∀ W, Calls Tryz.prog 26 #[.agg #[.int .i64 k, .int .u64 n, .string s]] W fun e w' => e = .returned (.iface 94 (.agg #[])) ∧ Below W.heap.size W w') := fun W => by
    have h := vinside_any k n s W
    rw [Va.ins, if_neg k1, if_neg k2, if_neg k3] at h
    exact h
  have PN := hid (fun W => oplain_any W)
  have B0 := hid (Re.RP.new w k n s)
  clear k1 k2 k3
  go_enter Tryz.func13, Tryz.ntmps13
  go_wp2_with fail
  generalize (w.alloc (.cells #[.int .i64 k, .int .u64 n, .string s] 24)).alloc (.cells #[.int .i64 0, .int .u64 0, .string ⟨#[]⟩] 24) = wA at *
  refine (IN1.out _).mono ?_
  rintro e w1 ⟨rfl, b1⟩
  have B1 := hid (B0.out.on b1)
  clear b1 B0 IN1
  go_wp2_with fail
  refine (PN.out _).mono ?_
  rintro e w2 ⟨rfl, b2⟩
  have B2 := hid (B1.out.on b2)
  clear b2 B1 PN
  have c0 := B2.out.rb.cell 0 _ rfl
  have c1 := B2.out.rb.cell 1 _ rfl
  have c2 := B2.out.rb.cell 2 _ rfl
  have f0 := B2.out.rb.free 0
  have f1 := B2.out.rb.free 1
  have f2 := B2.out.rb.free 2
  go_wp2_with fail
  (try simp only [Exit.inBlock, Exit.then])
  refine bodyPost_ret (results_cell_row rfl _ _ (w.heap.size + 1) 24 _ (0, 0) _ rfl (B2.out.rb.put3 _ _ _) Tryz.underlying24 rfl (by kernel_rfl)) rfl ?_
  exact ⟨rfl, bset3_below B2.out.bel (Nat.le_succ _)⟩

namespace Re
/-- What value.Plain makes of a Value. -/
def pk (k : Int) : Int := if k = 1 then 1 else if k = 2 then 2 else if k = 3 then 3 else 0
def pn (k n : Int) : Int := if k = 1 then n else if k = 2 then 0 else if k = 3 then n else 0
def ps (k : Int) (s : ByteArray) : ByteArray := if k = 1 then ⟨#[]⟩ else if k = 2 then s else if k = 3 then s else ⟨#[]⟩
end Re

theorem vplain_any (k n : Int) (s : ByteArray) (w : World) (hs : s.size ≤ 281474976710656) : Calls Tryz.prog 13 #[.agg #[.int .i64 k, .int .u64 n, .string s]] w fun e w' => e = .returned (.agg #[.int .i64 (Re.pk k), .int .u64 (Re.pn k n), .string (Re.ps k s)]) ∧ Below w.heap.size w w' := by
  by_cases k1 : k = 1
  · subst k1; exact vplainN_any n s w
  by_cases k2 : k = 2
  · subst k2; exact vplainT_any n s w hs
  by_cases k3 : k = 3
  · subst k3; exact vplainS_any n s w hs
  simp only [Re.pk, Re.pn, Re.ps, if_neg k1, if_neg k2, if_neg k3]
  exact vplainO_any k n s w k1 k2 k3
end Go.Proofs.YtigmhnlcmhpepaaGreatDoor

namespace Go.Proofs.YtigmhnlcmhpepaaGreatDoor
open Go Go.RowKit Go.Deep Go.Shelf

set_option maxRecDepth 100000 in
theorem made_nil (w : World) : Calls Tryz.prog 29 #[.pointer none] w fun e w' => e = .returned (.bool false) ∧ w' = w := by
  go_enter Tryz.func29, Tryz.ntmps29
  go_wp2_with fail
  go_ret
  exact ⟨rfl, rfl⟩

set_option maxRecDepth 100000 in
theorem len_nil (w : World) : Calls Tryz.prog 16 #[.pointer none] w fun e w' => e = .returned (.int .i64 0) ∧ w' = w := by
  have MA := hid (made_nil w)
  go_enter Tryz.func16, Tryz.ntmps16
  go_wp2_with fail
  refine MA.out.mono ?_
  rintro e w1 ⟨rfl, rfl⟩
  clear MA
  go_wp2_with fail
  go_ret
  exact ⟨rfl, rfl⟩

set_option maxRecDepth 100000 in
theorem qpush_nil (k n : Int) (s : ByteArray) (w : World) : Calls Tryz.prog 12 #[.pointer none, .agg #[.int .i64 k, .int .u64 n, .string s]] w fun e w' => e = .returned (.int .i64 0) ∧ Below w.heap.size w w' := by
  have B0 := hid (alloc_b w (.cells #[.int .i64 k, .int .u64 n, .string s] 24))
  have MA := hid (fun W => made_nil W)
  go_enter Tryz.func12, Tryz.ntmps12
  go_wp2_with fail
  generalize w.alloc (.cells #[.int .i64 k, .int .u64 n, .string s] 24) = wa at *
  refine (MA.out _).mono ?_
  rintro e w1 ⟨rfl, rfl⟩
  clear MA
  go_wp2_with fail
  go_ret
  exact ⟨rfl, B0.out⟩

set_option maxRecDepth 100000 in
set_option maxHeartbeats 1000000 in
theorem qpop_nil (w : World) : Calls Tryz.prog 14 #[.pointer none] w fun e w' => e = .returned (.tuple #[.agg #[.int .i64 0, .int .u64 0, .string ⟨#[]⟩], .int .i64 0, .bool false]) ∧ Below w.heap.size w w' := by
  have b0 := hid (alloc_b w (.cells #[.int .i64 0, .int .u64 0, .string ⟨#[]⟩] 24))
  have r0 := hid (Bx.new w 24 #[.int .i64 0, .int .u64 0, .string ⟨#[]⟩])
  have LE := hid (fun W => len_nil W)
  go_enter Tryz.func14, Tryz.ntmps14
  go_wp2_with fail
  generalize w.alloc (.cells #[.int .i64 0, .int .u64 0, .string ⟨#[]⟩] 24) = wa at *
  refine (LE.out _).mono ?_
  rintro e w1 ⟨rfl, rfl⟩
  clear LE
  have c0 := r0.out.cell 0 _ rfl
  have c1 := r0.out.cell 1 _ rfl
  have c2 := r0.out.cell 2 _ rfl
  have f0 := r0.out.free 0
  have f1 := r0.out.free 1
  have f2 := r0.out.free 2
  go_wp2_with fail
  (try simp only [Exit.inBlock, Exit.then])
  refine bodyPost_ret (results_c3 rfl _ _ w.heap.size 24 _ (0, 0) _ rfl (r0.out.put3 _ _ _) Tryz.underlying24 rfl (by kernel_rfl)) rfl ?_
  exact ⟨rfl, bset3_below b0.out (Nat.le_refl _)⟩


/-- pop of a queue of one. -/
theorem pop_one (base q h g cap : Nat) (x : Re.En) (c : Int) (hcap : 1 ≤ cap) (hm : cap ≤ 9223372036854775807) (W : World) (s : Re.QS base q h (.slice (some ⟨g, 0, none⟩) 1 cap) [x] c W) :
    Calls Tryz.prog 32 #[.pointer (some ⟨h, 0, none⟩)] W fun e w' => e = .returned (.agg (Re.ee x).toArray) ∧ Re.QS base q h (.slice (some ⟨g, 0, none⟩) 0 cap) [] c w' ∧ Re.Kp (fun b => b = h ∨ b = g) W w' := by
  refine (hpop_any base h g cap [x] [] x x 1 0 W s.hb s.row rfl rfl (by omega) hcap hm rfl rfl (fun W' hb hr => ?_)).mono ?_
  · refine (down_small h g cap 0 _ W' hb (Nat.zero_le _)).mono ?_
    rintro e w' ⟨rfl, rfl⟩
    exact ⟨rfl, hr, Re.Kp.refl _ _⟩
  · rintro e w' ⟨rfl, hb, hr, hk⟩
    refine ⟨rfl, ⟨s.qb.kp hk ?_, hb, hr, s.bq, s.bh⟩, hk⟩
    rintro (z | z)
    · exact s.qh z
    · exact s.row.apart s.qb (by decide) (by rw [z]; rfl)

namespace Re
theorem pn_ok {k n : Int} (h : 0 ≤ n ∧ n < 18446744073709551616) : 0 ≤ pn k n ∧ pn k n < 18446744073709551616 := by
  unfold pn
  split
  · exact h
  split
  · omega
  split
  · exact h
  · omega
end Re

/-- A value is put into an empty queue. -/
theorem push_void (base q h : Nat) (mv : Value) (c k n : Int) (s : ByteArray) (w : World) (st : Re.QS base q h mv [] c w) (c0 : 0 ≤ c) (c1 : c < 1000000000000000) (hn : 0 ≤ n ∧ n < 18446744073709551616) (hs : s.size ≤ 281474976710656) (hb : base ≤ w.heap.size) :
    Calls Tryz.prog 12 #[.pointer (some ⟨q, 0, none⟩), .agg #[.int .i64 k, .int .u64 n, .string s]] w fun e w' => e = .returned (.int .i64 c) ∧ (∃ mv' x, Re.QS base q h mv' [x] (c + 1) w') ∧ Below base w w' := by
  have pn := Re.pn_ok (k := k) hn
  refine (qpush_any base q h mv [] c k n s (Re.pk k) (Re.pn k n) (Re.ps k s) w st (by decide) c0 c1 pn.1 pn.2 hb (fun W => vplain_any k n s W hs)).mono ?_
  rintro e w' ⟨rfl, ⟨mv', s'⟩, kk⟩
  rw [show ([] : List Re.En).length = 0 from rfl, Re.upF_zero] at s'
  exact ⟨rfl, ⟨mv', _, s'⟩, st.bel kk hb⟩

/-- And taken out again. -/
theorem pop_void (base q h : Nat) (mv : Value) (x : Re.En) (c : Int) (w : World) (st : Re.QS base q h mv [x] c w) (hb : base ≤ w.heap.size) :
    Calls Tryz.prog 14 #[.pointer (some ⟨q, 0, none⟩)] w fun e w' => ∃ k n s i, e = .returned (.tuple #[.agg #[.int .i64 k, .int .u64 n, .string s], .int .i64 i, .bool true]) ∧ (∃ mv', Re.QS base q h mv' [] c w') ∧ Below base w w' := by
  obtain ⟨g, cap, rfl, h1, h2, h3, _⟩ := st.row.open (by simp)
  have hg : g < w.heap.size := (World.ownsRow.lt st.row g rfl).2
  have bh := st.bh
  refine (qpop_any base q h _ _ [x] [] c x (fun b => b = h ∨ b = g) w st (by simp) (fun b e => by rcases e with e | e; rw [e]; exact st.hb.lt; rw [e]; exact hg) (fun W' s' => pop_one base q h g cap x c h1 (by simp only [maxLen] at h2; omega) W' s')).mono ?_
  rintro e w' ⟨rfl, s', k⟩
  exact ⟨_, _, _, _, rfl, ⟨_, s'⟩, k.below hb (fun b e => by rcases e with e | e; rw [e]; exact bh; rw [e]; exact h3)⟩
end Go.Proofs.YtigmhnlcmhpepaaGreatDoor

namespace Go.Proofs.YtigmhnlcmhpepaaGreatDoor
open Go Go.RowKit Go.Deep Go.Shelf

/-- pop of a queue of two or more. -/
theorem pop_more (base q h g cap : Nat) (E : List Re.En) (c : Int) (l : Nat) (hl : E.length = l + 1) (l0 : 0 < l) (hE : E.length ≤ 1000000000000) (hcap : E.length ≤ cap) (hm : cap ≤ 9223372036854775807) (W : World) (s : Re.QS base q h (.slice (some ⟨g, 0, none⟩) E.length cap) E c W) :
    Calls Tryz.prog 32 #[.pointer (some ⟨h, 0, none⟩)] W fun e w' => e = .returned (.agg (Re.ee (Re.gt E 0)).toArray) ∧ Re.QS base q h (.slice (some ⟨g, 0, none⟩) l cap) (Re.downF ((E.set 0 (Re.gt E l)).take l) 0) c w' ∧ Re.Kp (fun b => b = h ∨ b = g) W w' := by
  have hgh : h ≠ g := fun e => s.row.apart s.hb (by decide) (by rw [e]; rfl)
  have at0 : ∀ k, k < E.length → E[k]? = some (Re.gt E k) := fun k hk => by
    unfold Re.gt
    rw [List.getD_eq_getElem?_getD, List.getElem?_eq_getElem hk]
    rfl
  have len : ((E.set 0 (Re.gt E l)).take l).length = l := by rw [List.length_take, List.length_set]; omega
  refine (hpop_any base h g cap E (Re.downF ((E.set 0 (Re.gt E l)).take l) 0) (Re.gt E 0) (Re.gt E l) E.length l W s.hb s.row rfl hl hE hcap hm (at0 0 (by omega)) (at0 l (by omega)) (fun W' hb hr => ?_)).mono ?_
  · have d := down_any base h g cap ((E.set 0 (Re.gt E l)).take l) 0 W' (by rw [len]; exact hb) (by rw [len]; exact hr) (by omega) (by omega) hgh
    rw [len] at d
    exact d
  · rintro e w' ⟨rfl, hb, hr, hk⟩
    refine ⟨rfl, ⟨s.qb.kp hk ?_, hb, hr, s.bq, s.bh⟩, hk⟩
    rintro (z | z)
    · exact s.qh z
    · exact s.row.apart s.qb (by decide) (by rw [z]; rfl)

/-- Pop, where something is in. -/
theorem qpop_gen (base q h : Nat) (mv : Value) (E : List Re.En) (c : Int) (w : World) (st : Re.QS base q h mv E c w) (hne : 0 < E.length) (hE : E.length ≤ 1000000000000) (hp : Re.Hp E) (hb : base ≤ w.heap.size) :
    Calls Tryz.prog 14 #[.pointer (some ⟨q, 0, none⟩)] w fun e w' => e = .returned (.tuple #[.agg #[.int .i64 (Re.gt E 0).k, .int .u64 (Re.gt E 0).n, .string (Re.gt E 0).s], .int .i64 (Re.gt E 0).x.i, .bool true]) ∧ (∃ mv' E', Re.QS base q h mv' E' c w' ∧ Re.Hp E' ∧ (Re.gt E 0 :: E').Perm E) ∧ Below base w w' ∧ Re.Kp (fun b => b = q ∨ b = h ∨ mv.ownBlock = some b) w w' := by
  obtain ⟨g, cap, rfl, h1, h2, h3, _⟩ := st.row.open (List.ne_nil_of_length_pos hne)
  have hg : g < w.heap.size := (World.ownsRow.lt st.row g rfl).2
  have bh := st.bh
  have hcm : cap ≤ 9223372036854775807 := by simp only [maxLen] at h2; omega
  have hS : ∀ b, b = h ∨ b = g → b < w.heap.size := fun b e => by
    rcases e with e | e
    · rw [e]; exact st.hb.lt
    · rw [e]; exact hg
  have hB : ∀ b, b = h ∨ b = g → base ≤ b := fun b e => by
    rcases e with e | e
    · rw [e]; exact bh
    · rw [e]; exact h3
  have hM : ∀ b, b = h ∨ b = g → b = q ∨ b = h ∨ (Value.slice (some ⟨g, 0, none⟩) E.length cap).ownBlock = some b := fun b e => by
    rcases e with e | e
    · exact .inr (.inl e)
    · exact .inr (.inr (by rw [e]; rfl))
  obtain ⟨l, hl⟩ : ∃ l, E.length = l + 1 := ⟨E.length - 1, by omega⟩
  rcases Nat.eq_zero_or_pos l with l0 | l0
  · subst l0
    obtain ⟨x, rfl⟩ : ∃ x, E = [x] := by
      match E, hl with
      | [x], _ => exact ⟨x, rfl⟩
    refine (qpop_any base q h _ _ [x] [] c x (fun b => b = h ∨ b = g) w st (by simp) hS (fun W' s' => pop_one base q h g cap x c h1 hcm W' s')).mono ?_
    rintro e w' ⟨rfl, s', k⟩
    exact ⟨rfl, ⟨_, [], s', fun j _ z => absurd z (Nat.not_lt_zero _), List.Perm.refl _⟩, k.below hb hB, k.mono hM⟩
  · refine (qpop_any base q h _ _ E _ c (Re.gt E 0) (fun b => b = h ∨ b = g) w st hne hS (fun W' s' => pop_more base q h g cap E c l hl l0 hE h1 hcm W' s')).mono ?_
    rintro e w' ⟨rfl, s', k⟩
    obtain ⟨p1, p2⟩ := hp.pop hl l0
    exact ⟨rfl, ⟨_, _, s', p1, p2⟩, k.below hb hB, k.mono hM⟩

/-- Push. -/
theorem qpush_gen (base q h : Nat) (mv : Value) (E : List Re.En) (c k n : Int) (s : ByteArray) (w : World) (st : Re.QS base q h mv E c w) (hE : E.length < 1000000000000) (hp : Re.Hp E) (c0 : 0 ≤ c) (c1 : c < 1000000000000000) (hn : 0 ≤ n ∧ n < 18446744073709551616) (hs : s.size ≤ 281474976710656) (hb : base ≤ w.heap.size) :
    Calls Tryz.prog 12 #[.pointer (some ⟨q, 0, none⟩), .agg #[.int .i64 k, .int .u64 n, .string s]] w fun e w' => e = .returned (.int .i64 c) ∧ (∃ mv' E', Re.QS base q h mv' E' (c + 1) w' ∧ Re.Hp E' ∧ E'.Perm (E ++ [⟨⟨Re.rt (Re.pk k) (Re.pn k n) (Re.ps k s), c⟩, Re.pk k, Re.pn k n, Re.ps k s⟩])) ∧ Below base w w' ∧ Re.Kp (fun b => b = q ∨ b = h ∨ mv.ownBlock = some b) w w' := by
  have pn := Re.pn_ok (k := k) hn
  refine (qpush_any base q h mv E c k n s (Re.pk k) (Re.pn k n) (Re.ps k s) w st hE c0 c1 pn.1 pn.2 hb (fun W => vplain_any k n s W hs)).mono ?_
  rintro e w' ⟨rfl, ⟨mv', s'⟩, kk⟩
  obtain ⟨p1, p2⟩ := hp.push ⟨⟨Re.rt (Re.pk k) (Re.pn k n) (Re.ps k s), c⟩, Re.pk k, Re.pn k n, Re.ps k s⟩
  exact ⟨rfl, ⟨mv', _, s', p1, p2⟩, st.bel kk hb, kk⟩
end Go.Proofs.YtigmhnlcmhpepaaGreatDoor

namespace Go.Proofs.YtigmhnlcmhpepaaGreatDoor
open Go Go.RowKit Go.Deep Go.Shelf

namespace Re
/-- An Op of the law. -/
structure Op where
  kind : Int
  n : Int
  a : Vl
  b : Vl
  c : ByteArray
  lp : Option Addr
  ll : Nat
  lc : Nat
  w : Int
/-- A list of Ops, readable. -/
def LO (w : World) (p : Option Addr) (A : List Op) : Prop := A = [] ∨ ∃ b off, p = some ⟨b, off, none⟩ ∧ ∀ i o, A[i]? = some o →
  w.rangeAt b (off + i * 11) [.int .i64 o.kind, .int .i64 o.n, .int .i64 o.a.k, .int .u64 o.a.n, .string o.a.s, .int .i64 o.b.k, .int .u64 o.b.n, .string o.b.s, .string o.c, .slice o.lp o.ll o.lc, .int .i64 o.w]
theorem LO.on {w w' : World} {p : Option Addr} {A : List Op} (h : LO w p A) (b : Below w.heap.size w w') : LO w' p A := by
  rcases h with h | ⟨g, o, e, h⟩
  · exact .inl h
  · refine .inr ⟨g, o, e, fun i a hi j v hv => ?_⟩
    have c := h i a hi j v hv
    rw [b.cell (cell_lt c)]
    exact c
theorem LO.at {w : World} {p : Option Addr} {A : List Op} (h : LO w p A) {i : Nat} {o : Op} (hi : A[i]? = some o) : ∃ b off, p = some ⟨b, off, none⟩ ∧ w.rangeAt b (off + i * 11) [.int .i64 o.kind, .int .i64 o.n, .int .i64 o.a.k, .int .u64 o.a.n, .string o.a.s, .int .i64 o.b.k, .int .u64 o.b.n, .string o.b.s, .string o.c, .slice o.lp o.ll o.lc, .int .i64 o.w] := by
  rcases h with rfl | ⟨g, f, e, h⟩
  · simp at hi
  · exact ⟨g, f, e, h i o hi⟩
def OpW (o : Op) : Prop := (0 ≤ o.a.n ∧ o.a.n < 18446744073709551616) ∧ o.a.s.size ≤ 140737488355328 ∧ o.b.s.size ≤ 140737488355328 ∧ o.c.size ≤ 140737488355328 ∧ o.ll ≤ 4398046511104
end Re

set_option maxRecDepth 100000 in
set_option maxHeartbeats 4000000 in
theorem much_any (p : Option Addr) (cap : Nat) (A : List Re.Op) (w : World) (hv : Re.LO w p A) (hw : ∀ o ∈ A, Re.OpW o) (hl : A.length ≤ 4398046511104) :
    Calls Tryz.prog 10 #[.slice p A.length cap] w fun e w' => (e = .returned (.bool true) ∨ e = .returned (.bool false) ∧ 2 * A.length ≤ 1048576) ∧ Below w.heap.size w w' := by
  obtain ⟨n, hn⟩ : ∃ n, A.length = n := ⟨_, rfl⟩
  have HN := hid hn
  have HV := hid hv
  have HW := hid hw
  rw [hn] at hl ⊢
  have ln : (n : Int) ≤ 4398046511104 := by omega
  clear hv hw hn
  go_enter Tryz.func10, Tryz.ntmps10
  go_wp2_with fail
  go_loopg [3, 4, 5] n (fun m nv bv iv wr => ∃ i nn bb : Nat, Hid (i + m = n) ∧ nv = .int .i64 (nn : Int) ∧ bv = .int .i64 (bb : Int) ∧ iv = .int .i64 (i : Int) ∧ Hid (2 * i ≤ nn ∧ i ≤ n) ∧ Hid (Below w.heap.size w wr))
  case atStart => exact ⟨0, 0, 0, by rw [Hid]; omega, rfl, rfl, rfl, by rw [Hid]; omega, Below.refl _ _⟩
  case round =>
    obtain ⟨i, nn, bb, hi, rfl, rfl, rfl, hni, I⟩ := hrel
    by_cases c : i < n ∧ nn ≤ 1048576 ∧ bb ≤ 16777216
    · have c1 : (i : Int) < (n : Int) := by omega
      have c2 : (nn : Int) ≤ 1048576 := by omega
      have c3 : (bb : Int) ≤ 16777216 := by omega
      obtain ⟨o, ho⟩ : ∃ o, A[i]? = some o := ⟨_, List.getElem?_eq_getElem (by have := HN.out; omega)⟩
      obtain ⟨b, off, rfl, rr⟩ := (HV.out.on I.out).at ho
      obtain ⟨-, s1, s2, s3, s4⟩ := HW.out o (List.mem_of_getElem? ho)
      have d4 := rr 4 _ rfl
      have d7 := rr 7 _ rfl
      have d8 := rr 8 _ rfl
      have d9 := rr 9 _ rfl
      have w1 : IntKind.i64.wrap ((nn : Int) + (o.ll : Int)) = (nn : Int) + (o.ll : Int) := by rw [IntKind.wrap_i64]; omega
      have w2 : IntKind.i64.wrap ((nn : Int) + (o.ll : Int) + 2) = (nn : Int) + (o.ll : Int) + 2 := by rw [IntKind.wrap_i64]; omega
      have v1 : IntKind.i64.wrap ((bb : Int) + (o.a.s.size : Int)) = (bb : Int) + (o.a.s.size : Int) := by rw [IntKind.wrap_i64]; omega
      have v2 : IntKind.i64.wrap ((bb : Int) + (o.a.s.size : Int) + (o.b.s.size : Int)) = (bb : Int) + (o.a.s.size : Int) + (o.b.s.size : Int) := by rw [IntKind.wrap_i64]; omega
      have v3 : IntKind.i64.wrap ((bb : Int) + (o.a.s.size : Int) + (o.b.s.size : Int) + (o.c.size : Int)) = (bb : Int) + (o.a.s.size : Int) + (o.b.s.size : Int) + (o.c.size : Int) := by rw [IntKind.wrap_i64]; omega
      have KN := hid (fun q => below_on I.out (below_drewN (Below.refl wr.heap.size wr) q))
      have cc := hid c
      clear rr ho I c s1 s2 s3 s4
      go_upto_region 7 with fail
      go_quiet (fail)
      go_wp2_with fail
      go_roundg (n - (i + 1))
      case measure => have := hi.out; have := cc.out; omega
      case rel => exact ⟨i + 1, nn + o.ll + 2, bb + o.a.s.size + o.b.s.size + o.c.size, by rw [Hid]; have := cc.out; omega, by go_num, by go_num, by go_num, by rw [Hid]; have := cc.out; have := hni.out; omega, KN.out _⟩
    · have R : Hid (Below w.heap.size w wr ∧ (¬ (1048576 < (nn : Int)) → ¬ (16777216 < (bb : Int)) → 2 * n ≤ 1048576)) := ⟨I.out, fun z1 z2 => by have := hni.out; omega⟩
      have cs : ¬ (i : Int) < (n : Int) ∨ ((i : Int) < (n : Int) ∧ ¬ (nn : Int) ≤ 1048576) ∨ ((i : Int) < (n : Int) ∧ (nn : Int) ≤ 1048576 ∧ ¬ (bb : Int) ≤ 16777216) := by omega
      clear I hni hi c
      by_cases z1 : 1048576 < (nn : Int)
      · rcases cs with c1 | ⟨c1, c2⟩ | ⟨c1, c2, c3⟩
        · go_wp2_with fail
          go_ret
          exact ⟨.inl rfl, R.out.1⟩
        · go_wp2_with fail
          go_ret
          exact ⟨.inl rfl, R.out.1⟩
        · omega
      · by_cases z2 : 16777216 < (bb : Int)
        · rcases cs with c1 | ⟨c1, c2⟩ | ⟨c1, c2, c3⟩
          · go_wp2_with fail
            go_ret
            exact ⟨.inl rfl, R.out.1⟩
          · omega
          · go_wp2_with fail
            go_ret
            exact ⟨.inl rfl, R.out.1⟩
        · rcases cs with c1 | ⟨c1, c2⟩ | ⟨c1, c2, c3⟩
          · go_wp2_with fail
            go_ret
            exact ⟨.inr ⟨rfl, R.out.2 (by omega) (by omega)⟩, R.out.1⟩
          · omega
          · omega
end Go.Proofs.YtigmhnlcmhpepaaGreatDoor
