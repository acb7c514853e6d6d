/-
  Texts put together: ReP, ReNo, ReNoL, ReNoV.
-/
import Derived.Test.YthpecfncndclfabGreatDoorReL
import Derived.Test.YthpecfncndclfabGreatDoorVClone
import Derived.Test.YthpecfncndclfabGreatDoorReU
import Derived.Deep.LoopGhost
import Derived.Test.YthpecfncndclfabGreatDoorOpenValR
namespace Go.Proofs.YthpecfncndclfabGreatDoor
open Go Go.RowKit Go.Deep Go.Shelf

namespace Re
/-- The box of an argument, and one of zeros. -/
structure RQ (w : World) (t : TypeId) (a : Array Value) (W : World) : Prop where
  bel : Below w.heap.size w W
  vb : Bx W w.heap.size t a
  rb : Bx W (w.heap.size + 1) 26 #[.int .i64 0, .int .u64 0, .string ⟨#[]⟩]
theorem RQ.new (w : World) (t : TypeId) (a : Array Value) : RQ w t a ((w.alloc (.cells a t)).alloc (.cells #[.int .i64 0, .int .u64 0, .string ⟨#[]⟩] 26)) := by
  have sz : (w.alloc (.cells a t)).heap.size = w.heap.size + 1 := Array.size_push ..
  refine ⟨below_on (alloc_b w _) (alloc_b _ _), (Bx.new w t a).on (alloc_b _ _), ?_⟩
  rw [← sz]
  exact Bx.new _ _ _
theorem RQ.on {w W W' : World} {t : TypeId} {a : Array Value} (h : RQ w t a W) (b : Below W.heap.size W W') : RQ w t a W' := ⟨below_on h.bel b, h.vb.on b, h.rb.on b⟩
end Re

set_option maxRecDepth 100000 in
set_option maxHeartbeats 1000000 in
theorem oplain_any (w : World) : Calls Tryz.prog 279 #[.agg #[]] w fun e w' => e = .returned (.agg #[.int .i64 0, .int .u64 0, .string ⟨#[]⟩]) ∧ Below w.heap.size w w' := by
  have B0 := hid (Re.RQ.new w 115 #[])
  go_enter Tryz.func279, Tryz.ntmps279
  go_upto_region 1 with fail
  generalize (w.alloc (.cells #[] 115)).alloc (.cells #[.int .i64 0, .int .u64 0, .string ⟨#[]⟩] 26) = wA at *
  have c0 := B0.out.rb.cell 0 _ rfl
  have c1 := B0.out.rb.cell 1 _ rfl
  have c2 := B0.out.rb.cell 2 _ rfl
  have f0 := B0.out.rb.free 0
  have f1 := B0.out.rb.free 1
  have f2 := B0.out.rb.free 2
  go_wp2_with fail
  (try simp only [Exit.inBlock, Exit.then])
  refine bodyPost_ret (results_cell_row rfl _ _ (w.heap.size + 1) 26 _ (0, 0) _ rfl (B0.out.rb.put3 _ _ _) Tryz.underlying26 rfl (by kernel_rfl)) rfl ?_
  exact ⟨rfl, bset3_below B0.out.bel (Nat.le_succ _)⟩

set_option maxRecDepth 100000 in
set_option maxHeartbeats 1000000 in
theorem tplain_any (s : ByteArray) (w : World) (hs : s.size ≤ 281474976710656) : Calls Tryz.prog 276 #[.agg #[.string s]] w fun e w' => e = .returned (.agg #[.int .i64 2, .int .u64 0, .string s]) ∧ Below w.heap.size w w' := by
  have B0 := hid (Re.RQ.new w 92 #[.string s])
  have CL := hid (fun W => vclone_any s W hs)
  clear hs
  go_enter Tryz.func276, Tryz.ntmps276
  go_upto_region 1 with fail
  generalize (w.alloc (.cells #[.string s] 92)).alloc (.cells #[.int .i64 0, .int .u64 0, .string ⟨#[]⟩] 26) = wA at *
  have v0 := B0.out.vb.cell 0 _ rfl
  go_wp2_with fail
  refine (CL.out _).mono ?_
  rintro e w1 ⟨rfl, b1⟩
  have B1 := hid (B0.out.on b1)
  clear b1 B0 CL v0
  have c0 := B1.out.rb.cell 0 _ rfl
  have c1 := B1.out.rb.cell 1 _ rfl
  have c2 := B1.out.rb.cell 2 _ rfl
  have f0 := B1.out.rb.free 0
  have f1 := B1.out.rb.free 1
  have f2 := B1.out.rb.free 2
  go_wp2_with fail
  (try simp only [Exit.inBlock, Exit.then])
  refine bodyPost_ret (results_cell_row rfl _ _ (w.heap.size + 1) 26 _ (0, 0) _ rfl (B1.out.rb.put3 _ _ _) Tryz.underlying26 rfl (by kernel_rfl)) rfl ?_
  exact ⟨rfl, bset3_below B1.out.bel (Nat.le_succ _)⟩

set_option maxRecDepth 100000 in
set_option maxHeartbeats 2000000 in
theorem splain_any (n : Int) (s : ByteArray) (w : World) (hs : s.size ≤ 281474976710656) : Calls Tryz.prog 278 #[.agg #[.int .u64 n, .string s]] w fun e w' => e = .returned (.agg #[.int .i64 3, .int .u64 n, .string s]) ∧ Below w.heap.size w w' := by
  have B0 := hid (Re.RQ.new w 98 #[.int .u64 n, .string s])
  have CL := hid (fun W => vclone_any s W hs)
  clear hs
  go_enter Tryz.func278, Tryz.ntmps278
  go_upto_region 1 with fail
  generalize (w.alloc (.cells #[.int .u64 n, .string s] 98)).alloc (.cells #[.int .i64 0, .int .u64 0, .string ⟨#[]⟩] 26) = wA at *
  have dd : Below wA.heap.size wA wA.drew := Below.drew (Below.refl _ _)
  have B1 := hid (B0.out.on dd)
  have T0 : Hid (wA.drew.cell? ⟨w.heap.size, 0, none⟩ = some (.int .u64 n) ∧ wA.drew.cell? ⟨w.heap.size, 1, none⟩ = some (.string s)) := ⟨B1.out.vb.cell 0 _ rfl, B1.out.vb.cell 1 _ rfl⟩
  have oR : Hid ((#[.int .i64 3, .int .u64 n, .string s] : Array Value).all (·.oneCell') = true) := by simp [Hid, Value.oneCell']
  clear dd B0
  refine wp_region_held_drew (S := (fun wx : World => wx.cell? ⟨w.heap.size, 0, none⟩ = some (.int .u64 n) ∧ wx.cell? ⟨w.heap.size, 1, none⟩ = some (.string s))) (by kernel_rfl) T0.out (fun hHeld => ?_)
  refine wpAnyH_take (i := 0) (oi := { dst := some 3, op := Go.Op.fieldAddr 98 (Go.Operand.tmp 1) 0, type := 0, pos := "content.go:37", after := #[], guard := none }) (v := ?_) rfl (by kernel_rfl) (by kernel_rfl) (by kernel_rfl) (fun _ _ _ h => h) (Or.inl ⟨by rfl, ?_⟩) (by assumption) ?_
  rotate_left
  · (intro w hSw; (try dsimp only at hSw); go_simp; try with_reducible rfl)
  (try simp only [Act.put]); (try simp only [List.setIfInBounds_toArray]); (try simp only [List.set_cons_succ]); (try simp only [List.set_cons_zero])
  refine wpAnyH_take (i := 1) (oi := { dst := some 4, op := Go.Op.load 24 (Go.Operand.tmp 3), type := 24, pos := "content.go:37", after := #[{ on := 0, ground := Go.Ground.data }], guard := none }) (v := ?_) rfl (by kernel_rfl) (by kernel_rfl) (by kernel_rfl) (fun _ _ _ h => h) (Or.inl ⟨by rfl, ?_⟩) (by assumption) ?_
  rotate_left
  · (intro w hSw; (try dsimp only at hSw); go_simp; try with_reducible rfl)
  (try simp only [Act.put]); (try simp only [List.setIfInBounds_toArray]); (try simp only [List.set_cons_succ]); (try simp only [List.set_cons_zero])
  refine wpAnyH_take (i := 2) (oi := { dst := some 5, op := Go.Op.fieldAddr 98 (Go.Operand.tmp 1) 1, type := 0, pos := "content.go:37", after := #[], guard := none }) (v := ?_) rfl (by kernel_rfl) (by kernel_rfl) (by kernel_rfl) (fun _ _ _ h => h) (Or.inl ⟨by rfl, ?_⟩) (by assumption) ?_
  rotate_left
  · (intro w hSw; (try dsimp only at hSw); go_simp; try with_reducible rfl)
  (try simp only [Act.put]); (try simp only [List.setIfInBounds_toArray]); (try simp only [List.set_cons_succ]); (try simp only [List.set_cons_zero])
  refine wpAnyH_take (i := 3) (oi := { dst := some 6, op := Go.Op.load 9 (Go.Operand.tmp 5), type := 9, pos := "content.go:37", after := #[{ on := 2, ground := Go.Ground.data }], guard := none }) (v := ?_) rfl (by kernel_rfl) (by kernel_rfl) (by kernel_rfl) (fun _ _ _ h => h) (Or.inl ⟨by rfl, ?_⟩) (by assumption) ?_
  rotate_left
  · (intro w hSw; (try dsimp only at hSw); go_simp; try with_reducible rfl)
  (try simp only [Act.put]); (try simp only [List.setIfInBounds_toArray]); (try simp only [List.set_cons_succ]); (try simp only [List.set_cons_zero])
  refine wpAnyH_ready (rs := [4]) (by kernel_rfl) (by simp) ?_
  refine AllReadyH.cons (o := { dst := some 7, op := Go.Op.call { callee := Go.Callee.value (Go.Operand.func 68), args := #[Go.Operand.tmp 6], argTypes := #[9] }, type := 9, pos := "content.go:37", after := #[{ on := 3, ground := Go.Ground.data }], guard := none }) rfl (fun K hK => ?_) (AllReadyH.nil)
  · rw [if_pos (by rfl)]
    go_simp
    with_reducible refine (CL.out _).mono ?_
    rintro e w5 ⟨rfl, b5⟩
    have B5 := hid (B1.out.on b5)
    clear b5 B1 CL
    have tR : Hid (w5.there (w.heap.size + 1) 0 3) := fun i hi => by
      refine ⟨?_, B5.out.rb.free _⟩
      rw [Nat.zero_add]
      rcases (show i = 0 ∨ i = 1 ∨ i = 2 by omega) with rfl | rfl | rfl <;> rw [B5.out.rb.cell _ _ rfl] <;> rfl
    obtain ⟨w6, hw6⟩ : ∃ w6, ((w5.setCell ⟨w.heap.size + 1, 0, none⟩ (.int .i64 3)).setCell ⟨w.heap.size + 1, 1, none⟩ (.int .u64 n)).setCell ⟨w.heap.size + 1, 2, none⟩ (.string s) = w6 := ⟨_, rfl⟩
    have r6 := hid (show Bx w6 (w.heap.size + 1) 26 #[.int .i64 3, .int .u64 n, .string s] from hw6 ▸ B5.out.rb.put3 _ _ _)
    have b6 := hid (show Below w.heap.size w w6 from hw6 ▸ bset3_below B5.out.bel (Nat.le_succ _))
    have nz : w.heap.size + 1 ≠ w.heap.size := by omega
    have v6 : Bx w6 w.heap.size 98 #[.int .u64 n, .string s] := hw6 ▸ ((B5.out.vb.far nz).far nz).far nz
    have T5 : Hid (w5.cell? ⟨w.heap.size, 0, none⟩ = some (.int .u64 n) ∧ w5.cell? ⟨w.heap.size, 1, none⟩ = some (.string s)) := ⟨B5.out.vb.cell 0 _ rfl, B5.out.vb.cell 1 _ rfl⟩
    have T6 : Hid (w6.cell? ⟨w.heap.size, 0, none⟩ = some (.int .u64 n) ∧ w6.cell? ⟨w.heap.size, 1, none⟩ = some (.string s)) := ⟨v6.cell 0 _ rfl, v6.cell 1 _ rfl⟩
    clear v6 nz B5
    (try go_simp)
    (try simp only [Act.put]); (try simp only [List.setIfInBounds_toArray]); (try simp only [List.set_cons_succ]); (try simp only [List.set_cons_zero])
    refine hK.out _ _ T5.out (fun hHeld => ?_)
    clear hK K
    refine wpAnyH_take (i := 5) (oi := { dst := some 8, op := Go.Op.build 26 #[(0, Go.Operand.const (Go.Value.int Go.IntKind.i64 3)), (1, Go.Operand.tmp 4), (2, Go.Operand.tmp 7)], type := 26, pos := "content.go:37", after := #[{ on := 1, ground := Go.Ground.data }, { on := 4, ground := Go.Ground.data }], guard := none }) (v := ?_) rfl (by kernel_rfl) (by kernel_rfl) (by kernel_rfl) (fun _ _ _ h => h) (Or.inl ⟨by rfl, ?_⟩) (by assumption) ?_
    rotate_left
    · (intro w hSw; (try dsimp only at hSw); go_simp; try with_reducible rfl)
    (try simp only [Act.put]); (try simp only [List.setIfInBounds_toArray]); (try simp only [List.set_cons_succ]); (try simp only [List.set_cons_zero])
    refine wpAnyH_ready (rs := [6]) (by kernel_rfl) (by simp) ?_
    refine AllReadyH.cons (o := { dst := none, op := Go.Op.store 26 (Go.Operand.tmp 2) (Go.Operand.tmp 8), type := 0, pos := "content.go:37", after := #[{ on := 5, ground := Go.Ground.data }, { on := 4, ground := Go.Ground.chain }, { on := 0, ground := Go.Ground.phase }, { on := 1, ground := Go.Ground.phase }, { on := 2, ground := Go.Ground.phase }, { on := 3, ground := Go.Ground.phase }, { on := 4, ground := Go.Ground.phase }, { on := 5, ground := Go.Ground.phase }], guard := none }) rfl (fun K hK => ?_) (AllReadyH.nil)
    · rw [if_pos (by rfl)]
      refine wp_store_mid 26 _ _ rfl (w.heap.size + 1) 0 #[.int .i64 3, .int .u64 n, .string s] rfl rfl tR.out (by kernel_rfl) oR.out ?_
      change K _ (((w5.setCell ⟨w.heap.size + 1, 0, none⟩ (.int .i64 3)).setCell ⟨w.heap.size + 1, 1, none⟩ (.int .u64 n)).setCell ⟨w.heap.size + 1, 2, none⟩ (.string s))
      rw [hw6]
      (try simp only [Act.put]); (try simp only [List.setIfInBounds_toArray]); (try simp only [List.set_cons_succ]); (try simp only [List.set_cons_zero])
      refine hK.out _ _ T6.out (fun hHeld => ?_)
      clear hK K
      refine wpAnyH_done (by kernel_rfl) ?_ _
      go_wp2_with fail
      (try simp only [Exit.inBlock, Exit.then])
      refine bodyPost_ret (results_cell_row rfl _ _ (w.heap.size + 1) 26 _ (0, 0) _ rfl r6.out Tryz.underlying26 rfl (by kernel_rfl)) rfl ?_
      exact ⟨rfl, b6.out⟩

set_option maxRecDepth 100000 in
set_option maxHeartbeats 1000000 in
theorem vplainT_any (n : Int) (s : ByteArray) (w : World) (hs : s.size ≤ 281474976710656) : Calls Tryz.prog 28 #[.agg #[.int .i64 2, .int .u64 n, .string s]] w fun e w' => e = .returned (.agg #[.int .i64 2, .int .u64 0, .string s]) ∧ Below w.heap.size w w' := by
  have IN1 : Hid (∀ W, Calls Tryz.prog 42 #[.agg #[.int .i64 2, .int .u64 n, .string s]] W fun e w' => e = .returned (.iface 92 (.agg #[.string s])) ∧ Below W.heap.size W w') := fun W => vinside_any 2 n s W
  have PN := hid (fun W => tplain_any s W hs)
  have B0 := hid (Re.RP.new w 2 n s)
  go_enter Tryz.func28, Tryz.ntmps28
  go_wp2_with fail
  generalize (w.alloc (.cells #[.int .i64 2, .int .u64 n, .string s] 26)).alloc (.cells #[.int .i64 0, .int .u64 0, .string ⟨#[]⟩] 26) = wA at *
  refine (IN1.out _).mono ?_
  rintro e w1 ⟨rfl, b1⟩
  have B1 := hid (B0.out.on b1)
  clear b1 B0 IN1
  go_wp2_with fail
  refine (PN.out _).mono ?_
  rintro e w2 ⟨rfl, b2⟩
  have B2 := hid (B1.out.on b2)
  clear b2 B1 PN
  have c0 := B2.out.rb.cell 0 _ rfl
  have c1 := B2.out.rb.cell 1 _ rfl
  have c2 := B2.out.rb.cell 2 _ rfl
  have f0 := B2.out.rb.free 0
  have f1 := B2.out.rb.free 1
  have f2 := B2.out.rb.free 2
  go_wp2_with fail
  (try simp only [Exit.inBlock, Exit.then])
  refine bodyPost_ret (results_cell_row rfl _ _ (w.heap.size + 1) 26 _ (0, 0) _ rfl (B2.out.rb.put3 _ _ _) Tryz.underlying26 rfl (by kernel_rfl)) rfl ?_
  exact ⟨rfl, bset3_below B2.out.bel (Nat.le_succ _)⟩

set_option maxRecDepth 100000 in
set_option maxHeartbeats 1000000 in
theorem vplainS_any (n : Int) (s : ByteArray) (w : World) (hs : s.size ≤ 281474976710656) : Calls Tryz.prog 28 #[.agg #[.int .i64 3, .int .u64 n, .string s]] w fun e w' => e = .returned (.agg #[.int .i64 3, .int .u64 n, .string s]) ∧ Below w.heap.size w w' := by
  have IN1 : Hid (∀ W, Calls Tryz.prog 42 #[.agg #[.int .i64 3, .int .u64 n, .string s]] W fun e w' => e = .returned (.iface 98 (.agg #[.int .u64 n, .string s])) ∧ Below W.heap.size W w') := fun W => vinside_any 3 n s W
  have PN := hid (fun W => splain_any n s W hs)
  have B0 := hid (Re.RP.new w 3 n s)
  go_enter Tryz.func28, Tryz.ntmps28
  go_wp2_with fail
  generalize (w.alloc (.cells #[.int .i64 3, .int .u64 n, .string s] 26)).alloc (.cells #[.int .i64 0, .int .u64 0, .string ⟨#[]⟩] 26) = wA at *
  refine (IN1.out _).mono ?_
  rintro e w1 ⟨rfl, b1⟩
  have B1 := hid (B0.out.on b1)
  clear b1 B0 IN1
  go_wp2_with fail
  refine (PN.out _).mono ?_
  rintro e w2 ⟨rfl, b2⟩
  have B2 := hid (B1.out.on b2)
  clear b2 B1 PN
  have c0 := B2.out.rb.cell 0 _ rfl
  have c1 := B2.out.rb.cell 1 _ rfl
  have c2 := B2.out.rb.cell 2 _ rfl
  have f0 := B2.out.rb.free 0
  have f1 := B2.out.rb.free 1
  have f2 := B2.out.rb.free 2
  go_wp2_with fail
  (try simp only [Exit.inBlock, Exit.then])
  refine bodyPost_ret (results_cell_row rfl _ _ (w.heap.size + 1) 26 _ (0, 0) _ rfl (B2.out.rb.put3 _ _ _) Tryz.underlying26 rfl (by kernel_rfl)) rfl ?_
  exact ⟨rfl, bset3_below B2.out.bel (Nat.le_succ _)⟩

set_option maxRecDepth 100000 in
set_option maxHeartbeats 1000000 in
theorem vplainO_any (k n : Int) (s : ByteArray) (w : World) (k1 : k ≠ 1) (k2 : k ≠ 2) (k3 : k ≠ 3) : Calls Tryz.prog 28 #[.agg #[.int .i64 k, .int .u64 n, .string s]] w fun e w' => e = .returned (.agg #[.int .i64 0, .int .u64 0, .string ⟨#[]⟩]) ∧ Below w.heap.size w w' := by
  have IN1 : Hid (∀ W, Calls Tryz.prog 42 #[.agg #[.int .i64 k, .int .u64 n, .string s]] W fun e w' => e = .returned (.iface 115 (.agg #[])) ∧ Below W.heap.size W w') := fun W => by
    have h := vinside_any k n s W
    rw [Va.ins, if_neg k1, if_neg k2, if_neg k3] at h
    exact h
  have PN := hid (fun W => oplain_any W)
  have B0 := hid (Re.RP.new w k n s)
  clear k1 k2 k3
  go_enter Tryz.func28, Tryz.ntmps28
  go_wp2_with fail
  generalize (w.alloc (.cells #[.int .i64 k, .int .u64 n, .string s] 26)).alloc (.cells #[.int .i64 0, .int .u64 0, .string ⟨#[]⟩] 26) = wA at *
  refine (IN1.out _).mono ?_
  rintro e w1 ⟨rfl, b1⟩
  have B1 := hid (B0.out.on b1)
  clear b1 B0 IN1
  go_wp2_with fail
  refine (PN.out _).mono ?_
  rintro e w2 ⟨rfl, b2⟩
  have B2 := hid (B1.out.on b2)
  clear b2 B1 PN
  have c0 := B2.out.rb.cell 0 _ rfl
  have c1 := B2.out.rb.cell 1 _ rfl
  have c2 := B2.out.rb.cell 2 _ rfl
  have f0 := B2.out.rb.free 0
  have f1 := B2.out.rb.free 1
  have f2 := B2.out.rb.free 2
  go_wp2_with fail
  (try simp only [Exit.inBlock, Exit.then])
  refine bodyPost_ret (results_cell_row rfl _ _ (w.heap.size + 1) 26 _ (0, 0) _ rfl (B2.out.rb.put3 _ _ _) Tryz.underlying26 rfl (by kernel_rfl)) rfl ?_
  exact ⟨rfl, bset3_below B2.out.bel (Nat.le_succ _)⟩

namespace Re
/-- What value.Plain makes of a Value. -/
def pk (k : Int) : Int := if k = 1 then 1 else if k = 2 then 2 else if k = 3 then 3 else 0
def pn (k n : Int) : Int := if k = 1 then n else if k = 2 then 0 else if k = 3 then n else 0
def ps (k : Int) (s : ByteArray) : ByteArray := if k = 1 then ⟨#[]⟩ else if k = 2 then s else if k = 3 then s else ⟨#[]⟩
end Re

theorem vplain_any (k n : Int) (s : ByteArray) (w : World) (hs : s.size ≤ 281474976710656) : Calls Tryz.prog 28 #[.agg #[.int .i64 k, .int .u64 n, .string s]] w fun e w' => e = .returned (.agg #[.int .i64 (Re.pk k), .int .u64 (Re.pn k n), .string (Re.ps k s)]) ∧ Below w.heap.size w w' := by
  by_cases k1 : k = 1
  · subst k1; exact vplainN_any n s w
  by_cases k2 : k = 2
  · subst k2; exact vplainT_any n s w hs
  by_cases k3 : k = 3
  · subst k3; exact vplainS_any n s w hs
  simp only [Re.pk, Re.pn, Re.ps, if_neg k1, if_neg k2, if_neg k3]
  exact vplainO_any k n s w k1 k2 k3
end Go.Proofs.YthpecfncndclfabGreatDoor

namespace Go.Proofs.YthpecfncndclfabGreatDoor
open Go Go.RowKit Go.Deep Go.Shelf

set_option maxRecDepth 100000 in
theorem made_nil (w : World) : Calls Tryz.prog 27 #[.pointer none] w fun e w' => e = .returned (.bool false) ∧ w' = w := by
  go_enter Tryz.func27, Tryz.ntmps27
  go_wp2_with fail
  go_ret
  exact ⟨rfl, rfl⟩

set_option maxRecDepth 100000 in
theorem len_nil (w : World) : Calls Tryz.prog 17 #[.pointer none] w fun e w' => e = .returned (.int .i64 0) ∧ w' = w := by
  have MA := hid (made_nil w)
  go_enter Tryz.func17, Tryz.ntmps17
  go_wp2_with fail
  refine MA.out.mono ?_
  rintro e w1 ⟨rfl, rfl⟩
  clear MA
  go_wp2_with fail
  go_ret
  exact ⟨rfl, rfl⟩

set_option maxRecDepth 100000 in
theorem qpush_nil (k n : Int) (s : ByteArray) (w : World) : Calls Tryz.prog 14 #[.pointer none, .agg #[.int .i64 k, .int .u64 n, .string s]] w fun e w' => e = .returned (.int .i64 0) ∧ Below w.heap.size w w' := by
  have B0 := hid (alloc_b w (.cells #[.int .i64 k, .int .u64 n, .string s] 26))
  have MA := hid (fun W => made_nil W)
  go_enter Tryz.func14, Tryz.ntmps14
  go_wp2_with fail
  generalize w.alloc (.cells #[.int .i64 k, .int .u64 n, .string s] 26) = wa at *
  refine (MA.out _).mono ?_
  rintro e w1 ⟨rfl, rfl⟩
  clear MA
  go_wp2_with fail
  go_ret
  exact ⟨rfl, B0.out⟩

set_option maxRecDepth 100000 in
set_option maxHeartbeats 1000000 in
theorem qpop_nil (w : World) : Calls Tryz.prog 15 #[.pointer none] w fun e w' => e = .returned (.tuple #[.agg #[.int .i64 0, .int .u64 0, .string ⟨#[]⟩], .int .i64 0, .bool false]) ∧ Below w.heap.size w w' := by
  have b0 := hid (alloc_b w (.cells #[.int .i64 0, .int .u64 0, .string ⟨#[]⟩] 26))
  have r0 := hid (Bx.new w 26 #[.int .i64 0, .int .u64 0, .string ⟨#[]⟩])
  have LE := hid (fun W => len_nil W)
  go_enter Tryz.func15, Tryz.ntmps15
  go_wp2_with fail
  generalize w.alloc (.cells #[.int .i64 0, .int .u64 0, .string ⟨#[]⟩] 26) = wa at *
  refine (LE.out _).mono ?_
  rintro e w1 ⟨rfl, rfl⟩
  clear LE
  have c0 := r0.out.cell 0 _ rfl
  have c1 := r0.out.cell 1 _ rfl
  have c2 := r0.out.cell 2 _ rfl
  have f0 := r0.out.free 0
  have f1 := r0.out.free 1
  have f2 := r0.out.free 2
  go_wp2_with fail
  (try simp only [Exit.inBlock, Exit.then])
  refine bodyPost_ret (results_c3 rfl _ _ w.heap.size 26 _ (0, 0) _ rfl (r0.out.put3 _ _ _) Tryz.underlying26 rfl (by kernel_rfl)) rfl ?_
  exact ⟨rfl, bset3_below b0.out (Nat.le_refl _)⟩

set_option maxRecDepth 100000 in
set_option maxHeartbeats 1000000 in
/-- Peek, where nothing is in. -/
theorem qpeek_void (q : Option Addr) (w : World) (LE : ∀ W, Below w.heap.size w W → Calls Tryz.prog 17 #[.pointer q] W fun e w' => e = .returned (.int .i64 0) ∧ w' = W) :
    Calls Tryz.prog 16 #[.pointer q] w fun e w' => e = .returned (.tuple #[.agg #[.int .i64 0, .int .u64 0, .string ⟨#[]⟩], .int .i64 0, .bool false]) ∧ Below w.heap.size w w' := by
  have b0 := hid (alloc_b w (.cells #[.int .i64 0, .int .u64 0, .string ⟨#[]⟩] 26))
  have r0 := hid (Bx.new w 26 #[.int .i64 0, .int .u64 0, .string ⟨#[]⟩])
  have LE := hid LE
  go_enter Tryz.func16, Tryz.ntmps16
  go_wp2_with fail
  generalize w.alloc (.cells #[.int .i64 0, .int .u64 0, .string ⟨#[]⟩] 26) = wa at *
  refine (LE.out _ b0.out).mono ?_
  rintro e w1 ⟨rfl, rfl⟩
  clear LE
  have c0 := r0.out.cell 0 _ rfl
  have c1 := r0.out.cell 1 _ rfl
  have c2 := r0.out.cell 2 _ rfl
  have f0 := r0.out.free 0
  have f1 := r0.out.free 1
  have f2 := r0.out.free 2
  go_wp2_with fail
  (try simp only [Exit.inBlock, Exit.then])
  refine bodyPost_ret (results_c3 rfl _ _ w.heap.size 26 _ (0, 0) _ rfl (r0.out.put3 _ _ _) Tryz.underlying26 rfl (by kernel_rfl)) rfl ?_
  exact ⟨rfl, bset3_below b0.out (Nat.le_refl _)⟩

/-- pop of a queue of one. -/
theorem pop_one (base q h g cap : Nat) (x : Re.En) (c : Int) (hcap : 1 ≤ cap) (hm : cap ≤ 9223372036854775807) (W : World) (s : Re.QS base q h (.slice (some ⟨g, 0, none⟩) 1 cap) [x] c W) :
    Calls Tryz.prog 30 #[.pointer (some ⟨h, 0, none⟩)] W fun e w' => e = .returned (.agg (Re.ee x).toArray) ∧ Re.QS base q h (.slice (some ⟨g, 0, none⟩) 0 cap) [] c w' ∧ Re.Kp (fun b => b = h ∨ b = g) W w' := by
  refine (hpop_any base h g cap [x] [] x x 1 0 W s.hb s.row rfl rfl (by omega) hcap hm rfl rfl (fun W' hb hr => ?_)).mono ?_
  · refine (down_small h g cap 0 _ W' hb (Nat.zero_le _)).mono ?_
    rintro e w' ⟨rfl, rfl⟩
    exact ⟨rfl, hr, Re.Kp.refl _ _⟩
  · rintro e w' ⟨rfl, hb, hr, hk⟩
    refine ⟨rfl, ⟨s.qb.kp hk ?_, hb, hr, s.bq, s.bh⟩, hk⟩
    rintro (z | z)
    · exact s.qh z
    · exact s.row.apart s.qb (by decide) (by rw [z]; rfl)

namespace Re
theorem pn_ok {k n : Int} (h : 0 ≤ n ∧ n < 18446744073709551616) : 0 ≤ pn k n ∧ pn k n < 18446744073709551616 := by
  unfold pn
  split
  · exact h
  split
  · omega
  split
  · exact h
  · omega
end Re

/-- A value is put into an empty queue. -/
theorem push_void (base q h : Nat) (mv : Value) (c k n : Int) (s : ByteArray) (w : World) (st : Re.QS base q h mv [] c w) (c0 : 0 ≤ c) (c1 : c < 1000000000000000) (hn : 0 ≤ n ∧ n < 18446744073709551616) (hs : s.size ≤ 281474976710656) (hb : base ≤ w.heap.size) :
    Calls Tryz.prog 14 #[.pointer (some ⟨q, 0, none⟩), .agg #[.int .i64 k, .int .u64 n, .string s]] w fun e w' => e = .returned (.int .i64 c) ∧ (∃ mv' x, Re.QS base q h mv' [x] (c + 1) w') ∧ Below base w w' := by
  have pn := Re.pn_ok (k := k) hn
  refine (qpush_any base q h mv [] c k n s (Re.pk k) (Re.pn k n) (Re.ps k s) w st (by decide) c0 c1 pn.1 pn.2 hb (fun W => vplain_any k n s W hs)).mono ?_
  rintro e w' ⟨rfl, ⟨mv', s'⟩, kk⟩
  rw [show ([] : List Re.En).length = 0 from rfl, Re.upF_zero] at s'
  exact ⟨rfl, ⟨mv', _, s'⟩, st.bel kk hb⟩

/-- And taken out again. -/
theorem pop_void (base q h : Nat) (mv : Value) (x : Re.En) (c : Int) (w : World) (st : Re.QS base q h mv [x] c w) (hb : base ≤ w.heap.size) :
    Calls Tryz.prog 15 #[.pointer (some ⟨q, 0, none⟩)] w fun e w' => ∃ k n s i, e = .returned (.tuple #[.agg #[.int .i64 k, .int .u64 n, .string s], .int .i64 i, .bool true]) ∧ (∃ mv', Re.QS base q h mv' [] c w') ∧ Below base w w' := by
  obtain ⟨g, cap, rfl, h1, h2, h3, _⟩ := st.row.open (by simp)
  have hg : g < w.heap.size := (World.ownsRow.lt st.row g rfl).2
  have bh := st.bh
  refine (qpop_any base q h _ _ [x] [] c x (fun b => b = h ∨ b = g) w st (by simp) (fun b e => by rcases e with e | e; rw [e]; exact st.hb.lt; rw [e]; exact hg) (fun W' s' => pop_one base q h g cap x c h1 (by simp only [maxLen] at h2; omega) W' s')).mono ?_
  rintro e w' ⟨rfl, s', k⟩
  exact ⟨_, _, _, _, rfl, ⟨_, s'⟩, k.below hb (fun b e => by rcases e with e | e; rw [e]; exact bh; rw [e]; exact h3)⟩
end Go.Proofs.YthpecfncndclfabGreatDoor

namespace Go.Proofs.YthpecfncndclfabGreatDoor
open Go Go.RowKit Go.Deep Go.Shelf

namespace Re
/-- Where a round of the law stands: the queue is empty, as many came as have gone. -/
structure NS (base : Nat) (w : World) (i : Nat) (W : World) : Prop where
  qs : ∃ mv, QS base (base + 1) base mv [] (i : Int) W
  bel : Below w.heap.size w W
  le : base ≤ W.heap.size
  lw : w.heap.size ≤ base
theorem NS.on {base : Nat} {w : World} {i : Nat} {W W' : World} (h : NS base w i W) (b : Below W.heap.size W W') : NS base w i W' := by
  obtain ⟨⟨mv, qs⟩, bl, le, lw⟩ := h
  exact ⟨⟨mv, qs.on b⟩, below_on bl b, Nat.le_trans le b.size, lw⟩
end Re

set_option maxRecDepth 100000 in
set_option maxHeartbeats 8000000 in
theorem rnothing_law (p : Option Addr) (cap : Nat) (A : List Re.Vl) (w : World) (ht : Tab10 w) (hv : Re.LV w p A) (hw : ∀ a ∈ A, (0 ≤ a.n ∧ a.n < 18446744073709551616) ∧ a.s.size ≤ 281474976710656) (hl : A.length < 100000000000000) :
    Calls Tryz.prog 4 #[.slice p A.length cap] w fun e w' => e = .returned (.bool true) ∧ Below w.heap.size w w' := by
  obtain ⟨n, hn⟩ : ∃ n, A.length = n := ⟨_, rfl⟩
  have HN := hid hn
  have HV := hid hv
  have HW := hid hw
  rw [hn]
  rw [hn] at hl
  have AW := hid (rawake_any w ht)
  have NQ := hid (fun W => newq_any W)
  have PN := hid (fun k n s W => qpush_nil k n s W)
  have ON := hid (fun W => qpop_nil W)
  have KN := hid (fun W => qpeek_void none W (fun W _ => len_nil W))
  have LN := hid (fun W => len_nil W)
  have ln : (n : Int) ≤ 100000000000000 := by omega
  have EQ : ∀ W, (Op.equalIn 10000 26 (.agg #[.int .i64 0, .int .u64 0, .string ⟨#[]⟩]) (.agg #[.int .i64 0, .int .u64 0, .string ⟨#[]⟩])).run Tryz.prog W = .ok true W := fun W => by rw [eq_value]; simp
  clear hv hw hn ht
  go_enter Tryz.func4, Tryz.ntmps4
  go_wp2_with fail
  refine AW.out.mono ?_
  rintro e w1 ⟨rfl, b1⟩
  have B1 := hid b1
  clear b1 AW
  go_wp2_with fail
  refine (NQ.out w1).mono ?_
  rintro e w2 ⟨rfl, q2, b2⟩
  have I0 : Hid (Re.NS w1.heap.size w 0 w2) := ⟨⟨_, q2⟩, below_on B1.out b2, b2.size, B1.out.size⟩
  generalize w1.heap.size = B at *
  clear q2 b2 B1 NQ
  go_wp2_with fail
  go_loopg [6] n (fun m iv wr => ∃ i : Nat, i + m = n ∧ iv = .int .i64 (i : Int) ∧ Hid (Re.NS B w i wr))
  case atStart => exact ⟨0, by omega, rfl, I0⟩
  case round =>
    obtain ⟨i, hi, rfl, I⟩ := hrel
    by_cases hlt : i < n
    · have hli : (i : Int) < (n : Int) := by omega
      obtain ⟨a, ha⟩ : ∃ a, A[i]? = some a := ⟨_, List.getElem?_eq_getElem (by have := HN.out; omega)⟩
      obtain ⟨b, off, rfl, c0, c1, c2⟩ := (HV.out.on I.out.bel).at ha
      have am := hid (HW.out a (List.mem_of_getElem? ha))
      clear I0 ON KN LN EQ
      go_wp2_with fail
      refine (PN.out _ _ _ _).mono ?_
      rintro e w5 ⟨rfl, b5⟩
      have I5 : Hid (Re.NS B w i w5) := by
        obtain ⟨⟨mv, qs⟩, bl, le, lw⟩ := I.out
        exact ⟨⟨mv, qs.on b5⟩, below_on bl b5, Nat.le_trans le b5.size, lw⟩
      clear I b5 c0 c1 c2 PN
      have hv5 := (HV.out.on I5.out.bel).at ha
      obtain ⟨b', off', eb, c0, c1, c2⟩ := hv5
      obtain ⟨rfl, rfl⟩ : b' = b ∧ off' = off := by simp at eb; exact ⟨eb.1.symm, eb.2.symm⟩
      clear eb
      have P5 : Hid (Calls Tryz.prog 14 #[.pointer (some ⟨B + 1, 0, none⟩), .agg #[.int .i64 a.k, .int .u64 a.n, .string a.s]] w5 fun e w' => e = .returned (.int .i64 (i : Int)) ∧ (∃ mv' x, Re.QS B (B + 1) B mv' [x] ((i : Int) + 1) w') ∧ Below B w5 w') := by
        obtain ⟨⟨mv, qs⟩, bl, le, lw⟩ := I5.out
        exact push_void B (B + 1) B mv (i : Int) a.k a.n a.s w5 qs (by omega) (by omega) am.out.1 am.out.2 le
      clear am ha
      go_wp2_with fail
      refine P5.out.mono ?_
      rintro e w6 ⟨rfl, ⟨m6, x6, q6⟩, b6⟩
      have I6 : Hid (Below w.heap.size w w6 ∧ B ≤ w6.heap.size ∧ w.heap.size ≤ B) := ⟨I5.out.bel.trans (b6.mono I5.out.lw), Nat.le_trans I5.out.le b6.size, I5.out.lw⟩
      have P6 := hid (pop_void B (B + 1) B m6 x6 ((i : Int) + 1) w6 q6 I6.out.2.1)
      clear P5 I5 b6 q6 c0 c1 c2
      go_wp2_with fail
      refine P6.out.mono ?_
      rintro e w7 ⟨k7, n7, s7, i7, rfl, ⟨m7, q7⟩, b7⟩
      have I7 : Hid (Re.NS B w (i + 1) w7) := ⟨⟨m7, by rw [Int.natCast_add]; exact q7⟩, I6.out.1.trans (b7.mono I6.out.2.2), Nat.le_trans I6.out.2.1 b7.size, I6.out.2.2⟩
      clear P6 I6 b7 q7
      go_wp2_with fail
      go_roundg (n - (i + 1))
      case measure => omega
      case rel => exact ⟨i + 1, by omega, by go_num, I7⟩
    · have hli : ¬ (i : Int) < (n : Int) := by omega
      clear I0 PN HV HW HN
      go_wp2_with fail
      refine (ON.out _).mono ?_
      rintro e w5 ⟨rfl, b5⟩
      have X5 := hid (Bx.new w5 26 #[.int .i64 0, .int .u64 0, .string ⟨#[]⟩])
      have I5 : Hid (Re.NS B w i (w5.alloc (.cells #[.int .i64 0, .int .u64 0, .string ⟨#[]⟩] 26))) := I.out.on (below_on b5 (alloc_b _ _))
      clear I b5 ON
      go_wp2_with fail
      generalize w5.alloc (.cells #[.int .i64 0, .int .u64 0, .string ⟨#[]⟩] 26) = w6 at *
      refine (KN.out _).mono ?_
      rintro e w7 ⟨rfl, b7⟩
      have b8 := below_on b7 (alloc_b w7 (.cells #[.int .i64 0, .int .u64 0, .string ⟨#[]⟩] 26))
      have X7 := hid (And.intro (X5.out.on b8) (Bx.new w7 26 #[.int .i64 0, .int .u64 0, .string ⟨#[]⟩]))
      have I7 := hid (I5.out.on b8)
      clear I5 X5 b7 b8 KN
      go_wp2_with fail
      generalize w7.alloc (.cells #[.int .i64 0, .int .u64 0, .string ⟨#[]⟩] 26) = w8 at *
      have KE : Hid (Calls Tryz.prog 16 #[.pointer (some ⟨B + 1, 0, none⟩)] w8 fun e w' => e = .returned (.tuple #[.agg #[.int .i64 0, .int .u64 0, .string ⟨#[]⟩], .int .i64 0, .bool false]) ∧ Below w8.heap.size w8 w') := by
        obtain ⟨⟨mv, qs⟩, bl, le, lw⟩ := I7.out
        exact qpeek_void _ w8 (fun W hW => len_any B (B + 1) B mv [] _ W (qs.on hW))
      refine KE.out.mono ?_
      rintro e w9 ⟨rfl, b9⟩
      have b8 := below_on b9 (alloc_b w9 (.cells #[.int .i64 0, .int .u64 0, .string ⟨#[]⟩] 26))
      have X9 := hid (And.intro (X7.out.1.on b8) (And.intro (X7.out.2.on b8) (Bx.new w9 26 #[.int .i64 0, .int .u64 0, .string ⟨#[]⟩])))
      have I9 := hid (I7.out.on b8)
      clear I7 X7 b9 b8 KE
      have LE : Hid (∀ W, W = w9.alloc (.cells #[.int .i64 0, .int .u64 0, .string ⟨#[]⟩] 26) → Calls Tryz.prog 17 #[.pointer (some ⟨B + 1, 0, none⟩)] W fun e w' => e = .returned (.int .i64 0) ∧ w' = W) := fun W e => by
        obtain ⟨⟨mv, qs⟩, bl, le, lw⟩ := I9.out
        rw [e]
        exact len_any B (B + 1) B mv [] _ _ qs
      have u0 := X9.out.1.cell 0 _ rfl
      have u1 := X9.out.1.cell 1 _ rfl
      have u2 := X9.out.1.cell 2 _ rfl
      have v0 := X9.out.2.1.cell 0 _ rfl
      have v1 := X9.out.2.1.cell 1 _ rfl
      have v2 := X9.out.2.1.cell 2 _ rfl
      have x0 := X9.out.2.2.cell 0 _ rfl
      have x1 := X9.out.2.2.cell 1 _ rfl
      have x2 := X9.out.2.2.cell 2 _ rfl
      go_upto_region 17 with fail
      generalize w9.alloc (.cells #[.int .i64 0, .int .u64 0, .string ⟨#[]⟩] 26) = wz at *
      go_wp2_with fail
      refine (LN.out _).mono ?_
      rintro e w10 ⟨rfl, rfl⟩
      go_wp2_with fail
      refine (LE.out _ rfl).mono ?_
      rintro e w11 ⟨rfl, rfl⟩
      clear u0 u1 u2 v0 v1 v2 x0 x1 x2 X9 LE LN
      go_wp2_with fail
      go_ret
      exact ⟨rfl, I9.out.bel⟩
end Go.Proofs.YthpecfncndclfabGreatDoor

namespace Go.Proofs.YthpecfncndclfabGreatDoor
open Go Go.RowKit Go.Deep Go.Shelf

theorem rnothing_vals (p : Option Addr) (cap : Nat) (z : List Va.Vl) (w : World) (ht : Tab10 w) (hv : LV w p z) (hw : ∀ q ∈ z, VlW q) (hl : z.length ≤ 4398046511104) :
    Calls Tryz.prog 4 #[.slice p z.length cap] w fun e w' => e = .returned (.bool true) ∧ Below w.heap.size w w' := by
  have h := rnothing_law p cap (z.map fun q => ⟨q.k, q.n, strOfNums q.s⟩) w ht (lv_re hv) (fun a ha => by
    obtain ⟨q, hq, rfl⟩ := List.mem_map.1 ha
    obtain ⟨_, h1, h2⟩ := hw q hq
    refine ⟨h1, ?_⟩
    have e : (strOfNums q.s).size = q.s.length := by
      show ((q.s.map fun n => UInt8.ofNat n.toNat).toArray).size = _
      rw [List.size_toArray, List.length_map]
    show (strOfNums q.s).size ≤ _
    omega) (by rw [List.length_map]; omega)
  rw [List.length_map] at h
  exact h
end Go.Proofs.YthpecfncndclfabGreatDoor
