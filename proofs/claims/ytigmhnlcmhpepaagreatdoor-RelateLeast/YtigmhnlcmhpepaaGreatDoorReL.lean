/-
  Queue's Pop; abacuslaw18's queued.
-/
import Derived.Test.YtigmhnlcmhpepaaGreatDoorReK
namespace Go.Proofs.YtigmhnlcmhpepaaGreatDoor
open Go Go.RowKit Go.Deep Go.Shelf

theorem results_c3 {P : Program} {fn : Func} {p u v : Tmp} {ty : TypeId} (h : fn.results = #[.cell p ty, .tmp u, .tmp v]) (tmps : Array Value) (w : World) (g : Nat) (t : TypeId) (cs : Array Value) (fr : Nat × Nat) (d : TypeDesc)
    (hp : tmps.getD p undef = .pointer (some ⟨g, 0, none⟩)) (hg : w.heap[g]? = some (.cells cs t fr))
    (hu : P.underlying ty = some d) (hd : (match d with | .struct _ | .array _ _ => true | _ => false) = true) (hi : (P.info? ty).map (·.size) = some cs.size) :
    (results fn tmps).run P w = .ok (.tuple #[.agg cs, tmps.getD u undef, tmps.getD v undef]) w := by
  have e := hp
  rw [Array.getD_eq_getD_getElem?] at e
  simp only [results, h]
  simp [Result.andThen, e, asAddr, run_loadVar_row w g t ty cs fr d hg hu hd hi]

set_option maxRecDepth 100000 in
set_option maxHeartbeats 4000000 in
theorem qpop_any (base q h : Nat) (mv mv' : Value) (E E' : List Re.En) (c : Int) (x : Re.En) (S : Nat → Prop) (w : World) (st : Re.QS base q h mv E c w) (hne : 0 < E.length) (hS : ∀ b, S b → b < w.heap.size)
    (PC : ∀ W, Re.QS base q h mv E c W → Calls Tryz.prog 32 #[.pointer (some ⟨h, 0, none⟩)] W fun e w' => e = .returned (.agg (Re.ee x).toArray) ∧ Re.QS base q h mv' E' c w' ∧ Re.Kp S W w') :
    Calls Tryz.prog 14 #[.pointer (some ⟨q, 0, none⟩)] w fun e w' => e = .returned (.tuple #[.agg #[.int .i64 x.k, .int .u64 x.n, .string x.s], .int .i64 x.x.i, .bool true]) ∧ Re.QS base q h mv' E' c w' ∧ Re.Kp S w w' := by
  have b0 := alloc_b w (.cells #[.int .i64 0, .int .u64 0, .string ⟨#[]⟩] 24)
  have r0 := Bx.new w 24 #[.int .i64 0, .int .u64 0, .string ⟨#[]⟩]
  have q0 := st.on b0
  have LE := hid (fun W (z : Re.QS base q h mv E c W) => qlen_any base q h mv E c W z)
  have n0 : ((E.length : Int) == 0) = false := beq_false_of_ne (by omega)
  have sl : w.heap.size < (w.alloc (.cells #[.int .i64 0, .int .u64 0, .string ⟨#[]⟩] 24)).heap.size := by rw [World.size_alloc]; omega
  obtain ⟨t, p, u, ex, -⟩ := Re.ee_ex x
  have PC := hid PC
  rw [ex] at PC
  clear ex hne st
  go_enter Tryz.func14, Tryz.ntmps14
  go_wp2_with fail
  generalize w.alloc (.cells #[.int .i64 0, .int .u64 0, .string ⟨#[]⟩] 24) = wa at *
  refine (LE.out _ q0).mono ?_
  rintro e w1 ⟨rfl, rfl⟩
  clear LE
  have c0 := q0.qb.cell 0 _ rfl
  go_wp2_with fail
  refine (PC.out _ q0).mono ?_
  rintro e w2 ⟨rfl, q2, k2⟩
  have r2 := r0.kp k2 (fun z => absurd (hS _ z) (Nat.lt_irrefl _))
  have kk : Re.Kp S w w2 := (Re.Kp.of b0).trans k2
  have s2 : w.heap.size < w2.heap.size := Nat.lt_of_lt_of_le sl k2.size
  clear PC k2 c0 q0 r0 b0 sl
  have ba := alloc_b w2 (.cells #[.bool t, .int .i64 p, .string u, .int .i64 x.x.i, .int .i64 x.k, .int .u64 x.n, .string x.s] 68)
  have e3 := Bx.new w2 68 #[.bool t, .int .i64 p, .string u, .int .i64 x.x.i, .int .i64 x.k, .int .u64 x.n, .string x.s]
  have r3 := r2.on ba
  have q3 := q2.on ba
  have k3 := kk.trans (Re.Kp.of (S := S) ba)
  go_upto_region 4 with fail
  generalize w2.alloc (.cells #[.bool t, .int .i64 p, .string u, .int .i64 x.x.i, .int .i64 x.k, .int .u64 x.n, .string x.s] 68) = w3 at *
  have dd : Below w3.heap.size w3 w3.drew := Below.drew (Below.refl _ _)
  have e4 := e3.on dd
  have r4 := r3.on dd
  have q4 := q3.on dd
  have k4 := k3.trans (Re.Kp.of (S := S) dd)
  have nz : w.heap.size ≠ w2.heap.size := by omega
  obtain ⟨w5, hw5⟩ : ∃ w5, ((w3.drew.setCell ⟨w.heap.size, 0, none⟩ (.int .i64 x.k)).setCell ⟨w.heap.size, 1, none⟩ (.int .u64 x.n)).setCell ⟨w.heap.size, 2, none⟩ (.string x.s) = w5 := ⟨_, rfl⟩
  have e5 : Bx w5 w2.heap.size 68 #[.bool t, .int .i64 p, .string u, .int .i64 x.x.i, .int .i64 x.k, .int .u64 x.n, .string x.s] := hw5 ▸ ((e4.far nz).far nz).far nz
  have r5 : Bx w5 w.heap.size 24 #[.int .i64 x.k, .int .u64 x.n, .string x.s] := hw5 ▸ r4.put3 _ _ _
  have R5 : Hid (Bx w5 w.heap.size 24 #[.int .i64 x.k, .int .u64 x.n, .string x.s] ∧ Re.QS base q h mv' E' c w5 ∧ Re.Kp S w w5) := by
    refine ⟨r5, ?_, ?_⟩
    · have nq : w.heap.size ≠ q := fun e => by
        have a1 := q4.qb
        have a2 := r4
        rw [e] at a2
        unfold Bx at a1 a2
        rw [a1] at a2
        simp at a2
      have nh : w.heap.size ≠ h := fun e => by
        have a1 := q4.hb
        have a2 := r4
        rw [e] at a2
        unfold Bx at a1 a2
        rw [a1] at a2
        simp at a2
      have nr : ∀ g, mv'.ownBlock = some g → g ≠ w.heap.size := fun g e z => q4.row.apart r4 (by decide) (by rw [← z]; exact e)
      rw [← hw5]
      exact ⟨((q4.qb.far nq).far nq).far nq, ((q4.hb.far nh).far nh).far nh, q4.row.same (fun g e => (Re.setCells_all w.heap.size [.int .i64 x.k, .int .u64 x.n, .string x.s] 0 w3.drew).2.2.2.2 g (nr g e)), q4.bq, q4.bh⟩
    · rw [← hw5]
      exact k4.setcs (.inr (Nat.le_refl _)) 0 [.int .i64 x.k, .int .u64 x.n, .string x.s]
  have T0 : Hid (w3.drew.cell? ⟨w2.heap.size, 3, none⟩ = some (.int .i64 x.x.i) ∧ w3.drew.cell? ⟨w2.heap.size, 4, none⟩ = some (.int .i64 x.k) ∧ w3.drew.cell? ⟨w2.heap.size, 5, none⟩ = some (.int .u64 x.n) ∧ w3.drew.cell? ⟨w2.heap.size, 6, none⟩ = some (.string x.s)) := ⟨e4.cell 3 _ rfl, e4.cell 4 _ rfl, e4.cell 5 _ rfl, e4.cell 6 _ rfl⟩
  have T1 : Hid (w5.cell? ⟨w2.heap.size, 3, none⟩ = some (.int .i64 x.x.i) ∧ w5.cell? ⟨w2.heap.size, 4, none⟩ = some (.int .i64 x.k) ∧ w5.cell? ⟨w2.heap.size, 5, none⟩ = some (.int .u64 x.n) ∧ w5.cell? ⟨w2.heap.size, 6, none⟩ = some (.string x.s)) := ⟨e5.cell 3 _ rfl, e5.cell 4 _ rfl, e5.cell 5 _ rfl, e5.cell 6 _ rfl⟩
  have tR : Hid (w3.drew.there w.heap.size 0 3) := fun i hi => by
    refine ⟨?_, r4.free _⟩
    rw [Nat.zero_add]
    rcases (show i = 0 ∨ i = 1 ∨ i = 2 by omega) with rfl | rfl | rfl <;> rw [r4.cell _ _ rfl] <;> rfl
  have oR : Hid ((#[.int .i64 x.k, .int .u64 x.n, .string x.s] : Array Value).all (·.oneCell') = true) := by simp [Hid, Value.oneCell']
  clear q2 kk r2 s2 ba e3 r3 q3 k3 dd e4 r4 q4 k4 e5 r5 hS nz
  refine wp_region_held_drew (S := (fun wx : World => wx.cell? ⟨w2.heap.size, 3, none⟩ = some (.int .i64 x.x.i) ∧ wx.cell? ⟨w2.heap.size, 4, none⟩ = some (.int .i64 x.k) ∧ wx.cell? ⟨w2.heap.size, 5, none⟩ = some (.int .u64 x.n) ∧ wx.cell? ⟨w2.heap.size, 6, none⟩ = some (.string x.s))) (by kernel_rfl) T0.out (fun hHeld => ?_)
  refine wpAnyH_take (i := 0) (oi := { dst := some 15, op := Go.Op.fieldAddr 68 (Go.Operand.tmp 5) 1, type := 0, pos := "queue.go:44", after := #[], guard := none }) (v := ?_) rfl (by kernel_rfl) (by kernel_rfl) (by kernel_rfl) (fun _ _ _ h => h) (Or.inl ⟨by rfl, ?_⟩) (by assumption) ?_
  rotate_left
  · (intro w hSw; (try dsimp only at hSw); go_simp; try with_reducible rfl)
  (try simp only [Act.put]); (try simp only [List.setIfInBounds_toArray]); (try simp only [List.set_cons_succ]); (try simp only [List.set_cons_zero])
  refine wpAnyH_take (i := 1) (oi := { dst := some 16, op := Go.Op.load 24 (Go.Operand.tmp 15), type := 24, pos := "queue.go:44", after := #[{ on := 0, ground := Go.Ground.data }], guard := none }) (v := ?_) rfl (by kernel_rfl) (by kernel_rfl) (by kernel_rfl) (fun _ _ _ h => h) (Or.inl ⟨by rfl, ?_⟩) (by assumption) ?_
  rotate_left
  · (intro w hSw; (try dsimp only at hSw); go_simp; try with_reducible rfl)
  (try simp only [Act.put]); (try simp only [List.setIfInBounds_toArray]); (try simp only [List.set_cons_succ]); (try simp only [List.set_cons_zero])
  refine wpAnyH_take (i := 2) (oi := { dst := some 17, op := Go.Op.fieldAddr 68 (Go.Operand.tmp 5) 0, type := 0, pos := "queue.go:44", after := #[{ on := 5, ground := Go.Ground.gcOnly Go.Departure.lateStores }], guard := none }) (v := ?_) rfl (by kernel_rfl) (by kernel_rfl) (by kernel_rfl) (fun _ _ _ h => h) (Or.inl ⟨by rfl, ?_⟩) (by assumption) ?_
  rotate_left
  · (intro w hSw; (try dsimp only at hSw); go_simp; try with_reducible rfl)
  (try simp only [Act.put]); (try simp only [List.setIfInBounds_toArray]); (try simp only [List.set_cons_succ]); (try simp only [List.set_cons_zero])
  refine wpAnyH_take (i := 3) (oi := { dst := some 18, op := Go.Op.fieldAddr 66 (Go.Operand.tmp 17) 1, type := 0, pos := "queue.go:44", after := #[{ on := 2, ground := Go.Ground.data }, { on := 5, ground := Go.Ground.gcOnly Go.Departure.lateStores }], guard := none }) (v := ?_) rfl (by kernel_rfl) (by kernel_rfl) (by kernel_rfl) (fun _ _ _ h => h) (Or.inl ⟨by rfl, ?_⟩) (by assumption) ?_
  rotate_left
  · (intro w hSw; (try dsimp only at hSw); go_simp; try with_reducible rfl)
  (try simp only [Act.put]); (try simp only [List.setIfInBounds_toArray]); (try simp only [List.set_cons_succ]); (try simp only [List.set_cons_zero])
  refine wpAnyH_take (i := 4) (oi := { dst := some 19, op := Go.Op.load 3 (Go.Operand.tmp 18), type := 3, pos := "queue.go:44", after := #[{ on := 3, ground := Go.Ground.data }, { on := 5, ground := Go.Ground.gcOnly Go.Departure.lateStores }], guard := none }) (v := ?_) rfl (by kernel_rfl) (by kernel_rfl) (by kernel_rfl) (fun _ _ _ h => h) (Or.inl ⟨by rfl, ?_⟩) (by assumption) ?_
  rotate_left
  · (intro w hSw; (try dsimp only at hSw); go_simp; try with_reducible rfl)
  (try simp only [Act.put]); (try simp only [List.setIfInBounds_toArray]); (try simp only [List.set_cons_succ]); (try simp only [List.set_cons_zero])
  refine wpAnyH_ready (rs := [5]) (by kernel_rfl) (by simp) ?_
  refine AllReadyH.cons (o := { dst := none, op := Go.Op.store 24 (Go.Operand.tmp 2) (Go.Operand.tmp 16), type := 0, pos := "queue.go:44", after := #[{ on := 1, ground := Go.Ground.data }, { on := 0, ground := Go.Ground.phase }, { on := 1, ground := Go.Ground.phase }, { on := 2, ground := Go.Ground.textOnly Go.Departure.lateStores }, { on := 3, ground := Go.Ground.textOnly Go.Departure.lateStores }, { on := 4, ground := Go.Ground.textOnly Go.Departure.lateStores }], guard := none }) rfl (fun K hK => ?_) (AllReadyH.nil)
  · rw [if_pos (by rfl)]
    refine wp_store_mid 24 _ _ rfl w.heap.size 0 #[.int .i64 x.k, .int .u64 x.n, .string x.s] rfl rfl tR.out (by kernel_rfl) oR.out ?_
    change K _ (((w3.drew.setCell ⟨w.heap.size, 0, none⟩ (.int .i64 x.k)).setCell ⟨w.heap.size, 1, none⟩ (.int .u64 x.n)).setCell ⟨w.heap.size, 2, none⟩ (.string x.s))
    rw [hw5]
    (try simp only [Act.put]); (try simp only [List.setIfInBounds_toArray]); (try simp only [List.set_cons_succ]); (try simp only [List.set_cons_zero])
    refine hK.out _ _ T1.out (fun hHeld => ?_)
    clear hK K
    refine wpAnyH_take (i := 6) (oi := { dst := some 3, op := Go.Op.assign (Go.Operand.tmp 19), type := 3, pos := "queue.go:44", after := #[{ on := 4, ground := Go.Ground.data }, { on := 5, ground := Go.Ground.chain }, { on := 0, ground := Go.Ground.phase }, { on := 1, ground := Go.Ground.phase }, { on := 2, ground := Go.Ground.phase }, { on := 3, ground := Go.Ground.phase }, { on := 4, ground := Go.Ground.phase }, { on := 5, ground := Go.Ground.phase }], guard := none }) (v := ?_) rfl (by kernel_rfl) (by kernel_rfl) (by kernel_rfl) (fun _ _ _ h => h) (Or.inl ⟨by rfl, ?_⟩) (by assumption) ?_
    rotate_left
    · (intro w hSw; (try dsimp only at hSw); go_simp; try with_reducible rfl)
    (try simp only [Act.put]); (try simp only [List.setIfInBounds_toArray]); (try simp only [List.set_cons_succ]); (try simp only [List.set_cons_zero])
    refine wpAnyH_take (i := 7) (oi := { dst := some 4, op := Go.Op.assign (Go.Operand.const (Go.Value.bool true)), type := 4, pos := "queue.go:44", after := #[{ on := 6, ground := Go.Ground.chain }, { on := 0, ground := Go.Ground.phase }, { on := 1, ground := Go.Ground.phase }, { on := 2, ground := Go.Ground.phase }, { on := 3, ground := Go.Ground.phase }, { on := 4, ground := Go.Ground.phase }, { on := 5, ground := Go.Ground.phase }, { on := 6, ground := Go.Ground.phase }], guard := none }) (v := ?_) rfl (by kernel_rfl) (by kernel_rfl) (by kernel_rfl) (fun _ _ _ h => h) (Or.inl ⟨by rfl, ?_⟩) (by assumption) ?_
    rotate_left
    · (intro w hSw; (try dsimp only at hSw); go_simp; try with_reducible rfl)
    (try simp only [Act.put]); (try simp only [List.setIfInBounds_toArray]); (try simp only [List.set_cons_succ]); (try simp only [List.set_cons_zero])
    refine wpAnyH_done (by kernel_rfl) ?_ _
    go_wp2_with fail
    (try simp only [Exit.inBlock, Exit.then])
    refine bodyPost_ret (results_c3 rfl _ _ w.heap.size 24 _ (0, 0) _ rfl R5.out.1 Tryz.underlying24 rfl (by kernel_rfl)) rfl ?_
    exact ⟨rfl, R5.out.2⟩
end Go.Proofs.YtigmhnlcmhpepaaGreatDoor
