/-
  value: Numeric, ToNum of what is numeric; relate: rankOf.
-/
import Derived.Test.YtpmmbaahoegmlaaGreatDoorReN
import Derived.Test.YtpmmbaahoegmlaaGreatDoorVaC
import Derived.Test.YtpmmbaahoegmlaaGreatDoorIOrd2
namespace Go.Proofs.YtpmmbaahoegmlaaGreatDoor
open Go Go.RowKit Go.Deep

set_option maxRecDepth 100000 in
set_option maxHeartbeats 1000000 in
theorem vnumeric_any (k n : Int) (t : ByteArray) (w : World) :
    Calls Tryz.prog 20 #[.agg #[.int .i64 k, .int .u64 n, .string t]] w fun e w' => e = .returned (.bool (decide (k ≠ 2))) ∧ Below w.heap.size w w' := by
  have IN := hid (fun W => vinside_any k n t W)
  have B0 := hid (alloc_b w (.cells #[.int .i64 k, .int .u64 n, .string t] 26))
  by_cases k2 : k = 2
  · subst k2
    have TC : ∀ wx : World, (Instr.typeAssert (.iface 77 (.agg #[.string t])) 74 77 true).run Tryz.prog wx = .ok (.tuple #[.agg #[.string t], .bool true]) wx := fun wx => by kernel_rfl
    have IN1 : Hid (∀ W, Calls Tryz.prog 35 #[.agg #[.int .i64 2, .int .u64 n, .string t]] W fun e w' => e = .returned (.iface 77 (.agg #[.string t])) ∧ Below W.heap.size W w') := IN.out
    clear IN
    go_enter Tryz.func20, Tryz.ntmps20
    go_wp2_with fail
    refine (IN1.out _).mono ?_
    rintro e w1 ⟨rfl, b1⟩
    have F := hid (below_on B0.out b1)
    clear b1 B0 IN1
    go_wp2_with fail
    go_ret
    exact ⟨rfl, F.out⟩
  have eD : decide (k ≠ 2) = true := decide_eq_true k2
  rw [eD]
  obtain ⟨v, hv, TC⟩ : ∃ v, Va.ins k n t = v ∧ ∀ wx : World, (Instr.typeAssert v 74 77 true).run Tryz.prog wx = .ok (.tuple #[.agg #[.string ⟨#[]⟩], .bool false]) wx := by
    refine ⟨_, rfl, ?_⟩
    unfold Va.ins
    by_cases k1 : k = 1
    · rw [if_pos k1]; exact fun wx => by kernel_rfl
    by_cases k3 : k = 3
    · rw [if_neg k1, if_neg k2, if_pos k3]; exact fun wx => by kernel_rfl
    · rw [if_neg k1, if_neg k2, if_neg k3]; exact fun wx => by kernel_rfl
  rw [hv] at IN
  clear hv eD k2
  go_enter Tryz.func20, Tryz.ntmps20
  go_wp2_with fail
  refine (IN.out _).mono ?_
  rintro e w1 ⟨rfl, b1⟩
  have F := hid (below_on B0.out b1)
  clear b1 B0 IN
  go_wp2_with fail
  go_ret
  exact ⟨rfl, F.out⟩

set_option maxRecDepth 100000 in
set_option maxHeartbeats 1000000 in
theorem vtonum_any (k n : Int) (t : ByteArray) (w : World) (k2 : k ≠ 2) :
    Calls Tryz.prog 22 #[.agg #[.int .i64 k, .int .u64 n, .string t]] w fun e w' => e = .returned (.int .u64 (Re.nu k n)) ∧ Below w.heap.size w w' := by
  have IN := hid (fun W => vinside_any k n t W)
  have B0 := hid (alloc_b w (.cells #[.int .i64 k, .int .u64 n, .string t] 26))
  by_cases k1 : k = 1
  · subst k1
    have eN : Re.nu 1 n = n := if_pos (Or.inl rfl)
    rw [eN]
    have TA : ∀ wx : World, (Instr.typeAssert (.iface 81 (.agg #[.int .u64 n])) 74 81 true).run Tryz.prog wx = .ok (.tuple #[.agg #[.int .u64 n], .bool true]) wx := fun wx => by kernel_rfl
    have IN1 : Hid (∀ W, Calls Tryz.prog 35 #[.agg #[.int .i64 1, .int .u64 n, .string t]] W fun e w' => e = .returned (.iface 81 (.agg #[.int .u64 n])) ∧ Below W.heap.size W w') := IN.out
    clear IN eN k2
    go_enter Tryz.func22, Tryz.ntmps22
    go_wp2_with fail
    refine (IN1.out _).mono ?_
    rintro e w1 ⟨rfl, b1⟩
    have F := hid (below_on (below_on B0.out b1) (alloc_b w1 (.cells #[.int .u64 n] 81)))
    clear b1 B0 IN1
    go_wp2_with fail
    go_ret
    exact ⟨rfl, F.out⟩
  by_cases k3 : k = 3
  · subst k3
    have eN : Re.nu 3 n = n := if_pos (Or.inr rfl)
    rw [eN]
    have TA : ∀ wx : World, (Instr.typeAssert (.iface 83 (.agg #[.int .u64 n, .string t])) 74 81 true).run Tryz.prog wx = .ok (.tuple #[.agg #[.int .u64 0], .bool false]) wx := fun wx => by kernel_rfl
    have TB : ∀ wx : World, (Instr.typeAssert (.iface 83 (.agg #[.int .u64 n, .string t])) 74 83 true).run Tryz.prog wx = .ok (.tuple #[.agg #[.int .u64 n, .string t], .bool true]) wx := fun wx => by kernel_rfl
    have IN1 : Hid (∀ W, Calls Tryz.prog 35 #[.agg #[.int .i64 3, .int .u64 n, .string t]] W fun e w' => e = .returned (.iface 83 (.agg #[.int .u64 n, .string t])) ∧ Below W.heap.size W w') := IN.out
    clear IN eN k1 k2
    go_enter Tryz.func22, Tryz.ntmps22
    go_wp2_with fail
    refine (IN1.out _).mono ?_
    rintro e w1 ⟨rfl, b1⟩
    have F := hid (below_on (below_on B0.out b1) (alloc_b w1 (.cells #[.int .u64 n, .string t] 83)))
    clear b1 B0 IN1
    go_wp2_with fail
    go_ret
    exact ⟨rfl, F.out⟩
  have eN : Re.nu k n = 0 := if_neg (fun q => q.elim k1 k3)
  rw [eN]
  have TA : ∀ wx : World, (Instr.typeAssert (.iface 112 (.agg #[])) 74 81 true).run Tryz.prog wx = .ok (.tuple #[.agg #[.int .u64 0], .bool false]) wx := fun wx => by kernel_rfl
  have TB : ∀ wx : World, (Instr.typeAssert (.iface 112 (.agg #[])) 74 83 true).run Tryz.prog wx = .ok (.tuple #[.agg #[.int .u64 0, .string ⟨#[]⟩], .bool false]) wx := fun wx => by kernel_rfl
  have TC : ∀ wx : World, (Instr.typeAssert (.iface 112 (.agg #[])) 74 77 true).run Tryz.prog wx = .ok (.tuple #[.agg #[.string ⟨#[]⟩], .bool false]) wx := fun wx => by kernel_rfl
  have e : Va.ins k n t = .iface 112 (.agg #[]) := by rw [Va.ins, if_neg k1, if_neg k2, if_neg k3]
  rw [e] at IN
  clear eN e k1 k2 k3
  go_enter Tryz.func22, Tryz.ntmps22
  go_wp2_with fail
  refine (IN.out _).mono ?_
  rintro e w1 ⟨rfl, b1⟩
  have F := hid (below_on B0.out b1)
  clear b1 B0 IN
  go_wp2_with fail
  go_ret
  exact ⟨rfl, F.out⟩

/-- A block of cells that may be written. -/
def Bx (w : World) (b t : Nat) (c : Array Value) : Prop := w.heap[b]? = some (.cells c t (0, 0))
theorem Bx.new (w : World) (t : Nat) (c : Array Value) : Bx (w.alloc (.cells c t)) w.heap.size t c := heap_alloc_new w _
theorem Bx.below {B : Nat} {w w' : World} {b t : Nat} {c : Array Value} (h : Bx w b t c) (hB : Below B w w') (hb : b < B) : Bx w' b t c := by
  rw [Bx, hB.block b hb]; exact h
theorem Bx.lt {w : World} {b t : Nat} {c : Array Value} (h : Bx w b t c) : b < w.heap.size := by
  rcases Nat.lt_or_ge b w.heap.size with hl | hl
  · exact hl
  · simp [Bx, Array.getElem?_eq_none hl] at h
theorem Bx.on {w w' : World} {b t : Nat} {c : Array Value} (h : Bx w b t c) (hB : Below w.heap.size w w') : Bx w' b t c := h.below hB h.lt
theorem Bx.cell {w : World} {b t : Nat} {c : Array Value} (h : Bx w b t c) (i : Nat) (v : Value) (hi : c[i]? = some v) : w.cell? ⟨b, i, none⟩ = some v := by
  unfold Bx at h; simp [World.cell?, h, hi]
theorem Bx.free {w : World} {b t : Nat} {c : Array Value} (h : Bx w b t c) (i : Nat) : w.frozen? ⟨b, i, none⟩ = false := by
  unfold Bx at h; simp [World.frozen?, h]
theorem Bx.far {w : World} {b c o t : Nat} {v : Value} {cs : Array Value} (h : Bx w b t cs) (hc : c ≠ b) : Bx (w.setCell ⟨c, o, none⟩ v) b t cs := by
  unfold Bx at *
  simp only [World.setCell, Array.getElem?_modify]
  rw [if_neg hc]; exact h
theorem Bx.set {w : World} {b t : Nat} {cs : Array Value} (h : Bx w b t cs) (o : Nat) (v : Value) : Bx (w.setCell ⟨b, o, none⟩ v) b t (cs.setIfInBounds o v) := set1 h rfl
theorem Bx.put3 {w : World} {b t : Nat} {v0 v1 v2 : Value} (h : Bx w b t #[v0, v1, v2]) (u0 u1 u2 : Value) : Bx (((w.setCell ⟨b, 0, none⟩ u0).setCell ⟨b, 1, none⟩ u1).setCell ⟨b, 2, none⟩ u2) b t #[u0, u1, u2] :=
  ((h.set 0 u0).set 1 u1).set 2 u2
theorem bset3_below {B : Nat} {w w' : World} {b : Nat} {u0 u1 u2 : Value} (h : Below B w w') (hb : B ≤ b) : Below B w (((w'.setCell ⟨b, 0, none⟩ u0).setCell ⟨b, 1, none⟩ u1).setCell ⟨b, 2, none⟩ u2) :=
  ((h.setCell (p := ⟨b, 0, none⟩) hb u0).setCell (p := ⟨b, 1, none⟩) hb u1).setCell (p := ⟨b, 2, none⟩) hb u2

namespace Re
/-- rankOf's boxes. -/
structure RO (w : World) (k n : Int) (s : ByteArray) (W : World) : Prop where
  bel : Below w.heap.size w W
  vb : Bx W w.heap.size 26 #[.int .i64 k, .int .u64 n, .string s]
  rb : Bx W (w.heap.size + 1) 44 #[.bool false, .int .i64 0, .string ⟨#[]⟩]
theorem RO.new (w : World) (k n : Int) (s : ByteArray) : RO w k n s ((w.alloc (.cells #[.int .i64 k, .int .u64 n, .string s] 26)).alloc (.cells #[.bool false, .int .i64 0, .string ⟨#[]⟩] 44)) := by
  have a := alloc_b w (.cells #[.int .i64 k, .int .u64 n, .string s] 26)
  have b := alloc_b (w.alloc (.cells #[.int .i64 k, .int .u64 n, .string s] 26)) (.cells #[.bool false, .int .i64 0, .string ⟨#[]⟩] 44)
  have sz : (w.alloc (.cells #[.int .i64 k, .int .u64 n, .string s] 26)).heap.size = w.heap.size + 1 := Array.size_push ..
  refine ⟨below_on a b, (Bx.new w _ _).on b, ?_⟩
  rw [← sz]
  exact Bx.new _ _ _
theorem RO.on {w W W' : World} {k n : Int} {s : ByteArray} (h : RO w k n s W) (b : Below W.heap.size W W') : RO w k n s W' := ⟨below_on h.bel b, h.vb.on b, h.rb.on b⟩
theorem RO.cells {w W : World} {k n : Int} {s : ByteArray} (h : RO w k n s W) :
    (W.cell? ⟨w.heap.size, 0, none⟩ = some (.int .i64 k) ∧ W.cell? ⟨w.heap.size, 1, none⟩ = some (.int .u64 n) ∧ W.cell? ⟨w.heap.size, 2, none⟩ = some (.string s)) ∧
    (W.cell? ⟨w.heap.size + 1, 0, none⟩ = some (.bool false) ∧ W.cell? ⟨w.heap.size + 1, 1, none⟩ = some (.int .i64 0) ∧ W.cell? ⟨w.heap.size + 1, 2, none⟩ = some (.string ⟨#[]⟩)) ∧
    (W.frozen? ⟨w.heap.size + 1, 0, none⟩ = false ∧ W.frozen? ⟨w.heap.size + 1, 1, none⟩ = false ∧ W.frozen? ⟨w.heap.size + 1, 2, none⟩ = false) :=
  ⟨⟨h.vb.cell 0 _ rfl, h.vb.cell 1 _ rfl, h.vb.cell 2 _ rfl⟩, ⟨h.rb.cell 0 _ rfl, h.rb.cell 1 _ rfl, h.rb.cell 2 _ rfl⟩, h.rb.free 0, h.rb.free 1, h.rb.free 2⟩
end Re

set_option maxRecDepth 100000 in
set_option maxHeartbeats 1000000 in
theorem rankof_any (k n : Int) (s : ByteArray) (w : World) (n0 : 0 ≤ n) (n1 : n < 18446744073709551616) :
    Calls Tryz.prog 15 #[.agg #[.int .i64 k, .int .u64 n, .string s]] w fun e w' => e = .returned (.agg (Re.er (Re.rt k n s))) ∧ Below w.heap.size w w' := by
  have NU := hid (fun W => vnumeric_any k n s W)
  have B0 := hid (Re.RO.new w k n s)
  by_cases k2 : k = 2
  · rw [Re.rt_tx k2]
    have eD : decide (k ≠ 2) = false := decide_eq_false (fun h => h k2)
    rw [eD] at NU
    clear k2 eD n0 n1
    go_enter Tryz.func15, Tryz.ntmps15
    go_wp2_with fail
    generalize (w.alloc (.cells #[.int .i64 k, .int .u64 n, .string s] 26)).alloc (.cells #[.bool false, .int .i64 0, .string ⟨#[]⟩] 44) = wA at *
    refine (NU.out _).mono ?_
    rintro e w1 ⟨rfl, b1⟩
    have B1 := hid (B0.out.on b1)
    clear b1 B0 NU
    obtain ⟨⟨c0, c1, c2⟩, ⟨d0, d1, d2⟩, f0, f1, f2⟩ := B1.out.cells
    go_wp2_with fail
    (try simp only [Exit.inBlock, Exit.then])
    refine bodyPost_ret (results_cell_row rfl _ _ (w.heap.size + 1) 44 _ (0, 0) _ rfl (B1.out.rb.put3 _ _ _) Tryz.underlying44 rfl (by kernel_rfl)) rfl ?_
    exact ⟨rfl, bset3_below B1.out.bel (Nat.le_succ _)⟩
  · rw [Re.rt_nu k2]
    have eD : decide (k ≠ 2) = true := decide_eq_true k2
    rw [eD] at NU
    have TN := hid (fun W => vtonum_any k n s W k2)
    have m0 : 0 ≤ Re.nu k n := by unfold Re.nu; split <;> omega
    have m1 : Re.nu k n < 18446744073709551616 := by unfold Re.nu; split <;> omega
    have RK := hid (fun W => rank_any (Re.nu k n) W m0 m1)
    have PL : Re.pl (Re.nu k n) = if Ie.okd (Re.nu k n) = true then Ie.rkv (Re.nu k n) else 9223372036854775807 := rfl
    generalize Re.nu k n = N at *
    generalize Ie.rkv N = R at *
    generalize Re.pl N = L at *
    clear k2 eD n0 n1 m0 m1
    cases hO : Ie.okd N
    · rw [hO] at RK PL
      have eL : L = 9223372036854775807 := PL
      subst eL
      clear PL hO
      go_enter Tryz.func15, Tryz.ntmps15
      go_wp2_with fail
      generalize (w.alloc (.cells #[.int .i64 k, .int .u64 n, .string s] 26)).alloc (.cells #[.bool false, .int .i64 0, .string ⟨#[]⟩] 44) = wA at *
      refine (NU.out _).mono ?_
      rintro e w1 ⟨rfl, b1⟩
      have B1 := hid (B0.out.on b1)
      clear b1 B0 NU
      obtain ⟨⟨c0, c1, c2⟩, ⟨d0, d1, d2⟩, f0, f1, f2⟩ := B1.out.cells
      go_wp2_with fail
      refine (TN.out _).mono ?_
      rintro e w2 ⟨rfl, b2⟩
      have B2 := hid (B1.out.on b2)
      clear b2 B1 TN c0 c1 c2 d0 d1 d2 f0 f1 f2
      obtain ⟨⟨c0, c1, c2⟩, ⟨d0, d1, d2⟩, f0, f1, f2⟩ := B2.out.cells
      go_wp2_with fail
      refine (RK.out _).mono ?_
      rintro e w3 ⟨rfl, rfl⟩
      clear RK
      go_wp2_with fail
      (try simp only [Exit.inBlock, Exit.then])
      refine bodyPost_ret (results_cell_row rfl _ _ (w.heap.size + 1) 44 _ (0, 0) _ rfl (B2.out.rb.put3 _ _ _) Tryz.underlying44 rfl (by kernel_rfl)) rfl ?_
      exact ⟨rfl, bset3_below B2.out.bel (Nat.le_succ _)⟩
    · rw [hO] at RK PL
      have eL : L = R := PL
      subst eL
      clear PL hO
      go_enter Tryz.func15, Tryz.ntmps15
      go_wp2_with fail
      generalize (w.alloc (.cells #[.int .i64 k, .int .u64 n, .string s] 26)).alloc (.cells #[.bool false, .int .i64 0, .string ⟨#[]⟩] 44) = wA at *
      refine (NU.out _).mono ?_
      rintro e w1 ⟨rfl, b1⟩
      have B1 := hid (B0.out.on b1)
      clear b1 B0 NU
      obtain ⟨⟨c0, c1, c2⟩, ⟨d0, d1, d2⟩, f0, f1, f2⟩ := B1.out.cells
      go_wp2_with fail
      refine (TN.out _).mono ?_
      rintro e w2 ⟨rfl, b2⟩
      have B2 := hid (B1.out.on b2)
      clear b2 B1 TN c0 c1 c2 d0 d1 d2 f0 f1 f2
      obtain ⟨⟨c0, c1, c2⟩, ⟨d0, d1, d2⟩, f0, f1, f2⟩ := B2.out.cells
      go_wp2_with fail
      refine (RK.out _).mono ?_
      rintro e w3 ⟨rfl, rfl⟩
      clear RK
      go_wp2_with fail
      (try simp only [Exit.inBlock, Exit.then])
      refine bodyPost_ret (results_cell_row rfl _ _ (w.heap.size + 1) 44 _ (0, 0) _ rfl (B2.out.rb.put3 _ _ _) Tryz.underlying44 rfl (by kernel_rfl)) rfl ?_
      exact ⟨rfl, bset3_below B2.out.bel (Nat.le_succ _)⟩
end Go.Proofs.YtpmmbaahoegmlaaGreatDoor
