/-
  Texts put together: ReA, VaN, VaA, FTrimR.
-/
import Derived.Test.YtigmhnlcmhpepaaGreatDoorWAD
import Derived.Test.YtigmhnlcmhpepaaGreatDoorWAA
import Derived.Deep.LoopGhost
import Derived.Deep.RegionHeld3
import Derived.Deep.CutBlock
import Derived.Deep.CutRange
import Derived.Deep.DeepCutAuto
namespace Go.Proofs.YtigmhnlcmhpepaaGreatDoor
open Go Go.RowKit Go.Deep

set_option maxRecDepth 100000 in
set_option maxHeartbeats 1000000 in
theorem vnumeric_any (k n : Int) (t : ByteArray) (w : World) :
    Calls Tryz.prog 8 #[.agg #[.int .i64 k, .int .u64 n, .string t]] w fun e w' => e = .returned (.bool (decide (k ≠ 2))) ∧ Below w.heap.size w w' := by
  have IN := hid (fun W => vinside_any k n t W)
  have B0 := hid (alloc_b w (.cells #[.int .i64 k, .int .u64 n, .string t] 24))
  by_cases k2 : k = 2
  · subst k2
    have TC : ∀ wx : World, (Instr.typeAssert (.iface 62 (.agg #[.string t])) 59 62 true).run Tryz.prog wx = .ok (.tuple #[.agg #[.string t], .bool true]) wx := fun wx => by kernel_rfl
    have IN1 : Hid (∀ W, Calls Tryz.prog 26 #[.agg #[.int .i64 2, .int .u64 n, .string t]] W fun e w' => e = .returned (.iface 62 (.agg #[.string t])) ∧ Below W.heap.size W w') := IN.out
    clear IN
    go_enter Tryz.func8, Tryz.ntmps8
    go_wp2_with fail
    refine (IN1.out _).mono ?_
    rintro e w1 ⟨rfl, b1⟩
    have F := hid (below_on B0.out b1)
    clear b1 B0 IN1
    go_wp2_with fail
    go_ret
    exact ⟨rfl, F.out⟩
  have eD : decide (k ≠ 2) = true := decide_eq_true k2
  rw [eD]
  obtain ⟨v, hv, TC⟩ : ∃ v, Va.ins k n t = v ∧ ∀ wx : World, (Instr.typeAssert v 59 62 true).run Tryz.prog wx = .ok (.tuple #[.agg #[.string ⟨#[]⟩], .bool false]) wx := by
    refine ⟨_, rfl, ?_⟩
    unfold Va.ins
    by_cases k1 : k = 1
    · rw [if_pos k1]; exact fun wx => by kernel_rfl
    by_cases k3 : k = 3
    · rw [if_neg k1, if_neg k2, if_pos k3]; exact fun wx => by kernel_rfl
    · rw [if_neg k1, if_neg k2, if_neg k3]; exact fun wx => by kernel_rfl
  rw [hv] at IN
  clear hv eD k2
  go_enter Tryz.func8, Tryz.ntmps8
  go_wp2_with fail
  refine (IN.out _).mono ?_
  rintro e w1 ⟨rfl, b1⟩
  have F := hid (below_on B0.out b1)
  clear b1 B0 IN
  go_wp2_with fail
  go_ret
  exact ⟨rfl, F.out⟩

set_option maxRecDepth 100000 in
set_option maxHeartbeats 1000000 in
theorem vtonum_any (k n : Int) (t : ByteArray) (w : World) (k2 : k ≠ 2) :
    Calls Tryz.prog 22 #[.agg #[.int .i64 k, .int .u64 n, .string t]] w fun e w' => e = .returned (.int .u64 (Re.nu k n)) ∧ Below w.heap.size w w' := by
  have IN := hid (fun W => vinside_any k n t W)
  have B0 := hid (alloc_b w (.cells #[.int .i64 k, .int .u64 n, .string t] 24))
  by_cases k1 : k = 1
  · subst k1
    have eN : Re.nu 1 n = n := if_pos (Or.inl rfl)
    rw [eN]
    have TA : ∀ wx : World, (Instr.typeAssert (.iface 88 (.agg #[.int .u64 n])) 59 88 true).run Tryz.prog wx = .ok (.tuple #[.agg #[.int .u64 n], .bool true]) wx := fun wx => by kernel_rfl
    have IN1 : Hid (∀ W, Calls Tryz.prog 26 #[.agg #[.int .i64 1, .int .u64 n, .string t]] W fun e w' => e = .returned (.iface 88 (.agg #[.int .u64 n])) ∧ Below W.heap.size W w') := IN.out
    clear IN eN k2
    go_enter Tryz.func22, Tryz.ntmps22
    go_wp2_with fail
    refine (IN1.out _).mono ?_
    rintro e w1 ⟨rfl, b1⟩
    have F := hid (below_on (below_on B0.out b1) (alloc_b w1 (.cells #[.int .u64 n] 88)))
    clear b1 B0 IN1
    go_wp2_with fail
    go_ret
    exact ⟨rfl, F.out⟩
  by_cases k3 : k = 3
  · subst k3
    have eN : Re.nu 3 n = n := if_pos (Or.inr rfl)
    rw [eN]
    have TA : ∀ wx : World, (Instr.typeAssert (.iface 90 (.agg #[.int .u64 n, .string t])) 59 88 true).run Tryz.prog wx = .ok (.tuple #[.agg #[.int .u64 0], .bool false]) wx := fun wx => by kernel_rfl
    have TB : ∀ wx : World, (Instr.typeAssert (.iface 90 (.agg #[.int .u64 n, .string t])) 59 90 true).run Tryz.prog wx = .ok (.tuple #[.agg #[.int .u64 n, .string t], .bool true]) wx := fun wx => by kernel_rfl
    have IN1 : Hid (∀ W, Calls Tryz.prog 26 #[.agg #[.int .i64 3, .int .u64 n, .string t]] W fun e w' => e = .returned (.iface 90 (.agg #[.int .u64 n, .string t])) ∧ Below W.heap.size W w') := IN.out
    clear IN eN k1 k2
    go_enter Tryz.func22, Tryz.ntmps22
    go_wp2_with fail
    refine (IN1.out _).mono ?_
    rintro e w1 ⟨rfl, b1⟩
    have F := hid (below_on (below_on B0.out b1) (alloc_b w1 (.cells #[.int .u64 n, .string t] 90)))
    clear b1 B0 IN1
    go_wp2_with fail
    go_ret
    exact ⟨rfl, F.out⟩
  have eN : Re.nu k n = 0 := if_neg (fun q => q.elim k1 k3)
  rw [eN]
  have TA : ∀ wx : World, (Instr.typeAssert (.iface 94 (.agg #[])) 59 88 true).run Tryz.prog wx = .ok (.tuple #[.agg #[.int .u64 0], .bool false]) wx := fun wx => by kernel_rfl
  have TB : ∀ wx : World, (Instr.typeAssert (.iface 94 (.agg #[])) 59 90 true).run Tryz.prog wx = .ok (.tuple #[.agg #[.int .u64 0, .string ⟨#[]⟩], .bool false]) wx := fun wx => by kernel_rfl
  have TC : ∀ wx : World, (Instr.typeAssert (.iface 94 (.agg #[])) 59 62 true).run Tryz.prog wx = .ok (.tuple #[.agg #[.string ⟨#[]⟩], .bool false]) wx := fun wx => by kernel_rfl
  have e : Va.ins k n t = .iface 94 (.agg #[]) := by rw [Va.ins, if_neg k1, if_neg k2, if_neg k3]
  rw [e] at IN
  clear eN e k1 k2 k3
  go_enter Tryz.func22, Tryz.ntmps22
  go_wp2_with fail
  refine (IN.out _).mono ?_
  rintro e w1 ⟨rfl, b1⟩
  have F := hid (below_on B0.out b1)
  clear b1 B0 IN
  go_wp2_with fail
  go_ret
  exact ⟨rfl, F.out⟩

/-- A block of cells that may be written. -/
def Bx (w : World) (b t : Nat) (c : Array Value) : Prop := w.heap[b]? = some (.cells c t (0, 0))
theorem Bx.new (w : World) (t : Nat) (c : Array Value) : Bx (w.alloc (.cells c t)) w.heap.size t c := heap_alloc_new w _
theorem Bx.below {B : Nat} {w w' : World} {b t : Nat} {c : Array Value} (h : Bx w b t c) (hB : Below B w w') (hb : b < B) : Bx w' b t c := by
  rw [Bx, hB.block b hb]; exact h
theorem Bx.lt {w : World} {b t : Nat} {c : Array Value} (h : Bx w b t c) : b < w.heap.size := by
  rcases Nat.lt_or_ge b w.heap.size with hl | hl
  · exact hl
  · simp [Bx, Array.getElem?_eq_none hl] at h
theorem Bx.on {w w' : World} {b t : Nat} {c : Array Value} (h : Bx w b t c) (hB : Below w.heap.size w w') : Bx w' b t c := h.below hB h.lt
theorem Bx.cell {w : World} {b t : Nat} {c : Array Value} (h : Bx w b t c) (i : Nat) (v : Value) (hi : c[i]? = some v) : w.cell? ⟨b, i, none⟩ = some v := by
  unfold Bx at h; simp [World.cell?, h, hi]
theorem Bx.free {w : World} {b t : Nat} {c : Array Value} (h : Bx w b t c) (i : Nat) : w.frozen? ⟨b, i, none⟩ = false := by
  unfold Bx at h; simp [World.frozen?, h]
theorem Bx.far {w : World} {b c o t : Nat} {v : Value} {cs : Array Value} (h : Bx w b t cs) (hc : c ≠ b) : Bx (w.setCell ⟨c, o, none⟩ v) b t cs := by
  unfold Bx at *
  simp only [World.setCell, Array.getElem?_modify]
  rw [if_neg hc]; exact h
theorem Bx.set {w : World} {b t : Nat} {cs : Array Value} (h : Bx w b t cs) (o : Nat) (v : Value) : Bx (w.setCell ⟨b, o, none⟩ v) b t (cs.setIfInBounds o v) := set1 h rfl
theorem Bx.put3 {w : World} {b t : Nat} {v0 v1 v2 : Value} (h : Bx w b t #[v0, v1, v2]) (u0 u1 u2 : Value) : Bx (((w.setCell ⟨b, 0, none⟩ u0).setCell ⟨b, 1, none⟩ u1).setCell ⟨b, 2, none⟩ u2) b t #[u0, u1, u2] :=
  ((h.set 0 u0).set 1 u1).set 2 u2
theorem bset3_below {B : Nat} {w w' : World} {b : Nat} {u0 u1 u2 : Value} (h : Below B w w') (hb : B ≤ b) : Below B w (((w'.setCell ⟨b, 0, none⟩ u0).setCell ⟨b, 1, none⟩ u1).setCell ⟨b, 2, none⟩ u2) :=
  ((h.setCell (p := ⟨b, 0, none⟩) hb u0).setCell (p := ⟨b, 1, none⟩) hb u1).setCell (p := ⟨b, 2, none⟩) hb u2

namespace Re
/-- rankOf's boxes. -/
structure RO (w : World) (k n : Int) (s : ByteArray) (W : World) : Prop where
  bel : Below w.heap.size w W
  vb : Bx W w.heap.size 24 #[.int .i64 k, .int .u64 n, .string s]
  rb : Bx W (w.heap.size + 1) 64 #[.bool false, .int .i64 0, .string ⟨#[]⟩]
theorem RO.new (w : World) (k n : Int) (s : ByteArray) : RO w k n s ((w.alloc (.cells #[.int .i64 k, .int .u64 n, .string s] 24)).alloc (.cells #[.bool false, .int .i64 0, .string ⟨#[]⟩] 64)) := by
  have a := alloc_b w (.cells #[.int .i64 k, .int .u64 n, .string s] 24)
  have b := alloc_b (w.alloc (.cells #[.int .i64 k, .int .u64 n, .string s] 24)) (.cells #[.bool false, .int .i64 0, .string ⟨#[]⟩] 64)
  have sz : (w.alloc (.cells #[.int .i64 k, .int .u64 n, .string s] 24)).heap.size = w.heap.size + 1 := Array.size_push ..
  refine ⟨below_on a b, (Bx.new w _ _).on b, ?_⟩
  rw [← sz]
  exact Bx.new _ _ _
theorem RO.on {w W W' : World} {k n : Int} {s : ByteArray} (h : RO w k n s W) (b : Below W.heap.size W W') : RO w k n s W' := ⟨below_on h.bel b, h.vb.on b, h.rb.on b⟩
theorem RO.cells {w W : World} {k n : Int} {s : ByteArray} (h : RO w k n s W) :
    (W.cell? ⟨w.heap.size, 0, none⟩ = some (.int .i64 k) ∧ W.cell? ⟨w.heap.size, 1, none⟩ = some (.int .u64 n) ∧ W.cell? ⟨w.heap.size, 2, none⟩ = some (.string s)) ∧
    (W.cell? ⟨w.heap.size + 1, 0, none⟩ = some (.bool false) ∧ W.cell? ⟨w.heap.size + 1, 1, none⟩ = some (.int .i64 0) ∧ W.cell? ⟨w.heap.size + 1, 2, none⟩ = some (.string ⟨#[]⟩)) ∧
    (W.frozen? ⟨w.heap.size + 1, 0, none⟩ = false ∧ W.frozen? ⟨w.heap.size + 1, 1, none⟩ = false ∧ W.frozen? ⟨w.heap.size + 1, 2, none⟩ = false) :=
  ⟨⟨h.vb.cell 0 _ rfl, h.vb.cell 1 _ rfl, h.vb.cell 2 _ rfl⟩, ⟨h.rb.cell 0 _ rfl, h.rb.cell 1 _ rfl, h.rb.cell 2 _ rfl⟩, h.rb.free 0, h.rb.free 1, h.rb.free 2⟩
end Re

set_option maxRecDepth 100000 in
set_option maxHeartbeats 1000000 in
theorem rankof_any (k n : Int) (s : ByteArray) (w : World) (n0 : 0 ≤ n) (n1 : n < 18446744073709551616) :
    Calls Tryz.prog 31 #[.agg #[.int .i64 k, .int .u64 n, .string s]] w fun e w' => e = .returned (.agg (Re.er (Re.rt k n s))) ∧ Below w.heap.size w w' := by
  have NU := hid (fun W => vnumeric_any k n s W)
  have B0 := hid (Re.RO.new w k n s)
  by_cases k2 : k = 2
  · rw [Re.rt_tx k2]
    have eD : decide (k ≠ 2) = false := decide_eq_false (fun h => h k2)
    rw [eD] at NU
    clear k2 eD n0 n1
    go_enter Tryz.func31, Tryz.ntmps31
    go_wp2_with fail
    generalize (w.alloc (.cells #[.int .i64 k, .int .u64 n, .string s] 24)).alloc (.cells #[.bool false, .int .i64 0, .string ⟨#[]⟩] 64) = wA at *
    refine (NU.out _).mono ?_
    rintro e w1 ⟨rfl, b1⟩
    have B1 := hid (B0.out.on b1)
    clear b1 B0 NU
    obtain ⟨⟨c0, c1, c2⟩, ⟨d0, d1, d2⟩, f0, f1, f2⟩ := B1.out.cells
    go_wp2_with fail
    (try simp only [Exit.inBlock, Exit.then])
    refine bodyPost_ret (results_cell_row rfl _ _ (w.heap.size + 1) 64 _ (0, 0) _ rfl (B1.out.rb.put3 _ _ _) Tryz.underlying64 rfl (by kernel_rfl)) rfl ?_
    exact ⟨rfl, bset3_below B1.out.bel (Nat.le_succ _)⟩
  · rw [Re.rt_nu k2]
    have eD : decide (k ≠ 2) = true := decide_eq_true k2
    rw [eD] at NU
    have TN := hid (fun W => vtonum_any k n s W k2)
    have m0 : 0 ≤ Re.nu k n := by unfold Re.nu; split <;> omega
    have m1 : Re.nu k n < 18446744073709551616 := by unfold Re.nu; split <;> omega
    have RK := hid (fun W => rank_any (Re.nu k n) W m0 m1)
    have PL : Re.pl (Re.nu k n) = if Ie.okd (Re.nu k n) = true then Ie.rkv (Re.nu k n) else 9223372036854775807 := rfl
    generalize Re.nu k n = N at *
    generalize Ie.rkv N = R at *
    generalize Re.pl N = L at *
    clear k2 eD n0 n1 m0 m1
    cases hO : Ie.okd N
    · rw [hO] at RK PL
      have eL : L = 9223372036854775807 := PL
      subst eL
      clear PL hO
      go_enter Tryz.func31, Tryz.ntmps31
      go_wp2_with fail
      generalize (w.alloc (.cells #[.int .i64 k, .int .u64 n, .string s] 24)).alloc (.cells #[.bool false, .int .i64 0, .string ⟨#[]⟩] 64) = wA at *
      refine (NU.out _).mono ?_
      rintro e w1 ⟨rfl, b1⟩
      have B1 := hid (B0.out.on b1)
      clear b1 B0 NU
      obtain ⟨⟨c0, c1, c2⟩, ⟨d0, d1, d2⟩, f0, f1, f2⟩ := B1.out.cells
      go_wp2_with fail
      refine (TN.out _).mono ?_
      rintro e w2 ⟨rfl, b2⟩
      have B2 := hid (B1.out.on b2)
      clear b2 B1 TN c0 c1 c2 d0 d1 d2 f0 f1 f2
      obtain ⟨⟨c0, c1, c2⟩, ⟨d0, d1, d2⟩, f0, f1, f2⟩ := B2.out.cells
      go_wp2_with fail
      refine (RK.out _).mono ?_
      rintro e w3 ⟨rfl, rfl⟩
      clear RK
      go_wp2_with fail
      (try simp only [Exit.inBlock, Exit.then])
      refine bodyPost_ret (results_cell_row rfl _ _ (w.heap.size + 1) 64 _ (0, 0) _ rfl (B2.out.rb.put3 _ _ _) Tryz.underlying64 rfl (by kernel_rfl)) rfl ?_
      exact ⟨rfl, bset3_below B2.out.bel (Nat.le_succ _)⟩
    · rw [hO] at RK PL
      have eL : L = R := PL
      subst eL
      clear PL hO
      go_enter Tryz.func31, Tryz.ntmps31
      go_wp2_with fail
      generalize (w.alloc (.cells #[.int .i64 k, .int .u64 n, .string s] 24)).alloc (.cells #[.bool false, .int .i64 0, .string ⟨#[]⟩] 64) = wA at *
      refine (NU.out _).mono ?_
      rintro e w1 ⟨rfl, b1⟩
      have B1 := hid (B0.out.on b1)
      clear b1 B0 NU
      obtain ⟨⟨c0, c1, c2⟩, ⟨d0, d1, d2⟩, f0, f1, f2⟩ := B1.out.cells
      go_wp2_with fail
      refine (TN.out _).mono ?_
      rintro e w2 ⟨rfl, b2⟩
      have B2 := hid (B1.out.on b2)
      clear b2 B1 TN c0 c1 c2 d0 d1 d2 f0 f1 f2
      obtain ⟨⟨c0, c1, c2⟩, ⟨d0, d1, d2⟩, f0, f1, f2⟩ := B2.out.cells
      go_wp2_with fail
      refine (RK.out _).mono ?_
      rintro e w3 ⟨rfl, rfl⟩
      clear RK
      go_wp2_with fail
      (try simp only [Exit.inBlock, Exit.then])
      refine bodyPost_ret (results_cell_row rfl _ _ (w.heap.size + 1) 64 _ (0, 0) _ rfl (B2.out.rb.put3 _ _ _) Tryz.underlying64 rfl (by kernel_rfl)) rfl ?_
      exact ⟨rfl, bset3_below B2.out.bel (Nat.le_succ _)⟩
end Go.Proofs.YtigmhnlcmhpepaaGreatDoor

namespace Go.Proofs.YtigmhnlcmhpepaaGreatDoor
namespace Va
open Ie

/-- Whether Integer has digits for it. -/
def ok (d : Int) : Bool := intg d && decide (d % 9223372036854775808 < 4890909195324358656)
/-- Its number. -/
def num (d : Int) : Int := if 9223372036854775808 ≤ d then - whp (d % 9223372036854775808) else whp (d % 9223372036854775808)

/-- What toInt tells of it. -/
def vi (d : Int) : Int := if ok d = true then num d else 0

theorem two_pos (n : Nat) : (0 : Int) < 2 ^ n := Int.pow_pos (by omega)
theorem two_add (m n : Nat) : (2 : Int) ^ (m + n) = 2 ^ m * 2 ^ n := Int.pow_add 2 m n

/-- The mantissa at the top, against what lies behind the point. -/
theorem top_at {a : Int} {p : Nat} (hp : p ≤ 62) (ha : a / 4503599627370496 = p + 1023) : vl a = ((a % 4503599627370496 + 4503599627370496) * 2048) * 2 ^ (p + 1012) ∧ (2 : Int) ^ 1075 = 2 ^ (63 - p) * 2 ^ (p + 1012) := by
  constructor
  · have h1 : ¬ a < 4503599627370496 := by omega
    have h2 : ex a = p + 1022 := by unfold ex; omega
    rw [vl, man, if_neg h1, h2, show p + 1022 = 10 + (p + 1012) by omega, two_add, show (2 : Int) ^ 10 = 1024 from rfl]
    generalize (2 : Int) ^ (p + 1012) = K
    generalize a % 4503599627370496 = m
    rw [show 2 * (4503599627370496 + m) * (1024 * K) = ((4503599627370496 + m) * 2048) * K by
      rw [← Int.mul_assoc, Int.mul_comm 2 (4503599627370496 + m), Int.mul_assoc (4503599627370496 + m) 2 1024]; rfl, Int.add_comm 4503599627370496 m]
  · rw [← two_add, show 63 - p + (p + 1012) = 1075 by omega]
theorem top_whp {a : Int} {p : Nat} (hp : p ≤ 62) (ha : a / 4503599627370496 = p + 1023) : whp a = ((a % 4503599627370496 + 4503599627370496) * 2048) / 2 ^ (63 - p) := by
  obtain ⟨e1, e2⟩ := top_at hp ha
  rw [whp, e1, e2]
  exact Int.mul_ediv_mul_of_pos_left _ _ (two_pos _)
theorem top_intg {a : Int} {p : Nat} (hp : p ≤ 62) (ha : a / 4503599627370496 = p + 1023) : vl a = whp a * 2 ^ 1075 ↔ ((a % 4503599627370496 + 4503599627370496) * 2048) / 2 ^ (63 - p) * 2 ^ (63 - p) = (a % 4503599627370496 + 4503599627370496) * 2048 := by
  obtain ⟨e1, e2⟩ := top_at hp ha
  rw [top_whp hp ha, e1, e2]
  generalize (a % 4503599627370496 + 4503599627370496) * 2048 = M
  have k := two_pos (p + 1012)
  generalize (2 : Int) ^ (p + 1012) = K at *
  generalize (2 : Int) ^ (63 - p) = B
  rw [← Int.mul_assoc]
  constructor
  · intro h
    exact (Int.eq_of_mul_eq_mul_right (by omega) h).symm
  · intro h; rw [h]
/-- Below one nothing but zero is whole. -/
theorem low_intg {a : Int} (h0 : 0 < a) (h : a / 4503599627370496 < 1023) : ¬ vl a = whp a * 2 ^ 1075 := by
  intro q
  have m0 := man_nn a (by omega)
  have hm : 0 < man a := by
    unfold man
    split
    · exact h0
    · omega
  have he : ex a ≤ 1021 := by unfold ex; omega
  have v0 : 0 < vl a := Int.mul_pos (by omega) (two_pos _)
  have v1 : vl a < 2 ^ 1075 := by
    have h1 : (2 : Int) ^ 1075 = 2 ^ 54 * (2 ^ ex a * 2 ^ (1021 - ex a)) := by rw [← two_add, ← two_add, show 54 + (ex a + (1021 - ex a)) = 1075 by omega]
    have h2 : (1 : Int) ≤ 2 ^ (1021 - ex a) := two_pos _
    have h3 := two_pos (ex a)
    rw [h1, vl]
    have h4 : (2 : Int) ^ ex a * 1 ≤ 2 ^ ex a * 2 ^ (1021 - ex a) := Int.mul_le_mul_of_nonneg_left h2 (Int.le_of_lt h3)
    have h5 : (2 : Int) ^ 54 = 18014398509481984 := by decide
    rw [h5]
    have h6 : 2 * man a * 2 ^ ex a < 18014398509481984 * 2 ^ ex a := Int.mul_lt_mul_of_pos_right (by omega) h3
    generalize (2 : Int) ^ (1021 - ex a) = X at *
    generalize (2 : Int) ^ ex a = Y at *
    omega
  have w0 : whp a = 0 := Int.ediv_eq_zero_of_lt (Int.le_of_lt v0) v1
  rw [w0, Int.zero_mul] at q
  omega
theorem zero_intg : vl 0 = whp 0 * 2 ^ 1075 ∧ whp 0 = 0 := by
  have e : vl 0 = 0 := by unfold vl man; simp
  have w : whp 0 = 0 := by rw [whp, e]; exact Int.zero_ediv _
  exact ⟨by rw [e, w, Int.zero_mul], w⟩

/-- What toInt tells: each way by itself. -/
theorem ok_zero {d : Int} (h : d % 9223372036854775808 = 0) : ok d = true ∧ num d = 0 := by
  obtain ⟨a, b⟩ := zero_intg
  refine ⟨?_, ?_⟩
  · rw [ok, intg, h, decide_eq_true ⟨by omega, a⟩]; rfl
  · rw [num, h, b]; simp
theorem ok_low {d : Int} (h0 : 0 < d % 9223372036854775808) (h : d % 9223372036854775808 / 4503599627370496 < 1023) : ok d = false := by
  rw [ok, intg, decide_eq_false (fun q => low_intg h0 h q.2)]; rfl
theorem ok_high {d : Int} (h : 1086 ≤ d % 9223372036854775808 / 4503599627370496) : ok d = false := by
  rw [ok, decide_eq_false (show ¬ d % 9223372036854775808 < 4890909195324358656 by omega), Bool.and_false]
theorem ok_mid {d : Int} {p : Nat} (hp : p ≤ 62) (h : d % 9223372036854775808 / 4503599627370496 = p + 1023) : ok d = decide (((d % 9223372036854775808 % 4503599627370496 + 4503599627370496) * 2048) / 2 ^ (63 - p) * 2 ^ (63 - p) = (d % 9223372036854775808 % 4503599627370496 + 4503599627370496) * 2048) := by
  rw [ok, decide_eq_true (show d % 9223372036854775808 < 4890909195324358656 by omega), Bool.and_true, intg]
  refine decide_eq_decide.2 ?_
  rw [top_intg hp h]
  exact ⟨fun q => q.2, fun q => ⟨by omega, q⟩⟩
theorem num_mid {d : Int} {p : Nat} (hp : p ≤ 62) (h : d % 9223372036854775808 / 4503599627370496 = p + 1023) : num d = if 9223372036854775808 ≤ d then - (((d % 9223372036854775808 % 4503599627370496 + 4503599627370496) * 2048) / 2 ^ (63 - p)) else ((d % 9223372036854775808 % 4503599627370496 + 4503599627370496) * 2048) / 2 ^ (63 - p) := by
  rw [num, top_whp hp h]
/-- Its size. -/
theorem mid_bd {m : Int} {p : Nat} (hp : p ≤ 62) (h0 : 0 ≤ m) (h1 : m < 4503599627370496) : 0 ≤ ((m + 4503599627370496) * 2048) / 2 ^ (63 - p) ∧ ((m + 4503599627370496) * 2048) / 2 ^ (63 - p) < 9223372036854775808 := by
  have b := two_pos (63 - p)
  have b2 : (2 : Int) ≤ 2 ^ (63 - p) := by
    rw [show 63 - p = 1 + (62 - p) by omega, two_add]
    have := two_pos (62 - p)
    rw [show (2 : Int) ^ 1 = 2 from rfl]; omega
  refine ⟨Int.ediv_nonneg (by omega) (Int.le_of_lt b), ?_⟩
  refine Int.ediv_lt_of_lt_mul b ?_
  generalize (2 : Int) ^ (63 - p) = B at *
  have : 9223372036854775808 * 2 ≤ 9223372036854775808 * B := Int.mul_le_mul_of_nonneg_left b2 (by omega)
  omega
end Va
end Go.Proofs.YtigmhnlcmhpepaaGreatDoor

namespace Go.Proofs.YtigmhnlcmhpepaaGreatDoor
open Go Go.RowKit Go.Deep

theorem vzero_any (d : Int) (w : World) (h0 : 0 ≤ d) (h1 : d < 18446744073709551616) :
    Calls Tryz.prog 104 #[.int .u64 d] w fun e w' => e = .returned (.bool (d % 9223372036854775808 == 0)) ∧ w' = w := by
  have AN := Ib.sign_andNot d h0 h1
  go_enter Tryz.func104, Tryz.ntmps104
  go_wp2_with fail
  go_ret
  exact ⟨rfl, rfl⟩

set_option maxRecDepth 100000 in
theorem vint_any (d : Int) (w : World) (h0 : 0 ≤ d) (h1 : d < 18446744073709551616) :
    Calls Tryz.prog 86 #[.int .u64 d] w fun e w' => e = .returned (.tuple #[.int .i64 (Va.vi d), .bool (Va.ok d)]) ∧ w' = w := by
  have ZE := hid (fun W => vzero_any d W h0 h1)
  have AN := Ib.sign_andNot d h0 h1
  obtain ⟨a, ha⟩ : ∃ a, d % 9223372036854775808 = a := ⟨_, rfl⟩
  have a0 : 0 ≤ a := by omega
  have a1 : a < 9223372036854775808 := by omega
  by_cases hz : a = 0
  · obtain ⟨k1, k2⟩ := Va.ok_zero (ha.trans hz)
    have F : Hid (Va.vi d = 0 ∧ Va.ok d = true) := ⟨by rw [Va.vi, if_pos k1, k2], k1⟩
    rw [ha, hz] at ZE
    clear k1 k2 AN
    go_enter Tryz.func86, Tryz.ntmps86
    go_wp2_with (go_at_call 104; refine (ZE.out _).mono ?_; rintro e w2 ⟨rfl, hw2⟩; rw [hw2]; clear hw2 w2)
    go_ret2
    exact ⟨by rw [F.out.1, F.out.2]; rfl, rfl⟩
  have zf : (a == 0) = false := by simpa using hz
  rw [ha, zf] at ZE
  rw [ha] at AN
  have NO : Hid (Va.ok d = false → Ending.returned (.tuple #[.int .i64 0, .bool false]) = Ending.returned (.tuple #[.int .i64 (Va.vi d), .bool (Va.ok d)])) := fun h => by rw [Va.vi, h]; rfl
  have p0 : 0 ≤ a / 4503599627370496 := by omega
  have p1 : a / 4503599627370496 ≤ 2047 := by omega
  by_cases lo : a / 4503599627370496 < 1023
  · have F := hid (NO.out (Va.ok_low (by rw [ha]; omega) (by rw [ha]; exact lo)))
    have lo2 : a / 4503599627370496 - 1023 < 0 := by omega
    clear NO ha
    go_enter Tryz.func86, Tryz.ntmps86
    go_wp2_with (go_at_call 104; refine (ZE.out _).mono ?_; rintro e w2 ⟨rfl, hw2⟩; rw [hw2]; clear hw2 w2)
    go_ret2
    exact ⟨F.out, rfl⟩
  by_cases hi : 1086 ≤ a / 4503599627370496
  · have F := hid (NO.out (Va.ok_high (by rw [ha]; exact hi)))
    clear NO ha
    go_enter Tryz.func86, Tryz.ntmps86
    go_wp2_with (go_at_call 104; refine (ZE.out _).mono ?_; rintro e w2 ⟨rfl, hw2⟩; rw [hw2]; clear hw2 w2)
    go_ret2
    exact ⟨F.out, rfl⟩
  obtain ⟨p, hp⟩ : ∃ p : Nat, a / 4503599627370496 = p + 1023 := ⟨(a / 4503599627370496 - 1023).toNat, by omega⟩
  have p62 : p ≤ 62 := by omega
  have OM := Va.ok_mid (d := d) p62 (by rw [ha]; exact hp)
  have NM := Va.num_mid (d := d) p62 (by rw [ha]; exact hp)
  have MB := Va.mid_bd (m := a % 4503599627370496) p62 (by omega) (by omega)
  rw [ha] at OM NM
  have FR := Ib.frac_and a a0 (by omega)
  have m0 : 0 ≤ a % 4503599627370496 := by omega
  have m1 : a % 4503599627370496 < 4503599627370496 := by omega
  have OR : bits .or .u64 (a % 4503599627370496) 4503599627370496 = a % 4503599627370496 + 4503599627370496 := by
    have q := Ib.field_or (a % 4503599627370496) 1 m0 m1 (by omega) (by omega)
    rw [Int.one_mul] at q; exact q
  obtain ⟨M, hM⟩ : ∃ M, (a % 4503599627370496 + 4503599627370496) * 2048 = M := ⟨_, rfl⟩
  have WM : IntKind.u64.wrap ((a % 4503599627370496 + 4503599627370496) * 2048) = M := by rw [hM, IntKind.wrap_u64]; omega
  have M0 : 0 ≤ M := by omega
  have M1 : M < 18446744073709551616 := by omega
  rw [hM] at OM NM MB
  have B0 := Va.two_pos (63 - p)
  obtain ⟨n, hn⟩ : ∃ n, M / 2 ^ (63 - p) = n := ⟨_, rfl⟩
  have nb : n * 2 ^ (63 - p) ≤ M := by rw [← hn]; exact Int.ediv_mul_le M (by omega)
  have np : 0 ≤ n * 2 ^ (63 - p) := by rw [hn] at MB; exact Int.mul_nonneg MB.1 (Int.le_of_lt B0)
  rw [hn] at OM NM MB
  have WN : IntKind.u64.wrap (n * 2 ^ (63 - p)) = n * 2 ^ (63 - p) := by rw [IntKind.wrap_u64]; omega
  obtain ⟨n0, n1⟩ := MB
  have W1 : wrap64 n = n := by unfold wrap64; omega
  have W2 : wrap64 (-n) = -n := by unfold wrap64; omega
  have p63 : (p : Int) ≤ 62 := by omega
  have NMh := hid NM
  have OMh := hid OM
  have ki : ¬ (63 : Int) ≤ (p : Int) := by omega
  have kj : ¬ (p : Int) < 0 := by omega
  clear NM OM hM lo hi hz p0 p1 m0 m1 M0 M1
  by_cases hq : n * 2 ^ (63 - p) = M
  · have q1 : (n * 2 ^ (63 - p) == M) = true := by simpa using hq
    have q2 : (n * 2 ^ (63 - p) != M) = false := by simpa using hq
    have ok1 : Hid (Va.ok d = true) := by rw [OMh.out]; exact decide_eq_true hq
    by_cases hs : 9223372036854775808 ≤ d
    · have s1 : (d == a) = false := by simp; omega
      have s2 : (d != a) = true := by simp; omega
      have F : Hid (Ending.returned (.tuple #[.int .i64 (-n), .bool true]) = Ending.returned (.tuple #[.int .i64 (Va.vi d), .bool (Va.ok d)])) := by
        show _ = _
        rw [Va.vi, if_pos ok1.out, NMh.out, if_pos hs, ok1.out]
      clear NMh OMh ok1 hq NO ha nb np B0 hs p62
      go_enter Tryz.func86, Tryz.ntmps86
      go_wp2_with (go_at_call 104; refine (ZE.out _).mono ?_; rintro e w2 ⟨rfl, hw2⟩; rw [hw2]; clear hw2 w2)
      go_ret2
      exact ⟨F.out, rfl⟩
    · have s1 : (d == a) = true := by simp; omega
      have s2 : (d != a) = false := by simp; omega
      have F : Hid (Ending.returned (.tuple #[.int .i64 n, .bool true]) = Ending.returned (.tuple #[.int .i64 (Va.vi d), .bool (Va.ok d)])) := by
        show _ = _
        rw [Va.vi, if_pos ok1.out, NMh.out, if_neg hs, ok1.out]
      clear NMh OMh ok1 hq NO ha nb np B0 hs p62
      go_enter Tryz.func86, Tryz.ntmps86
      go_wp2_with (go_at_call 104; refine (ZE.out _).mono ?_; rintro e w2 ⟨rfl, hw2⟩; rw [hw2]; clear hw2 w2)
      go_ret2
      exact ⟨F.out, rfl⟩
  · have q1 : (n * 2 ^ (63 - p) == M) = false := by simpa using hq
    have q2 : (n * 2 ^ (63 - p) != M) = true := by simpa using hq
    have F := hid (NO.out (by rw [OMh.out]; exact decide_eq_false hq))
    clear NMh OMh hq NO ha nb np B0 p62
    go_enter Tryz.func86, Tryz.ntmps86
    go_wp2_with (go_at_call 104; refine (ZE.out _).mono ?_; rintro e w2 ⟨rfl, hw2⟩; rw [hw2]; clear hw2 w2)
    go_ret2
    exact ⟨F.out, rfl⟩
end Go.Proofs.YtigmhnlcmhpepaaGreatDoor

namespace Go.Proofs.YtigmhnlcmhpepaaGreatDoor
open Go.RowKit Go.Deep

/-- s' is s without some zeros at its end, and ends with none. -/
def FTail (xs : List Int) (e : Ending) : Prop := ∃ s' k, e = .returned (.string s') ∧ Str s' (xs.take k) ∧ k ≤ xs.length ∧ (∀ i, k ≤ i → i < xs.length → xs.getD i 0 = 48) ∧ (0 < k → xs.getD (k - 1) 0 ≠ 48)

set_option maxRecDepth 100000 in
set_option maxHeartbeats 1000000 in
theorem frtrim_any (s : ByteArray) (xs : List Int) (w : World) (hs : Str s xs) (hn1 : xs.length ≤ 562949953421312) :
    Calls Tryz.prog 126 #[.string s, .int .u8 48] w fun e w' => FTail xs e ∧ w' = w := by
  have HS := hid hs
  have HN := hid hn1
  clear hs hn1
  go_enter Tryz.func126, Tryz.ntmps126
  go_wp2_with fail
  go_loop [0] (fun c => ∃ s' m, c = .string s' ∧ Hid (Str s' (xs.take m) ∧ m ≤ xs.length ∧ s'.size = m ∧ (∀ i, m ≤ i → i < xs.length → xs.getD i 0 = 48))) (fun c => match c with | .string s' => s'.size | _ => 0)
  case atStart => exact ⟨s, xs.length, rfl, by rw [List.take_length]; exact HS.out, Nat.le_refl _, HS.out.size, fun i h1 h2 => by omega⟩
  case round =>
    obtain ⟨s', m, rfl, I⟩ := hrel
    have hsz : s'.size = m := I.out.2.2.1
    have hmb : (m : Int) ≤ 562949953421312 := by have := HN.out; have := I.out.2.1; omega
    by_cases h0 : m = 0
    · subst h0
      have F : Hid (FTail xs (.returned (.string s'))) := ⟨s', 0, rfl, I.out.1, Nat.zero_le _, I.out.2.2.2, fun h => by omega⟩
      clear I
      go_wp2_with fail
      go_ret
      exact ⟨F.out, rfl⟩
    · obtain ⟨u, hu⟩ : ∃ u, m = u + 1 := ⟨m - 1, by omega⟩
      have hmi : (0 : Int) < (m : Int) := by omega
      have hmu : (m : Int) - 1 = (u : Int) := by omega
      have hum : (u : Int) < (m : Int) := by omega
      obtain ⟨x, X⟩ : ∃ x, Hid (xs.getD u 0 = x) := ⟨_, rfl⟩
      have hx : ∀ h : u < s'.size, ((s'[u]'h).toNat : Int) = x := fun h => by
        rw [I.out.1.at u h, ← X.out]
        simp [List.getD, show u < m by omega]
      have HU := hid hu
      by_cases hd : x = 48
      · subst hd
        have F : Hid (Str (s'.extract 0 u) (xs.take u) ∧ u ≤ xs.length ∧ (s'.extract 0 u).size = u ∧ (∀ i, u ≤ i → i < xs.length → xs.getD i 0 = 48)) := by
          have e := I.out.1.extract 0 u
          rw [List.drop_zero, Nat.sub_zero, List.take_take, show min u m = u by omega] at e
          refine ⟨e, by have := I.out.2.1; omega, by rw [e.size]; have := I.out.2.1; simp; omega, fun i h1 h2 => ?_⟩
          by_cases c : i = u
          · subst c; exact X.out
          · exact I.out.2.2.2 i (by omega) h2
        have SZ : Hid ((s'.extract 0 u).size < s'.size) := by show _ < _; rw [F.out.2.2.1, hsz]; omega
        clear I hu h0
        go_wp2_with fail
        go_round
        case rel => exact ⟨_, _, rfl, F.out⟩
        case measure => exact SZ.out
      · have hd2 : (x == 48) = false := by rw [beq_eq_false_iff_ne]; exact hd
        have F : Hid (FTail xs (.returned (.string s'))) := ⟨s', m, rfl, I.out.1, I.out.2.1, I.out.2.2.2, fun _ => by rw [show m - 1 = u by omega, X.out]; exact hd⟩
        clear I hu h0
        go_wp2_with fail
        go_ret
        exact ⟨F.out, rfl⟩


set_option maxRecDepth 100000 in
theorem frtrim0_any (s : ByteArray) (xs : List Int) (w : World) (hs : Str s xs) (hn1 : xs.length ≤ 562949953421312) :
    Calls Tryz.prog 103 #[.string s, .string ⟨#[48]⟩] w fun e w' => FTail xs e ∧ w' = w := by
  have T := hid (frtrim_any s xs w hs hn1)
  by_cases h : xs = []
  · have F : Hid (FTail xs (.returned (.string s))) := ⟨s, 0, rfl, by rw [h] at hs ⊢; exact hs, Nat.zero_le _, fun i _ hi => by rw [h] at hi; simp at hi, fun hlt => by omega⟩
    have hs0 : s = ⟨#[]⟩ := hs.inj (by rw [h]; rfl)
    subst hs0
    clear hs hn1 h
    go_enter Tryz.func103, Tryz.ntmps103
    go_wp2_with fail
    go_ret
    exact ⟨F.out, rfl⟩
  · have e1 : s.toList ≠ [] := by
      intro c
      apply h
      rw [ByteArray.toList_eq] at c
      rw [← hs, c]
      rfl
    have e2 : (s.toList == []) = false := by rw [beq_eq_false_iff_ne]; exact e1
    have e3 : s.toList.isEmpty = false := by rw [List.isEmpty_eq_false_iff]; exact e1
    clear hs hn1 h
    go_enter Tryz.func103, Tryz.ntmps103
    go_wp2_with fail
    refine T.out.mono ?_
    rintro e w' ⟨h1, rfl⟩
    obtain ⟨s', j, rfl, h2⟩ := h1
    have F : Hid (FTail xs (.returned (.string s'))) := ⟨s', j, rfl, h2⟩
    clear h2 T
    go_wp2_with fail
    go_ret
    exact ⟨F.out, rfl⟩
end Go.Proofs.YtigmhnlcmhpepaaGreatDoor
