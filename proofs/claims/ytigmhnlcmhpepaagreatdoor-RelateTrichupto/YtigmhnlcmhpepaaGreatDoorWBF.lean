/-
  Texts put together: VaE, ReCE.
-/
import Derived.Test.YtigmhnlcmhpepaaGreatDoorWAD
import Derived.Test.YtigmhnlcmhpepaaGreatDoorWBC
import Derived.Test.YtigmhnlcmhpepaaGreatDoorReC
namespace Go.Proofs.YtigmhnlcmhpepaaGreatDoor
open Go Go.RowKit Go.Deep Go.Shelf

namespace Va
/-- What ToStr tells. -/
noncomputable def toE (k n : Int) (xs : List Int) : Int := if k = 1 then wrE n xs else 0
noncomputable def toT (k n : Int) (ts xs : List Int) : List Int := if k = 1 then wrT n xs else if k = 2 ∨ k = 3 then ts else []
end Va

set_option maxRecDepth 100000 in
set_option maxHeartbeats 2000000 in
theorem vtostr_any (k n : Int) (t s : ByteArray) (ts xs : List Int) (w : World) (hT : Tab w) (ht : Tab10 w) (h0 : 0 ≤ n) (h1 : n < 18446744073709551616) (htx : Str t ts) (htl : ts.length ≤ 140737488355328) (hs : Str s xs) (hl : xs.length ≤ 16777216) :
    Calls Tryz.prog 37 #[.agg #[.int .i64 k, .int .u64 n, .string t], .string s] w fun e w' => e = .returned (.tuple #[.string (strOfNums (Va.toT k n ts xs)), .int .i64 (Va.toE k n xs)]) ∧ Below w.heap.size w w' := by
  have te : t = strOfNums ts := str_of htx
  have IN := hid (fun W => vinside_any k n t W)
  have CL := hid (fun W => vclone_any t W (by rw [htx.size]; omega))
  have B0 := hid (alloc_b w (.cells #[.int .i64 k, .int .u64 n, .string t] 24))
  by_cases k1 : k = 1
  · subst k1
    have WR : Hid (∀ W, Below w.heap.size w W → Calls Tryz.prog 49 #[.int .u64 n, .string s] W fun e w' => e = .returned (.tuple #[.string (strOfNums (Va.toT 1 n ts xs)), .int .i64 (Va.toE 1 n xs)]) ∧ Below W.heap.size W w') := fun W h => vwritten_any n s xs W (hT.below h) (Tab10.bel ht h) h0 h1 hs hl
    have TA : ∀ wx : World, (Instr.typeAssert (.iface 88 (.agg #[.int .u64 n])) 59 88 true).run Tryz.prog wx = .ok (.tuple #[.agg #[.int .u64 n], .bool true]) wx := fun wx => by kernel_rfl
    have IN1 : Hid (∀ W, Calls Tryz.prog 26 #[.agg #[.int .i64 1, .int .u64 n, .string t]] W fun e w' => e = .returned (.iface 88 (.agg #[.int .u64 n])) ∧ Below W.heap.size W w') := IN.out
    clear IN CL te hT ht h0 h1 htx htl hs hl
    generalize strOfNums (Va.toT 1 n ts xs) = S at *
    generalize Va.toE 1 n xs = E at *
    go_enter Tryz.func37, Tryz.ntmps37
    go_wp2_with fail
    refine (IN1.out _).mono ?_
    rintro e w1 ⟨rfl, b1⟩
    have B1 := hid (below_on (below_on B0.out b1) (alloc_b w1 (.cells #[.int .u64 n] 88)))
    clear b1 B0 IN1
    go_wp2_with fail
    refine (WR.out _ B1.out).mono ?_
    rintro e w2 ⟨rfl, b2⟩
    have F := hid (below_on B1.out b2)
    clear b2 B1 WR
    go_wp2_with fail
    go_ret2
    exact ⟨rfl, F.out⟩
  have eE : Va.toE k n xs = 0 := if_neg k1
  rw [eE]
  by_cases k3 : k = 3
  · subst k3
    have eT : Va.toT 3 n ts xs = ts := by unfold Va.toT; simp
    rw [eT, ← te]
    have TA : ∀ wx : World, (Instr.typeAssert (.iface 90 (.agg #[.int .u64 n, .string t])) 59 88 true).run Tryz.prog wx = .ok (.tuple #[.agg #[.int .u64 0], .bool false]) wx := fun wx => by kernel_rfl
    have TB : ∀ wx : World, (Instr.typeAssert (.iface 90 (.agg #[.int .u64 n, .string t])) 59 90 true).run Tryz.prog wx = .ok (.tuple #[.agg #[.int .u64 n, .string t], .bool true]) wx := fun wx => by kernel_rfl
    have IN1 : Hid (∀ W, Calls Tryz.prog 26 #[.agg #[.int .i64 3, .int .u64 n, .string t]] W fun e w' => e = .returned (.iface 90 (.agg #[.int .u64 n, .string t])) ∧ Below W.heap.size W w') := IN.out
    clear IN te hT ht h0 h1 htx htl hs hl eE eT k1
    go_enter Tryz.func37, Tryz.ntmps37
    go_wp2_with fail
    refine (IN1.out _).mono ?_
    rintro e w1 ⟨rfl, b1⟩
    have B1 := hid (below_on (below_on B0.out b1) (alloc_b w1 (.cells #[.int .u64 n, .string t] 90)))
    clear b1 B0 IN1
    go_wp2_with fail
    refine (CL.out _).mono ?_
    rintro e w2 ⟨rfl, b2⟩
    have F := hid (below_on B1.out b2)
    clear b2 B1 CL
    go_wp2_with fail
    go_ret2
    exact ⟨rfl, F.out⟩
  by_cases k2 : k = 2
  · subst k2
    have eT : Va.toT 2 n ts xs = ts := by unfold Va.toT; simp
    rw [eT, ← te]
    have TA : ∀ wx : World, (Instr.typeAssert (.iface 62 (.agg #[.string t])) 59 88 true).run Tryz.prog wx = .ok (.tuple #[.agg #[.int .u64 0], .bool false]) wx := fun wx => by kernel_rfl
    have TB : ∀ wx : World, (Instr.typeAssert (.iface 62 (.agg #[.string t])) 59 90 true).run Tryz.prog wx = .ok (.tuple #[.agg #[.int .u64 0, .string ⟨#[]⟩], .bool false]) wx := fun wx => by kernel_rfl
    have TC : ∀ wx : World, (Instr.typeAssert (.iface 62 (.agg #[.string t])) 59 62 true).run Tryz.prog wx = .ok (.tuple #[.agg #[.string t], .bool true]) wx := fun wx => by kernel_rfl
    have IN1 : Hid (∀ W, Calls Tryz.prog 26 #[.agg #[.int .i64 2, .int .u64 n, .string t]] W fun e w' => e = .returned (.iface 62 (.agg #[.string t])) ∧ Below W.heap.size W w') := IN.out
    clear IN te hT ht h0 h1 htx htl hs hl eE eT k1 k3
    go_enter Tryz.func37, Tryz.ntmps37
    go_wp2_with fail
    refine (IN1.out _).mono ?_
    rintro e w1 ⟨rfl, b1⟩
    have B1 := hid (below_on (below_on B0.out b1) (alloc_b w1 (.cells #[.string t] 62)))
    clear b1 B0 IN1
    go_wp2_with fail
    refine (CL.out _).mono ?_
    rintro e w2 ⟨rfl, b2⟩
    have F := hid (below_on B1.out b2)
    clear b2 B1 CL
    go_wp2_with fail
    go_ret2
    exact ⟨rfl, F.out⟩
  have eT : Va.toT k n ts xs = [] := by unfold Va.toT; rw [if_neg k1, if_neg (fun q => q.elim k2 k3)]
  rw [eT]
  have TA : ∀ wx : World, (Instr.typeAssert (.iface 94 (.agg #[])) 59 88 true).run Tryz.prog wx = .ok (.tuple #[.agg #[.int .u64 0], .bool false]) wx := fun wx => by kernel_rfl
  have TB : ∀ wx : World, (Instr.typeAssert (.iface 94 (.agg #[])) 59 90 true).run Tryz.prog wx = .ok (.tuple #[.agg #[.int .u64 0, .string ⟨#[]⟩], .bool false]) wx := fun wx => by kernel_rfl
  have TC : ∀ wx : World, (Instr.typeAssert (.iface 94 (.agg #[])) 59 62 true).run Tryz.prog wx = .ok (.tuple #[.agg #[.string ⟨#[]⟩], .bool false]) wx := fun wx => by kernel_rfl
  have e : Va.ins k n t = .iface 94 (.agg #[]) := by rw [Va.ins, if_neg k1, if_neg k2, if_neg k3]
  rw [e] at IN
  clear CL te hT ht h0 h1 htx htl hs hl eE eT e k1 k2 k3
  go_enter Tryz.func37, Tryz.ntmps37
  go_wp2_with fail
  refine (IN.out _).mono ?_
  rintro e w1 ⟨rfl, b1⟩
  have F := hid (below_on B0.out b1)
  clear b1 B0 IN
  go_wp2_with fail
  go_ret2
  exact ⟨rfl, F.out⟩
end Go.Proofs.YtigmhnlcmhpepaaGreatDoor

namespace Go.Proofs.YtigmhnlcmhpepaaGreatDoor
open Go Go.RowKit Go.Deep Go.Shelf

theorem rwritten_all (k n : Int) (s c : ByteArray) (ts xs : List Int) (w : World) (hT : Tab w) (ht : Tab10 w) (h0 : 0 ≤ n) (h1 : n < 18446744073709551616) (htx : Str s ts) (htl : ts.length ≤ 140737488355328) (hs : Str c xs) (hl : xs.length ≤ 16777216) :
    Calls Tryz.prog 23 #[.agg #[.int .i64 k, .int .u64 n, .string s], .string c] w fun e w' => e = .returned (.tuple #[.string (strOfNums (Va.toT k n ts xs)), .int .i64 (Va.toE k n xs)]) ∧ Below w.heap.size w w' := by
  by_cases hk : k = 2 ∨ k = 3
  · have k1 : k ≠ 1 := by omega
    have eE : Va.toE k n xs = 0 := if_neg k1
    have eT : Va.toT k n ts xs = ts := by rw [Va.toT, if_neg k1, if_pos hk]
    rw [eE, eT, ← str_of htx]
    exact rwritten_text k n s c w hk
  · exact rwritten_num k n s c _ _ w (fun z => hk (.inl z)) (fun z => hk (.inr z)) (fun W h => vtostr_any k n s c ts xs W (hT.below h) (ht.bel h) h0 h1 htx htl hs hl)

set_option maxRecDepth 100000 in
set_option maxHeartbeats 2000000 in
/-- Compare, where the first text can't be made. -/
theorem compareX_any (k n : Int) (s : ByteArray) (l m : Int) (t c A : ByteArray) (E : Int) (w : World) (h : k = 2 ∨ l = 2) (hE : E ≠ 0)
    (WA : ∀ W, Below w.heap.size w W → Calls Tryz.prog 23 #[.agg #[.int .i64 k, .int .u64 n, .string s], .string c] W fun e w' => e = .returned (.tuple #[.string A, .int .i64 E]) ∧ Below W.heap.size W w') :
    Calls Tryz.prog 6 #[.agg #[.int .i64 k, .int .u64 n, .string s], .agg #[.int .i64 l, .int .u64 m, .string t], .string c] w fun e w' => e = .returned (.tuple #[.int .i64 0, .int .i64 E]) ∧ Below w.heap.size w w' := by
  have WA := hid WA
  have NA := hid (fun W => vnumeric_any k n s W)
  have NB := hid (fun W => vnumeric_any l m t W)
  have B0 := hid (Re.B2.new w k n s l m t)
  have e0 : (E == 0) = false := by simpa using hE
  by_cases k2 : k = 2
  · rw [decide_eq_false (fun q => q k2)] at NA
    clear k2 h NB
    go_enter Tryz.func6, Tryz.ntmps6
    go_wp2_with fail
    generalize (w.alloc (.cells #[.int .i64 k, .int .u64 n, .string s] 24)).alloc (.cells #[.int .i64 l, .int .u64 m, .string t] 24) = wA at *
    refine (NA.out _).mono ?_
    rintro e w1 ⟨rfl, b1⟩
    have B1 := hid (B0.out.on b1)
    clear b1 B0 NA
    obtain ⟨c0, c1, c2, d0, d1, d2⟩ := B1.out.flat
    go_wp2_with fail
    refine (WA.out _ B1.out.bel).mono ?_
    rintro e w2 ⟨rfl, b2⟩
    have R := hid (B1.out.on b2).bel
    clear b2 B1 WA c0 c1 c2 d0 d1 d2
    go_wp2_with fail
    go_ret2
    exact ⟨rfl, R.out⟩
  · have l2 : l = 2 := h.resolve_left k2
    rw [decide_eq_true k2] at NA
    rw [decide_eq_false (fun q => q l2)] at NB
    clear k2 h l2
    go_enter Tryz.func6, Tryz.ntmps6
    go_wp2_with fail
    generalize (w.alloc (.cells #[.int .i64 k, .int .u64 n, .string s] 24)).alloc (.cells #[.int .i64 l, .int .u64 m, .string t] 24) = wA at *
    refine (NA.out _).mono ?_
    rintro e w1 ⟨rfl, b1⟩
    have B1 := hid (B0.out.on b1)
    clear b1 B0 NA
    obtain ⟨c0, c1, c2, d0, d1, d2⟩ := B1.out.flat
    go_wp2_with fail
    refine (NB.out _).mono ?_
    rintro e w1b ⟨rfl, b1⟩
    have B1b := hid (B1.out.on b1)
    clear b1 B1 NB c0 c1 c2 d0 d1 d2
    obtain ⟨c0, c1, c2, d0, d1, d2⟩ := B1b.out.flat
    go_wp2_with fail
    refine (WA.out _ B1b.out.bel).mono ?_
    rintro e w2 ⟨rfl, b2⟩
    have R := hid (B1b.out.on b2).bel
    clear b2 B1b WA c0 c1 c2 d0 d1 d2
    go_wp2_with fail
    go_ret2
    exact ⟨rfl, R.out⟩

set_option maxRecDepth 100000 in
set_option maxHeartbeats 2000000 in
/-- Compare, where the second text can't be made. -/
theorem compareY_any (k n : Int) (s : ByteArray) (l m : Int) (t c A B : ByteArray) (E : Int) (w : World) (h : k = 2 ∨ l = 2) (hE : E ≠ 0)
    (WA : ∀ W, Below w.heap.size w W → Calls Tryz.prog 23 #[.agg #[.int .i64 k, .int .u64 n, .string s], .string c] W fun e w' => e = .returned (.tuple #[.string A, .int .i64 0]) ∧ Below W.heap.size W w')
    (WB : ∀ W, Below w.heap.size w W → Calls Tryz.prog 23 #[.agg #[.int .i64 l, .int .u64 m, .string t], .string c] W fun e w' => e = .returned (.tuple #[.string B, .int .i64 E]) ∧ Below W.heap.size W w') :
    Calls Tryz.prog 6 #[.agg #[.int .i64 k, .int .u64 n, .string s], .agg #[.int .i64 l, .int .u64 m, .string t], .string c] w fun e w' => e = .returned (.tuple #[.int .i64 0, .int .i64 E]) ∧ Below w.heap.size w w' := by
  have WA := hid WA
  have WB := hid WB
  have NA := hid (fun W => vnumeric_any k n s W)
  have NB := hid (fun W => vnumeric_any l m t W)
  have B0 := hid (Re.B2.new w k n s l m t)
  have e0 : (E == 0) = false := by simpa using hE
  by_cases k2 : k = 2
  · rw [decide_eq_false (fun q => q k2)] at NA
    clear k2 h NB
    go_enter Tryz.func6, Tryz.ntmps6
    go_wp2_with fail
    generalize (w.alloc (.cells #[.int .i64 k, .int .u64 n, .string s] 24)).alloc (.cells #[.int .i64 l, .int .u64 m, .string t] 24) = wA at *
    refine (NA.out _).mono ?_
    rintro e w1 ⟨rfl, b1⟩
    have B1 := hid (B0.out.on b1)
    clear b1 B0 NA
    obtain ⟨c0, c1, c2, d0, d1, d2⟩ := B1.out.flat
    go_wp2_with fail
    refine (WA.out _ B1.out.bel).mono ?_
    rintro e w2 ⟨rfl, b2⟩
    have B2 := hid (B1.out.on b2)
    clear b2 B1 WA c0 c1 c2 d0 d1 d2
    obtain ⟨c0, c1, c2, d0, d1, d2⟩ := B2.out.flat
    go_wp2_with fail
    refine (WB.out _ B2.out.bel).mono ?_
    rintro e w3 ⟨rfl, b3⟩
    have R := hid (B2.out.on b3).bel
    clear b3 B2 WB c0 c1 c2 d0 d1 d2
    go_wp2_with fail
    go_ret2
    exact ⟨rfl, R.out⟩
  · have l2 : l = 2 := h.resolve_left k2
    rw [decide_eq_true k2] at NA
    rw [decide_eq_false (fun q => q l2)] at NB
    clear k2 h l2
    go_enter Tryz.func6, Tryz.ntmps6
    go_wp2_with fail
    generalize (w.alloc (.cells #[.int .i64 k, .int .u64 n, .string s] 24)).alloc (.cells #[.int .i64 l, .int .u64 m, .string t] 24) = wA at *
    refine (NA.out _).mono ?_
    rintro e w1 ⟨rfl, b1⟩
    have B1 := hid (B0.out.on b1)
    clear b1 B0 NA
    obtain ⟨c0, c1, c2, d0, d1, d2⟩ := B1.out.flat
    go_wp2_with fail
    refine (NB.out _).mono ?_
    rintro e w1b ⟨rfl, b1⟩
    have B1b := hid (B1.out.on b1)
    clear b1 B1 NB c0 c1 c2 d0 d1 d2
    obtain ⟨c0, c1, c2, d0, d1, d2⟩ := B1b.out.flat
    go_wp2_with fail
    refine (WA.out _ B1b.out.bel).mono ?_
    rintro e w2 ⟨rfl, b2⟩
    have B2 := hid (B1b.out.on b2)
    clear b2 B1b WA c0 c1 c2 d0 d1 d2
    obtain ⟨c0, c1, c2, d0, d1, d2⟩ := B2.out.flat
    go_wp2_with fail
    refine (WB.out _ B2.out.bel).mono ?_
    rintro e w3 ⟨rfl, b3⟩
    have R := hid (B2.out.on b3).bel
    clear b3 B2 WB c0 c1 c2 d0 d1 d2
    go_wp2_with fail
    go_ret2
    exact ⟨rfl, R.out⟩

set_option maxRecDepth 100000 in
set_option maxHeartbeats 1000000 in
/-- Holds, where Compare answers an error. -/
theorem holdsX_any (op k n : Int) (s : ByteArray) (l m : Int) (t c : ByteArray) (C E : Int) (w : World) (ho : 1 ≤ op ∧ op ≤ 6) (hE : E ≠ 0)
    (CP : ∀ W, Below w.heap.size w W → Calls Tryz.prog 6 #[.agg #[.int .i64 k, .int .u64 n, .string s], .agg #[.int .i64 l, .int .u64 m, .string t], .string c] W fun e w' => e = .returned (.tuple #[.int .i64 C, .int .i64 E]) ∧ Below W.heap.size W w') :
    Calls Tryz.prog 7 #[.int .i64 op, .agg #[.int .i64 k, .int .u64 n, .string s], .agg #[.int .i64 l, .int .u64 m, .string t], .string c] w fun e w' => e = .returned (.tuple #[.bool false, .int .i64 E]) ∧ Below w.heap.size w w' := by
  have CP := hid CP
  have B0 := hid (Re.B2.new w k n s l m t)
  have o1 : ¬ op < 1 := by omega
  have o2 : ¬ 6 < op := by omega
  have e0 : (E == 0) = false := by simpa using hE
  clear ho
  go_enter Tryz.func7, Tryz.ntmps7
  go_wp2_with fail
  generalize (w.alloc (.cells #[.int .i64 k, .int .u64 n, .string s] 24)).alloc (.cells #[.int .i64 l, .int .u64 m, .string t] 24) = wA at *
  refine (CP.out _ B0.out.bel).mono ?_
  rintro e w1 ⟨rfl, b1⟩
  have R := hid (B0.out.on b1).bel
  clear b1 B0 CP
  go_wp2_with fail
  go_ret2
  exact ⟨rfl, R.out⟩
end Go.Proofs.YtigmhnlcmhpepaaGreatDoor
