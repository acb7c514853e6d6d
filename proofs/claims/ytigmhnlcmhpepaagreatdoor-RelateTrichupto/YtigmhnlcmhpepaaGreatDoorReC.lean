/-
  relate: numbers, written, agrees, Compare, Holds (where no format is asked).
-/
import Derived.Test.YtigmhnlcmhpepaaGreatDoorWAJ
import Derived.Test.YtigmhnlcmhpepaaGreatDoorWAO
namespace Go.Proofs.YtigmhnlcmhpepaaGreatDoor
open Go Go.RowKit Go.Deep

theorem rtab10_on {w w' : World} (h : Tab10 w) (k : Below w.heap.size w w') : Tab10 w' := by
  unfold Tab10 Lib.TabIs World.var? at *
  cases hg : Tryz.prog.globalNamed "internal/strconv.uint64pow10" with
  | none => rw [hg] at h; simp at h
  | some g =>
    rw [hg] at h
    simp only [Option.bind_some] at h ⊢
    have hl : g < w.heap.size := by
      rcases Nat.lt_or_ge g w.heap.size with c | c
      · exact c
      · rw [Array.getElem?_eq_none c] at h; simp at h
    rw [k.block g hl]; exact h

namespace Re
/-- What Compare answers of two numbers. -/
def cn (a b : Int) : Int := if (Ie.okd a && Ie.okd b) = true then Ie.cmv a b else 2
/-- What a relation makes of Compare's answer. -/
def ag (op c : Int) : Bool := if op = 1 then decide (c = -1) else if op = 2 then decide (c = -1 ∨ c = 0) else if op = 3 then decide (c = 0) else if op = 4 then decide (c ≠ 0) else if op = 5 then decide (c = 1) else decide (c = 0 ∨ c = 1)
end Re

set_option maxRecDepth 100000 in
theorem numbers_any (a b : Int) (w : World) (a0 : 0 ≤ a) (a1 : a < 18446744073709551616) (b0 : 0 ≤ b) (b1 : b < 18446744073709551616) :
    Calls Tryz.prog 21 #[.int .u64 a, .int .u64 b] w fun e w' => e = .returned (.int .i64 (Re.cn a b)) ∧ w' = w := by
  have CM := hid (fun W => compare_any a b W a0 a1 b0 b1)
  have E : Re.cn a b = if (Ie.okd a && Ie.okd b) = true then Ie.cmv a b else 2 := rfl
  rw [E]
  clear a0 a1 b0 b1 E
  generalize Ie.cmv a b = C at *
  generalize (Ie.okd a && Ie.okd b) = O at *
  cases O
  · go_enter Tryz.func21, Tryz.ntmps21
    go_wp2_with fail
    refine (CM.out _).mono ?_
    rintro e w1 ⟨rfl, rfl⟩
    go_wp2_with fail
    go_ret
    exact ⟨rfl, rfl⟩
  · go_enter Tryz.func21, Tryz.ntmps21
    go_wp2_with fail
    refine (CM.out _).mono ?_
    rintro e w1 ⟨rfl, rfl⟩
    go_wp2_with fail
    go_ret
    exact ⟨rfl, rfl⟩

set_option maxRecDepth 100000 in
set_option maxHeartbeats 2000000 in
theorem agrees_any (op c : Int) (w : World) (ho : op = 1 ∨ op = 2 ∨ op = 3 ∨ op = 4 ∨ op = 5 ∨ op = 6) (hc : c = -1 ∨ c = 0 ∨ c = 1 ∨ c = 2) :
    Calls Tryz.prog 25 #[.int .i64 op, .int .i64 c] w fun e w' => e = .returned (.bool (Re.ag op c)) ∧ w' = w := by
  rcases ho with rfl | rfl | rfl | rfl | rfl | rfl <;> rcases hc with rfl | rfl | rfl | rfl <;>
    (go_enter Tryz.func25, Tryz.ntmps25
     go_wp2_with fail
     go_ret
     exact ⟨rfl, rfl⟩)

set_option maxRecDepth 100000 in
theorem rwritten_text (k n : Int) (s c : ByteArray) (w : World) (hk : k = 2 ∨ k = 3) :
    Calls Tryz.prog 23 #[.agg #[.int .i64 k, .int .u64 n, .string s], .string c] w fun e w' => e = .returned (.tuple #[.string s, .int .i64 0]) ∧ Below w.heap.size w w' := by
  have B := hid (alloc_b w (.cells #[.int .i64 k, .int .u64 n, .string s] 24))
  rcases hk with rfl | rfl
  · go_enter Tryz.func23, Tryz.ntmps23
    go_wp2_with fail
    go_ret2
    exact ⟨rfl, B.out⟩
  · go_enter Tryz.func23, Tryz.ntmps23
    go_wp2_with fail
    go_ret2
    exact ⟨rfl, B.out⟩

set_option maxRecDepth 100000 in
theorem rwritten_num (k n : Int) (s c : ByteArray) (T : ByteArray) (E : Int) (w : World) (h2 : k ≠ 2) (h3 : k ≠ 3)
    (TS : ∀ W, Below w.heap.size w W → Calls Tryz.prog 37 #[.agg #[.int .i64 k, .int .u64 n, .string s], .string c] W fun e w' => e = .returned (.tuple #[.string T, .int .i64 E]) ∧ Below W.heap.size W w') :
    Calls Tryz.prog 23 #[.agg #[.int .i64 k, .int .u64 n, .string s], .string c] w fun e w' => e = .returned (.tuple #[.string T, .int .i64 E]) ∧ Below w.heap.size w w' := by
  have B := hid (alloc_b w (.cells #[.int .i64 k, .int .u64 n, .string s] 24))
  have TS := hid TS
  have e2 : (k == 2) = false := by simpa using h2
  have e3 : (k == 3) = false := by simpa using h3
  clear h2 h3
  go_enter Tryz.func23, Tryz.ntmps23
  go_wp2_with fail
  refine (TS.out _ B.out).mono ?_
  rintro e w1 ⟨rfl, b1⟩
  have F := hid (below_on B.out b1)
  clear b1 B TS
  go_wp2_with fail
  go_ret2
  exact ⟨rfl, F.out⟩

set_option maxRecDepth 100000 in
theorem vwrittenI_any (n : Int) (s : ByteArray) (w : World) (ht : Tab10 w) (h0 : 0 ≤ n) (h1 : n < 18446744073709551616) (hok : Va.ok n = true) :
    Calls Tryz.prog 49 #[.int .u64 n, .string s] w fun e w' => e = .returned (.tuple #[.string (strOfNums (Va.tx n)), .int .i64 0]) ∧ Below w.heap.size w w' := by
  have VI := hid (vinteger_any n w h0 h1 ht)
  rw [hok] at VI
  clear ht h0 h1 hok
  generalize strOfNums (Va.tx n) = T at *
  go_enter Tryz.func49, Tryz.ntmps49
  go_wp2_with fail
  refine VI.out.mono ?_
  rintro e w1 ⟨rfl, b1⟩
  have F := hid b1
  clear b1 VI
  go_wp2_with fail
  go_ret2
  exact ⟨rfl, F.out⟩

set_option maxRecDepth 100000 in
set_option maxHeartbeats 1000000 in
theorem vtostrI_any (n : Int) (t s : ByteArray) (w : World) (ht : Tab10 w) (h0 : 0 ≤ n) (h1 : n < 18446744073709551616) (hok : Va.ok n = true) :
    Calls Tryz.prog 37 #[.agg #[.int .i64 1, .int .u64 n, .string t], .string s] w fun e w' => e = .returned (.tuple #[.string (strOfNums (Va.tx n)), .int .i64 0]) ∧ Below w.heap.size w w' := by
  have IN1 : Hid (∀ W, Calls Tryz.prog 26 #[.agg #[.int .i64 1, .int .u64 n, .string t]] W fun e w' => e = .returned (.iface 88 (.agg #[.int .u64 n])) ∧ Below W.heap.size W w') := fun W => vinside_any 1 n t W
  have B0 := hid (alloc_b w (.cells #[.int .i64 1, .int .u64 n, .string t] 24))
  have WR : Hid (∀ W, Below w.heap.size w W → Calls Tryz.prog 49 #[.int .u64 n, .string s] W fun e w' => e = .returned (.tuple #[.string (strOfNums (Va.tx n)), .int .i64 0]) ∧ Below W.heap.size W w') := fun W h => vwrittenI_any n s W (rtab10_on ht h) h0 h1 hok
  have TA : ∀ wx : World, (Instr.typeAssert (.iface 88 (.agg #[.int .u64 n])) 59 88 true).run Tryz.prog wx = .ok (.tuple #[.agg #[.int .u64 n], .bool true]) wx := fun wx => by kernel_rfl
  clear ht h0 h1 hok
  generalize strOfNums (Va.tx n) = S at *
  go_enter Tryz.func37, Tryz.ntmps37
  go_wp2_with fail
  refine (IN1.out _).mono ?_
  rintro e w1 ⟨rfl, b1⟩
  have B1 := hid (below_on (below_on B0.out b1) (alloc_b w1 (.cells #[.int .u64 n] 88)))
  clear b1 B0 IN1
  go_wp2_with fail
  refine (WR.out _ B1.out).mono ?_
  rintro e w2 ⟨rfl, b2⟩
  have F := hid (below_on B1.out b2)
  clear b2 B1 WR
  go_wp2_with fail
  go_ret2
  exact ⟨rfl, F.out⟩

set_option maxRecDepth 100000 in
set_option maxHeartbeats 2000000 in
/-- Compare of two numeric values. -/
theorem compareN_any (k n : Int) (s : ByteArray) (l m : Int) (t c : ByteArray) (w : World) (n0 : 0 ≤ n) (n1 : n < 18446744073709551616) (m0 : 0 ≤ m) (m1 : m < 18446744073709551616) (hk : k ≠ 2) (hl : l ≠ 2) :
    Calls Tryz.prog 6 #[.agg #[.int .i64 k, .int .u64 n, .string s], .agg #[.int .i64 l, .int .u64 m, .string t], .string c] w fun e w' => e = .returned (.tuple #[.int .i64 (Re.cn (Re.nu k n) (Re.nu l m)), .int .i64 0]) ∧ Below w.heap.size w w' := by
  have NA : Hid (∀ W, Calls Tryz.prog 8 #[.agg #[.int .i64 k, .int .u64 n, .string s]] W fun e w' => e = .returned (.bool true) ∧ Below W.heap.size W w') := fun W => by have := vnumeric_any k n s W; rwa [decide_eq_true hk] at this
  have NB : Hid (∀ W, Calls Tryz.prog 8 #[.agg #[.int .i64 l, .int .u64 m, .string t]] W fun e w' => e = .returned (.bool true) ∧ Below W.heap.size W w') := fun W => by have := vnumeric_any l m t W; rwa [decide_eq_true hl] at this
  have TA := hid (fun W => vtonum_any k n s W hk)
  have TB := hid (fun W => vtonum_any l m t W hl)
  have p0 : 0 ≤ Re.nu k n := by unfold Re.nu; split <;> omega
  have p1 : Re.nu k n < 18446744073709551616 := by unfold Re.nu; split <;> omega
  have q0 : 0 ≤ Re.nu l m := by unfold Re.nu; split <;> omega
  have q1 : Re.nu l m < 18446744073709551616 := by unfold Re.nu; split <;> omega
  have NN := hid (fun W => numbers_any (Re.nu k n) (Re.nu l m) W p0 p1 q0 q1)
  have B0 := hid (Re.B2.new w k n s l m t)
  clear n0 n1 m0 m1 hk hl p0 p1 q0 q1
  generalize Re.cn (Re.nu k n) (Re.nu l m) = C at *
  generalize Re.nu k n = X at *
  generalize Re.nu l m = Y at *
  go_enter Tryz.func6, Tryz.ntmps6
  go_wp2_with fail
  generalize (w.alloc (.cells #[.int .i64 k, .int .u64 n, .string s] 24)).alloc (.cells #[.int .i64 l, .int .u64 m, .string t] 24) = wA at *
  refine (NA.out _).mono ?_
  rintro e w1 ⟨rfl, b1⟩
  have B1 := hid (B0.out.on b1)
  clear b1 B0 NA
  obtain ⟨c0, c1, c2, d0, d1, d2⟩ := B1.out.flat
  go_wp2_with fail
  refine (NB.out _).mono ?_
  rintro e w2 ⟨rfl, b2⟩
  have B2 := hid (B1.out.on b2)
  clear b2 B1 NB c0 c1 c2 d0 d1 d2
  go_upto_region 2 with fail
  have T0 := hid B2.out.drew
  clear B2
  go_region_held3 (fun wx => wx.cell? ⟨w.heap.size, 0, none⟩ = some (.int .i64 k) ∧ wx.cell? ⟨w.heap.size, 1, none⟩ = some (.int .u64 n) ∧ wx.cell? ⟨w.heap.size, 2, none⟩ = some (.string s) ∧ wx.cell? ⟨w.heap.size + 1, 0, none⟩ = some (.int .i64 l) ∧ wx.cell? ⟨w.heap.size + 1, 1, none⟩ = some (.int .u64 m) ∧ wx.cell? ⟨w.heap.size + 1, 2, none⟩ = some (.string t)) (first | (with_reducible exact T2.out.flat) | (with_reducible exact T1.out.flat) | (with_reducible exact T0.out.flat)) (first
    | (go_at_call 22; (first
      | (with_reducible refine (TA.out _).mono ?_; rintro e w5 ⟨rfl, hB⟩; have T1 := hid (T0.out.on hB); clear hB)
      | (with_reducible refine (TB.out _).mono ?_; rintro e w6 ⟨rfl, hB⟩; have T2 := hid (T1.out.on hB); clear hB)))
    | (go_at_call 21; with_reducible refine (NN.out _).mono ?_; rintro e w7 ⟨rfl, hw⟩; rw [hw]; clear hw))
  have R := hid T2.out.bel
  clear T0 T1 T2 TA TB NN
  go_wp2_with fail
  go_ret2
  exact ⟨rfl, R.out⟩

set_option maxRecDepth 100000 in
set_option maxHeartbeats 2000000 in
/-- Compare by texts. -/
theorem compareS_any (k n : Int) (s : ByteArray) (l m : Int) (t c A B : ByteArray) (w : World) (h : k = 2 ∨ l = 2)
    (WA : ∀ W, Below w.heap.size w W → Calls Tryz.prog 23 #[.agg #[.int .i64 k, .int .u64 n, .string s], .string c] W fun e w' => e = .returned (.tuple #[.string A, .int .i64 0]) ∧ Below W.heap.size W w')
    (WB : ∀ W, Below w.heap.size w W → Calls Tryz.prog 23 #[.agg #[.int .i64 l, .int .u64 m, .string t], .string c] W fun e w' => e = .returned (.tuple #[.string B, .int .i64 0]) ∧ Below W.heap.size W w') :
    Calls Tryz.prog 6 #[.agg #[.int .i64 k, .int .u64 n, .string s], .agg #[.int .i64 l, .int .u64 m, .string t], .string c] w fun e w' => e = .returned (.tuple #[.int .i64 (Sc.lex (Re.bl A) (Re.bl B)), .int .i64 0]) ∧ Below w.heap.size w w' := by
  have SC := hid (fun W => scompare_any A B (Re.bl A) (Re.bl B) W (Str.self A) (Str.self B))
  have WA := hid WA
  have WB := hid WB
  have NA := hid (fun W => vnumeric_any k n s W)
  have NB := hid (fun W => vnumeric_any l m t W)
  have B0 := hid (Re.B2.new w k n s l m t)
  generalize Sc.lex (Re.bl A) (Re.bl B) = C at *
  by_cases k2 : k = 2
  · rw [decide_eq_false (fun q => q k2)] at NA
    clear k2 h NB
    go_enter Tryz.func6, Tryz.ntmps6
    go_wp2_with fail
    generalize (w.alloc (.cells #[.int .i64 k, .int .u64 n, .string s] 24)).alloc (.cells #[.int .i64 l, .int .u64 m, .string t] 24) = wA at *
    refine (NA.out _).mono ?_
    rintro e w1 ⟨rfl, b1⟩
    have B1 := hid (B0.out.on b1)
    clear b1 B0 NA
    obtain ⟨c0, c1, c2, d0, d1, d2⟩ := B1.out.flat
    go_wp2_with fail
    refine (WA.out _ B1.out.bel).mono ?_
    rintro e w2 ⟨rfl, b2⟩
    have B2 := hid (B1.out.on b2)
    clear b2 B1 WA c0 c1 c2 d0 d1 d2
    obtain ⟨c0, c1, c2, d0, d1, d2⟩ := B2.out.flat
    go_wp2_with fail
    refine (WB.out _ B2.out.bel).mono ?_
    rintro e w3 ⟨rfl, b3⟩
    have R := hid (B2.out.on b3).bel
    clear b3 B2 WB c0 c1 c2 d0 d1 d2
    go_wp2_with fail
    refine (SC.out _).mono ?_
    rintro e w4 ⟨rfl, rfl⟩
    go_wp2_with fail
    go_ret2
    exact ⟨rfl, R.out⟩
  · have l2 : l = 2 := h.resolve_left k2
    rw [decide_eq_true k2] at NA
    rw [decide_eq_false (fun q => q l2)] at NB
    clear k2 h l2
    go_enter Tryz.func6, Tryz.ntmps6
    go_wp2_with fail
    generalize (w.alloc (.cells #[.int .i64 k, .int .u64 n, .string s] 24)).alloc (.cells #[.int .i64 l, .int .u64 m, .string t] 24) = wA at *
    refine (NA.out _).mono ?_
    rintro e w1 ⟨rfl, b1⟩
    have B1 := hid (B0.out.on b1)
    clear b1 B0 NA
    obtain ⟨c0, c1, c2, d0, d1, d2⟩ := B1.out.flat
    go_wp2_with fail
    refine (NB.out _).mono ?_
    rintro e w1b ⟨rfl, b1⟩
    have B1b := hid (B1.out.on b1)
    clear b1 B1 NB c0 c1 c2 d0 d1 d2
    obtain ⟨c0, c1, c2, d0, d1, d2⟩ := B1b.out.flat
    go_wp2_with fail
    refine (WA.out _ B1b.out.bel).mono ?_
    rintro e w2 ⟨rfl, b2⟩
    have B2 := hid (B1b.out.on b2)
    clear b2 B1b WA c0 c1 c2 d0 d1 d2
    obtain ⟨c0, c1, c2, d0, d1, d2⟩ := B2.out.flat
    go_wp2_with fail
    refine (WB.out _ B2.out.bel).mono ?_
    rintro e w3 ⟨rfl, b3⟩
    have R := hid (B2.out.on b3).bel
    clear b3 B2 WB c0 c1 c2 d0 d1 d2
    go_wp2_with fail
    refine (SC.out _).mono ?_
    rintro e w4 ⟨rfl, rfl⟩
    go_wp2_with fail
    go_ret2
    exact ⟨rfl, R.out⟩

set_option maxRecDepth 100000 in
set_option maxHeartbeats 1000000 in
/-- Holds, where Compare answers without an error. -/
theorem holds_any (op k n : Int) (s : ByteArray) (l m : Int) (t c : ByteArray) (C : Int) (w : World) (ho : op = 1 ∨ op = 2 ∨ op = 3 ∨ op = 4 ∨ op = 5 ∨ op = 6) (hc : C = -1 ∨ C = 0 ∨ C = 1 ∨ C = 2)
    (CP : ∀ W, Below w.heap.size w W → Calls Tryz.prog 6 #[.agg #[.int .i64 k, .int .u64 n, .string s], .agg #[.int .i64 l, .int .u64 m, .string t], .string c] W fun e w' => e = .returned (.tuple #[.int .i64 C, .int .i64 0]) ∧ Below W.heap.size W w') :
    Calls Tryz.prog 7 #[.int .i64 op, .agg #[.int .i64 k, .int .u64 n, .string s], .agg #[.int .i64 l, .int .u64 m, .string t], .string c] w fun e w' => e = .returned (.tuple #[.bool (Re.ag op C), .int .i64 0]) ∧ Below w.heap.size w w' := by
  have AG := hid (fun W => agrees_any op C W ho hc)
  have CP := hid CP
  have B0 := hid (Re.B2.new w k n s l m t)
  have o1 : ¬ op < 1 := by omega
  have o2 : ¬ 6 < op := by omega
  clear ho hc
  generalize Re.ag op C = G at *
  go_enter Tryz.func7, Tryz.ntmps7
  go_wp2_with fail
  generalize (w.alloc (.cells #[.int .i64 k, .int .u64 n, .string s] 24)).alloc (.cells #[.int .i64 l, .int .u64 m, .string t] 24) = wA at *
  refine (CP.out _ B0.out.bel).mono ?_
  rintro e w1 ⟨rfl, b1⟩
  have R := hid (B0.out.on b1).bel
  clear b1 B0 CP
  go_wp2_with fail
  refine (AG.out _).mono ?_
  rintro e w2 ⟨rfl, rfl⟩
  go_wp2_with fail
  go_ret2
  exact ⟨rfl, R.out⟩
end Go.Proofs.YtigmhnlcmhpepaaGreatDoor
