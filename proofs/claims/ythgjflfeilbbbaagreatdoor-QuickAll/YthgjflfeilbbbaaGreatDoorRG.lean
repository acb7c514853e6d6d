/-
  Texts put together: KRRow, KRStep, KSmall, KRSmall, VStr, VTrimL, VTrimR, VClone, VDec, VOwn, VDig, VSlim, VNormA, IWalk1A.
-/
import Derived.Test.YthgjflfeilbbbaaGreatDoorRC
import Derived.Test.YthgjflfeilbbbaaGreatDoorZRef15
import Derived.Test.YthgjflfeilbbbaaGreatDoorRE
import Derived.Test.YthgjflfeilbbbaaGreatDoorRF
import Derived.Test.YthgjflfeilbbbaaGreatDoorRD
import Derived.Test.YthgjflfeilbbbaaGreatDoorRA
import Derived.Test.YthgjflfeilbbbaaGreatDoorVNum
import Derived.Laws.BytesArg
import Derived.Laws.IdiomStrings
import Derived.Laws.Strings3
import Derived.Laws.DeepStrings4
import Derived.Shelf.Pu.Clone
import Derived.Test.YthgjflfeilbbbaaGreatDoorVNum2
import Derived.Laws.ResultCell
import Derived.Test.YthgjflfeilbbbaaGreatDoorVOrd
import Derived.Deep.Cut
import Derived.Deep.RegionHeld3
import Derived.Test.YthgjflfeilbbbaaGreatDoorIWalk1C
namespace Go.Proofs.YthgjflfeilbbbaaGreatDoor
open Go Go.RowKit Go.Deep

def RRowTold (q : Int) (w : World) (e : Ending) (w' : World) : Prop := ∃ r os, e = .returned (.tuple #[.slice r (List.length os) (List.length os), .int .i64 (Ie.rowE q)]) ∧ Ans w.heap.size w' r os (Ie.rowP q) ∧ Below w.heap.size w w'

theorem ts_big {w : World} {p : Option Addr} {n cap : Nat} {zs : List Int} (h : Nm.tsize zs ≤ 4096) (_a : Arg w p n cap zs) : Nm.tsize zs ≤ 1099511627776 := by omega

theorem rpow5_ok (k : Int) (n : Nat) (w : World) (hk : k = (n : Int)) (hn : n ≤ 342) :
    Calls Tryz.prog 89 #[.int .i64 k] w fun e w' => ∃ r os, e = .returned (.tuple #[.slice r (List.length os) (List.length os), .int .i64 0]) ∧ Ans w.heap.size w' r os (5 ^ n) ∧ Below w.heap.size w w' := by
  refine (rpow5_gives k n w hk (by omega)).mono ?_
  rintro e w' ⟨⟨_, r, os, rfl, A⟩ | ⟨h, _⟩, hB⟩
  · exact ⟨r, os, rfl, A, hB⟩
  · exact absurd (five_pw hn) (Int.not_lt.2 h)

theorem rlen_ok {B : Nat} {w : World} {r : Option Addr} {os : List Int} {n : Nat} (A : Ans B w r os (5 ^ n)) (hn : n ≤ 342) :
    Calls Tryz.prog 90 #[.slice r (List.length os) (List.length os)] w fun e w' => e = .returned (.int .i64 (Ie.bl n : Int)) ∧ w' = w := by
  have ag := A.argT (five_pw hn)
  refine (refBitLen_any r _ _ os w ag).mono ?_
  rintro e w' ⟨⟨L, rfl, BL⟩, rfl⟩
  rw [A.2.2.2.1] at BL
  have hLe : L = Ie.bl n := BL.unique (by have := Ie.five_pos n; omega) (Ie.bl_is n)
  rw [hLe]
  exact ⟨rfl, rfl⟩

set_option maxRecDepth 100000 in
set_option maxHeartbeats 2000000 in
theorem rrow_any (q : Int) (w : World) (q0 : -342 ≤ q) (q1 : q ≤ 308) :
    Calls Tryz.prog 65 #[.int .i64 q] w fun e w' => RRowTold q w e w' := by
  by_cases hq : 0 ≤ q
  · obtain ⟨n, hn⟩ := Int.eq_ofNat_of_zero_le hq
    have hn2 : n ≤ 342 := by omega
    have P5 := hid (rpow5_ok q n w hn hn2)
    have f1 := hid (five_pw hn2)
    have BN := hid (fun (B : Nat) (w1 : World) (r : Option Addr) (os : List Int) (A : Ans B w1 r os (5 ^ n)) => rlen_ok A hn2)
    have RE : Hid (Ie.rowE q = (Ie.bl n : Int) - 128) := by rw [Hid, Ie.rowE, if_pos (by omega), show q.toNat = n by omega]
    have lb := Ie.row_len hn2 (Ie.bl_is n)
    have R1 : Hid (Ie.bl n ≤ 128 → Ie.rowP q = 5 ^ n * 2 ^ (128 - Ie.bl n)) := fun h => by rw [Ie.rowP, if_pos (by omega), show q.toNat = n by omega, if_pos (by omega)]
    have R2 : Hid (¬ Ie.bl n ≤ 128 → Ie.rowP q = 5 ^ n / 2 ^ (Ie.bl n - 128)) := fun h => by rw [Ie.rowP, if_pos (by omega), show q.toNat = n by omega, if_neg h]
    have l0 : (1 : Int) ≤ Ie.bl n := by omega
    have l1 : (Ie.bl n : Int) ≤ 800 := by omega
    clear hn lb
    generalize Ie.bl n = L at *
    go_enter Tryz.func65, Tryz.ntmps65
    go_wp2_with fail
    with_reducible refine P5.out.mono ?_
    rintro e w1 ⟨r, os, rfl, A, hB⟩
    have B1 := hid (BN.out _ _ _ _ A)
    have ag := A.argT f1.out
    have ts := A.tsT f1.out
    have va := A.2.2.2.1
    by_cases hL : L ≤ 128
    · have hLi : (L : Int) ≤ 128 := by omega
      obtain ⟨k, hk⟩ : ∃ k : Nat, k = 128 - L := ⟨_, rfl⟩
      have e1 : 128 - (L : Int) = (k : Int) := by omega
      have RP := hid (R1.out hL)
      rw [← hk] at RP
      have LF : Hid (Calls Tryz.prog 91 #[.slice r (List.length os) (List.length os), .int .i64 (k : Int)] w1 fun e w' => ∃ r os, e = .returned (.slice r (List.length os) (List.length os)) ∧ Ans w1.heap.size w' r os (Ie.rowP q) ∧ Below w1.heap.size w1 w') := by
        rw [RP.out, ← va]
        exact lift_any r _ _ os (k : Int) k w1 ag (by omega) rfl (by omega)
      have HB := hid hB
      have FF : Hid (∀ r2 os2 w2, Ans w1.heap.size w2 r2 os2 (Ie.rowP q) → Below w1.heap.size w1 w2 → RRowTold q w (.returned (.tuple #[.slice r2 (List.length os2) (List.length os2), .int .i64 ((L : Int) - 128)])) w2) := fun r2 os2 w2 A2 h2 => ⟨r2, os2, by rw [RE.out], A2.up hB.size, below_on hB h2⟩
      clear A hB ag ts va R1 R2 RP hk P5 BN f1 hL
      go_wp2_with fail
      with_reducible refine B1.out.mono ?_
      rintro e w2 ⟨rfl, rfl⟩
      go_wp2_with fail
      with_reducible refine LF.out.mono ?_
      rintro e w3 ⟨r2, os2, rfl, A2, hB2⟩
      have F := hid (FF.out r2 os2 w3 A2 hB2)
      clear A2 hB2 FF
      go_wp2_with fail
      go_ret2
      exact F.out
    · have hLi : ¬ (L : Int) ≤ 128 := by omega
      obtain ⟨k, hk⟩ : ∃ k : Nat, k = L - 128 := ⟨_, rfl⟩
      have e1 : (L : Int) - 128 = (k : Int) := by omega
      have RP := hid (R2.out hL)
      rw [← hk] at RP
      have LF : Hid (Calls Tryz.prog 92 #[.slice r (List.length os) (List.length os), .int .i64 (k : Int)] w1 fun e w' => ∃ r os, e = .returned (.slice r (List.length os) (List.length os)) ∧ Ans w1.heap.size w' r os (Ie.rowP q) ∧ Below w1.heap.size w1 w') := by
        rw [RP.out, ← va]
        exact drop_any r _ _ os (k : Int) k w1 ag (by omega) rfl (by omega)
      have HB := hid hB
      have FF : Hid (∀ r2 os2 w2, Ans w1.heap.size w2 r2 os2 (Ie.rowP q) → Below w1.heap.size w1 w2 → RRowTold q w (.returned (.tuple #[.slice r2 (List.length os2) (List.length os2), .int .i64 (k : Int)])) w2) := fun r2 os2 w2 A2 h2 => ⟨r2, os2, by rw [RE.out, e1], A2.up hB.size, below_on hB h2⟩
      clear A hB ag ts va R1 R2 RP hk P5 BN f1 hL
      go_wp2_with fail
      with_reducible refine B1.out.mono ?_
      rintro e w2 ⟨rfl, rfl⟩
      go_wp2_with fail
      with_reducible refine LF.out.mono ?_
      rintro e w3 ⟨r2, os2, rfl, A2, hB2⟩
      have F := hid (FF.out r2 os2 w3 A2 hB2)
      clear A2 hB2 FF
      go_wp2_with fail
      go_ret2
      exact F.out
  · obtain ⟨n, hn⟩ := Int.eq_ofNat_of_zero_le (show 0 ≤ -q by omega)
    have hn2 : n ≤ 342 := by omega
    have P5 := hid (rpow5_ok (-q) n w hn hn2)
    have f1 := hid (five_pw hn2)
    have BN := hid (fun (B : Nat) (w1 : World) (r : Option Addr) (os : List Int) (A : Ans B w1 r os (5 ^ n)) => rlen_ok A hn2)
    have lb := Ie.row_len hn2 (Ie.bl_is n)
    have RE : Hid (Ie.rowE q = -((Ie.bl n : Int) + 127)) := by rw [Hid, Ie.rowE, if_neg (by omega), show (-q).toNat = n by omega]
    have RP : Hid (Ie.rowP q = 2 ^ (Ie.bl n + 127) / 5 ^ n) := by rw [Hid, Ie.rowP, if_neg (by omega), show (-q).toNat = n by omega]
    have l0 : (1 : Int) ≤ Ie.bl n := by omega
    have l1 : (Ie.bl n : Int) ≤ 800 := by omega
    have hneg : q < 0 := by omega
    clear hn lb
    generalize Ie.bl n = L at *
    obtain ⟨k, hk⟩ : ∃ k : Nat, k = L + 127 := ⟨_, rfl⟩
    have e1 : 127 + (L : Int) = (k : Int) := by omega
    rw [← hk] at RP
    have RE2 : Hid (Ie.rowE q = -(k : Int)) := by rw [Hid, RE.out]; omega
    have k1 : (k : Int) ≤ 1000 := by omega
    clear hk RE
    go_enter Tryz.func65, Tryz.ntmps65
    go_wp2_with fail
    with_reducible refine P5.out.mono ?_
    rintro e w1 ⟨r, os, rfl, A, hB⟩
    have B1 := hid (BN.out _ _ _ _ A)
    have AA := hid A
    have HB := hid hB
    clear A hB P5 BN
    go_wp2_with fail
    with_reducible refine B1.out.mono ?_
    rintro e w2 ⟨rfl, rfl⟩
    have AL : Hid (Arg (w2.alloc (.cells #[.int .u64 1] 25)) (some ⟨w2.heap.size, 0, none⟩) 1 1 [1]) := arg_lit9 (heap_alloc_new _ _) (by omega) (by omega)
    have LF : Hid (Calls Tryz.prog 91 #[.slice (some ⟨w2.heap.size, 0, none⟩) 1 1, .int .i64 (k : Int)] (w2.alloc (.cells #[.int .u64 1] 25)) fun e w' => ∃ r os, e = .returned (.slice r (List.length os) (List.length os)) ∧ Ans w2.heap.size w' r os (2 ^ k) ∧ Below w2.heap.size w2 w') := by
      refine (lift_any _ 1 1 [1] (k : Int) k _ AL.out (by decide) rfl (by omega)).mono ?_
      rintro e w' ⟨r, os, rfl, A2, h2⟩
      rw [show Nm.val [1] = 1 by decide, Int.one_mul] at A2
      exact ⟨r, os, rfl, A2.up (alloc_b _ _).size, below_on (alloc_b _ _) h2⟩
    have tk : Hid ((2 : Int) ^ k < Nm.pw 4096) := two_pw (by omega)
    clear B1 AL
    go_wp2_with fail
    with_reducible refine LF.out.mono ?_
    rintro e w3 ⟨r3, os3, rfl, A3, hB3⟩
    have DV : Hid (Calls Tryz.prog 93 #[.slice r3 (List.length os3) (List.length os3), .slice r (List.length os) (List.length os)] w3 fun e w' => Parts (2 ^ k) (5 ^ n) w3 e w') := by
      have h := refDivide_any r3 r _ _ _ _ os3 os w3 (A3.argT tk.out) ((AA.out.argT f1.out).below hB3 (Nat.le_refl _)) (A3.tsT tk.out) (AA.out.tsT f1.out) (by
        rcases Nat.eq_zero_or_pos (Nm.tsize os) with g | g
        · have := (Nm.tsize_zero_iff AA.out.2.1).1 g
          have := AA.out.2.2.2.1
          have := Ie.five_pos n
          omega
        · exact g)
      rw [A3.2.2.2.1, AA.out.2.2.2.1] at h
      exact h
    have HB3 := hid (below_on HB.out hB3)
    clear A3 hB3 LF tk AA HB f1
    go_wp2_with fail
    with_reducible refine DV.out.mono ?_
    rintro e w4 ⟨r4, os4, r5, os5, rfl, A4, _, hB4⟩
    rw [← RP.out] at A4
    have F : Hid (RRowTold q w (.returned (.tuple #[.slice r4 (List.length os4) (List.length os4), .int .i64 (-(k : Int))])) w4) := ⟨r4, os4, by rw [RE2.out], A4.up HB3.out.size, below_on HB3.out hB4⟩
    clear A4 hB4 DV HB3 RP RE2
    go_wp2_with fail
    go_ret2
    exact F.out
end Go.Proofs.YthgjflfeilbbbaaGreatDoor

namespace Go.Proofs.YthgjflfeilbbbaaGreatDoor
open Go Go.RowKit Go.Deep

set_option maxRecDepth 100000 in
set_option maxHeartbeats 2000000 in
theorem rpower_any9 (q : Int) (w : World) :
    Calls Tryz.prog 44 #[.int .i64 q] w fun e w' => PowTold q w e w' := by
  by_cases h : -342 ≤ q ∧ q ≤ 308
  · have RW := hid (rrow_any q w h.1 h.2)
    have RI := hid (Ie.row_is h.1 h.2)
    have q0 := h.1
    have q1 := h.2
    clear h
    go_enter Tryz.func44, Tryz.ntmps44
    go_wp2_with fail
    with_reducible refine RW.out.mono ?_
    rintro e w1 ⟨r, os, rfl, A, hB⟩
    obtain ⟨b, off, rfl, rfl, c0, c1, b0, b1⟩ := A.two RI.out.lo RI.out.hi
    have F : Hid (∀ w2, Below w.heap.size w w2 → PowTold q w (.returned (.tuple #[.int .u64 (hi64 (Ie.rowP q)), .int .u64 (lo64 (Ie.rowP q)), .int .i64 (Ie.rowE q), .int .i64 0])) w2) := fun w2 h => ⟨.inr ⟨q0, q1, rfl⟩, h⟩
    have HB := hid hB
    have k0 : w1.drew.cell? ⟨b, off, none⟩ = some (.int .u64 (lo64 (Ie.rowP q))) := c0
    have k1 : w1.drew.cell? ⟨b, off + 1, none⟩ = some (.int .u64 (hi64 (Ie.rowP q))) := c1
    clear hB A RI RW b0 b1
    generalize lo64 (Ie.rowP q) = x at *
    generalize hi64 (Ie.rowP q) = y at *
    generalize Ie.rowE q = ee at *
    go_upto_region 4 with fail
    go_region
    all_goals go_wp2_with fail
    (try simp only [Exit.inBlock, Exit.then])
    refine bodyPost_ret (results_tmp4k rfl _ _ _) rfl ?_
    exact F.out _ (below_drew HB.out)
  · have F : Hid (PowTold q w (.returned (.tuple #[.int .u64 0, .int .u64 0, .int .i64 0, .int .i64 90])) w) := ⟨.inl ⟨by omega, rfl⟩, Below.refl _ _⟩
    by_cases h1 : q < -342
    · clear h
      go_enter Tryz.func44, Tryz.ntmps44
      go_wp2_with fail
      (try simp only [Exit.inBlock, Exit.then])
      refine bodyPost_ret (results_tmp4k rfl _ _ _) rfl ?_
      exact F.out
    · have h2 : 308 < q := by omega
      clear h
      go_enter Tryz.func44, Tryz.ntmps44
      go_wp2_with fail
      (try simp only [Exit.inBlock, Exit.then])
      refine bodyPost_ret (results_tmp4k rfl _ _ _) rfl ?_
      exact F.out

def EndsTold (v q : Int) (w : World) (e : Ending) (w' : World) : Prop :=
  ∃ A B, e = .returned (.tuple #[.int .u64 A, .int .u64 B]) ∧ Ie.Rnd (v * Ie.rowP q) 1 (Ie.rowE q + q) false A ∧ ((0 ≤ q ∧ q ≤ 55 ∧ B = A) ∨ ((q < 0 ∨ 55 < q) ∧ Ie.Rnd (v * (Ie.rowP q + 1)) 1 (Ie.rowE q + q) false B)) ∧ Below w.heap.size w w'

theorem v_pw {v P : Int} (hv : Bd v) (p0 : 0 ≤ P) (p1 : P ≤ 340282366920938463463374607431768211456) : v * P < Nm.pw 4096 := by
  have g : v * P ≤ 18446744073709551616 * 340282366920938463463374607431768211456 := Int.mul_le_mul (by have := hv.2; omega) p1 p0 (by omega)
  have h := two_pw (u := 200) (by decide)
  have e : (2 : Int) ^ 200 = 1606938044258990275541962092341162602522202993782792835301376 := by decide +kernel
  generalize Nm.pw 4096 = y at *
  omega

set_option maxRecDepth 100000 in
set_option maxHeartbeats 2000000 in
theorem rends_any (v q : Int) (w : World) (hv : Bd v) (q0 : -342 ≤ q) (q1 : q ≤ 308) :
    Calls Tryz.prog 70 #[.int .u64 v, .int .i64 q] w fun e w' => EndsTold v q w e w' := by
  have RW := hid (rrow_any q w q0 q1)
  have r := Ie.row_is q0 q1
  have eb := r.eb
  have P1 : Hid (Ie.rowP q < Nm.pw 4096 ∧ v * Ie.rowP q < Nm.pw 4096 ∧ v * (Ie.rowP q + 1) < Nm.pw 4096) := ⟨by
    have h := v_pw (v := 1) (P := Ie.rowP q) ⟨by omega, by omega⟩ (by have := r.lo; omega) (by have := r.hi; omega)
    rwa [Int.one_mul] at h, v_pw hv (by have := r.lo; omega) (by have := r.hi; omega), v_pw hv (by have := r.lo; omega) (by have := r.hi; omega)⟩
  have TM : Hid (∀ w1 r os, Ans w.heap.size w1 r os (Ie.rowP q) → Calls Tryz.prog 66 #[.slice (some ⟨w1.heap.size, 0, none⟩) 1 1, .slice r (List.length os) (List.length os)] (w1.alloc (.cells #[.int .u64 v] 25)) fun e w' => ∃ r os, e = .returned (.slice r (List.length os) (List.length os)) ∧ Ans w1.heap.size w' r os (v * Ie.rowP q) ∧ Below w1.heap.size w1 w') := fun w1 r os A => by
    refine (times_any _ r 1 1 _ _ [v] os _ (arg_lit9 (heap_alloc_new _ _) hv.1 hv.2) ((A.argT P1.out.1).below (alloc_b _ _) (Nat.le_refl _)) (Nat.le_trans (Nm.tsize_le _) (by simp)) (by have := A.tsT P1.out.1; omega)).mono ?_
    rintro e w' ⟨r2, os2, rfl, A2, h2⟩
    rw [show Nm.val [v] = v by simp [Nm.val], A.2.2.2.1] at A2
    exact ⟨r2, os2, rfl, A2.up (alloc_b _ _).size, below_on (alloc_b _ _) h2⟩
  have PL : Hid (∀ B w1 r os, Ans B w1 r os (v * Ie.rowP q) → Calls Tryz.prog 102 #[.slice r (List.length os) (List.length os), .slice (some ⟨w1.heap.size, 0, none⟩) 1 1] (w1.alloc (.cells #[.int .u64 v] 25)) fun e w' => ∃ r os, e = .returned (.slice r (List.length os) (List.length os)) ∧ Ans w1.heap.size w' r os (v * (Ie.rowP q + 1)) ∧ Below w1.heap.size w1 w') := fun B w1 r os A => by
    refine (plus_any r _ _ _ 1 1 os [v] _ ((A.argT P1.out.2.1).below (alloc_b _ _) (Nat.le_refl _)) (arg_lit9 (heap_alloc_new _ _) hv.1 hv.2) (by have := A.tsT P1.out.2.1; omega) (Nat.le_trans (Nm.tsize_le _) (by simp))).mono ?_
    rintro e w' ⟨r2, os2, rfl, A2, h2⟩
    rw [show Nm.val [v] = v by simp [Nm.val], A.2.2.2.1, show v * Ie.rowP q + v = v * (Ie.rowP q + 1) by rw [Int.mul_add, Int.mul_one]] at A2
    exact ⟨r2, os2, rfl, A2.up (alloc_b _ _).size, below_on (alloc_b _ _) h2⟩
  have RD : Hid (∀ B w1 r os V, V < Nm.pw 4096 → Ans B w1 r os V → Calls Tryz.prog 68 #[.bool false, .slice r (List.length os) (List.length os), .int .i64 (Ie.rowE q + q), .bool false] w1 fun r w' => ∃ x, r = .returned (.tuple #[.int .u64 x, .int .i64 0]) ∧ Ie.Rnd V 1 (Ie.rowE q + q) false x ∧ w' = w1) := fun B w1 r os V hV A => zround_any false r _ _ os w1 (A.argT hV) (A.tsT hV) V (Ie.rowE q + q) false A.2.2.2.1
  have FE : Hid (∀ A w', 0 ≤ q ∧ q ≤ 55 → Ie.Rnd (v * Ie.rowP q) 1 (Ie.rowE q + q) false A → Below w.heap.size w w' → EndsTold v q w (.returned (.tuple #[.int .u64 A, .int .u64 A])) w') := fun A w' h r b => ⟨A, A, rfl, r, .inl ⟨h.1, h.2, rfl⟩, b⟩
  have FN : Hid (∀ A B w', ¬ (0 ≤ q ∧ q ≤ 55) → Ie.Rnd (v * Ie.rowP q) 1 (Ie.rowE q + q) false A → Ie.Rnd (v * (Ie.rowP q + 1)) 1 (Ie.rowE q + q) false B → Below w.heap.size w w' → EndsTold v q w (.returned (.tuple #[.int .u64 A, .int .u64 B])) w') := fun A B w' h r r2 b => ⟨A, B, rfl, r, .inr ⟨by omega, r2⟩, b⟩
  clear r hv
  go_enter Tryz.func70, Tryz.ntmps70
  go_wp2_with fail
  with_reducible refine RW.out.mono ?_
  rintro e w1 ⟨r1, os1, rfl, A1, hB1⟩
  generalize Ie.rowE q = ee at *
  generalize Ie.rowP q = P at *
  have T1 := hid (TM.out _ _ _ A1)
  have HB1 := hid hB1
  clear A1 hB1 RW TM
  go_wp2_with fail
  with_reducible refine T1.out.mono ?_
  rintro e w2 ⟨r2, os2, rfl, A2, hB2⟩
  have D1 := hid (RD.out _ _ _ _ _ P1.out.2.1 A2)
  have P2 := hid (PL.out _ _ _ _ A2)
  have HB2 := hid (below_on HB1.out hB2)
  clear A2 hB2 T1 HB1 PL
  go_wp2_with fail
  with_reducible refine D1.out.mono ?_
  rintro e w3 ⟨A, rfl, RA, rfl⟩
  have HA := hid RA
  clear RA D1
  by_cases hx : 0 ≤ q ∧ q ≤ 55
  · have F := hid (FE.out A w3 hx HA.out HB2.out)
    obtain ⟨x0, x1⟩ := hx
    clear FE FN P2 RD
    go_wp2_with fail
    go_ret2
    exact F.out
  · have HX := hid hx
    clear FE
    by_cases hneg : q < 0
    · clear hx
      go_wp2_with fail
      with_reducible refine P2.out.mono ?_
      rintro e w4 ⟨r4, os4, rfl, A4, hB4⟩
      have D2 := hid (RD.out _ _ _ _ _ P1.out.2.2 A4)
      have HB4 := hid (below_on HB2.out hB4)
      clear A4 hB4 P2 RD
      go_wp2_with fail
      with_reducible refine D2.out.mono ?_
      rintro e w5 ⟨B, rfl, RB, rfl⟩
      have F := hid (FN.out A B w5 HX.out HA.out RB HB4.out)
      clear RB D2 FN
      go_wp2_with fail
      go_ret2
      exact F.out
    · have h55 : 55 < q := by omega
      clear hx
      go_wp2_with fail
      with_reducible refine P2.out.mono ?_
      rintro e w4 ⟨r4, os4, rfl, A4, hB4⟩
      have D2 := hid (RD.out _ _ _ _ _ P1.out.2.2 A4)
      have HB4 := hid (below_on HB2.out hB4)
      clear A4 hB4 P2 RD
      go_wp2_with fail
      with_reducible refine D2.out.mono ?_
      rintro e w5 ⟨B, rfl, RB, rfl⟩
      have F := hid (FN.out A B w5 HX.out HA.out RB HB4.out)
      clear RB D2 FN
      go_wp2_with fail
      go_ret2
      exact F.out

set_option maxRecDepth 100000 in
set_option maxHeartbeats 2000000 in
theorem rstep_any9 (v q : Int) (w : World) (hv : Bd v) :
    Calls Tryz.prog 46 #[.int .u64 v, .int .i64 q] w fun e w' => StepTold v q w e w' := by
  by_cases h0 : v = 0
  · subst h0
    have F : Hid (StepTold 0 q w (.returned (.tuple #[.int .u64 0, .bool true])) w) := ⟨0, true, rfl, .inl ⟨rfl, rfl, rfl⟩, Below.refl _ _⟩
    clear hv
    go_enter Tryz.func46, Tryz.ntmps46
    go_wp2_with fail
    go_ret2
    exact F.out
  have v0 : (v == 0) = false := by rw [beq_eq_false_iff_ne]; exact h0
  have vp : 0 < v := by have := hv.1; omega
  by_cases h : -342 ≤ q ∧ q ≤ 308
  · have EN := hid (rends_any v q w hv h.1 h.2)
    have F1 : Hid (∀ A B w', Ie.Rnd (v * Ie.rowP q) 1 (Ie.rowE q + q) false A → ((0 ≤ q ∧ q ≤ 55 ∧ B = A) ∨ ((q < 0 ∨ 55 < q) ∧ Ie.Rnd (v * (Ie.rowP q + 1)) 1 (Ie.rowE q + q) false B)) → A = B → Below w.heap.size w w' → StepTold v q w (.returned (.tuple #[.int .u64 A, .bool true])) w') := fun A B w' r rb e b => ⟨A, true, rfl, .inr (.inr ⟨vp, h.1, h.2, A, B, r, rb, .inl ⟨e, rfl, rfl⟩⟩), b⟩
    have F2 : Hid (∀ A B w', Ie.Rnd (v * Ie.rowP q) 1 (Ie.rowE q + q) false A → ((0 ≤ q ∧ q ≤ 55 ∧ B = A) ∨ ((q < 0 ∨ 55 < q) ∧ Ie.Rnd (v * (Ie.rowP q + 1)) 1 (Ie.rowE q + q) false B)) → A ≠ B → Below w.heap.size w w' → StepTold v q w (.returned (.tuple #[.int .u64 0, .bool false])) w') := fun A B w' r rb e b => ⟨0, false, rfl, .inr (.inr ⟨vp, h.1, h.2, A, B, r, rb, .inr ⟨e, rfl, rfl⟩⟩), b⟩
    have q0 := h.1
    have q1 := h.2
    clear h hv vp h0
    go_enter Tryz.func46, Tryz.ntmps46
    go_wp2_with fail
    with_reducible refine EN.out.mono ?_
    rintro e w1 ⟨A, B, rfl, RA, RB, hB⟩
    by_cases hab : A = B
    · have F := hid (F1.out A B w1 RA RB hab hB)
      subst hab
      clear RA RB hB F1 F2 EN
      go_wp2_with fail
      go_ret2
      exact F.out
    · have F := hid (F2.out A B w1 RA RB hab hB)
      have hne : (A == B) = false := by rw [beq_eq_false_iff_ne]; exact hab
      clear RA RB hB F1 F2 EN
      go_wp2_with fail
      go_ret2
      exact F.out
  · have F : Hid (StepTold v q w (.returned (.tuple #[.int .u64 0, .bool false])) w) := ⟨0, false, rfl, .inr (.inl ⟨vp, by omega, rfl, rfl⟩), Below.refl _ _⟩
    clear hv vp
    by_cases h1 : q < -342
    · clear h
      go_enter Tryz.func46, Tryz.ntmps46
      go_wp2_with fail
      go_ret2
      exact F.out
    · have h2 : 308 < q := by omega
      clear h
      go_enter Tryz.func46, Tryz.ntmps46
      go_wp2_with fail
      go_ret2
      exact F.out
end Go.Proofs.YthgjflfeilbbbaaGreatDoor

namespace Go.Proofs.YthgjflfeilbbbaaGreatDoor
open Go Go.RowKit Go.Deep

/-- The table of the powers of ten that are doubles. -/
def Tens (w : World) : Prop := ∀ j : Nat, j < 23 → w.cell? ⟨0, j * 2, none⟩ = some (.int .u64 (lo64 (10 ^ j))) ∧ w.cell? ⟨0, j * 2 + 1, none⟩ = some (.int .u64 (hi64 (10 ^ j)))
theorem Tens.below {w w' : World} (h : Tens w) (hb : Below w.heap.size w w') : Tens w' := by
  intro j hj
  have hc := h j hj
  rw [hb.cell (p := ⟨0, j * 2, none⟩) (cell_lt hc.1), hb.cell (p := ⟨0, j * 2 + 1, none⟩) (cell_lt hc.2)]
  exact hc

def SmallTold (v q : Int) (w : World) (e : Ending) (w' : World) : Prop :=
  ((v ≤ 9007199254740992 ∧ -22 ≤ q ∧ q ≤ 22 ∧ ∃ x, e = .returned (.tuple #[.int .u64 x, .bool true]) ∧ Ie.Rnd (v * 10 ^ q.toNat) (10 ^ (-q).toNat) 0 false x) ∨
    ((9007199254740992 < v ∨ q < -22 ∨ 22 < q) ∧ e = .returned (.tuple #[.int .u64 0, .bool false]))) ∧ Below w.heap.size w w'

theorem ten_bd {j : Nat} (h : j < 23) : 0 < (10 : Int) ^ j ∧ (10 : Int) ^ j < 340282366920938463463374607431768211456 := by
  refine ⟨Int.pow_pos (by decide), ?_⟩
  have h1 := Nat.pow_le_pow_right (show 0 < 10 by decide) (show j ≤ 22 by omega)
  have e : ∀ k : Nat, ((10 ^ k : Nat) : Int) = 10 ^ k := by intro k; simp
  have e1 := e j
  have e2 := e 22
  have e3 : (10 : Int) ^ 22 = 10000000000000000000000 := by decide +kernel
  omega

set_option maxRecDepth 100000 in
set_option maxHeartbeats 1000000 in
theorem small_any9 (v q : Int) (w : World) (hT : Tab w) (hX : Tens w) (hv : Bd v) :
    Calls Tryz.prog 20 #[.int .u64 v, .int .i64 q] w fun e w' => SmallTold v q w e w' := by
  by_cases h : v ≤ 9007199254740992 ∧ -22 ≤ q ∧ q ≤ 22
  · by_cases h0 : 0 ≤ q
    · obtain ⟨j, hj⟩ := Int.eq_ofNat_of_zero_le h0
      have tb := ten_bd (show j < 23 by omega)
      have bs := bd_split (P := 10 ^ j) (by omega) tb.2
      have TM := hid (fun wx => ptimes_any v (lo64 (10 ^ j)) (hi64 (10 ^ j)) wx hv bs.1 bs.2)
      rw [n2_split] at TM
      obtain ⟨c0, c1⟩ := hX j (by omega)
      have PR := hid (fun (a b c : Int) (wx : World) (hb : Below w.heap.size w wx) (hh : Bd a ∧ Bd b ∧ Bd c) => pround_any a b c 0 wx (hT.below hb) hh)
      have FF : Hid (∀ x w', Ie.Rnd (v * 10 ^ j) 1 0 false x → Below w.heap.size w w' → SmallTold v q w (.returned (.tuple #[.int .u64 x, .bool true])) w') := fun x w' r b => ⟨.inl ⟨h.1, h.2.1, h.2.2, x, rfl, by rw [show q.toNat = j by omega, show (-q).toNat = 0 by omega]; exact r⟩, b⟩
      have a0 : (j : Int) ≤ 22 := by omega
      have a1 : v ≤ 9007199254740992 := h.1
      have a2 : 0 ≤ v := hv.1
      subst hj
      clear h hT hX hv tb bs h0
      unfold wideV prodV at *
      generalize lo64 (10 ^ j) = x at *
      generalize hi64 (10 ^ j) = y at *
      go_enter Tryz.func20, Tryz.ntmps20
      go_wp2_with fail
      with_reducible refine (TM.out _).mono ?_
      rintro e w1 ⟨a, b, c, rfl, hbd, hn, hB⟩
      have BD := hid hbd
      have NN := hid hn
      have HB := hid hB
      clear hbd hn TM
      go_wp2_with fail
      with_reducible refine (PR.out a b c _ hB BD.out).mono ?_
      rintro e w2 ⟨z, rfl, hR, hB2⟩
      rw [NN.out] at hR
      have F := hid (FF.out z w2 hR (below_on HB.out hB2))
      clear hB hB2 hR FF PR
      go_wp2_with fail
      go_ret2
      exact F.out
    · obtain ⟨j, hj⟩ := Int.eq_ofNat_of_zero_le (show 0 ≤ -q by omega)
      have tb := ten_bd (show j < 23 by omega)
      have bs := bd_split (P := 10 ^ j) (by omega) tb.2
      obtain ⟨c0, c1⟩ := hX j (by omega)
      have RR : Hid (∀ wx, wx = ((w.alloc (.cells #[.int .u64 (lo64 (10 ^ j)), .int .u64 (hi64 (10 ^ j))] 52)).alloc (.cells #[.int .u64 v] 25)) → Calls Tryz.prog 43 #[.bool false, .slice (some ⟨w.heap.size + 1, 0, none⟩) 1 1, .slice (some ⟨w.heap.size, 0, none⟩) 2 2, .int .i64 0] wx fun e w' => ∃ x, e = .returned (.tuple #[.int .u64 x, .int .i64 0]) ∧ Ie.Rnd v (10 ^ j) 0 false x ∧ Below w.heap.size w w') := by
        intro wx hw
        subst hw
        have b2 : Below w.heap.size w ((w.alloc (.cells #[.int .u64 (lo64 (10 ^ j)), .int .u64 (hi64 (10 ^ j))] 52)).alloc (.cells #[.int .u64 v] 25)) := below_on (alloc_b _ _) (alloc_b _ _)
        refine (roundRatio_any false _ _ 1 1 2 2 [v] [lo64 (10 ^ j), hi64 (10 ^ j)] _ (arg_lit9 (heap_alloc2_new _ _ _) hv.1 hv.2) (At2.arg (heap_alloc2_old _ _ _) bs.1.1 bs.1.2 bs.2.1 bs.2.2) (hT.below b2) (Nat.le_trans (Nm.tsize_le _) (by simp)) (Nat.le_trans (Nm.tsize_le _) (by simp)) v (10 ^ j) 0 (by simp [Nm.val]) (by rw [n2_val, n2_split]) tb.1).mono ?_
        rintro e w' ⟨x, rfl, r, hB⟩
        exact ⟨x, by unfold Ie.sg; rfl, r, below_on b2 hB⟩
      have FF : Hid (∀ x w', Ie.Rnd v (10 ^ j) 0 false x → Below w.heap.size w w' → SmallTold v q w (.returned (.tuple #[.int .u64 x, .bool true])) w') := fun x w' r b => ⟨.inl ⟨h.1, h.2.1, h.2.2, x, rfl, by rw [show q.toNat = 0 by omega, show (-q).toNat = j by omega, Int.pow_zero, Int.mul_one]; exact r⟩, b⟩
      have a0 : (j : Int) ≤ 22 := by omega
      have a1 : v ≤ 9007199254740992 := h.1
      have a2 : 0 ≤ v := hv.1
      have a3 : -22 ≤ q := h.2.1
      have a4 : q < 0 := by omega
      clear h hT hX hv tb bs h0
      generalize lo64 (10 ^ j) = x at *
      generalize hi64 (10 ^ j) = y at *
      go_enter Tryz.func20, Tryz.ntmps20
      go_wp2_with fail
      with_reducible refine (RR.out _ rfl).mono ?_
      rintro e w2 ⟨z, rfl, hR, hB2⟩
      have F := hid (FF.out z w2 hR hB2)
      clear hB2 hR FF RR
      go_wp2_with fail
      go_ret2
      exact F.out
  · have F : Hid (SmallTold v q w (.returned (.tuple #[.int .u64 0, .bool false])) w) := ⟨.inr ⟨by omega, rfl⟩, Below.refl _ _⟩
    clear hT hX hv
    by_cases k1 : 9007199254740992 < v
    · clear h
      go_enter Tryz.func20, Tryz.ntmps20
      go_wp2_with fail
      go_ret2
      exact F.out
    · by_cases k2 : q ≤ -23
      · clear h
        go_enter Tryz.func20, Tryz.ntmps20
        go_wp2_with fail
        go_ret2
        exact F.out
      · have k3 : 23 ≤ q := by omega
        clear h
        go_enter Tryz.func20, Tryz.ntmps20
        go_wp2_with fail
        go_ret2
        exact F.out
end Go.Proofs.YthgjflfeilbbbaaGreatDoor

namespace Go.Proofs.YthgjflfeilbbbaaGreatDoor
open Go Go.RowKit Go.Deep

theorem ten_le {j k : Nat} (h : j ≤ k) : (10 : Int) ^ j ≤ 10 ^ k := by
  have h1 := Nat.pow_le_pow_right (show 0 < 10 by decide) h
  have e : ∀ k : Nat, ((10 ^ k : Nat) : Int) = 10 ^ k := by intro k; simp
  have := e j
  have := e k
  omega
theorem ten19e : (10 : Int) ^ 19 = 10000000000000000000 := by decide +kernel
theorem ten18e : (10 : Int) ^ 18 = 1000000000000000000 := by decide +kernel

set_option maxRecDepth 100000 in
set_option maxHeartbeats 1000000 in
theorem rtens_any (n : Int) (K : Nat) (w : World) (n1 : n ≤ 100) (h : (K : Int) = min (max n 0) 19) :
    Calls Tryz.prog 67 #[.int .i64 n] w fun e w' => e = .returned (.int .u64 (10 ^ K)) ∧ w' = w := by
  have ST : Hid (∀ j, j < K → (10 : Int) ^ (j + 1) = 10 ^ j * 10 ∧ 0 < (10 : Int) ^ j ∧ (10 : Int) ^ j ≤ 1000000000000000000) := fun j hj => ⟨Int.pow_succ _ _, Int.pow_pos (by decide), by have := ten_le (show j ≤ 18 by omega); rw [ten18e] at this; exact this⟩
  have K19 : (K : Int) ≤ 19 := by omega
  go_enter Tryz.func67, Tryz.ntmps67
  go_wp2_with fail
  go_loop [3, 4] (fun a i => ∃ (j : Nat) (x : Int), a = .int .u64 x ∧ i = .int .i64 j ∧ Hid (j ≤ K ∧ x = 10 ^ j)) (fun _ i => K - (intOf i).toNat)
  case atStart => exact ⟨0, 1, rfl, rfl, Nat.zero_le _, rfl⟩
  case round =>
    obtain ⟨j, x, rfl, rfl, I⟩ := hrel
    have hjb : (j : Int) ≤ 19 := by have := I.out.1; omega
    by_cases hj : j < K
    · have hji : (j : Int) < n := by omega
      have hj9 : (j : Int) < 19 := by omega
      obtain ⟨s1, s2, s3⟩ := ST.out j hj
      have hx := I.out.2
      rw [← hx] at s1 s2 s3
      have I2 : Hid (j + 1 ≤ K ∧ x * 10 = 10 ^ (j + 1)) := ⟨by omega, s1.symm⟩
      clear I hx s1
      go_wp2_with fail
      go_round
      case rel => exact ⟨j + 1, _, rfl, by go_num, I2.out⟩
      case measure => simp [intOf]; omega
    · have hjK : j = K := by have := I.out.1; omega
      have hx := I.out.2
      rw [hjK] at hx
      subst hx
      by_cases g : (j : Int) < n
      · have g2 : ¬ (j : Int) < 19 := by omega
        clear I
        go_wp2_with fail
        go_ret
        exact ⟨rfl, rfl⟩
      · clear I
        go_wp2_with fail
        go_ret
        exact ⟨rfl, rfl⟩

set_option maxRecDepth 100000 in
set_option maxHeartbeats 2000000 in
theorem rsmall_any9 (v q : Int) (w : World) (hv : Bd v) :
    Calls Tryz.prog 45 #[.int .u64 v, .int .i64 q] w fun e w' => SmallTold v q w e w' := by
  by_cases h : v ≤ 9007199254740992 ∧ -22 ≤ q ∧ q ≤ 22
  · obtain ⟨m, hm⟩ : ∃ m : Int, m = if q < 0 then -q else q := ⟨_, rfl⟩
    obtain ⟨j, hj⟩ : ∃ j : Nat, m = (j : Int) := Int.eq_ofNat_of_zero_le (by rw [hm]; split <;> omega)
    have j22 : (j : Int) ≤ 22 := by rw [← hj, hm]; split <;> omega
    obtain ⟨a, ha⟩ : ∃ a : Nat, a = min j 19 := ⟨_, rfl⟩
    obtain ⟨b, hb⟩ : ∃ b : Nat, b = j - 19 := ⟨_, rfl⟩
    have T1 := hid (fun wx => rtens_any (j : Int) a wx (by omega) (by omega))
    have T2 := hid (fun wx => rtens_any ((j : Int) - 19) b wx (by omega) (by omega))
    have ab : (10 : Int) ^ a * 10 ^ b = 10 ^ j := by rw [← Int.pow_add]; congr 1; omega
    have pa : Hid (0 ≤ (10 : Int) ^ a ∧ (10 : Int) ^ a < 18446744073709551616) := ⟨Int.le_of_lt (Int.pow_pos (by decide)), by have := ten_le (show a ≤ 19 by omega); rw [ten19e] at this; omega⟩
    have pb : Hid (0 ≤ (10 : Int) ^ b ∧ (10 : Int) ^ b < 18446744073709551616) := ⟨Int.le_of_lt (Int.pow_pos (by decide)), by have := ten_le (show b ≤ 19 by omega); rw [ten19e] at this; omega⟩
    have tb := ten_bd (show j < 23 by omega)
    have tp : Hid ((10 : Int) ^ j < Nm.pw 4096 ∧ v * 10 ^ j < Nm.pw 4096 ∧ (0 : Int) < 10 ^ j) := ⟨by
      have h := v_pw (v := 1) (P := 10 ^ j) ⟨by omega, by omega⟩ (by omega) (by omega)
      rwa [Int.one_mul] at h, v_pw hv (by omega) (by omega), tb.1⟩
    have TM : Hid (∀ wx, Calls Tryz.prog 66 #[.slice (some ⟨wx.heap.size, 0, none⟩) 1 1, .slice (some ⟨wx.heap.size + 1, 0, none⟩) 1 1] ((wx.alloc (.cells #[.int .u64 (10 ^ a)] 25)).alloc (.cells #[.int .u64 (10 ^ b)] 25)) fun e w' => ∃ r os, e = .returned (.slice r (List.length os) (List.length os)) ∧ Ans wx.heap.size w' r os (10 ^ j) ∧ Below wx.heap.size wx w') := fun wx => by
      have bb : Below wx.heap.size wx ((wx.alloc (.cells #[.int .u64 (10 ^ a)] 25)).alloc (.cells #[.int .u64 (10 ^ b)] 25)) := below_on (alloc_b _ _) (alloc_b _ _)
      refine (times_any _ _ 1 1 1 1 [10 ^ a] [10 ^ b] _ (arg_lit9 (heap_alloc2_old _ _ _) pa.out.1 pa.out.2) (arg_lit9 (heap_alloc2_new _ _ _) pb.out.1 pb.out.2) (Nat.le_trans (Nm.tsize_le _) (by simp)) (Nat.le_trans (Nm.tsize_le _) (by simp))).mono ?_
      rintro e w' ⟨r2, os2, rfl, A2, h2⟩
      rw [show Nm.val [(10 : Int) ^ a] = 10 ^ a by simp [Nm.val], show Nm.val [(10 : Int) ^ b] = 10 ^ b by simp [Nm.val], ab] at A2
      exact ⟨r2, os2, rfl, A2.up bb.size, below_on bb h2⟩
    have a1 : v ≤ 9007199254740992 := h.1
    have a2 : 0 ≤ v := hv.1
    have a3 : -22 ≤ q := h.2.1
    have a4 : q ≤ 22 := h.2.2
    by_cases hq : q < 0
    · rw [if_pos hq] at hm
      have eq1 : -q = (j : Int) := by omega
      have RD : Hid (∀ B w1 r os, Ans B w1 r os (10 ^ j) → Calls Tryz.prog 69 #[.bool false, .slice (some ⟨w1.heap.size, 0, none⟩) 1 1, .slice r (List.length os) (List.length os), .int .i64 0] (w1.alloc (.cells #[.int .u64 v] 25)) fun r w' => ∃ x, r = .returned (.tuple #[.int .u64 x, .int .i64 0]) ∧ Ie.Rnd v (10 ^ j) 0 false x ∧ Below w1.heap.size w1 w') := fun B w1 r os A => by
        refine (zratio_all false _ r 1 1 _ _ [v] os _ (arg_lit9 (heap_alloc_new _ _) hv.1 hv.2) ((A.argT tp.out.1).below (alloc_b _ _) (Nat.le_refl _)) (Nat.le_trans (Nm.tsize_le _) (by simp)) (A.tsT tp.out.1) v (10 ^ j) 0 (by simp [Nm.val]) A.2.2.2.1 tp.out.2.2).mono ?_
        rintro e w' ⟨x, rfl, R, h2⟩
        exact ⟨x, rfl, R, below_on (alloc_b _ _) h2⟩
      have FF : Hid (∀ x w', Ie.Rnd v (10 ^ j) 0 false x → Below w.heap.size w w' → SmallTold v q w (.returned (.tuple #[.int .u64 x, .bool true])) w') := fun x w' r b => ⟨.inl ⟨h.1, h.2.1, h.2.2, x, rfl, by rw [show q.toNat = 0 by omega, show (-q).toNat = j by omega, Int.pow_zero, Int.mul_one]; exact r⟩, b⟩
      clear h hv hm hj ha hb ab pa pb tb
      generalize (10 : Int) ^ a = xa at *
      generalize (10 : Int) ^ b = xb at *
      go_enter Tryz.func45, Tryz.ntmps45
      go_wp2_with fail
      with_reducible refine (T1.out _).mono ?_
      rintro e w1 ⟨rfl, rfl⟩
      go_wp2_with fail
      with_reducible refine (T2.out _).mono ?_
      rintro e w2 ⟨rfl, rfl⟩
      go_wp2_with fail
      with_reducible refine (TM.out _).mono ?_
      rintro e w3 ⟨r3, os3, rfl, A3, hB3⟩
      have R3 := hid (RD.out _ _ _ _ A3)
      have HB3 := hid hB3
      clear A3 hB3 TM RD T1 T2
      go_wp2_with fail
      with_reducible refine R3.out.mono ?_
      rintro e w4 ⟨x, rfl, R, hB4⟩
      have F := hid (FF.out x w4 R (below_on HB3.out hB4))
      clear R hB4 R3 FF
      go_wp2_with fail
      go_ret2
      exact F.out
    · rw [if_neg hq] at hm
      have eq1 : q = (j : Int) := by omega
      have TM2 : Hid (∀ B w1 r os, Ans B w1 r os (10 ^ j) → Calls Tryz.prog 66 #[.slice (some ⟨w1.heap.size, 0, none⟩) 1 1, .slice r (List.length os) (List.length os)] (w1.alloc (.cells #[.int .u64 v] 25)) fun e w' => ∃ r os, e = .returned (.slice r (List.length os) (List.length os)) ∧ Ans w1.heap.size w' r os (v * 10 ^ j) ∧ Below w1.heap.size w1 w') := fun B w1 r os A => by
        refine (times_any _ r 1 1 _ _ [v] os _ (arg_lit9 (heap_alloc_new _ _) hv.1 hv.2) ((A.argT tp.out.1).below (alloc_b _ _) (Nat.le_refl _)) (Nat.le_trans (Nm.tsize_le _) (by simp)) (by have := A.tsT tp.out.1; omega)).mono ?_
        rintro e w' ⟨r2, os2, rfl, A2, h2⟩
        rw [show Nm.val [v] = v by simp [Nm.val], A.2.2.2.1] at A2
        exact ⟨r2, os2, rfl, A2.up (alloc_b _ _).size, below_on (alloc_b _ _) h2⟩
      have RD : Hid (∀ B w1 r os, Ans B w1 r os (v * 10 ^ j) → Calls Tryz.prog 68 #[.bool false, .slice r (List.length os) (List.length os), .int .i64 0, .bool false] w1 fun r w' => ∃ x, r = .returned (.tuple #[.int .u64 x, .int .i64 0]) ∧ Ie.Rnd (v * 10 ^ j) 1 0 false x ∧ w' = w1) := fun B w1 r os A => zround_any false r _ _ os w1 (A.argT tp.out.2.1) (A.tsT tp.out.2.1) (v * 10 ^ j) 0 false A.2.2.2.1
      have FF : Hid (∀ x w', Ie.Rnd (v * 10 ^ j) 1 0 false x → Below w.heap.size w w' → SmallTold v q w (.returned (.tuple #[.int .u64 x, .bool true])) w') := fun x w' r b => ⟨.inl ⟨h.1, h.2.1, h.2.2, x, rfl, by rw [show q.toNat = j by omega, show (-q).toNat = 0 by omega]; exact r⟩, b⟩
      clear h hv hm hj ha hb ab pa pb tb
      generalize (10 : Int) ^ a = xa at *
      generalize (10 : Int) ^ b = xb at *
      subst eq1
      go_enter Tryz.func45, Tryz.ntmps45
      go_wp2_with fail
      with_reducible refine (T1.out _).mono ?_
      rintro e w1 ⟨rfl, rfl⟩
      go_wp2_with fail
      with_reducible refine (T2.out _).mono ?_
      rintro e w2 ⟨rfl, rfl⟩
      go_wp2_with fail
      with_reducible refine (TM.out _).mono ?_
      rintro e w3 ⟨r3, os3, rfl, A3, hB3⟩
      have R3 := hid (TM2.out _ _ _ _ A3)
      have HB3 := hid hB3
      clear A3 hB3 TM TM2 T1 T2
      go_wp2_with fail
      with_reducible refine R3.out.mono ?_
      rintro e w4 ⟨r4, os4, rfl, A4, hB4⟩
      have R4 := hid (RD.out _ _ _ _ A4)
      have HB4 := hid (below_on HB3.out hB4)
      clear A4 hB4 R3 RD
      go_wp2_with fail
      with_reducible refine R4.out.mono ?_
      rintro e w5 ⟨x, rfl, R, rfl⟩
      have F := hid (FF.out x w5 R HB4.out)
      clear R R4 FF
      go_wp2_with fail
      go_ret2
      exact F.out
  · have F : Hid (SmallTold v q w (.returned (.tuple #[.int .u64 0, .bool false])) w) := ⟨.inr ⟨by omega, rfl⟩, Below.refl _ _⟩
    clear hv
    by_cases k1 : 9007199254740992 < v
    · clear h
      go_enter Tryz.func45, Tryz.ntmps45
      go_wp2_with fail
      go_ret2
      exact F.out
    · by_cases k2 : q < -22
      · clear h
        go_enter Tryz.func45, Tryz.ntmps45
        go_wp2_with fail
        go_ret2
        exact F.out
      · have k3 : 22 < q := by omega
        clear h
        go_enter Tryz.func45, Tryz.ntmps45
        go_wp2_with fail
        go_ret2
        exact F.out
end Go.Proofs.YthgjflfeilbbbaaGreatDoor

namespace Go.Proofs.YthgjflfeilbbbaaGreatDoor
open Go.RowKit Go.Deep

/-- s has just these bytes. -/
def Str (s : ByteArray) (xs : List Int) : Prop := s.data.toList.map (fun b => (b.toNat : Int)) = xs

theorem Str.self (s : ByteArray) : Str s (s.data.toList.map (fun b => (b.toNat : Int))) := rfl

theorem Str.size {s : ByteArray} {xs : List Int} (h : Str s xs) : s.size = xs.length := by
  rw [← h, List.length_map, Array.length_toList]
  rfl

theorem Str.at {s : ByteArray} {xs : List Int} (h : Str s xs) (t : Nat) (ht : t < s.size) : ((s[t]'ht).toNat : Int) = xs.getD t 0 := by
  rw [← h]
  have : t < s.data.toList.length := by rw [Array.length_toList]; exact ht
  simp only [List.getD_eq_getElem?_getD, List.getElem?_map, List.getElem?_eq_getElem this, Option.map_some, Option.getD_some]
  rfl

theorem Str.mem {s : ByteArray} {xs : List Int} (h : Str s xs) {x : Int} (hx : x ∈ xs) : 0 ≤ x ∧ x < 256 := by
  rw [← h] at hx
  obtain ⟨b, _, rfl⟩ := List.mem_map.1 hx
  have := b.toNat_lt
  omega

theorem Str.atb {s : ByteArray} {xs : List Int} (h : Str s xs) (t : Nat) : 0 ≤ xs.getD t 0 ∧ xs.getD t 0 < 256 := by
  by_cases ht : t < xs.length
  · have : xs.getD t 0 = xs[t] := by simp [List.getD, ht]
    rw [this]
    exact h.mem (List.getElem_mem ht)
  · rw [show xs.getD t 0 = 0 by simp [List.getD, List.getElem?_eq_none (show xs.length ≤ t by omega)]]
    omega

theorem Str.extract {s : ByteArray} {xs : List Int} (h : Str s xs) (a b : Nat) : Str (s.extract a b) ((xs.drop a).take (b - a)) := by
  unfold Str at *
  rw [← h, ByteArray.data_extract]
  simp [List.map_drop, List.map_take]

theorem Str.of_nums {xs : List Int} (h : ∀ x ∈ xs, 0 ≤ x ∧ x < 256) : Str (strOfNums xs) xs := by
  unfold Str
  rw [strOfNums_data, List.map_map]
  conv => rhs; rw [← List.map_id xs]
  apply List.map_congr_left
  intro x hx
  have := h x hx
  simp only [Function.comp, id]
  rw [UInt8.toNat_ofNat_of_lt' (by show x.toNat < 256; omega)]
  omega

theorem Str.inj {s t : ByteArray} {xs : List Int} (h : Str s xs) (k : Str t xs) : s = t := by
  unfold Str at h k
  have e : s.data.toList = t.data.toList := by
    rw [← k] at h
    exact List.map_inj_right (fun a b hab => by
      have : a.toNat = b.toNat := by omega
      exact UInt8.toNat_inj.1 this) |>.1 h
  cases s
  cases t
  simp only at e
  rw [Array.toList_inj.1 e]

/-- s == t, asked by the bytes. -/
theorem Str.eq {s t : ByteArray} {xs ys : List Int} (h : Str s xs) (k : Str t ys) : (s.toList == t.toList) = decide (xs = ys) := by
  by_cases e : xs = ys
  · subst e
    rw [h.inj k]
    simp
  · rw [decide_eq_false e, beq_eq_false_iff_ne]
    intro c
    apply e
    rw [ByteArray.toList_eq, ByteArray.toList_eq] at c
    rw [← h, ← k, c]
theorem str_nil0 : Str ⟨#[]⟩ [] := rfl
end Go.Proofs.YthgjflfeilbbbaaGreatDoor

namespace Go.Proofs.YthgjflfeilbbbaaGreatDoor
open Go.RowKit Go.Deep

/-- s' is s without some zeros at its head, and opens with none. -/
def Bared (xs : List Int) (s' : ByteArray) (j : Nat) : Prop := Str s' (xs.drop j) ∧ j ≤ xs.length ∧ (∀ i, i < j → xs.getD i 0 = 48)

def STold (xs : List Int) (e : Ending) : Prop := ∃ s' j, e = .returned (.string s') ∧ Bared xs s' j ∧ (j < xs.length → xs.getD j 0 ≠ 48)

set_option maxRecDepth 100000 in
set_option maxHeartbeats 1000000 in
theorem strim1_any (s : ByteArray) (xs : List Int) (w : World) (hs : Str s xs) (hn1 : xs.length ≤ 562949953421312) :
    Calls Tryz.prog 110 #[.string s, .int .u8 48] w fun e w' => STold xs e ∧ w' = w := by
  have HS := hid hs
  have HN := hid hn1
  clear hs hn1
  go_enter Tryz.func110, Tryz.ntmps110
  go_wp2_with fail
  go_loop [0] (fun c => ∃ s' j, c = .string s' ∧ Hid (Bared xs s' j)) (fun c => match c with | .string s' => s'.size | _ => 0)
  case atStart => exact ⟨s, 0, rfl, HS.out, Nat.zero_le _, fun i hi => by omega⟩
  case round =>
    obtain ⟨s', j, rfl, I⟩ := hrel
    obtain ⟨m, HM⟩ : ∃ m, Hid (s'.size = m) := ⟨_, rfl⟩
    have hsz : s'.size = m := HM.out
    have hjm : Hid (j + m = xs.length) := by show _ = _; have := I.out.1.size; have := I.out.2.1; have := HM.out; simp at *; omega
    have hmb : (m : Int) ≤ 562949953421312 := by have := HN.out; have := hjm.out; omega
    by_cases h0 : m = 0
    · subst h0
      have F : Hid (STold xs (.returned (.string s'))) := ⟨s', j, rfl, I.out, fun h => by have := hjm.out; omega⟩
      clear I
      go_wp2_with fail
      go_ret
      exact ⟨F.out, rfl⟩
    · have hm : 0 < m := by omega
      have hmi : (0 : Int) < (m : Int) := by omega
      obtain ⟨x, X⟩ : ∃ x, Hid (xs.getD j 0 = x) := ⟨_, rfl⟩
      have hx : ∀ h : 0 < s'.size, ((s'[0]'h).toNat : Int) = x := fun h => by rw [I.out.1.at 0 h, ← X.out]; simp [List.getD]
      by_cases hd : x = 48
      · subst hd
        have F : Hid (Bared xs (s'.extract 1 s'.size) (j + 1)) := by
          refine ⟨?_, by have := hjm.out; omega, fun i hi => ?_⟩
          · have := I.out.1.extract 1 s'.size
            rw [List.drop_drop, List.take_of_length_le (by have := hjm.out; have := HM.out; simp; omega)] at this
            exact this
          · by_cases e : i = j
            · subst e; exact X.out
            · exact I.out.2.2 i (by omega)
        rw [hsz] at F
        have SZ : Hid ((s'.extract 1 m).size < s'.size) := by
          show _ < _
          have e1 := F.out.1.size
          have e2 := HM.out
          have e3 := hjm.out
          simp only [List.length_drop] at e1
          omega
        clear I
        go_wp2_with fail
        go_round
        case rel => exact ⟨_, _, rfl, F.out⟩
        case measure => exact SZ.out
      · have hd2 : (x == 48) = false := by rw [beq_eq_false_iff_ne]; exact hd
        have F : Hid (STold xs (.returned (.string s'))) := ⟨s', j, rfl, I.out, fun _ => by rw [X.out]; exact hd⟩
        clear I
        go_wp2_with fail
        go_ret
        exact ⟨F.out, rfl⟩

set_option maxRecDepth 100000 in
theorem strim_any (s : ByteArray) (xs : List Int) (w : World) (hs : Str s xs) (hn1 : xs.length ≤ 562949953421312) :
    Calls Tryz.prog 81 #[.string s, .string ⟨#[48]⟩] w fun e w' => STold xs e ∧ w' = w := by
  have T := hid (strim1_any s xs w hs hn1)
  by_cases h : xs = []
  · have F : Hid (STold xs (.returned (.string s))) := ⟨s, 0, rfl, ⟨by simpa using hs, Nat.zero_le _, fun i hi => by omega⟩, fun hlt => by rw [h] at hlt; simp at hlt⟩
    have hs0 : s = ⟨#[]⟩ := hs.inj (by rw [h]; rfl)
    subst hs0
    clear hs hn1 h
    go_enter Tryz.func81, Tryz.ntmps81
    go_wp2_with fail
    go_ret
    exact ⟨F.out, rfl⟩
  · have e0 := hs.eq (t := ⟨#[]⟩) (ys := []) rfl
    rw [decide_eq_false h] at e0
    have e1 : s.toList ≠ [] := by
      intro c
      apply h
      rw [ByteArray.toList_eq] at c
      rw [← hs, c]
      rfl
    have e2 : (s.toList == []) = false := by rw [beq_eq_false_iff_ne]; exact e1
    have e3 : s.toList.isEmpty = false := by rw [List.isEmpty_eq_false_iff]; exact e1
    clear hs hn1 h
    go_enter Tryz.func81, Tryz.ntmps81
    go_wp2_with fail
    refine T.out.mono ?_
    rintro e w' ⟨h1, rfl⟩
    obtain ⟨s', j, rfl, h2⟩ := h1
    have F : Hid (STold xs (.returned (.string s'))) := ⟨s', j, rfl, h2⟩
    clear h2 T
    go_wp2_with fail
    go_ret
    exact ⟨F.out, rfl⟩
end Go.Proofs.YthgjflfeilbbbaaGreatDoor

namespace Go.Proofs.YthgjflfeilbbbaaGreatDoor
open Go.RowKit Go.Deep

/-- s' is s without some zeros at its end, and ends with none. -/
def TailTold (xs : List Int) (e : Ending) : Prop := ∃ s' k, e = .returned (.string s') ∧ Str s' (xs.take k) ∧ k ≤ xs.length ∧ (∀ i, k ≤ i → i < xs.length → xs.getD i 0 = 48) ∧ (0 < k → xs.getD (k - 1) 0 ≠ 48)

set_option maxRecDepth 100000 in
set_option maxHeartbeats 1000000 in
theorem rtrim_any (s : ByteArray) (xs : List Int) (w : World) (hs : Str s xs) (hn1 : xs.length ≤ 562949953421312) :
    Calls Tryz.prog 131 #[.string s, .int .u8 48] w fun e w' => TailTold xs e ∧ w' = w := by
  have HS := hid hs
  have HN := hid hn1
  clear hs hn1
  go_enter Tryz.func131, Tryz.ntmps131
  go_wp2_with fail
  go_loop [0] (fun c => ∃ s' m, c = .string s' ∧ Hid (Str s' (xs.take m) ∧ m ≤ xs.length ∧ s'.size = m ∧ (∀ i, m ≤ i → i < xs.length → xs.getD i 0 = 48))) (fun c => match c with | .string s' => s'.size | _ => 0)
  case atStart => exact ⟨s, xs.length, rfl, by rw [List.take_length]; exact HS.out, Nat.le_refl _, HS.out.size, fun i h1 h2 => by omega⟩
  case round =>
    obtain ⟨s', m, rfl, I⟩ := hrel
    have hsz : s'.size = m := I.out.2.2.1
    have hmb : (m : Int) ≤ 562949953421312 := by have := HN.out; have := I.out.2.1; omega
    by_cases h0 : m = 0
    · subst h0
      have F : Hid (TailTold xs (.returned (.string s'))) := ⟨s', 0, rfl, I.out.1, Nat.zero_le _, I.out.2.2.2, fun h => by omega⟩
      clear I
      go_wp2_with fail
      go_ret
      exact ⟨F.out, rfl⟩
    · obtain ⟨u, hu⟩ : ∃ u, m = u + 1 := ⟨m - 1, by omega⟩
      have hmi : (0 : Int) < (m : Int) := by omega
      have hmu : (m : Int) - 1 = (u : Int) := by omega
      have hum : (u : Int) < (m : Int) := by omega
      obtain ⟨x, X⟩ : ∃ x, Hid (xs.getD u 0 = x) := ⟨_, rfl⟩
      have hx : ∀ h : u < s'.size, ((s'[u]'h).toNat : Int) = x := fun h => by
        rw [I.out.1.at u h, ← X.out]
        simp [List.getD, show u < m by omega]
      have HU := hid hu
      by_cases hd : x = 48
      · subst hd
        have F : Hid (Str (s'.extract 0 u) (xs.take u) ∧ u ≤ xs.length ∧ (s'.extract 0 u).size = u ∧ (∀ i, u ≤ i → i < xs.length → xs.getD i 0 = 48)) := by
          have e := I.out.1.extract 0 u
          rw [List.drop_zero, Nat.sub_zero, List.take_take, show min u m = u by omega] at e
          refine ⟨e, by have := I.out.2.1; omega, by rw [e.size]; have := I.out.2.1; simp; omega, fun i h1 h2 => ?_⟩
          by_cases c : i = u
          · subst c; exact X.out
          · exact I.out.2.2.2 i (by omega) h2
        have SZ : Hid ((s'.extract 0 u).size < s'.size) := by show _ < _; rw [F.out.2.2.1, hsz]; omega
        clear I hu h0
        go_wp2_with fail
        go_round
        case rel => exact ⟨_, _, rfl, F.out⟩
        case measure => exact SZ.out
      · have hd2 : (x == 48) = false := by rw [beq_eq_false_iff_ne]; exact hd
        have F : Hid (TailTold xs (.returned (.string s'))) := ⟨s', m, rfl, I.out.1, I.out.2.1, I.out.2.2.2, fun _ => by rw [show m - 1 = u by omega, X.out]; exact hd⟩
        clear I hu h0
        go_wp2_with fail
        go_ret
        exact ⟨F.out, rfl⟩


set_option maxRecDepth 100000 in
theorem rtrim0_any (s : ByteArray) (xs : List Int) (w : World) (hs : Str s xs) (hn1 : xs.length ≤ 562949953421312) :
    Calls Tryz.prog 108 #[.string s, .string ⟨#[48]⟩] w fun e w' => TailTold xs e ∧ w' = w := by
  have T := hid (rtrim_any s xs w hs hn1)
  by_cases h : xs = []
  · have F : Hid (TailTold xs (.returned (.string s))) := ⟨s, 0, rfl, by rw [h] at hs ⊢; exact hs, Nat.zero_le _, fun i _ hi => by rw [h] at hi; simp at hi, fun hlt => by omega⟩
    have hs0 : s = ⟨#[]⟩ := hs.inj (by rw [h]; rfl)
    subst hs0
    clear hs hn1 h
    go_enter Tryz.func108, Tryz.ntmps108
    go_wp2_with fail
    go_ret
    exact ⟨F.out, rfl⟩
  · have e1 : s.toList ≠ [] := by
      intro c
      apply h
      rw [ByteArray.toList_eq] at c
      rw [← hs, c]
      rfl
    have e2 : (s.toList == []) = false := by rw [beq_eq_false_iff_ne]; exact e1
    have e3 : s.toList.isEmpty = false := by rw [List.isEmpty_eq_false_iff]; exact e1
    clear hs hn1 h
    go_enter Tryz.func108, Tryz.ntmps108
    go_wp2_with fail
    refine T.out.mono ?_
    rintro e w' ⟨h1, rfl⟩
    obtain ⟨s', j, rfl, h2⟩ := h1
    have F : Hid (TailTold xs (.returned (.string s'))) := ⟨s', j, rfl, h2⟩
    clear h2 T
    go_wp2_with fail
    go_ret
    exact ⟨F.out, rfl⟩
end Go.Proofs.YthgjflfeilbbbaaGreatDoor

namespace Go.Proofs.YthgjflfeilbbbaaGreatDoor
open Go.RowKit Go.Deep Go.Shelf

def cloneRen : Go.Shelf.Ren := ⟨fun _ => 109, fun t => if t = 37 then 127 else if t = 47 then 137 else if t = 5 then 5 else if t = 9 then 9 else if t = 3 then 3 else t, fun g => g⟩
theorem cloneLays : LaysPu.n25 Tryz.prog cloneRen where
  mixed := by kernel_rfl
  f25 := by kernel_rfl
  t0 := by kernel_rfl
  a0 := fun _ => by kernel_rfl
  z0 := fun _ => by kernel_rfl
  v0 := fun _ => by kernel_rfl
  i0 := by kernel_rfl
  t3 := by kernel_rfl
  a3 := fun _ => by kernel_rfl
  z3 := fun _ => by kernel_rfl
  v3 := fun _ => by kernel_rfl
  i3 := by kernel_rfl
  t4 := by kernel_rfl
  a4 := fun _ => by kernel_rfl
  z4 := fun _ => by kernel_rfl
  v4 := fun _ => by kernel_rfl
  i4 := by kernel_rfl
  t5 := by kernel_rfl
  a5 := fun _ => by kernel_rfl
  z5 := fun _ => by kernel_rfl
  v5 := fun _ => by kernel_rfl
  i5 := by kernel_rfl
  t9 := by kernel_rfl
  a9 := fun _ => by kernel_rfl
  z9 := fun _ => by kernel_rfl
  v9 := fun _ => by kernel_rfl
  i9 := by kernel_rfl
  t37 := by kernel_rfl
  a37 := fun _ => by kernel_rfl
  z37 := fun _ => by kernel_rfl
  v37 := fun _ => by kernel_rfl
  i37 := by kernel_rfl
  t47 := by kernel_rfl
  a47 := fun _ => by kernel_rfl
  z47 := fun _ => by kernel_rfl
  v47 := fun _ => by kernel_rfl
  i47 := by kernel_rfl

theorem clone_any (s : ByteArray) (w : World) (hs : s.size ≤ 281474976710656) : Calls Tryz.prog 79 #[.string s] w fun e w' => e = .returned (.string s) ∧ Below w.heap.size w w' := by
  have C : Hid (Calls Tryz.prog 109 #[.string s] w fun e w' => e = .returned (.string s) ∧ Below w.heap.size w w') := AnyPu.stringslite_Clone cloneLays s w (by omega)
  go_enter Tryz.func79, Tryz.ntmps79
  go_wp2_with fail
  refine C.out.mono ?_
  rintro e w1 ⟨rfl, d1⟩
  have D := hid d1
  clear d1
  go_wp2_with fail
  go_ret
  exact ⟨rfl, D.out⟩
end Go.Proofs.YthgjflfeilbbbaaGreatDoor

namespace Go.Proofs.YthgjflfeilbbbaaGreatDoor
open Go Go.RowKit Go.Deep

def decV (neg : Bool) (s : ByteArray) (e : Int) : Value := .agg #[.bool neg, .string s, .int .i64 e]
/-- A value is this Dec. -/
def DecIs (v : Value) (d : Sc.D) : Prop := ∃ s, v = decV d.neg s d.e ∧ Str s d.ds

/-- Three cells that may be written. -/
def Row3 (w : World) (b : Nat) (v0 v1 v2 : Value) : Prop := w.heap[b]? = some (.cells #[v0, v1, v2] 40 (0, 0))
theorem Row3.new (w : World) (v0 v1 v2 : Value) : Row3 (w.alloc (.cells #[v0, v1, v2] 40)) w.heap.size v0 v1 v2 := heap_alloc_new w _
theorem Row3.below {B : Nat} {w w' : World} {b : Nat} {v0 v1 v2 : Value} (h : Row3 w b v0 v1 v2) (hB : Below B w w') (hb : b < B) : Row3 w' b v0 v1 v2 := by
  rw [Row3, hB.block b hb]; exact h
theorem Row3.lt {w : World} {b : Nat} {v0 v1 v2 : Value} (h : Row3 w b v0 v1 v2) : b < w.heap.size := by
  rcases Nat.lt_or_ge b w.heap.size with hl | hl
  · exact hl
  · simp [Row3, Array.getElem?_eq_none hl] at h
theorem Row3.cells {w : World} {b : Nat} {v0 v1 v2 : Value} (h : Row3 w b v0 v1 v2) :
    (w.cell? ⟨b, 0, none⟩ = some v0 ∧ w.cell? ⟨b, 1, none⟩ = some v1 ∧ w.cell? ⟨b, 2, none⟩ = some v2) ∧
    (w.frozen? ⟨b, 0, none⟩ = false ∧ w.frozen? ⟨b, 1, none⟩ = false ∧ w.frozen? ⟨b, 2, none⟩ = false) := by
  simp only [Row3] at h
  refine ⟨⟨?_, ?_, ?_⟩, ⟨?_, ?_, ?_⟩⟩ <;> simp [World.cell?, World.frozen?, h]
theorem Row3.put {w : World} {b : Nat} {v0 v1 v2 : Value} (h : Row3 w b v0 v1 v2) (u0 u1 u2 : Value) :
    Row3 (((w.setCell ⟨b, 0, none⟩ u0).setCell ⟨b, 1, none⟩ u1).setCell ⟨b, 2, none⟩ u2) b u0 u1 u2 := by
  have h0 := set1 (o := 0) (v := u0) (c' := #[u0, v1, v2]) h (by simp [Array.setIfInBounds])
  have h1 := set1 (o := 1) (v := u1) (c' := #[u0, u1, v2]) h0 (by simp [Array.setIfInBounds])
  exact set1 (o := 2) (v := u2) (c' := #[u0, u1, u2]) h1 (by simp [Array.setIfInBounds])
theorem Row3.far {w : World} {b c o : Nat} {v v0 v1 v2 : Value} (h : Row3 w b v0 v1 v2) (hc : c ≠ b) : Row3 (w.setCell ⟨c, o, none⟩ v) b v0 v1 v2 := by
  simp only [Row3] at *
  simp only [World.setCell, Array.getElem?_modify]
  rw [if_neg hc]; exact h
theorem set3_below {B : Nat} {w w' : World} {b : Nat} {u0 u1 u2 : Value} (h : Below B w w') (hb : B ≤ b) : Below B w (((w'.setCell ⟨b, 0, none⟩ u0).setCell ⟨b, 1, none⟩ u1).setCell ⟨b, 2, none⟩ u2) :=
  ((h.setCell (p := ⟨b, 0, none⟩) hb u0).setCell (p := ⟨b, 1, none⟩) hb u1).setCell (p := ⟨b, 2, none⟩) hb u2

/-- Two boxes for Decs, new. -/
def Two3 (w w' : World) (v0 v1 v2 u0 u1 u2 : Value) : Prop := Below w.heap.size w w' ∧ Row3 w' w.heap.size v0 v1 v2 ∧ Row3 w' (w.heap.size + 1) u0 u1 u2
theorem Two3.new (w : World) (v0 v1 v2 u0 u1 u2 : Value) : Two3 w ((w.alloc (.cells #[v0, v1, v2] 40)).alloc (.cells #[u0, u1, u2] 40)) v0 v1 v2 u0 u1 u2 :=
  ⟨below_on (alloc_b _ _) (alloc_b _ _), heap_alloc2_old _ _ _, heap_alloc2_new _ _ _⟩
theorem Two3.on {w w' w'' : World} {v0 v1 v2 u0 u1 u2 : Value} (h : Two3 w w' v0 v1 v2 u0 u1 u2) (k : Below w'.heap.size w' w'') : Two3 w w'' v0 v1 v2 u0 u1 u2 :=
  ⟨below_on h.1 k, h.2.1.below k h.2.1.lt, h.2.2.below k h.2.2.lt⟩
theorem Two3.putB {w w' : World} {v0 v1 v2 u0 u1 u2 : Value} (h : Two3 w w' v0 v1 v2 u0 u1 u2) (x0 x1 x2 : Value) : Two3 w (((w'.setCell ⟨w.heap.size + 1, 0, none⟩ x0).setCell ⟨w.heap.size + 1, 1, none⟩ x1).setCell ⟨w.heap.size + 1, 2, none⟩ x2) v0 v1 v2 x0 x1 x2 :=
  ⟨set3_below h.1 (Nat.le_succ _), ((h.2.1.far (by omega)).far (by omega)).far (by omega), h.2.2.put _ _ _⟩
theorem Two3.putA {w w' : World} {v0 v1 v2 u0 u1 u2 : Value} (h : Two3 w w' v0 v1 v2 u0 u1 u2) (x0 x1 x2 : Value) : Two3 w (((w'.setCell ⟨w.heap.size, 0, none⟩ x0).setCell ⟨w.heap.size, 1, none⟩ x1).setCell ⟨w.heap.size, 2, none⟩ x2) x0 x1 x2 u0 u1 u2 :=
  ⟨set3_below h.1 (Nat.le_refl _), h.2.1.put _ _ _, ((h.2.2.far (by omega)).far (by omega)).far (by omega)⟩

theorem str_zero : Str ⟨#[48]⟩ [48] := rfl

theorem dec_ret {v : Value} {d : Sc.D} {w w' : World} (h : DecIs v d) (b : Below w.heap.size w w') : ∃ v', Ending.returned v = .returned v' ∧ DecIs v' d ∧ Below w.heap.size w w' := ⟨v, rfl, h, b⟩

set_option maxRecDepth 100000 in
set_option maxHeartbeats 1000000 in
theorem dtrim_any (neg : Bool) (s : ByteArray) (xs : List Int) (e : Int) (w : World) (hs : Str s xs) (hn : xs.length ≤ 281474976710656) (e0 : -4611686018427387904 ≤ e) (e1 : e ≤ 4611686018427387904) :
    Calls Tryz.prog 78 #[decV neg s e] w fun r w' => ∃ v, r = .returned v ∧ DecIs v (Sc.nrm neg xs e) ∧ Below w.heap.size w w' := by
  have L := hid (fun wx => strim_any s xs wx hs (by omega))
  have HN := hid hn
  clear hs hn
  unfold decV
  go_enter Tryz.func78, Tryz.ntmps78
  go_wp2_with fail
  refine (L.out _).mono ?_
  rintro r w1 ⟨⟨s1, j, rfl, ⟨b1, b2, b3⟩, b4⟩, rfl⟩
  by_cases h : j = xs.length
  · have hs1 : s1 = ⟨#[]⟩ := b1.inj (by rw [List.drop_of_length_le (by omega)]; rfl)
    have F : Hid (Sc.nrm neg xs e = ⟨neg, [48], 0⟩) := Sc.nrm_of_none (fun i hi => b3 i (by omega))
    subst hs1
    clear b1 b2 b3 b4
    go_wp2_with fail
    (try simp only [Exit.inBlock, Exit.then])
    refine bodyPost_ret (results_cell_row rfl _ _ (w.heap.size + 1) 40 _ (0, 0) _ rfl (Two3.new w _ _ _ _ _ _).2.2 Tryz.underlying40 rfl (by kernel_rfl)) rfl ?_
    exact dec_ret (by rw [F.out]; exact ⟨_, rfl, str_zero⟩) (Two3.new w _ _ _ _ _ _).1
  · have hlt : j < xs.length := by omega
    have hne := b4 hlt
    have R := hid (fun wx => rtrim0_any s1 (xs.drop j) wx b1 (by have := HN.out; simp; omega))
    have hsz : s1.size = xs.length - j := by have := b1.size; simpa using this
    have q1 : s1.toList ≠ [] := by
      intro c
      have : s1.size = 0 := by
        rw [ByteArray.toList_eq] at c
        have := congrArg List.length c
        rw [Array.length_toList] at this
        exact this
      omega
    have q2 : (s1.toList == []) = false := by rw [beq_eq_false_iff_ne]; exact q1
    have q3 : s1.toList.isEmpty = false := by rw [List.isEmpty_eq_false_iff]; exact q1
    have N2 : Hid (∀ k, k ≤ (xs.drop j).length → (∀ i, k ≤ i → i < (xs.drop j).length → (xs.drop j).getD i 0 = 48) → (0 < k → (xs.drop j).getD (k - 1) 0 ≠ 48) → Sc.nrm neg xs e = ⟨neg, (xs.drop j).take k, e + (xs.drop j).length - k⟩ ∧ 0 < k) := fun k x1 x2 x3 => Sc.nrm_of_trims hlt b3 hne x1 x2 x3
    have HL : Hid ((xs.drop j).length = xs.length - j) := by show _ = _; simp
    obtain ⟨m, hm⟩ : ∃ m, xs.length - j = m := ⟨_, rfl⟩
    rw [hm] at hsz HL
    have hmb : (m : Int) ≤ 281474976710656 := by have := HN.out; omega
    clear b1 b2 b3 b4 hlt hne hm h
    go_wp2_with fail
    refine (R.out _).mono ?_
    rintro r w2 ⟨⟨s2, k, rfl, c1, c2, c3, c4⟩, rfl⟩
    have NN := hid (N2.out k c2 c3 c4)
    have hk2 : s2.size = k := by have := c1.size; rw [List.length_take] at this; omega
    have hkm : (k : Int) ≤ (m : Int) := by have := HL.out; omega
    have HC := hid c1
    clear c1 c2 c3 c4 R N2 L
    go_wp2_with fail
    (try simp only [Exit.inBlock, Exit.then])
    refine bodyPost_ret (results_cell_row rfl _ _ (w.heap.size + 1) 40 _ (0, 0) _ rfl (Two3.new w _ _ _ _ _ _).2.2 Tryz.underlying40 rfl (by kernel_rfl)) rfl ?_
    exact dec_ret (by rw [NN.out.1, HL.out]; exact ⟨_, rfl, HC.out⟩) (Two3.new w _ _ _ _ _ _).1
end Go.Proofs.YthgjflfeilbbbaaGreatDoor

namespace Go.Proofs.YthgjflfeilbbbaaGreatDoor
open Go Go.RowKit Go.Deep

theorem Two3.one {w w' : World} {v0 v1 v2 u0 u1 u2 : Value} (h : Two3 w w' v0 v1 v2 u0 u1 u2) (x : Value) : Two3 w (w'.setCell ⟨w.heap.size, 1, none⟩ x) v0 x v2 u0 u1 u2 :=
  ⟨h.1.setCell (p := ⟨w.heap.size, 1, none⟩) (Nat.le_refl _) x, set1 h.2.1 (by simp [Array.setIfInBounds]), h.2.2.far (by omega)⟩

set_option maxRecDepth 100000 in
theorem own_any (neg : Bool) (s : ByteArray) (e : Int) (w : World) (hs : s.size ≤ 281474976710656) :
    Calls Tryz.prog 58 #[decV neg s e] w fun r w' => r = .returned (decV neg s e) ∧ Below w.heap.size w w' := by
  have C := hid (fun wx => clone_any s wx hs)
  have Z := hid (Two3.new w (.bool neg) (.string s) (.int .i64 e) (.bool false) (.string ⟨#[]⟩) (.int .i64 0))
  unfold decV
  clear hs
  go_enter Tryz.func58, Tryz.ntmps58
  go_wp2_with fail
  refine (C.out _).mono ?_
  rintro r w1 ⟨rfl, hB⟩
  have S := hid (Z.out.on hB)
  obtain ⟨⟨c0, c1, c2⟩, f0, f1, f2⟩ := S.out.2.1.cells
  obtain ⟨⟨d0, d1, d2⟩, g0, g1, g2⟩ := S.out.2.2.cells
  clear hB Z C
  go_wp2_with fail
  (try simp only [Exit.inBlock, Exit.then])
  refine bodyPost_ret (results_cell_row rfl _ _ (w.heap.size + 1) 40 _ (0, 0) _ rfl ((S.out.one _).putB _ _ _).2.2 Tryz.underlying40 rfl (by kernel_rfl)) rfl ?_
  exact ⟨rfl, ((S.out.one _).putB _ _ _).1⟩

theorem nrm_ds_len (neg : Bool) (ds : List Int) (e : Int) (h : ds.length ≤ 281474976710655) : (Sc.nrm neg ds e).ds.length ≤ 281474976710656 := by
  have := Sc.nrm_len neg ds e
  omega
end Go.Proofs.YthgjflfeilbbbaaGreatDoor

namespace Go.Proofs.YthgjflfeilbbbaaGreatDoor
open Go Go.RowKit Go.Deep

theorem vret_bool {a b : Bool} (h : a = b) : Ending.returned (.bool a) = .returned (.bool b) := by rw [h]

theorem digit_any (x : Int) (w : World) (h0 : 0 ≤ x) (h1 : x < 256) : Calls Tryz.prog 77 #[.int .u8 x] w fun e w' => e = .returned (.bool (Sc.dg x)) ∧ w' = w := by
  go_enter Tryz.func77, Tryz.ntmps77
  go_wp2
  all_goals (go_ret; refine ⟨vret_bool ?_, rfl⟩)
  all_goals (rw [Bool.eq_iff_iff]; simp [Sc.dg]; omega)

theorem Str.pk {s : ByteArray} {xs : List Int} (h : Str s xs) (t : Nat) : ∀ ht : t < s.size, ((s[t]'ht).toNat : Int) = Sc.pk xs t := fun ht => h.at t ht
end Go.Proofs.YthgjflfeilbbbaaGreatDoor

namespace Go.Proofs.YthgjflfeilbbbaaGreatDoor
open Go Go.RowKit Go.Deep

/-- What slim, and Norm, tell of a Dec. -/
def nmd (neg : Bool) (ds : List Int) (e : Int) : Sc.D := if Sc.IsDec ds e then Sc.nrm neg ds e else ⟨false, [], 0⟩
theorem isdec_n {ds : List Int} {e : Int} {neg : Bool} (h1 : ds ≠ []) (h2 : -1152921504606846976 ≤ e) (h3 : e ≤ 1152921504606846976) (h4 : ∀ i, i < ds.length → Sc.dg (Sc.pk ds i) = true) : Sc.IsDec ds e ↔ (Sc.nrm neg ds e).e ≤ 1152921504606846976 := by
  have h4' : ∀ x ∈ ds, Sc.dg x = true := by
    intro x hx
    obtain ⟨i, hi, rfl⟩ := List.mem_iff_getElem.1 hx
    have := h4 i hi
    simpa [Sc.pk, List.getD, hi] using this
  by_cases c : Sc.lz ds = ds.length
  · rw [Sc.nrm_zero c]
    constructor
    · intro _; show (0 : Int) ≤ _; omega
    · intro _; exact ⟨h1, h2, h3, h4', fun h => absurd c h⟩
  · rw [Sc.nrm_pos c]
    constructor
    · intro h; exact h.2.2.2.2 c
    · intro h; exact ⟨h1, h2, h3, h4', fun _ => h⟩

theorem Str.ne {s : ByteArray} {xs : List Int} (h : Str s xs) (hx : xs ≠ []) : s.toList ≠ [] ∧ (s.toList == []) = false ∧ s.toList.isEmpty = false := by
  have e1 : s.toList ≠ [] := by
    intro c
    apply hx
    rw [ByteArray.toList_eq] at c
    rw [← h, c]
    rfl
  exact ⟨e1, by rw [beq_eq_false_iff_ne]; exact e1, by rw [List.isEmpty_eq_false_iff]; exact e1⟩

/-- What slim tells. -/
def SlimTold (neg : Bool) (ds : List Int) (e : Int) (w : World) (r : Ending) (w' : World) : Prop := ∃ v, r = .returned (.tuple #[v, .bool (decide (Sc.IsDec ds e))]) ∧ DecIs v (nmd neg ds e) ∧ Below w.heap.size w w'

theorem Two3.drew {w w' : World} {v0 v1 v2 u0 u1 u2 : Value} (h : Two3 w w' v0 v1 v2 u0 u1 u2) (n : Nat) : Two3 w (w'.drewN n) v0 v1 v2 u0 u1 u2 := ⟨below_drewN h.1 n, h.2.1, h.2.2⟩

set_option maxRecDepth 100000 in
set_option maxHeartbeats 2000000 in
theorem slim_any (neg : Bool) (s : ByteArray) (xs : List Int) (e : Int) (w : World) (hs : Str s xs) (hn : xs.length ≤ 281474976710656) :
    Calls Tryz.prog 57 #[decV neg s e] w fun r w' => SlimTold neg xs e w r w' := by
  have ZF : Hid (¬ Sc.IsDec xs e → ∀ w', Below w.heap.size w w' → SlimTold neg xs e w (.returned (.tuple #[.agg #[.bool false, .string ⟨#[]⟩, .int .i64 0], .bool false])) w') := fun z w' b => ⟨_, by rw [decide_eq_false z], by unfold nmd; rw [if_neg z]; exact ⟨_, rfl, str_nil0⟩, b⟩
  have hsz := hs.size
  by_cases h1 : xs = []
  · have Z2 := hid (ZF.out fun c => c.1 h1)
    have hs0 : s = ⟨#[]⟩ := hs.inj (by rw [h1]; rfl)
    subst hs0
    clear hs h1 ZF hn
    unfold decV
    go_enter Tryz.func57, Tryz.ntmps57
    go_wp2_with fail
    (try simp only [Exit.inBlock, Exit.then])
    refine bodyPost_ret (results_row_tmp rfl _ _ (w.heap.size + 1) 40 _ (0, 0) _ rfl (Two3.new w _ _ _ _ _ _).2.2 Tryz.underlying40 rfl (by kernel_rfl)) rfl ?_
    exact Z2.out _ (Two3.new w _ _ _ _ _ _).1
  · obtain ⟨q1, q2, q3⟩ := hs.ne h1
    by_cases h2 : -1152921504606846976 ≤ e ∧ e ≤ 1152921504606846976
    · obtain ⟨e0, e1⟩ := h2
      have T := hid (fun wx => dtrim_any neg s xs e wx hs hn (by omega) (by omega))
      have ID : Hid ((∀ i, i < xs.length → Sc.dg (Sc.pk xs i) = true) → (Sc.IsDec xs e ↔ (Sc.nrm neg xs e).e ≤ 1152921504606846976)) := isdec_n h1 e0 e1
      have IN : Hid (∀ j, j < xs.length → Sc.dg (Sc.pk xs j) = false → ¬ Sc.IsDec xs e) := fun j hj hd c => by
        have := c.2.2.2.1 (Sc.pk xs j) (by simp [Sc.pk, List.getD, hj])
        rw [hd] at this; exact absurd this (by simp)
      have DG := hid (fun (j : Nat) (wx : World) => digit_any (Sc.pk xs j) wx (hs.atb j).1 (hs.atb j).2)
      have HS := hid hs
      have HN := hid hn
      have NE := hid (Sc.nrm_e neg xs e)
      clear hs hn h1
      unfold decV
      go_enter Tryz.func57, Tryz.ntmps57
      go_wp2_with fail
      go_loop [22] (fun c => ∃ j : Nat, c = .int .i64 j ∧ Hid (j ≤ xs.length ∧ ∀ i, i < j → Sc.dg (Sc.pk xs i) = true)) (fun c => match c with | .int _ j => xs.length - j.toNat | _ => 0)
      case atStart => exact ⟨0, rfl, Nat.zero_le _, fun i hi => by omega⟩
      case round =>
        obtain ⟨j, rfl, I⟩ := hrel
        have hjb : (j : Int) ≤ 281474976710656 := by have := I.out.1; have := HN.out; omega
        by_cases hj : j < xs.length
        · have hji : (j : Int) < (xs.length : Int) := by omega
          have hx := HS.out.pk j
          have D := hid (fun wx => DG.out j wx)
          cases hd : Sc.dg (Sc.pk xs j) with
          | true =>
            rw [hd] at D
            have I2 : Hid (j + 1 ≤ xs.length ∧ ∀ i, i < j + 1 → Sc.dg (Sc.pk xs i) = true) := ⟨by omega, fun i hi => by
              by_cases c : i = j
              · subst c; exact hd
              · exact I.out.2 i (by omega)⟩
            clear hd I
            go_wp2_with fail
            refine (D.out _).mono ?_
            rintro r w1 ⟨rfl, rfl⟩
            go_wp2_with fail
            go_round
            case rel => exact ⟨j + 1, by go_num, I2.out⟩
            case measure => simp; omega
          | false =>
            rw [hd] at D
            have Z2 := hid (ZF.out (IN.out j hj hd))
            clear hd
            go_wp2_with fail
            refine (D.out _).mono ?_
            rintro r w1 ⟨rfl, rfl⟩
            go_wp2_with fail
            (try simp only [Exit.inBlock, Exit.then])
            refine bodyPost_ret (results_row_tmp rfl _ _ (w.heap.size + 1) 40 _ (0, 0) _ rfl (Two3.new w _ _ _ _ _ _).2.2 Tryz.underlying40 rfl (by kernel_rfl)) rfl ?_
            exact Z2.out _ (Two3.new w _ _ _ _ _ _).1
        · have hji : ¬ (j : Int) < (xs.length : Int) := by omega
          have ID2 := hid (ID.out fun i hi => I.out.2 i (by omega))
          have Z := hid (Two3.new w (.bool neg) (.string s) (.int .i64 e) (.bool false) (.string ⟨#[]⟩) (.int .i64 0))
          clear I
          go_wp2_with fail
          refine (T.out _).mono ?_
          rintro r w1 ⟨v, rfl, ⟨t, hv, ht⟩, hB⟩
          unfold decV at hv
          subst hv
          have S := hid ((Z.out.on hB).putA (.bool (Sc.nrm neg xs e).neg) (.string t) (.int .i64 (Sc.nrm neg xs e).e))
          obtain ⟨⟨c0, c1, c2⟩, f0, f1, f2⟩ := (Z.out.on hB).2.1.cells
          obtain ⟨⟨d0, d1, d2⟩, g0, g1, g2⟩ := (Z.out.on hB).2.2.cells
          have HT := hid ht
          clear hB ht Z T
          by_cases hb : (Sc.nrm neg xs e).e ≤ 1152921504606846976
          · have isd := ID2.out.2 hb
            have GG : Hid (∀ w', Below w.heap.size w w' → SlimTold neg xs e w (.returned (.tuple #[.agg #[.bool (Sc.nrm neg xs e).neg, .string t, .int .i64 (Sc.nrm neg xs e).e], .bool true])) w') := fun w' b => ⟨_, by rw [decide_eq_true isd], by unfold nmd; rw [if_pos isd]; exact ⟨t, rfl, HT.out⟩, b⟩
            clear isd ID ID2 IN NE
            generalize Sc.nrm neg xs e = N at *
            go_wp2_with fail
            (try simp only [Exit.inBlock, Exit.then])
            refine bodyPost_ret (results_row_tmp rfl _ _ (w.heap.size + 1) 40 _ (0, 0) _ rfl (S.out.putB _ _ _).2.2 Tryz.underlying40 rfl (by kernel_rfl)) rfl ?_
            exact GG.out _ (S.out.putB _ _ _).1
          · have Z2 := hid (ZF.out fun c => hb (ID2.out.1 c))
            have hb2 : 1152921504606846976 < (Sc.nrm neg xs e).e := by omega
            clear ID ID2 IN NE
            generalize Sc.nrm neg xs e = N at *
            go_wp2_with fail
            (try simp only [Exit.inBlock, Exit.then])
            refine bodyPost_ret (results_row_tmp rfl _ _ (w.heap.size + 1) 40 _ (0, 0) _ rfl (S.out.putB _ _ _).2.2 Tryz.underlying40 rfl (by kernel_rfl)) rfl ?_
            exact Z2.out _ (S.out.putB _ _ _).1
    · have Z2 := hid (ZF.out fun c => h2 ⟨c.2.1, c.2.2.1⟩)
      rcases (show e < -1152921504606846976 ∨ (-1152921504606846976 ≤ e ∧ 1152921504606846976 < e) by omega) with he | ⟨he0, he⟩
      all_goals
        clear hs hn h1 ZF h2
        unfold decV
        go_enter Tryz.func57, Tryz.ntmps57
        go_wp2_with fail
        (try simp only [Exit.inBlock, Exit.then])
        refine bodyPost_ret (results_row_tmp rfl _ _ (w.heap.size + 1) 40 _ (0, 0) _ rfl (Two3.new w _ _ _ _ _ _).2.2 Tryz.underlying40 rfl (by kernel_rfl)) rfl ?_
        exact Z2.out _ (Two3.new w _ _ _ _ _ _).1
end Go.Proofs.YthgjflfeilbbbaaGreatDoor

namespace Go.Proofs.YthgjflfeilbbbaaGreatDoor
open Go Go.RowKit Go.Deep

def errOf (ds : List Int) (e : Int) : Int := if Sc.IsDec ds e then 0 else 80

def NormTold (neg : Bool) (xs : List Int) (e : Int) (w : World) (r : Ending) (w' : World) : Prop := ∃ v, r = .returned (.tuple #[v, .int .i64 (errOf xs e)]) ∧ DecIs v (nmd neg xs e) ∧ Below w.heap.size w w'

set_option maxRecDepth 100000 in
set_option maxHeartbeats 2000000 in
theorem norm_any (neg : Bool) (s : ByteArray) (xs : List Int) (e : Int) (w : World) (hs : Str s xs) (hn : xs.length ≤ 281474976710655) :
    Calls Tryz.prog 38 #[decV neg s e] w fun r w' => NormTold neg xs e w r w' := by
  have T := hid (fun wx => slim_any neg s xs e wx hs (by omega))
  have Z := hid (Two3.new w (.bool neg) (.string s) (.int .i64 e) (.bool false) (.string ⟨#[]⟩) (.int .i64 0))
  have LN : Hid ((nmd neg xs e).ds.length ≤ 281474976710656) := by
    show _ ≤ _
    unfold nmd
    split
    · exact nrm_ds_len _ _ _ (by omega)
    · simp
  clear hs hn
  unfold decV at T ⊢
  go_enter Tryz.func38, Tryz.ntmps38
  go_wp2_with fail
  refine (T.out _).mono ?_
  rintro r w1 ⟨v, rfl, ⟨t, hv, ht⟩, hB⟩
  unfold decV at hv
  subst hv
  have S := hid ((Z.out.on hB).putA (.bool (nmd neg xs e).neg) (.string t) (.int .i64 (nmd neg xs e).e))
  obtain ⟨⟨c0, c1, c2⟩, f0, f1, f2⟩ := (Z.out.on hB).2.1.cells
  have HT := hid ht
  have O := hid (fun wx => own_any (nmd neg xs e).neg t (nmd neg xs e).e wx (by rw [ht.size]; exact LN.out))
  unfold decV at O
  obtain ⟨d, hd⟩ : ∃ d, decide (Sc.IsDec xs e) = d := ⟨_, rfl⟩
  rw [hd]
  cases d with
  | true =>
    have E : Hid (errOf xs e = 0) := by show _ = _; unfold errOf; rw [if_pos (of_decide_eq_true hd)]
    have GG : Hid (∀ w', Below w.heap.size w w' → NormTold neg xs e w (.returned (.tuple #[.agg #[.bool (nmd neg xs e).neg, .string t, .int .i64 (nmd neg xs e).e], .int .i64 0])) w') := fun w' b => ⟨_, by rw [E.out]; rfl, ⟨t, rfl, HT.out⟩, b⟩
    obtain ⟨⟨d0, d1, d2⟩, g0, g1, g2⟩ := (Z.out.on hB).2.2.cells
    clear hB ht Z T hd E
    generalize nmd neg xs e = N at *
    go_wp2_with fail
    refine (O.out _).mono ?_
    rintro r w2 ⟨rfl, hB⟩
    have S2 := hid (S.out.on hB)
    clear c0 c1 c2 f0 f1 f2 d0 d1 d2 g0 g1 g2 hB
    obtain ⟨⟨d0, d1, d2⟩, g0, g1, g2⟩ := S2.out.2.2.cells
    go_wp2_with fail
    (try simp only [Exit.inBlock, Exit.then])
    refine bodyPost_ret (results_row_tmp rfl _ _ (w.heap.size + 1) 40 _ (0, 0) _ rfl (S2.out.putB _ _ _).2.2 Tryz.underlying40 rfl (by kernel_rfl)) rfl ?_
    exact GG.out _ (S2.out.putB _ _ _).1
  | false =>
    have hnd := of_decide_eq_false hd
    have E : Hid (errOf xs e = 80) := by show _ = _; unfold errOf; rw [if_neg hnd]
    have EN : Hid (nmd neg xs e = ⟨false, [], 0⟩) := by show _ = _; unfold nmd; rw [if_neg hnd]
    have GG : Hid (∀ w', Below w.heap.size w w' → NormTold neg xs e w (.returned (.tuple #[.agg #[.bool false, .string ⟨#[]⟩, .int .i64 0], .int .i64 80])) w') := fun w' b => ⟨_, by rw [E.out], by rw [EN.out]; exact ⟨_, rfl, str_nil0⟩, b⟩
    obtain ⟨⟨d0, d1, d2⟩, g0, g1, g2⟩ := (Z.out.on hB).2.2.cells
    clear hB ht Z T hd hnd O
    rw [EN.out] at S ⊢
    go_wp2_with fail
    (try simp only [Exit.inBlock, Exit.then])
    refine bodyPost_ret (results_row_tmp rfl _ _ (w.heap.size + 1) 40 _ (0, 0) _ rfl (S.out.putB _ _ _).2.2 Tryz.underlying40 rfl (by kernel_rfl)) rfl ?_
    exact GG.out _ (S.out.putB _ _ _).1
end Go.Proofs.YthgjflfeilbbbaaGreatDoor

/-
  ieee: Neg.
-/
namespace Go.Proofs.YthgjflfeilbbbaaGreatDoor
open Go Go.RowKit Go.Deep

set_option maxRecDepth 100000 in
theorem neg_any (d : Int) (w : World) (h0 : 0 ≤ d) (h1 : d < 18446744073709551616) :
    Calls Tryz.prog 17 #[.int .u64 d] w fun e w' => e = .returned (.int .u64 (Ie.ng d)) ∧ w' = w := by
  have B : bits .xor .u64 d 9223372036854775808 = Ie.ng d := Ib.sign_xor d h0 h1
  go_enter Tryz.func17, Tryz.ntmps17
  go_wp2
  go_ret
  exact ⟨rfl, rfl⟩
end Go.Proofs.YthgjflfeilbbbaaGreatDoor
