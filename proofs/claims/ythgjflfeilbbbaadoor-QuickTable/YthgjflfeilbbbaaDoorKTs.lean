/-
  Texts put together: KTable, KTableL.
-/
import Derived.Test.YthgjflfeilbbbaaDoorKAwake
import Derived.Test.YthgjflfeilbbbaaDoorWalk3
import Derived.Test.YthgjflfeilbbbaaDoorWalk5
namespace Go.Proofs.YthgjflfeilbbbaaDoor
open Go Go.RowKit Go.Deep

/-- A list that stands there, whatever memory is made: the number v, below 2^6400. -/
def Sd (w : World) (p : Option Addr) (n : Nat) (v : Int) : Prop := ∃ zs, Arg w p n n zs ∧ Nm.val zs = v ∧ v < 2 ^ 6400
theorem Sd.on {w w' : World} {p : Option Addr} {n : Nat} {v : Int} (h : Sd w p n v) (b : Below w.heap.size w w') : Sd w' p n v := by
  obtain ⟨zs, a, e, l⟩ := h
  exact ⟨zs, a.below b (Nat.le_refl _), e, l⟩
theorem small_pw {v : Int} (h : v < 2 ^ 6400) : v < Nm.pw 4096 := by
  have := two_pw (u := 6400) (by decide)
  generalize (2 : Int) ^ 6400 = x at *
  omega
theorem Sd.ts {w : World} {p : Option Addr} {n : Nat} {zs : List Int} {v : Int} (a : Arg w p n n zs) (e : Nm.val zs = v) (l : v < 2 ^ 6400) : Nm.tsize zs ≤ 4096 :=
  (Nm.tsize_le_iff a.2.2.2.2 4096).2 (by rw [e]; exact small_pw l)
theorem Sd.nn {w : World} {p : Option Addr} {n : Nat} {v : Int} (h : Sd w p n v) : 0 ≤ v := by
  obtain ⟨zs, a, e, l⟩ := h
  rw [← e]; exact (Nm.val_bd zs a.2.2.2.2).1
def SdTold (v : Int) (w : World) (e : Ending) (w' : World) : Prop := ∃ r n, e = .returned (.tuple #[.slice r n n, .int .i64 0]) ∧ Sd w' r n v ∧ Below w.heap.size w w'
theorem Ans.sd {B : Nat} {w : World} {r : Option Addr} {os : List Int} {v : Int} (h : Ans B w r os v) (l : v < 2 ^ 6400) : Sd w r os.length v := ⟨os, h.argT (small_pw l), h.2.2.2.1, l⟩

theorem sd_add {w : World} {p q : Option Addr} {n m : Nat} {a b : Int} (ha : Sd w p n a) (hb : Sd w q m b) (l : a + b < 2 ^ 6400) :
    Calls Tryd.prog 7 #[.slice p n n, .slice q m m] w fun e w' => SdTold (a + b) w e w' := by
  obtain ⟨zs, a1, e1, l1⟩ := ha
  obtain ⟨ys, a2, e2, l2⟩ := hb
  refine (add_ok p q n n m m zs ys w a1 a2 (by rw [e1, e2]; exact small_pw l)).mono ?_
  rintro e w' ⟨r, os, rfl, A, B⟩
  rw [e1, e2] at A
  exact ⟨r, _, rfl, A.sd l, B⟩
theorem sd_mul {w : World} {p q : Option Addr} {n m : Nat} {a b : Int} (ha : Sd w p n a) (hb : Sd w q m b) (l : a * b < 2 ^ 6400) :
    Calls Tryd.prog 9 #[.slice p n n, .slice q m m] w fun e w' => SdTold (a * b) w e w' := by
  obtain ⟨zs, a1, e1, l1⟩ := ha
  obtain ⟨ys, a2, e2, l2⟩ := hb
  refine (mul_ok p q n n m m zs ys w a1 a2 (Sd.ts a1 e1 l1) (Sd.ts a2 e2 l2) (by rw [e1, e2]; exact small_pw l)).mono ?_
  rintro e w' ⟨r, os, rfl, A, B⟩
  rw [e1, e2] at A
  exact ⟨r, _, rfl, A.sd l, B⟩
theorem sd_shl {w : World} {p : Option Addr} {n : Nat} {a : Int} (ha : Sd w p n a) (a0 : 0 < a) (kk : Int) (k : Nat) (hk : kk = (k : Int)) (l : a * 2 ^ k < 2 ^ 6400) :
    Calls Tryd.prog 10 #[.slice p n n, .int .i64 kk] w fun e w' => SdTold (a * 2 ^ k) w e w' := by
  obtain ⟨zs, a1, e1, l1⟩ := ha
  obtain ⟨L, hL, BL, _, _⟩ := blen_is (Nm.trim zs) a1.2.2.2.2.trim
  rw [Nm.val_trim, e1] at BL
  have tz : 0 < Nm.tsize zs := by
    rcases Nat.eq_zero_or_pos (Nm.tsize zs) with g | g
    · have := (Nm.tsize_zero_iff a1.2.2.2.2).1 g; omega
    · exact g
  have hb := BL.2.2 a0
  have hlk : L - 1 + k < 6400 := by
    have g : (2 : Int) ^ (L - 1) * 2 ^ k ≤ a * 2 ^ k := Int.mul_le_mul_of_nonneg_right hb.2 (by have := Nm.two_pos k; omega)
    rw [← Nm.two_add] at g
    exact Ie.two_lt_of (Int.lt_of_le_of_lt g l)
  refine (shl_ok p n n zs kk k L w a1 (Sd.ts a1 e1 l1) hk tz hL (by omega)).mono ?_
  rintro e w' ⟨r, os, rfl, A, B⟩
  rw [e1] at A
  exact ⟨r, _, rfl, A.sd l, B⟩
theorem sd_cmp {w : World} {p q : Option Addr} {n m : Nat} {a b : Int} (ha : Sd w p n a) (hb : Sd w q m b) :
    Calls Tryd.prog 11 #[.slice p n n, .slice q m m] w fun e w' => e = .returned (.int .i64 (cmpI a b)) ∧ Below w.heap.size w w' := by
  obtain ⟨zs, a1, e1, l1⟩ := ha
  obtain ⟨ys, a2, e2, l2⟩ := hb
  have h := cmp_any p q n n m m zs ys w a1 a2
  rw [e1, e2] at h
  exact h
theorem five_small {n : Nat} (h : n ≤ 342) : (5 : Int) ^ n < 2 ^ 800 := by
  have g := Ie.five_le h
  have k : (5 : Int) ^ 342 < 2 ^ 800 := by decide +kernel
  generalize (2 : Int) ^ 800 = x at *
  omega
theorem sd_pow5 (w : World) (k : Int) (n : Nat) (hk : k = (n : Int)) (h : n ≤ 342) :
    Calls Tryd.prog 8 #[.int .i64 k] w fun e w' => SdTold (5 ^ n) w e w' := by
  refine (pow5_gives k n w hk (by omega)).mono ?_
  rintro e w' ⟨⟨_, r, os, rfl, A⟩ | ⟨g, _⟩, B⟩
  · exact ⟨r, _, rfl, A.sd (Int.lt_trans (five_small h) (by have := Nm.two_mono (show 801 ≤ 6400 by omega); rw [Int.pow_succ] at this; have := Nm.two_pos 800; generalize (2 : Int) ^ 800 = x at *; generalize (2 : Int) ^ 6400 = y at *; omega)), B⟩
  · exact absurd (five_pw h) (Int.not_lt.2 g)
theorem sd_lit {w : World} {g : Nat} {x : Int} (h : w.heap[g]? = some (.cells #[.int .u64 x] 23 (0, 0))) (h0 : 0 ≤ x) (h1 : x < 18446744073709551616) : Sd w (some ⟨g, 0, none⟩) 1 x := by
  refine ⟨[x], arg_lit9 h h0 h1, by simp [Nm.val], ?_⟩
  have := Nm.two_mono (show 64 ≤ 6400 by omega)
  have e64 : (2 : Int) ^ 64 = 18446744073709551616 := by decide
  generalize (2 : Int) ^ 6400 = y at *
  omega
theorem sd_lit2 {w : World} {g : Nat} {x y : Int} (h : w.heap[g]? = some (.cells #[.int .u64 x, .int .u64 y] 23 (0, 0))) (hx : Bd x) (hy : Bd y) : Sd w (some ⟨g, 0, none⟩) 2 (n2 x y) := by
  refine ⟨[x, y], ⟨rfl, Nat.le_refl _, by omega, .inr ⟨g, 0, rfl, fun i hi => ?_⟩, Nm.Limbs.mk hx.1 hx.2 (Nm.Limbs.mk hy.1 hy.2 Nm.Limbs.nil)⟩, n2_val x y, ?_⟩
  · rcases (show i = 0 ∨ i = 1 by simp at hi; omega) with rfl | rfl <;> simp [World.cell?, h]
  · have := Nm.two_mono (show 128 ≤ 6400 by omega)
    have e := Ie.e128
    unfold Bd n2 at *
    generalize (2 : Int) ^ 6400 = y at *
    omega
end Go.Proofs.YthgjflfeilbbbaaDoor

namespace Go.Proofs.YthgjflfeilbbbaaDoor
open Go Go.RowKit Go.Deep

theorem bnd {x y : Int} {k : Nat} (_x0 : 0 ≤ x) (x1 : x ≤ 2 ^ 128) (y0 : 0 ≤ y) (y1 : y ≤ 2 ^ 800) (hk : k ≤ 1000) : x * y * 2 ^ k < 2 ^ 6400 := by
  have g1 : x * y ≤ 2 ^ 128 * 2 ^ 800 := Int.mul_le_mul x1 y1 y0 (by have := Nm.two_pos 128; generalize (2 : Int) ^ 128 = z at *; omega)
  have g2 : x * y * 2 ^ k ≤ 2 ^ 128 * 2 ^ 800 * 2 ^ k := Int.mul_le_mul_of_nonneg_right g1 (by have := Nm.two_pos k; omega)
  rw [← Nm.two_add, ← Nm.two_add] at g2
  have g3 := Nm.two_mono (show 128 + 800 + k + 1 ≤ 6400 by omega)
  rw [Int.pow_succ] at g3
  have := Nm.two_pos (128 + 800 + k)
  generalize (2 : Int) ^ (128 + 800 + k) = a at *
  generalize (2 : Int) ^ 6400 = b at *
  omega
theorem bnd2 {y : Int} {k : Nat} (y0 : 0 ≤ y) (y1 : y ≤ 2 ^ 800) (hk : k ≤ 1000) : y * 2 ^ k < 2 ^ 6400 := by
  have h := bnd (x := 1) (by omega) (by have := Nm.two_pos 128; generalize (2 : Int) ^ 128 = z at *; omega) y0 y1 hk
  rw [Int.one_mul] at h
  exact h

theorem rowE_neg {q : Int} (h : q < 0) : Ie.rowE q < 0 := by rw [Ie.rowE, if_neg (by omega)]; omega

set_option maxRecDepth 100000 in
set_option maxHeartbeats 4000000 in
theorem table_law (q : Int) (w : World) (hT : Tab w) (hX : Tens w) :
    Calls Tryd.prog 3 #[.int .i64 q] w fun e w' => e = .returned (.bool true) ∧ Below w.heap.size w w' := by
  have AW := hid (awake_any9 w hT hX)
  have PW := hid (fun wx (b : Below w.heap.size w wx) => power_any9 q wx (hT.below b))
  clear hT hX
  go_enter Tryd.func3, Tryd.ntmps3
  go_wp2_with fail
  with_reducible refine AW.out.mono ?_
  rintro e w1 ⟨rfl, hB1⟩
  go_wp2_with fail
  with_reducible refine (PW.out _ hB1).mono ?_
  rintro e w2 ⟨hp, hB2⟩
  have B2 := hid (below_on hB1 hB2)
  clear hB1 hB2 AW PW
  rcases hp with ⟨hq, rfl⟩ | ⟨q0, q1, rfl⟩
  · rcases hq with hq | hq
    · go_wp2_with fail
      go_ret
      exact ⟨rfl, B2.out⟩
    · go_wp2_with fail
      go_ret
      exact ⟨rfl, B2.out⟩
  have r := Ie.row_is q0 q1
  have RI := hid r
  have bs := bd_split (P := Ie.rowP q) (by have := r.lo; omega) r.hi
  have BS := hid bs
  have NS := hid (n2_split (Ie.rowP q))
  have eb := r.eb
  have hh : 9223372036854775808 ≤ hi64 (Ie.rowP q) := by have := r.lo; unfold hi64; omega
  have EN := hid (fun (h : q < 0) => rowE_neg h)
  have PB : Hid (0 ≤ Ie.rowP q ∧ 0 ≤ Ie.rowP q + 1 ∧ Ie.rowP q ≤ 2 ^ 128 ∧ Ie.rowP q + 1 ≤ 2 ^ 128 ∧ 0 < Ie.rowP q) := by
    have := r.lo; have := r.hi; rw [Hid, Ie.e128]; omega
  have b0 := bs.2.1
  have b1 := bs.2.2
  clear r bs
  generalize lo64 (Ie.rowP q) = x at *
  generalize hi64 (Ie.rowP q) = y at *
  generalize Ie.rowE q = ee at *
  generalize Ie.rowP q = P at *
  go_upto_region 10 with fail
  have A1 := hid (alloc_b w2 (.cells #[.int .u64 x, .int .u64 y] 23))
  have L1 : Hid (Sd (w2.alloc (.cells #[.int .u64 x, .int .u64 y] 23)) (some ⟨w2.heap.size, 0, none⟩) 2 P) := by
    have h := sd_lit2 (heap_alloc_new w2 (.cells #[.int .u64 x, .int .u64 y] 23)) BS.out.1 BS.out.2
    rw [NS.out] at h
    exact h
  have W1 := hid (below_on B2.out A1.out)
  clear A1
  generalize (w2.alloc (.cells #[.int .u64 x, .int .u64 y] 23)) = w3 at *
  have O1 : Hid (Sd (w3.alloc (.cells #[.int .u64 1] 23)) (some ⟨w3.heap.size, 0, none⟩) 1 1) := sd_lit (heap_alloc_new w3 _) (by omega) (by omega)
  have L2 := hid (L1.out.on (alloc_b w3 (.cells #[.int .u64 1] 23)))
  have W2 := hid (below_on W1.out (alloc_b w3 (.cells #[.int .u64 1] 23)))
  have AD := hid (sd_add L2.out O1.out (by have := bnd2 (k := 0) PB.out.2.1 (Int.le_trans PB.out.2.2.2.1 (Nm.two_mono (by omega))) (by omega); rw [Int.pow_zero, Int.mul_one] at this; exact this))
  clear O1 L1 W1 B2
  go_wp2_with fail
  with_reducible refine AD.out.mono ?_
  rintro e w4 ⟨r4, n4, rfl, N4, hB4⟩
  have L4 := hid (L2.out.on hB4)
  have W4 := hid (below_on W2.out hB4)
  have M4 := hid N4
  clear L2 W2 N4 hB4 AD
  go_upto_region 12 with fail
  have R5 : Hid (Sd (w4.alloc (.cells #[.int .u64 1] 23)) (some ⟨w4.heap.size, 0, none⟩) 1 1) := sd_lit (heap_alloc_new w4 _) (by omega) (by omega)
  have L5 := hid (L4.out.on (alloc_b w4 (.cells #[.int .u64 1] 23)))
  have M5 := hid (M4.out.on (alloc_b w4 (.cells #[.int .u64 1] 23)))
  have W5 := hid (below_on W4.out (alloc_b w4 (.cells #[.int .u64 1] 23)))
  clear L4 M4 W4
  generalize (w4.alloc (.cells #[.int .u64 1] 23)) = w5 at *
  by_cases hq : 0 ≤ q
  · obtain ⟨m, hm⟩ := Int.eq_ofNat_of_zero_le hq
    have P5 := hid (sd_pow5 w5 q m hm (by omega))
    have F5 := hid (And.intro (Int.le_of_lt (Ie.five_pos m)) (Int.le_of_lt (five_small (show m ≤ 342 by omega))))
    have T1 : Hid (q.toNat = m ∧ (-q).toNat = 0) := ⟨by omega, by omega⟩
    clear hm
    go_wp2_with fail
    with_reducible refine P5.out.mono ?_
    rintro e w6 ⟨r6, n6, rfl, R6x, hB⟩
    have R6 := hid R6x
    have L6 := hid (L5.out.on hB)
    have M6 := hid (M5.out.on hB)
    have W6 := hid (below_on W5.out hB)
    clear hB R6x P5 R5 L5 M5 W5
    by_cases he : 0 ≤ ee
    · obtain ⟨a, ha⟩ := Int.eq_ofNat_of_zero_le he
      have T2 : Hid (ee.toNat = a ∧ (-ee).toNat = 0) := ⟨by omega, by omega⟩
      have S1 := hid (sd_shl L6.out PB.out.2.2.2.2 ee a ha (bnd2 PB.out.1 (Int.le_trans PB.out.2.2.1 (Nm.two_mono (by omega))) (by omega)))
      have HA := hid ha
      clear ha
      go_wp2_with fail
      with_reducible refine S1.out.mono ?_
      rintro e w7 ⟨r7, n7, rfl, L7x, hB⟩
      have L7 := hid L7x
      have M7 := hid (M6.out.on hB)
      have R7 := hid (R6.out.on hB)
      have W7 := hid (below_on W6.out hB)
      clear hB L7x S1 L6 M6 R6 W6
      have S2 := hid (sd_shl M7.out (by have := PB.out.2.2.2.2; omega) ee a HA.out (bnd2 PB.out.2.1 (Int.le_trans PB.out.2.2.2.1 (Nm.two_mono (by omega))) (by have := HA.out; omega)))
      go_wp2_with fail
      with_reducible refine S2.out.mono ?_
      rintro e w8 ⟨r8, n8, rfl, M8x, hB⟩
      have M8 := hid M8x
      have L8 := hid (L7.out.on hB)
      have R8 := hid (R7.out.on hB)
      have W8 := hid (below_on W7.out hB)
      clear hB M8x S2 L7 M7 R7 W7
      have Q1 : Hid (q ≤ 55 → P * 2 ^ a = 5 ^ m) := fun g => by have h := RI.out.eq hq g; rw [T1.out.1, T1.out.2, T2.out.1, T2.out.2] at h; simpa using h
      have Q2 : Hid (¬ q ≤ 55 → P * 2 ^ a < 5 ^ m) := fun g => by have h := RI.out.ne (.inr (by omega)); have k := RI.out.le; rw [T1.out.1, T1.out.2, T2.out.1, T2.out.2] at h k; simp only [Int.pow_zero, Int.mul_one] at h k; omega
      have Q3 : Hid (5 ^ m < (P + 1) * 2 ^ a) := by have k := RI.out.lt; rw [T1.out.1, T1.out.2, T2.out.1, T2.out.2] at k; simp only [Int.pow_zero, Int.mul_one] at k; exact k
      have CM := hid (sd_cmp L8.out R8.out)
      by_cases h55 : q ≤ 55
      · have E : cmpI (P * 2 ^ a) (5 ^ m) = 0 := cmpI_eq (Q1.out h55)
        rw [E] at CM
        clear E RI
        go_wp2_with fail
        with_reducible refine CM.out.mono ?_
        rintro e w9 ⟨rfl, hB9⟩
        have F := hid (below_on W8.out hB9)
        clear hB9 CM
        go_wp2_with fail
        go_ret
        exact ⟨rfl, F.out⟩
      · have hz : 0 = 0 := rfl
        have E : cmpI (P * 2 ^ a) (5 ^ m) = -1 := cmpI_lt (Q2.out h55)
        have E2 : cmpI (5 ^ m) ((P + 1) * 2 ^ a) = -1 := cmpI_lt (Q3.out)
        rw [E] at CM
        clear E RI
        go_wp2_with fail
        with_reducible refine CM.out.mono ?_
        rintro e w9 ⟨rfl, hB9⟩
        have C2 := hid (sd_cmp (R8.out.on hB9) (M8.out.on hB9))
        rw [E2] at C2
        have F := hid (below_on W8.out hB9)
        clear hB9 CM E2
        go_wp2_with fail
        with_reducible refine C2.out.mono ?_
        rintro e wa ⟨rfl, hBa⟩
        have G := hid (below_on F.out hBa)
        clear hBa C2
        go_wp2_with fail
        go_ret
        exact ⟨rfl, G.out⟩
    · obtain ⟨a, ha⟩ := Int.eq_ofNat_of_zero_le (show 0 ≤ -ee by omega)
      have T2 : Hid (ee.toNat = 0 ∧ (-ee).toNat = a) := ⟨by omega, by omega⟩
      have S1 := hid (sd_shl R6.out (Ie.five_pos m) (-ee) a ha (bnd2 F5.out.1 F5.out.2 (by omega)))
      clear ha
      go_wp2_with fail
      with_reducible refine S1.out.mono ?_
      rintro e w7 ⟨r7, n7, rfl, R7x, hB⟩
      have R7 := hid R7x
      have M7 := hid (M6.out.on hB)
      have L7 := hid (L6.out.on hB)
      have W7 := hid (below_on W6.out hB)
      clear hB R7x S1 L6 M6 R6 W6
      have Q1 : Hid (q ≤ 55 → P = 5 ^ m * 2 ^ a) := fun g => by have h := RI.out.eq hq g; rw [T1.out.1, T1.out.2, T2.out.1, T2.out.2] at h; simpa using h
      have Q2 : Hid (¬ q ≤ 55 → P < 5 ^ m * 2 ^ a) := fun g => by have h := RI.out.ne (.inr (by omega)); have k := RI.out.le; rw [T1.out.1, T1.out.2, T2.out.1, T2.out.2] at h k; simp only [Int.pow_zero, Int.mul_one] at h k; omega
      have Q3 : Hid (5 ^ m * 2 ^ a < P + 1) := by have k := RI.out.lt; rw [T1.out.1, T1.out.2, T2.out.1, T2.out.2] at k; simp only [Int.pow_zero, Int.mul_one] at k; exact k
      have CM := hid (sd_cmp L7.out R7.out)
      by_cases h55 : q ≤ 55
      · have E : cmpI (P) (5 ^ m * 2 ^ a) = 0 := cmpI_eq (Q1.out h55)
        rw [E] at CM
        clear E RI
        go_wp2_with fail
        with_reducible refine CM.out.mono ?_
        rintro e w9 ⟨rfl, hB9⟩
        have F := hid (below_on W7.out hB9)
        clear hB9 CM
        go_wp2_with fail
        go_ret
        exact ⟨rfl, F.out⟩
      · have hz : 0 = 0 := rfl
        have E : cmpI (P) (5 ^ m * 2 ^ a) = -1 := cmpI_lt (Q2.out h55)
        have E2 : cmpI (5 ^ m * 2 ^ a) (P + 1) = -1 := cmpI_lt (Q3.out)
        rw [E] at CM
        clear E RI
        go_wp2_with fail
        with_reducible refine CM.out.mono ?_
        rintro e w9 ⟨rfl, hB9⟩
        have C2 := hid (sd_cmp (R7.out.on hB9) (M7.out.on hB9))
        rw [E2] at C2
        have F := hid (below_on W7.out hB9)
        clear hB9 CM E2
        go_wp2_with fail
        with_reducible refine C2.out.mono ?_
        rintro e wa ⟨rfl, hBa⟩
        have G := hid (below_on F.out hBa)
        clear hBa C2
        go_wp2_with fail
        go_ret
        exact ⟨rfl, G.out⟩
  · obtain ⟨m, hm⟩ := Int.eq_ofNat_of_zero_le (show 0 ≤ -q by omega)
    have P5 := hid (sd_pow5 w5 (-q) m hm (by omega))
    have F5 := hid (And.intro (Int.le_of_lt (Ie.five_pos m)) (Int.le_of_lt (five_small (show m ≤ 342 by omega))))
    have T1 : Hid (q.toNat = 0 ∧ (-q).toNat = m) := ⟨by omega, by omega⟩
    have he : ee < 0 := EN.out (by omega)
    clear hm
    go_wp2_with fail
    with_reducible refine P5.out.mono ?_
    rintro e w6 ⟨r6, n6, rfl, X6x, hB⟩
    have X6 := hid X6x
    have L6 := hid (L5.out.on hB)
    have M6 := hid (M5.out.on hB)
    have R6 := hid (R5.out.on hB)
    have W6 := hid (below_on W5.out hB)
    clear hB X6x P5 R5 L5 M5 W5
    have S1 := hid (sd_mul L6.out X6.out (by have := bnd (k := 0) PB.out.1 PB.out.2.2.1 F5.out.1 F5.out.2 (by omega); rw [Int.pow_zero, Int.mul_one] at this; exact this))
    go_wp2_with fail
    with_reducible refine S1.out.mono ?_
    rintro e w7 ⟨r7, n7, rfl, L7x, hB⟩
    have L7 := hid L7x
    have M7 := hid (M6.out.on hB)
    have R7 := hid (R6.out.on hB)
    have X7 := hid (X6.out.on hB)
    have W7 := hid (below_on W6.out hB)
    clear hB L7x S1 L6 M6 R6 X6 W6
    have S2 := hid (sd_mul M7.out X7.out (by have := bnd (k := 0) PB.out.2.1 PB.out.2.2.2.1 F5.out.1 F5.out.2 (by omega); rw [Int.pow_zero, Int.mul_one] at this; exact this))
    go_wp2_with fail
    with_reducible refine S2.out.mono ?_
    rintro e w8 ⟨r8, n8, rfl, M8x, hB⟩
    have M8 := hid M8x
    have L8 := hid (L7.out.on hB)
    have R8 := hid (R7.out.on hB)
    have W8 := hid (below_on W7.out hB)
    clear hB M8x S2 L7 M7 R7 X7 W7
    obtain ⟨a, ha⟩ := Int.eq_ofNat_of_zero_le (show 0 ≤ -ee by omega)
    have T2 : Hid (ee.toNat = 0 ∧ (-ee).toNat = a) := ⟨by omega, by omega⟩
    have S3 := hid (sd_shl R8.out (by omega) (-ee) a ha (bnd2 (by omega) (by have := Nm.two_pos 800; generalize (2 : Int) ^ 800 = z at *; omega) (by omega)))
    rw [Int.one_mul] at S3
    clear ha
    go_wp2_with fail
    with_reducible refine S3.out.mono ?_
    rintro e wb ⟨rb, nb, rfl, Rbx, hB⟩
    have Rb := hid Rbx
    have Lb := hid (L8.out.on hB)
    have Mb := hid (M8.out.on hB)
    have Wb := hid (below_on W8.out hB)
    clear hB Rbx S3 L8 M8 R8 W8
    have Q2 : Hid (P * 5 ^ m < 2 ^ a) := by have h := RI.out.ne (.inl (by omega)); have k := RI.out.le; rw [T1.out.1, T1.out.2, T2.out.1, T2.out.2] at h k; simp only [Int.pow_zero, Int.mul_one, Int.one_mul] at h k; rw [Hid]; omega
    have Q3 : Hid (2 ^ a < (P + 1) * 5 ^ m) := by have k := RI.out.lt; rw [T1.out.1, T1.out.2, T2.out.1, T2.out.2] at k; simp only [Int.pow_zero, Int.mul_one, Int.one_mul] at k; exact k
    have CM := hid (sd_cmp Lb.out Rb.out)
    by_cases h55 : q ≤ 55
    · have hz : 0 = 0 := rfl
      have E : cmpI (P * 5 ^ m) (2 ^ a) = -1 := cmpI_lt (Q2.out)
      have E2 : cmpI (2 ^ a) ((P + 1) * 5 ^ m) = -1 := cmpI_lt (Q3.out)
      rw [E] at CM
      clear E RI
      go_wp2_with fail
      with_reducible refine CM.out.mono ?_
      rintro e w9 ⟨rfl, hB9⟩
      have C2 := hid (sd_cmp (Rb.out.on hB9) (Mb.out.on hB9))
      rw [E2] at C2
      have F := hid (below_on Wb.out hB9)
      clear hB9 CM E2
      go_wp2_with fail
      with_reducible refine C2.out.mono ?_
      rintro e wa ⟨rfl, hBa⟩
      have G := hid (below_on F.out hBa)
      clear hBa C2
      go_wp2_with fail
      go_ret
      exact ⟨rfl, G.out⟩
    · exact absurd (show q ≤ 55 by omega) h55
end Go.Proofs.YthgjflfeilbbbaaDoor
