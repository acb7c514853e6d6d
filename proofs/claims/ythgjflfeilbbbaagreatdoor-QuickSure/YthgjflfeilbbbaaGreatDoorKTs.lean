/-
  Texts put together: KTable, KSure.
-/
import Derived.Test.YthgjflfeilbbbaaGreatDoorKAwake
import Derived.Test.YthgjflfeilbbbaaGreatDoorWalk3
import Derived.Test.YthgjflfeilbbbaaGreatDoorWalk5
import Derived.Test.YthgjflfeilbbbaaGreatDoorMulAddW
namespace Go.Proofs.YthgjflfeilbbbaaGreatDoor
open Go Go.RowKit Go.Deep

/-- A list that stands there, whatever memory is made: the number v, below 2^6400. -/
def Sd (w : World) (p : Option Addr) (n : Nat) (v : Int) : Prop := ∃ zs, Arg w p n n zs ∧ Nm.val zs = v ∧ v < 2 ^ 6400
theorem Sd.on {w w' : World} {p : Option Addr} {n : Nat} {v : Int} (h : Sd w p n v) (b : Below w.heap.size w w') : Sd w' p n v := by
  obtain ⟨zs, a, e, l⟩ := h
  exact ⟨zs, a.below b (Nat.le_refl _), e, l⟩
theorem small_pw {v : Int} (h : v < 2 ^ 6400) : v < Nm.pw 4096 := by
  have := two_pw (u := 6400) (by decide)
  generalize (2 : Int) ^ 6400 = x at *
  omega
theorem Sd.ts {w : World} {p : Option Addr} {n : Nat} {zs : List Int} {v : Int} (a : Arg w p n n zs) (e : Nm.val zs = v) (l : v < 2 ^ 6400) : Nm.tsize zs ≤ 4096 :=
  (Nm.tsize_le_iff a.2.2.2.2 4096).2 (by rw [e]; exact small_pw l)
theorem Sd.nn {w : World} {p : Option Addr} {n : Nat} {v : Int} (h : Sd w p n v) : 0 ≤ v := by
  obtain ⟨zs, a, e, l⟩ := h
  rw [← e]; exact (Nm.val_bd zs a.2.2.2.2).1
def SdTold (v : Int) (w : World) (e : Ending) (w' : World) : Prop := ∃ r n, e = .returned (.tuple #[.slice r n n, .int .i64 0]) ∧ Sd w' r n v ∧ Below w.heap.size w w'
theorem Ans.sd {B : Nat} {w : World} {r : Option Addr} {os : List Int} {v : Int} (h : Ans B w r os v) (l : v < 2 ^ 6400) : Sd w r os.length v := ⟨os, h.argT (small_pw l), h.2.2.2.1, l⟩

theorem sd_add {w : World} {p q : Option Addr} {n m : Nat} {a b : Int} (ha : Sd w p n a) (hb : Sd w q m b) (l : a + b < 2 ^ 6400) :
    Calls Tryz.prog 11 #[.slice p n n, .slice q m m] w fun e w' => SdTold (a + b) w e w' := by
  obtain ⟨zs, a1, e1, l1⟩ := ha
  obtain ⟨ys, a2, e2, l2⟩ := hb
  refine (add_ok p q n n m m zs ys w a1 a2 (by rw [e1, e2]; exact small_pw l)).mono ?_
  rintro e w' ⟨r, os, rfl, A, B⟩
  rw [e1, e2] at A
  exact ⟨r, _, rfl, A.sd l, B⟩
theorem sd_mul {w : World} {p q : Option Addr} {n m : Nat} {a b : Int} (ha : Sd w p n a) (hb : Sd w q m b) (l : a * b < 2 ^ 6400) :
    Calls Tryz.prog 42 #[.slice p n n, .slice q m m] w fun e w' => SdTold (a * b) w e w' := by
  obtain ⟨zs, a1, e1, l1⟩ := ha
  obtain ⟨ys, a2, e2, l2⟩ := hb
  refine (mul_ok p q n n m m zs ys w a1 a2 (Sd.ts a1 e1 l1) (Sd.ts a2 e2 l2) (by rw [e1, e2]; exact small_pw l)).mono ?_
  rintro e w' ⟨r, os, rfl, A, B⟩
  rw [e1, e2] at A
  exact ⟨r, _, rfl, A.sd l, B⟩
theorem sd_shl {w : World} {p : Option Addr} {n : Nat} {a : Int} (ha : Sd w p n a) (a0 : 0 < a) (kk : Int) (k : Nat) (hk : kk = (k : Int)) (l : a * 2 ^ k < 2 ^ 6400) :
    Calls Tryz.prog 50 #[.slice p n n, .int .i64 kk] w fun e w' => SdTold (a * 2 ^ k) w e w' := by
  obtain ⟨zs, a1, e1, l1⟩ := ha
  obtain ⟨L, hL, BL, _, _⟩ := blen_is (Nm.trim zs) a1.2.2.2.2.trim
  rw [Nm.val_trim, e1] at BL
  have tz : 0 < Nm.tsize zs := by
    rcases Nat.eq_zero_or_pos (Nm.tsize zs) with g | g
    · have := (Nm.tsize_zero_iff a1.2.2.2.2).1 g; omega
    · exact g
  have hb := BL.2.2 a0
  have hlk : L - 1 + k < 6400 := by
    have g : (2 : Int) ^ (L - 1) * 2 ^ k ≤ a * 2 ^ k := Int.mul_le_mul_of_nonneg_right hb.2 (by have := Nm.two_pos k; omega)
    rw [← Nm.two_add] at g
    exact Ie.two_lt_of (Int.lt_of_le_of_lt g l)
  refine (shl_ok p n n zs kk k L w a1 (Sd.ts a1 e1 l1) hk tz hL (by omega)).mono ?_
  rintro e w' ⟨r, os, rfl, A, B⟩
  rw [e1] at A
  exact ⟨r, _, rfl, A.sd l, B⟩
theorem sd_cmp {w : World} {p q : Option Addr} {n m : Nat} {a b : Int} (ha : Sd w p n a) (hb : Sd w q m b) :
    Calls Tryz.prog 105 #[.slice p n n, .slice q m m] w fun e w' => e = .returned (.int .i64 (cmpI a b)) ∧ Below w.heap.size w w' := by
  obtain ⟨zs, a1, e1, l1⟩ := ha
  obtain ⟨ys, a2, e2, l2⟩ := hb
  have h := cmp_any p q n n m m zs ys w a1 a2
  rw [e1, e2] at h
  exact h
theorem five_small {n : Nat} (h : n ≤ 342) : (5 : Int) ^ n < 2 ^ 800 := by
  have g := Ie.five_le h
  have k : (5 : Int) ^ 342 < 2 ^ 800 := by decide +kernel
  generalize (2 : Int) ^ 800 = x at *
  omega
theorem sd_pow5 (w : World) (k : Int) (n : Nat) (hk : k = (n : Int)) (h : n ≤ 342) :
    Calls Tryz.prog 49 #[.int .i64 k] w fun e w' => SdTold (5 ^ n) w e w' := by
  refine (pow5_gives k n w hk (by omega)).mono ?_
  rintro e w' ⟨⟨_, r, os, rfl, A⟩ | ⟨g, _⟩, B⟩
  · exact ⟨r, _, rfl, A.sd (Int.lt_trans (five_small h) (by have := Nm.two_mono (show 801 ≤ 6400 by omega); rw [Int.pow_succ] at this; have := Nm.two_pos 800; generalize (2 : Int) ^ 800 = x at *; generalize (2 : Int) ^ 6400 = y at *; omega)), B⟩
  · exact absurd (five_pw h) (Int.not_lt.2 g)
theorem sd_lit {w : World} {g : Nat} {x : Int} (h : w.heap[g]? = some (.cells #[.int .u64 x] 25 (0, 0))) (h0 : 0 ≤ x) (h1 : x < 18446744073709551616) : Sd w (some ⟨g, 0, none⟩) 1 x := by
  refine ⟨[x], arg_lit9 h h0 h1, by simp [Nm.val], ?_⟩
  have := Nm.two_mono (show 64 ≤ 6400 by omega)
  have e64 : (2 : Int) ^ 64 = 18446744073709551616 := by decide
  generalize (2 : Int) ^ 6400 = y at *
  omega
theorem sd_lit2 {w : World} {g : Nat} {x y : Int} (h : w.heap[g]? = some (.cells #[.int .u64 x, .int .u64 y] 25 (0, 0))) (hx : Bd x) (hy : Bd y) : Sd w (some ⟨g, 0, none⟩) 2 (n2 x y) := by
  refine ⟨[x, y], ⟨rfl, Nat.le_refl _, by omega, .inr ⟨g, 0, rfl, fun i hi => ?_⟩, Nm.Limbs.mk hx.1 hx.2 (Nm.Limbs.mk hy.1 hy.2 Nm.Limbs.nil)⟩, n2_val x y, ?_⟩
  · rcases (show i = 0 ∨ i = 1 by simp at hi; omega) with rfl | rfl <;> simp [World.cell?, h]
  · have := Nm.two_mono (show 128 ≤ 6400 by omega)
    have e := Ie.e128
    unfold Bd n2 at *
    generalize (2 : Int) ^ 6400 = y at *
    omega
end Go.Proofs.YthgjflfeilbbbaaGreatDoor

namespace Go.Proofs.YthgjflfeilbbbaaGreatDoor
open Go Go.RowKit Go.Deep

theorem sd_round {w : World} {p : Option Addr} {n : Nat} {a : Int} (hT : Tab w) (ha : Sd w p n a) (e : Int) :
    Calls Tryz.prog 12 #[.bool false, .slice p n n, .int .i64 e, .bool false] w fun r w' => ∃ x, r = .returned (.tuple #[.int .u64 x, .int .i64 0]) ∧ Ie.Rnd a 1 e false x ∧ Below w.heap.size w w' := by
  obtain ⟨zs, a1, e1, l1⟩ := ha
  exact round_any false p n n zs w a1 hT (Sd.ts a1 e1 l1) a e false e1
theorem sd_mulAdd {w : World} {p : Option Addr} {n : Nat} {a : Int} (ha : Sd w p n a) (v : Int) (hv : Bd v) (l : v * a < 2 ^ 6400) :
    Calls Tryz.prog 10 #[.slice p n n, .int .u64 v, .int .u64 0] w fun r w' => SdTold (v * a) w r w' := by
  obtain ⟨zs, a1, e1, l1⟩ := ha
  refine (mulAdd_any p n n zs v 0 w a1 (Sd.ts a1 e1 l1) hv.1 hv.2 (by omega) (by omega)).mono ?_
  rintro e w' ⟨h, _, hB⟩
  rw [e1, Int.add_zero, Int.mul_comm] at h
  obtain ⟨r, os, rfl, A⟩ := h (small_pw l)
  exact ⟨r, _, rfl, A.sd l, hB⟩
theorem sure_bd {v P : Int} (hv : Bd v) (p0 : 0 ≤ P) (p1 : P ≤ 340282366920938463463374607431768211456) : v * P < 2 ^ 6400 := by
  have g : v * P ≤ 18446744073709551616 * 340282366920938463463374607431768211456 := Int.mul_le_mul (by have := hv.2; omega) p1 p0 (by omega)
  have := Nm.two_mono (show 200 ≤ 6400 by omega)
  have e : (2 : Int) ^ 200 = 1606938044258990275541962092341162602522202993782792835301376 := by decide +kernel
  generalize (2 : Int) ^ 6400 = y at *
  omega

set_option maxRecDepth 100000 in
set_option maxHeartbeats 4000000 in
theorem sure_law (v q : Int) (w : World) (v0 : 0 ≤ v) (v1 : v < 18446744073709551616) (hT : Tab w) (hX : Tens w) :
    Calls Tryz.prog 4 #[.int .u64 v, .int .i64 q] w fun e w' => e = .returned (.bool true) ∧ Below w.heap.size w w' := by
  have AW := hid (awake_any9 w hT hX)
  have PW := hid (fun wx (b : Below w.heap.size w wx) => power_any9 q wx (hT.below b))
  have SP := hid (fun wx (b : Below w.heap.size w wx) => step_any9 v q wx (hT.below b) ⟨v0, v1⟩)
  have HT := hid (fun wx (b : Below w.heap.size w wx) => hT.below b)
  clear hT hX
  go_enter Tryz.func4, Tryz.ntmps4
  go_wp2_with fail
  with_reducible refine AW.out.mono ?_
  rintro e w1 ⟨rfl, hB1⟩
  go_wp2_with fail
  with_reducible refine (PW.out _ hB1).mono ?_
  rintro e w2 ⟨hp, hB2⟩
  have b2 := below_on hB1 hB2
  clear hB1 hB2 AW PW
  rcases hp with ⟨hq, rfl⟩ | ⟨q0, q1, rfl⟩
  · go_wp2_with fail
    with_reducible refine (SP.out _ b2).mono ?_
    rintro e w3 ⟨d, su, rfl, ST, hB3⟩
    have B3 := hid (below_on b2 hB3)
    by_cases hv : v = 0
    · subst hv
      obtain ⟨rfl, rfl⟩ : d = 0 ∧ su = true := by
        rcases ST with h | h | h
        · exact h.2
        · omega
        · omega
      clear ST b2 hB3 SP HT
      go_wp2_with fail
      go_ret
      exact ⟨rfl, B3.out⟩
    · have hvb : (v == 0) = false := by rw [beq_eq_false_iff_ne]; exact hv
      obtain ⟨rfl, rfl⟩ : d = 0 ∧ su = false := by
        rcases ST with h | h | h
        · omega
        · exact h.2.2
        · omega
      clear ST b2 hB3 SP HT
      go_wp2_with fail
      go_ret
      exact ⟨rfl, B3.out⟩
  have r := Ie.row_is q0 q1
  have bs := bd_split (P := Ie.rowP q) (by have := r.lo; omega) r.hi
  have BS := hid bs
  have NS := hid (n2_split (Ie.rowP q))
  have eb := r.eb
  have SB : Hid (v * Ie.rowP q < 2 ^ 6400 ∧ v * (Ie.rowP q + 1) < 2 ^ 6400) := ⟨sure_bd ⟨v0, v1⟩ (by have := r.lo; omega) (by have := r.hi; omega), sure_bd ⟨v0, v1⟩ (by have := r.lo; omega) (by have := r.hi; omega)⟩
  have DS : Hid (∀ d su, Ie.Stq v q d su → v ≠ 0 → ∃ A B, Ie.Rnd (v * Ie.rowP q) 1 (Ie.rowE q + q) false A ∧ ((0 ≤ q ∧ q ≤ 55 ∧ B = A) ∨ ((q < 0 ∨ 55 < q) ∧ Ie.Rnd (v * (Ie.rowP q + 1)) 1 (Ie.rowE q + q) false B)) ∧ ((A = B ∧ d = A ∧ su = true) ∨ (A ≠ B ∧ d = 0 ∧ su = false))) := fun d su h hv => by
    rcases h with h | h | h
    · omega
    · omega
    · exact h.2.2.2
  clear r bs
  generalize lo64 (Ie.rowP q) = x at *
  generalize hi64 (Ie.rowP q) = y at *
  generalize Ie.rowE q = ee at *
  generalize Ie.rowP q = P at *
  go_wp2_with fail
  with_reducible refine (SP.out _ b2).mono ?_
  rintro e w3 ⟨d, su, rfl, ST, hB3⟩
  have B3 := hid (below_on b2 hB3)
  by_cases hv : v = 0
  · subst hv
    obtain ⟨rfl, rfl⟩ : d = 0 ∧ su = true := by
      rcases ST with h | h | h
      · exact h.2
      · omega
      · omega
    clear ST b2 hB3 SP HT DS
    go_wp2_with fail
    go_ret
    exact ⟨rfl, B3.out⟩
  have hvb : (v == 0) = false := by rw [beq_eq_false_iff_ne]; exact hv
  obtain ⟨A, B, RA, RB, RD⟩ := DS.out d su ST hv
  have HA := hid RA
  have HB := hid RB
  have HD := hid RD
  clear RA RB RD DS ST b2 hB3 SP
  have L1 : Hid (Sd (w3.alloc (.cells #[.int .u64 x, .int .u64 y] 25)) (some ⟨w3.heap.size, 0, none⟩) 2 P) := by
    have h := sd_lit2 (heap_alloc_new w3 (.cells #[.int .u64 x, .int .u64 y] 25)) BS.out.1 BS.out.2
    rw [NS.out] at h
    exact h
  have W4 := hid (below_on B3.out (alloc_b w3 (.cells #[.int .u64 x, .int .u64 y] 25)))
  have MA := hid (sd_mulAdd L1.out v ⟨v0, v1⟩ SB.out.1)
  clear L1 BS NS
  go_wp2_with fail
  with_reducible refine MA.out.mono ?_
  rintro e w5 ⟨r5, n5, rfl, S5, hB5⟩
  have L5 := hid S5
  have W5 := hid (below_on W4.out hB5)
  clear S5 hB5 MA W4 B3
  by_cases hx : 0 ≤ q ∧ q ≤ 55
  · obtain ⟨hx0, hx1⟩ := hx
    have HBA : Hid (B = A) := by
      rcases HB.out with h | h
      · exact h.2.2
      · omega
    have R1 := hid (sd_round (HT.out _ W5.out) L5.out (ee + q))
    go_wp2_with fail
    with_reducible refine R1.out.mono ?_
    rintro e w6 ⟨a, rfl, Ra, hB6⟩
    obtain rfl : A = a := Ie.Rnd.one (a := 0) (a' := 0) (by decide) (by decide) HA.out Ra (by omega) rfl
    have W6 := hid (below_on W5.out hB6)
    have R2 := hid (sd_round (HT.out _ W6.out) (L5.out.on hB6) (ee + q))
    clear Ra hB6 R1 W5 L5 HT
    go_wp2_with fail
    with_reducible refine R2.out.mono ?_
    rintro e w7 ⟨b, rfl, Rb, hB7⟩
    obtain rfl : A = b := Ie.Rnd.one (a := 0) (a' := 0) (by decide) (by decide) HA.out Rb (by omega) rfl
    have F := hid (below_on W6.out hB7)
    clear Rb hB7 R2 W6
    by_cases hab : A = B
    · subst hab
      obtain ⟨rfl, rfl⟩ : d = A ∧ su = true := by
        rcases HD.out with h | h
        · exact h.2
        · exact absurd rfl h.1
      clear HA HB HD
      go_wp2_with fail
      go_ret
      exact ⟨rfl, F.out⟩
    · exact absurd HBA.out.symm hab
  · have HBB : Hid (Ie.Rnd (v * (P + 1)) 1 (ee + q) false B) := by
      rcases HB.out with h | h
      · omega
      · exact h.2
    have O1 : Hid (Sd (w5.alloc (.cells #[.int .u64 v] 25)) (some ⟨w5.heap.size, 0, none⟩) 1 v) := sd_lit (heap_alloc_new w5 _) v0 v1
    have L6 := hid (L5.out.on (alloc_b w5 (.cells #[.int .u64 v] 25)))
    have W6 := hid (below_on W5.out (alloc_b w5 (.cells #[.int .u64 v] 25)))
    have eq1 : v * P + v = v * (P + 1) := by rw [Int.mul_add, Int.mul_one]
    have AD := hid (sd_add L6.out O1.out (by rw [eq1]; exact SB.out.2))
    rw [eq1] at AD
    clear O1 L5 W5 eq1 HB
    by_cases hx2 : q < 0
    · clear hx
      go_wp2_with fail
      with_reducible refine AD.out.mono ?_
      rintro e w7 ⟨r7, n7, rfl, S7, hB7⟩
      have L7 := hid (L6.out.on hB7)
      have M7 := hid S7
      have W7 := hid (below_on W6.out hB7)
      have R1 := hid (sd_round (HT.out _ W7.out) L7.out (ee + q))
      clear S7 hB7 AD L6 W6
      go_wp2_with fail
      with_reducible refine R1.out.mono ?_
      rintro e w8 ⟨a, rfl, Ra, hB8⟩
      obtain rfl : A = a := Ie.Rnd.one (a := 0) (a' := 0) (by decide) (by decide) HA.out Ra (by omega) rfl
      have W8 := hid (below_on W7.out hB8)
      have R2 := hid (sd_round (HT.out _ W8.out) (M7.out.on hB8) (ee + q))
      clear Ra hB8 R1 W7 L7 M7 HT
      go_wp2_with fail
      with_reducible refine R2.out.mono ?_
      rintro e w9 ⟨b, rfl, Rb, hB9⟩
      obtain rfl : B = b := Ie.Rnd.one (a := 0) (a' := 0) (by decide) (by decide) HBB.out Rb (by omega) rfl
      have F := hid (below_on W8.out hB9)
      clear Rb hB9 R2 W8 HBB
      by_cases hab : A = B
      · subst hab
        obtain ⟨rfl, rfl⟩ : d = A ∧ su = true := by
          rcases HD.out with h | h
          · exact h.2
          · exact absurd rfl h.1
        clear HA HD
        go_wp2_with fail
        go_ret
        exact ⟨rfl, F.out⟩
      · obtain ⟨rfl, rfl⟩ : d = 0 ∧ su = false := by
          rcases HD.out with h | h
          · exact absurd h.1 hab
          · exact h.2
        have hne : (A == B) = false := by rw [beq_eq_false_iff_ne]; exact hab
        clear HA HD
        go_wp2_with fail
        go_ret
        exact ⟨rfl, F.out⟩
    · have hx3 : 55 < q := by omega
      clear hx
      go_wp2_with fail
      with_reducible refine AD.out.mono ?_
      rintro e w7 ⟨r7, n7, rfl, S7, hB7⟩
      have L7 := hid (L6.out.on hB7)
      have M7 := hid S7
      have W7 := hid (below_on W6.out hB7)
      have R1 := hid (sd_round (HT.out _ W7.out) L7.out (ee + q))
      clear S7 hB7 AD L6 W6
      go_wp2_with fail
      with_reducible refine R1.out.mono ?_
      rintro e w8 ⟨a, rfl, Ra, hB8⟩
      obtain rfl : A = a := Ie.Rnd.one (a := 0) (a' := 0) (by decide) (by decide) HA.out Ra (by omega) rfl
      have W8 := hid (below_on W7.out hB8)
      have R2 := hid (sd_round (HT.out _ W8.out) (M7.out.on hB8) (ee + q))
      clear Ra hB8 R1 W7 L7 M7 HT
      go_wp2_with fail
      with_reducible refine R2.out.mono ?_
      rintro e w9 ⟨b, rfl, Rb, hB9⟩
      obtain rfl : B = b := Ie.Rnd.one (a := 0) (a' := 0) (by decide) (by decide) HBB.out Rb (by omega) rfl
      have F := hid (below_on W8.out hB9)
      clear Rb hB9 R2 W8 HBB
      by_cases hab : A = B
      · subst hab
        obtain ⟨rfl, rfl⟩ : d = A ∧ su = true := by
          rcases HD.out with h | h
          · exact h.2
          · exact absurd rfl h.1
        clear HA HD
        go_wp2_with fail
        go_ret
        exact ⟨rfl, F.out⟩
      · obtain ⟨rfl, rfl⟩ : d = 0 ∧ su = false := by
          rcases HD.out with h | h
          · exact absurd h.1 hab
          · exact h.2
        have hne : (A == B) = false := by rw [beq_eq_false_iff_ne]; exact hab
        clear HA HD
        go_wp2_with fail
        go_ret
        exact ⟨rfl, F.out⟩
end Go.Proofs.YthgjflfeilbbbaaGreatDoor
