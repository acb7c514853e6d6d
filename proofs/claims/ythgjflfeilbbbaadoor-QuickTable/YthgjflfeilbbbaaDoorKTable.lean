/-
  QuickTable.
-/
import Derived.Test.YthgjflfeilbbbaaDoorKAwake
import Derived.Test.YthgjflfeilbbbaaDoorWalk3
import Derived.Test.YthgjflfeilbbbaaDoorWalk5
namespace Go.Proofs.YthgjflfeilbbbaaDoor
open Go Go.RowKit Go.Deep

/-- A list that stands there, whatever memory is made: the number v, below 2^6400. -/
def Sd (w : World) (p : Option Addr) (n : Nat) (v : Int) : Prop := ∃ zs, Arg w p n n zs ∧ Nm.val zs = v ∧ v < 2 ^ 6400
theorem Sd.on {w w' : World} {p : Option Addr} {n : Nat} {v : Int} (h : Sd w p n v) (b : Below w.heap.size w w') : Sd w' p n v := by
  obtain ⟨zs, a, e, l⟩ := h
  exact ⟨zs, a.below b (Nat.le_refl _), e, l⟩
theorem small_pw {v : Int} (h : v < 2 ^ 6400) : v < Nm.pw 4096 := by
  have := two_pw (u := 6400) (by decide)
  generalize (2 : Int) ^ 6400 = x at *
  omega
theorem Sd.ts {w : World} {p : Option Addr} {n : Nat} {zs : List Int} {v : Int} (a : Arg w p n n zs) (e : Nm.val zs = v) (l : v < 2 ^ 6400) : Nm.tsize zs ≤ 4096 :=
  (Nm.tsize_le_iff a.2.2.2.2 4096).2 (by rw [e]; exact small_pw l)
theorem Sd.nn {w : World} {p : Option Addr} {n : Nat} {v : Int} (h : Sd w p n v) : 0 ≤ v := by
  obtain ⟨zs, a, e, l⟩ := h
  rw [← e]; exact (Nm.val_bd zs a.2.2.2.2).1
def SdTold (v : Int) (w : World) (e : Ending) (w' : World) : Prop := ∃ r n, e = .returned (.tuple #[.slice r n n, .int .i64 0]) ∧ Sd w' r n v ∧ Below w.heap.size w w'
theorem Ans.sd {B : Nat} {w : World} {r : Option Addr} {os : List Int} {v : Int} (h : Ans B w r os v) (l : v < 2 ^ 6400) : Sd w r os.length v := ⟨os, h.argT (small_pw l), h.2.2.2.1, l⟩

theorem sd_add {w : World} {p q : Option Addr} {n m : Nat} {a b : Int} (ha : Sd w p n a) (hb : Sd w q m b) (l : a + b < 2 ^ 6400) :
    Calls Tryd.prog 7 #[.slice p n n, .slice q m m] w fun e w' => SdTold (a + b) w e w' := by
  obtain ⟨zs, a1, e1, l1⟩ := ha
  obtain ⟨ys, a2, e2, l2⟩ := hb
  refine (add_ok p q n n m m zs ys w a1 a2 (by rw [e1, e2]; exact small_pw l)).mono ?_
  rintro e w' ⟨r, os, rfl, A, B⟩
  rw [e1, e2] at A
  exact ⟨r, _, rfl, A.sd l, B⟩
theorem sd_mul {w : World} {p q : Option Addr} {n m : Nat} {a b : Int} (ha : Sd w p n a) (hb : Sd w q m b) (l : a * b < 2 ^ 6400) :
    Calls Tryd.prog 9 #[.slice p n n, .slice q m m] w fun e w' => SdTold (a * b) w e w' := by
  obtain ⟨zs, a1, e1, l1⟩ := ha
  obtain ⟨ys, a2, e2, l2⟩ := hb
  refine (mul_ok p q n n m m zs ys w a1 a2 (Sd.ts a1 e1 l1) (Sd.ts a2 e2 l2) (by rw [e1, e2]; exact small_pw l)).mono ?_
  rintro e w' ⟨r, os, rfl, A, B⟩
  rw [e1, e2] at A
  exact ⟨r, _, rfl, A.sd l, B⟩
theorem sd_shl {w : World} {p : Option Addr} {n : Nat} {a : Int} (ha : Sd w p n a) (a0 : 0 < a) (kk : Int) (k : Nat) (hk : kk = (k : Int)) (l : a * 2 ^ k < 2 ^ 6400) :
    Calls Tryd.prog 10 #[.slice p n n, .int .i64 kk] w fun e w' => SdTold (a * 2 ^ k) w e w' := by
  obtain ⟨zs, a1, e1, l1⟩ := ha
  obtain ⟨L, hL, BL, _, _⟩ := blen_is (Nm.trim zs) a1.2.2.2.2.trim
  rw [Nm.val_trim, e1] at BL
  have tz : 0 < Nm.tsize zs := by
    rcases Nat.eq_zero_or_pos (Nm.tsize zs) with g | g
    · have := (Nm.tsize_zero_iff a1.2.2.2.2).1 g; omega
    · exact g
  have hb := BL.2.2 a0
  have hlk : L - 1 + k < 6400 := by
    have g : (2 : Int) ^ (L - 1) * 2 ^ k ≤ a * 2 ^ k := Int.mul_le_mul_of_nonneg_right hb.2 (by have := Nm.two_pos k; omega)
    rw [← Nm.two_add] at g
    exact Ie.two_lt_of (Int.lt_of_le_of_lt g l)
  refine (shl_ok p n n zs kk k L w a1 (Sd.ts a1 e1 l1) hk tz hL (by omega)).mono ?_
  rintro e w' ⟨r, os, rfl, A, B⟩
  rw [e1] at A
  exact ⟨r, _, rfl, A.sd l, B⟩
theorem sd_cmp {w : World} {p q : Option Addr} {n m : Nat} {a b : Int} (ha : Sd w p n a) (hb : Sd w q m b) :
    Calls Tryd.prog 11 #[.slice p n n, .slice q m m] w fun e w' => e = .returned (.int .i64 (cmpI a b)) ∧ Below w.heap.size w w' := by
  obtain ⟨zs, a1, e1, l1⟩ := ha
  obtain ⟨ys, a2, e2, l2⟩ := hb
  have h := cmp_any p q n n m m zs ys w a1 a2
  rw [e1, e2] at h
  exact h
theorem five_small {n : Nat} (h : n ≤ 342) : (5 : Int) ^ n < 2 ^ 800 := by
  have g := Ie.five_le h
  have k : (5 : Int) ^ 342 < 2 ^ 800 := by decide +kernel
  generalize (2 : Int) ^ 800 = x at *
  omega
theorem sd_pow5 (w : World) (k : Int) (n : Nat) (hk : k = (n : Int)) (h : n ≤ 342) :
    Calls Tryd.prog 8 #[.int .i64 k] w fun e w' => SdTold (5 ^ n) w e w' := by
  refine (pow5_gives k n w hk (by omega)).mono ?_
  rintro e w' ⟨⟨_, r, os, rfl, A⟩ | ⟨g, _⟩, B⟩
  · exact ⟨r, _, rfl, A.sd (Int.lt_trans (five_small h) (by have := Nm.two_mono (show 801 ≤ 6400 by omega); rw [Int.pow_succ] at this; have := Nm.two_pos 800; generalize (2 : Int) ^ 800 = x at *; generalize (2 : Int) ^ 6400 = y at *; omega)), B⟩
  · exact absurd (five_pw h) (Int.not_lt.2 g)
theorem sd_lit {w : World} {g : Nat} {x : Int} (h : w.heap[g]? = some (.cells #[.int .u64 x] 23 (0, 0))) (h0 : 0 ≤ x) (h1 : x < 18446744073709551616) : Sd w (some ⟨g, 0, none⟩) 1 x := by
  refine ⟨[x], arg_lit9 h h0 h1, by simp [Nm.val], ?_⟩
  have := Nm.two_mono (show 64 ≤ 6400 by omega)
  have e64 : (2 : Int) ^ 64 = 18446744073709551616 := by decide
  generalize (2 : Int) ^ 6400 = y at *
  omega
theorem sd_lit2 {w : World} {g : Nat} {x y : Int} (h : w.heap[g]? = some (.cells #[.int .u64 x, .int .u64 y] 23 (0, 0))) (hx : Bd x) (hy : Bd y) : Sd w (some ⟨g, 0, none⟩) 2 (n2 x y) := by
  refine ⟨[x, y], ⟨rfl, Nat.le_refl _, by omega, .inr ⟨g, 0, rfl, fun i hi => ?_⟩, Nm.Limbs.mk hx.1 hx.2 (Nm.Limbs.mk hy.1 hy.2 Nm.Limbs.nil)⟩, n2_val x y, ?_⟩
  · rcases (show i = 0 ∨ i = 1 by simp at hi; omega) with rfl | rfl <;> simp [World.cell?, h]
  · have := Nm.two_mono (show 128 ≤ 6400 by omega)
    have e := Ie.e128
    unfold Bd n2 at *
    generalize (2 : Int) ^ 6400 = y at *
    omega
end Go.Proofs.YthgjflfeilbbbaaDoor
