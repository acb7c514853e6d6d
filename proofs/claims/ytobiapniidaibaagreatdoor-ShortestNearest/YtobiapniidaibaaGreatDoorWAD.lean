/-
  Texts put together: IBit, IWalk1C, IWalk1B, IDec, IWalk1A, IOrdD, IUp, IDown, IWalk1.
-/
import Derived.Test.YtobiapniidaibaaGreatDoorWAA
import Derived.Laws.BitsAllLaws
import Derived.Laws.Rows
/-
  The bits of a double as numbers.
-/
namespace Go.Proofs.YtobiapniidaibaaGreatDoor
open Go
namespace Ib
theorem sign_and (d : Int) (h0 : 0 ≤ d) (h1 : d < 18446744073709551616) : bits .and .u64 d 9223372036854775808 = d / 9223372036854775808 * 9223372036854775808 := by
  obtain ⟨a, rfl⟩ := Int.eq_ofNat_of_zero_le h0
  have h := u64_and_nat a 9223372036854775808 (by omega) (by omega)
  rw [show ((9223372036854775808 : Nat) : Int) = 9223372036854775808 from rfl] at h
  rw [h, show (9223372036854775808 : Nat) = 2 ^ 63 from rfl, nat_bit]
  omega

theorem frac_and (d : Int) (h0 : 0 ≤ d) (h1 : d < 18446744073709551616) : bits .and .u64 d 4503599627370495 = d % 4503599627370496 := by
  obtain ⟨a, rfl⟩ := Int.eq_ofNat_of_zero_le h0
  have h := u64_and_nat a 4503599627370495 (by omega) (by omega)
  rw [show ((4503599627370495 : Nat) : Int) = 4503599627370495 from rfl] at h
  rw [h, nat_mask52]
  omega

theorem field_and (d : Int) (h0 : 0 ≤ d) (h1 : d < 18446744073709551616) : bits .and .u64 d 2047 = d % 2048 := by
  obtain ⟨a, rfl⟩ := Int.eq_ofNat_of_zero_le h0
  have h := u64_and_nat a 2047 (by omega) (by omega)
  rw [show ((2047 : Nat) : Int) = 2047 from rfl] at h
  rw [h, nat_mask11]
  omega

theorem hidden_or (d : Int) (h0 : 0 ≤ d) (h1 : d < 4503599627370496) : bits .or .u64 4503599627370496 d = 4503599627370496 + d := by
  obtain ⟨a, rfl⟩ := Int.eq_ofNat_of_zero_le h0
  have h := u64_or_nat 4503599627370496 a (by omega) (by omega)
  rw [show ((4503599627370496 : Nat) : Int) = 4503599627370496 from rfl] at h
  rw [h, nat_join 52 _ _ (by decide) (by omega)]
  omega

theorem xor_lo (a : Nat) (h : a < 2 ^ 63) : a ^^^ 2 ^ 63 = a + 2 ^ 63 := by
  have hj : 2 ^ 63 ||| a = 2 ^ 63 + a := nat_join 63 _ _ (by decide) h
  rw [Nat.add_comm, ← hj]
  apply Nat.eq_of_testBit_eq
  intro j
  rw [Nat.testBit_xor, Nat.testBit_or, Nat.testBit_two_pow]
  by_cases e : 63 = j
  · subst e
    rw [Nat.testBit_lt_two_pow h]
    decide
  · simp [e]

theorem sign_xor (d : Int) (h0 : 0 ≤ d) (h1 : d < 18446744073709551616) : bits .xor .u64 d 9223372036854775808 = if d < 9223372036854775808 then d + 9223372036854775808 else d - 9223372036854775808 := by
  obtain ⟨a, rfl⟩ := Int.eq_ofNat_of_zero_le h0
  have h := u64_xor_nat a 9223372036854775808 (by omega) (by omega)
  rw [show ((9223372036854775808 : Nat) : Int) = 9223372036854775808 from rfl] at h
  rw [h, show (9223372036854775808 : Nat) = 2 ^ 63 from rfl]
  by_cases ha : a < 2 ^ 63
  · rw [xor_lo a ha, if_pos (by omega)]
    omega
  · obtain ⟨b, rfl⟩ : ∃ b, a = b + 2 ^ 63 := ⟨a - 2 ^ 63, by omega⟩
    rw [← xor_lo b (by omega), Nat.xor_assoc, Nat.xor_self, Nat.xor_zero, xor_lo b (by omega), if_neg (by omega)]
    omega

theorem sign_andNot (d : Int) (h0 : 0 ≤ d) (h1 : d < 18446744073709551616) : bits .andNot .u64 d 9223372036854775808 = d % 9223372036854775808 := by
  obtain ⟨a, rfl⟩ := Int.eq_ofNat_of_zero_le h0
  have h := u64_andNot_nat a 9223372036854775808 (by omega) (by omega)
  rw [show ((9223372036854775808 : Nat) : Int) = 9223372036854775808 from rfl] at h
  rw [h, show (18446744073709551615 - 9223372036854775808 : Nat) = 2 ^ 63 - 1 from rfl, Nat.and_two_pow_sub_one_eq_mod]
  omega

end Ib
end Go.Proofs.YtobiapniidaibaaGreatDoor

/-
  ieee: field, Class, signed, within, Neg, Abs, place; cmp.Compare of two int64.
-/
namespace Go.Proofs.YtobiapniidaibaaGreatDoor
open Go Go.RowKit Go.Deep

namespace Ie
/-- The exponent field. -/
def fld (d : Int) : Int := d / 4503599627370496 % 2048

/-- The class. -/
def cls (d : Int) : Int :=
  if fld d = 0 then (if d % 4503599627370496 = 0 then 0 else 1)
  else if fld d = 2047 then (if d % 4503599627370496 = 0 then 3 else 4) else 2
end Ie

theorem i_retI {a b : Int} (h : a = b) : Ending.returned (.int .i64 a) = .returned (.int .i64 b) := by rw [h]
theorem i_retU {a b : Int} (h : a = b) : Ending.returned (.int .u64 a) = .returned (.int .u64 b) := by rw [h]

/-- The bits of a double with a sign. -/
def Ie.sg (neg : Bool) (x : Int) : Int := if neg = true then x + 9223372036854775808 else x

/-- The sign bit turned. -/
def Ie.ng (d : Int) : Int := if d < 9223372036854775808 then d + 9223372036854775808 else d - 9223372036854775808
end Go.Proofs.YtobiapniidaibaaGreatDoor

/-
  ieee: field, Class.
-/
namespace Go.Proofs.YtobiapniidaibaaGreatDoor
open Go Go.RowKit Go.Deep

set_option maxRecDepth 100000 in
set_option maxHeartbeats 1000000 in
theorem field_any (d : Int) (w : World) (h0 : 0 ≤ d) (h1 : d < 18446744073709551616) :
    Calls Tryz.prog 50 #[.int .u64 d] w fun e w' => e = .returned (.int .i64 (Ie.fld d)) ∧ w' = w := by
  obtain ⟨q, hq⟩ : ∃ q, d / 4503599627370496 = q := ⟨_, rfl⟩
  have q0 : 0 ≤ q := by omega
  have q1 : q < 18446744073709551616 := by omega
  have B := Ib.field_and q q0 q1
  have E : Hid (Ie.fld d = q % 2048) := by rw [Hid, Ie.fld, hq]
  have m0 : 0 ≤ q % 2048 := by omega
  have m1 : q % 2048 ≤ 2047 := by omega
  go_enter Tryz.func50, Tryz.ntmps50
  go_wp2
  go_ret
  exact ⟨i_retI E.out.symm, rfl⟩

set_option maxRecDepth 100000 in
set_option maxHeartbeats 1000000 in
theorem class_any (d : Int) (w : World) (h0 : 0 ≤ d) (h1 : d < 18446744073709551616) :
    Calls Tryz.prog 30 #[.int .u64 d] w fun e w' => e = .returned (.int .i64 (Ie.cls d)) ∧ w' = w := by
  have B := Ib.frac_and d h0 h1
  have F := hid (field_any d w h0 h1)
  obtain ⟨f, hf⟩ : ∃ f, Ie.fld d = f := ⟨_, rfl⟩
  rw [hf] at F
  have f0 : 0 ≤ f ∧ f < 2048 := by rw [← hf]; simp only [Ie.fld]; omega
  by_cases hz : d % 4503599627370496 = 0
  · by_cases e1 : f = 0
    · subst e1
      have E : Hid (Ie.cls d = 0) := by rw [Hid, Ie.cls, if_pos hf, if_pos hz]
      clear hf f0
      go_enter Tryz.func30, Tryz.ntmps30
      go_wp2_with fail
      refine F.out.mono ?_
      rintro e w' ⟨rfl, rfl⟩
      go_wp2_with fail
      go_ret
      exact ⟨i_retI E.out.symm, rfl⟩
    · by_cases e2 : f = 2047
      · subst e2
        have E : Hid (Ie.cls d = 3) := by rw [Hid, Ie.cls, if_neg (by omega), if_pos hf, if_pos hz]
        clear hf f0 e1
        go_enter Tryz.func30, Tryz.ntmps30
        go_wp2_with fail
        refine F.out.mono ?_
        rintro e w' ⟨rfl, rfl⟩
        go_wp2_with fail
        go_ret
        exact ⟨i_retI E.out.symm, rfl⟩
      · have E : Hid (Ie.cls d = 2) := by rw [Hid, Ie.cls, if_neg (by omega), if_neg (by omega)]
        have e1' : (f == 0) = false := by rw [beq_eq_false_iff_ne]; exact e1
        have e2' : (f == 2047) = false := by rw [beq_eq_false_iff_ne]; exact e2
        clear hf f0
        go_enter Tryz.func30, Tryz.ntmps30
        go_wp2_with fail
        refine F.out.mono ?_
        rintro e w' ⟨rfl, rfl⟩
        go_wp2_with fail
        go_ret
        exact ⟨i_retI E.out.symm, rfl⟩
  · have hz' : (d % 4503599627370496 == 0) = false := by rw [beq_eq_false_iff_ne]; exact hz
    by_cases e1 : f = 0
    · subst e1
      have E : Hid (Ie.cls d = 1) := by rw [Hid, Ie.cls, if_pos hf, if_neg hz]
      clear hf f0
      go_enter Tryz.func30, Tryz.ntmps30
      go_wp2_with fail
      refine F.out.mono ?_
      rintro e w' ⟨rfl, rfl⟩
      go_wp2_with fail
      go_ret
      exact ⟨i_retI E.out.symm, rfl⟩
    · by_cases e2 : f = 2047
      · subst e2
        have E : Hid (Ie.cls d = 4) := by rw [Hid, Ie.cls, if_neg (by omega), if_pos hf, if_neg hz]
        clear hf f0 e1
        go_enter Tryz.func30, Tryz.ntmps30
        go_wp2_with fail
        refine F.out.mono ?_
        rintro e w' ⟨rfl, rfl⟩
        go_wp2_with fail
        go_ret
        exact ⟨i_retI E.out.symm, rfl⟩
      · have E : Hid (Ie.cls d = 2) := by rw [Hid, Ie.cls, if_neg (by omega), if_neg (by omega)]
        have e1' : (f == 0) = false := by rw [beq_eq_false_iff_ne]; exact e1
        have e2' : (f == 2047) = false := by rw [beq_eq_false_iff_ne]; exact e2
        clear hf f0
        go_enter Tryz.func30, Tryz.ntmps30
        go_wp2_with fail
        refine F.out.mono ?_
        rintro e w' ⟨rfl, rfl⟩
        go_wp2_with fail
        go_ret
        exact ⟨i_retI E.out.symm, rfl⟩

end Go.Proofs.YtobiapniidaibaaGreatDoor

/-
  ieee: Decode (made by mkdec.py).
-/
namespace Go.Proofs.YtobiapniidaibaaGreatDoor
open Go Go.RowKit Go.Deep

namespace Ie
/-- The mantissa that Decode tells. -/
def dm (d : Int) : Int := if cls d = 2 then 4503599627370496 + d % 4503599627370496 else if cls d = 1 ∨ cls d = 4 then d % 4503599627370496 else 0
/-- The exponent that Decode tells. -/
def de (d : Int) : Int := if cls d = 2 then fld d - 1075 else if cls d = 1 then -1074 else 0
theorem cls_cases (d : Int) : cls d = 0 ∨ cls d = 1 ∨ cls d = 2 ∨ cls d = 3 ∨ cls d = 4 := by
  simp only [cls]; split <;> split <;> (try split) <;> omega
theorem fld_bd (d : Int) : 0 ≤ fld d ∧ fld d < 2048 := by simp only [fld]; omega
end Ie

/-- A double taken apart, as Go has it. -/
def partsOf (neg : Bool) (c m e : Int) : Value := .agg #[.bool neg, .int .i64 c, .int .u64 m, .int .i64 e]

theorem ret_parts {n n' : Bool} {c c' m m' e e' : Int} (h0 : n = n') (h1 : c = c') (h2 : m = m') (h3 : e = e') : Ending.returned (partsOf n c m e) = .returned (partsOf n' c' m' e') := by rw [h0, h1, h2, h3]

theorem twice_alloc (w : World) (A B : Obj) : Below w.heap.size w ((w.alloc A).alloc B) := by
  have h1 := Below.alloc (w := w) (Below.refl w.heap.size w) (Nat.le_refl _) A
  exact Below.alloc h1 (by have := h1.size; omega) B

set_option maxRecDepth 100000 in
set_option maxHeartbeats 4000000 in
theorem decode_any (d : Int) (w : World) (h0 : 0 ≤ d) (h1 : d < 18446744073709551616) :
    Calls Tryz.prog 33 #[.int .u64 d] w fun e w' => e = .returned (partsOf (decide (9223372036854775808 ≤ d)) (Ie.cls d) (Ie.dm d) (Ie.de d)) ∧ Below w.heap.size w w' := by
  have B := Ib.sign_and d h0 h1
  have F := Ib.frac_and d h0 h1
  have CL := hid (fun (wx : World) => class_any d wx h0 h1)
  have FL := hid (fun (wx : World) => field_any d wx h0 h1)
  obtain ⟨sv, hsv⟩ : ∃ sv, d / 9223372036854775808 * 9223372036854775808 = sv := ⟨_, rfl⟩
  rw [hsv] at B
  obtain ⟨f, hf⟩ : ∃ f, Ie.fld d = f := ⟨_, rfl⟩
  have fb := Ie.fld_bd d
  obtain ⟨y, hy⟩ : ∃ y, d % 4503599627370496 = y := ⟨_, rfl⟩
  have y0 : 0 ≤ y := by omega
  have y1 : y < 4503599627370496 := by omega
  rw [hf] at FL fb
  rw [hy] at F
  have O := Ib.hidden_or y y0 y1
  obtain ⟨fb0, fb1⟩ := fb
  have DM : Hid (Ie.dm d = if Ie.cls d = 2 then 4503599627370496 + y else if Ie.cls d = 1 ∨ Ie.cls d = 4 then y else 0) := by rw [Hid, Ie.dm, hy]
  have DE : Hid (Ie.de d = if Ie.cls d = 2 then f - 1075 else if Ie.cls d = 1 then -1074 else 0) := by rw [Hid, Ie.de, hf]
  have cc := Ie.cls_cases d
  have sc : (sv = 0 ∧ decide (9223372036854775808 ≤ d) = false) ∨ (sv = 9223372036854775808 ∧ decide (9223372036854775808 ≤ d) = true) := by
    rcases (show d < 9223372036854775808 ∨ 9223372036854775808 ≤ d by omega) with h | h
    · left; exact ⟨by omega, by simp; omega⟩
    · right; exact ⟨by omega, by simp; omega⟩
  rcases sc with ⟨rfl, sn⟩ | ⟨rfl, sn⟩ <;> rw [sn] <;> rcases cc with hc | hc | hc | hc | hc <;> rw [hc] at CL DM DE ⊢ <;> clear hsv hf hy hc sn
  · go_enter Tryz.func33, Tryz.ntmps33
    go_wp2_with fail
    refine (CL.out _).mono ?_
    rintro e w' ⟨rfl, rfl⟩
    go_wp2_with fail
    (try simp only [Exit.inBlock, Exit.then])
    refine bodyPost_ret (results_cell_row rfl _ _ w.heap.size 63 _ (0, 0) _ rfl (heap_alloc2_old _ _ _) Tryz.underlying63 rfl (by kernel_rfl)) rfl ?_
    exact ⟨ret_parts rfl rfl (by rw [DM.out]; rfl) (by rw [DE.out]; first | rfl | (show _ = f - 1075; omega)), twice_alloc _ _ _⟩
  · go_enter Tryz.func33, Tryz.ntmps33
    go_wp2_with fail
    refine (CL.out _).mono ?_
    rintro e w' ⟨rfl, rfl⟩
    go_wp2_with fail
    (try simp only [Exit.inBlock, Exit.then])
    refine bodyPost_ret (results_cell_row rfl _ _ w.heap.size 63 _ (0, 0) _ rfl (heap_alloc2_old _ _ _) Tryz.underlying63 rfl (by kernel_rfl)) rfl ?_
    exact ⟨ret_parts rfl rfl (by rw [DM.out]; rfl) (by rw [DE.out]; first | rfl | (show _ = f - 1075; omega)), twice_alloc _ _ _⟩
  · go_enter Tryz.func33, Tryz.ntmps33
    go_wp2_with fail
    refine (CL.out _).mono ?_
    rintro e w' ⟨rfl, rfl⟩
    go_wp2_with fail
    refine (FL.out _).mono ?_
    rintro e w' ⟨rfl, rfl⟩
    go_wp2_with fail
    (try simp only [Exit.inBlock, Exit.then])
    refine bodyPost_ret (results_cell_row rfl _ _ w.heap.size 63 _ (0, 0) _ rfl (heap_alloc2_old _ _ _) Tryz.underlying63 rfl (by kernel_rfl)) rfl ?_
    exact ⟨ret_parts rfl rfl (by rw [DM.out]; rfl) (by rw [DE.out]; first | rfl | (show _ = f - 1075; omega)), twice_alloc _ _ _⟩
  · go_enter Tryz.func33, Tryz.ntmps33
    go_wp2_with fail
    refine (CL.out _).mono ?_
    rintro e w' ⟨rfl, rfl⟩
    go_wp2_with fail
    (try simp only [Exit.inBlock, Exit.then])
    refine bodyPost_ret (results_cell_row rfl _ _ w.heap.size 63 _ (0, 0) _ rfl (heap_alloc2_old _ _ _) Tryz.underlying63 rfl (by kernel_rfl)) rfl ?_
    exact ⟨ret_parts rfl rfl (by rw [DM.out]; rfl) (by rw [DE.out]; first | rfl | (show _ = f - 1075; omega)), twice_alloc _ _ _⟩
  · go_enter Tryz.func33, Tryz.ntmps33
    go_wp2_with fail
    refine (CL.out _).mono ?_
    rintro e w' ⟨rfl, rfl⟩
    go_wp2_with fail
    (try simp only [Exit.inBlock, Exit.then])
    refine bodyPost_ret (results_cell_row rfl _ _ w.heap.size 63 _ (0, 0) _ rfl (heap_alloc2_old _ _ _) Tryz.underlying63 rfl (by kernel_rfl)) rfl ?_
    exact ⟨ret_parts rfl rfl (by rw [DM.out]; rfl) (by rw [DE.out]; first | rfl | (show _ = f - 1075; omega)), twice_alloc _ _ _⟩
  · go_enter Tryz.func33, Tryz.ntmps33
    go_wp2_with fail
    refine (CL.out _).mono ?_
    rintro e w' ⟨rfl, rfl⟩
    go_wp2_with fail
    (try simp only [Exit.inBlock, Exit.then])
    refine bodyPost_ret (results_cell_row rfl _ _ w.heap.size 63 _ (0, 0) _ rfl (heap_alloc2_old _ _ _) Tryz.underlying63 rfl (by kernel_rfl)) rfl ?_
    exact ⟨ret_parts rfl rfl (by rw [DM.out]; rfl) (by rw [DE.out]; first | rfl | (show _ = f - 1075; omega)), twice_alloc _ _ _⟩
  · go_enter Tryz.func33, Tryz.ntmps33
    go_wp2_with fail
    refine (CL.out _).mono ?_
    rintro e w' ⟨rfl, rfl⟩
    go_wp2_with fail
    (try simp only [Exit.inBlock, Exit.then])
    refine bodyPost_ret (results_cell_row rfl _ _ w.heap.size 63 _ (0, 0) _ rfl (heap_alloc2_old _ _ _) Tryz.underlying63 rfl (by kernel_rfl)) rfl ?_
    exact ⟨ret_parts rfl rfl (by rw [DM.out]; rfl) (by rw [DE.out]; first | rfl | (show _ = f - 1075; omega)), twice_alloc _ _ _⟩
  · go_enter Tryz.func33, Tryz.ntmps33
    go_wp2_with fail
    refine (CL.out _).mono ?_
    rintro e w' ⟨rfl, rfl⟩
    go_wp2_with fail
    refine (FL.out _).mono ?_
    rintro e w' ⟨rfl, rfl⟩
    go_wp2_with fail
    (try simp only [Exit.inBlock, Exit.then])
    refine bodyPost_ret (results_cell_row rfl _ _ w.heap.size 63 _ (0, 0) _ rfl (heap_alloc2_old _ _ _) Tryz.underlying63 rfl (by kernel_rfl)) rfl ?_
    exact ⟨ret_parts rfl rfl (by rw [DM.out]; rfl) (by rw [DE.out]; first | rfl | (show _ = f - 1075; omega)), twice_alloc _ _ _⟩
  · go_enter Tryz.func33, Tryz.ntmps33
    go_wp2_with fail
    refine (CL.out _).mono ?_
    rintro e w' ⟨rfl, rfl⟩
    go_wp2_with fail
    (try simp only [Exit.inBlock, Exit.then])
    refine bodyPost_ret (results_cell_row rfl _ _ w.heap.size 63 _ (0, 0) _ rfl (heap_alloc2_old _ _ _) Tryz.underlying63 rfl (by kernel_rfl)) rfl ?_
    exact ⟨ret_parts rfl rfl (by rw [DM.out]; rfl) (by rw [DE.out]; first | rfl | (show _ = f - 1075; omega)), twice_alloc _ _ _⟩
  · go_enter Tryz.func33, Tryz.ntmps33
    go_wp2_with fail
    refine (CL.out _).mono ?_
    rintro e w' ⟨rfl, rfl⟩
    go_wp2_with fail
    (try simp only [Exit.inBlock, Exit.then])
    refine bodyPost_ret (results_cell_row rfl _ _ w.heap.size 63 _ (0, 0) _ rfl (heap_alloc2_old _ _ _) Tryz.underlying63 rfl (by kernel_rfl)) rfl ?_
    exact ⟨ret_parts rfl rfl (by rw [DM.out]; rfl) (by rw [DE.out]; first | rfl | (show _ = f - 1075; omega)), twice_alloc _ _ _⟩
end Go.Proofs.YtobiapniidaibaaGreatDoor

/-
  ieee: Neg.
-/
namespace Go.Proofs.YtobiapniidaibaaGreatDoor
open Go Go.RowKit Go.Deep

set_option maxRecDepth 100000 in
theorem neg_any (d : Int) (w : World) (h0 : 0 ≤ d) (h1 : d < 18446744073709551616) :
    Calls Tryz.prog 55 #[.int .u64 d] w fun e w' => e = .returned (.int .u64 (Ie.ng d)) ∧ w' = w := by
  have B : bits .xor .u64 d 9223372036854775808 = Ie.ng d := Ib.sign_xor d h0 h1
  go_enter Tryz.func55, Tryz.ntmps55
  go_wp2
  go_ret
  exact ⟨rfl, rfl⟩
end Go.Proofs.YtobiapniidaibaaGreatDoor

/-
  ieee: the order of doubles, in numbers.
-/
namespace Go.Proofs.YtobiapniidaibaaGreatDoor
open Go Go.RowKit Go.Deep

namespace Ie
/-- No NaN. -/
def okd (d : Int) : Bool := decide (d % 9223372036854775808 ≤ 9218868437227405312)
theorem cls4 (d : Int) : cls d = 4 ↔ okd d = false := by
  rw [okd, decide_eq_false_iff_not, cls]
  by_cases a : fld d = 0
  · rw [if_pos a]
    simp only [fld] at a
    by_cases b : d % 4503599627370496 = 0
    · rw [if_pos b]; omega
    · rw [if_neg b]; omega
  · rw [if_neg a]
    by_cases c : fld d = 2047
    · rw [if_pos c]
      simp only [fld] at a c
      by_cases b : d % 4503599627370496 = 0
      · rw [if_pos b]; omega
      · rw [if_neg b]; omega
    · rw [if_neg c]
      simp only [fld] at a c
      omega
/-- The next one above. -/
def upd (d : Int) : Int :=
  if okd d = false then 9221120237041090560 else if d = 9218868437227405312 then d else if d = 9223372036854775808 then 1 else if 9223372036854775808 < d then d - 1 else d + 1
/-- The next one below. -/
def dnd (d : Int) : Int := if okd d = false then 9221120237041090560 else ng (upd (ng d))
end Ie

end Go.Proofs.YtobiapniidaibaaGreatDoor

/-
  ieee: Up, Down.
-/
namespace Go.Proofs.YtobiapniidaibaaGreatDoor
open Go Go.RowKit Go.Deep

set_option maxRecDepth 100000 in
set_option maxHeartbeats 2000000 in
theorem up_any (d : Int) (w : World) (h0 : 0 ≤ d) (h1 : d < 18446744073709551616) :
    Calls Tryz.prog 56 #[.int .u64 d] w fun e w' => e = .returned (.int .u64 (Ie.upd d)) ∧ w' = w := by
  have B := Ib.sign_and d h0 h1
  have CL := hid (class_any d w h0 h1)
  have c4 := Ie.cls4 d
  obtain ⟨c, hc⟩ : ∃ c, Ie.cls d = c := ⟨_, rfl⟩
  rw [hc] at CL c4
  obtain ⟨sv, hsv⟩ : ∃ sv, d / 9223372036854775808 * 9223372036854775808 = sv := ⟨_, rfl⟩
  rw [hsv] at B
  by_cases hn : c = 4
  · have E : Hid (9221120237041090560 = Ie.upd d) := by rw [Hid, Ie.upd, if_pos (c4.1 hn)]
    subst hn
    clear hc hsv c4
    go_enter Tryz.func56, Tryz.ntmps56
    go_wp2_with fail
    refine CL.out.mono ?_
    rintro e w' ⟨rfl, rfl⟩
    go_wp2_with fail
    go_ret
    exact ⟨i_retU E.out, rfl⟩
  · have ok : Ie.okd d = true := by
      cases h : Ie.okd d
      · exact absurd (c4.2 h) hn
      · rfl
    have hn' : (c == 4) = false := by rw [beq_eq_false_iff_ne]; exact hn
    have E0 : Ie.upd d = if d = 9218868437227405312 then d else if d = 9223372036854775808 then 1 else if 9223372036854775808 < d then d - 1 else d + 1 := by rw [Ie.upd, ok, if_neg (by decide)]
    by_cases e1 : d = 9218868437227405312
    · subst e1
      rw [if_pos rfl] at E0
      have E := hid E0
      clear hc hsv c4 ok E0 hn
      go_enter Tryz.func56, Tryz.ntmps56
      go_wp2_with fail
      refine CL.out.mono ?_
      rintro e w' ⟨rfl, rfl⟩
      go_wp2_with fail
      go_ret
      exact ⟨i_retU E.out.symm, rfl⟩
    · have e1' : (d == 9218868437227405312) = false := by rw [beq_eq_false_iff_ne]; exact e1
      rw [if_neg e1] at E0
      by_cases e2 : d = 9223372036854775808
      · subst e2
        rw [if_pos rfl] at E0
        have E := hid E0
        clear hc hsv c4 ok E0 hn
        go_enter Tryz.func56, Tryz.ntmps56
        go_wp2_with fail
        refine CL.out.mono ?_
        rintro e w' ⟨rfl, rfl⟩
        go_wp2_with fail
        go_ret
        exact ⟨i_retU E.out.symm, rfl⟩
      · have e2' : (d == 9223372036854775808) = false := by rw [beq_eq_false_iff_ne]; exact e2
        rw [if_neg e2] at E0
        by_cases e3 : 9223372036854775808 < d
        · rw [if_pos e3] at E0
          have E := hid E0
          have hz : sv = 9223372036854775808 := by omega
          subst hz
          clear hc hsv c4 ok E0 hn e1 e2
          go_enter Tryz.func56, Tryz.ntmps56
          go_wp2_with fail
          refine CL.out.mono ?_
          rintro e w' ⟨rfl, rfl⟩
          go_wp2_with fail
          go_ret
          exact ⟨i_retU E.out.symm, rfl⟩
        · rw [if_neg e3] at E0
          have E := hid E0
          have hz : sv = 0 := by omega
          subst hz
          have lt : d < 9223372036854775808 := by omega
          clear hc hsv c4 ok E0 hn e1 e2 e3
          go_enter Tryz.func56, Tryz.ntmps56
          go_wp2_with fail
          refine CL.out.mono ?_
          rintro e w' ⟨rfl, rfl⟩
          go_wp2_with fail
          go_ret
          exact ⟨i_retU E.out.symm, rfl⟩

end Go.Proofs.YtobiapniidaibaaGreatDoor

/-
  ieee: Down.
-/
namespace Go.Proofs.YtobiapniidaibaaGreatDoor
open Go Go.RowKit Go.Deep

theorem Ie.ng_bd (d : Int) (h0 : 0 ≤ d) (h1 : d < 18446744073709551616) : 0 ≤ Ie.ng d ∧ Ie.ng d < 18446744073709551616 := by
  simp only [Ie.ng]; split <;> omega

theorem Ie.upd_bd (d : Int) (h0 : 0 ≤ d) (h1 : d < 18446744073709551616) : 0 ≤ Ie.upd d ∧ Ie.upd d < 18446744073709551616 := by
  simp only [Ie.upd]
  split
  · omega
  · split
    · omega
    · split
      · omega
      · split <;> omega

set_option maxRecDepth 100000 in
set_option maxHeartbeats 2000000 in
theorem down_any (d : Int) (w : World) (h0 : 0 ≤ d) (h1 : d < 18446744073709551616) :
    Calls Tryz.prog 36 #[.int .u64 d] w fun e w' => e = .returned (.int .u64 (Ie.dnd d)) ∧ w' = w := by
  have CL := hid (class_any d w h0 h1)
  have c4 := Ie.cls4 d
  obtain ⟨c, hc⟩ : ∃ c, Ie.cls d = c := ⟨_, rfl⟩
  rw [hc] at CL c4
  by_cases hn : c = 4
  · have E : Hid (9221120237041090560 = Ie.dnd d) := by rw [Hid, Ie.dnd, if_pos (c4.1 hn)]
    subst hn
    clear hc c4
    go_enter Tryz.func36, Tryz.ntmps36
    go_wp2_with fail
    refine CL.out.mono ?_
    rintro e w' ⟨rfl, rfl⟩
    go_wp2_with fail
    go_ret
    exact ⟨i_retU E.out, rfl⟩
  · have ok : Ie.okd d = true := by
      cases h : Ie.okd d
      · exact absurd (c4.2 h) hn
      · rfl
    have hn' : (c == 4) = false := by rw [beq_eq_false_iff_ne]; exact hn
    have E : Hid (Ie.dnd d = Ie.ng (Ie.upd (Ie.ng d))) := by rw [Hid, Ie.dnd, ok, if_neg (by decide)]
    have b1 := Ie.ng_bd d h0 h1
    have b2 := Ie.upd_bd _ b1.1 b1.2
    have N1 := hid (neg_any d w h0 h1)
    have U1 := hid (up_any _ w b1.1 b1.2)
    have N2 := hid (neg_any _ w b2.1 b2.2)
    clear hc c4 ok hn b1 b2
    go_enter Tryz.func36, Tryz.ntmps36
    go_wp2_with fail
    refine CL.out.mono ?_
    rintro e w' ⟨rfl, rfl⟩
    go_wp2_with fail
    refine N1.out.mono ?_
    rintro e w' ⟨rfl, rfl⟩
    go_wp2_with fail
    refine U1.out.mono ?_
    rintro e w' ⟨rfl, rfl⟩
    go_wp2_with fail
    refine N2.out.mono ?_
    rintro e w' ⟨rfl, rfl⟩
    go_wp2_with fail
    go_ret
    exact ⟨i_retU E.out.symm, rfl⟩
end Go.Proofs.YtobiapniidaibaaGreatDoor

/-
  ieee: Abs.
-/
namespace Go.Proofs.YtobiapniidaibaaGreatDoor
open Go Go.RowKit Go.Deep

set_option maxRecDepth 100000 in
theorem abs_any (d : Int) (w : World) (h0 : 0 ≤ d) (h1 : d < 18446744073709551616) :
    Calls Tryz.prog 32 #[.int .u64 d] w fun e w' => e = .returned (.int .u64 (d % 9223372036854775808)) ∧ w' = w := by
  have B := Ib.sign_andNot d h0 h1
  go_enter Tryz.func32, Tryz.ntmps32
  go_wp2
  go_ret
  exact ⟨rfl, rfl⟩
end Go.Proofs.YtobiapniidaibaaGreatDoor
