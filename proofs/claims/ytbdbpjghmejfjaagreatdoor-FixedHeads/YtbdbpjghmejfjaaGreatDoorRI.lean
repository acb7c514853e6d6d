/-
  Texts put together: FNat, FLawA, FNearN, FCl2, FHeadsN, FLawB.
-/
import Derived.Test.YtbdbpjghmejfjaaGreatDoorRF
import Derived.Test.YtbdbpjghmejfjaaGreatDoorRB
import Derived.Test.YtbdbpjghmejfjaaGreatDoorRH
import Derived.Test.YtbdbpjghmejfjaaGreatDoorBitW
import Derived.Test.YtbdbpjghmejfjaaGreatDoorRG
import Derived.BigQuiet
namespace Go.Proofs.YtbdbpjghmejfjaaGreatDoor
open Go Go.RowKit Go.Deep

/-- A number in its limbs, which fits. -/
structure Nn (w : World) (p : Option Addr) (os : List Int) (x : Int) : Prop where
  ans : ∃ B, Ans B w p os x
  fit : x < Nm.pw 4096

theorem Nn.of {B : Nat} {w : World} {p : Option Addr} {os : List Int} {x : Int} (h : Ans B w p os x) (hx : x < Nm.pw 4096) : Nn w p os x := ⟨⟨B, h⟩, hx⟩
theorem Nn.arg {w : World} {p : Option Addr} {os : List Int} {x : Int} (h : Nn w p os x) : Arg w p os.length os.length os := by obtain ⟨B, A⟩ := h.ans; exact A.argT h.fit
theorem Nn.ts {w : World} {p : Option Addr} {os : List Int} {x : Int} (h : Nn w p os x) : Nm.tsize os ≤ 4096 := by obtain ⟨B, A⟩ := h.ans; exact A.tsT h.fit
theorem Nn.val {w : World} {p : Option Addr} {os : List Int} {x : Int} (h : Nn w p os x) : Nm.val os = x := by obtain ⟨B, A⟩ := h.ans; exact A.2.2.2.1
theorem Nn.on {w w' : World} {p : Option Addr} {os : List Int} {x : Int} (h : Nn w p os x) (hB : Below w.heap.size w w') : Nn w' p os x := by obtain ⟨B, A⟩ := h.ans; exact ⟨⟨B, A.below hB (Nat.le_refl _)⟩, h.fit⟩

/-- What a call tells that makes a number. -/
def NnTold (x : Int) (w : World) (e : Ending) (w' : World) : Prop := ∃ r os, e = .returned (.tuple #[.slice r (List.length os) (List.length os), .int .i64 0]) ∧ Nn w' r os x ∧ Below w.heap.size w w'

theorem nmul_any {w : World} {p q : Option Addr} {os zs : List Int} {x y : Int} (A : Nn w p os x) (C : Nn w q zs y) (h : x * y < Nm.pw 4096) :
    Calls Tryz.prog 31 #[.slice p (List.length os) (List.length os), .slice q (List.length zs) (List.length zs)] w fun e w' => NnTold (x * y) w e w' := by
  refine (mul_ok p q _ _ _ _ os zs w A.arg C.arg A.ts C.ts (by rw [A.val, C.val]; exact h)).mono ?_
  rintro e w' ⟨r, ys, rfl, R, hB⟩
  rw [A.val, C.val] at R
  exact ⟨r, ys, rfl, .of R h, hB⟩

theorem nshl_any {w : World} {p : Option Addr} {os : List Int} {x k : Int} {n : Nat} (A : Nn w p os x) (hk : k = (n : Int)) (h : x * 2 ^ n < Nm.pw 4096) :
    Calls Tryz.prog 15 #[.slice p (List.length os) (List.length os), .int .i64 k] w fun e w' => NnTold (x * 2 ^ n) w e w' := by
  refine (fshl_any p _ _ os k n w A.arg A.ts hk (by rw [A.val]; exact h)).mono ?_
  rintro e w' ⟨r, ys, rfl, R, hB⟩
  rw [A.val] at R
  exact ⟨r, ys, rfl, .of R h, hB⟩

theorem nsub_any {w : World} {p q : Option Addr} {os zs : List Int} {x y : Int} (A : Nn w p os x) (C : Nn w q zs y) (y0 : 0 ≤ y) (h : y ≤ x) :
    Calls Tryz.prog 16 #[.slice p (List.length os) (List.length os), .slice q (List.length zs) (List.length zs)] w fun e w' => NnTold (x - y) w e w' := by
  refine (sub_ok p q _ _ _ _ os zs w A.arg C.arg A.ts (by rw [A.val, C.val]; exact h)).mono ?_
  rintro e w' ⟨r, ys, rfl, R, hB⟩
  rw [A.val, C.val] at R
  exact ⟨r, ys, rfl, .of R (by have := A.fit; omega), hB⟩

theorem nsub_low {w : World} {p q : Option Addr} {os zs : List Int} {x y : Int} (A : Nn w p os x) (C : Nn w q zs y) (h : x < y) :
    Calls Tryz.prog 16 #[.slice p (List.length os) (List.length os), .slice q (List.length zs) (List.length zs)] w fun e w' => e = .returned (.tuple #[.slice none 0 0, .int .i64 10]) ∧ Below w.heap.size w w' :=
  sub_below p q _ _ _ _ os zs w A.arg C.arg A.ts C.ts (by rw [A.val, C.val]; exact h)

theorem ncmp_any {w : World} {p q : Option Addr} {os zs : List Int} {x y : Int} (A : Nn w p os x) (C : Nn w q zs y) :
    Calls Tryz.prog 17 #[.slice p (List.length os) (List.length os), .slice q (List.length zs) (List.length zs)] w fun e w' => e = .returned (.int .i64 (cmpI x y)) ∧ Below w.heap.size w w' := by
  have := cmp_any p q _ _ _ _ os zs w A.arg C.arg
  rw [A.val, C.val] at this
  exact this

theorem nbit_any {w : World} {p : Option Addr} {os : List Int} {x : Int} (A : Nn w p os x) :
    Calls Tryz.prog 18 #[.slice p (List.length os) (List.length os), .int .i64 0] w fun e w' => e = .returned (.int .i64 (x % 2)) ∧ w' = w := by
  have := bit_any p _ _ os 0 0 w A.arg (by omega) rfl
  rw [A.val, Int.pow_zero, Int.ediv_one] at this
  exact this

theorem nread_any {s : ByteArray} {xs : List Int} (w : World) (hs : Str s xs) (hl : xs.length ≤ 20000) (hd : Digs xs) (h0 : xs ≠ []) :
    Calls Tryz.prog 13 #[.string s] w fun e w' => ∃ r os, e = .returned (.tuple #[.slice r (List.length os) (List.length os), .int .i64 0, .int .i64 0]) ∧ Nn w' r os (dv xs) ∧ Below w.heap.size w w' := by
  have hv : dv xs < Nm.pw 4096 := Int.lt_trans (dv_bd hd).2 (fp10_pw hl)
  refine (read_any s xs w hs (by omega) hd h0 hv).mono ?_
  rintro e w' ⟨r, os, rfl, A, hB⟩
  exact ⟨r, os, rfl, .of A hv, hB⟩

theorem npow10_any (k : Int) (n : Nat) (w : World) (hk : k = (n : Int)) (hn : n ≤ 20000) :
    Calls Tryz.prog 29 #[.int .i64 k] w fun e w' => NnTold (10 ^ n) w e w' := by
  refine (fpow10_ok k n w hk hn).mono ?_
  rintro e w' ⟨r, os, rfl, A, hB⟩
  exact ⟨r, os, rfl, .of A (fp10_pw hn), hB⟩

theorem u64_pw {x : Int} (h : x < 18446744073709551616) : x < Nm.pw 4096 :=
  Int.lt_trans (show x < 10 ^ 20 by rw [show (10 : Int) ^ 20 = 100000000000000000000 by decide]; omega) (fp10_pw (by omega))

theorem nfrom_any (x : Int) (w : World) (h0 : 0 ≤ x) (h1 : x < 18446744073709551616) :
    Calls Tryz.prog 33 #[.int .u64 x] w fun e w' => ∃ r os, e = .returned (.slice r (List.length os) (List.length os)) ∧ Nn w' r os x ∧ Below w.heap.size w w' := by
  refine (fromUint_any x w h0 h1).mono ?_
  rintro e w' ⟨r, os, rfl, A, hB⟩
  exact ⟨r, os, rfl, .of A (u64_pw h1), hB⟩

/-- A literal of one limb. -/
theorem nlit (w : World) {x : Int} (h0 : 0 < x) (h1 : x < 18446744073709551616) : Nn (w.alloc (.cells #[.int .u64 x] 24)) (some ⟨w.heap.size, 0, none⟩) [x] x :=
  .of (B := w.heap.size) ⟨(Own.alloc w [x]).lies, limb_one ⟨by omega, h1⟩, by simp [Nm.tsize]; omega, by simp [Nm.val], fun a h => by cases h; exact Nat.le_refl _⟩ (u64_pw h1)
end Go.Proofs.YtbdbpjghmejfjaaGreatDoor

namespace Go.Proofs.YtbdbpjghmejfjaaGreatDoor
open Go Go.RowKit Go.Deep

theorem fnt_abs (d : Int) : decide (d % 9223372036854775808 < 9218868437227405312) = Ie.fnt d := by
  unfold Ie.fnt Ie.cls Ie.fld
  by_cases h : d % 9223372036854775808 < 9218868437227405312
  · rw [decide_eq_true h]
    symm
    rw [decide_eq_true_iff]
    split
    · split <;> omega
    · rw [if_neg (by omega)]; omega
  · rw [decide_eq_false h]
    symm
    rw [decide_eq_false_iff_not]
    rw [if_neg (by omega), if_pos (by omega)]
    split <;> omega

set_option maxRecDepth 100000 in
theorem lfinite_any (d : Int) (w : World) (h0 : 0 ≤ d) (h1 : d < 18446744073709551616) :
    Calls Tryz.prog 11 #[.int .u64 d] w fun e w' => e = .returned (.bool (Ie.fnt d)) ∧ w' = w := by
  have B := Ib.sign_andNot d h0 h1
  have E := hid (fnt_abs d)
  generalize d % 9223372036854775808 = a at *
  clear h0 h1
  go_enter Tryz.func11, Tryz.ntmps11
  go_wp2_with fail
  go_ret
  exact ⟨fretB E.out, rfl⟩

namespace Fx
def top (d : Int) (n : Nat) : Int := Ie.dm d * 10 ^ n * 2 ^ (Ie.de d).toNat
def dn (d : Int) : Nat := (-(Ie.de d)).toNat
theorem top_room {m : Int} {n k : Nat} (m0 : 0 ≤ m) (m1 : m < 9007199254740992) : m * 10 ^ n < 10 ^ (20 + n) ∧ m * 10 ^ n * 2 ^ k < 10 ^ (20 + n + k) := by
  have a1 : m * 10 ^ n ≤ 9007199254740992 * 10 ^ n := Int.mul_le_mul_of_nonneg_right (by omega) (Int.le_of_lt (p_pos n))
  have a2 : (10 : Int) ^ (20 + n) = 100000000000000000000 * 10 ^ n := by rw [Int.pow_add]; rfl
  have a3 := p_pos n
  have b : m * 10 ^ n < 10 ^ (20 + n) := by omega
  refine ⟨b, ?_⟩
  rw [Int.pow_add _ (20 + n) k]
  have c1 := f2_10 k
  have c0 : (0 : Int) < 2 ^ k := Int.pow_pos (by omega)
  have c2 : m * 10 ^ n * 2 ^ k < 10 ^ (20 + n) * 2 ^ k := Int.mul_lt_mul_of_pos_right b c0
  have c3 : (10 : Int) ^ (20 + n) * 2 ^ k ≤ 10 ^ (20 + n) * 10 ^ k := Int.mul_le_mul_of_nonneg_left c1 (Int.le_of_lt (p_pos _))
  omega
end Fx

def ScaledTold (d : Int) (n : Nat) (w : World) (e : Ending) (w' : World) : Prop :=
  ∃ r os, e = .returned (.tuple #[.slice r (List.length os) (List.length os), .int .i64 (Fx.dn d : Int)]) ∧ Nn w' r os (Fx.top d n) ∧ Below w.heap.size w w'

set_option maxRecDepth 100000 in
set_option maxHeartbeats 4000000 in
theorem scaled_any (d : Int) (n : Nat) (w : World) (h0 : 0 ≤ d) (h1 : d < 18446744073709551616) (hf : Ie.fnt d = true) (hn : n ≤ 5000) :
    Calls Tryz.prog 14 #[.int .u64 d, .int .i64 (n : Int)] w fun e w' => ScaledTold d n w e w' := by
  have D := hid (decode_any d w h0 h1)
  obtain ⟨m0, m1, e0, e1, -⟩ := Ie.fdec d (of_decide_eq_true hf)
  have PT := hid (fun wx : World => npow10_any (n : Int) n wx rfl (by omega))
  have FU := hid (fun wx : World => nfrom_any (Ie.dm d) wx m0 (by omega))
  have HR := hid (Fx.top_room (m := Ie.dm d) (n := n) (k := (Ie.de d).toNat) m0 m1)
  have FIN : Hid (∀ (w' : World) (r : Option Addr) (os : List Int) (y : Int), y = (Fx.dn d : Int) → Nn w' r os (Ie.dm d * 10 ^ n * 2 ^ (Ie.de d).toNat) → Below w.heap.size w w' → ScaledTold d n w (.returned (.tuple #[.slice r (List.length os) (List.length os), .int .i64 y])) w') := fun w' r os y hy h hB => ⟨r, os, by rw [hy], h, hB⟩
  unfold Fx.dn at FIN
  simp only [partsOf] at D
  generalize decide (9223372036854775808 ≤ d) = neg at *
  generalize Ie.dm d = m at *
  generalize Ie.de d = x at *
  generalize Ie.cls d = c at *
  clear h0 h1 hf
  have MU : Hid (∀ (wx : World) (p q : Option Addr) (os zs : List Int), Nn wx p os m → Nn wx q zs (10 ^ n) → Calls Tryz.prog 31 #[.slice p (List.length os) (List.length os), .slice q (List.length zs) (List.length zs)] wx fun e w' => NnTold (m * 10 ^ n) wx e w') :=
    fun wx p q os zs A C => nmul_any A C (Int.lt_trans HR.out.1 (fp10_pw (by omega)))
  have SH : Hid (∀ (wx : World) (p : Option Addr) (os : List Int), 0 ≤ x → Nn wx p os (m * 10 ^ n) → Calls Tryz.prog 15 #[.slice p (List.length os) (List.length os), .int .i64 x] wx fun e w' => NnTold (m * 10 ^ n * 2 ^ x.toNat) wx e w') :=
    fun wx p os hx A => nshl_any A (by omega) (Int.lt_trans HR.out.2 (fp10_pw (by omega)))
  have TZ : Hid (x < 0 → m * 10 ^ n * 2 ^ x.toNat = m * 10 ^ n) := fun h => by rw [show x.toNat = 0 by omega, Int.pow_zero, Int.mul_one]
  clear HR
  generalize m * 10 ^ n = M at *
  generalize M * 2 ^ x.toNat = Y at *
  generalize (10 : Int) ^ n = G at *
  go_enter Tryz.func14, Tryz.ntmps14
  go_wp2_with fail
  refine D.out.mono ?_
  rintro e w1 ⟨rfl, hB1⟩
  have HB1 := hid hB1
  clear hB1 D
  go_upto_region 2 with fail
  have hb := HB1.out.trans ((alloc_b w1 (.cells #[.bool neg, .int .i64 c, .int .u64 m, .int .i64 x] 57)).mono HB1.out.size)
  have P := Row4.new w1 57 (.bool neg) (.int .i64 c) (.int .u64 m) (.int .i64 x)
  obtain ⟨SS, KS, CS, BS, MS⟩ := state (fun w' => w'.cell? ⟨w1.heap.size, 2, none⟩ = some (.int .u64 m) ∧ w'.cell? ⟨w1.heap.size, 3, none⟩ = some (.int .i64 x)) w ((Stays.cell _ _).and (Stays.cell _ _))
  have S0 := hid (MS.out _ ⟨P.cells.1.2.2.1, P.cells.1.2.2.2⟩ hb)
  clear P hb HB1 MS
  generalize w1.alloc (.cells #[.bool neg, .int .i64 c, .int .u64 m, .int .i64 x] 57) = wA at *
  generalize w1.heap.size = b at *
  go_wp2_with fail
  refine (PT.out _).mono ?_
  rintro e w2 ⟨q, zs, rfl, A2, B2⟩
  have S2 := hid (KS.out _ _ S0.out B2)
  have HA2 := hid A2
  obtain ⟨p2, p3⟩ := CS.out _ S2.out
  clear A2 B2 S0 PT
  go_wp2_with fail
  refine (FU.out _).mono ?_
  rintro e w3 ⟨p, os, rfl, A3, B3⟩
  have S3 := hid (KS.out _ _ S2.out B3)
  have M3 := hid (MU.out w3 p q os zs A3 (HA2.out.on B3))
  clear A3 B3 S2 HA2 FU MU p2 p3
  obtain ⟨p2, p3⟩ := CS.out _ S3.out
  go_wp2_with fail
  refine M3.out.mono ?_
  rintro e w4 ⟨r, ys, rfl, A4, B4⟩
  have S4 := hid (KS.out _ _ S3.out B4)
  have HA4 := hid A4
  clear A4 B4 S3 M3 p2 p3
  obtain ⟨p2, p3⟩ := CS.out _ S4.out
  by_cases hx : 0 ≤ x
  · have S5 := hid (SH.out w4 r ys hx HA4.out)
    have ZR : Hid (0 = ((-x).toNat : Int)) := by show _ = _; omega
    clear SH TZ
    go_wp2_with fail
    refine S5.out.mono ?_
    rintro e w5 ⟨r5, y5, rfl, A5, B5⟩
    have K := hid (FIN.out w5 r5 y5 0 ZR.out A5 ((BS.out _ S4.out).trans (B5.mono (BS.out _ S4.out).size)))
    clear p2 p3 A5 B5 S5 FIN
    go_wp2_with fail
    go_ret2
    exact K.out
  · have TZ2 := TZ.out (by omega)
    subst TZ2
    have K := hid (fun nq : Nat => FIN.out (w4.drewN nq) r ys (-x) (by omega) (HA4.out.on (below_drewN (Below.refl _ _) nq)) (below_drewN (BS.out _ S4.out) nq))
    clear SH TZ FIN
    go_upto_region 7 with fail
    go_quiet (fail)
    go_wp2_with fail
    go_ret2
    exact K.out _
end Go.Proofs.YtbdbpjghmejfjaaGreatDoor

namespace Go.Proofs.YtbdbpjghmejfjaaGreatDoor
open Go Go.RowKit Go.Deep
namespace Fx

/-- Twice the way to the number is below the unit, or just it, and the number is even. -/
def Nr (w A D : Int) : Prop := 2 * (w * D - A) ≤ D ∧ 2 * (A - w * D) ≤ D ∧ ((2 * (w * D - A) = D ∨ 2 * (A - w * D) = D) → w % 2 = 0)

theorem nr_exact {w A D : Int} (h : w * D = A) (hD : 0 < D) : Nr w A D := by
  refine ⟨by omega, by omega, ?_⟩
  rintro (c | c) <;> omega

theorem nr_of {w A D N T : Int} (hT : 0 < T) (hD : 0 < D) (h : N * D = A * T) (h1 : 2 * (w * T - N) ≤ T) (h2 : 2 * (N - w * T) ≤ T) (h3 : (2 * (w * T - N) = T ∨ 2 * (N - w * T) = T) → w % 2 = 0) : Nr w A D := by
  have e1 : (2 * (w * D - A)) * T = (2 * (w * T - N)) * D := by
    rw [Int.mul_assoc, Int.mul_assoc, Int.sub_mul, Int.sub_mul, ← h, Int.mul_right_comm]
  have e2 : (2 * (A - w * D)) * T = (2 * (N - w * T)) * D := by
    rw [Int.mul_assoc, Int.mul_assoc, Int.sub_mul, Int.sub_mul, ← h, Int.mul_right_comm w D T]
  refine ⟨?_, ?_, ?_⟩
  · refine Int.le_of_mul_le_mul_right ?_ hT
    rw [e1, Int.mul_comm D T]
    exact Int.mul_le_mul_of_nonneg_right h1 (Int.le_of_lt hD)
  · refine Int.le_of_mul_le_mul_right ?_ hT
    rw [e2, Int.mul_comm D T]
    exact Int.mul_le_mul_of_nonneg_right h2 (Int.le_of_lt hD)
  · intro c
    apply h3
    rcases c with c | c
    · left
      rw [c, Int.mul_comm] at e1
      exact (Int.eq_of_mul_eq_mul_right (by omega) e1).symm
    · right
      rw [c, Int.mul_comm] at e2
      exact (Int.eq_of_mul_eq_mul_right (by omega) e2).symm

/-- The first digits, rounded, as numbers. -/
theorem rn_near {xs : List Int} (hd : Digs xs) (k : Nat) :
    2 * (rn xs k * 10 ^ (xs.length - k) - dv xs) ≤ 10 ^ (xs.length - k) ∧ 2 * (dv xs - rn xs k * 10 ^ (xs.length - k)) ≤ 10 ^ (xs.length - k) ∧
    ((2 * (rn xs k * 10 ^ (xs.length - k) - dv xs) = 10 ^ (xs.length - k) ∨ 2 * (dv xs - rn xs k * 10 ^ (xs.length - k)) = 10 ^ (xs.length - k)) → rn xs k % 2 = 0) := by
  have e : dv xs = dv (xs.take k) * 10 ^ (xs.length - k) + dv (xs.drop k) := by
    conv => lhs; rw [← List.take_append_drop k xs, dv_append, List.length_drop]
  have b := dv_bd (ds := xs.drop k) (fun d h => hd d (List.mem_of_mem_drop h))
  rw [List.length_drop] at b
  unfold rn up
  generalize dv (xs.take k) = K at *
  generalize dv (xs.drop k) = R at *
  generalize (10 : Int) ^ (xs.length - k) = T at *
  by_cases c : T < 2 * R ∨ 2 * R = T ∧ K % 2 = 1
  · rw [decide_eq_true c, if_pos rfl, Int.add_mul, Int.one_mul, e]
    refine ⟨by omega, by omega, ?_⟩
    intro h
    rcases c with c | c <;> omega
  · rw [decide_eq_false c, if_neg Bool.false_ne_true, Int.add_zero, e]
    refine ⟨by omega, by omega, ?_⟩
    intro h
    omega

theorem W_digs {d : Int} (hf : Ie.fnt d = true) (n : Nat) : Digs (W d n) := by
  have hx := (X_digs hf).1
  intro x h
  rcases List.mem_append.1 h with h | h
  · have := List.eq_of_mem_replicate h; omega
  · unfold kp at h
    split at h
    · cases h
    · split at h
      · rcases List.mem_append.1 h with h | h
        · exact hx x h
        · have := List.eq_of_mem_replicate h; omega
      · exact rd_digs _ _ x h
theorem dv_W (d : Int) (n : Nat) : dv (W d n) = dv (kp (X d) ((X d).length + P d + n)) := by
  unfold W
  rw [dv_append, dv_zeros, Int.zero_mul, Int.zero_add]

/-- All powers of the double's value in one row. -/
theorem ex_pow {m e : Int} {xs : List Int} {E : Int} (hm : 0 < m) (he : -1074 ≤ e) (h : Ex m e xs E) : dv xs * 10 ^ (E + 1074).toNat * 2 ^ (-e).toNat = m * 2 ^ e.toNat * 10 ^ 1074 := by
  rw [h.eq hm, F5]
  have e1 : (e + 1074).toNat + (-e).toNat = e.toNat + 1074 := by omega
  have e2 : (2 : Int) ^ (e + 1074).toNat * 2 ^ (-e).toNat = 2 ^ e.toNat * 2 ^ 1074 := by rw [← Int.pow_add, ← Int.pow_add, e1]
  generalize 1074 = z at *
  rw [show (10 : Int) = 2 * 5 from rfl, Int.mul_pow]
  generalize (2 : Int) ^ (e + 1074).toNat = x1 at *
  generalize (2 : Int) ^ (-e).toNat = x2 at *
  generalize (2 : Int) ^ e.toNat = x3 at *
  generalize (2 : Int) ^ z = x4 at *
  generalize (5 : Int) ^ z = x5 at *
  rw [show m * x1 * x5 * x2 = m * (x1 * x2) * x5 by ac_rfl, e2]
  ac_rfl

theorem near_W {d : Int} (hf : Ie.fnt d = true) (n : Nat) : Nr (dv (W d n)) (top d n) (2 ^ dn d) := by
  obtain ⟨m0, m1, e0, e1, _⟩ := Ie.fdec d (of_decide_eq_true hf)
  have hD : (0 : Int) < 2 ^ dn d := Int.pow_pos (by omega)
  obtain ⟨r1, r2, r3, r4, r5⟩ := X_room hf
  rw [dv_W]
  have hx := (X_digs hf).1
  rcases (show Ie.dm d = 0 ∨ 0 < Ie.dm d by omega) with hz | hz
  · obtain ⟨a, b⟩ := X_zero hf hz
    rw [a, b]
    apply nr_exact _ hD
    have e : kp [48] (([48] : List Int).length + 0 + n) = 48 :: List.replicate n 48 := by
      have := kp_full (xs := [48]) (c := n + 1) (by simp)
      rw [show (([48] : List Int).length : Int) + 0 + n = ((n + 1 : Nat) : Int) by simp; omega, this]
      simp
    rw [e, show 48 :: List.replicate n 48 = List.replicate (n + 1) (48 : Int) from rfl, dv_zeros, top, hz]
    simp
  · have q := ex_pow hz e0 (X_ex hf)
    obtain ⟨a, ha⟩ : ∃ a : Nat, (P d + 1074).toNat = a := ⟨_, rfl⟩
    rw [ha] at q
    have q2 : dv (X d) * 10 ^ a * 2 ^ dn d * 10 ^ n = top d n * 10 ^ 1074 := by
      rw [dn, q, top]
      generalize (10 : Int) ^ 1074 = z
      ac_rfl
    rcases (show 0 ≤ P d + n ∨ P d + n < 0 by omega) with c | c
    · obtain ⟨j, hj⟩ : ∃ j : Nat, P d + n = (j : Int) := ⟨(P d + n).toNat, by omega⟩
      have e : (X d).length + P d + n = (((X d).length + j : Nat) : Int) := by omega
      rw [e, kp_full (by omega), Nat.add_sub_cancel_left, dv_append, dv_zeros, List.length_replicate, Int.add_zero]
      apply nr_exact _ hD
      have e2 : a + n = j + 1074 := by omega
      have e3 : (10 : Int) ^ a * 10 ^ n = 10 ^ j * 10 ^ 1074 := by rw [← Int.pow_add, ← Int.pow_add, e2]
      refine Int.eq_of_mul_eq_mul_right (a := 10 ^ 1074) (by have := p_pos 1074; omega) ?_
      rw [← q2]
      generalize (10 : Int) ^ 1074 = z at *
      rw [show dv (X d) * 10 ^ j * 2 ^ dn d * z = dv (X d) * 2 ^ dn d * (10 ^ j * z) by ac_rfl, ← e3]
      ac_rfl
    · obtain ⟨r, hr⟩ : ∃ r : Nat, -(P d + n) = (r : Int) := ⟨(-(P d + n)).toNat, by omega⟩
      have hN : dv (X d) * 2 ^ dn d = top d n * 10 ^ r := by
        have e2 : a + n + r = 1074 := by omega
        have e3 : (10 : Int) ^ (a + n) * 10 ^ r = 10 ^ 1074 := by rw [← Int.pow_add, e2]
        refine Int.eq_of_mul_eq_mul_right (a := 10 ^ (a + n)) (by have := p_pos (a + n); omega) ?_
        rw [Int.mul_assoc (top d n), Int.mul_comm (10 ^ r), e3, ← q2, Int.pow_add]
        ac_rfl
      rcases (show 0 ≤ (X d).length + P d + n ∨ (X d).length + P d + n < 0 by omega) with g | g
      · obtain ⟨k, hk⟩ : ∃ k : Nat, (X d).length + P d + n = (k : Int) := ⟨((X d).length + P d + n).toNat, by omega⟩
        have hkl : k < (X d).length := by omega
        rw [hk, kp_cut hkl, rd_dv hx (by omega)]
        have := rn_near hx k
        rw [show (X d).length - k = r by omega] at this
        exact nr_of (p_pos r) hD hN this.1 this.2.1 this.2.2
      · rw [kp_neg g]
        have b := (dv_bd hx).2
        have b0 := (dv_bd hx).1
        have l : (10 : Int) ^ ((X d).length + 1) ≤ 10 ^ r := p_le (by omega)
        rw [Int.pow_succ] at l
        have pp := p_pos (X d).length
        have z : dv [] = 0 := rfl
        rw [z]
        refine nr_of (N := dv (X d)) (p_pos r) hD hN ?_ ?_ ?_ <;> (generalize (10 : Int) ^ (X d).length = x1 at *; generalize (10 : Int) ^ r = x2 at *; omega)

theorem dv_W_room {d : Int} (hf : Ie.fnt d = true) {n : Nat} (hn : n ≤ 4200) : (W d n).length ≤ 6000 := by
  obtain ⟨r1, r2, r3, r4, r5⟩ := X_room hf
  have := kp_len_le (xs := X d) (c := (X d).length + P d + n) (m := 5000) (by omega) (by omega)
  unfold W
  rw [List.length_append, List.length_replicate]
  omega
end Fx
end Go.Proofs.YtbdbpjghmejfjaaGreatDoor

namespace Go.Proofs.YtbdbpjghmejfjaaGreatDoor
open Go Go.RowKit Go.Deep
namespace Fx

theorem fnt125 : Ie.fnt 4593671619917905920 = true := by decide
theorem pl125 : rf 4593671619917905920 2 0 = 0 ∧ pA 4593671619917905920 2 = [48] ∧ pB 4593671619917905920 2 = [49, 50] := by
  have r : rf 4593671619917905920 2 0 = 0 := by decide
  have w : W 4593671619917905920 2 = [48, 49, 50] := by
    unfold W
    rw [c125.1, c125.2]
    decide
  refine ⟨r, ?_, ?_⟩
  · rw [pA, if_pos r, show (2 : Int).toNat = 2 from rfl, w]
    decide
  · rw [pB, if_pos r, show (2 : Int).toNat = 2 from rfl, w]
    decide

theorem head_of_low {ds : List Int} {n : Nat} (h : Digs ds) (hn : ds.length = n + 1) (hl : 10 ^ n ≤ dv ds) : ds.getD 0 0 ≠ 48 := by
  match ds, hn with
  | x :: ys, hn =>
    intro c
    simp at c
    subst c
    have b := (dv_bd (ds := ys) (fun d hd => h d (by simp [hd]))).2
    have e : ys.length = n := by simpa using hn
    rw [dv_cons, e] at hl
    rw [e] at b
    omega

/-- The rounded digits begin with a digit that is no zero. -/
theorem rd_head {xs : List Int} (h : Nml xs) {k : Nat} (hk0 : 0 < k) (hk : k ≤ xs.length) : (rd xs k).getD 0 0 ≠ 48 := by
  obtain ⟨j, rfl⟩ : ∃ j, k = j + 1 := ⟨k - 1, by omega⟩
  have dk : Digs (xs.take (j + 1)) := fun d g => h.digs d (List.mem_of_mem_take g)
  have lk : (xs.take (j + 1)).length = j + 1 := by rw [List.length_take]; omega
  have low := head_low dk lk (by have := h.head; simpa [List.getD] using this)
  have b := rn_bd h.digs hk
  have v := rd_dv h.digs hk
  have l := rd_len xs (j + 1)
  have rl : 10 ^ j ≤ rn xs (j + 1) := by unfold rn; split <;> omega
  by_cases c : rn xs (j + 1) = 10 ^ (j + 1)
  · rw [if_pos c] at l
    exact head_of_low (rd_digs _ _) l (by omega)
  · rw [if_neg c] at l
    exact head_of_low (rd_digs _ _) l (by omega)

theorem W_head {d : Int} (hf : Ie.fnt d = true) (n : Nat) (h : n + 1 < (W d n).length) : (W d n).getD 0 0 ≠ 48 := by
  obtain ⟨m0, m1, e0, e1, _⟩ := Ie.fdec d (of_decide_eq_true hf)
  have hl : (W d n).length = (n + 1 - (kp (X d) ((X d).length + P d + n)).length) + (kp (X d) ((X d).length + P d + n)).length := by
    unfold W
    rw [List.length_append, List.length_replicate]
  have hk : n + 1 < (kp (X d) ((X d).length + P d + n)).length := by omega
  have e : W d n = kp (X d) ((X d).length + P d + n) := by
    unfold W
    rw [show n + 1 - (kp (X d) ((X d).length + P d + n)).length = 0 by omega]
    rfl
  rw [e]
  rcases (show Ie.dm d = 0 ∨ 0 < Ie.dm d by omega) with hz | hz
  · obtain ⟨a, b⟩ := X_zero hf hz
    rw [a, b] at hk
    have e : kp [48] (([48] : List Int).length + 0 + n) = 48 :: List.replicate n 48 := by
      have := kp_full (xs := [48]) (c := n + 1) (by simp)
      rw [show (([48] : List Int).length : Int) + 0 + n = ((n + 1 : Nat) : Int) by simp; omega, this]
      simp
    rw [e] at hk
    simp at hk
  · have nm := (X_ex hf).nml hz
    generalize (X d).length + P d + n = c at *
    rcases (show c < 0 ∨ 0 ≤ c by omega) with g | g
    · rw [kp_neg g] at hk
      simp at hk
    · obtain ⟨k, rfl⟩ := Int.eq_ofNat_of_zero_le g
      rcases Nat.lt_or_ge k (X d).length with g | g
      · rw [kp_cut g] at hk ⊢
        apply rd_head nm _ (by omega)
        rw [rd_len] at hk
        split at hk <;> omega
      · rw [kp_full g]
        have := nm.head
        obtain ⟨j, hj⟩ := nm.len
        match hx : X d, hj with
        | x :: ys, _ => rw [hx] at this; simpa using this

theorem pA_facts {d : Int} {n : Nat} (hf : Ie.fnt d = true) (hn : n ≤ 4200) :
    pA d n ++ pB d n = W d n ∧ (pB d n).length = n ∧ pA d n ≠ [] ∧ Digs (pA d n) ∧ Digs (pB d n) ∧ (pA d n).length ≤ 6000 ∧ (1 < (pA d n).length → (pA d n).getD 0 0 ≠ 48) := by
  have r : rf d n 0 = 0 := rf_zero.2 ⟨hf, by omega, by omega⟩
  have wl := W_len d n
  have wr := dv_W_room hf hn
  have wd := W_digs hf n
  have wh := W_head hf n
  unfold pA pB
  rw [if_pos r, if_pos r, Int.toNat_natCast]
  refine ⟨List.take_append_drop _ _, ?_, ?_, fun x h => wd x (List.mem_of_mem_take h), fun x h => wd x (List.mem_of_mem_drop h), ?_, ?_⟩
  · rw [List.length_drop]; omega
  · intro c
    have := congrArg List.length c
    rw [List.length_take, List.length_nil] at this
    omega
  · rw [List.length_take]; omega
  · intro c
    rw [List.length_take] at c
    rw [Nm.getD_take, if_pos (by omega)]
    exact wh (by omega)
end Fx
end Go.Proofs.YtbdbpjghmejfjaaGreatDoor

namespace Go.Proofs.YtbdbpjghmejfjaaGreatDoor
open Go Go.RowKit Go.Deep
namespace Fx

theorem rn_carry {xs : List Int} (hd : Digs xs) {k : Nat} (hk : k < xs.length) (h : rn xs (k + 1) = 10 ^ (k + 1)) : rn xs k = 10 ^ k := by
  have dk : Digs (xs.take (k + 1)) := fun d g => hd d (List.mem_of_mem_take g)
  have lk : (xs.take (k + 1)).length = k + 1 := by rw [List.length_take]; omega
  have b := dv_bd dk
  rw [lk] at b
  have T : dv (xs.take (k + 1)) = 10 ^ (k + 1) - 1 := by unfold rn at h; split at h <;> omega
  have e1 := take_last lk
  have x1 := digs_getD dk (show k < (xs.take (k + 1)).length by omega)
  rw [List.take_take, show min k (k + 1) = k by omega] at e1
  generalize hx : (xs.take (k + 1)).getD k 0 = x at *
  rw [e1, dv_snoc] at T
  have b2 := dv_bd (ds := xs.take k) (fun d g => hd d (List.mem_of_mem_take g))
  rw [List.length_take, Nat.min_eq_left (by omega)] at b2
  rw [Int.pow_succ] at T
  have T1 : dv (xs.take k) = 10 ^ k - 1 := by omega
  have T2 : x = 57 := by omega
  have e2 : xs.drop k = 57 :: xs.drop (k + 1) := by
    rw [List.drop_eq_getElem_cons hk]
    congr 1
    rw [Nm.getD_take, if_pos (by omega)] at hx
    rw [← T2, ← hx]
    simp [List.getD, hk]
  have u : up xs k = true := by
    unfold up
    rw [decide_eq_true_iff]
    left
    rw [e2, dv_cons, List.length_drop, show xs.length - k = (xs.length - (k + 1)) + 1 by omega, Int.pow_succ]
    have := (dv_bd (ds := xs.drop (k + 1)) (fun d g => hd d (List.mem_of_mem_drop g))).1
    have := p_pos (xs.length - (k + 1))
    omega
  unfold rn
  rw [u, if_pos rfl, T1]
  omega

theorem tx_ten (k : Nat) : tx (k + 1) (10 ^ k) = 49 :: List.replicate k 48 := by
  have l : (49 :: List.replicate k (48 : Int)).length = k + 1 := by simp
  have d : Digs (49 :: List.replicate k (48 : Int)) := by
    intro x h
    rcases List.mem_cons.1 h with rfl | h
    · omega
    · have := List.eq_of_mem_replicate h; omega
  have v : dv (49 :: List.replicate k (48 : Int)) = 10 ^ k := by
    rw [dv_cons, dv_zeros, List.length_replicate]
    omega
  have := eq_tx d
  rw [l, v] at this
  exact this.symm

/-- What Figures tells of a double that is not 0. -/
theorem fig_facts {d : Int} {k : Nat} (hf : Ie.fnt d = true) (hm : 0 < Ie.dm d) (h1 : 1 ≤ k) (h2 : k ≤ 4200) :
    (gS d k).length = k ∧ Digs (gS d k) ∧ (gS d k).getD 0 0 ≠ 48 ∧ -324 ≤ gK d k ∧ gK d k ≤ 308 ∧
    (∀ q : Nat, (q : Int) = k - 1 - gK d k → ∃ z, W d q = List.replicate z 48 ++ gS d k) := by
  have r : rf d k 1 = 0 := rf_zero.2 ⟨hf, by omega, by omega⟩
  obtain ⟨m0, m1, e0, e1, _⟩ := Ie.fdec d (of_decide_eq_true hf)
  have ex := X_ex hf
  have nm := ex.nml hm
  obtain ⟨r1, r2, r3⟩ := ex.room hm m1 e1
  obtain ⟨-, -, p3, p4, p5⟩ := X_room hf
  have rX : (X d).length + P d ≤ 309 := r2
  unfold gS gK
  rw [if_pos r, if_pos r, Int.toNat_natCast]
  rcases Nat.lt_or_ge k (X d).length with g | g
  · rw [kp_cut g]
    have hl := rd_len (X d) k
    have hh := rd_head nm (show 0 < k by omega) (show k ≤ (X d).length by omega)
    have dd := rd_digs (X d) k
    obtain ⟨j, rfl⟩ : ∃ j, k = j + 1 := ⟨k - 1, by omega⟩
    by_cases c : rn (X d) (j + 1) = 10 ^ (j + 1)
    · rw [if_pos c] at hl
      have rdv : rd (X d) (j + 1) = 49 :: List.replicate (j + 1) 48 := by unfold rd; rw [c, if_pos rfl, tx_ten]
      have lt308 : (X d).length + P d ≠ 309 := by
        intro hE
        have b := r3 hE
        have dk : Digs ((X d).take (j + 1)) := fun x g => nm.digs x (List.mem_of_mem_take g)
        have lk : ((X d).take (j + 1)).length = j + 1 := by rw [List.length_take]; omega
        have T : 10 ^ (j + 1) - 1 ≤ dv ((X d).take (j + 1)) := by unfold rn at c; split at c <;> omega
        have e : dv (X d) = dv ((X d).take (j + 1)) * 10 ^ ((X d).length - (j + 1)) + dv ((X d).drop (j + 1)) := by
          conv => lhs; rw [← List.take_append_drop (j + 1) (X d), dv_append, List.length_drop]
        have b2 := (dv_bd (ds := (X d).drop (j + 1)) (fun x g => nm.digs x (List.mem_of_mem_drop g))).1
        have pz := p_pos ((X d).length - (j + 1))
        have f1 : (10 ^ (j + 1) - 1) * 10 ^ ((X d).length - (j + 1)) ≤ dv ((X d).take (j + 1)) * 10 ^ ((X d).length - (j + 1)) := Int.mul_le_mul_of_nonneg_right T (Int.le_of_lt pz)
        have f2 : (X d).length - 1 = j + ((X d).length - (j + 1)) := by omega
        rw [f2, Int.pow_add] at b
        have f3 : ((9 : Int) * 10 ^ j) * 10 ^ ((X d).length - (j + 1)) ≤ (10 ^ (j + 1) - 1) * 10 ^ ((X d).length - (j + 1)) := by
          refine Int.mul_le_mul_of_nonneg_right ?_ (Int.le_of_lt pz)
          rw [Int.pow_succ]
          have := p_pos j
          omega
        have f4 : 0 < 10 ^ j * (10 : Int) ^ ((X d).length - (j + 1)) := Int.mul_pos (p_pos j) pz
        rw [Int.mul_assoc] at f3
        generalize 10 ^ j * (10 : Int) ^ ((X d).length - (j + 1)) = y at *
        omega
      rw [if_pos (by rw [hl]; omega), rdv]
      have tk : (49 :: List.replicate (j + 1) (48 : Int)).take (j + 1) = 49 :: List.replicate j 48 := by
        rw [List.take_succ_cons, List.take_replicate, Nat.min_eq_left (by omega)]
      rw [tk]
      refine ⟨by simp, ?_, by simp, by omega, by omega, ?_⟩
      · intro x h
        rcases List.mem_cons.1 h with rfl | h
        · omega
        · have := List.eq_of_mem_replicate h; omega
      · intro q hq
        refine ⟨q + 1 - (j + 1), ?_⟩
        have cq : ((X d).length : Int) + P d + q = (j : Int) := by omega
        unfold W
        rw [cq, kp_cut (by omega)]
        have rj := rn_carry nm.digs (show j < (X d).length by omega) c
        have rdj : rd (X d) j = 49 :: List.replicate j 48 := by unfold rd; rw [rj, if_pos rfl, tx_ten]
        rw [rdj]
        simp
    · rw [if_neg c] at hl
      rw [if_neg (by rw [hl]; omega), List.take_of_length_le (by omega)]
      refine ⟨hl, dd, hh, by omega, by omega, ?_⟩
      intro q hq
      refine ⟨q + 1 - (j + 1), ?_⟩
      have cq : ((X d).length : Int) + P d + q = ((j + 1 : Nat) : Int) := by omega
      unfold W
      rw [cq, kp_cut g, hl]
  · rw [kp_full g]
    have hl : (X d ++ List.replicate (k - (X d).length) 48).length = k := by rw [List.length_append, List.length_replicate]; omega
    rw [if_neg (by rw [hl]; omega), List.take_of_length_le (by omega)]
    refine ⟨hl, ?_, ?_, by omega, by omega, ?_⟩
    · intro x h
      rcases List.mem_append.1 h with h | h
      · exact nm.digs x h
      · have := List.eq_of_mem_replicate h; omega
    · have := nm.head
      obtain ⟨j, hj⟩ := nm.len
      match hx : X d, hj with
      | x :: ys, _ => rw [hx] at this; simpa using this
    · intro q hq
      refine ⟨q + 1 - k, ?_⟩
      have cq : ((X d).length : Int) + P d + q = (k : Int) := by omega
      unfold W
      rw [cq, kp_full g, hl]

theorem fig_zero {d : Int} {k : Nat} (hf : Ie.fnt d = true) (hm : Ie.dm d = 0) (h1 : 1 ≤ k) (h2 : k ≤ 4200) : gS d k = List.replicate k 48 ∧ gK d k = 0 := by
  have r : rf d k 1 = 0 := rf_zero.2 ⟨hf, by omega, by omega⟩
  obtain ⟨a, b⟩ := X_zero hf hm
  have e : kp [48] (k : Int) = List.replicate k 48 := by
    rw [kp_full (by simp; omega)]
    obtain ⟨j, rfl⟩ : ∃ j, k = j + 1 := ⟨k - 1, by omega⟩
    rw [List.replicate_succ]
    simp
  unfold gS gK
  rw [if_pos r, if_pos r, a, b, e, Int.toNat_natCast]
  simp

theorem fnt9995 : Ie.fnt 4652002910794678272 = true := by decide
theorem fg9995 : rf 4652002910794678272 3 1 = 0 ∧ gS 4652002910794678272 3 = [49, 48, 48] ∧ gK 4652002910794678272 3 = 3 := by
  have r : rf 4652002910794678272 3 1 = 0 := by decide
  refine ⟨r, ?_, ?_⟩
  · rw [gS, if_pos r, c9995.1]
    decide
  · rw [gK, if_pos r, c9995.1, c9995.2]
    decide
end Fx
end Go.Proofs.YtbdbpjghmejfjaaGreatDoor

namespace Go.Proofs.YtbdbpjghmejfjaaGreatDoor
open Go Go.RowKit Go.Deep

set_option maxRecDepth 100000 in
set_option maxHeartbeats 1000000 in
theorem ldigits_any (s : ByteArray) (xs : List Int) (w : World) (hs : Str s xs) (hd : Digs xs) (hl : xs.length ≤ 100000) :
    Calls Tryz.prog 12 #[.string s] w fun e w' => e = .returned (.bool true) ∧ w' = w := by
  have hz := hs.size
  obtain ⟨n, hn⟩ : ∃ n, xs.length = n := ⟨_, rfl⟩
  rw [hn] at hz hl
  have HX : Hid (∀ k, k < n → ∃ x : Int, 48 ≤ x ∧ x ≤ 57 ∧ ∀ h : k < s.size, ((s[k]'h).toNat : Int) = x) := by
    intro k hk
    have b := digs_at hd k (by omega)
    exact ⟨_, b.1, b.2, fun h => hs.at k h⟩
  have hnb : (n : Int) ≤ 100000 := by omega
  clear hs hd hn hl
  go_enter Tryz.func12, Tryz.ntmps12
  go_wp2_with fail
  go_loop [3] (fun t => ∃ k : Nat, k ≤ n ∧ t = .int .i64 k) (fun t => n - (intOf t).toNat)
  case atStart => exact ⟨0, Nat.zero_le _, rfl⟩
  case round =>
    obtain ⟨k, hk, rfl⟩ := hrel
    by_cases hlt : k < n
    · obtain ⟨x, x0, x1, hx⟩ := HX.out k hlt
      have hki : (k : Int) < (n : Int) := by omega
      go_wp2_with fail
      go_round
      case rel => exact ⟨k + 1, by omega, by go_num⟩
      case measure => simp [intOf]; omega
    · have hki : ¬ (k : Int) < (n : Int) := by omega
      go_wp2_with fail
      go_ret
      exact ⟨rfl, rfl⟩
end Go.Proofs.YtbdbpjghmejfjaaGreatDoor
