/-
  Texts put together: FLawA, ZPut, ZDecA.
-/
import Derived.Test.YtbdbpjghmejfjaaDoorRH
import Derived.Test.YtbdbpjghmejfjaaDoorRG
import Derived.BigQuiet
import Derived.Test.YtbdbpjghmejfjaaDoorRC
namespace Go.Proofs.YtbdbpjghmejfjaaDoor
open Go Go.RowKit Go.Deep

theorem fnt_abs (d : Int) : decide (d % 9223372036854775808 < 9218868437227405312) = Ie.fnt d := by
  unfold Ie.fnt Ie.cls Ie.fld
  by_cases h : d % 9223372036854775808 < 9218868437227405312
  · rw [decide_eq_true h]
    symm
    rw [decide_eq_true_iff]
    split
    · split <;> omega
    · rw [if_neg (by omega)]; omega
  · rw [decide_eq_false h]
    symm
    rw [decide_eq_false_iff_not]
    rw [if_neg (by omega), if_pos (by omega)]
    split <;> omega

set_option maxRecDepth 100000 in
theorem lfinite_any (d : Int) (w : World) (h0 : 0 ≤ d) (h1 : d < 18446744073709551616) :
    Calls Tryd.prog 8 #[.int .u64 d] w fun e w' => e = .returned (.bool (Ie.fnt d)) ∧ w' = w := by
  have B := Ib.sign_andNot d h0 h1
  have E := hid (fnt_abs d)
  generalize d % 9223372036854775808 = a at *
  clear h0 h1
  go_enter Tryd.func8, Tryd.ntmps8
  go_wp2_with fail
  go_ret
  exact ⟨fretB E.out, rfl⟩

namespace Fx
def top (d : Int) (n : Nat) : Int := Ie.dm d * 10 ^ n * 2 ^ (Ie.de d).toNat
def dn (d : Int) : Nat := (-(Ie.de d)).toNat
theorem top_room {m : Int} {n k : Nat} (m0 : 0 ≤ m) (m1 : m < 9007199254740992) : m * 10 ^ n < 10 ^ (20 + n) ∧ m * 10 ^ n * 2 ^ k < 10 ^ (20 + n + k) := by
  have a1 : m * 10 ^ n ≤ 9007199254740992 * 10 ^ n := Int.mul_le_mul_of_nonneg_right (by omega) (Int.le_of_lt (p_pos n))
  have a2 : (10 : Int) ^ (20 + n) = 100000000000000000000 * 10 ^ n := by rw [Int.pow_add]; rfl
  have a3 := p_pos n
  have b : m * 10 ^ n < 10 ^ (20 + n) := by omega
  refine ⟨b, ?_⟩
  rw [Int.pow_add _ (20 + n) k]
  have c1 := f2_10 k
  have c0 : (0 : Int) < 2 ^ k := Int.pow_pos (by omega)
  have c2 : m * 10 ^ n * 2 ^ k < 10 ^ (20 + n) * 2 ^ k := Int.mul_lt_mul_of_pos_right b c0
  have c3 : (10 : Int) ^ (20 + n) * 2 ^ k ≤ 10 ^ (20 + n) * 10 ^ k := Int.mul_le_mul_of_nonneg_left c1 (Int.le_of_lt (p_pos _))
  omega
end Fx

def ScaledTold (d : Int) (n : Nat) (w : World) (e : Ending) (w' : World) : Prop :=
  ∃ r os, e = .returned (.tuple #[.slice r (List.length os) (List.length os), .int .i64 (Fx.dn d : Int)]) ∧ Nn w' r os (Fx.top d n) ∧ Below w.heap.size w w'

set_option maxRecDepth 100000 in
set_option maxHeartbeats 4000000 in
theorem scaled_any (d : Int) (n : Nat) (w : World) (h0 : 0 ≤ d) (h1 : d < 18446744073709551616) (hf : Ie.fnt d = true) (hn : n ≤ 5000) :
    Calls Tryd.prog 12 #[.int .u64 d, .int .i64 (n : Int)] w fun e w' => ScaledTold d n w e w' := by
  have D := hid (decode_any d w h0 h1)
  obtain ⟨m0, m1, e0, e1, -⟩ := Ie.fdec d (of_decide_eq_true hf)
  have PT := hid (fun wx : World => npow10_any (n : Int) n wx rfl (by omega))
  have FU := hid (fun wx : World => nfrom_any (Ie.dm d) wx m0 (by omega))
  have HR := hid (Fx.top_room (m := Ie.dm d) (n := n) (k := (Ie.de d).toNat) m0 m1)
  have FIN : Hid (∀ (w' : World) (r : Option Addr) (os : List Int) (y : Int), y = (Fx.dn d : Int) → Nn w' r os (Ie.dm d * 10 ^ n * 2 ^ (Ie.de d).toNat) → Below w.heap.size w w' → ScaledTold d n w (.returned (.tuple #[.slice r (List.length os) (List.length os), .int .i64 y])) w') := fun w' r os y hy h hB => ⟨r, os, by rw [hy], h, hB⟩
  unfold Fx.dn at FIN
  simp only [partsOf] at D
  generalize decide (9223372036854775808 ≤ d) = neg at *
  generalize Ie.dm d = m at *
  generalize Ie.de d = x at *
  generalize Ie.cls d = c at *
  clear h0 h1 hf
  have MU : Hid (∀ (wx : World) (p q : Option Addr) (os zs : List Int), Nn wx p os m → Nn wx q zs (10 ^ n) → Calls Tryd.prog 11 #[.slice p (List.length os) (List.length os), .slice q (List.length zs) (List.length zs)] wx fun e w' => NnTold (m * 10 ^ n) wx e w') :=
    fun wx p q os zs A C => nmul_any A C (Int.lt_trans HR.out.1 (fp10_pw (by omega)))
  have SH : Hid (∀ (wx : World) (p : Option Addr) (os : List Int), 0 ≤ x → Nn wx p os (m * 10 ^ n) → Calls Tryd.prog 13 #[.slice p (List.length os) (List.length os), .int .i64 x] wx fun e w' => NnTold (m * 10 ^ n * 2 ^ x.toNat) wx e w') :=
    fun wx p os hx A => nshl_any A (by omega) (Int.lt_trans HR.out.2 (fp10_pw (by omega)))
  have TZ : Hid (x < 0 → m * 10 ^ n * 2 ^ x.toNat = m * 10 ^ n) := fun h => by rw [show x.toNat = 0 by omega, Int.pow_zero, Int.mul_one]
  clear HR
  generalize m * 10 ^ n = M at *
  generalize M * 2 ^ x.toNat = Y at *
  generalize (10 : Int) ^ n = G at *
  go_enter Tryd.func12, Tryd.ntmps12
  go_wp2_with fail
  refine D.out.mono ?_
  rintro e w1 ⟨rfl, hB1⟩
  have HB1 := hid hB1
  clear hB1 D
  go_upto_region 2 with fail
  have hb := HB1.out.trans ((alloc_b w1 (.cells #[.bool neg, .int .i64 c, .int .u64 m, .int .i64 x] 47)).mono HB1.out.size)
  have P := Row4.new w1 47 (.bool neg) (.int .i64 c) (.int .u64 m) (.int .i64 x)
  obtain ⟨SS, KS, CS, BS, MS⟩ := state (fun w' => w'.cell? ⟨w1.heap.size, 2, none⟩ = some (.int .u64 m) ∧ w'.cell? ⟨w1.heap.size, 3, none⟩ = some (.int .i64 x)) w ((Stays.cell _ _).and (Stays.cell _ _))
  have S0 := hid (MS.out _ ⟨P.cells.1.2.2.1, P.cells.1.2.2.2⟩ hb)
  clear P hb HB1 MS
  generalize w1.alloc (.cells #[.bool neg, .int .i64 c, .int .u64 m, .int .i64 x] 47) = wA at *
  generalize w1.heap.size = b at *
  go_wp2_with fail
  refine (PT.out _).mono ?_
  rintro e w2 ⟨q, zs, rfl, A2, B2⟩
  have S2 := hid (KS.out _ _ S0.out B2)
  have HA2 := hid A2
  obtain ⟨p2, p3⟩ := CS.out _ S2.out
  clear A2 B2 S0 PT
  go_wp2_with fail
  refine (FU.out _).mono ?_
  rintro e w3 ⟨p, os, rfl, A3, B3⟩
  have S3 := hid (KS.out _ _ S2.out B3)
  have M3 := hid (MU.out w3 p q os zs A3 (HA2.out.on B3))
  clear A3 B3 S2 HA2 FU MU p2 p3
  obtain ⟨p2, p3⟩ := CS.out _ S3.out
  go_wp2_with fail
  refine M3.out.mono ?_
  rintro e w4 ⟨r, ys, rfl, A4, B4⟩
  have S4 := hid (KS.out _ _ S3.out B4)
  have HA4 := hid A4
  clear A4 B4 S3 M3 p2 p3
  obtain ⟨p2, p3⟩ := CS.out _ S4.out
  by_cases hx : 0 ≤ x
  · have S5 := hid (SH.out w4 r ys hx HA4.out)
    have ZR : Hid (0 = ((-x).toNat : Int)) := by show _ = _; omega
    clear SH TZ
    go_wp2_with fail
    refine S5.out.mono ?_
    rintro e w5 ⟨r5, y5, rfl, A5, B5⟩
    have K := hid (FIN.out w5 r5 y5 0 ZR.out A5 ((BS.out _ S4.out).trans (B5.mono (BS.out _ S4.out).size)))
    clear p2 p3 A5 B5 S5 FIN
    go_wp2_with fail
    go_ret2
    exact K.out
  · have TZ2 := TZ.out (by omega)
    subst TZ2
    have K := hid (fun nq : Nat => FIN.out (w4.drewN nq) r ys (-x) (by omega) (HA4.out.on (below_drewN (Below.refl _ _) nq)) (below_drewN (BS.out _ S4.out) nq))
    clear SH TZ FIN
    go_upto_region 7 with fail
    go_quiet (fail)
    go_wp2_with fail
    go_ret2
    exact K.out _
end Go.Proofs.YtbdbpjghmejfjaaDoor

namespace Go.Proofs.YtbdbpjghmejfjaaDoor
open Go Go.RowKit Go.Deep

theorem ret_sg {neg : Bool} {a b : Int} (h : a = b) : Ending.returned (.tuple #[.int .u64 (Ie.sg neg a), .int .i64 0]) = .returned (.tuple #[.int .u64 (Ie.sg neg b), .int .i64 0]) := by rw [h]
end Go.Proofs.YtbdbpjghmejfjaaDoor

/-
  The document's put and Decode.
-/
namespace Go.Proofs.YtbdbpjghmejfjaaDoor
open Go Go.RowKit Go.Deep

set_option maxRecDepth 100000 in
set_option maxHeartbeats 4000000 in
theorem zdecode_any (d : Int) (w : World) (h0 : 0 ≤ d) (h1 : d < 18446744073709551616) :
    Calls Tryd.prog 30 #[.int .u64 d] w fun e w' => e = .returned (partsOf (decide (9223372036854775808 ≤ d)) (Ie.cls d) (Ie.dm d) (Ie.de d)) ∧ Below w.heap.size w w' := by
  obtain ⟨f, hf⟩ : ∃ f, d / 4503599627370496 % 2048 = f := ⟨_, rfl⟩
  obtain ⟨y, hy⟩ : ∃ y, d % 4503599627370496 = y := ⟨_, rfl⟩
  obtain ⟨sv, hs⟩ : ∃ sv, d / 9223372036854775808 = sv := ⟨_, rfl⟩
  have hf' : Ie.fld d = f := hf
  have fb0 : 0 ≤ f := by omega
  have fb1 : f < 2048 := by omega
  have y0 : 0 ≤ y := by omega
  have y1 : y < 4503599627370496 := by omega
  have sc : (sv = 0 ∧ decide (9223372036854775808 ≤ d) = false) ∨ (sv = 1 ∧ decide (9223372036854775808 ≤ d) = true) := by
    rcases (show d < 9223372036854775808 ∨ 9223372036854775808 ≤ d by omega) with h | h
    · left; exact ⟨by omega, by simp; omega⟩
    · right; exact ⟨by omega, by simp; omega⟩
  have hc : Ie.cls d = if f = 0 then (if y = 0 then 0 else 1) else if f = 2047 then (if y = 0 then 3 else 4) else 2 := by rw [Ie.cls, hf', hy]
  have hm : Ie.dm d = if Ie.cls d = 2 then 4503599627370496 + y else if Ie.cls d = 1 ∨ Ie.cls d = 4 then y else 0 := by rw [Ie.dm, hy]
  have he : Ie.de d = if Ie.cls d = 2 then f - 1075 else if Ie.cls d = 1 then -1074 else 0 := by rw [Ie.de, hf']
  rcases sc with ⟨hv, sn⟩ | ⟨hv, sn⟩ <;> rw [sn] <;> rw [hv] at hs <;> clear hv sn
  · by_cases a : f = 0
    · subst a
      by_cases b : y = 0
      · subst b
        rw [if_pos rfl, if_pos rfl] at hc
        rw [hm, he, hc]
        show Calls _ _ _ _ fun e w' => e = .returned (partsOf _ 0 0 0) ∧ _
        go_enter Tryd.func30, Tryd.ntmps30
        go_wp2_with fail
        (try simp only [Exit.inBlock, Exit.then])
        refine bodyPost_ret (results_cell_row rfl _ _ w.heap.size 47 _ (0, 0) _ rfl (heap_alloc_new _ _) Tryd.underlying47 rfl (by kernel_rfl)) rfl ?_
        exact ⟨rfl, Below.alloc (Below.refl _ _) (Nat.le_refl _) _⟩
      · have b' : (y == 0) = false := by rw [beq_eq_false_iff_ne]; exact b
        rw [if_pos rfl, if_neg b] at hc
        rw [hm, he, hc]
        show Calls _ _ _ _ fun e w' => e = .returned (partsOf _ 1 y (-1074)) ∧ _
        go_enter Tryd.func30, Tryd.ntmps30
        go_wp2_with fail
        (try simp only [Exit.inBlock, Exit.then])
        refine bodyPost_ret (results_cell_row rfl _ _ w.heap.size 47 _ (0, 0) _ rfl (heap_alloc_new _ _) Tryd.underlying47 rfl (by kernel_rfl)) rfl ?_
        exact ⟨rfl, Below.alloc (Below.refl _ _) (Nat.le_refl _) _⟩
    · have a' : (f == 0) = false := by rw [beq_eq_false_iff_ne]; exact a
      have ap : 0 < f := by omega
      by_cases a2 : f = 2047
      · subst a2
        by_cases b : y = 0
        · subst b
          rw [if_neg a, if_pos rfl, if_pos rfl] at hc
          rw [hm, he, hc]
          show Calls _ _ _ _ fun e w' => e = .returned (partsOf _ 3 0 0) ∧ _
          go_enter Tryd.func30, Tryd.ntmps30
          go_wp2_with fail
          (try simp only [Exit.inBlock, Exit.then])
          refine bodyPost_ret (results_cell_row rfl _ _ w.heap.size 47 _ (0, 0) _ rfl (heap_alloc_new _ _) Tryd.underlying47 rfl (by kernel_rfl)) rfl ?_
          exact ⟨rfl, Below.alloc (Below.refl _ _) (Nat.le_refl _) _⟩
        · have b' : (y == 0) = false := by rw [beq_eq_false_iff_ne]; exact b
          rw [if_neg a, if_pos rfl, if_neg b] at hc
          rw [hm, he, hc]
          show Calls _ _ _ _ fun e w' => e = .returned (partsOf _ 4 y 0) ∧ _
          go_enter Tryd.func30, Tryd.ntmps30
          go_wp2_with fail
          (try simp only [Exit.inBlock, Exit.then])
          refine bodyPost_ret (results_cell_row rfl _ _ w.heap.size 47 _ (0, 0) _ rfl (heap_alloc_new _ _) Tryd.underlying47 rfl (by kernel_rfl)) rfl ?_
          exact ⟨rfl, Below.alloc (Below.refl _ _) (Nat.le_refl _) _⟩
      · have a2' : (f == 2047) = false := by rw [beq_eq_false_iff_ne]; exact a2
        rw [if_neg a, if_neg a2] at hc
        rw [hm, he, hc]
        show Calls _ _ _ _ fun e w' => e = .returned (partsOf _ 2 (4503599627370496 + y) (f - 1075)) ∧ _
        go_enter Tryd.func30, Tryd.ntmps30
        go_wp2_with fail
        (try simp only [Exit.inBlock, Exit.then])
        refine bodyPost_ret (results_cell_row rfl _ _ w.heap.size 47 _ (0, 0) _ rfl (heap_alloc_new _ _) Tryd.underlying47 rfl (by kernel_rfl)) rfl ?_
        exact ⟨rfl, Below.alloc (Below.refl _ _) (Nat.le_refl _) _⟩
  · by_cases a : f = 0
    · subst a
      by_cases b : y = 0
      · subst b
        rw [if_pos rfl, if_pos rfl] at hc
        rw [hm, he, hc]
        show Calls _ _ _ _ fun e w' => e = .returned (partsOf _ 0 0 0) ∧ _
        go_enter Tryd.func30, Tryd.ntmps30
        go_wp2_with fail
        (try simp only [Exit.inBlock, Exit.then])
        refine bodyPost_ret (results_cell_row rfl _ _ w.heap.size 47 _ (0, 0) _ rfl (heap_alloc_new _ _) Tryd.underlying47 rfl (by kernel_rfl)) rfl ?_
        exact ⟨rfl, Below.alloc (Below.refl _ _) (Nat.le_refl _) _⟩
      · have b' : (y == 0) = false := by rw [beq_eq_false_iff_ne]; exact b
        rw [if_pos rfl, if_neg b] at hc
        rw [hm, he, hc]
        show Calls _ _ _ _ fun e w' => e = .returned (partsOf _ 1 y (-1074)) ∧ _
        go_enter Tryd.func30, Tryd.ntmps30
        go_wp2_with fail
        (try simp only [Exit.inBlock, Exit.then])
        refine bodyPost_ret (results_cell_row rfl _ _ w.heap.size 47 _ (0, 0) _ rfl (heap_alloc_new _ _) Tryd.underlying47 rfl (by kernel_rfl)) rfl ?_
        exact ⟨rfl, Below.alloc (Below.refl _ _) (Nat.le_refl _) _⟩
    · have a' : (f == 0) = false := by rw [beq_eq_false_iff_ne]; exact a
      have ap : 0 < f := by omega
      by_cases a2 : f = 2047
      · subst a2
        by_cases b : y = 0
        · subst b
          rw [if_neg a, if_pos rfl, if_pos rfl] at hc
          rw [hm, he, hc]
          show Calls _ _ _ _ fun e w' => e = .returned (partsOf _ 3 0 0) ∧ _
          go_enter Tryd.func30, Tryd.ntmps30
          go_wp2_with fail
          (try simp only [Exit.inBlock, Exit.then])
          refine bodyPost_ret (results_cell_row rfl _ _ w.heap.size 47 _ (0, 0) _ rfl (heap_alloc_new _ _) Tryd.underlying47 rfl (by kernel_rfl)) rfl ?_
          exact ⟨rfl, Below.alloc (Below.refl _ _) (Nat.le_refl _) _⟩
        · have b' : (y == 0) = false := by rw [beq_eq_false_iff_ne]; exact b
          rw [if_neg a, if_pos rfl, if_neg b] at hc
          rw [hm, he, hc]
          show Calls _ _ _ _ fun e w' => e = .returned (partsOf _ 4 y 0) ∧ _
          go_enter Tryd.func30, Tryd.ntmps30
          go_wp2_with fail
          (try simp only [Exit.inBlock, Exit.then])
          refine bodyPost_ret (results_cell_row rfl _ _ w.heap.size 47 _ (0, 0) _ rfl (heap_alloc_new _ _) Tryd.underlying47 rfl (by kernel_rfl)) rfl ?_
          exact ⟨rfl, Below.alloc (Below.refl _ _) (Nat.le_refl _) _⟩
      · have a2' : (f == 2047) = false := by rw [beq_eq_false_iff_ne]; exact a2
        rw [if_neg a, if_neg a2] at hc
        rw [hm, he, hc]
        show Calls _ _ _ _ fun e w' => e = .returned (partsOf _ 2 (4503599627370496 + y) (f - 1075)) ∧ _
        go_enter Tryd.func30, Tryd.ntmps30
        go_wp2_with fail
        (try simp only [Exit.inBlock, Exit.then])
        refine bodyPost_ret (results_cell_row rfl _ _ w.heap.size 47 _ (0, 0) _ rfl (heap_alloc_new _ _) Tryd.underlying47 rfl (by kernel_rfl)) rfl ?_
        exact ⟨rfl, Below.alloc (Below.refl _ _) (Nat.le_refl _) _⟩
end Go.Proofs.YtbdbpjghmejfjaaDoor
