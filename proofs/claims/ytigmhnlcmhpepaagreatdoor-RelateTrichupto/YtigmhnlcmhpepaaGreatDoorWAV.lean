/-
  Texts put together: NInBase, FDigits, FExact, FExact2, FAll, FClosed, FTop, NGood, SOne2, JNum, JSigned.
-/
import Derived.Test.YtigmhnlcmhpepaaGreatDoorWAT
import Derived.Test.YtigmhnlcmhpepaaGreatDoorWAD
import Derived.Test.YtigmhnlcmhpepaaGreatDoorWAJ
import Derived.Test.YtigmhnlcmhpepaaGreatDoorWAL
import Derived.Test.YtigmhnlcmhpepaaGreatDoorWAG
import Derived.Test.YtigmhnlcmhpepaaGreatDoorWAH
import Derived.Deep.RegionHeld3
import Derived.Test.YtigmhnlcmhpepaaGreatDoorWAI
import Derived.Test.YtigmhnlcmhpepaaGreatDoorJPad
import Derived.Laws.Concat
namespace Go.Proofs.YtigmhnlcmhpepaaGreatDoor
open Go.RowKit Go.Deep

def smallL : List Int := [48, 49, 50, 51, 52, 53, 54, 55, 56, 57, 97, 98, 99, 100, 101, 102, 103, 104, 105, 106, 107, 108, 109, 110, 111, 112, 113, 114, 115, 116, 117, 118, 119, 120, 121, 122]
def capL : List Int := [48, 49, 50, 51, 52, 53, 54, 55, 56, 57, 65, 66, 67, 68, 69, 70, 71, 72, 73, 74, 75, 76, 77, 78, 79, 80, 81, 82, 83, 84, 85, 86, 87, 88, 89, 90]
def lettersOf (up : Bool) : List Int := if up then capL else smallL

/-- What InBase tells. -/
inductive InIs (zs : List Int) (B : Int) (up : Bool) : List Int → Int → Prop
  | big : 4096 < Nm.tsize zs → InIs zs B up [] 2
  | base : Nm.tsize zs ≤ 4096 → (B < 2 ∨ 36 < B) → InIs zs B up [] 32
  | zero : Nm.tsize zs = 0 → 2 ≤ B → B ≤ 36 → InIs zs B up [48] 0
  | ok (L : Nat) : 0 < Nm.tsize zs → Nm.tsize zs ≤ 4096 → 2 ≤ B → B ≤ 36 → Nm.val zs < B ^ L → InIs zs B up (lets (lettersOf up) (Dn.strip (Dn.dg B L (Nm.val zs)))) 0

theorem blen_big {zs : List Int} (hl : Nm.Limbs zs) : ∃ L : Nat, blen zs = (L : Int) ∧ (262144 < (L : Int) ↔ 4096 < Nm.tsize zs) ∧ ((L : Int) = 0 ↔ Nm.tsize zs = 0) := by
  obtain ⟨L, l1, l2, l3, l4⟩ := blen_is zs hl
  refine ⟨L, l1, ?_, ?_⟩
  · by_cases h : 0 < Nm.tsize zs
    · have := l4 h
      omega
    · omega
  · by_cases h : 0 < Nm.tsize zs
    · have := l4 h
      omega
    · omega

set_option maxRecDepth 100000 in
set_option maxHeartbeats 4000000 in
theorem inBase_any (p : Option Addr) (n cap : Nat) (za : List Int) (B : Int) (up : Bool) (w : World) (ha : Arg w p n cap za) (hB0 : -9223372036854775808 ≤ B) (hB1 : B ≤ 9223372036854775807) :
    Calls Tryz.prog 180 #[.slice p n cap, .int .i64 B, .bool up] w fun e w' => ∃ s xs E, e = .returned (.tuple #[.string s, .int .i64 E]) ∧ Str s xs ∧ InIs za B up xs E ∧ Below w.heap.size w w' := by
  obtain ⟨L, hL, hbig, hzero⟩ := blen_big ha.2.2.2.2
  have BL := hid (bitLen_isT L p n cap za w ha hL)
  have Z : Hid (Str ⟨#[]⟩ []) := rfl
  by_cases h1 : 4096 < Nm.tsize za
  · have hLi : (262144 : Int) < (L : Int) := hbig.2 h1
    have F : Hid (InIs za B up [] 2) := .big h1
    clear ha hL hbig hzero h1
    go_enter Tryz.func180, Tryz.ntmps180
    go_wp2_with fail
    refine BL.out.mono ?_
    rintro e w' ⟨rfl, rfl⟩
    go_wp2_with fail
    go_ret2
    exact ⟨_, _, _, rfl, Z.out, F.out, Below.refl _ _⟩
  have hLi : (L : Int) ≤ 262144 := by have := hbig.1; omega
  by_cases h2 : B < 2 ∨ 36 < B
  · have F : Hid (InIs za B up [] 32) := .base (by omega) h2
    clear ha hL hbig hzero h1
    rcases h2 with h2 | h2
    · go_enter Tryz.func180, Tryz.ntmps180
      go_wp2_with fail
      refine BL.out.mono ?_
      rintro e w' ⟨rfl, rfl⟩
      go_wp2_with fail
      go_ret2
      exact ⟨_, _, _, rfl, Z.out, F.out, Below.refl _ _⟩
    · go_enter Tryz.func180, Tryz.ntmps180
      go_wp2_with fail
      refine BL.out.mono ?_
      rintro e w' ⟨rfl, rfl⟩
      go_wp2_with fail
      go_ret2
      exact ⟨_, _, _, rfl, Z.out, F.out, Below.refl _ _⟩
  have h3 : 2 ≤ B := by omega
  have h4 : B ≤ 36 := by omega
  by_cases h5 : Nm.tsize za = 0
  · have F : Hid (InIs za B up [48] 0) := .zero h5 h3 h4
    have Z2 : Hid (Str ⟨#[48]⟩ [48]) := rfl
    have hL0 : (L : Int) = 0 := hzero.2 h5
    obtain rfl : L = 0 := by omega
    clear ha hL hbig hzero h1 h2 h5
    go_enter Tryz.func180, Tryz.ntmps180
    go_wp2_with fail
    refine BL.out.mono ?_
    rintro e w' ⟨rfl, rfl⟩
    go_wp2_with fail
    refine BL.out.mono ?_
    rintro e w' ⟨rfl, rfl⟩
    go_wp2_with fail
    go_ret2
    exact ⟨_, _, _, rfl, Z2.out, F.out, Below.refl _ _⟩
  · have hL0 : ((L : Int) == 0) = false := by rw [beq_eq_false_iff_ne]; intro c; exact h5 (hzero.1 c)
    have hv : 0 < Nm.val za := by
      have e1 := Nm.tsize_zero_iff ha.2.2.2.2
      have e2 := (Nm.val_bd za ha.2.2.2.2).1
      omega
    have F : Hid (∀ s L, Nm.val za < B ^ L → Str s (lets (lettersOf up) (Dn.strip (Dn.dg B L (Nm.val za)))) → ∃ s' xs E, Ending.returned (.tuple #[.string s, .int .i64 0]) = .returned (.tuple #[.string s', .int .i64 E]) ∧ Str s' xs ∧ InIs za B up xs E) := fun s L hl hs => ⟨s, _, 0, rfl, hs, .ok L (by omega) (by omega) h3 h4 hl⟩
    have WR : Hid (∀ ls, Str ls (lettersOf up) → Calls Tryz.prog 196 #[.slice p n cap, .int .u64 B, .string ls] w fun e w' => (∃ s L, e = .returned (.string s) ∧ Nm.val za < B ^ L ∧ Str s (lets (lettersOf up) (Dn.strip (Dn.dg B L (Nm.val za))))) ∧ Below w.heap.size w w') :=
      fun ls hls => written_any p n cap za (lettersOf up) _ B ls w ha rfl (by omega) hv h3 h4 hls (by cases up <;> rfl)
    clear ha hL hbig hzero h1 h2 h5 hv
    cases up with
    | true =>
      have W2 := hid (WR.out ⟨#[48, 49, 50, 51, 52, 53, 54, 55, 56, 57, 65, 66, 67, 68, 69, 70, 71, 72, 73, 74, 75, 76, 77, 78, 79, 80, 81, 82, 83, 84, 85, 86, 87, 88, 89, 90]⟩ rfl)
      go_enter Tryz.func180, Tryz.ntmps180
      go_wp2_with fail
      refine BL.out.mono ?_
      rintro e w' ⟨rfl, rfl⟩
      go_wp2_with fail
      refine BL.out.mono ?_
      rintro e w' ⟨rfl, rfl⟩
      go_wp2_with fail
      refine W2.out.mono ?_
      rintro e w1 ⟨⟨s, M, rfl, hM, hs⟩, d1⟩
      have G := hid (F.out s M hM hs)
      have D := hid d1
      clear hM hs d1
      go_wp2_with fail
      go_ret2
      obtain ⟨s', xs, E, k1, k2, k3⟩ := G.out
      exact ⟨s', xs, E, k1, k2, k3, D.out⟩
    | false =>
      have W2 := hid (WR.out ⟨#[48, 49, 50, 51, 52, 53, 54, 55, 56, 57, 97, 98, 99, 100, 101, 102, 103, 104, 105, 106, 107, 108, 109, 110, 111, 112, 113, 114, 115, 116, 117, 118, 119, 120, 121, 122]⟩ rfl)
      go_enter Tryz.func180, Tryz.ntmps180
      go_wp2_with fail
      refine BL.out.mono ?_
      rintro e w' ⟨rfl, rfl⟩
      go_wp2_with fail
      refine BL.out.mono ?_
      rintro e w' ⟨rfl, rfl⟩
      go_wp2_with fail
      refine W2.out.mono ?_
      rintro e w1 ⟨⟨s, M, rfl, hM, hs⟩, d1⟩
      have G := hid (F.out s M hM hs)
      have D := hid d1
      clear hM hs d1
      go_wp2_with fail
      go_ret2
      obtain ⟨s', xs, E, k1, k2, k3⟩ := G.out
      exact ⟨s', xs, E, k1, k2, k3, D.out⟩
end Go.Proofs.YtigmhnlcmhpepaaGreatDoor

namespace Go.Proofs.YtigmhnlcmhpepaaGreatDoor
open Go Go.RowKit Go.Deep

theorem fp10_pw {j : Nat} (h : j ≤ 20000) : (10 : Int) ^ j < Nm.pw 4096 := by
  have h1 := Nat.pow_le_pow_left (show 10 ≤ 2 ^ 4 by decide) j
  rw [← Nat.pow_mul] at h1
  have e1 : ((10 ^ j : Nat) : Int) = 10 ^ j := by simp
  have e2 : ((2 ^ (4 * j) : Nat) : Int) = 2 ^ (4 * j) := by simp
  have h3 : (2 : Int) ^ (4 * j) < 2 ^ 262144 := by
    have h4 := Nm.two_mono (show 4 * j + 1 ≤ 262144 by omega)
    have h5 : (2 : Int) ^ (4 * j + 1) = 2 ^ (4 * j) * 2 := Int.pow_succ _ _
    have h6 : (0 : Int) < 2 ^ (4 * j) := Int.pow_pos (by omega)
    generalize (2 : Int) ^ 262144 = a at *
    omega
  rw [fpw_4096]
  omega

theorem f5_10 (n : Nat) : (5 : Int) ^ n ≤ 10 ^ n := by
  have h1 := Nat.pow_le_pow_left (show 5 ≤ 10 by decide) n
  have e1 : ((10 ^ n : Nat) : Int) = 10 ^ n := by simp
  have e2 : ((5 ^ n : Nat) : Int) = 5 ^ n := by simp
  omega
theorem f2_10 (n : Nat) : (2 : Int) ^ n ≤ 10 ^ n := by
  have h1 := Nat.pow_le_pow_left (show 2 ≤ 10 by decide) n
  have e1 : ((10 ^ n : Nat) : Int) = 10 ^ n := by simp
  have e2 : ((2 ^ n : Nat) : Int) = 2 ^ n := by simp
  omega

theorem fpow5_ok (k : Int) (n : Nat) (w : World) (hk : k = (n : Int)) (hn : n ≤ 20000) :
    Calls Tryz.prog 225 #[.int .i64 k] w fun e w' => ∃ r os, e = .returned (.tuple #[.slice r (List.length os) (List.length os), .int .i64 0]) ∧ Ans w.heap.size w' r os (5 ^ n) ∧ Below w.heap.size w w' := by
  refine (pow5_gives k n w hk (by omega)).mono ?_
  rintro e w' ⟨⟨_, r, os, rfl, A⟩ | ⟨h, _⟩, hB⟩
  · exact ⟨r, os, rfl, A, hB⟩
  · exact absurd (Int.lt_of_le_of_lt (f5_10 n) (fp10_pw hn)) (Int.not_lt.2 h)

/-- s writes T in base 10. -/
structure DigT (T : Int) (s : ByteArray) (xs : List Int) : Prop where
  str : Str s xs
  digs : Digs xs
  val : dv xs = T
  head : xs.getD 0 0 ≠ 48
  ne : xs ≠ []
  len : xs.length ≤ 3000

theorem small_dig : ∀ d : Int, 0 ≤ d → d < 10 → (lettersOf false).getD d.toNat 0 = d + 48 := by
  intro d h0 h1
  obtain ⟨n, rfl⟩ := Int.eq_ofNat_of_zero_le h0
  have : n < 10 := by omega
  match n, this with
  | 0, _ => rfl
  | 1, _ => rfl
  | 2, _ => rfl
  | 3, _ => rfl
  | 4, _ => rfl
  | 5, _ => rfl
  | 6, _ => rfl
  | 7, _ => rfl
  | 8, _ => rfl
  | 9, _ => rfl

theorem dig_lets {T : Int} {L K : Nat} {s : ByteArray} (h0 : 0 < T) (hL : T < 10 ^ L) (hK : K ≤ 2000) (hb : T < 10 ^ K) (hs : Str s (lets (lettersOf false) (Dn.strip (Dn.dg 10 L T)))) : DigT T s (lets (lettersOf false) (Dn.strip (Dn.dg 10 L T))) := by
  have mem : ∀ d ∈ Dn.strip (Dn.dg 10 L T), 0 ≤ d ∧ d < 10 := fun d hd => Dn.dg_mem (by omega) L T d (Dn.strip_mem hd)
  have e : lets (lettersOf false) (Dn.strip (Dn.dg 10 L T)) = (Dn.strip (Dn.dg 10 L T)).map (fun d => d + 48) := List.map_congr_left fun d hd => small_dig d (mem d hd).1 (mem d hd).2
  have v : Dn.tv 10 0 (Dn.strip (Dn.dg 10 L T)) = T := by rw [Dn.tv_strip]; exact Dn.tv_dg (by omega) L T (by omega) hL
  have ne : Dn.strip (Dn.dg 10 L T) ≠ [] := by
    intro c
    rw [c] at v
    simp [Dn.tv] at v
    omega
  have dg : Digs (lets (lettersOf false) (Dn.strip (Dn.dg 10 L T))) := by
    rw [e]
    intro d hd
    obtain ⟨x, hx, rfl⟩ := List.mem_map.1 hd
    have := mem x hx
    omega
  have dvT : dv (lets (lettersOf false) (Dn.strip (Dn.dg 10 L T))) = T := by
    rw [e]
    unfold dv
    rw [List.map_map, show ((fun d : Int => d - 48) ∘ fun d => d + 48) = id from funext fun d => by simp, List.map_id]
    exact v
  have hd : (lets (lettersOf false) (Dn.strip (Dn.dg 10 L T))).getD 0 0 ≠ 48 := by
    rw [e]
    match hm : Dn.strip (Dn.dg 10 L T), ne with
    | x :: ys, _ =>
      have := Dn.strip_head hm
      simp
      omega
  have nn : lets (lettersOf false) (Dn.strip (Dn.dg 10 L T)) ≠ [] := by rw [e]; simpa using ne
  refine ⟨hs, dg, dvT, hd, nn, ?_⟩
  obtain ⟨n, hn⟩ : ∃ n, (lets (lettersOf false) (Dn.strip (Dn.dg 10 L T))).length = n + 1 := ⟨(lets (lettersOf false) (Dn.strip (Dn.dg 10 L T))).length - 1, by have := List.length_pos_iff.2 nn; omega⟩
  have := Fx.head_low dg hn hd
  rw [dvT] at this
  have := Fx.p_lt (a := n) (b := K) (Int.lt_of_le_of_lt this hb)
  omega

set_option maxRecDepth 100000 in
theorem fdigits_any (p : Option Addr) (os : List Int) (B : Nat) (T : Int) (w : World) (K : Nat) (A : Ans B w p os T) (h0 : 0 < T) (hK : K ≤ 2000) (hb : T < 10 ^ K) :
    Calls Tryz.prog 213 #[.slice p (List.length os) (List.length os)] w fun e w' => ∃ s xs, e = .returned (.tuple #[.string s, .int .i64 0]) ∧ DigT T s xs ∧ Below w.heap.size w w' := by
  have hp : T < Nm.pw 4096 := Int.lt_trans hb (fp10_pw (by omega))
  have IB : Hid (Calls Tryz.prog 180 #[.slice p (List.length os) (List.length os), .int .i64 10, .bool false] w fun e w' => ∃ s xs, e = .returned (.tuple #[.string s, .int .i64 0]) ∧ DigT T s xs ∧ Below w.heap.size w w') := by
    refine (inBase_any p _ _ os 10 false w (A.argT hp) (by omega) (by omega)).mono ?_
    rintro e w' ⟨s, xs, E, rfl, hs, h, hB⟩
    have ts := A.tsT hp
    have hv : Nm.val os = T := A.2.2.2.1
    cases h with
    | big c => omega
    | base _ c => omega
    | zero c _ _ =>
      have := (Nm.tsize_zero_iff A.2.1).1 c
      omega
    | ok L c1 c2 c3 c4 c5 =>
      rw [hv] at c5 hs
      exact ⟨s, _, rfl, dig_lets h0 c5 hK hb hs, hB⟩
  clear A h0 hb hp hK
  go_enter Tryz.func213, Tryz.ntmps213
  go_wp2_with fail
  refine IB.out.mono ?_
  rintro e w' ⟨s, xs, rfl, D, hB⟩
  have HD := hid (And.intro D hB)
  clear D hB IB
  go_wp2_with fail
  go_ret2
  exact ⟨s, xs, rfl, HD.out.1, HD.out.2⟩
end Go.Proofs.YtigmhnlcmhpepaaGreatDoor

namespace Go.Proofs.YtigmhnlcmhpepaaGreatDoor
open Go Go.RowKit Go.Deep

theorem fprod_room {q : Int} {n : Nat} (q1 : q < 18446744073709551616) : q * 5 ^ n < 10 ^ (20 + n) := by
  have h1 := f5_10 n
  have h0 : (0 : Int) < 5 ^ n := Int.pow_pos (by omega)
  have h2 : q * 5 ^ n < 18446744073709551616 * 5 ^ n := Int.mul_lt_mul_of_pos_right q1 h0
  rw [Int.pow_add]
  have e : (10 : Int) ^ 20 = 100000000000000000000 := by decide
  rw [e]
  omega

set_option maxRecDepth 100000 in
theorem behind_any (p : Option Addr) (os : List Int) (B : Nat) (q k : Int) (n : Nat) (w : World) (A : Ans B w p os q) (q0 : 0 < q) (q1 : q < 18446744073709551616) (hk : k = (n : Int)) (hn : n ≤ 1074) :
    Calls Tryz.prog 212 #[.slice p (List.length os) (List.length os), .int .i64 k] w fun e w' => ∃ s xs, e = .returned (.string s) ∧ DigT (q * 5 ^ n) s xs ∧ Below w.heap.size w w' := by
  have F := hid (fpow5_ok k n w hk (by omega))
  have MU : Hid (∀ (w1 : World) (r : Option Addr) (zs : List Int), Below w.heap.size w w1 → Ans w.heap.size w1 r zs (5 ^ n) → Calls Tryz.prog 218 #[.slice p (List.length os) (List.length os), .slice r (List.length zs) (List.length zs)] w1 fun e w' => ∃ r os, e = .returned (.tuple #[.slice r (List.length os) (List.length os), .int .i64 0]) ∧ Ans w1.heap.size w' r os (q * 5 ^ n) ∧ Below w1.heap.size w1 w') := by
    intro w1 r zs hB A1
    have A0 := A.below hB (Nat.le_refl _)
    have r0 : q < Nm.pw 4096 := Int.lt_trans (show q < 10 ^ 20 by rw [show (10 : Int) ^ 20 = 100000000000000000000 by decide]; omega) (fp10_pw (by omega))
    have r1 : (5 : Int) ^ n < Nm.pw 4096 := Int.lt_of_le_of_lt (f5_10 n) (fp10_pw (by omega))
    have m := mul_ok p r _ _ _ _ os zs w1 (A0.argT r0) (A1.argT r1) (A0.tsT r0) (A1.tsT r1) (by rw [A0.2.2.2.1, A1.2.2.2.1]; exact Int.lt_trans (fprod_room q1) (fp10_pw (by omega)))
    rw [A0.2.2.2.1, A1.2.2.2.1] at m
    exact m
  have DG : Hid (∀ (w1 : World) (r : Option Addr) (zs : List Int) (B : Nat), Ans B w1 r zs (q * 5 ^ n) → Calls Tryz.prog 213 #[.slice r (List.length zs) (List.length zs)] w1 fun e w' => ∃ s xs, e = .returned (.tuple #[.string s, .int .i64 0]) ∧ DigT (q * 5 ^ n) s xs ∧ Below w1.heap.size w1 w') :=
    fun w1 r zs B A1 => fdigits_any r zs B _ w1 (20 + n) A1 (Int.mul_pos q0 (Int.pow_pos (by omega))) (by omega) (fprod_room q1)
  clear A q0 q1 hk hn
  generalize q * 5 ^ n = T at *
  generalize (5 : Int) ^ n = G at *
  go_enter Tryz.func212, Tryz.ntmps212
  go_wp2_with fail
  refine F.out.mono ?_
  rintro e w1 ⟨r, zs, rfl, A1, B1⟩
  have M1 := hid (MU.out w1 r zs B1 A1)
  have HB := hid B1
  clear A1 B1 MU F
  go_wp2_with fail
  refine M1.out.mono ?_
  rintro e w2 ⟨r2, z2, rfl, A2, B2⟩
  have D2 := hid (DG.out w2 r2 z2 _ A2)
  have HB2 := hid (HB.out.trans (B2.mono HB.out.size))
  clear A2 B2 M1 DG HB
  go_wp2_with fail
  refine D2.out.mono ?_
  rintro e w3 ⟨s, xs, rfl, D3, B3⟩
  have K := hid (And.intro D3 (HB2.out.trans (B3.mono HB2.out.size)))
  clear D3 B3 D2 HB2
  go_wp2_with fail
  go_ret
  exact ⟨s, xs, rfl, K.out.1, K.out.2⟩

/-- The digits of an odd number times a power of five: no zero is at their end. -/
theorem ex_odd {m e q : Int} {t n : Nat} {xs : List Int} {s : ByteArray} (hm : m = 2 ^ t * q) (q0 : 0 < q) (hq : q % 2 = 1) (he : -1074 ≤ e) (hn : (n : Int) = -(e + t)) (D : DigT (q * 5 ^ n) s xs) : Fx.Ex m e xs (e + t) := by
  have hm0 : 0 < m := by rw [hm]; exact Int.mul_pos (Int.pow_pos (by omega)) q0
  obtain ⟨L, hL⟩ : ∃ L, xs.length = L + 1 := ⟨xs.length - 1, by have := List.length_pos_iff.2 D.ne; omega⟩
  have odd : dv xs % 2 = 1 := by
    rw [D.val]
    have : ∀ k : Nat, (5 : Int) ^ k % 2 = 1 := by
      intro k
      induction k with
      | zero => rfl
      | succ k ih => rw [Int.pow_succ]; omega
    rw [Int.mul_emod, hq, this n]
    rfl
  refine ⟨by omega, fun c => by omega, fun _ => ⟨D.digs, D.ne, D.head, ?_⟩, fun _ => ?_⟩
  · have := Fx.dv_mod D.digs hL
    rw [hL, Nat.add_sub_cancel]
    omega
  · rw [D.val]
    obtain ⟨a, ha⟩ : ∃ a : Nat, (e + (t : Int) + 1074).toNat = a := ⟨_, rfl⟩
    obtain ⟨b, hb⟩ : ∃ b : Nat, (e + 1074).toNat = b := ⟨_, rfl⟩
    have e1 : a = t + b := by omega
    have e2 : 1074 = n + a := by omega
    rw [ha, hb, hm, Fx.F5, e2, Int.pow_add, e1, show (10 : Int) = 2 * 5 from rfl, Int.mul_pow, Int.pow_add 2]
    generalize (5 : Int) ^ n = x1
    generalize (5 : Int) ^ (t + b) = x2
    generalize (2 : Int) ^ t = x3
    generalize (2 : Int) ^ b = x4
    ac_rfl

/-- The digits of a whole number, without the zeros at their end. -/
theorem ex_whole {m e q : Int} {t n k : Nat} {xs : List Int} {s : ByteArray} (hm : m = 2 ^ t * q) (q0 : 0 < q) (he : -1074 ≤ e) (hn : (n : Int) = e + t) (D : DigT (q * 2 ^ n) s xs) (hk : k ≤ xs.length) (h0 : ∀ i, k ≤ i → i < xs.length → xs.getD i 0 = 48) (hl : 0 < k → xs.getD (k - 1) 0 ≠ 48) : Fx.Ex m e (xs.take k) (xs.length - k) := by
  have hm0 : 0 < m := by rw [hm]; exact Int.mul_pos (Int.pow_pos (by omega)) q0
  have := (Fx.ex_of (m := m) (e := e) (F := 0) hm0 D.digs D.head hk h0 hl (by omega) (by
    rw [D.val]
    obtain ⟨b, hb⟩ : ∃ b : Nat, (e + 1074).toNat = b := ⟨_, rfl⟩
    have e1 : n + 1074 = t + b := by omega
    have e2 : (2 : Int) ^ n * 2 ^ 1074 = 2 ^ t * 2 ^ b := by rw [← Int.pow_add, ← Int.pow_add, e1]
    rw [hb, hm, Fx.F5, show ((0 : Int) + 1074).toNat = 1074 from rfl]
    generalize 1074 = z at *
    rw [show (10 : Int) = 2 * 5 from rfl, Int.mul_pow]
    generalize (5 : Int) ^ z = x1
    generalize (2 : Int) ^ z = x2 at *
    rw [show q * 2 ^ n * (x2 * x1) = q * (2 ^ n * x2) * x1 by ac_rfl, e2]
    ac_rfl)).1
  rw [Int.zero_add] at this
  exact this
end Go.Proofs.YtigmhnlcmhpepaaGreatDoor

namespace Go.Proofs.YtigmhnlcmhpepaaGreatDoor
open Go Go.RowKit Go.Deep

/-- What exact tells. -/
def ExTold (d : Int) (w : World) (e : Ending) (w' : World) : Prop :=
  ∃ s, e = .returned (.tuple #[.string s, .int .i64 (Fx.ed (Ie.dm d) (Ie.de d))]) ∧ Str s (Fx.xd (Ie.dm d) (Ie.de d)) ∧ Below w.heap.size w w'

theorem ExTold.of {d : Int} {w w' : World} {s : ByteArray} {xs : List Int} {E : Int} (hm : 0 ≤ Ie.dm d) (h : Fx.Ex (Ie.dm d) (Ie.de d) xs E) (hs : Str s xs) (hB : Below w.heap.size w w') : ExTold d w (.returned (.tuple #[.string s, .int .i64 E])) w' := by
  obtain ⟨e1, e2⟩ := h.is hm
  exact ⟨s, by rw [e2], by rw [← e1]; exact hs, hB⟩

set_option maxRecDepth 100000 in
set_option maxHeartbeats 4000000 in
theorem exact_any (d : Int) (w : World) (hT : Tab w) (h0 : 0 ≤ d) (h1 : d < 18446744073709551616) (hf : Ie.cls d < 3) :
    Calls Tryz.prog 198 #[.int .u64 d] w fun e w' => ExTold d w e w' := by
  have D := hid (decode_any d w h0 h1)
  obtain ⟨m0, m1, e0, e1, mz⟩ := Ie.fdec d hf
  have FIN : Hid (∀ (w' : World) (s : ByteArray) (xs : List Int) (E : Int), Fx.Ex (Ie.dm d) (Ie.de d) xs E → Str s xs → Below w.heap.size w w' → ExTold d w (.returned (.tuple #[.string s, .int .i64 E])) w') := fun w' s xs E h hs hB => .of m0 h hs hB
  have HT := hid hT
  simp only [partsOf] at D
  generalize decide (9223372036854775808 ≤ d) = neg at *
  generalize Ie.dm d = m at *
  generalize Ie.de d = x at *
  generalize Ie.cls d = c at *
  clear hT h0 h1 hf
  by_cases hc : c = 0
  · subst hc
    have hm := mz.1 rfl
    subst hm
    have F0 : Hid (∀ (w' : World), Below w.heap.size w w' → ExTold d w (.returned (.tuple #[.string ⟨#[48]⟩, .int .i64 0])) w') := fun w' hB => FIN.out w' _ [48] 0 ⟨by omega, fun _ => ⟨rfl, rfl⟩, fun h => by omega, fun h => by omega⟩ rfl hB
    clear FIN mz HT
    go_enter Tryz.func198, Tryz.ntmps198
    go_wp2_with fail
    refine D.out.mono ?_
    rintro e w1 ⟨rfl, hB⟩
    have K := hid (F0.out _ (hB.trans ((alloc_b w1 (.cells #[.bool neg, .int .i64 0, .int .u64 0, .int .i64 x] 220)).mono hB.size)))
    clear hB F0 D
    go_wp2_with fail
    go_ret2
    exact K.out
  · have hc' : (c == 0) = false := by rw [beq_eq_false_iff_ne]; exact hc
    have hm : 0 < m := by rcases (show m = 0 ∨ 0 < m by omega) with h | h; exact absurd (mz.2 h) hc; exact h
    have TZ : Hid (∀ wx : World, Tab wx → Calls Tryz.prog 188 #[.int .u64 m] wx fun e w' => ∃ (t : Nat) (q : Int), e = .returned (.int .i64 t) ∧ t ≤ 63 ∧ Hid (m = 2 ^ t * q ∧ 0 < q ∧ q % 2 = 1) ∧ m / 2 ^ t = q ∧ 0 ≤ q ∧ q < 9007199254740992 ∧ w' = wx) := by
      intro wx hT
      refine (tz64 m wx hm (by omega) hT).mono ?_
      rintro e w' ⟨t, q, rfl, ht, hq, rfl⟩
      have hq' : m = 2 ^ t * (2 * q + 1) := hq
      have p2 : (0 : Int) < 2 ^ t := Int.pow_pos (by omega)
      have qp : 0 < 2 * q + 1 := by
        rcases (show 2 * q + 1 ≤ 0 ∨ 0 < 2 * q + 1 by omega) with h | h
        · have := Int.mul_nonpos_of_nonneg_of_nonpos (Int.le_of_lt p2) h
          omega
        · exact h
      have dv' : m / 2 ^ t = 2 * q + 1 := by rw [hq']; exact Int.mul_ediv_cancel_left _ (by omega)
      refine ⟨t, 2 * q + 1, rfl, ht, ⟨hq', qp, by omega⟩, dv', by omega, ?_, rfl⟩
      have : (1 : Int) * (2 * q + 1) ≤ 2 ^ t * (2 * q + 1) := Int.mul_le_mul_of_nonneg_right p2 (by omega)
      omega
    have XB := hid (And.intro e0 e1)
    clear mz hc hm
    go_enter Tryz.func198, Tryz.ntmps198
    go_wp2_with fail
    refine D.out.mono ?_
    rintro e w1 ⟨rfl, hB1⟩
    have HB1 := hid hB1
    clear hB1 D
    go_upto_region 4 with fail
    have hb := HB1.out.trans ((alloc_b w1 (.cells #[.bool neg, .int .i64 c, .int .u64 m, .int .i64 x] 220)).mono HB1.out.size)
    have P := Row4.new w1 220 (.bool neg) (.int .i64 c) (.int .u64 m) (.int .i64 x)
    obtain ⟨SS, KS, CS, BS, MS⟩ := state (fun w' => (w'.cell? ⟨w1.heap.size, 2, none⟩ = some (.int .u64 m) ∧ w'.cell? ⟨w1.heap.size, 3, none⟩ = some (.int .i64 x)) ∧ Tab w') w (((Stays.cell _ _).and (Stays.cell _ _)).and Stays.tab)
    have S0 := hid (MS.out _ ⟨⟨P.cells.1.2.2.1, P.cells.1.2.2.2⟩, HT.out.below hb⟩ hb)
    clear P hb HT HB1 MS
    generalize w1.alloc (.cells #[.bool neg, .int .i64 c, .int .u64 m, .int .i64 x] 220) = wA at *
    generalize w1.heap.size = b at *
    have CC : Hid (∀ wx : World, SS wx → (wx.cell? ⟨b, 2, none⟩ = some (.int .u64 m) ∧ wx.cell? ⟨b, 3, none⟩ = some (.int .i64 x))) := fun wx h => (CS.out wx h).1
    have T0 := hid (TZ.out _ (CS.out _ S0.out).2)
    obtain ⟨p2, p3⟩ := CC.out _ S0.out
    clear CS TZ
    go_wp2_with fail
    refine T0.out.mono ?_
    rintro e wz ⟨t, q, rfl, ht, HQ, dq, q0, q1, hz⟩
    replace hz := hz.symm
    subst hz
    have FU := hid (fun (wx : World) => fromUint_any q wx q0 (by omega))
    obtain ⟨y, hy⟩ : ∃ y, x + (t : Int) = y := ⟨_, rfl⟩
    have WK : IntKind.i64.wrap (x + (t : Int)) = y := by rw [IntKind.wrap_i64]; omega
    have WN : IntKind.i64.wrap y = y := by rw [IntKind.wrap_i64]; omega
    clear T0
    have S1 := hid (KS.out _ _ S0.out (drew_nil _))
    go_upto_region 5 with fail
    go_region_held3 (fun w' => w'.cell? ⟨b, 2, none⟩ = some (.int .u64 m) ∧ w'.cell? ⟨b, 3, none⟩ = some (.int .i64 x)) (first | (with_reducible exact CC.out _ S2.out) | (with_reducible exact CC.out _ S1.out)) (first
      | (go_at_call 144; refine (FU.out _).mono ?_; rintro e w2 ⟨p, os, rfl, A, hB⟩; have S2 := hid (KS.out _ _ S1.out hB); have A2 := hid A; clear hB A))
    all_goals
      by_cases hy0 : y < 0
      · obtain ⟨n, hn⟩ : ∃ n : Nat, -y = (n : Int) := ⟨(-y).toNat, by omega⟩
        have hn0 : (n : Int) ≤ 1074 := by omega
        have BH := hid (behind_any p os _ q (n : Int) n w2 A2.out HQ.out.2.1 (by omega) rfl (by omega))
        have KK : Hid (∀ (w3 : World) (s : ByteArray) (xs : List Int), DigT (q * 5 ^ n) s xs → Below w2.heap.size w2 w3 → ExTold d w (.returned (.tuple #[.string s, .int .i64 y])) w3) := by
          intro w3 s xs D hB
          refine FIN.out w3 s xs y ?_ D.str ((BS.out _ S2.out).trans (hB.mono (BS.out _ S2.out).size))
          rw [← hy]
          exact ex_odd HQ.out.1 HQ.out.2.1 HQ.out.2.2 XB.out.1 (by omega) D
        clear FIN A2 FU S0 S1 CC HQ dq hy WK p2 p3
        go_wp2_with fail
        refine BH.out.mono ?_
        rintro e w3 ⟨s, xs, rfl, D, hB⟩
        have K := hid (KK.out w3 s xs D hB)
        clear D hB KK BH
        go_wp2_with fail
        go_ret2
        exact K.out
      · obtain ⟨n, hn⟩ : ∃ n : Nat, y = (n : Int) := ⟨y.toNat, by omega⟩
        have hn0 : (n : Int) ≤ 1034 := by omega
        have room : q * 2 ^ n < 10 ^ (20 + n) := by
          have h1 := f2_10 n
          have h0 : (0 : Int) < 2 ^ n := Int.pow_pos (by omega)
          have h2 : q * 2 ^ n < 9007199254740992 * 2 ^ n := Int.mul_lt_mul_of_pos_right q1 h0
          rw [Int.pow_add]
          have e : (10 : Int) ^ 20 = 100000000000000000000 := by decide
          rw [e]
          omega
        have r0 : q < Nm.pw 4096 := Int.lt_trans (show q < 10 ^ 20 by rw [show (10 : Int) ^ 20 = 100000000000000000000 by decide]; omega) (fp10_pw (by omega))
        have SH := fshl_any p _ _ os (n : Int) n w2 (A2.out.argT r0) (A2.out.tsT r0) rfl (by rw [A2.out.2.2.2.1]; exact Int.lt_trans room (fp10_pw (by omega)))
        rw [A2.out.2.2.2.1] at SH
        have HS := hid SH
        have DG : Hid (∀ (w1 : World) (r : Option Addr) (zs : List Int) (B : Nat), Ans B w1 r zs (q * 2 ^ n) → Calls Tryz.prog 213 #[.slice r (List.length zs) (List.length zs)] w1 fun e w' => ∃ s xs, e = .returned (.tuple #[.string s, .int .i64 0]) ∧ DigT (q * 2 ^ n) s xs ∧ Below w1.heap.size w1 w') :=
          fun w1 r zs B A1 => fdigits_any r zs B _ w1 (20 + n) A1 (Int.mul_pos HQ.out.2.1 (Int.pow_pos (by omega))) (by omega) room
        have KK : Hid (∀ (w3 : World) (s s' : ByteArray) (xs : List Int) (k : Nat), DigT (q * 2 ^ n) s xs → Str s' (xs.take k) → k ≤ xs.length → (∀ i, k ≤ i → i < xs.length → xs.getD i 0 = 48) → (0 < k → xs.getD (k - 1) 0 ≠ 48) → Below w.heap.size w w3 → ExTold d w (.returned (.tuple #[.string s', .int .i64 ((s.size : Int) - (s'.size : Int))])) w3) := by
          intro w3 s s' xs k D hs hk g0 gl hB
          have z1 : s.size = xs.length := D.str.size
          have z2 : s'.size = k := by rw [hs.size, List.length_take]; omega
          rw [z1, z2]
          exact FIN.out w3 s' (xs.take k) _ (ex_whole HQ.out.1 HQ.out.2.1 XB.out.1 (by omega) D hk g0 gl) hs hB
        have hy1 : ¬ (n : Int) < 0 := by omega
        subst hn
        clear FIN A2 FU S0 S1 CC HQ dq hy WK p2 p3 SH room r0 hy0
        generalize q * 2 ^ n = T at *
        go_wp2_with fail
        refine HS.out.mono ?_
        rintro e w3 ⟨r, zs, rfl, A3, B3⟩
        have D3 := hid (DG.out w3 r zs _ A3)
        have HB3 := hid ((BS.out _ S2.out).trans (B3.mono (BS.out _ S2.out).size))
        clear A3 B3 HS DG
        go_wp2_with fail
        refine D3.out.mono ?_
        rintro e w4 ⟨s, xs, rfl, D4, B4⟩
        have HB4 := hid (HB3.out.trans (B4.mono HB3.out.size))
        have HD := hid D4
        have TR := hid (frtrim0_any s xs w4 D4.str (by have := D4.len; omega))
        have sz1 : (s.size : Int) ≤ 3000 := by have := D4.str.size; have := D4.len; omega
        clear D4 B4 D3 HB3
        go_wp2_with fail
        refine TR.out.mono ?_
        rintro e w5 ⟨⟨s', k, rfl, g1, g2, g3, g4⟩, hz⟩
        have sz2 : (s'.size : Int) ≤ (s.size : Int) := by rw [g1.size, HD.out.str.size, List.length_take]; omega
        have K := hid (KK.out w5 s s' xs k HD.out g1 g2 g3 g4 (by rw [hz]; exact HB4.out))
        clear g1 g2 g3 g4 hz TR KK HD HB4
        go_wp2_with fail
        go_ret2
        exact K.out
end Go.Proofs.YtigmhnlcmhpepaaGreatDoor

namespace Go.Proofs.YtigmhnlcmhpepaaGreatDoor
open Go Go.RowKit Go.Deep

namespace Fx
/-- The exact digits of a double, and their power. -/
noncomputable def X (d : Int) : List Int := xd (Ie.dm d) (Ie.de d)
noncomputable def P (d : Int) : Int := ed (Ie.dm d) (Ie.de d)
noncomputable def aE (d : Int) : Int := if Ie.fnt d = true then P d else 0
theorem X_ex {d : Int} (h : Ie.fnt d = true) : Ex (Ie.dm d) (Ie.de d) (X d) (P d) := ex_is (Ie.fdec d (of_decide_eq_true h)).1
theorem X_digs {d : Int} (h : Ie.fnt d = true) : Digs (X d) ∧ X d ≠ [] := (X_ex h).digs (Ie.fdec d (of_decide_eq_true h)).1
theorem X_zero {d : Int} (h : Ie.fnt d = true) (hz : Ie.dm d = 0) : X d = [48] ∧ P d = 0 := (X_ex h).zero hz
theorem X_room {d : Int} (h : Ie.fnt d = true) : -323 ≤ (X d).length + P d ∧ (X d).length + P d ≤ 309 ∧ -1074 ≤ P d ∧ (X d).length ≤ 1383 ∧ 1 ≤ (X d).length := by
  obtain ⟨m0, m1, e0, e1, _⟩ := Ie.fdec d (of_decide_eq_true h)
  have lo := (X_ex h).lo
  have l1 := List.length_pos_iff.2 (X_digs h).2
  rcases (show Ie.dm d = 0 ∨ 0 < Ie.dm d by omega) with c | c
  · obtain ⟨a, b⟩ := X_zero h c
    rw [a, b] at *
    simp
  · have r := (X_ex h).room c m1 e1
    omega
end Fx

end Go.Proofs.YtigmhnlcmhpepaaGreatDoor

namespace Go.Proofs.YtigmhnlcmhpepaaGreatDoor
open Go Go.RowKit Go.Deep
namespace Fx

end Fx
end Go.Proofs.YtigmhnlcmhpepaaGreatDoor

namespace Go.Proofs.YtigmhnlcmhpepaaGreatDoor
open Go Go.RowKit Go.Deep

namespace Fx
def top (d : Int) (n : Nat) : Int := Ie.dm d * 10 ^ n * 2 ^ (Ie.de d).toNat
def dn (d : Int) : Nat := (-(Ie.de d)).toNat
end Fx
end Go.Proofs.YtigmhnlcmhpepaaGreatDoor

namespace Go.Proofs.YtigmhnlcmhpepaaGreatDoor
open Go.RowKit Go.Deep

theorem cap_facts : ∀ k : Fin 36, wv (capL.getD k.val 0) = (k.val : Int) ∧ ¬ (97 ≤ capL.getD k.val 0 ∧ capL.getD k.val 0 ≤ 122) ∧ (capL.getD k.val 0 = 48 → k.val = 0) := by decide
theorem small_facts : ∀ k : Fin 36, wv (smallL.getD k.val 0) = (k.val : Int) ∧ ¬ (65 ≤ smallL.getD k.val 0 ∧ smallL.getD k.val 0 ≤ 90) ∧ (smallL.getD k.val 0 = 48 → k.val = 0) := by decide

/-- A letter, by the digit. -/
theorem letter_facts (up : Bool) (d : Int) (h0 : 0 ≤ d) (h1 : d < 36) : wv ((lettersOf up).getD d.toNat 0) = d ∧ (up = true → ¬ (97 ≤ (lettersOf up).getD d.toNat 0 ∧ (lettersOf up).getD d.toNat 0 ≤ 122)) ∧ (up = false → ¬ (65 ≤ (lettersOf up).getD d.toNat 0 ∧ (lettersOf up).getD d.toNat 0 ≤ 90)) ∧ ((lettersOf up).getD d.toNat 0 = 48 → d = 0) := by
  cases up with
  | true =>
    have k := cap_facts ⟨d.toNat, by omega⟩
    simp only at k
    rw [show lettersOf true = capL from rfl]
    exact ⟨by rw [k.1]; omega, fun _ => k.2.1, fun h => absurd h (by decide), fun h => by have := k.2.2 h; omega⟩
  | false =>
    have k := small_facts ⟨d.toNat, by omega⟩
    simp only at k
    rw [show lettersOf false = smallL from rfl]
    exact ⟨by rw [k.1]; omega, fun h => absurd h (by decide), fun _ => k.2.1, fun h => by have := k.2.2 h; omega⟩

/-- What a text that InBase wrote is like. -/
structure Good (zs : List Int) (B : Int) (up : Bool) (xs : List Int) : Prop where
  ne : xs ≠ []
  len : xs.length ≤ 262144
  case_ : ∀ i, i < xs.length → (up = true → ¬ (97 ≤ xs.getD i 0 ∧ xs.getD i 0 ≤ 122)) ∧ (up = false → ¬ (65 ≤ xs.getD i 0 ∧ xs.getD i 0 ≤ 90))
  dig : ∀ i, i < xs.length → wv (xs.getD i 0) < B
  val : Dn.tv B 0 (xs.map wv) = Nm.val zs
  head : 0 < Nm.tsize zs → xs.getD 0 0 ≠ 48
  zero : Nm.tsize zs = 0 → xs = [48]

theorem map_wv_lets {up : Bool} {B : Int} (h36 : B ≤ 36) (ds : List Int) (hd : ∀ d ∈ ds, 0 ≤ d ∧ d < B) : (lets (lettersOf up) ds).map wv = ds := by
  unfold lets
  rw [List.map_map]
  conv => rhs; rw [← List.map_id ds]
  apply List.map_congr_left
  intro d h
  have := hd d h
  exact (letter_facts up d this.1 (by omega)).1

theorem good_ok {zs : List Int} {B : Int} {up : Bool} {L : Nat} (hz : Nm.Limbs zs) (h0 : 0 < Nm.tsize zs) (h1 : Nm.tsize zs ≤ 4096) (h2 : 2 ≤ B) (h36 : B ≤ 36) (hL : Nm.val zs < B ^ L) : Good zs B up (lets (lettersOf up) (Dn.strip (Dn.dg B L (Nm.val zs)))) := by
  have hB : 0 < B := by omega
  have hv0 := (Nm.val_bd zs hz).1
  have hvz : Nm.val zs ≠ 0 := fun c => by have := (Nm.tsize_zero_iff hz).2 c; omega
  have hL2 : Nm.val zs < B ^ 262144 := by
    have e1 := (Nm.tsize_le_iff hz 4096).1 h1
    rw [Nm.pw_two 4096, show 64 * 4096 = 262144 from rfl] at e1
    exact Int.lt_of_lt_of_le e1 (Pn.pow_base (by omega) h2 262144)
  rw [Dn.strip_dg hB hv0 hL hL2]
  obtain ⟨ds, hds⟩ : ∃ ds, Dn.strip (Dn.dg B 262144 (Nm.val zs)) = ds := ⟨_, rfl⟩
  have hm : ∀ d ∈ ds, 0 ≤ d ∧ d < B := fun d hd => by
    rw [← hds] at hd
    exact Dn.dg_mem hB _ _ d (Dn.strip_mem hd)
  have htv : Dn.tv B 0 ds = Nm.val zs := by rw [← hds, Dn.tv_strip, Dn.tv_dg hB _ _ hv0 hL2]
  have hlen : ds.length ≤ 262144 := by
    have := (List.dropWhile_sublist (fun d : Int => decide (d = 0)) (l := Dn.dg B 262144 (Nm.val zs))).length_le
    rw [Dn.dg_length] at this
    rw [← hds]
    exact this
  have hne : ds ≠ [] := fun c => by rw [c] at htv; exact hvz htv.symm
  rw [hds]
  have hg : ∀ i, i < ds.length → (lets (lettersOf up) ds).getD i 0 = (lettersOf up).getD (ds.getD i 0).toNat 0 := fun i hi => by simp [lets, List.getD, hi]
  have hl : (lets (lettersOf up) ds).length = ds.length := by simp [lets]
  have hat : ∀ i, i < ds.length → 0 ≤ ds.getD i 0 ∧ ds.getD i 0 < B := fun i hi => by
    have e : ds.getD i 0 = ds[i] := by simp [List.getD, hi]
    rw [e]
    exact hm _ (List.getElem_mem hi)
  refine ⟨fun c => hne (by simpa [lets] using c), by rw [hl]; exact hlen, fun i hi => ?_, fun i hi => ?_, by rw [map_wv_lets h36 ds hm, htv], fun _ => ?_, fun c => by omega⟩
  · rw [hl] at hi
    rw [hg i hi]
    have := hat i hi
    have f := letter_facts up (ds.getD i 0) this.1 (by omega)
    exact ⟨f.2.1, f.2.2.1⟩
  · rw [hl] at hi
    rw [hg i hi]
    have := hat i hi
    rw [(letter_facts up (ds.getD i 0) this.1 (by omega)).1]
    exact this.2
  · have hi : 0 < ds.length := by
      rcases Nat.eq_zero_or_pos ds.length with c | c
      · exact absurd (List.eq_nil_of_length_eq_zero c) hne
      · exact c
    rw [hg 0 hi]
    have hb := hat 0 hi
    intro c
    have := (letter_facts up (ds.getD 0 0) hb.1 (by omega)).2.2.2 c
    obtain ⟨d, rest, hdr⟩ : ∃ d rest, ds = d :: rest := List.exists_cons_of_ne_nil hne
    have k := Dn.strip_head (ds := Dn.dg B 262144 (Nm.val zs)) (by rw [hds]; exact hdr)
    rw [hdr] at this
    exact k (by simpa using this)
end Go.Proofs.YtigmhnlcmhpepaaGreatDoor

namespace Go.Proofs.YtigmhnlcmhpepaaGreatDoor

theorem InIs.one {zs : List Int} {B : Int} {up : Bool} {xs ys : List Int} {E F : Int} (hz : Nm.Limbs zs) (h : InIs zs B up xs E) (k : InIs zs B up ys F) : xs = ys ∧ E = F := by
  cases h with
  | big h1 => cases k <;> first | exact ⟨rfl, rfl⟩ | (exfalso; omega)
  | base h1 h2 => cases k <;> first | exact ⟨rfl, rfl⟩ | (exfalso; omega)
  | zero h1 h2 h3 => cases k <;> first | exact ⟨rfl, rfl⟩ | (exfalso; omega)
  | ok L h1 h2 h3 h4 h5 =>
    cases k with
    | big k1 => exfalso; omega
    | base k1 k2 => exfalso; omega
    | zero k1 k2 k3 => exfalso; omega
    | ok M k1 k2 k3 k4 k5 => exact ⟨by rw [Dn.strip_dg (by omega) (Nm.val_bd zs hz).1 h5 k5], rfl⟩
end Go.Proofs.YtigmhnlcmhpepaaGreatDoor

namespace Go.Proofs.YtigmhnlcmhpepaaGreatDoor
open Go.RowKit Go.Deep
namespace Wh
/-- The digits of a number, none of nothing. -/
def dig (B : Int) (up : Bool) (v : Int) : List Int := if v = 0 then [] else lets (lettersOf up) (Dn.strip (Dn.dg B v.toNat v))
theorem lt_pow {B : Int} (hB : 2 ≤ B) (n : Nat) : (n : Int) < B ^ n := by
  induction n with
  | zero => simp
  | succ n ih =>
    rw [Int.pow_succ]
    have p : (1 : Int) ≤ B ^ n := Pn.pow_pos' (by omega) n
    have : B ^ n * 2 ≤ B ^ n * B := Int.mul_le_mul_of_nonneg_left hB (by omega)
    omega
theorem dig_is {zs : List Int} {B : Int} {up : Bool} {xs : List Int} {E : Int} (hz : Nm.Limbs zs) (h0 : 0 < Nm.val zs) (h1 : Nm.tsize zs ≤ 4096) (hB : 2 ≤ B) (h36 : B ≤ 36) (h : InIs zs B up xs E) : xs = dig B up (Nm.val zs) ∧ E = 0 := by
  have t0 : 0 < Nm.tsize zs := by have := Nm.tsize_zero_iff hz; omega
  have hl : Nm.val zs < B ^ (Nm.val zs).toNat := by have := lt_pow hB (Nm.val zs).toNat; omega
  have q := h.one hz (.ok (Nm.val zs).toNat t0 h1 hB h36 hl)
  rw [dig, if_neg (by omega)]
  exact q

/-- What the digits of a number are like. -/
structure Dg (B : Int) (up : Bool) (v : Int) (xs : List Int) : Prop where
  ne : xs ≠ []
  len : xs.length ≤ 262144
  case_ : ∀ i, i < xs.length → (up = true → ¬ (97 ≤ xs.getD i 0 ∧ xs.getD i 0 ≤ 122)) ∧ (up = false → ¬ (65 ≤ xs.getD i 0 ∧ xs.getD i 0 ≤ 90))
  dig : ∀ i, i < xs.length → wv (xs.getD i 0) < B
  val : Dn.tv B 0 (xs.map wv) = v
  head : xs.getD 0 0 ≠ 48
theorem dig_good {zs : List Int} {B : Int} {up : Bool} (hz : Nm.Limbs zs) (h0 : 0 < Nm.val zs) (h1 : Nm.tsize zs ≤ 4096) (hB : 2 ≤ B) (h36 : B ≤ 36) : Dg B up (Nm.val zs) (dig B up (Nm.val zs)) := by
  have t0 : 0 < Nm.tsize zs := by have := Nm.tsize_zero_iff hz; omega
  have hl : Nm.val zs < B ^ (Nm.val zs).toNat := by have := lt_pow hB (Nm.val zs).toNat; omega
  have g := good_ok (up := up) hz t0 h1 hB h36 hl
  rw [dig, if_neg (by omega)]
  exact ⟨g.ne, g.len, g.case_, g.dig, g.val, g.head t0⟩
theorem lets_by (up : Bool) (ds : List Int) : By (lets (lettersOf up) ds) := by
  intro x hx
  obtain ⟨d, _, rfl⟩ := List.mem_map.1 hx
  have k : ∀ (l : List Int), (∀ y ∈ l, 0 ≤ y ∧ y < 256) → 0 ≤ l.getD d.toNat 0 ∧ l.getD d.toNat 0 < 256 := by
    intro l hl
    rw [List.getD_eq_getElem?_getD]
    cases h : l[d.toNat]? with
    | none => simp
    | some y => exact hl y (List.mem_of_getElem? h)
  apply k
  cases up
  · show ∀ y ∈ smallL, _
    decide
  · show ∀ y ∈ capL, _
    decide
theorem dig_by (B : Int) (up : Bool) (v : Int) : By (dig B up v) := by
  unfold dig
  split
  · exact By.nil
  · exact lets_by _ _

/-- Digits brought to the precision. -/
def fil (P : Int) (d : List Int) : List Int := rep 48 ((if P = -1 then 1 else P) - d.length) ++ d
theorem fil_by {P : Int} {d : List Int} (h : By d) : By (fil P d) := (By.rep (by omega)).app h
theorem fil_len (P : Int) (d : List Int) : (fil P d).length = ((if P = -1 then 1 else P) - d.length).toNat + d.length := by
  rw [fil, List.length_append, rep_len]

/-- The sign. -/
def sgn (F : Int) (below : Bool) : List Int := if below = true then [45] else if bit F 2 = true then [43] else if bit F 4 = true then [32] else []
theorem sgn_by (F : Int) (b : Bool) : By (sgn F b) := by
  unfold sgn
  split
  · intro x hx; simp at hx; omega
  · split
    · intro x hx; simp at hx; omega
    · split
      · intro x hx; simp at hx; omega
      · exact By.nil
theorem sgn_len (F : Int) (b : Bool) : (sgn F b).length ≤ 1 := by
  unfold sgn
  split
  · simp
  · split
    · simp
    · split <;> simp

/-- Signed. -/
def sigE (V F W P : Int) (t : Nat) : Int := if V = 100 ∨ V = 105 then (if chk F W P = 0 then (if 4096 < t then 2 else 0) else chk F W P) else 140
def sigT (F W P : Int) (neg : Bool) (v : Int) : List Int := padT F W (decide (P = -1)) (sgn F (neg && decide (v ≠ 0))) (fil P (dig 10 false v))
def sig (V F W P : Int) (neg : Bool) (zs : List Int) : List Int := if sigE V F W P (Nm.tsize zs) = 0 then sigT F W P neg (Nm.val zs) else []

/-- Unsigned. -/
def base (V : Int) : Int := if V = 111 then 8 else if V = 120 ∨ V = 88 then 16 else 10
end Wh
end Go.Proofs.YtigmhnlcmhpepaaGreatDoor

namespace Go.Proofs.YtigmhnlcmhpepaaGreatDoor
open Go Go.RowKit Go.Deep Go.Shelf

theorem str_app {a b : List Int} (ha : Wh.By a) (hb : Wh.By b) : strOfNums a ++ strOfNums b = strOfNums (a ++ b) := by
  have k : Str (strOfNums a ++ strOfNums b) (a ++ b) := by
    have h1 := Str.of_nums ha
    have h2 := Str.of_nums hb
    unfold Str at *
    conv => rhs; rw [← h1, ← h2, ← List.map_append]
    simp
  exact str_is k

theorem ret_se {a b : ByteArray} {x y : Int} (h : a = b) (k : x = y) : Ending.returned (.tuple #[.string a, .int .i64 x]) = .returned (.tuple #[.string b, .int .i64 y]) := by rw [h, k]
set_option maxRecDepth 100000 in
theorem filled_any (V F W P : Int) (d : List Int) (w : World) (p0 : -1 ≤ P) (p1 : P ≤ 4096) (hd : Wh.By d) (hl : d.length ≤ 262144) :
    Calls Tryz.prog 150 #[.agg #[.int .u8 V, .int .i64 F, .int .i64 W, .int .i64 P], .string (strOfNums d)] w fun e w' => e = .returned (.string (strOfNums (Wh.fil P d))) ∧ Below w.heap.size w w' := by
  have B0 := hid (SB.new w V F W P)
  have sd : (strOfNums d).size = d.length := strOfNums_size d
  have l2 : (d.length : Int) ≤ 262144 := by omega
  obtain ⟨M, hM⟩ : ∃ M : Nat, M = ((if P = -1 then 1 else P) - (d.length : Int)).toNat := ⟨_, rfl⟩
  have M1 : M ≤ 4096 := by rw [hM]; split <;> omega
  have m0 : (M : Int) ≤ 4096 := by omega
  have RE := hid (fun W' => jrep48 M W' (by omega))
  have sr : (strOfNums (Wh.rep 48 (M : Int))).size = M := by rw [strOfNums_size, Wh.rep_len]; omega
  have G : Hid (strOfNums (Wh.rep 48 (M : Int)) ++ strOfNums d = strOfNums (Wh.fil P d)) := by
    rw [Hid, str_app (Wh.By.rep (by omega)) hd, Wh.fil]
    have e : Wh.rep 48 (M : Int) = Wh.rep 48 ((if P = -1 then 1 else P) - (d.length : Int)) := by rw [Wh.rep, Wh.rep, hM]; rfl
    rw [e]
  by_cases hP : P = -1
  · have mx : max 0 (1 - (d.length : Int)) = (M : Int) := by rw [hM, if_pos hP]; omega
    subst hP
    clear hd hl hM p0 p1
    obtain ⟨c0, c1, c2, c3⟩ := B0.out.flat
    go_enter Tryz.func150, Tryz.ntmps150
    go_wp2_with fail
    with_reducible refine (RE.out _).mono ?_
    rintro e w1 ⟨rfl, b1⟩
    have B1 := hid (B0.out.on b1).bel
    clear b1 RE
    go_wp2_with fail
    go_ret
    exact ⟨ret_str G.out, B1.out⟩
  · have mx : max 0 (P - (d.length : Int)) = (M : Int) := by rw [hM, if_neg hP]; omega
    have hne : (P == -1) = false := by simpa using hP
    clear hd hl hM hP
    obtain ⟨c0, c1, c2, c3⟩ := B0.out.flat
    go_enter Tryz.func150, Tryz.ntmps150
    go_wp2_with fail
    with_reducible refine (RE.out _).mono ?_
    rintro e w1 ⟨rfl, b1⟩
    have B1 := hid (B0.out.on b1).bel
    clear b1 RE
    go_wp2_with fail
    go_ret
    exact ⟨ret_str G.out, B1.out⟩

set_option maxRecDepth 100000 in
theorem wsign_any (V F W P : Int) (bl : Bool) (w : World) (f0 : 0 ≤ F) (f1 : F ≤ 31) :
    Calls Tryz.prog 149 #[.agg #[.int .u8 V, .int .i64 F, .int .i64 W, .int .i64 P], .bool bl] w fun e w' => e = .returned (.string (strOfNums (Wh.sgn F bl))) ∧ Below w.heap.size w w' := by
  have B0 := hid (SB.new w V F W P)
  have H2 := hid (fun W' => has_any V F W P 2 W' f0 f1 (by omega))
  have H4 := hid (fun W' => has_any V F W P 4 W' f0 f1 (by omega))
  clear f0 f1
  obtain ⟨c0, c1, c2, c3⟩ := B0.out.flat
  cases bl with
  | true =>
    have G : Hid (strOfNums (Wh.sgn F true) = ⟨#[45]⟩) := rfl
    clear H2 H4
    go_enter Tryz.func149, Tryz.ntmps149
    go_wp2_with fail
    go_ret
    exact ⟨ret_str G.out.symm, B0.out.bel⟩
  | false =>
    cases h2 : Wh.bit F 2 with
    | true =>
      have G : Hid (strOfNums (Wh.sgn F false) = ⟨#[43]⟩) := by rw [Hid, Wh.sgn, if_neg Bool.false_ne_true, if_pos h2]; rfl
      rw [h2] at H2
      clear H4
      go_enter Tryz.func149, Tryz.ntmps149
      go_wp2_with fail
      with_reducible refine (H2.out _).mono ?_
      rintro e w1 ⟨rfl, b1⟩
      have B1 := hid (B0.out.on b1).bel
      clear b1 H2
      go_wp2_with fail
      go_ret
      exact ⟨ret_str G.out.symm, B1.out⟩
    | false =>
      rw [h2] at H2
      cases h4 : Wh.bit F 4 with
      | true =>
        have G : Hid (strOfNums (Wh.sgn F false) = ⟨#[32]⟩) := by rw [Hid, Wh.sgn, if_neg Bool.false_ne_true, h2, if_neg Bool.false_ne_true, if_pos h4]; rfl
        rw [h4] at H4
        go_enter Tryz.func149, Tryz.ntmps149
        go_wp2_with fail
        with_reducible refine (H2.out _).mono ?_
        rintro e w1 ⟨rfl, b1⟩
        have B1 := hid (B0.out.on b1)
        clear b1 H2 c0 c1 c2 c3
        obtain ⟨c0, c1, c2, c3⟩ := B1.out.flat
        go_wp2_with fail
        with_reducible refine (H4.out _).mono ?_
        rintro e w2 ⟨rfl, b2⟩
        have B2 := hid (B1.out.on b2).bel
        clear b2 H4
        go_wp2_with fail
        go_ret
        exact ⟨ret_str G.out.symm, B2.out⟩
      | false =>
        have G : Hid (strOfNums (Wh.sgn F false) = ⟨#[]⟩) := by rw [Hid, Wh.sgn, if_neg Bool.false_ne_true, h2, if_neg Bool.false_ne_true, h4, if_neg Bool.false_ne_true]; rfl
        rw [h4] at H4
        go_enter Tryz.func149, Tryz.ntmps149
        go_wp2_with fail
        with_reducible refine (H2.out _).mono ?_
        rintro e w1 ⟨rfl, b1⟩
        have B1 := hid (B0.out.on b1)
        clear b1 H2 c0 c1 c2 c3
        obtain ⟨c0, c1, c2, c3⟩ := B1.out.flat
        go_wp2_with fail
        with_reducible refine (H4.out _).mono ?_
        rintro e w2 ⟨rfl, b2⟩
        have B2 := hid (B1.out.on b2).bel
        clear b2 H4
        go_wp2_with fail
        go_ret
        exact ⟨ret_str G.out.symm, B2.out⟩

set_option maxRecDepth 100000 in
theorem digitsOf_any (p : Option Addr) (n cap : Nat) (za : List Int) (B : Int) (up : Bool) (w : World) (ha : Arg w p n cap za) (hB : 2 ≤ B) (h36 : B ≤ 36) :
    Calls Tryz.prog 148 #[.slice p n cap, .int .i64 B, .bool up] w fun e w' => e = .returned (.tuple #[.string (strOfNums (if 4096 < Nm.tsize za then [] else Wh.dig B up (Nm.val za))), .int .i64 (if 4096 < Nm.tsize za then 2 else 0)]) ∧ Below w.heap.size w w' := by
  obtain ⟨L, hL, hbig, hzero⟩ := blen_big ha.2.2.2.2
  have BL := hid (bitLen_isT L p n cap za w ha hL)
  have hv := (Nm.tsize_zero_iff ha.2.2.2.2)
  by_cases h0 : Nm.tsize za = 0
  · have hL0 : (L : Int) = 0 := hzero.2 h0
    obtain rfl : L = 0 := by omega
    have G : Hid (strOfNums (Wh.dig B up (Nm.val za)) = ⟨#[]⟩) := by rw [Hid, Wh.dig, if_pos (hv.1 h0)]; rfl
    rw [if_neg (by omega), if_neg (by omega)]
    clear ha hL hbig hzero hv h0
    go_enter Tryz.func148, Tryz.ntmps148
    go_wp2_with fail
    with_reducible refine BL.out.mono ?_
    rintro e w' ⟨rfl, hw⟩
    rw [hw]
    clear hw w'
    go_wp2_with fail
    go_ret2
    exact ⟨ret_se G.out.symm rfl, Below.refl _ _⟩
  · have hL0 : ((L : Int) == 0) = false := by rw [beq_eq_false_iff_ne]; intro c; exact h0 (hzero.1 c)
    have hLi : (L : Int) ≠ 0 := by simpa using hL0
    have v0 : 0 < Nm.val za := by have := (Nm.val_bd za ha.2.2.2.2).1; omega
    have IB := hid (inBase_any p n cap za B up w ha (by omega) (by omega))
    have G : Hid (∀ s xs E, Str s xs → InIs za B up xs E → s = strOfNums (if 4096 < Nm.tsize za then [] else Wh.dig B up (Nm.val za)) ∧ E = if 4096 < Nm.tsize za then 2 else 0) := by
      intro s xs E hs hi
      by_cases hb : 4096 < Nm.tsize za
      · rw [if_pos hb, if_pos hb]
        cases hi with
        | big _ => exact ⟨str_is hs, rfl⟩
        | base q _ => omega
        | zero q _ _ => omega
        | ok _ _ q _ _ _ => omega
      · rw [if_neg hb, if_neg hb]
        obtain ⟨e1, e2⟩ := Wh.dig_is ha.2.2.2.2 v0 (by omega) hB h36 hi
        exact ⟨by rw [← e1]; exact str_is hs, e2⟩
    generalize (if 4096 < Nm.tsize za then [] else Wh.dig B up (Nm.val za)) = D at *
    generalize (if 4096 < Nm.tsize za then (2 : Int) else 0) = EE at *
    clear ha hL hbig hzero hv h0 v0
    go_enter Tryz.func148, Tryz.ntmps148
    go_wp2_with fail
    with_reducible refine BL.out.mono ?_
    rintro e w' ⟨rfl, hw⟩
    rw [hw]
    clear hw w'
    go_wp2_with fail
    with_reducible refine IB.out.mono ?_
    rintro e w1 ⟨s, xs, E, rfl, hs, hi, b1⟩
    obtain ⟨e1, e2⟩ := G.out s xs E hs hi
    have B1 := hid b1
    have E1 := hid e1
    have E2 := hid e2
    clear hs hi b1 e1 e2
    go_wp2_with fail
    go_ret2
    exact ⟨ret_se E1.out E2.out, B1.out⟩

def SigTold (V F W P : Int) (neg : Bool) (zs : List Int) (w : World) (e : Ending) (w' : World) : Prop := e = .returned (.tuple #[.string (strOfNums (Wh.sig V F W P neg zs)), .int .i64 (Wh.sigE V F W P (Nm.tsize zs))]) ∧ Below w.heap.size w w'

theorem isEmpty_nums (d : List Int) : (strOfNums d).toList.isEmpty = d.isEmpty := by
  rw [ByteArray.toList_eq, strOfNums_data]
  cases d <;> rfl

/-- The sign's answer where there is no number below nothing. -/
def below (neg : Bool) (v : Int) : Bool := neg && decide (v ≠ 0)

theorem dig_nil (B : Int) (up : Bool) (zs : List Int) (hz : Nm.Limbs zs) (h1 : Nm.tsize zs ≤ 4096) (hB : 2 ≤ B) (h36 : B ≤ 36) : (Wh.dig B up (Nm.val zs)).isEmpty = decide (Nm.val zs = 0) ∧ (Wh.dig B up (Nm.val zs)).length ≤ 262144 := by
  have v := (Nm.val_bd zs hz).1
  by_cases h : Nm.val zs = 0
  · rw [Wh.dig, if_pos h, decide_eq_true h]; exact ⟨rfl, by simp⟩
  · have g := Wh.dig_good (up := up) hz (by omega) h1 hB h36
    refine ⟨?_, g.len⟩
    rw [decide_eq_false h]
    cases e : Wh.dig B up (Nm.val zs) with
    | nil => exact absurd e g.ne
    | cons _ _ => rfl

theorem toList_nums (d : List Int) : ((strOfNums d).toList == []) = d.isEmpty := by
  rw [ByteArray.toList_eq, strOfNums_data]
  cases d <;> rfl
set_option maxRecDepth 100000 in
set_option maxHeartbeats 2000000 in
theorem wsigned_any (V F W P : Int) (neg : Bool) (p : Option Addr) (n cap : Nat) (zs : List Int) (w : World) (h0 : 0 ≤ V) (h1 : V < 256) (ha : Arg w p n cap zs) :
    Calls Tryz.prog 118 #[.agg #[.int .u8 V, .int .i64 F, .int .i64 W, .int .i64 P], .bool neg, .slice p n cap] w fun e w' => SigTold V F W P neg zs w e w' := by
  have B0 := hid (SB.new w V F W P)
  have CV := hid (fun W' => checkVerb_any V F W P ⟨#[100, 105]⟩ _ W' (vb_di V h0 h1))
  by_cases hV : V = 100 ∨ V = 105
  · rw [if_pos (decide_eq_true hV)] at CV
    by_cases hc : Wh.chk F W P = 0
    · obtain ⟨⟨f0, f1⟩, ⟨wl, wu⟩, ⟨p0, p1⟩⟩ := Wh.chk_ok hc
      rw [hc] at CV
      have DG := hid (fun W' (k : Below w.heap.size w W') => digitsOf_any p n cap zs 10 false W' (ha.below k (Nat.le_refl _)) (by omega) (by omega))
      have hE : Wh.sigE V F W P (Nm.tsize zs) = if 4096 < Nm.tsize zs then 2 else 0 := by rw [Wh.sigE, if_pos hV, if_pos hc]
      by_cases hb : 4096 < Nm.tsize zs
      · rw [if_pos hb] at hE
        rw [if_pos hb, if_pos hb] at DG
        have G : Hid (∀ w', Below w.heap.size w w' → SigTold V F W P neg zs w (.returned (.tuple #[.string ⟨#[]⟩, .int .i64 2])) w') := fun w' k => ⟨by rw [Wh.sig, hE, if_neg (by decide)]; rfl, k⟩
        clear ha hV hc hE hb f0 f1 wl wu p0 p1
        go_enter Tryz.func118, Tryz.ntmps118
        go_wp2_with fail
        with_reducible refine (CV.out _).mono ?_
        rintro e w1 ⟨rfl, b1⟩
        have B1 := hid (B0.out.on b1)
        clear b1 CV B0
        go_wp2_with fail
        with_reducible refine (DG.out _ B1.out.bel).mono ?_
        rintro e w2 ⟨rfl, b2⟩
        have R := hid (G.out _ (B1.out.on b2).bel)
        clear b2 DG B1
        go_wp2_with fail
        go_ret2
        exact R.out
      · rw [if_neg hb] at hE
        rw [if_neg hb, if_neg hb] at DG
        obtain ⟨di, dl⟩ := dig_nil 10 false zs ha.2.2.2.2 (by omega) (by omega) (by omega)
        have dy := Wh.dig_by 10 false (Nm.val zs)
        have FI := hid (fun W' => filled_any V F W P (Wh.dig 10 false (Nm.val zs)) W' p0 p1 dy dl)
        have SG := hid (fun W' => wsign_any V F W P (below neg (Nm.val zs)) W' f0 f1)
        have sl := Wh.sgn_len F (below neg (Nm.val zs))
        have fl := Wh.fil_len P (Wh.dig 10 false (Nm.val zs))
        have fl2 : (Wh.fil P (Wh.dig 10 false (Nm.val zs))).length ≤ 270000 := by rw [fl]; split <;> omega
        have PA := hid (fun W' => pad_any V F W P (Wh.sgn F (below neg (Nm.val zs))) (Wh.fil P (Wh.dig 10 false (Nm.val zs))) (decide (P = -1)) W' (Wh.sgn_by _ _) (Wh.fil_by dy) (by omega) (by omega))
        have pe : Wh.padE F W P (Wh.sgn F (below neg (Nm.val zs))) (Wh.fil P (Wh.dig 10 false (Nm.val zs))) = 0 := by rw [Wh.padE, if_pos hc, if_neg (by omega)]
        have G : Hid (∀ W' e w', PadTold F W P (decide (P = -1)) (Wh.sgn F (below neg (Nm.val zs))) (Wh.fil P (Wh.dig 10 false (Nm.val zs))) W' e w' → Below w.heap.size w W' → ∃ s, e = .returned (.tuple #[.string s, .int .i64 0]) ∧ SigTold V F W P neg zs w (.returned (.tuple #[.string s, .int .i64 0])) w') := by
          rintro W' e w' ⟨rfl, k⟩ b
          rw [pe]
          exact ⟨_, rfl, by rw [Wh.sig, hE, if_pos rfl, Wh.pad, if_pos pe]; rfl, below_on b k⟩
        have DI := isEmpty_nums (Wh.dig 10 false (Nm.val zs))
        have DJ := toList_nums (Wh.dig 10 false (Nm.val zs))
        rw [di] at DI DJ
        have NEG : (neg && !decide (Nm.val zs = 0)) = below neg (Nm.val zs) := by unfold below; simp
        have ep : (P == -1) = decide (P = -1) := by by_cases h : P = -1 <;> simp [h]
        clear ha hV hc hE hb f0 f1 wl wu di dl dy sl fl fl2 pe h0 h1
        generalize Wh.dig 10 false (Nm.val zs) = D at *
        generalize Wh.fil P D = FD at *
        generalize decide (Nm.val zs = 0) = z0 at *
        generalize below neg (Nm.val zs) = bl at *
        generalize Wh.sgn F bl = SN at *
        generalize decide (P = -1) = ez at *
        go_enter Tryz.func118, Tryz.ntmps118
        go_wp2_with fail
        with_reducible refine (CV.out _).mono ?_
        rintro e w1 ⟨rfl, b1⟩
        have B1 := hid (B0.out.on b1)
        clear b1 CV B0
        go_wp2_with fail
        with_reducible refine (DG.out _ B1.out.bel).mono ?_
        rintro e w2 ⟨rfl, b2⟩
        have B2 := hid (B1.out.on b2)
        clear b2 DG B1
        obtain ⟨c0, c1, c2, c3⟩ := B2.out.flat
        cases neg with
        | true =>
          have NEG2 : bl = !z0 := by simpa using NEG.symm
          subst NEG2
          clear NEG
          go_wp2_with fail
          with_reducible refine (SG.out _).mono ?_
          rintro e w3 ⟨rfl, b3⟩
          have B3 := hid (B2.out.on b3)
          clear b3 SG B2 c0 c1 c2 c3
          go_upto_region 8 with fail
          have T1 := hid B3.out.drew
          go_region_held3 (fun wx => wx.cell? ⟨w.heap.size, 0, none⟩ = some (.int .u8 V) ∧ wx.cell? ⟨w.heap.size, 1, none⟩ = some (.int .i64 F) ∧ wx.cell? ⟨w.heap.size, 2, none⟩ = some (.int .i64 W) ∧ wx.cell? ⟨w.heap.size, 3, none⟩ = some (.int .i64 P)) (first | (with_reducible exact T3.out.flat) | (with_reducible exact T2.out.flat) | (with_reducible exact T1.out.flat)) (first
            | (go_at_call 150; with_reducible refine (FI.out _).mono ?_; rintro e wa ⟨rfl, hB⟩; have T2 := hid (T1.out.on hB); clear hB)
            | (go_at_call 112; with_reducible refine (PA.out _).mono ?_; rintro e wb hP; have T3 := hid (T2.out.on hP.bel); obtain ⟨s, rfl, R⟩ := G.out _ _ _ hP T2.out.bel; have R := hid R; clear hP))
          go_wp2_with fail
          go_ret2
          exact R.out
        | false =>
          have NEG2 : bl = false := by simpa using NEG.symm
          subst NEG2
          clear NEG
          go_wp2_with fail
          with_reducible refine (SG.out _).mono ?_
          rintro e w3 ⟨rfl, b3⟩
          have B3 := hid (B2.out.on b3)
          clear b3 SG B2 c0 c1 c2 c3
          go_upto_region 8 with fail
          have T1 := hid B3.out.drew
          go_region_held3 (fun wx => wx.cell? ⟨w.heap.size, 0, none⟩ = some (.int .u8 V) ∧ wx.cell? ⟨w.heap.size, 1, none⟩ = some (.int .i64 F) ∧ wx.cell? ⟨w.heap.size, 2, none⟩ = some (.int .i64 W) ∧ wx.cell? ⟨w.heap.size, 3, none⟩ = some (.int .i64 P)) (first | (with_reducible exact T3.out.flat) | (with_reducible exact T2.out.flat) | (with_reducible exact T1.out.flat)) (first
            | (go_at_call 150; with_reducible refine (FI.out _).mono ?_; rintro e wa ⟨rfl, hB⟩; have T2 := hid (T1.out.on hB); clear hB)
            | (go_at_call 112; with_reducible refine (PA.out _).mono ?_; rintro e wb hP; have T3 := hid (T2.out.on hP.bel); obtain ⟨s, rfl, R⟩ := G.out _ _ _ hP T2.out.bel; have R := hid R; clear hP))
          go_wp2_with fail
          go_ret2
          exact R.out
    · have hE : Wh.sigE V F W P (Nm.tsize zs) = Wh.chk F W P := by rw [Wh.sigE, if_pos hV, if_neg hc]
      have G : Hid (∀ w', Below w.heap.size w w' → SigTold V F W P neg zs w (.returned (.tuple #[.string ⟨#[]⟩, .int .i64 (Wh.chk F W P)])) w') := fun w' k => ⟨by rw [Wh.sig, hE, if_neg hc]; rfl, k⟩
      have hne : (Wh.chk F W P == 0) = false := by simpa using hc
      clear hc hE ha hV
      generalize Wh.chk F W P = E at *
      go_enter Tryz.func118, Tryz.ntmps118
      go_wp2_with fail
      refine (CV.out _).mono ?_
      rintro e w1 ⟨rfl, b1⟩
      have R := hid (G.out _ (B0.out.on b1).bel)
      clear b1 CV
      go_wp2_with fail
      go_ret2
      exact R.out
  · rw [if_neg (by simpa using hV)] at CV
    have hE : Wh.sigE V F W P (Nm.tsize zs) = 140 := by rw [Wh.sigE, if_neg hV]
    have G : Hid (∀ w', Below w.heap.size w w' → SigTold V F W P neg zs w (.returned (.tuple #[.string ⟨#[]⟩, .int .i64 140])) w') := fun w' k => ⟨by rw [Wh.sig, hE, if_neg (by decide)]; rfl, k⟩
    clear ha hV hE
    go_enter Tryz.func118, Tryz.ntmps118
    go_wp2_with fail
    refine (CV.out _).mono ?_
    rintro e w1 ⟨rfl, b1⟩
    have R := hid (G.out _ (B0.out.on b1).bel)
    clear b1 CV
    go_wp2_with fail
    go_ret2
    exact R.out
end Go.Proofs.YtigmhnlcmhpepaaGreatDoor
