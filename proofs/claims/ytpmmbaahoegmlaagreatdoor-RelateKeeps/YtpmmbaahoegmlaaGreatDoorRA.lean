/-
  Texts put together: IIntgN, VaN, VaA, VItoa, DLay, VClone, VDl, DNum.
-/
import Derived.Test.YtpmmbaahoegmlaaGreatDoorIKinds
import Derived.Test.YtpmmbaahoegmlaaGreatDoorIBit
import Derived.Deep.LoopGhost
import Derived.Deep.RegionHeld3
import Derived.Deep.CutBlock
import Derived.Deep.CutRange
import Derived.Deep.DeepCutAuto
import Derived.Test.YtpmmbaahoegmlaaGreatDoorVStr
import Derived.Shelf.Strconv.Itoa3
import Derived.Shelf.Strings.Builder1
import Derived.Shelf.Small.Strs
import Derived.Shelf.Strconv.Itoa4
import Derived.Shelf.Pu.Clone
import Derived.Test.YtpmmbaahoegmlaaGreatDoorVOrd
import Derived.Lib.ItoaNum
namespace Go.Proofs.YtpmmbaahoegmlaaGreatDoor
theorem ctz_int (n q t : Nat) (h : n = 2 ^ t * (2 * q + 1)) : (n : Int) = 2 ^ t * (2 * (q : Int) + 1) := by
  have e : ((2 ^ t * (2 * q + 1) : Nat) : Int) = 2 ^ t * (2 * (q : Int) + 1) := by simp
  rw [← e, ← h]
namespace Ie
/-- Whether it is a whole number. -/
def intg (d : Int) : Bool := decide (d % 9223372036854775808 < 9218868437227405312 ∧ vl (d % 9223372036854775808) = whp (d % 9223372036854775808) * 2 ^ 1075)

theorem intg_iff (r m q : Int) (t : Nat) (hm : man r = m) (h : m = 2 ^ t * (2 * q + 1)) : (vl r = whp r * 2 ^ 1075) ↔ 0 ≤ (ex r : Int) - 1074 + t := by
  have e1 : vl r = (2 * q + 1) * 2 ^ (t + ex r + 1) := by
    rw [vl, hm, h, Nm.two_succ, Nm.two_add]; ac_rfl
  constructor
  · intro he
    rcases (show 0 ≤ (ex r : Int) - 1074 + t ∨ t + ex r + 1 < 1075 by omega) with g | g
    · exact g
    · exfalso
      obtain ⟨s, hs⟩ : ∃ s, 1075 = (s + 1) + (t + ex r + 1) := ⟨1075 - (t + ex r + 1) - 1, by omega⟩
      rw [e1, hs, Nm.two_add (s + 1), ← Int.mul_assoc] at he
      have := Int.eq_of_mul_eq_mul_right (by have := Nm.two_pos (t + ex r + 1); omega) he
      exact Nm.odd_unique (this.trans (Int.mul_comm _ _))
  · intro g
    obtain ⟨s, hs⟩ : ∃ s, t + ex r + 1 = s + 1075 := ⟨t + ex r + 1 - 1075, by omega⟩
    rw [hs, Nm.two_add, ← Int.mul_assoc] at e1
    rw [whp, e1, Int.mul_ediv_cancel _ (by have := Nm.two_pos 1075; omega)]
end Ie
end Go.Proofs.YtpmmbaahoegmlaaGreatDoor

namespace Go.Proofs.YtpmmbaahoegmlaaGreatDoor
namespace Va
open Ie

/-- Whether Integer has digits for it. -/
def ok (d : Int) : Bool := intg d && decide (d % 9223372036854775808 < 4890909195324358656)
/-- Its number. -/
def num (d : Int) : Int := if 9223372036854775808 ≤ d then - whp (d % 9223372036854775808) else whp (d % 9223372036854775808)

/-- What toInt tells of it. -/
def vi (d : Int) : Int := if ok d = true then num d else 0

theorem two_pos (n : Nat) : (0 : Int) < 2 ^ n := Int.pow_pos (by omega)
theorem two_add (m n : Nat) : (2 : Int) ^ (m + n) = 2 ^ m * 2 ^ n := Int.pow_add 2 m n

/-- The mantissa at the top, against what lies behind the point. -/
theorem top_at {a : Int} {p : Nat} (hp : p ≤ 62) (ha : a / 4503599627370496 = p + 1023) : vl a = ((a % 4503599627370496 + 4503599627370496) * 2048) * 2 ^ (p + 1012) ∧ (2 : Int) ^ 1075 = 2 ^ (63 - p) * 2 ^ (p + 1012) := by
  constructor
  · have h1 : ¬ a < 4503599627370496 := by omega
    have h2 : ex a = p + 1022 := by unfold ex; omega
    rw [vl, man, if_neg h1, h2, show p + 1022 = 10 + (p + 1012) by omega, two_add, show (2 : Int) ^ 10 = 1024 from rfl]
    generalize (2 : Int) ^ (p + 1012) = K
    generalize a % 4503599627370496 = m
    rw [show 2 * (4503599627370496 + m) * (1024 * K) = ((4503599627370496 + m) * 2048) * K by
      rw [← Int.mul_assoc, Int.mul_comm 2 (4503599627370496 + m), Int.mul_assoc (4503599627370496 + m) 2 1024]; rfl, Int.add_comm 4503599627370496 m]
  · rw [← two_add, show 63 - p + (p + 1012) = 1075 by omega]
theorem top_whp {a : Int} {p : Nat} (hp : p ≤ 62) (ha : a / 4503599627370496 = p + 1023) : whp a = ((a % 4503599627370496 + 4503599627370496) * 2048) / 2 ^ (63 - p) := by
  obtain ⟨e1, e2⟩ := top_at hp ha
  rw [whp, e1, e2]
  exact Int.mul_ediv_mul_of_pos_left _ _ (two_pos _)
theorem top_intg {a : Int} {p : Nat} (hp : p ≤ 62) (ha : a / 4503599627370496 = p + 1023) : vl a = whp a * 2 ^ 1075 ↔ ((a % 4503599627370496 + 4503599627370496) * 2048) / 2 ^ (63 - p) * 2 ^ (63 - p) = (a % 4503599627370496 + 4503599627370496) * 2048 := by
  obtain ⟨e1, e2⟩ := top_at hp ha
  rw [top_whp hp ha, e1, e2]
  generalize (a % 4503599627370496 + 4503599627370496) * 2048 = M
  have k := two_pos (p + 1012)
  generalize (2 : Int) ^ (p + 1012) = K at *
  generalize (2 : Int) ^ (63 - p) = B
  rw [← Int.mul_assoc]
  constructor
  · intro h
    exact (Int.eq_of_mul_eq_mul_right (by omega) h).symm
  · intro h; rw [h]
/-- Below one nothing but zero is whole. -/
theorem low_intg {a : Int} (h0 : 0 < a) (h : a / 4503599627370496 < 1023) : ¬ vl a = whp a * 2 ^ 1075 := by
  intro q
  have m0 := man_nn a (by omega)
  have hm : 0 < man a := by
    unfold man
    split
    · exact h0
    · omega
  have he : ex a ≤ 1021 := by unfold ex; omega
  have v0 : 0 < vl a := Int.mul_pos (by omega) (two_pos _)
  have v1 : vl a < 2 ^ 1075 := by
    have h1 : (2 : Int) ^ 1075 = 2 ^ 54 * (2 ^ ex a * 2 ^ (1021 - ex a)) := by rw [← two_add, ← two_add, show 54 + (ex a + (1021 - ex a)) = 1075 by omega]
    have h2 : (1 : Int) ≤ 2 ^ (1021 - ex a) := two_pos _
    have h3 := two_pos (ex a)
    rw [h1, vl]
    have h4 : (2 : Int) ^ ex a * 1 ≤ 2 ^ ex a * 2 ^ (1021 - ex a) := Int.mul_le_mul_of_nonneg_left h2 (Int.le_of_lt h3)
    have h5 : (2 : Int) ^ 54 = 18014398509481984 := by decide
    rw [h5]
    have h6 : 2 * man a * 2 ^ ex a < 18014398509481984 * 2 ^ ex a := Int.mul_lt_mul_of_pos_right (by omega) h3
    generalize (2 : Int) ^ (1021 - ex a) = X at *
    generalize (2 : Int) ^ ex a = Y at *
    omega
  have w0 : whp a = 0 := Int.ediv_eq_zero_of_lt (Int.le_of_lt v0) v1
  rw [w0, Int.zero_mul] at q
  omega
theorem zero_intg : vl 0 = whp 0 * 2 ^ 1075 ∧ whp 0 = 0 := by
  have e : vl 0 = 0 := by unfold vl man; simp
  have w : whp 0 = 0 := by rw [whp, e]; exact Int.zero_ediv _
  exact ⟨by rw [e, w, Int.zero_mul], w⟩

/-- What toInt tells: each way by itself. -/
theorem ok_zero {d : Int} (h : d % 9223372036854775808 = 0) : ok d = true ∧ num d = 0 := by
  obtain ⟨a, b⟩ := zero_intg
  refine ⟨?_, ?_⟩
  · rw [ok, intg, h, decide_eq_true ⟨by omega, a⟩]; rfl
  · rw [num, h, b]; simp
theorem ok_low {d : Int} (h0 : 0 < d % 9223372036854775808) (h : d % 9223372036854775808 / 4503599627370496 < 1023) : ok d = false := by
  rw [ok, intg, decide_eq_false (fun q => low_intg h0 h q.2)]; rfl
theorem ok_high {d : Int} (h : 1086 ≤ d % 9223372036854775808 / 4503599627370496) : ok d = false := by
  rw [ok, decide_eq_false (show ¬ d % 9223372036854775808 < 4890909195324358656 by omega), Bool.and_false]
theorem ok_mid {d : Int} {p : Nat} (hp : p ≤ 62) (h : d % 9223372036854775808 / 4503599627370496 = p + 1023) : ok d = decide (((d % 9223372036854775808 % 4503599627370496 + 4503599627370496) * 2048) / 2 ^ (63 - p) * 2 ^ (63 - p) = (d % 9223372036854775808 % 4503599627370496 + 4503599627370496) * 2048) := by
  rw [ok, decide_eq_true (show d % 9223372036854775808 < 4890909195324358656 by omega), Bool.and_true, intg]
  refine decide_eq_decide.2 ?_
  rw [top_intg hp h]
  exact ⟨fun q => q.2, fun q => ⟨by omega, q⟩⟩
theorem num_mid {d : Int} {p : Nat} (hp : p ≤ 62) (h : d % 9223372036854775808 / 4503599627370496 = p + 1023) : num d = if 9223372036854775808 ≤ d then - (((d % 9223372036854775808 % 4503599627370496 + 4503599627370496) * 2048) / 2 ^ (63 - p)) else ((d % 9223372036854775808 % 4503599627370496 + 4503599627370496) * 2048) / 2 ^ (63 - p) := by
  rw [num, top_whp hp h]
/-- Its size. -/
theorem mid_bd {m : Int} {p : Nat} (hp : p ≤ 62) (h0 : 0 ≤ m) (h1 : m < 4503599627370496) : 0 ≤ ((m + 4503599627370496) * 2048) / 2 ^ (63 - p) ∧ ((m + 4503599627370496) * 2048) / 2 ^ (63 - p) < 9223372036854775808 := by
  have b := two_pos (63 - p)
  have b2 : (2 : Int) ≤ 2 ^ (63 - p) := by
    rw [show 63 - p = 1 + (62 - p) by omega, two_add]
    have := two_pos (62 - p)
    rw [show (2 : Int) ^ 1 = 2 from rfl]; omega
  refine ⟨Int.ediv_nonneg (by omega) (Int.le_of_lt b), ?_⟩
  refine Int.ediv_lt_of_lt_mul b ?_
  generalize (2 : Int) ^ (63 - p) = B at *
  have : 9223372036854775808 * 2 ≤ 9223372036854775808 * B := Int.mul_le_mul_of_nonneg_left b2 (by omega)
  omega
end Va
end Go.Proofs.YtpmmbaahoegmlaaGreatDoor

namespace Go.Proofs.YtpmmbaahoegmlaaGreatDoor
open Go Go.RowKit Go.Deep

theorem vzero_any (d : Int) (w : World) (h0 : 0 ≤ d) (h1 : d < 18446744073709551616) :
    Calls Tryz.prog 106 #[.int .u64 d] w fun e w' => e = .returned (.bool (d % 9223372036854775808 == 0)) ∧ w' = w := by
  have AN := Ib.sign_andNot d h0 h1
  go_enter Tryz.func106, Tryz.ntmps106
  go_wp2_with fail
  go_ret
  exact ⟨rfl, rfl⟩

set_option maxRecDepth 100000 in
theorem vint_any (d : Int) (w : World) (h0 : 0 ≤ d) (h1 : d < 18446744073709551616) :
    Calls Tryz.prog 89 #[.int .u64 d] w fun e w' => e = .returned (.tuple #[.int .i64 (Va.vi d), .bool (Va.ok d)]) ∧ w' = w := by
  have ZE := hid (fun W => vzero_any d W h0 h1)
  have AN := Ib.sign_andNot d h0 h1
  obtain ⟨a, ha⟩ : ∃ a, d % 9223372036854775808 = a := ⟨_, rfl⟩
  have a0 : 0 ≤ a := by omega
  have a1 : a < 9223372036854775808 := by omega
  by_cases hz : a = 0
  · obtain ⟨k1, k2⟩ := Va.ok_zero (ha.trans hz)
    have F : Hid (Va.vi d = 0 ∧ Va.ok d = true) := ⟨by rw [Va.vi, if_pos k1, k2], k1⟩
    rw [ha, hz] at ZE
    clear k1 k2 AN
    go_enter Tryz.func89, Tryz.ntmps89
    go_wp2_with (go_at_call 106; refine (ZE.out _).mono ?_; rintro e w2 ⟨rfl, hw2⟩; rw [hw2]; clear hw2 w2)
    go_ret2
    exact ⟨by rw [F.out.1, F.out.2]; rfl, rfl⟩
  have zf : (a == 0) = false := by simpa using hz
  rw [ha, zf] at ZE
  rw [ha] at AN
  have NO : Hid (Va.ok d = false → Ending.returned (.tuple #[.int .i64 0, .bool false]) = Ending.returned (.tuple #[.int .i64 (Va.vi d), .bool (Va.ok d)])) := fun h => by rw [Va.vi, h]; rfl
  have p0 : 0 ≤ a / 4503599627370496 := by omega
  have p1 : a / 4503599627370496 ≤ 2047 := by omega
  by_cases lo : a / 4503599627370496 < 1023
  · have F := hid (NO.out (Va.ok_low (by rw [ha]; omega) (by rw [ha]; exact lo)))
    have lo2 : a / 4503599627370496 - 1023 < 0 := by omega
    clear NO ha
    go_enter Tryz.func89, Tryz.ntmps89
    go_wp2_with (go_at_call 106; refine (ZE.out _).mono ?_; rintro e w2 ⟨rfl, hw2⟩; rw [hw2]; clear hw2 w2)
    go_ret2
    exact ⟨F.out, rfl⟩
  by_cases hi : 1086 ≤ a / 4503599627370496
  · have F := hid (NO.out (Va.ok_high (by rw [ha]; exact hi)))
    clear NO ha
    go_enter Tryz.func89, Tryz.ntmps89
    go_wp2_with (go_at_call 106; refine (ZE.out _).mono ?_; rintro e w2 ⟨rfl, hw2⟩; rw [hw2]; clear hw2 w2)
    go_ret2
    exact ⟨F.out, rfl⟩
  obtain ⟨p, hp⟩ : ∃ p : Nat, a / 4503599627370496 = p + 1023 := ⟨(a / 4503599627370496 - 1023).toNat, by omega⟩
  have p62 : p ≤ 62 := by omega
  have OM := Va.ok_mid (d := d) p62 (by rw [ha]; exact hp)
  have NM := Va.num_mid (d := d) p62 (by rw [ha]; exact hp)
  have MB := Va.mid_bd (m := a % 4503599627370496) p62 (by omega) (by omega)
  rw [ha] at OM NM
  have FR := Ib.frac_and a a0 (by omega)
  have m0 : 0 ≤ a % 4503599627370496 := by omega
  have m1 : a % 4503599627370496 < 4503599627370496 := by omega
  have OR : bits .or .u64 (a % 4503599627370496) 4503599627370496 = a % 4503599627370496 + 4503599627370496 := by
    have q := Ib.field_or (a % 4503599627370496) 1 m0 m1 (by omega) (by omega)
    rw [Int.one_mul] at q; exact q
  obtain ⟨M, hM⟩ : ∃ M, (a % 4503599627370496 + 4503599627370496) * 2048 = M := ⟨_, rfl⟩
  have WM : IntKind.u64.wrap ((a % 4503599627370496 + 4503599627370496) * 2048) = M := by rw [hM, IntKind.wrap_u64]; omega
  have M0 : 0 ≤ M := by omega
  have M1 : M < 18446744073709551616 := by omega
  rw [hM] at OM NM MB
  have B0 := Va.two_pos (63 - p)
  obtain ⟨n, hn⟩ : ∃ n, M / 2 ^ (63 - p) = n := ⟨_, rfl⟩
  have nb : n * 2 ^ (63 - p) ≤ M := by rw [← hn]; exact Int.ediv_mul_le M (by omega)
  have np : 0 ≤ n * 2 ^ (63 - p) := by rw [hn] at MB; exact Int.mul_nonneg MB.1 (Int.le_of_lt B0)
  rw [hn] at OM NM MB
  have WN : IntKind.u64.wrap (n * 2 ^ (63 - p)) = n * 2 ^ (63 - p) := by rw [IntKind.wrap_u64]; omega
  obtain ⟨n0, n1⟩ := MB
  have W1 : wrap64 n = n := by unfold wrap64; omega
  have W2 : wrap64 (-n) = -n := by unfold wrap64; omega
  have p63 : (p : Int) ≤ 62 := by omega
  have NMh := hid NM
  have OMh := hid OM
  have ki : ¬ (63 : Int) ≤ (p : Int) := by omega
  have kj : ¬ (p : Int) < 0 := by omega
  clear NM OM hM lo hi hz p0 p1 m0 m1 M0 M1
  by_cases hq : n * 2 ^ (63 - p) = M
  · have q1 : (n * 2 ^ (63 - p) == M) = true := by simpa using hq
    have q2 : (n * 2 ^ (63 - p) != M) = false := by simpa using hq
    have ok1 : Hid (Va.ok d = true) := by rw [OMh.out]; exact decide_eq_true hq
    by_cases hs : 9223372036854775808 ≤ d
    · have s1 : (d == a) = false := by simp; omega
      have s2 : (d != a) = true := by simp; omega
      have F : Hid (Ending.returned (.tuple #[.int .i64 (-n), .bool true]) = Ending.returned (.tuple #[.int .i64 (Va.vi d), .bool (Va.ok d)])) := by
        show _ = _
        rw [Va.vi, if_pos ok1.out, NMh.out, if_pos hs, ok1.out]
      clear NMh OMh ok1 hq NO ha nb np B0 hs p62
      go_enter Tryz.func89, Tryz.ntmps89
      go_wp2_with (go_at_call 106; refine (ZE.out _).mono ?_; rintro e w2 ⟨rfl, hw2⟩; rw [hw2]; clear hw2 w2)
      go_ret2
      exact ⟨F.out, rfl⟩
    · have s1 : (d == a) = true := by simp; omega
      have s2 : (d != a) = false := by simp; omega
      have F : Hid (Ending.returned (.tuple #[.int .i64 n, .bool true]) = Ending.returned (.tuple #[.int .i64 (Va.vi d), .bool (Va.ok d)])) := by
        show _ = _
        rw [Va.vi, if_pos ok1.out, NMh.out, if_neg hs, ok1.out]
      clear NMh OMh ok1 hq NO ha nb np B0 hs p62
      go_enter Tryz.func89, Tryz.ntmps89
      go_wp2_with (go_at_call 106; refine (ZE.out _).mono ?_; rintro e w2 ⟨rfl, hw2⟩; rw [hw2]; clear hw2 w2)
      go_ret2
      exact ⟨F.out, rfl⟩
  · have q1 : (n * 2 ^ (63 - p) == M) = false := by simpa using hq
    have q2 : (n * 2 ^ (63 - p) != M) = true := by simpa using hq
    have F := hid (NO.out (by rw [OMh.out]; exact decide_eq_false hq))
    clear NMh OMh hq NO ha nb np B0 p62
    go_enter Tryz.func89, Tryz.ntmps89
    go_wp2_with (go_at_call 106; refine (ZE.out _).mono ?_; rintro e w2 ⟨rfl, hw2⟩; rw [hw2]; clear hw2 w2)
    go_ret2
    exact ⟨F.out, rfl⟩
end Go.Proofs.YtpmmbaahoegmlaaGreatDoor

namespace Go.Proofs.YtpmmbaahoegmlaaGreatDoor
open Go Go.RowKit Go.Deep Go.Shelf

def Tab10 (w : World) : Prop := Lib.TabIs Tryz.prog w "internal/strconv.uint64pow10" .u64 Lib.pow10Tab

def itl (n : Int) : List Int := (Lib.itoa n).map fun b => (b.toNat : Int)
theorem itl_str (n : Int) : Str ⟨(Lib.itoa n).toArray⟩ (itl n) := rfl

theorem below_grown {w : World} (k : Nat) (os : Array Obj) : Below w.heap.size w (Go.Sort.grow (w.drewN k) os) := by
  refine ⟨rfl, rfl, rfl, ?_, fun j hj => ?_⟩
  · show w.heap.size ≤ (w.heap ++ os).size
    simp
  · show (w.heap ++ os)[j]? = w.heap[j]?
    rw [Array.getElem?_append_left hj]

end Go.Proofs.YtpmmbaahoegmlaaGreatDoor

namespace Go.Proofs.YtpmmbaahoegmlaaGreatDoor
open Go Go.RowKit Go.Deep Go.Shelf

def dren : Go.Shelf.Ren := ⟨fun | 173 => 90 | 246 => 107 | 283 => 131 | 284 => 132 | 285 => 133 | 286 => 134 | 129 => 56 | 317 => 164 | 318 => 165 | 319 => 166 | 320 => 167 | 337 => 189 | 338 => 190 | 137 => 94 | 217 => 110 | 266 => 138 | 166 => 112 | 169 => 113 | 240 => 139 | 276 => 172 | 167 => 111 | 170 => 176 | n => n, fun | 2 => 2 | 3 => 3 | 9 => 9 | 4 => 4 | 171 => 212 | 0 => 0 | 53 => 24 | 37 => 175 | 5 => 5 | 173 => 214 | 212 => 242 | 51 => 108 | 20 => 20 | 213 => 243 | 46 => 70 | 232 => 278 | 233 => 279 | 70 => 184 | 72 => 186 | 75 => 188 | 80 => 192 | 164 => 248 | 127 => 176 | n => n, fun | 17 => 1 | 18 => 4 | 19 => 5 | n => n⟩
theorem dixLays : Go.Proofs.Lays.n137 Tryz.prog dren where
  mixed := by kernel_rfl
  f137 := Tryz.func94.trans (congrArg some (by kernel_rfl))
  f217 := Tryz.func110.trans (congrArg some (by kernel_rfl))
  f266 := Tryz.func138.trans (congrArg some (by kernel_rfl))
  t3 := by kernel_rfl
  a3 := fun _ => by kernel_rfl
  z3 := fun _ => by kernel_rfl
  v3 := fun _ => by kernel_rfl
  t5 := by kernel_rfl
  a5 := fun _ => by kernel_rfl
  z5 := fun _ => by kernel_rfl
  v5 := fun _ => by kernel_rfl
  t9 := by kernel_rfl
  a9 := fun _ => by kernel_rfl
  z9 := fun _ => by kernel_rfl
  v9 := fun _ => by kernel_rfl
theorem wsLays : Go.Proofs.Lays.n166 Tryz.prog dren where
  mixed := by kernel_rfl
  f166 := Tryz.func112.trans (congrArg some (by kernel_rfl))
  f240 := Tryz.func139.trans (congrArg some (by kernel_rfl))
  f276 := Tryz.func172.trans (congrArg some (by kernel_rfl))
  t0 := by kernel_rfl
  a0 := fun _ => by kernel_rfl
  z0 := fun _ => by kernel_rfl
  v0 := fun _ => by kernel_rfl
  t3 := by kernel_rfl
  a3 := fun _ => by kernel_rfl
  z3 := fun _ => by kernel_rfl
  v3 := fun _ => by kernel_rfl
  t4 := by kernel_rfl
  a4 := fun _ => by kernel_rfl
  z4 := fun _ => by kernel_rfl
  v4 := fun _ => by kernel_rfl
  t9 := by kernel_rfl
  a9 := fun _ => by kernel_rfl
  z9 := fun _ => by kernel_rfl
  v9 := fun _ => by kernel_rfl
  t20 := by kernel_rfl
  a20 := fun _ => by kernel_rfl
  z20 := fun _ => by kernel_rfl
  v20 := fun _ => by kernel_rfl
  t37 := by kernel_rfl
  a37 := fun _ => by kernel_rfl
  z37 := fun _ => by kernel_rfl
  v37 := fun _ => by kernel_rfl
  t70 := by kernel_rfl
  a70 := fun _ => by kernel_rfl
  z70 := fun _ => by kernel_rfl
  v70 := fun _ => by kernel_rfl
  t72 := by kernel_rfl
  a72 := fun _ => by kernel_rfl
  z72 := fun _ => by kernel_rfl
  v72 := fun _ => by kernel_rfl
  t75 := by kernel_rfl
  a75 := fun _ => by kernel_rfl
  z75 := fun _ => by kernel_rfl
  v75 := fun _ => by kernel_rfl
  t164 := by kernel_rfl
  a164 := fun _ => by kernel_rfl
  z164 := fun _ => by kernel_rfl
  v164 := fun _ => by kernel_rfl
theorem strLays : Go.Proofs.Lays.n169 Tryz.prog dren where
  mixed := by kernel_rfl
  f169 := Tryz.func113.trans (congrArg some (by kernel_rfl))
  t0 := by kernel_rfl
  a0 := fun _ => by kernel_rfl
  z0 := fun _ => by kernel_rfl
  v0 := fun _ => by kernel_rfl
  t3 := by kernel_rfl
  a3 := fun _ => by kernel_rfl
  z3 := fun _ => by kernel_rfl
  v3 := fun _ => by kernel_rfl
  t9 := by kernel_rfl
  a9 := fun _ => by kernel_rfl
  z9 := fun _ => by kernel_rfl
  v9 := fun _ => by kernel_rfl
  t37 := by kernel_rfl
  a37 := fun _ => by kernel_rfl
  z37 := fun _ => by kernel_rfl
  v37 := fun _ => by kernel_rfl
  t70 := by kernel_rfl
  a70 := fun _ => by kernel_rfl
  z70 := fun _ => by kernel_rfl
  v70 := fun _ => by kernel_rfl
  t72 := by kernel_rfl
  a72 := fun _ => by kernel_rfl
  z72 := fun _ => by kernel_rfl
  v72 := fun _ => by kernel_rfl
  t127 := by kernel_rfl
  a127 := fun _ => by kernel_rfl
  z127 := fun _ => by kernel_rfl
  v127 := fun _ => by kernel_rfl
theorem dlenLays : Go.Proofs.Lays.n170 Tryz.prog dren where
  mixed := by kernel_rfl
  f170 := Tryz.func176.trans (congrArg some (by kernel_rfl))
  t0 := by kernel_rfl
  a0 := fun _ => by kernel_rfl
  z0 := fun _ => by kernel_rfl
  v0 := fun _ => by kernel_rfl
  t3 := by kernel_rfl
  a3 := fun _ => by kernel_rfl
  z3 := fun _ => by kernel_rfl
  v3 := fun _ => by kernel_rfl
  t37 := by kernel_rfl
  a37 := fun _ => by kernel_rfl
  z37 := fun _ => by kernel_rfl
  v37 := fun _ => by kernel_rfl
  t70 := by kernel_rfl
  a70 := fun _ => by kernel_rfl
  z70 := fun _ => by kernel_rfl
  v70 := fun _ => by kernel_rfl
  t72 := by kernel_rfl
  a72 := fun _ => by kernel_rfl
  z72 := fun _ => by kernel_rfl
  v72 := fun _ => by kernel_rfl
theorem wbLays : Go.Proofs.Lays.n167 Tryz.prog dren where
  mixed := by kernel_rfl
  f167 := Tryz.func111.trans (congrArg some (by kernel_rfl))
  f240 := Tryz.func139.trans (congrArg some (by kernel_rfl))
  f276 := Tryz.func172.trans (congrArg some (by kernel_rfl))
  t0 := by kernel_rfl
  a0 := fun _ => by kernel_rfl
  z0 := fun _ => by kernel_rfl
  v0 := fun _ => by kernel_rfl
  t4 := by kernel_rfl
  a4 := fun _ => by kernel_rfl
  z4 := fun _ => by kernel_rfl
  v4 := fun _ => by kernel_rfl
  t5 := by kernel_rfl
  a5 := fun _ => by kernel_rfl
  z5 := fun _ => by kernel_rfl
  v5 := fun _ => by kernel_rfl
  t9 := by kernel_rfl
  a9 := fun _ => by kernel_rfl
  z9 := fun _ => by kernel_rfl
  v9 := fun _ => by kernel_rfl
  t20 := by kernel_rfl
  a20 := fun _ => by kernel_rfl
  z20 := fun _ => by kernel_rfl
  v20 := fun _ => by kernel_rfl
  t37 := by kernel_rfl
  a37 := fun _ => by kernel_rfl
  z37 := fun _ => by kernel_rfl
  v37 := fun _ => by kernel_rfl
  t70 := by kernel_rfl
  a70 := fun _ => by kernel_rfl
  z70 := fun _ => by kernel_rfl
  v70 := fun _ => by kernel_rfl
  t72 := by kernel_rfl
  a72 := fun _ => by kernel_rfl
  z72 := fun _ => by kernel_rfl
  v72 := fun _ => by kernel_rfl
  t75 := by kernel_rfl
  a75 := fun _ => by kernel_rfl
  z75 := fun _ => by kernel_rfl
  v75 := fun _ => by kernel_rfl
  t164 := by kernel_rfl
  a164 := fun _ => by kernel_rfl
  z164 := fun _ => by kernel_rfl
  v164 := fun _ => by kernel_rfl
theorem fiLays : Go.Proofs.LaysM.n173 Tryz.prog dren where
  mixed := by kernel_rfl
  f129 := Tryz.func56.trans (congrArg some (by kernel_rfl))
  f173 := Tryz.func90.trans (congrArg some (by kernel_rfl))
  f246 := Tryz.func107.trans (congrArg some (by kernel_rfl))
  f283 := Tryz.func131.trans (congrArg some (by kernel_rfl))
  f284 := Tryz.func132.trans (congrArg some (by kernel_rfl))
  f285 := Tryz.func133.trans (congrArg some (by kernel_rfl))
  f286 := Tryz.func134.trans (congrArg some (by kernel_rfl))
  f317 := Tryz.func164.trans (congrArg some (by kernel_rfl))
  f318 := Tryz.func165.trans (congrArg some (by kernel_rfl))
  f319 := Tryz.func166.trans (congrArg some (by kernel_rfl))
  f320 := Tryz.func167.trans (congrArg some (by kernel_rfl))
  f337 := Tryz.func189.trans (congrArg some (by kernel_rfl))
  f338 := Tryz.func190.trans (congrArg some (by kernel_rfl))
  t0 := by kernel_rfl
  a0 := fun _ => by kernel_rfl
  z0 := fun _ => by kernel_rfl
  v0 := fun _ => by kernel_rfl
  t2 := by kernel_rfl
  a2 := fun _ => by kernel_rfl
  z2 := fun _ => by kernel_rfl
  v2 := fun _ => by kernel_rfl
  t3 := by kernel_rfl
  a3 := fun _ => by kernel_rfl
  z3 := fun _ => by kernel_rfl
  v3 := fun _ => by kernel_rfl
  t4 := by kernel_rfl
  a4 := fun _ => by kernel_rfl
  z4 := fun _ => by kernel_rfl
  v4 := fun _ => by kernel_rfl
  t5 := by kernel_rfl
  a5 := fun _ => by kernel_rfl
  z5 := fun _ => by kernel_rfl
  v5 := fun _ => by kernel_rfl
  t9 := by kernel_rfl
  a9 := fun _ => by kernel_rfl
  z9 := fun _ => by kernel_rfl
  v9 := fun _ => by kernel_rfl
  t20 := by kernel_rfl
  a20 := fun _ => by kernel_rfl
  z20 := fun _ => by kernel_rfl
  v20 := fun _ => by kernel_rfl
  t37 := by kernel_rfl
  a37 := fun _ => by kernel_rfl
  z37 := fun _ => by kernel_rfl
  v37 := fun _ => by kernel_rfl
  t46 := by kernel_rfl
  a46 := fun _ => by kernel_rfl
  z46 := fun _ => by kernel_rfl
  v46 := fun _ => by kernel_rfl
  t51 := by kernel_rfl
  a51 := fun _ => by kernel_rfl
  z51 := fun _ => by kernel_rfl
  v51 := fun _ => by kernel_rfl
  t53 := by kernel_rfl
  a53 := fun _ => by kernel_rfl
  z53 := fun _ => by kernel_rfl
  v53 := fun _ => by kernel_rfl
  t171 := by kernel_rfl
  a171 := fun _ => by kernel_rfl
  z171 := fun _ => by kernel_rfl
  v171 := fun _ => by kernel_rfl
  t173 := by kernel_rfl
  a173 := fun _ => by kernel_rfl
  z173 := fun _ => by kernel_rfl
  v173 := fun _ => by kernel_rfl
  t212 := by kernel_rfl
  a212 := fun _ => by kernel_rfl
  z212 := fun _ => by kernel_rfl
  v212 := fun _ => by kernel_rfl
  t213 := by kernel_rfl
  a213 := fun _ => by kernel_rfl
  z213 := fun _ => by kernel_rfl
  t232 := by kernel_rfl
  a232 := fun _ => by kernel_rfl
  z232 := fun _ => by kernel_rfl
  v232 := fun _ => by kernel_rfl
  t233 := by kernel_rfl
  a233 := fun _ => by kernel_rfl
  z233 := fun _ => by kernel_rfl
  v233 := fun _ => by kernel_rfl
  g17 := by kernel_rfl
  g18 := by kernel_rfl
  g19 := by kernel_rfl
  i0 := by kernel_rfl
  i2 := by kernel_rfl
  i3 := by kernel_rfl
  i4 := by kernel_rfl
  i5 := by kernel_rfl
  i9 := by kernel_rfl
  i20 := by kernel_rfl
  i37 := by kernel_rfl
  i46 := by kernel_rfl
  i51 := by kernel_rfl
  i53 := by kernel_rfl
  i171 := by kernel_rfl
  i173 := by kernel_rfl
  i212 := by kernel_rfl
  i232 := by kernel_rfl
  i233 := by kernel_rfl
  m17 := by kernel_rfl
  m18 := by kernel_rfl
  m19 := by kernel_rfl
theorem bExtra : Builder.Extra Tryz.prog dren where
  sizeBuilder := by kernel_rfl
  liesBuilder := by kernel_rfl
  t5 := by kernel_rfl
  a5 := fun _ => by kernel_rfl
  z5 := fun _ => by kernel_rfl
  v5 := fun _ => by kernel_rfl
  infoByte := by kernel_rfl
  cellsByte := by kernel_rfl
  sizeByte := by kernel_rfl
  neB5 := by decide
end Go.Proofs.YtpmmbaahoegmlaaGreatDoor

namespace Go.Proofs.YtpmmbaahoegmlaaGreatDoor
open Go.RowKit Go.Deep Go.Shelf

def vcloneRen : Go.Shelf.Ren := ⟨fun _ => 80, fun t => if t = 37 then 175 else if t = 47 then 176 else if t = 5 then 5 else if t = 9 then 9 else if t = 3 then 3 else t, fun g => g⟩
theorem vcloneLays : LaysPu.n25 Tryz.prog vcloneRen where
  mixed := by kernel_rfl
  f25 := by kernel_rfl
  t0 := by kernel_rfl
  a0 := fun _ => by kernel_rfl
  z0 := fun _ => by kernel_rfl
  v0 := fun _ => by kernel_rfl
  i0 := by kernel_rfl
  t3 := by kernel_rfl
  a3 := fun _ => by kernel_rfl
  z3 := fun _ => by kernel_rfl
  v3 := fun _ => by kernel_rfl
  i3 := by kernel_rfl
  t4 := by kernel_rfl
  a4 := fun _ => by kernel_rfl
  z4 := fun _ => by kernel_rfl
  v4 := fun _ => by kernel_rfl
  i4 := by kernel_rfl
  t5 := by kernel_rfl
  a5 := fun _ => by kernel_rfl
  z5 := fun _ => by kernel_rfl
  v5 := fun _ => by kernel_rfl
  i5 := by kernel_rfl
  t9 := by kernel_rfl
  a9 := fun _ => by kernel_rfl
  z9 := fun _ => by kernel_rfl
  v9 := fun _ => by kernel_rfl
  i9 := by kernel_rfl
  t37 := by kernel_rfl
  a37 := fun _ => by kernel_rfl
  z37 := fun _ => by kernel_rfl
  v37 := fun _ => by kernel_rfl
  i37 := by kernel_rfl
  t47 := by kernel_rfl
  a47 := fun _ => by kernel_rfl
  z47 := fun _ => by kernel_rfl
  v47 := fun _ => by kernel_rfl
  i47 := by kernel_rfl

theorem vclone_any (s : ByteArray) (w : World) (hs : s.size ≤ 281474976710656) : Calls Tryz.prog 63 #[.string s] w fun e w' => e = .returned (.string s) ∧ Below w.heap.size w w' := by
  have C : Hid (Calls Tryz.prog 80 #[.string s] w fun e w' => e = .returned (.string s) ∧ Below w.heap.size w w') := AnyPu.stringslite_Clone vcloneLays s w (by omega)
  go_enter Tryz.func63, Tryz.ntmps63
  go_wp2_with fail
  refine C.out.mono ?_
  rintro e w1 ⟨rfl, d1⟩
  have D := hid d1
  clear d1
  go_wp2_with fail
  go_ret
  exact ⟨rfl, D.out⟩
end Go.Proofs.YtpmmbaahoegmlaaGreatDoor

namespace Go.Proofs.YtpmmbaahoegmlaaGreatDoor
namespace Sc

/-- A number's digits, as bytes. -/
def dl (u : Nat) : List Int := (Lib.decDigits u).map fun b => (b.toNat : Int)
theorem dl_small {u : Nat} (h : u < 10) : dl u = [48 + (u : Int)] := by
  unfold dl
  rw [Lib.decDigits_one h]
  simp only [List.map_cons, List.map_nil]
  rw [UInt8.toNat_ofNat_of_lt' (by show 48 + u < 256; omega)]
  simp
theorem dl_big {u : Nat} (h : ¬ u < 10) : dl u = dl (u / 10) ++ [48 + ((u % 10 : Nat) : Int)] := by
  unfold dl
  rw [Lib.decDigits, dif_neg h, List.map_append]
  simp only [List.map_cons, List.map_nil]
  rw [UInt8.toNat_ofNat_of_lt' (by show 48 + u % 10 < 256; omega)]
  simp
theorem dl_is (u : Nat) : (∀ x ∈ dl u, dg x = true) ∧ dl u ≠ [] ∧ cap (dl u) = min (u : Int) 1000000000000000 := by
  induction u using Nat.strongRecOn with
  | _ u ih =>
    by_cases h : u < 10
    · rw [dl_small h]
      refine ⟨fun x hx => ?_, by simp, ?_⟩
      · rw [List.mem_singleton] at hx; subst hx; rw [dg_iff]; omega
      · have := cap_snoc [] (48 + (u : Int))
        rw [List.nil_append, cap_nil] at this
        rw [this]; omega
    · obtain ⟨h1, h2, h3⟩ := ih (u / 10) (by omega)
      rw [dl_big h]
      refine ⟨fun x hx => ?_, by simp, ?_⟩
      · rw [List.mem_append, List.mem_singleton] at hx
        rcases hx with hx | hx
        · exact h1 x hx
        · subst hx; rw [dg_iff]; omega
      · rw [cap_snoc, h3]; omega

theorem run_app {p : Int → Bool} (hp : p 0 = false) {as' bs cs : List Int} (h1 : ∀ x ∈ bs, p x = true) (h2 : p (pk cs 0) = false) : run p (as' ++ bs ++ cs) as'.length = bs.length := by
  apply run_is hp
  · intro j hj
    rw [pk_append, if_pos (by simp; omega), pk_append, if_neg (by omega), show as'.length + j - as'.length = j by omega]
    apply h1
    simp [pk, List.getD, hj]
  · rw [pk_append, if_neg (by simp), show as'.length + bs.length - (as' ++ bs).length = 0 by simp]
    exact h2
theorem take_app {as' bs cs : List Int} : ((as' ++ bs ++ cs).drop as'.length).take bs.length = bs := by
  rw [List.append_assoc, List.drop_left, List.take_left]

/-- Digits that are there, all digits. -/
def Dig (ds : List Int) : Prop := ds ≠ [] ∧ ∀ x ∈ ds, dg x = true
theorem Dig.pk0 {ds : List Int} (h : Dig ds) : dg (pk ds 0) = true := by
  obtain ⟨h1, h2⟩ := h
  cases ds with
  | nil => exact absurd rfl h1
  | cons x l => exact h2 x (by simp)

end Sc
end Go.Proofs.YtpmmbaahoegmlaaGreatDoor

namespace Go.Proofs.YtpmmbaahoegmlaaGreatDoor
namespace Dr

/-- A piece of a format. -/
structure Pc where
  t : List Int
  v : Int
  fl : Int
  wk : Int
  wd : Int
  pk : Int
  pr : Int

def Pc.no : Pc := ⟨[], 0, 0, 0, 0, 0, 0⟩

/-- The byte at a place, 0 behind the end. -/
def nx (xs : List Int) (j : Nat) : Int := xs.getD j 0

/-- The place of c in l, or -1. -/
def idx : List Int → Int → Int
  | [], _ => -1
  | x :: l, c => if x = c then 0 else if idx l c < 0 then -1 else idx l c + 1

theorem idx_ge (l : List Int) (c : Int) : -1 ≤ idx l c := by
  induction l with
  | nil => simp [idx]
  | cons x l ih => rw [idx]; split <;> (try split) <;> omega
theorem idx_lt (l : List Int) (c : Int) : idx l c < l.length := by
  induction l with
  | nil => simp [idx]
  | cons x l ih => rw [idx, List.length_cons]; split <;> (try split) <;> omega

def marks : List Int := [45, 43, 32, 35, 48]
def verbs : List Int := [100, 105, 111, 117, 120, 88, 99, 115, 101, 69, 102, 70, 103, 71]

/-- c is a flag. -/
def isF (c : Int) : Bool := decide (0 ≤ idx marks c)
def isD (c : Int) : Bool := decide (48 ≤ c) && decide (c ≤ 57)

theorem isD_iff {c : Int} : isD c = true ↔ 48 ≤ c ∧ c ≤ 57 := by simp [isD]
theorem isD_not {c : Int} : isD c = false ↔ ¬ (48 ≤ c ∧ c ≤ 57) := by
  rw [← isD_iff]; simp

/-- How many of the first elements have p. -/
def ct (p : Int → Bool) : List Int → Nat
  | [] => 0
  | c :: l => if p c = true then ct p l + 1 else 0

theorem ct_le (p : Int → Bool) (l : List Int) : ct p l ≤ l.length := by
  induction l with
  | nil => simp [ct]
  | cons c l ih => rw [ct, List.length_cons]; split <;> omega

theorem ct_app {p : Int → Bool} {a b : List Int} (h : ∀ x ∈ a, p x = true) : ct p (a ++ b) = a.length + ct p b := by
  induction a with
  | nil => simp
  | cons c l ih =>
    rw [List.cons_append, ct, if_pos (h c (by simp)), ih (fun x hx => h x (by simp [hx])), List.length_cons]
    omega
theorem ct_zero {p : Int → Bool} {l : List Int} (h : p (l.headD 0) = false) : ct p l = 0 := by
  cases l with
  | nil => rfl
  | cons c l => rw [ct, if_neg (by simp only [List.headD_cons] at h; rw [h]; simp)]

/-- The sum of the flags at the head. -/
def fS (s : Nat) : List Int → Nat
  | [] => s
  | c :: l => if isF c = true then fS (s ||| 2 ^ (idx marks c).toNat) l else s

/-- What the digits at the head write, capped. -/
def dN (n : Int) : List Int → Int
  | [] => n
  | c :: l => if isD c = true then dN (min (10 * n + (c - 48)) 4097) l else n

/-- A number: its kind, its value, its bytes, its error. -/
def nk (l : List Int) : Int := if l.headD 0 = 42 then 2 else if ct isD l = 0 then 0 else if 4096 < dN 0 l then 0 else 1
def nv (l : List Int) : Int := if l.headD 0 = 42 then 0 else if ct isD l = 0 then 0 else if 4096 < dN 0 l then 0 else dN 0 l
def nu (l : List Int) : Nat := if l.headD 0 = 42 then 1 else if ct isD l = 0 then 0 else if 4096 < dN 0 l then 0 else ct isD l
def ne (l : List Int) : Int := if l.headD 0 = 42 then 0 else if ct isD l = 0 then 0 else if 4096 < dN 0 l then 6 else 0

/-- A precision: likewise. -/
def pk (l : List Int) : Int := if l.headD 0 = 46 then (if ne l.tail = 0 ∧ nk l.tail = 0 then 1 else nk l.tail) else 0
def pv (l : List Int) : Int := if l.headD 0 = 46 then nv l.tail else 0
def pu (l : List Int) : Nat := if l.headD 0 = 46 then 1 + nu l.tail else 0
def pe (l : List Int) : Int := if l.headD 0 = 46 then ne l.tail else 0

/-- A verb. -/
def ve (l : List Int) : Int := if l = [] then 131 else if idx verbs (l.headD 0) < 0 then 130 else 0
def vv (l : List Int) : Int := if ve l = 0 then l.headD 0 else 0
def vu (l : List Int) : Nat := if ve l = 0 then 1 else 0

/-- The rest behind flags, width, precision. -/
def l1 (l : List Int) : List Int := l.drop (ct isF l)
def l2 (l : List Int) : List Int := (l1 l).drop (nu (l1 l))
def l3 (l : List Int) : List Int := (l2 l).drop (pu (l2 l))

/-- A directive behind its percent. -/
def de (l : List Int) : Int := if ne (l1 l) ≠ 0 then ne (l1 l) else if pe (l2 l) ≠ 0 then pe (l2 l) else ve (l3 l)
def dp (l : List Int) : Pc := if de l = 0 then ⟨[], vv (l3 l), fS 0 l, nk (l1 l), nv (l1 l), pk (l2 l), pv (l2 l)⟩ else Pc.no
def du (l : List Int) : Nat := if ne (l1 l) ≠ 0 then ct isF l else if pe (l2 l) ≠ 0 then ct isF l + nu (l1 l) + pu (l2 l) else ct isF l + nu (l1 l) + pu (l2 l) + vu (l3 l)

def isX (c : Int) : Bool := decide (c ≠ 37)

/-- A piece. -/
def qe (l : List Int) : Int := if l.headD 0 ≠ 37 then 0 else if l.tail.headD 0 = 37 then 0 else de l.tail
def qp (l : List Int) : Pc := if l.headD 0 ≠ 37 then ⟨l.take (ct isX l), 0, 0, 0, 0, 0, 0⟩ else if l.tail.headD 0 = 37 then ⟨[], 37, 0, 0, 0, 0, 0⟩ else dp l.tail
def qu (l : List Int) : Nat := if l.headD 0 ≠ 37 then ct isX l else if l.tail.headD 0 = 37 then 2 else 1 + du l.tail

/-- The pieces of a format, the place of its fault, the fault. -/
def pr : Nat → List Int → List Pc × Nat × Int
  | 0, _ => ([], 0, 0)
  | n + 1, l => if l = [] then ([], 0, 0) else if qe l ≠ 0 then ([], qu l, qe l) else if (pr n (l.drop (qu l))).2.2 = 0 then (qp l :: (pr n (l.drop (qu l))).1, 0, 0) else ([], qu l + (pr n (l.drop (qu l))).2.1, (pr n (l.drop (qu l))).2.2)

def prs (l : List Int) : List Pc × Nat × Int := pr (l.length + 1) l

theorem ve_len {l : List Int} (h : ve l = 0) : 1 ≤ l.length := by
  cases l with
  | nil => simp [ve] at h
  | cons c l => simp
theorem headD_len {l : List Int} {c : Int} (hc : c ≠ 0) (h : l.headD 0 = c) : 1 ≤ l.length := by
  cases l with
  | nil => simp at h; omega
  | cons c l => simp
theorem nu_le (l : List Int) : nu l ≤ l.length := by
  unfold nu
  have := ct_le isD l
  split
  · rename_i h; exact headD_len (by decide) h
  · split
    · omega
    · split <;> omega
theorem pu_le (l : List Int) : pu l ≤ l.length := by
  unfold pu
  split
  · rename_i h
    have := headD_len (by decide) h
    have := nu_le l.tail
    rw [List.length_tail] at this
    omega
  · omega
theorem vu_le (l : List Int) : vu l ≤ l.length := by
  unfold vu; split
  · rename_i h; exact ve_len h
  · omega
theorem du_le (l : List Int) : du l ≤ l.length := by
  have a := ct_le isF l
  have b := nu_le (l1 l)
  have c := pu_le (l2 l)
  have d := vu_le (l3 l)
  unfold du
  unfold l3 l2 l1 at *
  simp only [List.length_drop] at *
  split
  · omega
  · split <;> omega
theorem qu_le {l : List Int} (hl : l ≠ []) : qu l ≤ l.length := by
  unfold qu
  have := List.length_pos_iff.2 hl
  split
  · exact ct_le _ _
  · split
    · rename_i h
      have := headD_len (by decide) h
      rw [List.length_tail] at this
      omega
    · have := du_le l.tail
      rw [List.length_tail] at this
      omega
theorem qu_pos {l : List Int} (hl : l ≠ []) : 1 ≤ qu l := by
  unfold qu
  split
  · rename_i h
    cases l with
    | nil => exact absurd rfl hl
    | cons c l => simp only [List.headD_cons] at h; rw [ct, if_pos (by simp [isX, h])]; omega
  · split <;> omega

theorem pr_fuel (n m : Nat) (l : List Int) (hn : l.length < n) (hm : l.length < m) : pr n l = pr m l := by
  induction n generalizing m l with
  | zero => omega
  | succ n ih =>
    cases m with
    | zero => omega
    | succ m =>
      by_cases hl : l = []
      · simp [pr, hl]
      · have p := qu_pos hl
        have q := qu_le hl
        have e := ih m (l.drop (qu l)) (by rw [List.length_drop]; omega) (by rw [List.length_drop]; omega)
        simp only [pr, e]
theorem prs_nil : prs [] = ([], 0, 0) := by simp [prs, pr]
theorem prs_err {l : List Int} (hl : l ≠ []) (h : qe l ≠ 0) : prs l = ([], qu l, qe l) := by
  rw [prs, pr, if_neg hl, if_pos h]
theorem prs_cons {l : List Int} (hl : l ≠ []) (h : qe l = 0) : prs l = if (prs (l.drop (qu l))).2.2 = 0 then (qp l :: (prs (l.drop (qu l))).1, 0, 0) else ([], qu l + (prs (l.drop (qu l))).2.1, (prs (l.drop (qu l))).2.2) := by
  have p := qu_pos hl
  have q := qu_le hl
  have e : pr l.length (l.drop (qu l)) = prs (l.drop (qu l)) := pr_fuel _ _ _ (by rw [List.length_drop]; omega) (by omega)
  rw [prs, pr, if_neg hl, if_neg (by simp [h]), e]
end Dr
end Go.Proofs.YtpmmbaahoegmlaaGreatDoor
