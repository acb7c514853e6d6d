/-
  Texts put together: FDigits, IDec, FDec, FTrimR, TrailW, MSt, FExact, FExact2, FAll, FClosed.
-/
import Derived.Test.YtaoaniigbooihaaGreatDoorFNum
import Derived.Test.YtaoaniigbooihaaGreatDoorFShl
import Derived.Test.YtaoaniigbooihaaGreatDoorRB
import Derived.Test.YtaoaniigbooihaaGreatDoorIWalk1B
import Derived.Laws.Rows
import Derived.Test.YtaoaniigbooihaaGreatDoorNStr
import Derived.Test.YtaoaniigbooihaaGreatDoorBlenIs
import Derived.Shelf.Spec.TrailingZeros
import Derived.Laws.Bits64b
import Derived.Lib.ItoaNum
import Derived.Test.YtaoaniigbooihaaGreatDoorXMem
import Derived.Deep.RegionHeld3
import Derived.Test.YtaoaniigbooihaaGreatDoorFRow3
namespace Go.Proofs.YtaoaniigbooihaaGreatDoor
open Go Go.RowKit Go.Deep

theorem fp10_pw {j : Nat} (h : j ≤ 20000) : (10 : Int) ^ j < Nm.pw 4096 := by
  have h1 := Nat.pow_le_pow_left (show 10 ≤ 2 ^ 4 by decide) j
  rw [← Nat.pow_mul] at h1
  have e1 : ((10 ^ j : Nat) : Int) = 10 ^ j := by simp
  have e2 : ((2 ^ (4 * j) : Nat) : Int) = 2 ^ (4 * j) := by simp
  have h3 : (2 : Int) ^ (4 * j) < 2 ^ 262144 := by
    have h4 := Nm.two_mono (show 4 * j + 1 ≤ 262144 by omega)
    have h5 : (2 : Int) ^ (4 * j + 1) = 2 ^ (4 * j) * 2 := Int.pow_succ _ _
    have h6 : (0 : Int) < 2 ^ (4 * j) := Int.pow_pos (by omega)
    generalize (2 : Int) ^ 262144 = a at *
    omega
  rw [fpw_4096]
  omega

theorem f5_10 (n : Nat) : (5 : Int) ^ n ≤ 10 ^ n := by
  have h1 := Nat.pow_le_pow_left (show 5 ≤ 10 by decide) n
  have e1 : ((10 ^ n : Nat) : Int) = 10 ^ n := by simp
  have e2 : ((5 ^ n : Nat) : Int) = 5 ^ n := by simp
  omega
theorem f2_10 (n : Nat) : (2 : Int) ^ n ≤ 10 ^ n := by
  have h1 := Nat.pow_le_pow_left (show 2 ≤ 10 by decide) n
  have e1 : ((10 ^ n : Nat) : Int) = 10 ^ n := by simp
  have e2 : ((2 ^ n : Nat) : Int) = 2 ^ n := by simp
  omega

theorem fpow5_ok (k : Int) (n : Nat) (w : World) (hk : k = (n : Int)) (hn : n ≤ 20000) :
    Calls Tryz.prog 103 #[.int .i64 k] w fun e w' => ∃ r os, e = .returned (.tuple #[.slice r (List.length os) (List.length os), .int .i64 0]) ∧ Ans w.heap.size w' r os (5 ^ n) ∧ Below w.heap.size w w' := by
  refine (pow5_gives k n w hk (by omega)).mono ?_
  rintro e w' ⟨⟨_, r, os, rfl, A⟩ | ⟨h, _⟩, hB⟩
  · exact ⟨r, os, rfl, A, hB⟩
  · exact absurd (Int.lt_of_le_of_lt (f5_10 n) (fp10_pw hn)) (Int.not_lt.2 h)

/-- s writes T in base 10. -/
structure DigT (T : Int) (s : ByteArray) (xs : List Int) : Prop where
  str : Str s xs
  digs : Digs xs
  val : dv xs = T
  head : xs.getD 0 0 ≠ 48
  ne : xs ≠ []
  len : xs.length ≤ 3000

theorem small_dig : ∀ d : Int, 0 ≤ d → d < 10 → (lettersOf false).getD d.toNat 0 = d + 48 := by
  intro d h0 h1
  obtain ⟨n, rfl⟩ := Int.eq_ofNat_of_zero_le h0
  have : n < 10 := by omega
  match n, this with
  | 0, _ => rfl
  | 1, _ => rfl
  | 2, _ => rfl
  | 3, _ => rfl
  | 4, _ => rfl
  | 5, _ => rfl
  | 6, _ => rfl
  | 7, _ => rfl
  | 8, _ => rfl
  | 9, _ => rfl

theorem dig_lets {T : Int} {L K : Nat} {s : ByteArray} (h0 : 0 < T) (hL : T < 10 ^ L) (hK : K ≤ 2000) (hb : T < 10 ^ K) (hs : Str s (lets (lettersOf false) (Dn.strip (Dn.dg 10 L T)))) : DigT T s (lets (lettersOf false) (Dn.strip (Dn.dg 10 L T))) := by
  have mem : ∀ d ∈ Dn.strip (Dn.dg 10 L T), 0 ≤ d ∧ d < 10 := fun d hd => Dn.dg_mem (by omega) L T d (Dn.strip_mem hd)
  have e : lets (lettersOf false) (Dn.strip (Dn.dg 10 L T)) = (Dn.strip (Dn.dg 10 L T)).map (fun d => d + 48) := List.map_congr_left fun d hd => small_dig d (mem d hd).1 (mem d hd).2
  have v : Dn.tv 10 0 (Dn.strip (Dn.dg 10 L T)) = T := by rw [Dn.tv_strip]; exact Dn.tv_dg (by omega) L T (by omega) hL
  have ne : Dn.strip (Dn.dg 10 L T) ≠ [] := by
    intro c
    rw [c] at v
    simp [Dn.tv] at v
    omega
  have dg : Digs (lets (lettersOf false) (Dn.strip (Dn.dg 10 L T))) := by
    rw [e]
    intro d hd
    obtain ⟨x, hx, rfl⟩ := List.mem_map.1 hd
    have := mem x hx
    omega
  have dvT : dv (lets (lettersOf false) (Dn.strip (Dn.dg 10 L T))) = T := by
    rw [e]
    unfold dv
    rw [List.map_map, show ((fun d : Int => d - 48) ∘ fun d => d + 48) = id from funext fun d => by simp, List.map_id]
    exact v
  have hd : (lets (lettersOf false) (Dn.strip (Dn.dg 10 L T))).getD 0 0 ≠ 48 := by
    rw [e]
    match hm : Dn.strip (Dn.dg 10 L T), ne with
    | x :: ys, _ =>
      have := Dn.strip_head hm
      simp
      omega
  have nn : lets (lettersOf false) (Dn.strip (Dn.dg 10 L T)) ≠ [] := by rw [e]; simpa using ne
  refine ⟨hs, dg, dvT, hd, nn, ?_⟩
  obtain ⟨n, hn⟩ : ∃ n, (lets (lettersOf false) (Dn.strip (Dn.dg 10 L T))).length = n + 1 := ⟨(lets (lettersOf false) (Dn.strip (Dn.dg 10 L T))).length - 1, by have := List.length_pos_iff.2 nn; omega⟩
  have := Fx.head_low dg hn hd
  rw [dvT] at this
  have := Fx.p_lt (a := n) (b := K) (Int.lt_of_le_of_lt this hb)
  omega

set_option maxRecDepth 100000 in
theorem fdigits_any (p : Option Addr) (os : List Int) (B : Nat) (T : Int) (w : World) (K : Nat) (A : Ans B w p os T) (h0 : 0 < T) (hK : K ≤ 2000) (hb : T < 10 ^ K) :
    Calls Tryz.prog 76 #[.slice p (List.length os) (List.length os)] w fun e w' => ∃ s xs, e = .returned (.tuple #[.string s, .int .i64 0]) ∧ DigT T s xs ∧ Below w.heap.size w w' := by
  have hp : T < Nm.pw 4096 := Int.lt_trans hb (fp10_pw (by omega))
  have IB : Hid (Calls Tryz.prog 108 #[.slice p (List.length os) (List.length os), .int .i64 10, .bool false] w fun e w' => ∃ s xs, e = .returned (.tuple #[.string s, .int .i64 0]) ∧ DigT T s xs ∧ Below w.heap.size w w') := by
    refine (inBase_any p _ _ os 10 false w (A.argT hp) (by omega) (by omega)).mono ?_
    rintro e w' ⟨s, xs, E, rfl, hs, h, hB⟩
    have ts := A.tsT hp
    have hv : Nm.val os = T := A.2.2.2.1
    cases h with
    | big c => omega
    | base _ c => omega
    | zero c _ _ =>
      have := (Nm.tsize_zero_iff A.2.1).1 c
      omega
    | ok L c1 c2 c3 c4 c5 =>
      rw [hv] at c5 hs
      exact ⟨s, _, rfl, dig_lets h0 c5 hK hb hs, hB⟩
  clear A h0 hb hp hK
  go_enter Tryz.func76, Tryz.ntmps76
  go_wp2_with fail
  refine IB.out.mono ?_
  rintro e w' ⟨s, xs, rfl, D, hB⟩
  have HD := hid (And.intro D hB)
  clear D hB IB
  go_wp2_with fail
  go_ret2
  exact ⟨s, xs, rfl, HD.out.1, HD.out.2⟩
end Go.Proofs.YtaoaniigbooihaaGreatDoor

/-
  ieee: Decode (made by mkdec.py).
-/
namespace Go.Proofs.YtaoaniigbooihaaGreatDoor
open Go Go.RowKit Go.Deep

namespace Ie
/-- The mantissa that Decode tells. -/
def dm (d : Int) : Int := if cls d = 2 then 4503599627370496 + d % 4503599627370496 else if cls d = 1 ∨ cls d = 4 then d % 4503599627370496 else 0
/-- The exponent that Decode tells. -/
def de (d : Int) : Int := if cls d = 2 then fld d - 1075 else if cls d = 1 then -1074 else 0
theorem cls_cases (d : Int) : cls d = 0 ∨ cls d = 1 ∨ cls d = 2 ∨ cls d = 3 ∨ cls d = 4 := by
  simp only [cls]; split <;> split <;> (try split) <;> omega
theorem fld_bd (d : Int) : 0 ≤ fld d ∧ fld d < 2048 := by simp only [fld]; omega
end Ie

/-- A double taken apart, as Go has it. -/
def partsOf (neg : Bool) (c m e : Int) : Value := .agg #[.bool neg, .int .i64 c, .int .u64 m, .int .i64 e]

theorem ret_parts {n n' : Bool} {c c' m m' e e' : Int} (h0 : n = n') (h1 : c = c') (h2 : m = m') (h3 : e = e') : Ending.returned (partsOf n c m e) = .returned (partsOf n' c' m' e') := by rw [h0, h1, h2, h3]

theorem twice_alloc (w : World) (A B : Obj) : Below w.heap.size w ((w.alloc A).alloc B) := by
  have h1 := Below.alloc (w := w) (Below.refl w.heap.size w) (Nat.le_refl _) A
  exact Below.alloc h1 (by have := h1.size; omega) B

set_option maxRecDepth 100000 in
set_option maxHeartbeats 4000000 in
theorem decode_any (d : Int) (w : World) (h0 : 0 ≤ d) (h1 : d < 18446744073709551616) :
    Calls Tryz.prog 58 #[.int .u64 d] w fun e w' => e = .returned (partsOf (decide (9223372036854775808 ≤ d)) (Ie.cls d) (Ie.dm d) (Ie.de d)) ∧ Below w.heap.size w w' := by
  have B := Ib.sign_and d h0 h1
  have F := Ib.frac_and d h0 h1
  have CL := hid (fun (wx : World) => class_any d wx h0 h1)
  have FL := hid (fun (wx : World) => field_any d wx h0 h1)
  obtain ⟨sv, hsv⟩ : ∃ sv, d / 9223372036854775808 * 9223372036854775808 = sv := ⟨_, rfl⟩
  rw [hsv] at B
  obtain ⟨f, hf⟩ : ∃ f, Ie.fld d = f := ⟨_, rfl⟩
  have fb := Ie.fld_bd d
  obtain ⟨y, hy⟩ : ∃ y, d % 4503599627370496 = y := ⟨_, rfl⟩
  have y0 : 0 ≤ y := by omega
  have y1 : y < 4503599627370496 := by omega
  rw [hf] at FL fb
  rw [hy] at F
  have O := Ib.hidden_or y y0 y1
  obtain ⟨fb0, fb1⟩ := fb
  have DM : Hid (Ie.dm d = if Ie.cls d = 2 then 4503599627370496 + y else if Ie.cls d = 1 ∨ Ie.cls d = 4 then y else 0) := by rw [Hid, Ie.dm, hy]
  have DE : Hid (Ie.de d = if Ie.cls d = 2 then f - 1075 else if Ie.cls d = 1 then -1074 else 0) := by rw [Hid, Ie.de, hf]
  have cc := Ie.cls_cases d
  have sc : (sv = 0 ∧ decide (9223372036854775808 ≤ d) = false) ∨ (sv = 9223372036854775808 ∧ decide (9223372036854775808 ≤ d) = true) := by
    rcases (show d < 9223372036854775808 ∨ 9223372036854775808 ≤ d by omega) with h | h
    · left; exact ⟨by omega, by simp; omega⟩
    · right; exact ⟨by omega, by simp; omega⟩
  rcases sc with ⟨rfl, sn⟩ | ⟨rfl, sn⟩ <;> rw [sn] <;> rcases cc with hc | hc | hc | hc | hc <;> rw [hc] at CL DM DE ⊢ <;> clear hsv hf hy hc sn
  · go_enter Tryz.func58, Tryz.ntmps58
    go_wp2_with fail
    refine (CL.out _).mono ?_
    rintro e w' ⟨rfl, rfl⟩
    go_wp2_with fail
    (try simp only [Exit.inBlock, Exit.then])
    refine bodyPost_ret (results_cell_row rfl _ _ w.heap.size 95 _ (0, 0) _ rfl (heap_alloc2_old _ _ _) Tryz.underlying95 rfl (by kernel_rfl)) rfl ?_
    exact ⟨ret_parts rfl rfl (by rw [DM.out]; rfl) (by rw [DE.out]; first | rfl | (show _ = f - 1075; omega)), twice_alloc _ _ _⟩
  · go_enter Tryz.func58, Tryz.ntmps58
    go_wp2_with fail
    refine (CL.out _).mono ?_
    rintro e w' ⟨rfl, rfl⟩
    go_wp2_with fail
    (try simp only [Exit.inBlock, Exit.then])
    refine bodyPost_ret (results_cell_row rfl _ _ w.heap.size 95 _ (0, 0) _ rfl (heap_alloc2_old _ _ _) Tryz.underlying95 rfl (by kernel_rfl)) rfl ?_
    exact ⟨ret_parts rfl rfl (by rw [DM.out]; rfl) (by rw [DE.out]; first | rfl | (show _ = f - 1075; omega)), twice_alloc _ _ _⟩
  · go_enter Tryz.func58, Tryz.ntmps58
    go_wp2_with fail
    refine (CL.out _).mono ?_
    rintro e w' ⟨rfl, rfl⟩
    go_wp2_with fail
    refine (FL.out _).mono ?_
    rintro e w' ⟨rfl, rfl⟩
    go_wp2_with fail
    (try simp only [Exit.inBlock, Exit.then])
    refine bodyPost_ret (results_cell_row rfl _ _ w.heap.size 95 _ (0, 0) _ rfl (heap_alloc2_old _ _ _) Tryz.underlying95 rfl (by kernel_rfl)) rfl ?_
    exact ⟨ret_parts rfl rfl (by rw [DM.out]; rfl) (by rw [DE.out]; first | rfl | (show _ = f - 1075; omega)), twice_alloc _ _ _⟩
  · go_enter Tryz.func58, Tryz.ntmps58
    go_wp2_with fail
    refine (CL.out _).mono ?_
    rintro e w' ⟨rfl, rfl⟩
    go_wp2_with fail
    (try simp only [Exit.inBlock, Exit.then])
    refine bodyPost_ret (results_cell_row rfl _ _ w.heap.size 95 _ (0, 0) _ rfl (heap_alloc2_old _ _ _) Tryz.underlying95 rfl (by kernel_rfl)) rfl ?_
    exact ⟨ret_parts rfl rfl (by rw [DM.out]; rfl) (by rw [DE.out]; first | rfl | (show _ = f - 1075; omega)), twice_alloc _ _ _⟩
  · go_enter Tryz.func58, Tryz.ntmps58
    go_wp2_with fail
    refine (CL.out _).mono ?_
    rintro e w' ⟨rfl, rfl⟩
    go_wp2_with fail
    (try simp only [Exit.inBlock, Exit.then])
    refine bodyPost_ret (results_cell_row rfl _ _ w.heap.size 95 _ (0, 0) _ rfl (heap_alloc2_old _ _ _) Tryz.underlying95 rfl (by kernel_rfl)) rfl ?_
    exact ⟨ret_parts rfl rfl (by rw [DM.out]; rfl) (by rw [DE.out]; first | rfl | (show _ = f - 1075; omega)), twice_alloc _ _ _⟩
  · go_enter Tryz.func58, Tryz.ntmps58
    go_wp2_with fail
    refine (CL.out _).mono ?_
    rintro e w' ⟨rfl, rfl⟩
    go_wp2_with fail
    (try simp only [Exit.inBlock, Exit.then])
    refine bodyPost_ret (results_cell_row rfl _ _ w.heap.size 95 _ (0, 0) _ rfl (heap_alloc2_old _ _ _) Tryz.underlying95 rfl (by kernel_rfl)) rfl ?_
    exact ⟨ret_parts rfl rfl (by rw [DM.out]; rfl) (by rw [DE.out]; first | rfl | (show _ = f - 1075; omega)), twice_alloc _ _ _⟩
  · go_enter Tryz.func58, Tryz.ntmps58
    go_wp2_with fail
    refine (CL.out _).mono ?_
    rintro e w' ⟨rfl, rfl⟩
    go_wp2_with fail
    (try simp only [Exit.inBlock, Exit.then])
    refine bodyPost_ret (results_cell_row rfl _ _ w.heap.size 95 _ (0, 0) _ rfl (heap_alloc2_old _ _ _) Tryz.underlying95 rfl (by kernel_rfl)) rfl ?_
    exact ⟨ret_parts rfl rfl (by rw [DM.out]; rfl) (by rw [DE.out]; first | rfl | (show _ = f - 1075; omega)), twice_alloc _ _ _⟩
  · go_enter Tryz.func58, Tryz.ntmps58
    go_wp2_with fail
    refine (CL.out _).mono ?_
    rintro e w' ⟨rfl, rfl⟩
    go_wp2_with fail
    refine (FL.out _).mono ?_
    rintro e w' ⟨rfl, rfl⟩
    go_wp2_with fail
    (try simp only [Exit.inBlock, Exit.then])
    refine bodyPost_ret (results_cell_row rfl _ _ w.heap.size 95 _ (0, 0) _ rfl (heap_alloc2_old _ _ _) Tryz.underlying95 rfl (by kernel_rfl)) rfl ?_
    exact ⟨ret_parts rfl rfl (by rw [DM.out]; rfl) (by rw [DE.out]; first | rfl | (show _ = f - 1075; omega)), twice_alloc _ _ _⟩
  · go_enter Tryz.func58, Tryz.ntmps58
    go_wp2_with fail
    refine (CL.out _).mono ?_
    rintro e w' ⟨rfl, rfl⟩
    go_wp2_with fail
    (try simp only [Exit.inBlock, Exit.then])
    refine bodyPost_ret (results_cell_row rfl _ _ w.heap.size 95 _ (0, 0) _ rfl (heap_alloc2_old _ _ _) Tryz.underlying95 rfl (by kernel_rfl)) rfl ?_
    exact ⟨ret_parts rfl rfl (by rw [DM.out]; rfl) (by rw [DE.out]; first | rfl | (show _ = f - 1075; omega)), twice_alloc _ _ _⟩
  · go_enter Tryz.func58, Tryz.ntmps58
    go_wp2_with fail
    refine (CL.out _).mono ?_
    rintro e w' ⟨rfl, rfl⟩
    go_wp2_with fail
    (try simp only [Exit.inBlock, Exit.then])
    refine bodyPost_ret (results_cell_row rfl _ _ w.heap.size 95 _ (0, 0) _ rfl (heap_alloc2_old _ _ _) Tryz.underlying95 rfl (by kernel_rfl)) rfl ?_
    exact ⟨ret_parts rfl rfl (by rw [DM.out]; rfl) (by rw [DE.out]; first | rfl | (show _ = f - 1075; omega)), twice_alloc _ _ _⟩
end Go.Proofs.YtaoaniigbooihaaGreatDoor

namespace Go.Proofs.YtaoaniigbooihaaGreatDoor
open Go Go.RowKit Go.Deep

theorem Ie.fdec (d : Int) (h : Ie.cls d < 3) : 0 ≤ Ie.dm d ∧ Ie.dm d < 9007199254740992 ∧ -1074 ≤ Ie.de d ∧ Ie.de d ≤ 971 ∧ (Ie.cls d = 0 ↔ Ie.dm d = 0) := by
  have fb := Ie.fld_bd d
  unfold Ie.dm Ie.de
  unfold Ie.cls at *
  by_cases a : Ie.fld d = 0
  · rw [if_pos a] at *
    by_cases b : d % 4503599627370496 = 0
    · simp only [if_pos b]
      simp
    · simp only [if_neg b]
      simp
      omega
  · rw [if_neg a] at *
    by_cases b : Ie.fld d = 2047
    · rw [if_pos b] at *
      by_cases c : d % 4503599627370496 = 0
      · rw [if_pos c] at h; omega
      · rw [if_neg c] at h; omega
    · simp only [if_neg b]
      simp
      omega

theorem fretB {a b : Bool} (h : a = b) : Ending.returned (.bool a) = .returned (.bool b) := by rw [h]

/-- No NaN and no infinity. -/
def Ie.fnt (d : Int) : Bool := decide (Ie.cls d < 3)

set_option maxRecDepth 100000 in
theorem ffinite_any (d : Int) (w : World) (h0 : 0 ≤ d) (h1 : d < 18446744073709551616) :
    Calls Tryz.prog 40 #[.int .u64 d] w fun e w' => e = .returned (.bool (Ie.fnt d)) ∧ w' = w := by
  have C := hid (class_any d w h0 h1)
  have E : Hid (Ie.fnt d = decide (Ie.cls d < 3)) := rfl
  generalize Ie.cls d = c at *
  go_enter Tryz.func40, Tryz.ntmps40
  go_wp2_with fail
  refine C.out.mono ?_
  rintro e w' ⟨rfl, rfl⟩
  go_wp2_with fail
  go_ret
  exact ⟨fretB E.out.symm, rfl⟩
end Go.Proofs.YtaoaniigbooihaaGreatDoor

namespace Go.Proofs.YtaoaniigbooihaaGreatDoor
open Go.RowKit Go.Deep

/-- s' is s without some zeros at its end, and ends with none. -/
def FTail (xs : List Int) (e : Ending) : Prop := ∃ s' k, e = .returned (.string s') ∧ Str s' (xs.take k) ∧ k ≤ xs.length ∧ (∀ i, k ≤ i → i < xs.length → xs.getD i 0 = 48) ∧ (0 < k → xs.getD (k - 1) 0 ≠ 48)

set_option maxRecDepth 100000 in
set_option maxHeartbeats 1000000 in
theorem frtrim_any (s : ByteArray) (xs : List Int) (w : World) (hs : Str s xs) (hn1 : xs.length ≤ 562949953421312) :
    Calls Tryz.prog 97 #[.string s, .int .u8 48] w fun e w' => FTail xs e ∧ w' = w := by
  have HS := hid hs
  have HN := hid hn1
  clear hs hn1
  go_enter Tryz.func97, Tryz.ntmps97
  go_wp2_with fail
  go_loop [0] (fun c => ∃ s' m, c = .string s' ∧ Hid (Str s' (xs.take m) ∧ m ≤ xs.length ∧ s'.size = m ∧ (∀ i, m ≤ i → i < xs.length → xs.getD i 0 = 48))) (fun c => match c with | .string s' => s'.size | _ => 0)
  case atStart => exact ⟨s, xs.length, rfl, by rw [List.take_length]; exact HS.out, Nat.le_refl _, HS.out.size, fun i h1 h2 => by omega⟩
  case round =>
    obtain ⟨s', m, rfl, I⟩ := hrel
    have hsz : s'.size = m := I.out.2.2.1
    have hmb : (m : Int) ≤ 562949953421312 := by have := HN.out; have := I.out.2.1; omega
    by_cases h0 : m = 0
    · subst h0
      have F : Hid (FTail xs (.returned (.string s'))) := ⟨s', 0, rfl, I.out.1, Nat.zero_le _, I.out.2.2.2, fun h => by omega⟩
      clear I
      go_wp2_with fail
      go_ret
      exact ⟨F.out, rfl⟩
    · obtain ⟨u, hu⟩ : ∃ u, m = u + 1 := ⟨m - 1, by omega⟩
      have hmi : (0 : Int) < (m : Int) := by omega
      have hmu : (m : Int) - 1 = (u : Int) := by omega
      have hum : (u : Int) < (m : Int) := by omega
      obtain ⟨x, X⟩ : ∃ x, Hid (xs.getD u 0 = x) := ⟨_, rfl⟩
      have hx : ∀ h : u < s'.size, ((s'[u]'h).toNat : Int) = x := fun h => by
        rw [I.out.1.at u h, ← X.out]
        simp [List.getD, show u < m by omega]
      have HU := hid hu
      by_cases hd : x = 48
      · subst hd
        have F : Hid (Str (s'.extract 0 u) (xs.take u) ∧ u ≤ xs.length ∧ (s'.extract 0 u).size = u ∧ (∀ i, u ≤ i → i < xs.length → xs.getD i 0 = 48)) := by
          have e := I.out.1.extract 0 u
          rw [List.drop_zero, Nat.sub_zero, List.take_take, show min u m = u by omega] at e
          refine ⟨e, by have := I.out.2.1; omega, by rw [e.size]; have := I.out.2.1; simp; omega, fun i h1 h2 => ?_⟩
          by_cases c : i = u
          · subst c; exact X.out
          · exact I.out.2.2.2 i (by omega) h2
        have SZ : Hid ((s'.extract 0 u).size < s'.size) := by show _ < _; rw [F.out.2.2.1, hsz]; omega
        clear I hu h0
        go_wp2_with fail
        go_round
        case rel => exact ⟨_, _, rfl, F.out⟩
        case measure => exact SZ.out
      · have hd2 : (x == 48) = false := by rw [beq_eq_false_iff_ne]; exact hd
        have F : Hid (FTail xs (.returned (.string s'))) := ⟨s', m, rfl, I.out.1, I.out.2.1, I.out.2.2.2, fun _ => by rw [show m - 1 = u by omega, X.out]; exact hd⟩
        clear I hu h0
        go_wp2_with fail
        go_ret
        exact ⟨F.out, rfl⟩


set_option maxRecDepth 100000 in
theorem frtrim0_any (s : ByteArray) (xs : List Int) (w : World) (hs : Str s xs) (hn1 : xs.length ≤ 562949953421312) :
    Calls Tryz.prog 63 #[.string s, .string ⟨#[48]⟩] w fun e w' => FTail xs e ∧ w' = w := by
  have T := hid (frtrim_any s xs w hs hn1)
  by_cases h : xs = []
  · have F : Hid (FTail xs (.returned (.string s))) := ⟨s, 0, rfl, by rw [h] at hs ⊢; exact hs, Nat.zero_le _, fun i _ hi => by rw [h] at hi; simp at hi, fun hlt => by omega⟩
    have hs0 : s = ⟨#[]⟩ := hs.inj (by rw [h]; rfl)
    subst hs0
    clear hs hn1 h
    go_enter Tryz.func63, Tryz.ntmps63
    go_wp2_with fail
    go_ret
    exact ⟨F.out, rfl⟩
  · have e1 : s.toList ≠ [] := by
      intro c
      apply h
      rw [ByteArray.toList_eq] at c
      rw [← hs, c]
      rfl
    have e2 : (s.toList == []) = false := by rw [beq_eq_false_iff_ne]; exact e1
    have e3 : s.toList.isEmpty = false := by rw [List.isEmpty_eq_false_iff]; exact e1
    clear hs hn1 h
    go_enter Tryz.func63, Tryz.ntmps63
    go_wp2_with fail
    refine T.out.mono ?_
    rintro e w' ⟨h1, rfl⟩
    obtain ⟨s', j, rfl, h2⟩ := h1
    have F : Hid (FTail xs (.returned (.string s'))) := ⟨s', j, rfl, h2⟩
    clear h2 T
    go_wp2_with fail
    go_ret
    exact ⟨F.out, rfl⟩
end Go.Proofs.YtaoaniigbooihaaGreatDoor

namespace Go.Proofs.YtaoaniigbooihaaGreatDoor
open Go.RowKit Go.Deep

/-- The kit's contract for TrailingZeros64, laid at this program. -/
def tzRen : Go.Shelf.Ren := ⟨fun _ => 72, fun t => if t = 22 then 26 else if t = 25 then 120 else if t = 54 then 139 else if t = 5 then 5 else if t = 4 then 4 else if t = 0 then 0 else 3, fun _ => 0⟩
theorem tzLays : Lays7.n29 Tryz.prog tzRen where
  mixed := by kernel_rfl
  f29 := by kernel_rfl
  t0 := by kernel_rfl
  a0 := fun _ => by kernel_rfl
  z0 := fun _ => by kernel_rfl
  v0 := fun _ => by kernel_rfl
  i0 := by kernel_rfl
  t3 := by kernel_rfl
  a3 := fun _ => by kernel_rfl
  z3 := fun _ => by kernel_rfl
  v3 := fun _ => by kernel_rfl
  i3 := by kernel_rfl
  t4 := by kernel_rfl
  a4 := fun _ => by kernel_rfl
  z4 := fun _ => by kernel_rfl
  v4 := fun _ => by kernel_rfl
  i4 := by kernel_rfl
  t5 := by kernel_rfl
  a5 := fun _ => by kernel_rfl
  z5 := fun _ => by kernel_rfl
  v5 := fun _ => by kernel_rfl
  i5 := by kernel_rfl
  t22 := by kernel_rfl
  a22 := fun _ => by kernel_rfl
  z22 := fun _ => by kernel_rfl
  v22 := fun _ => by kernel_rfl
  i22 := by kernel_rfl
  t25 := by kernel_rfl
  a25 := fun _ => by kernel_rfl
  z25 := fun _ => by kernel_rfl
  v25 := fun _ => by kernel_rfl
  i25 := by kernel_rfl
  t54 := by kernel_rfl
  a54 := fun _ => by kernel_rfl
  z54 := fun _ => by kernel_rfl
  g1 := by kernel_rfl

/-- The table that TrailingZeros64 reads. -/
def Tab (w : World) : Prop := TabAt 0 Lib.deBruijn64tab w

theorem Tab.below {w w' : World} (h : Tab w) (hb : Below w.heap.size w w') : Tab w' := by
  intro j hj
  have hc := h j hj
  rw [hb.cell (p := ⟨0, j, none⟩) (cell_lt hc)]
  exact hc

theorem tz64 (x : Int) (w : World) (h0 : 0 < x) (h1 : x < 18446744073709551616) (hT : Tab w) :
    Calls Tryz.prog 72 #[.int .u64 x] w fun e w' => ∃ (t : Nat) (m : Int), e = .returned (.int .i64 t) ∧ t ≤ 63 ∧ Hid (x = 2 ^ t * (2 * m + 1)) ∧ w' = w := by
  obtain ⟨n, rfl⟩ := Int.eq_ofNat_of_zero_le (show 0 ≤ x by omega)
  refine (Any7.bits_TrailingZeros64 tzLays n (by omega) w (fun _ => hT)).mono ?_
  rintro e w' ⟨rfl, rfl⟩
  obtain ⟨m, hm, hlt⟩ := Lib.ctzFrom_spec 64 n (by omega) (by simpa using (show n < 18446744073709551616 by omega))
  refine ⟨Lib.ctzFrom 64 n, m, by rw [Lib.ctz, if_neg (by omega)], by omega, ?_, rfl⟩
  show (n : Int) = _
  have e : ((2 ^ Lib.ctzFrom 64 n * (2 * m + 1) : Nat) : Int) = 2 ^ Lib.ctzFrom 64 n * (2 * (m : Int) + 1) := by simp
  rw [← e, ← hm]

set_option maxHeartbeats 1000000 in
theorem trail_any (p : Option Addr) (n cap : Nat) (zs : List Int) (w : World) (ha : Arg w p n cap zs) (hT : Tab w) :
    Calls Tryz.prog 280 #[.slice p n cap] w fun e w' => ∃ t : Nat, e = .returned (.int .i64 t) ∧ Nm.Trl (Nm.val zs) t ∧ w' = w := by
  obtain ⟨a1, a2, a3, a4, a5⟩ := ha
  rcases a4 with rfl | ⟨b, off, rfl, hcell⟩
  · have hn0 : n = 0 := by simpa using a1.symm
    subst hn0
    go_enter Tryz.func280, Tryz.ntmps280
    go_wp2
    refine wp_loop_rounds 1 ?_
    rw [rounds_succ]
    go_wp2
    go_ret
    exact ⟨0, rfl, .inl ⟨rfl, rfl⟩, rfl⟩
  · have H := hid a1
    have HC := hid hcell
    have HT := hid hT
    clear a1 hcell hT
    go_enter Tryz.func280, Tryz.ntmps280
    go_wp2
    go_loop [7] (fun t => ∃ k : Nat, k ≤ n ∧ t = .int .i64 k ∧ Hid (∀ j, j < k → zs.getD j 0 = 0)) (fun t => n - (intOf t).toNat)
    case atStart => exact ⟨0, Nat.zero_le _, rfl, fun j hj => by omega⟩
    case round =>
      obtain ⟨k, hk, rfl, hz⟩ := hrel
      by_cases hlt : k < n
      · obtain ⟨x, hx, X⟩ : ∃ x, w.cell? ⟨b, off + k, none⟩ = some (.int .u64 x) ∧ Hid (x = zs.getD k 0) := ⟨_, HC.out k (by have := H.out; omega), rfl⟩
        by_cases hx0 : x = 0
        · have hx0' : (x != 0) = false := by simp [hx0]
          have X0 := hid hx0
          clear hx0
          go_wp2
          go_round
          case rel =>
            refine ⟨k + 1, by omega, by go_num, fun i hi => ?_⟩
            by_cases e : i = k
            · subst e; rw [← X.out]; exact X0.out
            · exact hz.out i (by omega)
          case measure => simp [intOf]; omega
        · have hx0' : (x != 0) = true := by simp [hx0]
          have hxb := a5.at k
          rw [← X.out] at hxb
          have hx1 : 0 < x := by omega
          obtain ⟨hxa, hxb⟩ := hxb
          go_wp2_with fail
          refine (tz64 x _ hx1 hxb HT.out).mono ?_
          rintro e w' ⟨t, m, rfl, ht, E, rfl⟩
          go_wp2_with fail
          go_ret
          refine ⟨64 * k + t, retI (by omega), Nm.trl_at zs k t m (by have := H.out; omega) hz.out (by rw [← X.out]; exact E.out) ht, rfl⟩
      · have E : Hid (Nm.val zs = 0) := by
          have h0 : Nm.tsize zs = 0 := Nm.tsize_unique zs 0 (fun j _ => by
            by_cases hj : j < k
            · exact hz.out j hj
            · simp [List.getD, List.getElem?_eq_none (show zs.length ≤ j by have := H.out; omega)]) (.inl rfl)
          exact (Nm.tsize_zero_iff a5).1 h0
        go_wp2
        go_ret
        exact ⟨0, rfl, .inl ⟨E.out, rfl⟩, rfl⟩

end Go.Proofs.YtaoaniigbooihaaGreatDoor

/-
  A state as one predicate: what it says of the memory, and that only new memory was written.
-/
namespace Go.Proofs.YtaoaniigbooihaaGreatDoor
open Go Go.RowKit Go.Deep

structure St (S : World → Prop) (w wx : World) : Prop where
  cells : S wx
  bel : Below w.heap.size w wx

def Stays (S : World → Prop) : Prop := ∀ wx w' : World, S wx → Below wx.heap.size wx w' → S w'

theorem St.on {S : World → Prop} {w wx w' : World} (h : St S w wx) (k : Stays S) (hB : Below wx.heap.size wx w') : St S w w' := ⟨k _ _ h.cells hB, h.bel.trans (hB.mono h.bel.size)⟩
theorem St.drew {S : World → Prop} {w wx : World} (h : St S w wx) (k : Stays S) : St S w wx.drew := h.on k ⟨rfl, rfl, rfl, Nat.le_refl _, fun _ _ => rfl⟩
theorem St.more {S T : World → Prop} {w wx w' : World} (h : St S w wx) (k : Stays S) (hB : Below wx.heap.size wx w') (t : T w') : St (fun x => S x ∧ T x) w w' := ⟨⟨k _ _ h.cells hB, t⟩, h.bel.trans (hB.mono h.bel.size)⟩
theorem St.imp {S T : World → Prop} {w wx : World} (h : St S w wx) (k : ∀ x, S x → T x) : St T w wx := ⟨k _ h.cells, h.bel⟩
theorem St.to {S T : World → Prop} {w wx w' : World} (h : St S w wx) (hB : Below wx.heap.size wx w') (t : T w') : St T w w' := ⟨t, h.bel.trans (hB.mono h.bel.size)⟩

theorem Stays.cell (a : Addr) (v : Value) : Stays (fun w => w.cell? a = some v) := fun _ _ h hB => (hB.cell (cell_lt h)).trans h
theorem Stays.and {S T : World → Prop} (h : Stays S) (k : Stays T) : Stays (fun w => S w ∧ T w) := fun _ _ g hB => ⟨h _ _ g.1 hB, k _ _ g.2 hB⟩
theorem Stays.ans (B : Nat) (p : Option Addr) (os : List Int) (v : Int) : Stays (fun w => Ans B w p os v) := fun _ _ h hB => h.below hB (Nat.le_refl _)
theorem Stays.arg (p : Option Addr) (n cap : Nat) (os : List Int) : Stays (fun w => Arg w p n cap os) := fun _ _ h hB => h.below hB (Nat.le_refl _)
theorem Stays.tab : Stays Tab := fun _ _ h hB => h.below hB
theorem Stays.bel (w : World) : Stays (fun x => Below w.heap.size w x) := fun _ _ h hB => h.trans (hB.mono h.size)
theorem Stays.const (p : Prop) : Stays (fun _ => p) := fun _ _ h _ => h

/-- The state under a name of its own. -/
theorem state (S : World → Prop) (w : World) (k : Stays S) : ∃ SS : World → Prop, Hid (∀ wx w' : World, SS wx → Below wx.heap.size wx w' → SS w') ∧ Hid (∀ wx : World, SS wx → S wx) ∧ Hid (∀ wx : World, SS wx → Below w.heap.size w wx) ∧ Hid (∀ wx : World, S wx → Below w.heap.size w wx → SS wx) :=
  ⟨St S w, fun _ _ h hB => h.on k hB, fun _ h => h.cells, fun _ h => h.bel, fun _ h b => ⟨h, b⟩⟩

theorem drew_nil (w : World) : Below w.heap.size w w.drew := ⟨rfl, rfl, rfl, Nat.le_refl _, fun _ _ => rfl⟩
end Go.Proofs.YtaoaniigbooihaaGreatDoor

namespace Go.Proofs.YtaoaniigbooihaaGreatDoor
open Go Go.RowKit Go.Deep

theorem fprod_room {q : Int} {n : Nat} (q1 : q < 18446744073709551616) : q * 5 ^ n < 10 ^ (20 + n) := by
  have h1 := f5_10 n
  have h0 : (0 : Int) < 5 ^ n := Int.pow_pos (by omega)
  have h2 : q * 5 ^ n < 18446744073709551616 * 5 ^ n := Int.mul_lt_mul_of_pos_right q1 h0
  rw [Int.pow_add]
  have e : (10 : Int) ^ 20 = 100000000000000000000 := by decide
  rw [e]
  omega

set_option maxRecDepth 100000 in
theorem behind_any (p : Option Addr) (os : List Int) (B : Nat) (q k : Int) (n : Nat) (w : World) (A : Ans B w p os q) (q0 : 0 < q) (q1 : q < 18446744073709551616) (hk : k = (n : Int)) (hn : n ≤ 1074) :
    Calls Tryz.prog 74 #[.slice p (List.length os) (List.length os), .int .i64 k] w fun e w' => ∃ s xs, e = .returned (.string s) ∧ DigT (q * 5 ^ n) s xs ∧ Below w.heap.size w w' := by
  have F := hid (fpow5_ok k n w hk (by omega))
  have MU : Hid (∀ (w1 : World) (r : Option Addr) (zs : List Int), Below w.heap.size w w1 → Ans w.heap.size w1 r zs (5 ^ n) → Calls Tryz.prog 104 #[.slice p (List.length os) (List.length os), .slice r (List.length zs) (List.length zs)] w1 fun e w' => ∃ r os, e = .returned (.tuple #[.slice r (List.length os) (List.length os), .int .i64 0]) ∧ Ans w1.heap.size w' r os (q * 5 ^ n) ∧ Below w1.heap.size w1 w') := by
    intro w1 r zs hB A1
    have A0 := A.below hB (Nat.le_refl _)
    have r0 : q < Nm.pw 4096 := Int.lt_trans (show q < 10 ^ 20 by rw [show (10 : Int) ^ 20 = 100000000000000000000 by decide]; omega) (fp10_pw (by omega))
    have r1 : (5 : Int) ^ n < Nm.pw 4096 := Int.lt_of_le_of_lt (f5_10 n) (fp10_pw (by omega))
    have m := mul_ok p r _ _ _ _ os zs w1 (A0.argT r0) (A1.argT r1) (A0.tsT r0) (A1.tsT r1) (by rw [A0.2.2.2.1, A1.2.2.2.1]; exact Int.lt_trans (fprod_room q1) (fp10_pw (by omega)))
    rw [A0.2.2.2.1, A1.2.2.2.1] at m
    exact m
  have DG : Hid (∀ (w1 : World) (r : Option Addr) (zs : List Int) (B : Nat), Ans B w1 r zs (q * 5 ^ n) → Calls Tryz.prog 76 #[.slice r (List.length zs) (List.length zs)] w1 fun e w' => ∃ s xs, e = .returned (.tuple #[.string s, .int .i64 0]) ∧ DigT (q * 5 ^ n) s xs ∧ Below w1.heap.size w1 w') :=
    fun w1 r zs B A1 => fdigits_any r zs B _ w1 (20 + n) A1 (Int.mul_pos q0 (Int.pow_pos (by omega))) (by omega) (fprod_room q1)
  clear A q0 q1 hk hn
  generalize q * 5 ^ n = T at *
  generalize (5 : Int) ^ n = G at *
  go_enter Tryz.func74, Tryz.ntmps74
  go_wp2_with fail
  refine F.out.mono ?_
  rintro e w1 ⟨r, zs, rfl, A1, B1⟩
  have M1 := hid (MU.out w1 r zs B1 A1)
  have HB := hid B1
  clear A1 B1 MU F
  go_wp2_with fail
  refine M1.out.mono ?_
  rintro e w2 ⟨r2, z2, rfl, A2, B2⟩
  have D2 := hid (DG.out w2 r2 z2 _ A2)
  have HB2 := hid (HB.out.trans (B2.mono HB.out.size))
  clear A2 B2 M1 DG HB
  go_wp2_with fail
  refine D2.out.mono ?_
  rintro e w3 ⟨s, xs, rfl, D3, B3⟩
  have K := hid (And.intro D3 (HB2.out.trans (B3.mono HB2.out.size)))
  clear D3 B3 D2 HB2
  go_wp2_with fail
  go_ret
  exact ⟨s, xs, rfl, K.out.1, K.out.2⟩

/-- The digits of an odd number times a power of five: no zero is at their end. -/
theorem ex_odd {m e q : Int} {t n : Nat} {xs : List Int} {s : ByteArray} (hm : m = 2 ^ t * q) (q0 : 0 < q) (hq : q % 2 = 1) (he : -1074 ≤ e) (hn : (n : Int) = -(e + t)) (D : DigT (q * 5 ^ n) s xs) : Fx.Ex m e xs (e + t) := by
  have hm0 : 0 < m := by rw [hm]; exact Int.mul_pos (Int.pow_pos (by omega)) q0
  obtain ⟨L, hL⟩ : ∃ L, xs.length = L + 1 := ⟨xs.length - 1, by have := List.length_pos_iff.2 D.ne; omega⟩
  have odd : dv xs % 2 = 1 := by
    rw [D.val]
    have : ∀ k : Nat, (5 : Int) ^ k % 2 = 1 := by
      intro k
      induction k with
      | zero => rfl
      | succ k ih => rw [Int.pow_succ]; omega
    rw [Int.mul_emod, hq, this n]
    rfl
  refine ⟨by omega, fun c => by omega, fun _ => ⟨D.digs, D.ne, D.head, ?_⟩, fun _ => ?_⟩
  · have := Fx.dv_mod D.digs hL
    rw [hL, Nat.add_sub_cancel]
    omega
  · rw [D.val]
    obtain ⟨a, ha⟩ : ∃ a : Nat, (e + (t : Int) + 1074).toNat = a := ⟨_, rfl⟩
    obtain ⟨b, hb⟩ : ∃ b : Nat, (e + 1074).toNat = b := ⟨_, rfl⟩
    have e1 : a = t + b := by omega
    have e2 : 1074 = n + a := by omega
    rw [ha, hb, hm, Fx.F5, e2, Int.pow_add, e1, show (10 : Int) = 2 * 5 from rfl, Int.mul_pow, Int.pow_add 2]
    generalize (5 : Int) ^ n = x1
    generalize (5 : Int) ^ (t + b) = x2
    generalize (2 : Int) ^ t = x3
    generalize (2 : Int) ^ b = x4
    ac_rfl

/-- The digits of a whole number, without the zeros at their end. -/
theorem ex_whole {m e q : Int} {t n k : Nat} {xs : List Int} {s : ByteArray} (hm : m = 2 ^ t * q) (q0 : 0 < q) (he : -1074 ≤ e) (hn : (n : Int) = e + t) (D : DigT (q * 2 ^ n) s xs) (hk : k ≤ xs.length) (h0 : ∀ i, k ≤ i → i < xs.length → xs.getD i 0 = 48) (hl : 0 < k → xs.getD (k - 1) 0 ≠ 48) : Fx.Ex m e (xs.take k) (xs.length - k) := by
  have hm0 : 0 < m := by rw [hm]; exact Int.mul_pos (Int.pow_pos (by omega)) q0
  have := (Fx.ex_of (m := m) (e := e) (F := 0) hm0 D.digs D.head hk h0 hl (by omega) (by
    rw [D.val]
    obtain ⟨b, hb⟩ : ∃ b : Nat, (e + 1074).toNat = b := ⟨_, rfl⟩
    have e1 : n + 1074 = t + b := by omega
    have e2 : (2 : Int) ^ n * 2 ^ 1074 = 2 ^ t * 2 ^ b := by rw [← Int.pow_add, ← Int.pow_add, e1]
    rw [hb, hm, Fx.F5, show ((0 : Int) + 1074).toNat = 1074 from rfl]
    generalize 1074 = z at *
    rw [show (10 : Int) = 2 * 5 from rfl, Int.mul_pow]
    generalize (5 : Int) ^ z = x1
    generalize (2 : Int) ^ z = x2 at *
    rw [show q * 2 ^ n * (x2 * x1) = q * (2 ^ n * x2) * x1 by ac_rfl, e2]
    ac_rfl)).1
  rw [Int.zero_add] at this
  exact this
end Go.Proofs.YtaoaniigbooihaaGreatDoor

namespace Go.Proofs.YtaoaniigbooihaaGreatDoor
open Go Go.RowKit Go.Deep

/-- What exact tells. -/
def ExTold (d : Int) (w : World) (e : Ending) (w' : World) : Prop :=
  ∃ s, e = .returned (.tuple #[.string s, .int .i64 (Fx.ed (Ie.dm d) (Ie.de d))]) ∧ Str s (Fx.xd (Ie.dm d) (Ie.de d)) ∧ Below w.heap.size w w'

theorem ExTold.of {d : Int} {w w' : World} {s : ByteArray} {xs : List Int} {E : Int} (hm : 0 ≤ Ie.dm d) (h : Fx.Ex (Ie.dm d) (Ie.de d) xs E) (hs : Str s xs) (hB : Below w.heap.size w w') : ExTold d w (.returned (.tuple #[.string s, .int .i64 E])) w' := by
  obtain ⟨e1, e2⟩ := h.is hm
  exact ⟨s, by rw [e2], by rw [← e1]; exact hs, hB⟩

set_option maxRecDepth 100000 in
set_option maxHeartbeats 4000000 in
theorem exact_any (d : Int) (w : World) (hT : Tab w) (h0 : 0 ≤ d) (h1 : d < 18446744073709551616) (hf : Ie.cls d < 3) :
    Calls Tryz.prog 41 #[.int .u64 d] w fun e w' => ExTold d w e w' := by
  have D := hid (decode_any d w h0 h1)
  obtain ⟨m0, m1, e0, e1, mz⟩ := Ie.fdec d hf
  have FIN : Hid (∀ (w' : World) (s : ByteArray) (xs : List Int) (E : Int), Fx.Ex (Ie.dm d) (Ie.de d) xs E → Str s xs → Below w.heap.size w w' → ExTold d w (.returned (.tuple #[.string s, .int .i64 E])) w') := fun w' s xs E h hs hB => .of m0 h hs hB
  have HT := hid hT
  simp only [partsOf] at D
  generalize decide (9223372036854775808 ≤ d) = neg at *
  generalize Ie.dm d = m at *
  generalize Ie.de d = x at *
  generalize Ie.cls d = c at *
  clear hT h0 h1 hf
  by_cases hc : c = 0
  · subst hc
    have hm := mz.1 rfl
    subst hm
    have F0 : Hid (∀ (w' : World), Below w.heap.size w w' → ExTold d w (.returned (.tuple #[.string ⟨#[48]⟩, .int .i64 0])) w') := fun w' hB => FIN.out w' _ [48] 0 ⟨by omega, fun _ => ⟨rfl, rfl⟩, fun h => by omega, fun h => by omega⟩ rfl hB
    clear FIN mz HT
    go_enter Tryz.func41, Tryz.ntmps41
    go_wp2_with fail
    refine D.out.mono ?_
    rintro e w1 ⟨rfl, hB⟩
    have K := hid (F0.out _ (hB.trans ((alloc_b w1 (.cells #[.bool neg, .int .i64 0, .int .u64 0, .int .i64 x] 95)).mono hB.size)))
    clear hB F0 D
    go_wp2_with fail
    go_ret2
    exact K.out
  · have hc' : (c == 0) = false := by rw [beq_eq_false_iff_ne]; exact hc
    have hm : 0 < m := by rcases (show m = 0 ∨ 0 < m by omega) with h | h; exact absurd (mz.2 h) hc; exact h
    have TZ : Hid (∀ wx : World, Tab wx → Calls Tryz.prog 72 #[.int .u64 m] wx fun e w' => ∃ (t : Nat) (q : Int), e = .returned (.int .i64 t) ∧ t ≤ 63 ∧ Hid (m = 2 ^ t * q ∧ 0 < q ∧ q % 2 = 1) ∧ m / 2 ^ t = q ∧ 0 ≤ q ∧ q < 9007199254740992 ∧ w' = wx) := by
      intro wx hT
      refine (tz64 m wx hm (by omega) hT).mono ?_
      rintro e w' ⟨t, q, rfl, ht, hq, rfl⟩
      have hq' : m = 2 ^ t * (2 * q + 1) := hq
      have p2 : (0 : Int) < 2 ^ t := Int.pow_pos (by omega)
      have qp : 0 < 2 * q + 1 := by
        rcases (show 2 * q + 1 ≤ 0 ∨ 0 < 2 * q + 1 by omega) with h | h
        · have := Int.mul_nonpos_of_nonneg_of_nonpos (Int.le_of_lt p2) h
          omega
        · exact h
      have dv' : m / 2 ^ t = 2 * q + 1 := by rw [hq']; exact Int.mul_ediv_cancel_left _ (by omega)
      refine ⟨t, 2 * q + 1, rfl, ht, ⟨hq', qp, by omega⟩, dv', by omega, ?_, rfl⟩
      have : (1 : Int) * (2 * q + 1) ≤ 2 ^ t * (2 * q + 1) := Int.mul_le_mul_of_nonneg_right p2 (by omega)
      omega
    have XB := hid (And.intro e0 e1)
    clear mz hc hm
    go_enter Tryz.func41, Tryz.ntmps41
    go_wp2_with fail
    refine D.out.mono ?_
    rintro e w1 ⟨rfl, hB1⟩
    have HB1 := hid hB1
    clear hB1 D
    go_upto_region 4 with fail
    have hb := HB1.out.trans ((alloc_b w1 (.cells #[.bool neg, .int .i64 c, .int .u64 m, .int .i64 x] 95)).mono HB1.out.size)
    have P := Row4.new w1 95 (.bool neg) (.int .i64 c) (.int .u64 m) (.int .i64 x)
    obtain ⟨SS, KS, CS, BS, MS⟩ := state (fun w' => (w'.cell? ⟨w1.heap.size, 2, none⟩ = some (.int .u64 m) ∧ w'.cell? ⟨w1.heap.size, 3, none⟩ = some (.int .i64 x)) ∧ Tab w') w (((Stays.cell _ _).and (Stays.cell _ _)).and Stays.tab)
    have S0 := hid (MS.out _ ⟨⟨P.cells.1.2.2.1, P.cells.1.2.2.2⟩, HT.out.below hb⟩ hb)
    clear P hb HT HB1 MS
    generalize w1.alloc (.cells #[.bool neg, .int .i64 c, .int .u64 m, .int .i64 x] 95) = wA at *
    generalize w1.heap.size = b at *
    have CC : Hid (∀ wx : World, SS wx → (wx.cell? ⟨b, 2, none⟩ = some (.int .u64 m) ∧ wx.cell? ⟨b, 3, none⟩ = some (.int .i64 x))) := fun wx h => (CS.out wx h).1
    have T0 := hid (TZ.out _ (CS.out _ S0.out).2)
    obtain ⟨p2, p3⟩ := CC.out _ S0.out
    clear CS TZ
    go_wp2_with fail
    refine T0.out.mono ?_
    rintro e wz ⟨t, q, rfl, ht, HQ, dq, q0, q1, hz⟩
    replace hz := hz.symm
    subst hz
    have FU := hid (fun (wx : World) => fromUint_any q wx q0 (by omega))
    obtain ⟨y, hy⟩ : ∃ y, x + (t : Int) = y := ⟨_, rfl⟩
    have WK : IntKind.i64.wrap (x + (t : Int)) = y := by rw [IntKind.wrap_i64]; omega
    have WN : IntKind.i64.wrap y = y := by rw [IntKind.wrap_i64]; omega
    clear T0
    have S1 := hid (KS.out _ _ S0.out (drew_nil _))
    go_upto_region 5 with fail
    go_region_held3 (fun w' => w'.cell? ⟨b, 2, none⟩ = some (.int .u64 m) ∧ w'.cell? ⟨b, 3, none⟩ = some (.int .i64 x)) (first | (with_reducible exact CC.out _ S2.out) | (with_reducible exact CC.out _ S1.out)) (first
      | (go_at_call 73; refine (FU.out _).mono ?_; rintro e w2 ⟨p, os, rfl, A, hB⟩; have S2 := hid (KS.out _ _ S1.out hB); have A2 := hid A; clear hB A))
    all_goals
      by_cases hy0 : y < 0
      · obtain ⟨n, hn⟩ : ∃ n : Nat, -y = (n : Int) := ⟨(-y).toNat, by omega⟩
        have hn0 : (n : Int) ≤ 1074 := by omega
        have BH := hid (behind_any p os _ q (n : Int) n w2 A2.out HQ.out.2.1 (by omega) rfl (by omega))
        have KK : Hid (∀ (w3 : World) (s : ByteArray) (xs : List Int), DigT (q * 5 ^ n) s xs → Below w2.heap.size w2 w3 → ExTold d w (.returned (.tuple #[.string s, .int .i64 y])) w3) := by
          intro w3 s xs D hB
          refine FIN.out w3 s xs y ?_ D.str ((BS.out _ S2.out).trans (hB.mono (BS.out _ S2.out).size))
          rw [← hy]
          exact ex_odd HQ.out.1 HQ.out.2.1 HQ.out.2.2 XB.out.1 (by omega) D
        clear FIN A2 FU S0 S1 CC HQ dq hy WK p2 p3
        go_wp2_with fail
        refine BH.out.mono ?_
        rintro e w3 ⟨s, xs, rfl, D, hB⟩
        have K := hid (KK.out w3 s xs D hB)
        clear D hB KK BH
        go_wp2_with fail
        go_ret2
        exact K.out
      · obtain ⟨n, hn⟩ : ∃ n : Nat, y = (n : Int) := ⟨y.toNat, by omega⟩
        have hn0 : (n : Int) ≤ 1034 := by omega
        have room : q * 2 ^ n < 10 ^ (20 + n) := by
          have h1 := f2_10 n
          have h0 : (0 : Int) < 2 ^ n := Int.pow_pos (by omega)
          have h2 : q * 2 ^ n < 9007199254740992 * 2 ^ n := Int.mul_lt_mul_of_pos_right q1 h0
          rw [Int.pow_add]
          have e : (10 : Int) ^ 20 = 100000000000000000000 := by decide
          rw [e]
          omega
        have r0 : q < Nm.pw 4096 := Int.lt_trans (show q < 10 ^ 20 by rw [show (10 : Int) ^ 20 = 100000000000000000000 by decide]; omega) (fp10_pw (by omega))
        have SH := fshl_any p _ _ os (n : Int) n w2 (A2.out.argT r0) (A2.out.tsT r0) rfl (by rw [A2.out.2.2.2.1]; exact Int.lt_trans room (fp10_pw (by omega)))
        rw [A2.out.2.2.2.1] at SH
        have HS := hid SH
        have DG : Hid (∀ (w1 : World) (r : Option Addr) (zs : List Int) (B : Nat), Ans B w1 r zs (q * 2 ^ n) → Calls Tryz.prog 76 #[.slice r (List.length zs) (List.length zs)] w1 fun e w' => ∃ s xs, e = .returned (.tuple #[.string s, .int .i64 0]) ∧ DigT (q * 2 ^ n) s xs ∧ Below w1.heap.size w1 w') :=
          fun w1 r zs B A1 => fdigits_any r zs B _ w1 (20 + n) A1 (Int.mul_pos HQ.out.2.1 (Int.pow_pos (by omega))) (by omega) room
        have KK : Hid (∀ (w3 : World) (s s' : ByteArray) (xs : List Int) (k : Nat), DigT (q * 2 ^ n) s xs → Str s' (xs.take k) → k ≤ xs.length → (∀ i, k ≤ i → i < xs.length → xs.getD i 0 = 48) → (0 < k → xs.getD (k - 1) 0 ≠ 48) → Below w.heap.size w w3 → ExTold d w (.returned (.tuple #[.string s', .int .i64 ((s.size : Int) - (s'.size : Int))])) w3) := by
          intro w3 s s' xs k D hs hk g0 gl hB
          have z1 : s.size = xs.length := D.str.size
          have z2 : s'.size = k := by rw [hs.size, List.length_take]; omega
          rw [z1, z2]
          exact FIN.out w3 s' (xs.take k) _ (ex_whole HQ.out.1 HQ.out.2.1 XB.out.1 (by omega) D hk g0 gl) hs hB
        have hy1 : ¬ (n : Int) < 0 := by omega
        subst hn
        clear FIN A2 FU S0 S1 CC HQ dq hy WK p2 p3 SH room r0 hy0
        generalize q * 2 ^ n = T at *
        go_wp2_with fail
        refine HS.out.mono ?_
        rintro e w3 ⟨r, zs, rfl, A3, B3⟩
        have D3 := hid (DG.out w3 r zs _ A3)
        have HB3 := hid ((BS.out _ S2.out).trans (B3.mono (BS.out _ S2.out).size))
        clear A3 B3 HS DG
        go_wp2_with fail
        refine D3.out.mono ?_
        rintro e w4 ⟨s, xs, rfl, D4, B4⟩
        have HB4 := hid (HB3.out.trans (B4.mono HB3.out.size))
        have HD := hid D4
        have TR := hid (frtrim0_any s xs w4 D4.str (by have := D4.len; omega))
        have sz1 : (s.size : Int) ≤ 3000 := by have := D4.str.size; have := D4.len; omega
        clear D4 B4 D3 HB3
        go_wp2_with fail
        refine TR.out.mono ?_
        rintro e w5 ⟨⟨s', k, rfl, g1, g2, g3, g4⟩, hz⟩
        have sz2 : (s'.size : Int) ≤ (s.size : Int) := by rw [g1.size, HD.out.str.size, List.length_take]; omega
        have K := hid (KK.out w5 s s' xs k HD.out g1 g2 g3 g4 (by rw [hz]; exact HB4.out))
        clear g1 g2 g3 g4 hz TR KK HD HB4
        go_wp2_with fail
        go_ret2
        exact K.out
end Go.Proofs.YtaoaniigbooihaaGreatDoor

namespace Go.Proofs.YtaoaniigbooihaaGreatDoor
open Go Go.RowKit Go.Deep

namespace Fx
/-- The exact digits of a double, and their power. -/
noncomputable def X (d : Int) : List Int := xd (Ie.dm d) (Ie.de d)
noncomputable def P (d : Int) : Int := ed (Ie.dm d) (Ie.de d)
/-- What All answers. -/
noncomputable def aS (d : Int) : List Int := if Ie.fnt d = true then X d else []
noncomputable def aE (d : Int) : Int := if Ie.fnt d = true then P d else 0
def aN (d : Int) : Bool := Ie.fnt d && decide (9223372036854775808 ≤ d)
def aR (d : Int) : Int := if Ie.fnt d = true then 0 else 5

theorem X_ex {d : Int} (h : Ie.fnt d = true) : Ex (Ie.dm d) (Ie.de d) (X d) (P d) := ex_is (Ie.fdec d (of_decide_eq_true h)).1
theorem X_digs {d : Int} (h : Ie.fnt d = true) : Digs (X d) ∧ X d ≠ [] := (X_ex h).digs (Ie.fdec d (of_decide_eq_true h)).1
theorem X_zero {d : Int} (h : Ie.fnt d = true) (hz : Ie.dm d = 0) : X d = [48] ∧ P d = 0 := (X_ex h).zero hz
theorem X_room {d : Int} (h : Ie.fnt d = true) : -323 ≤ (X d).length + P d ∧ (X d).length + P d ≤ 309 ∧ -1074 ≤ P d ∧ (X d).length ≤ 1383 ∧ 1 ≤ (X d).length := by
  obtain ⟨m0, m1, e0, e1, _⟩ := Ie.fdec d (of_decide_eq_true h)
  have lo := (X_ex h).lo
  have l1 := List.length_pos_iff.2 (X_digs h).2
  rcases (show Ie.dm d = 0 ∨ 0 < Ie.dm d by omega) with c | c
  · obtain ⟨a, b⟩ := X_zero h c
    rw [a, b] at *
    simp
  · have r := (X_ex h).room c m1 e1
    omega
end Fx

def AllTold (d : Int) (w : World) (e : Ending) (w' : World) : Prop :=
  ∃ s, e = .returned (.tuple #[.agg #[.bool (Fx.aN d), .string s, .int .i64 (Fx.aE d)], .int .i64 (Fx.aR d)]) ∧ Str s (Fx.aS d) ∧ Below w.heap.size w w'

theorem and_sign (d : Int) (h0 : 0 ≤ d) (h1 : d < 18446744073709551616) : (bits .and .u64 d 9223372036854775808 != 0) = decide (9223372036854775808 ≤ d) := by
  rw [Ib.sign_and d h0 h1]
  rcases (show d < 9223372036854775808 ∨ 9223372036854775808 ≤ d by omega) with c | c
  · have e : d / 9223372036854775808 = 0 := by omega
    rw [e]
    simp
    omega
  · have e : d / 9223372036854775808 = 1 := by omega
    rw [e]
    simp [c]

set_option maxRecDepth 100000 in
set_option maxHeartbeats 2000000 in
theorem fall_any (d : Int) (w : World) (hT : Tab w) (h0 : 0 ≤ d) (h1 : d < 18446744073709551616) :
    Calls Tryz.prog 18 #[.int .u64 d] w fun e w' => AllTold d w e w' := by
  have FN := hid (fun wx : World => ffinite_any d wx h0 h1)
  have Z := FR3.new w (.bool false) (.string ⟨#[]⟩) (.int .i64 0)
  have ZB := alloc_b w (.cells #[.bool false, .string ⟨#[]⟩, .int .i64 0] 39)
  by_cases hf : Ie.fnt d = true
  · have G : Hid (∀ (w' : World) (s : ByteArray), Str s (Fx.X d) → Below w.heap.size w w' → AllTold d w (.returned (.tuple #[.agg #[.bool (decide (9223372036854775808 ≤ d)), .string s, .int .i64 (Fx.P d)], .int .i64 0])) w') := by
      intro w' s hs hB
      refine ⟨s, ?_, by rw [Fx.aS, if_pos hf]; exact hs, hB⟩
      rw [Fx.aN, Fx.aE, Fx.aR, if_pos hf, if_pos hf, hf, Bool.true_and]
    have EX : Hid (∀ wx : World, Tab wx → Calls Tryz.prog 41 #[.int .u64 d] wx fun e w' => ExTold d wx e w') := fun wx h => exact_any d wx h h0 h1 (of_decide_eq_true hf)
    have AS := and_sign d h0 h1
    have E1 := hid (EX.out _ (hT.below ZB))
    have HZ := hid (And.intro Z ZB)
    rw [hf] at FN
    clear Z ZB EX hT h0 h1 hf
    unfold ExTold at E1
    rw [← Fx.X, ← Fx.P] at E1
    generalize Fx.X d = X at *
    generalize Fx.P d = P at *
    generalize decide (9223372036854775808 ≤ d) = sn at *
    go_enter Tryz.func18, Tryz.ntmps18
    go_wp2_with fail
    refine (FN.out _).mono ?_
    rintro e wz ⟨rfl, hz⟩
    replace hz := hz.symm
    subst hz
    go_wp2_with fail
    refine E1.out.mono ?_
    rintro e w1 ⟨s, rfl, hs, hB⟩
    have Z1 := hid (HZ.out.1.below hB HZ.out.1.lt)
    have B1 := hid (HZ.out.2.trans (hB.mono HZ.out.2.size))
    have K := hid (G.out _ s hs (fset3_below (u0 := .bool sn) (u1 := .string s) (u2 := .int .i64 P) B1.out (Nat.le_refl _)))
    obtain ⟨⟨c0, c1, c2⟩, f0, f1, f2⟩ := Z1.out.cells
    clear hs hB HZ G E1 FN
    go_wp2_with fail
    (try simp only [Exit.inBlock, Exit.then])
    refine bodyPost_ret (fresults_row_tmp rfl _ _ w.heap.size 39 _ (0, 0) _ rfl (Z1.out.put _ _ _) Tryz.underlying39 rfl (by kernel_rfl)) rfl ?_
    exact K.out
  · have hf' : Ie.fnt d = false := by simpa using hf
    have G : Hid (∀ (w' : World), Below w.heap.size w w' → AllTold d w (.returned (.tuple #[.agg #[.bool false, .string ⟨#[]⟩, .int .i64 0], .int .i64 5])) w') := by
      intro w' hB
      refine ⟨⟨#[]⟩, ?_, by rw [Fx.aS, if_neg hf]; rfl, hB⟩
      rw [Fx.aN, Fx.aE, Fx.aR, if_neg hf, if_neg hf, hf', Bool.false_and]
    rw [hf'] at FN
    have HZ := hid (And.intro Z ZB)
    have K := hid (G.out _ ZB)
    obtain ⟨⟨c0, c1, c2⟩, f0, f1, f2⟩ := Z.cells
    clear Z ZB hT h0 h1 hf hf' G
    go_enter Tryz.func18, Tryz.ntmps18
    go_wp2_with fail
    refine (FN.out _).mono ?_
    rintro e wz ⟨rfl, hz⟩
    replace hz := hz.symm
    subst hz
    go_wp2_with fail
    (try simp only [Exit.inBlock, Exit.then])
    refine bodyPost_ret (fresults_row_tmp rfl _ _ w.heap.size 39 _ (0, 0) _ rfl HZ.out.1 Tryz.underlying39 rfl (by kernel_rfl)) rfl ?_
    exact K.out
end Go.Proofs.YtaoaniigbooihaaGreatDoor

namespace Go.Proofs.YtaoaniigbooihaaGreatDoor
open Go Go.RowKit Go.Deep
namespace Fx

theorem X_of {d : Int} {xs : List Int} {E : Int} (m0 : 0 ≤ Ie.dm d) (h : Ex (Ie.dm d) (Ie.de d) xs E) : X d = xs ∧ P d = E := by
  obtain ⟨a, b⟩ := h.is m0
  exact ⟨a.symm, b.symm⟩

theorem dig_c {T : Int} {xs : List Int} (hd : Digs xs) (hv : dv xs = T) (hh : xs.getD 0 0 ≠ 48) (hn : xs ≠ []) (hl : xs.length ≤ 3000) : ∃ s, DigT T s xs := by
  refine ⟨⟨(xs.map (fun x => UInt8.ofNat x.toNat)).toArray⟩, ?_, hd, hv, hh, hn, hl⟩
  unfold Str
  simp only [List.map_map]
  conv => rhs; rw [← List.map_id xs]
  apply List.map_congr_left
  intro x hx
  have := hd x hx
  simp
  omega

theorem c125 : X 4593671619917905920 = [49, 50, 53] ∧ P 4593671619917905920 = -3 := by
  obtain ⟨s, D⟩ := dig_c (T := 1 * 5 ^ 3) (xs := [49, 50, 53]) (fun d h => by simp at h; omega) (by decide) (by decide) (by decide) (by decide)
  have m : Ie.dm 4593671619917905920 = 4503599627370496 := by decide
  have e : Ie.de 4593671619917905920 = -55 := by decide
  refine X_of (by rw [m]; omega) ?_
  rw [m, e]
  exact ex_odd (t := 52) (q := 1) (n := 3) (by decide) (by omega) (by decide) (by omega) (by decide) D

theorem c995 : X 4636702106982547456 = [57, 57, 53] ∧ P 4636702106982547456 = -1 := by
  obtain ⟨s, D⟩ := dig_c (T := 199 * 5 ^ 1) (xs := [57, 57, 53]) (fun d h => by simp at h; omega) (by decide) (by decide) (by decide) (by decide)
  have m : Ie.dm 4636702106982547456 = 7001690045677568 := by decide
  have e : Ie.de 4636702106982547456 = -46 := by decide
  refine X_of (by rw [m]; omega) ?_
  rw [m, e]
  exact ex_odd (t := 45) (q := 199) (n := 1) (by decide) (by omega) (by decide) (by omega) (by decide) D

theorem c9995 : X 4652002910794678272 = [57, 57, 57, 53] ∧ P 4652002910794678272 = -1 := by
  obtain ⟨s, D⟩ := dig_c (T := 1999 * 5 ^ 1) (xs := [57, 57, 57, 53]) (fun d h => by simp at h; omega) (by decide) (by decide) (by decide) (by decide)
  have m : Ie.dm 4652002910794678272 = 8791694975696896 := by decide
  have e : Ie.de 4652002910794678272 = -43 := by decide
  refine X_of (by rw [m]; omega) ?_
  rw [m, e]
  exact ex_odd (t := 42) (q := 1999) (n := 1) (by decide) (by omega) (by decide) (by omega) (by decide) D

theorem c85 : X 4620974692658839552 = [56, 53] ∧ P 4620974692658839552 = -1 := by
  obtain ⟨s, D⟩ := dig_c (T := 17 * 5 ^ 1) (xs := [56, 53]) (fun d h => by simp at h; omega) (by decide) (by decide) (by decide) (by decide)
  have m : Ie.dm 4620974692658839552 = 4785074604081152 := by decide
  have e : Ie.de 4620974692658839552 = -49 := by decide
  refine X_of (by rw [m]; omega) ?_
  rw [m, e]
  exact ex_odd (t := 48) (q := 17) (n := 1) (by decide) (by omega) (by decide) (by omega) (by decide) D

theorem c1200 : X 13876364508114452480 = [49, 50] ∧ P 13876364508114452480 = 2 := by
  obtain ⟨s, D⟩ := dig_c (T := 75 * 2 ^ 4) (xs := [49, 50, 48, 48]) (fun d h => by simp at h; omega) (by decide) (by decide) (by decide) (by decide)
  have m : Ie.dm 13876364508114452480 = 5277655813324800 := by decide
  have e : Ie.de 13876364508114452480 = -42 := by decide
  refine X_of (by rw [m]; omega) ?_
  rw [m, e]
  exact ex_whole (t := 46) (q := 75) (n := 4) (k := 2) (xs := [49, 50, 48, 48]) (by decide) (by omega) (by omega) (by decide) D (by decide) (fun i h1 h2 => by
    match i, h1, h2 with
    | 2, _, _ => rfl
    | 3, _, _ => rfl
    | i + 4, _, h2 => simp at h2; omega) (fun _ => by decide)
end Fx
end Go.Proofs.YtaoaniigbooihaaGreatDoor
