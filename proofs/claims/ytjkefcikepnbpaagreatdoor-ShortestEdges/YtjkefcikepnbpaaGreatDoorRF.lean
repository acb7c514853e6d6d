/-
  Texts put together: LGapN, LPlaced, LRowLt, LGap, LLess, LModest, LLaw, FTrimR, FExact, FExact2, FAll, LNearM, LRowM, LNearG, LBnd, LEdgeL.
-/
import Derived.Test.YtjkefcikepnbpaaGreatDoorRA
import Derived.Test.YtjkefcikepnbpaaGreatDoorRC
import Derived.Test.YtjkefcikepnbpaaGreatDoorFRow3
import Derived.Deep.RegionHeld3
import Derived.Deep.CutBlock
import Derived.OwnWalk
import Derived.Deep.CutRange
import Derived.Test.YtjkefcikepnbpaaGreatDoorVStr
import Derived.Test.YtjkefcikepnbpaaGreatDoorNMem
import Derived.Test.YtjkefcikepnbpaaGreatDoorVDig
import Derived.Deep.LoopGhost
import Derived.Lib.AppendIntMem
import Derived.Test.YtjkefcikepnbpaaGreatDoorNStr
import Derived.Test.YtjkefcikepnbpaaGreatDoorLNear
import Derived.Test.YtjkefcikepnbpaaGreatDoorRE
import Derived.Deep.DeepCutAuto
import Derived.BigRegion
import Derived.RegionTactic
import Derived.Laws.BitsLemmas
namespace Go.Proofs.YtjkefcikepnbpaaGreatDoor
open Go.RowKit Go.Deep
namespace Sh

theorem dg_at : ∀ (n : Nat) (T : Int) (i : Nat), i < n → (Dn.dg 10 n T).getD i 0 = T / 10 ^ (n - 1 - i) % 10
  | 0, T, i, h => by omega
  | n + 1, T, i, h => by
    rw [Dn.dg_head (by omega)]
    cases i with
    | zero => simp
    | succ i =>
      have := dg_at n (T % 10 ^ n) i (by omega)
      simp only [List.getD_cons_succ]
      rw [this, show n + 1 - 1 - (i + 1) = n - 1 - i by omega]
      obtain ⟨k, hk⟩ : ∃ k, n = (n - 1 - i) + (k + 1) := ⟨i, by omega⟩
      generalize n - 1 - i = j at *
      subst hk
      have p1 := Fx.p_pos j
      have p2 := Fx.p_pos k
      have h1 := Int.emod_add_mul_ediv T (10 ^ (j + (k + 1)))
      generalize T % 10 ^ (j + (k + 1)) = r at *
      generalize T / 10 ^ (j + (k + 1)) = q at *
      rw [← h1, Int.pow_add, Int.pow_succ, show (10 : Int) ^ j * (10 ^ k * 10) * q = 10 ^ j * (10 ^ k * q * 10) by ac_rfl, Int.add_mul_ediv_left _ _ (by omega)]
      omega
theorem dg_len (n : Nat) (T : Int) : (Dn.dg 10 n T).length = n := Dn.dg_length 10 n T
theorem dg_bd (n : Nat) (T : Int) (i : Nat) (h : i < n) : 0 ≤ (Dn.dg 10 n T).getD i 0 ∧ (Dn.dg 10 n T).getD i 0 < 10 := by rw [dg_at n T i h]; omega

/-- One place of a difference. -/
theorem sub_step {X Y P b x y : Int} (hP : 0 < P) (hb : b = if X % P < Y % P then 1 else 0) (hx : x = X / P % 10) (hy : y = Y / P % 10) :
    (x < y + b → x + 10 - (y + b) = (X - Y) / P % 10 ∧ X % (P * 10) < Y % (P * 10)) ∧ (y + b ≤ x → x - (y + b) = (X - Y) / P % 10 ∧ ¬ X % (P * 10) < Y % (P * 10)) := by
  obtain ⟨d1, d2, d3⟩ := divS (U := X) hP
  obtain ⟨e1, e2, e3⟩ := divS (U := Y) hP
  have m1 : X % (P * 10) = X % P + P * (X / P % 10) := by
    have h1 := Int.mul_ediv_add_emod (X / P) 10
    have e : X = P * 10 * (X / P / 10) + (X % P + P * (X / P % 10)) := by
      have : P * 10 * (X / P / 10) + (X % P + P * (X / P % 10)) = P * (10 * (X / P / 10) + X / P % 10) + X % P := by rw [Int.mul_add, Int.mul_assoc]; omega
      rw [this, h1, Int.mul_comm]
      exact d1
    have q1 := Int.emod_nonneg (X / P) (show (10 : Int) ≠ 0 by decide)
    have q2 := Int.emod_lt_of_pos (X / P) (show (0 : Int) < 10 by decide)
    have q3 : P * (X / P % 10) ≤ P * 9 := Int.mul_le_mul_of_nonneg_left (by omega) (by omega)
    have q4 : 0 ≤ P * (X / P % 10) := Int.mul_nonneg (by omega) q1
    conv => lhs; rw [e]
    rw [Int.add_comm, Int.add_mul_emod_self_left]
    exact Int.emod_eq_of_lt (by omega) (by omega)
  have m2 : Y % (P * 10) = Y % P + P * (Y / P % 10) := by
    have h1 := Int.mul_ediv_add_emod (Y / P) 10
    have e : Y = P * 10 * (Y / P / 10) + (Y % P + P * (Y / P % 10)) := by
      have : P * 10 * (Y / P / 10) + (Y % P + P * (Y / P % 10)) = P * (10 * (Y / P / 10) + Y / P % 10) + Y % P := by rw [Int.mul_add, Int.mul_assoc]; omega
      rw [this, h1, Int.mul_comm]
      exact e1
    have q1 := Int.emod_nonneg (Y / P) (show (10 : Int) ≠ 0 by decide)
    have q2 := Int.emod_lt_of_pos (Y / P) (show (0 : Int) < 10 by decide)
    have q3 : P * (Y / P % 10) ≤ P * 9 := Int.mul_le_mul_of_nonneg_left (by omega) (by omega)
    have q4 : 0 ≤ P * (Y / P % 10) := Int.mul_nonneg (by omega) q1
    conv => lhs; rw [e]
    rw [Int.add_comm, Int.add_mul_emod_self_left]
    exact Int.emod_eq_of_lt (by omega) (by omega)
  have dq : (X - Y) / P = X / P - Y / P - b := by
    have e : X - Y = (X % P - Y % P + b * P) + (X / P - Y / P - b) * P := by rw [Int.sub_mul, Int.sub_mul]; omega
    rw [e, Int.add_mul_ediv_right _ _ (by omega)]
    have : (X % P - Y % P + b * P) / P = 0 := by
      apply Int.ediv_eq_zero_of_lt
      · rw [hb]; split <;> omega
      · rw [hb]; split <;> omega
    omega
  rw [m1, m2, ← hx, ← hy, dq]
  have bb : b = 0 ∨ b = 1 := by rw [hb]; split <;> omega
  have bx : x % 10 = x ∧ y % 10 = y := by omega
  have xy : (X / P - Y / P - b) % 10 = (x - y - b) % 10 := by omega
  have key : ∀ z : Int, z = x - y → P * x = P * y + P * z := fun z h => by rw [← Int.mul_add]; congr 1; omega
  have k1 := key (x - y) rfl
  have hbi : (X % P < Y % P ∧ b = 1) ∨ (¬ X % P < Y % P ∧ b = 0) := by
    rw [hb]; split
    · rename_i h; exact .inl ⟨h, rfl⟩
    · rename_i h; exact .inr ⟨h, rfl⟩
  constructor
  · intro h
    refine ⟨by omega, ?_⟩
    rcases (show x - y ≤ -1 ∨ x - y = 0 by omega) with c | c
    · have := Int.mul_le_mul_of_nonneg_left c (Int.le_of_lt hP)
      omega
    · rw [c, Int.mul_zero] at k1
      omega
  · intro h
    refine ⟨by omega, ?_⟩
    rcases (show 1 ≤ x - y ∨ x - y = 0 by omega) with c | c
    · have := Int.mul_le_mul_of_nonneg_left c (Int.le_of_lt hP)
      omega
    · rw [c, Int.mul_zero] at k1
      omega

/-- The row behind k places: the head as it was, the tail the difference's. -/
theorem dg_cut (k m : Nat) (X : Int) : Dn.dg 10 (m + k) X = Dn.dg 10 m (X / 10 ^ k) ++ Dn.dg 10 k X := by rw [Dn.dg_split (by omega), Dn.dg_mod (by omega)]
theorem dg_set (k m : Nat) (X W : Int) (z : Int) (hz : z = W / 10 ^ k % 10) : (Dn.dg 10 (m + 1) (X / 10 ^ k) ++ Dn.dg 10 k W).set m z = Dn.dg 10 m (X / 10 ^ (k + 1)) ++ Dn.dg 10 (k + 1) W := by
  have e1 : Dn.dg 10 (m + 1) (X / 10 ^ k) = Dn.dg 10 m (X / 10 ^ (k + 1)) ++ [X / 10 ^ k % 10] := by
    rw [dg_cut 1 m, Dn.dg_one, Int.pow_one, Int.ediv_ediv_of_nonneg (Int.le_of_lt (Fx.p_pos k)), ← Int.pow_succ]
  have e2 : Dn.dg 10 (k + 1) W = [W / 10 ^ k % 10] ++ Dn.dg 10 k W := by
    rw [Nat.add_comm k 1, dg_cut k 1, Dn.dg_one]
  rw [e1, e2, List.append_assoc, List.set_append_right _ _ (by rw [dg_len]; omega), dg_len, Nat.sub_self, hz]
  rfl

/-- A row's digit at a place. -/
theorem place_dig {n t j : Nat} {T : Int} (h0 : 0 ≤ T) (h1 : T < 10 ^ n) : (t ≤ j → j < t + n → (Dn.dg 10 n T).getD (n - 1 - (j - t)) 0 = T * 10 ^ t / 10 ^ j % 10) ∧ (¬ (t ≤ j ∧ j < t + n) → T * 10 ^ t / 10 ^ j % 10 = 0) := by
  have pt := Fx.p_pos t
  constructor
  · intro a b
    rw [dg_at n T _ (by omega), show n - 1 - (n - 1 - (j - t)) = j - t by omega]
    obtain ⟨k, rfl⟩ : ∃ k, j = t + k := ⟨j - t, by omega⟩
    rw [Nat.add_sub_cancel_left, Int.pow_add, Int.mul_comm T, Int.mul_ediv_mul_of_pos _ _ pt]
  · intro c
    rcases (show j < t ∨ t + n ≤ j by omega) with g | g
    · obtain ⟨k, rfl⟩ : ∃ k, t = j + (k + 1) := ⟨t - j - 1, by omega⟩
      rw [Int.pow_add, show T * (10 ^ j * 10 ^ (k + 1)) = 10 ^ j * (T * 10 ^ (k + 1)) by ac_rfl, Int.mul_ediv_cancel_left _ (by have := Fx.p_pos j; omega), Int.pow_succ, ← Int.mul_assoc]
      omega
    · have : T * 10 ^ t / 10 ^ j = 0 := by
        apply Int.ediv_eq_zero_of_lt (Int.mul_nonneg h0 (Int.le_of_lt pt))
        refine Int.lt_of_lt_of_le (Int.mul_lt_mul_of_pos_right h1 pt) ?_
        rw [← Int.pow_add]
        exact Fx.p_le (by omega)
      rw [this]
      rfl
theorem cmp_dig {A B : Int} {j : Nat} (h : A / 10 ^ (j + 1) = B / 10 ^ (j + 1)) : (A / 10 ^ j % 10 < B / 10 ^ j % 10 → A < B) ∧ (B / 10 ^ j % 10 < A / 10 ^ j % 10 → B < A) ∧ (A / 10 ^ j % 10 = B / 10 ^ j % 10 → A / 10 ^ j = B / 10 ^ j) := by
  have p := Fx.p_pos j
  rw [Int.pow_succ, ← Int.ediv_ediv_of_nonneg (Int.le_of_lt p), ← Int.ediv_ediv_of_nonneg (Int.le_of_lt p)] at h
  have a := Int.mul_ediv_add_emod (A / 10 ^ j) 10
  have b := Int.mul_ediv_add_emod (B / 10 ^ j) 10
  have lt : ∀ U W : Int, U / 10 ^ j < W / 10 ^ j → U < W := by
    intro U W g
    rcases (show U < W ∨ W ≤ U by omega) with c | c
    · exact c
    · have := Int.ediv_le_ediv p c
      omega
  refine ⟨fun g => lt _ _ (by omega), fun g => lt _ _ (by omega), fun g => by omega⟩
end Sh
end Go.Proofs.YtjkefcikepnbpaaGreatDoor

namespace Go.Proofs.YtjkefcikepnbpaaGreatDoor
open Go Go.RowKit Go.Deep

namespace Sh
/-- A row that is being filled. -/
def fill (xs : List Int) (lead n i : Nat) : List Int := List.replicate lead 0 ++ (xs.take i).map (fun d => d - 48) ++ List.replicate (n - lead - i) 0
theorem fill_len {xs : List Int} {lead n i : Nat} (h : lead + i ≤ n) (hi : i ≤ xs.length) : (fill xs lead n i).length = n := by
  simp [fill]
  omega
theorem fill_set {xs : List Int} {lead n i : Nat} (h : lead + i < n) (hi : i < xs.length) : (fill xs lead n i).set (lead + i) (xs.getD i 0 - 48) = fill xs lead n (i + 1) := by
  unfold fill
  have e1 : (xs.take (i + 1)).map (fun d => d - 48) = (xs.take i).map (fun d => d - 48) ++ [xs.getD i 0 - 48] := by
    rw [List.take_add_one, List.map_append]
    simp [List.getElem?_eq_getElem hi]
  have e2 : List.replicate (n - lead - i) (0 : Int) = 0 :: List.replicate (n - lead - (i + 1)) 0 := by
    rw [show n - lead - i = (n - lead - (i + 1)) + 1 by omega, List.replicate_succ]
  have hl : (List.replicate lead (0 : Int) ++ (xs.take i).map (fun d => d - 48)).length = lead + i := by simp; omega
  rw [e1, e2, List.set_append_right _ _ (by omega), hl, Nat.sub_self]
  simp
theorem fill_dg {xs : List Int} {lead trail n : Nat} (hd : Digs xs) (h : lead + xs.length + trail = n) : fill xs lead n xs.length = Dn.dg 10 n (dv xs * 10 ^ trail) := by
  have hn := fill_len (xs := xs) (lead := lead) (n := n) (i := xs.length) (by omega) (Nat.le_refl _)
  have hm : ∀ d ∈ fill xs lead n xs.length, 0 ≤ d ∧ d < 10 := by
    intro d q
    unfold fill at q
    rw [List.mem_append, List.mem_append] at q
    rcases q with (q | q) | q
    · rw [(List.mem_replicate.1 q).2]; omega
    · obtain ⟨x, hx, rfl⟩ := List.mem_map.1 q
      have := hd x (List.mem_of_mem_take hx)
      omega
    · rw [(List.mem_replicate.1 q).2]; omega
  have hv : Dn.tv 10 0 (fill xs lead n xs.length) = dv xs * 10 ^ trail := by
    have z : ∀ (k : Nat) (a : Int), Dn.tv 10 a (List.replicate k 0) = a * 10 ^ k := by
      intro k a
      rw [Dn.tv_acc, List.length_replicate]
      have : Dn.tv 10 0 (List.replicate k 0) = 0 := by
        have h2 := Dn.tv_dg (B := 10) (by omega) k 0 (by omega) (Fx.p_pos k)
        rw [Dn.dg_zero (by omega)] at h2
        exact h2
      omega
    unfold fill
    rw [Dn.tv_append, Dn.tv_append, z lead 0, Int.zero_mul, List.take_length, z, show n - lead - xs.length = trail by omega]
    rfl
  rw [← hv]
  exact (Dn.dg_tv (by omega) n _ hn hm).symm
end Sh

/-- What placed tells. -/
def PlTold (n : Nat) (T : Int) (w : World) (r : Ending) (w' : World) : Prop := ∃ g, r = .returned (.slice (some ⟨g, 0, none⟩) n n) ∧ w.heap.size ≤ g ∧ OwnB w' g (Dn.dg 10 n T) ∧ Below w.heap.size w w'

set_option maxRecDepth 100000 in
set_option maxHeartbeats 4000000 in
theorem placed_any (neg : Bool) (s : ByteArray) (xs : List Int) (e lo hi : Int) (lead trail n : Nat) (w : World) (hs : Str s xs) (hd : Digs xs) (h : lead + xs.length + trail = n) (hn : hi - lo = (n : Int)) (ht : e - lo = (trail : Int)) (nb : n ≤ 5000) (l0 : -5000 ≤ lo) (l1 : lo ≤ 5000) :
    Calls Tryz.prog 38 #[.agg #[.bool neg, .string s, .int .i64 e], .int .i64 lo, .int .i64 hi] w fun r w' => PlTold n (dv xs * 10 ^ trail) w r w' := by
  have HS := hid hs
  have hsz := hs.size
  have FD := hid (Sh.fill_dg hd h)
  have HD := hid hd
  have hlead : hi - e - (xs.length : Int) = (lead : Int) := by omega
  have nbi : (n : Int) ≤ 5000 := by omega
  have MK := make8 n (by omega)
  rw [made_zero8] at MK
  have Z0 : List.replicate n (0 : Int) = Sh.fill xs lead n 0 := by
    unfold Sh.fill
    rw [List.take_zero, List.map_nil, List.append_nil, Nat.sub_zero, List.replicate_append_replicate]
    congr 1
    omega
  rw [Z0] at MK
  have r0 := FR3.new w (.bool neg) (.string s) (.int .i64 e)
  have b0 := alloc_b w (.cells #[.bool neg, .string s, .int .i64 e] 25)
  have sz1 : (w.alloc (.cells #[.bool neg, .string s, .int .i64 e] 25)).heap.size = w.heap.size + 1 := Array.size_push ..
  clear hs
  go_enter Tryz.func38, Tryz.ntmps38
  go_wp2_with fail
  have hiB : -10000 ≤ hi ∧ hi ≤ 10000 := by omega
  have eB : -10000 ≤ e ∧ e ≤ 10000 := by omega
  obtain ⟨hi0, hi1⟩ := hiB
  obtain ⟨eB0, eB1⟩ := eB
  have hlb : (xs.length : Int) ≤ 5000 := by omega
  have HL := hid h
  go_loopg [8] xs.length (fun k i wr => ∃ j : Nat, j + k = xs.length ∧ i = .int .i64 j ∧ Hid (OwnB wr (w.heap.size + 1) (Sh.fill xs lead n j) ∧ FR3 wr w.heap.size (.bool neg) (.string s) (.int .i64 e) ∧ Below w.heap.size w wr))
  case atStart =>
    refine ⟨0, by omega, rfl, ?_, ?_, ?_⟩
    · have := OwnB.alloc (w.alloc (.cells #[.bool neg, .string s, .int .i64 e] 25)) (Sh.fill xs lead n 0)
      rw [sz1] at this
      exact this
    · exact r0.below (alloc_b _ _) r0.lt
    · exact b0.trans ((alloc_b _ _).mono b0.size)
  case round =>
    obtain ⟨j, hj, rfl, I⟩ := hrel
    obtain ⟨⟨c0, c1, c2⟩, -⟩ := I.out.2.1.cells
    have hx := HS.out.pk j
    by_cases hjl : j < xs.length
    · have hji : (j : Int) < (xs.length : Int) := by omega
      have dj := digs_at HD.out j hjl
      have ej : Sc.pk xs j = xs.getD j 0 := rfl
      have o := I.out.1
      have cl := o.cell (lead + j) (by rw [Sh.fill_len (by have := HL.out; omega) (by omega)]; have := HL.out; omega)
      have fl := o.free (lead + j)
      have NX : Hid (OwnB (wr.drew.setCell ⟨w.heap.size + 1, lead + j, none⟩ (.int .u8 (xs.getD j 0 - 48))) (w.heap.size + 1) (Sh.fill xs lead n (j + 1)) ∧ FR3 (wr.drew.setCell ⟨w.heap.size + 1, lead + j, none⟩ (.int .u8 (xs.getD j 0 - 48))) w.heap.size (.bool neg) (.string s) (.int .i64 e) ∧ Below w.heap.size w (wr.drew.setCell ⟨w.heap.size + 1, lead + j, none⟩ (.int .u8 (xs.getD j 0 - 48)))) := by
        refine ⟨?_, FR3.far (w := wr.drew) I.out.2.1 (by omega), (below_drewN I.out.2.2 1).setCell (p := ⟨w.heap.size + 1, lead + j, none⟩) (by show w.heap.size ≤ w.heap.size + 1; omega) _⟩
        have q := OwnB.set (w := wr.drew) (g := w.heap.size + 1) o (lead + j) (xs.getD j 0 - 48)
        rw [Sh.fill_set (by have := HL.out; omega) hjl] at q
        exact q
      rw [ej] at hx
      generalize xs.getD j 0 = xj at *
      have W8 : IntKind.u8.wrap (xj - 48) = xj - 48 := by rw [IntKind.wrap_u8]; omega
      have lj : (lead : Int) + (j : Int) < (n : Int) := by have := HL.out; omega
      have d1 : wr.drew.cell? ⟨w.heap.size, 1, none⟩ = some (.string s) := c1
      have d2 : wr.drew.cell? ⟨w.heap.size, 2, none⟩ = some (.int .i64 e) := c2
      have dl : wr.drew.cell? ⟨w.heap.size + 1, lead + j, none⟩ = some (.int .u8 ((Sh.fill xs lead n j).getD (lead + j) 0)) := cl
      have df : wr.drew.frozen? ⟨w.heap.size + 1, lead + j, none⟩ = false := fl
      clear I o ej
      go_upto_region 5 with fail
      go_region
      go_wp2_with fail
      go_roundg (xs.length - (j + 1))
      case measure => omega
      case rel => exact ⟨j + 1, by omega, by go_num, NX.out⟩
    · have hje : j = xs.length := by omega
      have K : Hid (PlTold n (dv xs * 10 ^ trail) w (.returned (.slice (some ⟨w.heap.size + 1, 0, none⟩) n n)) wr) := ⟨_, rfl, by omega, by rw [← FD.out, ← hje]; exact I.out.1, I.out.2.2⟩
      have hji : ¬ (j : Int) < (xs.length : Int) := by omega
      clear I hx hj hje
      go_wp2_with fail
      go_ret
      exact K.out
end Go.Proofs.YtjkefcikepnbpaaGreatDoor

namespace Go.Proofs.YtjkefcikepnbpaaGreatDoor
open Go Go.RowKit Go.Deep
namespace Sh

/-- A row's bytes. -/
def rb (n : Nat) (T : Int) : List UInt8 := (Dn.dg 10 n T).map fun d => UInt8.ofNat d.toNat
theorem rb_len (n : Nat) (T : Int) : (rb n T).length = n := by simp [rb, dg_len]
theorem rb_cons (n : Nat) (T : Int) : rb (n + 1) T = UInt8.ofNat (T / 10 ^ n % 10).toNat :: rb n (T % 10 ^ n) := by
  unfold rb
  rw [Dn.dg_head (by omega), List.map_cons]
theorem of_lt {a b : Int} (ha : 0 ≤ a ∧ a < 10) (hb : 0 ≤ b ∧ b < 10) : (UInt8.ofNat a.toNat < UInt8.ofNat b.toNat ↔ a < b) ∧ (UInt8.ofNat a.toNat = UInt8.ofNat b.toNat ↔ a = b) := by
  have e1 : (UInt8.ofNat a.toNat).toNat = a.toNat := UInt8.toNat_ofNat_of_lt' (by show a.toNat < 256; omega)
  have e2 : (UInt8.ofNat b.toNat).toNat = b.toNat := UInt8.toNat_ofNat_of_lt' (by show b.toNat < 256; omega)
  constructor
  · rw [UInt8.lt_iff_toNat_lt, e1, e2]; omega
  · rw [← UInt8.toNat_inj, e1, e2]; omega
theorem rb_less : ∀ (n : Nat) (X Y : Int), 0 ≤ X → X < 10 ^ n → 0 ≤ Y → Y < 10 ^ n → Op.bytesLess (rb n X) (rb n Y) = decide (X < Y)
  | 0, X, Y, x0, x1, y0, y1 => by
    rw [Int.pow_zero] at x1 y1
    have : ¬ X < Y := by omega
    rw [decide_eq_false this]
    rfl
  | n + 1, X, Y, x0, x1, y0, y1 => by
    rw [rb_cons, rb_cons]
    have p := Fx.p_pos n
    obtain ⟨a1, a2, a3⟩ := divS (U := X) p
    obtain ⟨b1, b2, b3⟩ := divS (U := Y) p
    have ih := rb_less n (X % 10 ^ n) (Y % 10 ^ n) a2 a3 b2 b3
    rw [Int.pow_succ] at x1 y1
    have qa : 0 ≤ X / 10 ^ n ∧ X / 10 ^ n < 10 := ⟨Int.ediv_nonneg x0 (Int.le_of_lt p), (Int.ediv_lt_iff_lt_mul p).2 (by rw [Int.mul_comm]; exact x1)⟩
    have qb : 0 ≤ Y / 10 ^ n ∧ Y / 10 ^ n < 10 := ⟨Int.ediv_nonneg y0 (Int.le_of_lt p), (Int.ediv_lt_iff_lt_mul p).2 (by rw [Int.mul_comm]; exact y1)⟩
    have ma : X / 10 ^ n % 10 = X / 10 ^ n := by omega
    have mb : Y / 10 ^ n % 10 = Y / 10 ^ n := by omega
    rw [ma, mb]
    obtain ⟨l1, l2⟩ := of_lt qa qb
    show (decide _ || (_ == _ && Op.bytesLess _ _)) = _
    rw [ih, Bool.eq_iff_iff]
    have beq : ((UInt8.ofNat (X / 10 ^ n).toNat == UInt8.ofNat (Y / 10 ^ n).toNat) = true) ↔ X / 10 ^ n = Y / 10 ^ n := by rw [beq_iff_eq]; exact l2
    rw [Bool.or_eq_true, Bool.and_eq_true, decide_eq_true_iff, decide_eq_true_iff, decide_eq_true_iff, beq, l1]
    rcases Int.lt_trichotomy (X / 10 ^ n) (Y / 10 ^ n) with c | c | c
    · have := Int.mul_le_mul_of_nonneg_right (show X / 10 ^ n + 1 ≤ Y / 10 ^ n by omega) (Int.le_of_lt p)
      rw [Int.add_mul, Int.one_mul] at this
      constructor
      · intro _; omega
      · intro _; exact .inl c
    · rw [c] at a1
      constructor
      · rintro (q | ⟨_, q⟩)
        · omega
        · omega
      · intro q; exact .inr ⟨c, by omega⟩
    · have := Int.mul_le_mul_of_nonneg_right (show Y / 10 ^ n + 1 ≤ X / 10 ^ n by omega) (Int.le_of_lt p)
      rw [Int.add_mul, Int.one_mul] at this
      constructor
      · rintro (q | ⟨q, _⟩) <;> omega
      · intro q; omega
end Sh
end Go.Proofs.YtjkefcikepnbpaaGreatDoor

namespace Go.Proofs.YtjkefcikepnbpaaGreatDoor
open Go Go.RowKit Go.Deep

theorem row_str {W : World} {g n : Nat} {T : Int} (o : OwnB W g (Dn.dg 10 n T)) :
    (convert 38 9 (.slice (some ⟨g, 0, none⟩) n n)).run Tryz.prog W = .ok (.string ⟨(Sh.rb n T).toArray⟩) W := by
  have h := run_convert_bytes_back (P := Tryz.prog) W 38 9 5 ⟨g, 0, none⟩ n (Sh.rb n T) Tryz.underlying38 Tryz.underlying5 Tryz.underlying9 (fun j hj => by
    rw [Lib.add_plain, Nat.zero_add]
    have hj2 : j < n := by rw [Sh.rb_len] at hj; exact hj
    rw [o.cell j (by rw [Sh.dg_len]; exact hj2)]
    have b := Sh.dg_bd n T j hj2
    have e : (Sh.rb n T)[j] = UInt8.ofNat ((Dn.dg 10 n T).getD j 0).toNat := by
      simp [Sh.rb, List.getD, Sh.dg_len, hj2]
    rw [e, UInt8.toNat_ofNat_of_lt' (by show _ < 256; omega)]
    congr 2
    omega)
  rw [Sh.rb_len] at h
  exact h

/-- The borrow behind q places. -/
def Sh.bw (X Y : Int) (q : Nat) : Int := if X % 10 ^ q < Y % 10 ^ q then 1 else 0

def GapTold (n : Nat) (D lo : Int) (w : World) (r : Ending) (w' : World) : Prop := ∃ g, r = .returned (.tuple #[.slice (some ⟨g, 0, none⟩) n n, .int .i64 lo]) ∧ w.heap.size ≤ g ∧ OwnB w' g (Dn.dg 10 n D) ∧ Below w.heap.size w w'

set_option maxRecDepth 100000 in
set_option maxHeartbeats 4000000 in
theorem gap_any (p1 p2 : Bool) (s1 s2 : ByteArray) (xs ys : List Int) (e1 e2 lo hi : Int) (n t1 t2 : Nat) (w : World) (hs1 : Str s1 xs) (hs2 : Str s2 ys) (hd1 : Digs xs) (hd2 : Digs ys)
    (hlo : min e1 e2 = lo) (hhi : max (e1 + (xs.length : Int)) (e2 + (ys.length : Int)) = hi) (hn : hi - lo = (n : Int)) (ht1 : e1 - lo = (t1 : Int)) (ht2 : e2 - lo = (t2 : Int)) (nb : n ≤ 5000) (b0 : -5000 ≤ e1) (b1 : e1 ≤ 3000) (b2 : -5000 ≤ e2) (b3 : e2 ≤ 3000) :
    Calls Tryz.prog 16 #[.agg #[.bool p1, .string s1, .int .i64 e1], .agg #[.bool p2, .string s2, .int .i64 e2]] w fun r w' => GapTold n ((dv xs * 10 ^ t1 - dv ys * 10 ^ t2).natAbs : Int) lo w r w' := by
  obtain ⟨l1, hl1⟩ : ∃ l1 : Nat, l1 + xs.length + t1 = n := ⟨n - xs.length - t1, by omega⟩
  obtain ⟨l2, hl2⟩ : ∃ l2 : Nat, l2 + ys.length + t2 = n := ⟨n - ys.length - t2, by omega⟩
  have P1 := hid (fun wx : World => placed_any p1 s1 xs e1 lo hi l1 t1 n wx hs1 hd1 hl1 hn ht1 nb (by omega) (by omega))
  have P2 := hid (fun wx : World => placed_any p2 s2 ys e2 lo hi l2 t2 n wx hs2 hd2 hl2 hn ht2 nb (by omega) (by omega))
  have z1 := hs1.size
  have z2 := hs2.size
  have bound : ∀ (zs : List Int) (t l : Nat), Digs zs → l + zs.length + t = n → 0 ≤ dv zs * 10 ^ t ∧ dv zs * 10 ^ t < 10 ^ n := by
    intro zs t l hd h
    have b := dv_bd hd
    refine ⟨Int.mul_nonneg b.1 (Int.le_of_lt (Fx.p_pos t)), ?_⟩
    refine Int.lt_of_lt_of_le (Int.mul_lt_mul_of_pos_right b.2 (Fx.p_pos t)) ?_
    rw [← Int.pow_add]
    exact Fx.p_le (by omega)
  have q1 := bound xs t1 l1 hd1 hl1
  have q2 := bound ys t2 l2 hd2 hl2
  have lb1 : (xs.length : Int) ≤ 5000 := by omega
  have lb2 : (ys.length : Int) ≤ 5000 := by omega
  have nbi : (n : Int) ≤ 5000 := by omega
  generalize dv xs * 10 ^ t1 = X at *
  generalize dv ys * 10 ^ t2 = Y at *
  have a1 := alloc_b w (.cells #[.bool p1, .string s1, .int .i64 e1] 25)
  have a2 := alloc_b (w.alloc (.cells #[.bool p1, .string s1, .int .i64 e1] 25)) (.cells #[.bool p2, .string s2, .int .i64 e2] 25)
  have r1 := (FR3.new w (.bool p1) (.string s1) (.int .i64 e1)).below a2 (FR3.new w _ _ _).lt
  have r2 : FR3 ((w.alloc (.cells #[.bool p1, .string s1, .int .i64 e1] 25)).alloc (.cells #[.bool p2, .string s2, .int .i64 e2] 25)) (w.heap.size + 1) (.bool p2) (.string s2) (.int .i64 e2) := by
    have := FR3.new (w.alloc (.cells #[.bool p1, .string s1, .int .i64 e1] 25)) (.bool p2) (.string s2) (.int .i64 e2)
    rwa [show (w.alloc (.cells #[.bool p1, .string s1, .int .i64 e1] 25)).heap.size = w.heap.size + 1 from Array.size_push ..] at this
  have HZ := hid (And.intro r2 (a1.trans (a2.mono a1.size)))
  clear hs1 hs2 hd1 hd2 bound a1 a2 r1 r2 hl1 hl2 ht1 ht2
  go_enter Tryz.func16, Tryz.ntmps16
  go_wp2_with fail
  refine (P1.out _).mono ?_
  rintro e w1 ⟨g1, rfl, hg1, o1, B1⟩
  obtain ⟨⟨c0, c1, c2⟩, -⟩ := (HZ.out.1.below B1 HZ.out.1.lt).cells
  have BW1 := hid (HZ.out.2.trans (B1.mono HZ.out.2.size))
  have O1 := hid o1
  have G1 : Hid (w.heap.size ≤ g1) := Nat.le_trans HZ.out.2.size hg1
  clear B1 o1 hg1 P1 HZ
  go_wp2_with fail
  refine (P2.out _).mono ?_
  rintro e w2 ⟨g2, rfl, hg2, o2, B2⟩
  have o1 := O1.out.below B2 O1.out.lt
  have ne : g1 ≠ g2 := by have := O1.out.lt; omega
  have S1 := row_str o1
  have S2 := row_str o2
  have LT := Sh.rb_less n X Y q1.1 q1.2 q2.1 q2.2
  have T1 : (⟨(Sh.rb n X).toArray⟩ : ByteArray).toList = Sh.rb n X := by rw [ByteArray.toList_eq]
  have T2 : (⟨(Sh.rb n Y).toArray⟩ : ByteArray).toList = Sh.rb n Y := by rw [ByteArray.toList_eq]
  rw [← T1, ← T2] at LT
  have BW2 := hid (BW1.out.trans (B2.mono BW1.out.size))
  have OO := hid (And.intro o1 (And.intro o2 (And.intro ne (And.intro G1.out (Nat.le_trans BW1.out.size hg2)))))
  generalize (⟨(Sh.rb n X).toArray⟩ : ByteArray) = sx at *
  generalize (⟨(Sh.rb n Y).toArray⟩ : ByteArray) = sy at *
  obtain ⟨lt, hlt⟩ : ∃ lt, decide (X < Y) = lt := ⟨_, rfl⟩
  rw [hlt] at LT
  clear T1 T2 c0 c1 c2 P2 B2 o1 o2 ne O1 G1 hg2 BW1
  go_upto_if 43 with fail
  go_cut [8, 9] from 44 to 45 (fun a b wx => ∃ ga gb U V, a = .slice (some ⟨ga, 0, none⟩) n n ∧ b = .slice (some ⟨gb, 0, none⟩) n n ∧ wx = w2 ∧ Hid (OwnB w2 ga (Dn.dg 10 n U) ∧ OwnB w2 gb (Dn.dg 10 n V) ∧ ga ≠ gb ∧ w.heap.size ≤ ga ∧ 0 ≤ V ∧ V ≤ U ∧ U < 10 ^ n ∧ ((X - Y).natAbs : Int) = U - V))
  case first =>
    cases lt
    · have hle := of_decide_eq_false hlt
      go_wp2_with fail
      go_meet
      exact ⟨g1, g2, X, Y, rfl, rfl, rfl, OO.out.1, OO.out.2.1, OO.out.2.2.1, OO.out.2.2.2.1, q2.1, by omega, q1.2, by omega⟩
    · have hle := of_decide_eq_true hlt
      go_wp2_with fail
      go_meet
      exact ⟨g2, g1, Y, X, rfl, rfl, rfl, OO.out.2.1, OO.out.1, fun c => OO.out.2.2.1 c.symm, OO.out.2.2.2.2, q1.1, by omega, q2.2, by omega⟩
  obtain ⟨ga, gb, U, V, h8, h9, hwc, C⟩ := hcut
  subst h8
  subst h9
  subst hwc
  have GG : Hid (∀ w', OwnB w' ga (Dn.dg 10 n (U - V)) → Below w.heap.size w w' → GapTold n ((X - Y).natAbs : Int) lo w (.returned (.tuple #[.slice (some ⟨ga, 0, none⟩) n n, .int .i64 lo])) w') := fun w' o b => ⟨ga, rfl, C.out.2.2.2.1, by rw [C.out.2.2.2.2.2.2.2]; exact o, b⟩
  clear S1 S2 LT OO hlt
  go_wp2_with fail
  go_loopg [10, 11] n (fun k bo i wr => ∃ q : Nat, q + k = n ∧ bo = .int .u8 (Sh.bw U V q) ∧ i = .int .i64 ((k : Int) - 1) ∧ Hid (OwnB wr ga (Dn.dg 10 k (U / 10 ^ q) ++ Dn.dg 10 q (U - V)) ∧ OwnB wr gb (Dn.dg 10 n V) ∧ Below w.heap.size w wr))
  case atStart =>
    refine ⟨0, by omega, ?_, rfl, ?_⟩
    · have : Sh.bw U V 0 = 0 := by
        unfold Sh.bw
        rw [Int.pow_zero, Int.emod_one, Int.emod_one, if_neg (by omega)]
      rw [this]
    · refine ⟨?_, C.out.2.1, BW2.out⟩
      rw [Int.pow_zero, Int.ediv_one, show Dn.dg 10 0 (U - V) = [] from rfl, List.append_nil]
      exact C.out.1
  case round =>
    obtain ⟨q, hq, rfl, rfl, I⟩ := hrel
    cases gk with
    | zero =>
      have hqn : q = n := by omega
      subst hqn
      have K := hid (GG.out wr (by have := I.out.1; rw [show Dn.dg 10 0 (U / 10 ^ q) = [] from rfl, List.nil_append] at this; exact this) I.out.2.2)
      clear I GG
      generalize Sh.bw U V q = bo at *
      go_wp2_with fail
      go_ret2
      exact K.out
    | succ j =>
      rw [show ((j + 1 : Nat) : Int) - 1 = (j : Int) by omega]
      have jn : (j : Int) < (n : Int) := by omega
      obtain ⟨x, hx⟩ : ∃ x, U / 10 ^ q % 10 = x := ⟨_, rfl⟩
      obtain ⟨y, hy⟩ : ∃ y, V / 10 ^ q % 10 = y := ⟨_, rfl⟩
      obtain ⟨b, hb⟩ : ∃ b, Sh.bw U V q = b := ⟨_, rfl⟩
      have bb : b = 0 ∨ b = 1 := by rw [← hb]; unfold Sh.bw; split <;> simp
      obtain ⟨st1, st2⟩ := Sh.sub_step (X := U) (Y := V) (P := 10 ^ q) (Fx.p_pos q) (b := b) (x := x) (y := y) (by rw [← hb]; rfl) hx.symm hy.symm
      have oa := I.out.1
      have ob := I.out.2.1
      have lenA : (Dn.dg 10 (j + 1) (U / 10 ^ q) ++ Dn.dg 10 q (U - V)).length = n := by rw [List.length_append, Sh.dg_len, Sh.dg_len]; omega
      have ca := oa.cell j (by omega)
      have fa := oa.free j
      have ea : (Dn.dg 10 (j + 1) (U / 10 ^ q) ++ Dn.dg 10 q (U - V)).getD j 0 = x := by
        have h1 := Sh.dg_at (j + 1) (U / 10 ^ q) j (by omega)
        rw [show j + 1 - 1 - j = 0 by omega, Int.pow_zero, Int.ediv_one, hx] at h1
        rw [← h1]
        simp [List.getD, List.getElem?_append_left (show j < (Dn.dg 10 (j + 1) (U / 10 ^ q)).length by rw [Sh.dg_len]; omega)]
      rw [ea] at ca
      have cb := ob.cell j (by rw [Sh.dg_len]; omega)
      have eb : (Dn.dg 10 n V).getD j 0 = y := by
        rw [Sh.dg_at n V j (by omega), show n - 1 - j = q by omega, hy]
      rw [eb] at cb
      have xb : 0 ≤ x ∧ x < 10 := by omega
      have yb : 0 ≤ y ∧ y < 10 := by omega
      obtain ⟨xb0, xb1⟩ := xb
      obtain ⟨yb0, yb1⟩ := yb
      have NX : Hid (∀ (z : Int) (w' : World), z = (U - V) / 10 ^ q % 10 → OwnB w' ga ((Dn.dg 10 (j + 1) (U / 10 ^ q) ++ Dn.dg 10 q (U - V)).set j z) → OwnB w' gb (Dn.dg 10 n V) → Below w.heap.size w w' → (OwnB w' ga (Dn.dg 10 j (U / 10 ^ (q + 1)) ++ Dn.dg 10 (q + 1) (U - V)) ∧ OwnB w' gb (Dn.dg 10 n V) ∧ Below w.heap.size w w')) := by
        intro z w' hz o1 o2 o3
        rw [Sh.dg_set q j U (U - V) z hz] at o1
        exact ⟨o1, o2, o3⟩
      have far : ∀ (w' : World) (v : Value), OwnB w' gb (Dn.dg 10 n V) → OwnB (w'.setCell ⟨ga, j, none⟩ v) gb (Dn.dg 10 n V) := by
        intro w' v o
        simp only [OwnB] at *
        simp only [World.setCell, Array.getElem?_modify]
        rw [if_neg C.out.2.2.1]
        exact o
      have gw := C.out.2.2.2.1
      rw [hb]
      by_cases hc : x < y + b
      · obtain ⟨v1, v2⟩ := st1 hc
        have nbw : Hid (Sh.bw U V (q + 1) = 1) := by unfold Sh.bw; rw [Hid, Int.pow_succ, if_pos v2]
        have o1 := oa.set j (x + 10)
        have K := hid (NX.out (x + 10 - (y + b)) _ v1 (by have := o1.set j (x + 10 - (y + b)); rw [List.set_set] at this; exact this) (far _ _ (far _ (.int .u8 (x + 10)) ob)) ((I.out.2.2.setCell (p := ⟨ga, j, none⟩) gw (.int .u8 (x + 10))).setCell (p := ⟨ga, j, none⟩) gw (.int .u8 (x + 10 - (y + b)))))
        clear I oa ob o1 st1 st2 NX far v1 v2 ea eb lenA GG
        go_wp2_with fail
        go_roundg j
        case measure => omega
        case rel => exact ⟨q + 1, by omega, by rw [nbw.out], by go_num, K.out⟩
      · obtain ⟨v1, v2⟩ := st2 (by omega)
        have nbw : Hid (Sh.bw U V (q + 1) = 0) := by unfold Sh.bw; rw [Hid, Int.pow_succ, if_neg v2]
        have K := hid (NX.out (x - (y + b)) _ v1 (oa.set j (x - (y + b))) (far _ _ ob) (I.out.2.2.setCell (p := ⟨ga, j, none⟩) gw (.int .u8 (x - (y + b)))))
        clear I oa ob st1 st2 NX far v1 v2 ea eb lenA GG
        go_wp2_with fail
        go_roundg j
        case measure => omega
        case rel => exact ⟨q + 1, by omega, by rw [nbw.out], by go_num, K.out⟩
end Go.Proofs.YtjkefcikepnbpaaGreatDoor

namespace Go.Proofs.YtjkefcikepnbpaaGreatDoor
open Go Go.RowKit Go.Deep

set_option maxRecDepth 100000 in
set_option maxHeartbeats 4000000 in
/-- Two rows of digits, held against each other place by place. -/
theorem less_any (ga gb na nb ca cb : Nat) (Ta Tb la lb : Int) (w : World) (oa : OwnB w ga (Dn.dg 10 na Ta)) (ob : OwnB w gb (Dn.dg 10 nb Tb)) (a0 : 0 ≤ Ta) (a1 : Ta < 10 ^ na) (b0 : 0 ≤ Tb) (b1 : Tb < 10 ^ nb)
    (m : Int) (sa sb : Nat) (hsa : la = m + sa) (hsb : lb = m + sb) (hm : sa = 0 ∨ sb = 0) (ba : na ≤ 5000) (bb : nb ≤ 5000) (m0 : -5000 ≤ m) (m1 : m ≤ 5000) (s1 : sa ≤ 10000) (s2 : sb ≤ 10000) :
    Calls Tryz.prog 17 #[.slice (some ⟨ga, 0, none⟩) na ca, .int .i64 la, .slice (some ⟨gb, 0, none⟩) nb cb, .int .i64 lb] w fun r w' => r = .returned (.int .i64 (Sc.cmpI (Ta * 10 ^ sa) (Tb * 10 ^ sb))) ∧ w' = w := by
  obtain ⟨M, hM⟩ : ∃ M, M = max (sa + na) (sb + nb) := ⟨_, rfl⟩
  have PA : Hid (∀ j : Nat, (sa ≤ j → j < sa + na → (Dn.dg 10 na Ta).getD (na - 1 - (j - sa)) 0 = Ta * 10 ^ sa / 10 ^ j % 10) ∧ (¬ (sa ≤ j ∧ j < sa + na) → Ta * 10 ^ sa / 10 ^ j % 10 = 0)) := fun j => Sh.place_dig a0 a1
  have PB : Hid (∀ j : Nat, (sb ≤ j → j < sb + nb → (Dn.dg 10 nb Tb).getD (nb - 1 - (j - sb)) 0 = Tb * 10 ^ sb / 10 ^ j % 10) ∧ (¬ (sb ≤ j ∧ j < sb + nb) → Tb * 10 ^ sb / 10 ^ j % 10 = 0)) := fun j => Sh.place_dig b0 b1
  have top : ∀ (T : Int) (n s : Nat), 0 ≤ T → T < 10 ^ n → s + n ≤ M → T * 10 ^ s / 10 ^ M = 0 := by
    intro T n s h0 h1 h2
    apply Int.ediv_eq_zero_of_lt (Int.mul_nonneg h0 (Int.le_of_lt (Fx.p_pos s)))
    refine Int.lt_of_lt_of_le (Int.mul_lt_mul_of_pos_right h1 (Fx.p_pos s)) ?_
    rw [← Int.pow_add]
    exact Fx.p_le (by omega)
  have E0 : Ta * 10 ^ sa / 10 ^ M = Tb * 10 ^ sb / 10 ^ M := by rw [top Ta na sa a0 a1 (by omega), top Tb nb sb b0 b1 (by omega)]
  obtain ⟨A, hA⟩ : ∃ A, Ta * 10 ^ sa = A := ⟨_, rfl⟩
  obtain ⟨B, hB⟩ : ∃ B, Tb * 10 ^ sb = B := ⟨_, rfl⟩
  rw [hA] at PA
  rw [hB] at PB
  rw [hA, hB] at E0
  rw [hA, hB]
  have mn : min (m + (sa : Int)) (m + (sb : Int)) = m := by omega
  have mx : max (m + (sa : Int) + (na : Int)) (m + (sb : Int) + (nb : Int)) = m + (M : Int) := by omega
  have OA := hid oa
  have OB := hid ob
  have HM := hid hM
  have Mb : (M : Int) ≤ 15000 := by omega
  clear oa ob a0 a1 b0 b1 top hA hB hM
  subst hsa
  subst hsb
  go_enter Tryz.func17, Tryz.ntmps17
  go_wp2_with fail
  go_loopg [10] M (fun k p wr => wr = w ∧ p = .int .i64 (m + (k : Int) - 1) ∧ k ≤ M ∧ Hid (A / 10 ^ k = B / 10 ^ k))
  case atStart => exact ⟨rfl, rfl, Nat.le_refl _, E0⟩
  case round =>
    obtain ⟨hw, hp, hk, I⟩ := hrel
    subst hw
    subst hp
    cases gk with
    | zero =>
      have K : Hid (Sc.cmpI A B = 0) := by
        have q := I.out
        rw [Int.pow_zero, Int.ediv_one, Int.ediv_one] at q
        rw [q]
        rcases Sc.cmpI_c B B with k | k | k
        · omega
        · exact k.2
        · omega
      clear I PA PB OA OB
      go_wp2_with fail
      go_ret
      exact ⟨by rw [K.out]; rfl, rfl⟩
    | succ j =>
      rw [show m + ((j + 1 : Nat) : Int) - 1 = m + (j : Int) by omega]
      obtain ⟨c1, c2, c3⟩ := Sh.cmp_dig I.out
      have pa := PA.out j
      have pb := PB.out j
      obtain ⟨x, hx⟩ : ∃ x, A / 10 ^ j % 10 = x := ⟨_, rfl⟩
      obtain ⟨y, hy⟩ : ∃ y, B / 10 ^ j % 10 = y := ⟨_, rfl⟩
      rw [hx] at pa c1 c2 c3
      rw [hy] at pb c1 c2 c3
      have xb : 0 ≤ x ∧ x < 10 := by omega
      have yb : 0 ≤ y ∧ y < 10 := by omega
      have L1 : Hid (x < y → Sc.cmpI A B = -1) := fun q => by rcases Sc.cmpI_c A B with k | k | k <;> have := c1 q <;> omega
      have L2 : Hid (y < x → Sc.cmpI A B = 1) := fun q => by rcases Sc.cmpI_c A B with k | k | k <;> have := c2 q <;> omega
      have L3 : Hid (x = y → A / 10 ^ j = B / 10 ^ j) := fun q => c3 q
      have jb : (j : Int) ≤ 15000 := by omega
      clear c1 c2 c3 I hx hy
      by_cases ra : sa ≤ j ∧ j < sa + na
      · have ia : sa ≤ j ∧ j < sa + na := ra
        obtain ⟨ka, hka⟩ : ∃ ka : Nat, ka = na - 1 - (j - sa) := ⟨_, rfl⟩
        have za : m + (sa : Int) + (na : Int) - 1 - (m + (j : Int)) = (ka : Int) := by omega
        have wa : (ka : Int) < (na : Int) := by omega
        have ea := pa.1 ia.1 ia.2
        have fa := OA.out.cell ka (by rw [Sh.dg_len]; omega)
        rw [hka, ea, ← hka] at fa
        clear hka ea
        by_cases rb : sb ≤ j ∧ j < sb + nb
        · have ib : sb ≤ j ∧ j < sb + nb := rb
          obtain ⟨kb, hkb⟩ : ∃ kb : Nat, kb = nb - 1 - (j - sb) := ⟨_, rfl⟩
          have zb : m + (sb : Int) + (nb : Int) - 1 - (m + (j : Int)) = (kb : Int) := by omega
          have wb : (kb : Int) < (nb : Int) := by omega
          have eb := pb.1 ib.1 ib.2
          have fb := OB.out.cell kb (by rw [Sh.dg_len]; omega)
          rw [hkb, eb, ← hkb] at fb
          clear hkb eb
          rcases Int.lt_trichotomy x y with q | q | q
          · have K := hid (L1.out q)
            clear L1 L2 L3 PA PB OA OB pa pb
            go_wp2_with fail
            all_goals go_ret
            all_goals exact ⟨by rw [K.out]; rfl, rfl⟩
          · have K := hid (L3.out q)
            have q1 : ¬ x < y := by omega
            have q2 : ¬ y < x := by omega
            clear L1 L2 L3 pa pb
            go_wp2_with fail
            all_goals go_roundg j
            all_goals first | exact ⟨rfl, by go_num, by omega, K.out⟩ | omega
          · have K := hid (L2.out q)
            have q1 : ¬ x < y := by omega
            clear L1 L2 L3 PA PB OA OB pa pb
            go_wp2_with fail
            all_goals go_ret
            all_goals exact ⟨by rw [K.out]; rfl, rfl⟩
        · have xb0 : y = 0 := pb.2 rb
          subst xb0
          rcases (show m + (sb : Int) + (nb : Int) - 1 - (m + (j : Int)) < 0 ∨ (0 ≤ m + (sb : Int) + (nb : Int) - 1 - (m + (j : Int)) ∧ (nb : Int) ≤ m + (sb : Int) + (nb : Int) - 1 - (m + (j : Int))) by omega) with ob | ⟨ob, ob'⟩
          · rcases Int.lt_trichotomy x (0 : Int) with q | q | q
            · have K := hid (L1.out q)
              clear L1 L2 L3 PA PB OA OB pa pb
              go_wp2_with fail
              all_goals go_ret
              all_goals exact ⟨by rw [K.out]; rfl, rfl⟩
            · have K := hid (L3.out q)
              have q1 : ¬ x < (0 : Int) := by omega
              have q2 : ¬ (0 : Int) < x := by omega
              clear L1 L2 L3 pa pb
              go_wp2_with fail
              all_goals go_roundg j
              all_goals first | exact ⟨rfl, by go_num, by omega, K.out⟩ | omega
            · have K := hid (L2.out q)
              have q1 : ¬ x < (0 : Int) := by omega
              clear L1 L2 L3 PA PB OA OB pa pb
              go_wp2_with fail
              all_goals go_ret
              all_goals exact ⟨by rw [K.out]; rfl, rfl⟩
          · rcases Int.lt_trichotomy x (0 : Int) with q | q | q
            · have K := hid (L1.out q)
              clear L1 L2 L3 PA PB OA OB pa pb
              go_wp2_with fail
              all_goals go_ret
              all_goals exact ⟨by rw [K.out]; rfl, rfl⟩
            · have K := hid (L3.out q)
              have q1 : ¬ x < (0 : Int) := by omega
              have q2 : ¬ (0 : Int) < x := by omega
              clear L1 L2 L3 pa pb
              go_wp2_with fail
              all_goals go_roundg j
              all_goals first | exact ⟨rfl, by go_num, by omega, K.out⟩ | omega
            · have K := hid (L2.out q)
              have q1 : ¬ x < (0 : Int) := by omega
              clear L1 L2 L3 PA PB OA OB pa pb
              go_wp2_with fail
              all_goals go_ret
              all_goals exact ⟨by rw [K.out]; rfl, rfl⟩
      · have xa0 : x = 0 := pa.2 ra
        subst xa0
        rcases (show m + (sa : Int) + (na : Int) - 1 - (m + (j : Int)) < 0 ∨ (0 ≤ m + (sa : Int) + (na : Int) - 1 - (m + (j : Int)) ∧ (na : Int) ≤ m + (sa : Int) + (na : Int) - 1 - (m + (j : Int))) by omega) with oa | ⟨oa, oa'⟩
        · by_cases rb : sb ≤ j ∧ j < sb + nb
          · have ib : sb ≤ j ∧ j < sb + nb := rb
            obtain ⟨kb, hkb⟩ : ∃ kb : Nat, kb = nb - 1 - (j - sb) := ⟨_, rfl⟩
            have zb : m + (sb : Int) + (nb : Int) - 1 - (m + (j : Int)) = (kb : Int) := by omega
            have wb : (kb : Int) < (nb : Int) := by omega
            have eb := pb.1 ib.1 ib.2
            have fb := OB.out.cell kb (by rw [Sh.dg_len]; omega)
            rw [hkb, eb, ← hkb] at fb
            clear hkb eb
            rcases Int.lt_trichotomy (0 : Int) y with q | q | q
            · have K := hid (L1.out q)
              clear L1 L2 L3 PA PB OA OB pa pb
              go_wp2_with fail
              all_goals go_ret
              all_goals exact ⟨by rw [K.out]; rfl, rfl⟩
            · have K := hid (L3.out q)
              have q1 : ¬ (0 : Int) < y := by omega
              have q2 : ¬ y < (0 : Int) := by omega
              clear L1 L2 L3 pa pb
              go_wp2_with fail
              all_goals go_roundg j
              all_goals first | exact ⟨rfl, by go_num, by omega, K.out⟩ | omega
            · have K := hid (L2.out q)
              have q1 : ¬ (0 : Int) < y := by omega
              clear L1 L2 L3 PA PB OA OB pa pb
              go_wp2_with fail
              all_goals go_ret
              all_goals exact ⟨by rw [K.out]; rfl, rfl⟩
          · have xb0 : y = 0 := pb.2 rb
            subst xb0
            rcases (show m + (sb : Int) + (nb : Int) - 1 - (m + (j : Int)) < 0 ∨ (0 ≤ m + (sb : Int) + (nb : Int) - 1 - (m + (j : Int)) ∧ (nb : Int) ≤ m + (sb : Int) + (nb : Int) - 1 - (m + (j : Int))) by omega) with ob | ⟨ob, ob'⟩
            · rcases Int.lt_trichotomy (0 : Int) (0 : Int) with q | q | q
              · have K := hid (L1.out q)
                clear L1 L2 L3 PA PB OA OB pa pb
                go_wp2_with fail
                all_goals go_ret
                all_goals exact ⟨by rw [K.out]; rfl, rfl⟩
              · have K := hid (L3.out q)
                have q1 : ¬ (0 : Int) < (0 : Int) := by omega
                have q2 : ¬ (0 : Int) < (0 : Int) := by omega
                clear L1 L2 L3 pa pb
                go_wp2_with fail
                all_goals go_roundg j
                all_goals first | exact ⟨rfl, by go_num, by omega, K.out⟩ | omega
              · have K := hid (L2.out q)
                have q1 : ¬ (0 : Int) < (0 : Int) := by omega
                clear L1 L2 L3 PA PB OA OB pa pb
                go_wp2_with fail
                all_goals go_ret
                all_goals exact ⟨by rw [K.out]; rfl, rfl⟩
            · rcases Int.lt_trichotomy (0 : Int) (0 : Int) with q | q | q
              · have K := hid (L1.out q)
                clear L1 L2 L3 PA PB OA OB pa pb
                go_wp2_with fail
                all_goals go_ret
                all_goals exact ⟨by rw [K.out]; rfl, rfl⟩
              · have K := hid (L3.out q)
                have q1 : ¬ (0 : Int) < (0 : Int) := by omega
                have q2 : ¬ (0 : Int) < (0 : Int) := by omega
                clear L1 L2 L3 pa pb
                go_wp2_with fail
                all_goals go_roundg j
                all_goals first | exact ⟨rfl, by go_num, by omega, K.out⟩ | omega
              · have K := hid (L2.out q)
                have q1 : ¬ (0 : Int) < (0 : Int) := by omega
                clear L1 L2 L3 PA PB OA OB pa pb
                go_wp2_with fail
                all_goals go_ret
                all_goals exact ⟨by rw [K.out]; rfl, rfl⟩
        · by_cases rb : sb ≤ j ∧ j < sb + nb
          · have ib : sb ≤ j ∧ j < sb + nb := rb
            obtain ⟨kb, hkb⟩ : ∃ kb : Nat, kb = nb - 1 - (j - sb) := ⟨_, rfl⟩
            have zb : m + (sb : Int) + (nb : Int) - 1 - (m + (j : Int)) = (kb : Int) := by omega
            have wb : (kb : Int) < (nb : Int) := by omega
            have eb := pb.1 ib.1 ib.2
            have fb := OB.out.cell kb (by rw [Sh.dg_len]; omega)
            rw [hkb, eb, ← hkb] at fb
            clear hkb eb
            rcases Int.lt_trichotomy (0 : Int) y with q | q | q
            · have K := hid (L1.out q)
              clear L1 L2 L3 PA PB OA OB pa pb
              go_wp2_with fail
              all_goals go_ret
              all_goals exact ⟨by rw [K.out]; rfl, rfl⟩
            · have K := hid (L3.out q)
              have q1 : ¬ (0 : Int) < y := by omega
              have q2 : ¬ y < (0 : Int) := by omega
              clear L1 L2 L3 pa pb
              go_wp2_with fail
              all_goals go_roundg j
              all_goals first | exact ⟨rfl, by go_num, by omega, K.out⟩ | omega
            · have K := hid (L2.out q)
              have q1 : ¬ (0 : Int) < y := by omega
              clear L1 L2 L3 PA PB OA OB pa pb
              go_wp2_with fail
              all_goals go_ret
              all_goals exact ⟨by rw [K.out]; rfl, rfl⟩
          · have xb0 : y = 0 := pb.2 rb
            subst xb0
            rcases (show m + (sb : Int) + (nb : Int) - 1 - (m + (j : Int)) < 0 ∨ (0 ≤ m + (sb : Int) + (nb : Int) - 1 - (m + (j : Int)) ∧ (nb : Int) ≤ m + (sb : Int) + (nb : Int) - 1 - (m + (j : Int))) by omega) with ob | ⟨ob, ob'⟩
            · rcases Int.lt_trichotomy (0 : Int) (0 : Int) with q | q | q
              · have K := hid (L1.out q)
                clear L1 L2 L3 PA PB OA OB pa pb
                go_wp2_with fail
                all_goals go_ret
                all_goals exact ⟨by rw [K.out]; rfl, rfl⟩
              · have K := hid (L3.out q)
                have q1 : ¬ (0 : Int) < (0 : Int) := by omega
                have q2 : ¬ (0 : Int) < (0 : Int) := by omega
                clear L1 L2 L3 pa pb
                go_wp2_with fail
                all_goals go_roundg j
                all_goals first | exact ⟨rfl, by go_num, by omega, K.out⟩ | omega
              · have K := hid (L2.out q)
                have q1 : ¬ (0 : Int) < (0 : Int) := by omega
                clear L1 L2 L3 PA PB OA OB pa pb
                go_wp2_with fail
                all_goals go_ret
                all_goals exact ⟨by rw [K.out]; rfl, rfl⟩
            · rcases Int.lt_trichotomy (0 : Int) (0 : Int) with q | q | q
              · have K := hid (L1.out q)
                clear L1 L2 L3 PA PB OA OB pa pb
                go_wp2_with fail
                all_goals go_ret
                all_goals exact ⟨by rw [K.out]; rfl, rfl⟩
              · have K := hid (L3.out q)
                have q1 : ¬ (0 : Int) < (0 : Int) := by omega
                have q2 : ¬ (0 : Int) < (0 : Int) := by omega
                clear L1 L2 L3 pa pb
                go_wp2_with fail
                all_goals go_roundg j
                all_goals first | exact ⟨rfl, by go_num, by omega, K.out⟩ | omega
              · have K := hid (L2.out q)
                have q1 : ¬ (0 : Int) < (0 : Int) := by omega
                clear L1 L2 L3 PA PB OA OB pa pb
                go_wp2_with fail
                all_goals go_ret
                all_goals exact ⟨by rw [K.out]; rfl, rfl⟩
end Go.Proofs.YtjkefcikepnbpaaGreatDoor

namespace Go.Proofs.YtjkefcikepnbpaaGreatDoor
open Go Go.RowKit Go.Deep

set_option maxRecDepth 100000 in
theorem modest_any (neg : Bool) (s : ByteArray) (xs : List Int) (e : Int) (w : World) (hs : Str s xs) (hl : xs.length ≤ 800) (e0 : -1100 ≤ e) (e1 : e ≤ 400) :
    Calls Tryz.prog 15 #[.agg #[.bool neg, .string s, .int .i64 e]] w fun r w' => r = .returned (.bool true) ∧ Below w.heap.size w w' := by
  have hsz := hs.size
  have hl2 : (xs.length : Int) ≤ 800 := by omega
  have K := hid (alloc_b w (.cells #[.bool neg, .string s, .int .i64 e] 25))
  clear hs
  go_enter Tryz.func15, Tryz.ntmps15
  go_wp2_with fail
  go_ret
  exact ⟨rfl, K.out⟩
end Go.Proofs.YtjkefcikepnbpaaGreatDoor

namespace Go.Proofs.YtjkefcikepnbpaaGreatDoor
open Go Go.RowKit Go.Deep

set_option maxRecDepth 100000 in
theorem lfinite_any (d : Int) (w : World) (h0 : 0 ≤ d) :
    Calls Tryz.prog 9 #[.int .u64 d] w fun e w' => e = .returned (.bool (decide (d % 9223372036854775808 < 9218868437227405312))) ∧ w' = w := by
  have E : d.tmod 9223372036854775808 = d % 9223372036854775808 := Int.tmod_eq_emod_of_nonneg h0
  go_enter Tryz.func9, Tryz.ntmps9
  go_wp2_with fail
  go_ret
  exact ⟨by first | rfl | rw [E], rfl⟩

/-- What law12's digits tells. -/
def LdTold (xs : List Int) (w : World) (e : Ending) (w' : World) : Prop := ∃ r : Bool, e = .returned (.bool r) ∧ (r = true → Fx.Nml xs) ∧ w' = w

set_option maxRecDepth 100000 in
set_option maxHeartbeats 2000000 in
theorem ldigits_any (s : ByteArray) (xs : List Int) (w : World) (hs : Str s xs) (hn : xs.length ≤ 281474976710656) :
    Calls Tryz.prog 19 #[.string s] w fun e w' => LdTold xs w e w' := by
  have HS := hid hs
  have HN := hid hn
  have hsz := hs.size
  have hnb : (xs.length : Int) ≤ 281474976710656 := by omega
  have NO : Hid (LdTold xs w (.returned (.bool false)) w) := ⟨false, rfl, fun h => absurd h (by decide), rfl⟩
  clear hs hn
  go_enter Tryz.func19, Tryz.ntmps19
  go_wp2_with fail
  go_loop [3] (fun c => ∃ j : Nat, c = .int .i64 j ∧ Hid (j ≤ xs.length ∧ ∀ i, i < j → 48 ≤ Sc.pk xs i ∧ Sc.pk xs i ≤ 57)) (fun c => match c with | .int _ j => xs.length - j.toNat | _ => 0)
  case atStart => exact ⟨0, rfl, Nat.zero_le _, fun i h => by omega⟩
  case round =>
    obtain ⟨j, rfl, I⟩ := hrel
    have hjl : j ≤ xs.length := I.out.1
    have hjb : (j : Int) ≤ 281474976710656 := by have := HN.out; omega
    have hx := HS.out.pk j
    by_cases hj : j < xs.length
    · have hji : (j : Int) < (xs.length : Int) := by omega
      by_cases hd : 48 ≤ Sc.pk xs j ∧ Sc.pk xs j ≤ 57
      · have d1 : ¬ Sc.pk xs j < 48 := by omega
        have d2 : ¬ 57 < Sc.pk xs j := by omega
        have I2 : Hid (j + 1 ≤ xs.length ∧ ∀ i, i < j + 1 → 48 ≤ Sc.pk xs i ∧ Sc.pk xs i ≤ 57) := by
          refine ⟨hj, fun i h => ?_⟩
          rcases (show i < j ∨ i = j by omega) with q | q
          · exact I.out.2 i q
          · rw [q]; exact hd
        clear hd I hjl
        generalize Sc.pk xs j = xj at *
        go_wp2_with fail
        go_round
        case rel => exact ⟨j + 1, by go_num, I2.out⟩
        case measure => simp; omega
      · clear I
        rcases (show Sc.pk xs j < 48 ∨ (¬ Sc.pk xs j < 48 ∧ 57 < Sc.pk xs j) by omega) with q | ⟨q1, q2⟩
        · clear hd
          generalize Sc.pk xs j = xj at *
          go_wp2_with fail
          go_ret
          exact NO.out
        · clear hd
          generalize Sc.pk xs j = xj at *
          go_wp2_with fail
          go_ret
          exact NO.out
    · have hje : j = xs.length := by omega
      have AL : Hid (∀ i, i < xs.length → 48 ≤ Sc.pk xs i ∧ Sc.pk xs i ≤ 57) := by rw [← hje]; exact I.out.2
      have hji : ¬ (j : Int) < (xs.length : Int) := by omega
      rcases Nat.eq_zero_or_pos xs.length with hz | hp
      · have hz' : ¬ (0 : Int) < (xs.length : Int) := by omega
        clear I hx hj hje
        go_wp2_with fail
        go_ret
        exact NO.out
      · have hp' : (0 : Int) < (xs.length : Int) := by omega
        obtain ⟨m, hm⟩ : ∃ m, xs.length = m + 1 := ⟨xs.length - 1, by omega⟩
        have hm1 : (xs.length : Int) - 1 = (m : Int) := by omega
        have hml : (m : Int) < (xs.length : Int) := by omega
        have y0 := HS.out.pk 0
        have ym := HS.out.pk m
        by_cases q0 : Sc.pk xs 0 = 48
        · have b0 : (Sc.pk xs 0 == 48) = true := by simpa using q0
          have b1 : (Sc.pk xs 0 != 48) = false := by simp [q0]
          clear I hx hj hje ym
          generalize Sc.pk xs 0 = x0 at *
          go_wp2_with fail
          go_ret
          exact NO.out
        · have b0 : (Sc.pk xs 0 == 48) = false := by simpa using q0
          have b1 : (Sc.pk xs 0 != 48) = true := by simpa using q0
          have YES : Hid (Sc.pk xs m ≠ 48 → LdTold xs w (.returned (.bool true)) w) := by
            intro qm
            refine ⟨true, rfl, fun _ => ⟨?_, ?_, q0, ?_⟩, rfl⟩
            · intro d hd
              obtain ⟨i, hi, rfl⟩ := List.getElem_of_mem hd
              have := AL.out i hi
              simpa [Sc.pk, List.getD, hi] using this
            · intro c; rw [c] at hp; simp at hp
            · rw [hm, Nat.add_sub_cancel]; exact qm
          by_cases qm : Sc.pk xs m = 48
          · have e0 : (Sc.pk xs m == 48) = true := by simpa using qm
            have e1 : (Sc.pk xs m != 48) = false := by simp [qm]
            clear I hx hj hje qm q0 YES
            generalize Sc.pk xs 0 = x0 at *
            generalize Sc.pk xs m = xm at *
            go_wp2_with fail
            go_ret
            exact NO.out
          · have e0 : (Sc.pk xs m == 48) = false := by simpa using qm
            have e1 : (Sc.pk xs m != 48) = true := by simpa using qm
            have K := hid (YES.out qm)
            clear I hx hj hje qm q0 YES
            generalize Sc.pk xs 0 = x0 at *
            generalize Sc.pk xs m = xm at *
            go_wp2_with fail
            go_ret
            exact K.out
end Go.Proofs.YtjkefcikepnbpaaGreatDoor

namespace Go.Proofs.YtjkefcikepnbpaaGreatDoor
open Go.RowKit Go.Deep

/-- s' is s without some zeros at its end, and ends with none. -/
def FTail (xs : List Int) (e : Ending) : Prop := ∃ s' k, e = .returned (.string s') ∧ Str s' (xs.take k) ∧ k ≤ xs.length ∧ (∀ i, k ≤ i → i < xs.length → xs.getD i 0 = 48) ∧ (0 < k → xs.getD (k - 1) 0 ≠ 48)

set_option maxRecDepth 100000 in
set_option maxHeartbeats 1000000 in
theorem frtrim_any (s : ByteArray) (xs : List Int) (w : World) (hs : Str s xs) (hn1 : xs.length ≤ 562949953421312) :
    Calls Tryz.prog 80 #[.string s, .int .u8 48] w fun e w' => FTail xs e ∧ w' = w := by
  have HS := hid hs
  have HN := hid hn1
  clear hs hn1
  go_enter Tryz.func80, Tryz.ntmps80
  go_wp2_with fail
  go_loop [0] (fun c => ∃ s' m, c = .string s' ∧ Hid (Str s' (xs.take m) ∧ m ≤ xs.length ∧ s'.size = m ∧ (∀ i, m ≤ i → i < xs.length → xs.getD i 0 = 48))) (fun c => match c with | .string s' => s'.size | _ => 0)
  case atStart => exact ⟨s, xs.length, rfl, by rw [List.take_length]; exact HS.out, Nat.le_refl _, HS.out.size, fun i h1 h2 => by omega⟩
  case round =>
    obtain ⟨s', m, rfl, I⟩ := hrel
    have hsz : s'.size = m := I.out.2.2.1
    have hmb : (m : Int) ≤ 562949953421312 := by have := HN.out; have := I.out.2.1; omega
    by_cases h0 : m = 0
    · subst h0
      have F : Hid (FTail xs (.returned (.string s'))) := ⟨s', 0, rfl, I.out.1, Nat.zero_le _, I.out.2.2.2, fun h => by omega⟩
      clear I
      go_wp2_with fail
      go_ret
      exact ⟨F.out, rfl⟩
    · obtain ⟨u, hu⟩ : ∃ u, m = u + 1 := ⟨m - 1, by omega⟩
      have hmi : (0 : Int) < (m : Int) := by omega
      have hmu : (m : Int) - 1 = (u : Int) := by omega
      have hum : (u : Int) < (m : Int) := by omega
      obtain ⟨x, X⟩ : ∃ x, Hid (xs.getD u 0 = x) := ⟨_, rfl⟩
      have hx : ∀ h : u < s'.size, ((s'[u]'h).toNat : Int) = x := fun h => by
        rw [I.out.1.at u h, ← X.out]
        simp [List.getD, show u < m by omega]
      have HU := hid hu
      by_cases hd : x = 48
      · subst hd
        have F : Hid (Str (s'.extract 0 u) (xs.take u) ∧ u ≤ xs.length ∧ (s'.extract 0 u).size = u ∧ (∀ i, u ≤ i → i < xs.length → xs.getD i 0 = 48)) := by
          have e := I.out.1.extract 0 u
          rw [List.drop_zero, Nat.sub_zero, List.take_take, show min u m = u by omega] at e
          refine ⟨e, by have := I.out.2.1; omega, by rw [e.size]; have := I.out.2.1; simp; omega, fun i h1 h2 => ?_⟩
          by_cases c : i = u
          · subst c; exact X.out
          · exact I.out.2.2.2 i (by omega) h2
        have SZ : Hid ((s'.extract 0 u).size < s'.size) := by show _ < _; rw [F.out.2.2.1, hsz]; omega
        clear I hu h0
        go_wp2_with fail
        go_round
        case rel => exact ⟨_, _, rfl, F.out⟩
        case measure => exact SZ.out
      · have hd2 : (x == 48) = false := by rw [beq_eq_false_iff_ne]; exact hd
        have F : Hid (FTail xs (.returned (.string s'))) := ⟨s', m, rfl, I.out.1, I.out.2.1, I.out.2.2.2, fun _ => by rw [show m - 1 = u by omega, X.out]; exact hd⟩
        clear I hu h0
        go_wp2_with fail
        go_ret
        exact ⟨F.out, rfl⟩


set_option maxRecDepth 100000 in
theorem frtrim0_any (s : ByteArray) (xs : List Int) (w : World) (hs : Str s xs) (hn1 : xs.length ≤ 562949953421312) :
    Calls Tryz.prog 60 #[.string s, .string ⟨#[48]⟩] w fun e w' => FTail xs e ∧ w' = w := by
  have T := hid (frtrim_any s xs w hs hn1)
  by_cases h : xs = []
  · have F : Hid (FTail xs (.returned (.string s))) := ⟨s, 0, rfl, by rw [h] at hs ⊢; exact hs, Nat.zero_le _, fun i _ hi => by rw [h] at hi; simp at hi, fun hlt => by omega⟩
    have hs0 : s = ⟨#[]⟩ := hs.inj (by rw [h]; rfl)
    subst hs0
    clear hs hn1 h
    go_enter Tryz.func60, Tryz.ntmps60
    go_wp2_with fail
    go_ret
    exact ⟨F.out, rfl⟩
  · have e1 : s.toList ≠ [] := by
      intro c
      apply h
      rw [ByteArray.toList_eq] at c
      rw [← hs, c]
      rfl
    have e2 : (s.toList == []) = false := by rw [beq_eq_false_iff_ne]; exact e1
    have e3 : s.toList.isEmpty = false := by rw [List.isEmpty_eq_false_iff]; exact e1
    clear hs hn1 h
    go_enter Tryz.func60, Tryz.ntmps60
    go_wp2_with fail
    refine T.out.mono ?_
    rintro e w' ⟨h1, rfl⟩
    obtain ⟨s', j, rfl, h2⟩ := h1
    have F : Hid (FTail xs (.returned (.string s'))) := ⟨s', j, rfl, h2⟩
    clear h2 T
    go_wp2_with fail
    go_ret
    exact ⟨F.out, rfl⟩
end Go.Proofs.YtjkefcikepnbpaaGreatDoor

namespace Go.Proofs.YtjkefcikepnbpaaGreatDoor
open Go Go.RowKit Go.Deep

theorem fprod_room {q : Int} {n : Nat} (q1 : q < 18446744073709551616) : q * 5 ^ n < 10 ^ (20 + n) := by
  have h1 := f5_10 n
  have h0 : (0 : Int) < 5 ^ n := Int.pow_pos (by omega)
  have h2 : q * 5 ^ n < 18446744073709551616 * 5 ^ n := Int.mul_lt_mul_of_pos_right q1 h0
  rw [Int.pow_add]
  have e : (10 : Int) ^ 20 = 100000000000000000000 := by decide
  rw [e]
  omega

set_option maxRecDepth 100000 in
theorem behind_any (p : Option Addr) (os : List Int) (B : Nat) (q k : Int) (n : Nat) (w : World) (A : Ans B w p os q) (q0 : 0 < q) (q1 : q < 18446744073709551616) (hk : k = (n : Int)) (hn : n ≤ 1074) :
    Calls Tryz.prog 57 #[.slice p (List.length os) (List.length os), .int .i64 k] w fun e w' => ∃ s xs, e = .returned (.string s) ∧ DigT (q * 5 ^ n) s xs ∧ Below w.heap.size w w' := by
  have F := hid (fpow5_ok k n w hk (by omega))
  have MU : Hid (∀ (w1 : World) (r : Option Addr) (zs : List Int), Below w.heap.size w w1 → Ans w.heap.size w1 r zs (5 ^ n) → Calls Tryz.prog 65 #[.slice p (List.length os) (List.length os), .slice r (List.length zs) (List.length zs)] w1 fun e w' => ∃ r os, e = .returned (.tuple #[.slice r (List.length os) (List.length os), .int .i64 0]) ∧ Ans w1.heap.size w' r os (q * 5 ^ n) ∧ Below w1.heap.size w1 w') := by
    intro w1 r zs hB A1
    have A0 := A.below hB (Nat.le_refl _)
    have r0 : q < Nm.pw 4096 := Int.lt_trans (show q < 10 ^ 20 by rw [show (10 : Int) ^ 20 = 100000000000000000000 by decide]; omega) (fp10_pw (by omega))
    have r1 : (5 : Int) ^ n < Nm.pw 4096 := Int.lt_of_le_of_lt (f5_10 n) (fp10_pw (by omega))
    have m := mul_ok p r _ _ _ _ os zs w1 (A0.argT r0) (A1.argT r1) (A0.tsT r0) (A1.tsT r1) (by rw [A0.2.2.2.1, A1.2.2.2.1]; exact Int.lt_trans (fprod_room q1) (fp10_pw (by omega)))
    rw [A0.2.2.2.1, A1.2.2.2.1] at m
    exact m
  have DG : Hid (∀ (w1 : World) (r : Option Addr) (zs : List Int) (B : Nat), Ans B w1 r zs (q * 5 ^ n) → Calls Tryz.prog 59 #[.slice r (List.length zs) (List.length zs)] w1 fun e w' => ∃ s xs, e = .returned (.tuple #[.string s, .int .i64 0]) ∧ DigT (q * 5 ^ n) s xs ∧ Below w1.heap.size w1 w') :=
    fun w1 r zs B A1 => fdigits_any r zs B _ w1 (20 + n) A1 (Int.mul_pos q0 (Int.pow_pos (by omega))) (by omega) (fprod_room q1)
  clear A q0 q1 hk hn
  generalize q * 5 ^ n = T at *
  generalize (5 : Int) ^ n = G at *
  go_enter Tryz.func57, Tryz.ntmps57
  go_wp2_with fail
  refine F.out.mono ?_
  rintro e w1 ⟨r, zs, rfl, A1, B1⟩
  have M1 := hid (MU.out w1 r zs B1 A1)
  have HB := hid B1
  clear A1 B1 MU F
  go_wp2_with fail
  refine M1.out.mono ?_
  rintro e w2 ⟨r2, z2, rfl, A2, B2⟩
  have D2 := hid (DG.out w2 r2 z2 _ A2)
  have HB2 := hid (HB.out.trans (B2.mono HB.out.size))
  clear A2 B2 M1 DG HB
  go_wp2_with fail
  refine D2.out.mono ?_
  rintro e w3 ⟨s, xs, rfl, D3, B3⟩
  have K := hid (And.intro D3 (HB2.out.trans (B3.mono HB2.out.size)))
  clear D3 B3 D2 HB2
  go_wp2_with fail
  go_ret
  exact ⟨s, xs, rfl, K.out.1, K.out.2⟩

/-- The digits of an odd number times a power of five: no zero is at their end. -/
theorem ex_odd {m e q : Int} {t n : Nat} {xs : List Int} {s : ByteArray} (hm : m = 2 ^ t * q) (q0 : 0 < q) (hq : q % 2 = 1) (he : -1074 ≤ e) (hn : (n : Int) = -(e + t)) (D : DigT (q * 5 ^ n) s xs) : Fx.Ex m e xs (e + t) := by
  have hm0 : 0 < m := by rw [hm]; exact Int.mul_pos (Int.pow_pos (by omega)) q0
  obtain ⟨L, hL⟩ : ∃ L, xs.length = L + 1 := ⟨xs.length - 1, by have := List.length_pos_iff.2 D.ne; omega⟩
  have odd : dv xs % 2 = 1 := by
    rw [D.val]
    have : ∀ k : Nat, (5 : Int) ^ k % 2 = 1 := by
      intro k
      induction k with
      | zero => rfl
      | succ k ih => rw [Int.pow_succ]; omega
    rw [Int.mul_emod, hq, this n]
    rfl
  refine ⟨by omega, fun c => by omega, fun _ => ⟨D.digs, D.ne, D.head, ?_⟩, fun _ => ?_⟩
  · have := Fx.dv_mod D.digs hL
    rw [hL, Nat.add_sub_cancel]
    omega
  · rw [D.val]
    obtain ⟨a, ha⟩ : ∃ a : Nat, (e + (t : Int) + 1074).toNat = a := ⟨_, rfl⟩
    obtain ⟨b, hb⟩ : ∃ b : Nat, (e + 1074).toNat = b := ⟨_, rfl⟩
    have e1 : a = t + b := by omega
    have e2 : 1074 = n + a := by omega
    rw [ha, hb, hm, Fx.F5, e2, Int.pow_add, e1, show (10 : Int) = 2 * 5 from rfl, Int.mul_pow, Int.pow_add 2]
    generalize (5 : Int) ^ n = x1
    generalize (5 : Int) ^ (t + b) = x2
    generalize (2 : Int) ^ t = x3
    generalize (2 : Int) ^ b = x4
    ac_rfl

/-- The digits of a whole number, without the zeros at their end. -/
theorem ex_whole {m e q : Int} {t n k : Nat} {xs : List Int} {s : ByteArray} (hm : m = 2 ^ t * q) (q0 : 0 < q) (he : -1074 ≤ e) (hn : (n : Int) = e + t) (D : DigT (q * 2 ^ n) s xs) (hk : k ≤ xs.length) (h0 : ∀ i, k ≤ i → i < xs.length → xs.getD i 0 = 48) (hl : 0 < k → xs.getD (k - 1) 0 ≠ 48) : Fx.Ex m e (xs.take k) (xs.length - k) := by
  have hm0 : 0 < m := by rw [hm]; exact Int.mul_pos (Int.pow_pos (by omega)) q0
  have := (Fx.ex_of (m := m) (e := e) (F := 0) hm0 D.digs D.head hk h0 hl (by omega) (by
    rw [D.val]
    obtain ⟨b, hb⟩ : ∃ b : Nat, (e + 1074).toNat = b := ⟨_, rfl⟩
    have e1 : n + 1074 = t + b := by omega
    have e2 : (2 : Int) ^ n * 2 ^ 1074 = 2 ^ t * 2 ^ b := by rw [← Int.pow_add, ← Int.pow_add, e1]
    rw [hb, hm, Fx.F5, show ((0 : Int) + 1074).toNat = 1074 from rfl]
    generalize 1074 = z at *
    rw [show (10 : Int) = 2 * 5 from rfl, Int.mul_pow]
    generalize (5 : Int) ^ z = x1
    generalize (2 : Int) ^ z = x2 at *
    rw [show q * 2 ^ n * (x2 * x1) = q * (2 ^ n * x2) * x1 by ac_rfl, e2]
    ac_rfl)).1
  rw [Int.zero_add] at this
  exact this
end Go.Proofs.YtjkefcikepnbpaaGreatDoor

namespace Go.Proofs.YtjkefcikepnbpaaGreatDoor
open Go Go.RowKit Go.Deep

/-- What exact tells. -/
def ExTold (d : Int) (w : World) (e : Ending) (w' : World) : Prop :=
  ∃ s, e = .returned (.tuple #[.string s, .int .i64 (Fx.ed (Ie.dm d) (Ie.de d))]) ∧ Str s (Fx.xd (Ie.dm d) (Ie.de d)) ∧ Below w.heap.size w w'

theorem ExTold.of {d : Int} {w w' : World} {s : ByteArray} {xs : List Int} {E : Int} (hm : 0 ≤ Ie.dm d) (h : Fx.Ex (Ie.dm d) (Ie.de d) xs E) (hs : Str s xs) (hB : Below w.heap.size w w') : ExTold d w (.returned (.tuple #[.string s, .int .i64 E])) w' := by
  obtain ⟨e1, e2⟩ := h.is hm
  exact ⟨s, by rw [e2], by rw [← e1]; exact hs, hB⟩

set_option maxRecDepth 100000 in
set_option maxHeartbeats 4000000 in
theorem exact_any (d : Int) (w : World) (hT : Tab w) (h0 : 0 ≤ d) (h1 : d < 18446744073709551616) (hf : Ie.cls d < 3) :
    Calls Tryz.prog 37 #[.int .u64 d] w fun e w' => ExTold d w e w' := by
  have D := hid (decode_any d w h0 h1)
  obtain ⟨m0, m1, e0, e1, mz⟩ := Ie.fdec d hf
  have FIN : Hid (∀ (w' : World) (s : ByteArray) (xs : List Int) (E : Int), Fx.Ex (Ie.dm d) (Ie.de d) xs E → Str s xs → Below w.heap.size w w' → ExTold d w (.returned (.tuple #[.string s, .int .i64 E])) w') := fun w' s xs E h hs hB => .of m0 h hs hB
  have HT := hid hT
  simp only [partsOf] at D
  generalize decide (9223372036854775808 ≤ d) = neg at *
  generalize Ie.dm d = m at *
  generalize Ie.de d = x at *
  generalize Ie.cls d = c at *
  clear hT h0 h1 hf
  by_cases hc : c = 0
  · subst hc
    have hm := mz.1 rfl
    subst hm
    have F0 : Hid (∀ (w' : World), Below w.heap.size w w' → ExTold d w (.returned (.tuple #[.string ⟨#[48]⟩, .int .i64 0])) w') := fun w' hB => FIN.out w' _ [48] 0 ⟨by omega, fun _ => ⟨rfl, rfl⟩, fun h => by omega, fun h => by omega⟩ rfl hB
    clear FIN mz HT
    go_enter Tryz.func37, Tryz.ntmps37
    go_wp2_with fail
    refine D.out.mono ?_
    rintro e w1 ⟨rfl, hB⟩
    have K := hid (F0.out _ (hB.trans ((alloc_b w1 (.cells #[.bool neg, .int .i64 0, .int .u64 0, .int .i64 x] 72)).mono hB.size)))
    clear hB F0 D
    go_wp2_with fail
    go_ret2
    exact K.out
  · have hc' : (c == 0) = false := by rw [beq_eq_false_iff_ne]; exact hc
    have hm : 0 < m := by rcases (show m = 0 ∨ 0 < m by omega) with h | h; exact absurd (mz.2 h) hc; exact h
    have TZ : Hid (∀ wx : World, Tab wx → Calls Tryz.prog 55 #[.int .u64 m] wx fun e w' => ∃ (t : Nat) (q : Int), e = .returned (.int .i64 t) ∧ t ≤ 63 ∧ Hid (m = 2 ^ t * q ∧ 0 < q ∧ q % 2 = 1) ∧ m / 2 ^ t = q ∧ 0 ≤ q ∧ q < 9007199254740992 ∧ w' = wx) := by
      intro wx hT
      refine (tz64 m wx hm (by omega) hT).mono ?_
      rintro e w' ⟨t, q, rfl, ht, hq, rfl⟩
      have hq' : m = 2 ^ t * (2 * q + 1) := hq
      have p2 : (0 : Int) < 2 ^ t := Int.pow_pos (by omega)
      have qp : 0 < 2 * q + 1 := by
        rcases (show 2 * q + 1 ≤ 0 ∨ 0 < 2 * q + 1 by omega) with h | h
        · have := Int.mul_nonpos_of_nonneg_of_nonpos (Int.le_of_lt p2) h
          omega
        · exact h
      have dv' : m / 2 ^ t = 2 * q + 1 := by rw [hq']; exact Int.mul_ediv_cancel_left _ (by omega)
      refine ⟨t, 2 * q + 1, rfl, ht, ⟨hq', qp, by omega⟩, dv', by omega, ?_, rfl⟩
      have : (1 : Int) * (2 * q + 1) ≤ 2 ^ t * (2 * q + 1) := Int.mul_le_mul_of_nonneg_right p2 (by omega)
      omega
    have XB := hid (And.intro e0 e1)
    clear mz hc hm
    go_enter Tryz.func37, Tryz.ntmps37
    go_wp2_with fail
    refine D.out.mono ?_
    rintro e w1 ⟨rfl, hB1⟩
    have HB1 := hid hB1
    clear hB1 D
    go_upto_region 4 with fail
    have hb := HB1.out.trans ((alloc_b w1 (.cells #[.bool neg, .int .i64 c, .int .u64 m, .int .i64 x] 72)).mono HB1.out.size)
    have P := Row4.new w1 72 (.bool neg) (.int .i64 c) (.int .u64 m) (.int .i64 x)
    obtain ⟨SS, KS, CS, BS, MS⟩ := state (fun w' => (w'.cell? ⟨w1.heap.size, 2, none⟩ = some (.int .u64 m) ∧ w'.cell? ⟨w1.heap.size, 3, none⟩ = some (.int .i64 x)) ∧ Tab w') w (((Stays.cell _ _).and (Stays.cell _ _)).and Stays.tab)
    have S0 := hid (MS.out _ ⟨⟨P.cells.1.2.2.1, P.cells.1.2.2.2⟩, HT.out.below hb⟩ hb)
    clear P hb HT HB1 MS
    generalize w1.alloc (.cells #[.bool neg, .int .i64 c, .int .u64 m, .int .i64 x] 72) = wA at *
    generalize w1.heap.size = b at *
    have CC : Hid (∀ wx : World, SS wx → (wx.cell? ⟨b, 2, none⟩ = some (.int .u64 m) ∧ wx.cell? ⟨b, 3, none⟩ = some (.int .i64 x))) := fun wx h => (CS.out wx h).1
    have T0 := hid (TZ.out _ (CS.out _ S0.out).2)
    obtain ⟨p2, p3⟩ := CC.out _ S0.out
    clear CS TZ
    go_wp2_with fail
    refine T0.out.mono ?_
    rintro e wz ⟨t, q, rfl, ht, HQ, dq, q0, q1, hz⟩
    replace hz := hz.symm
    subst hz
    have FU := hid (fun (wx : World) => fromUint_any q wx q0 (by omega))
    obtain ⟨y, hy⟩ : ∃ y, x + (t : Int) = y := ⟨_, rfl⟩
    have WK : IntKind.i64.wrap (x + (t : Int)) = y := by rw [IntKind.wrap_i64]; omega
    have WN : IntKind.i64.wrap y = y := by rw [IntKind.wrap_i64]; omega
    clear T0
    have S1 := hid (KS.out _ _ S0.out (drew_nil _))
    go_upto_region 5 with fail
    go_region_held3 (fun w' => w'.cell? ⟨b, 2, none⟩ = some (.int .u64 m) ∧ w'.cell? ⟨b, 3, none⟩ = some (.int .i64 x)) (first | (with_reducible exact CC.out _ S2.out) | (with_reducible exact CC.out _ S1.out)) (first
      | (go_at_call 56; refine (FU.out _).mono ?_; rintro e w2 ⟨p, os, rfl, A, hB⟩; have S2 := hid (KS.out _ _ S1.out hB); have A2 := hid A; clear hB A))
    all_goals
      by_cases hy0 : y < 0
      · obtain ⟨n, hn⟩ : ∃ n : Nat, -y = (n : Int) := ⟨(-y).toNat, by omega⟩
        have hn0 : (n : Int) ≤ 1074 := by omega
        have BH := hid (behind_any p os _ q (n : Int) n w2 A2.out HQ.out.2.1 (by omega) rfl (by omega))
        have KK : Hid (∀ (w3 : World) (s : ByteArray) (xs : List Int), DigT (q * 5 ^ n) s xs → Below w2.heap.size w2 w3 → ExTold d w (.returned (.tuple #[.string s, .int .i64 y])) w3) := by
          intro w3 s xs D hB
          refine FIN.out w3 s xs y ?_ D.str ((BS.out _ S2.out).trans (hB.mono (BS.out _ S2.out).size))
          rw [← hy]
          exact ex_odd HQ.out.1 HQ.out.2.1 HQ.out.2.2 XB.out.1 (by omega) D
        clear FIN A2 FU S0 S1 CC HQ dq hy WK p2 p3
        go_wp2_with fail
        refine BH.out.mono ?_
        rintro e w3 ⟨s, xs, rfl, D, hB⟩
        have K := hid (KK.out w3 s xs D hB)
        clear D hB KK BH
        go_wp2_with fail
        go_ret2
        exact K.out
      · obtain ⟨n, hn⟩ : ∃ n : Nat, y = (n : Int) := ⟨y.toNat, by omega⟩
        have hn0 : (n : Int) ≤ 1034 := by omega
        have room : q * 2 ^ n < 10 ^ (20 + n) := by
          have h1 := f2_10 n
          have h0 : (0 : Int) < 2 ^ n := Int.pow_pos (by omega)
          have h2 : q * 2 ^ n < 9007199254740992 * 2 ^ n := Int.mul_lt_mul_of_pos_right q1 h0
          rw [Int.pow_add]
          have e : (10 : Int) ^ 20 = 100000000000000000000 := by decide
          rw [e]
          omega
        have r0 : q < Nm.pw 4096 := Int.lt_trans (show q < 10 ^ 20 by rw [show (10 : Int) ^ 20 = 100000000000000000000 by decide]; omega) (fp10_pw (by omega))
        have SH := fshl_any p _ _ os (n : Int) n w2 (A2.out.argT r0) (A2.out.tsT r0) rfl (by rw [A2.out.2.2.2.1]; exact Int.lt_trans room (fp10_pw (by omega)))
        rw [A2.out.2.2.2.1] at SH
        have HS := hid SH
        have DG : Hid (∀ (w1 : World) (r : Option Addr) (zs : List Int) (B : Nat), Ans B w1 r zs (q * 2 ^ n) → Calls Tryz.prog 59 #[.slice r (List.length zs) (List.length zs)] w1 fun e w' => ∃ s xs, e = .returned (.tuple #[.string s, .int .i64 0]) ∧ DigT (q * 2 ^ n) s xs ∧ Below w1.heap.size w1 w') :=
          fun w1 r zs B A1 => fdigits_any r zs B _ w1 (20 + n) A1 (Int.mul_pos HQ.out.2.1 (Int.pow_pos (by omega))) (by omega) room
        have KK : Hid (∀ (w3 : World) (s s' : ByteArray) (xs : List Int) (k : Nat), DigT (q * 2 ^ n) s xs → Str s' (xs.take k) → k ≤ xs.length → (∀ i, k ≤ i → i < xs.length → xs.getD i 0 = 48) → (0 < k → xs.getD (k - 1) 0 ≠ 48) → Below w.heap.size w w3 → ExTold d w (.returned (.tuple #[.string s', .int .i64 ((s.size : Int) - (s'.size : Int))])) w3) := by
          intro w3 s s' xs k D hs hk g0 gl hB
          have z1 : s.size = xs.length := D.str.size
          have z2 : s'.size = k := by rw [hs.size, List.length_take]; omega
          rw [z1, z2]
          exact FIN.out w3 s' (xs.take k) _ (ex_whole HQ.out.1 HQ.out.2.1 XB.out.1 (by omega) D hk g0 gl) hs hB
        have hy1 : ¬ (n : Int) < 0 := by omega
        subst hn
        clear FIN A2 FU S0 S1 CC HQ dq hy WK p2 p3 SH room r0 hy0
        generalize q * 2 ^ n = T at *
        go_wp2_with fail
        refine HS.out.mono ?_
        rintro e w3 ⟨r, zs, rfl, A3, B3⟩
        have D3 := hid (DG.out w3 r zs _ A3)
        have HB3 := hid ((BS.out _ S2.out).trans (B3.mono (BS.out _ S2.out).size))
        clear A3 B3 HS DG
        go_wp2_with fail
        refine D3.out.mono ?_
        rintro e w4 ⟨s, xs, rfl, D4, B4⟩
        have HB4 := hid (HB3.out.trans (B4.mono HB3.out.size))
        have HD := hid D4
        have TR := hid (frtrim0_any s xs w4 D4.str (by have := D4.len; omega))
        have sz1 : (s.size : Int) ≤ 3000 := by have := D4.str.size; have := D4.len; omega
        clear D4 B4 D3 HB3
        go_wp2_with fail
        refine TR.out.mono ?_
        rintro e w5 ⟨⟨s', k, rfl, g1, g2, g3, g4⟩, hz⟩
        have sz2 : (s'.size : Int) ≤ (s.size : Int) := by rw [g1.size, HD.out.str.size, List.length_take]; omega
        have K := hid (KK.out w5 s s' xs k HD.out g1 g2 g3 g4 (by rw [hz]; exact HB4.out))
        clear g1 g2 g3 g4 hz TR KK HD HB4
        go_wp2_with fail
        go_ret2
        exact K.out
end Go.Proofs.YtjkefcikepnbpaaGreatDoor

namespace Go.Proofs.YtjkefcikepnbpaaGreatDoor
open Go Go.RowKit Go.Deep

namespace Fx
/-- The exact digits of a double, and their power. -/
noncomputable def X (d : Int) : List Int := xd (Ie.dm d) (Ie.de d)
noncomputable def P (d : Int) : Int := ed (Ie.dm d) (Ie.de d)
/-- What All answers. -/
noncomputable def aS (d : Int) : List Int := if Ie.fnt d = true then X d else []
noncomputable def aE (d : Int) : Int := if Ie.fnt d = true then P d else 0
def aN (d : Int) : Bool := Ie.fnt d && decide (9223372036854775808 ≤ d)
def aR (d : Int) : Int := if Ie.fnt d = true then 0 else 5

theorem X_ex {d : Int} (h : Ie.fnt d = true) : Ex (Ie.dm d) (Ie.de d) (X d) (P d) := ex_is (Ie.fdec d (of_decide_eq_true h)).1
theorem X_digs {d : Int} (h : Ie.fnt d = true) : Digs (X d) ∧ X d ≠ [] := (X_ex h).digs (Ie.fdec d (of_decide_eq_true h)).1
theorem X_zero {d : Int} (h : Ie.fnt d = true) (hz : Ie.dm d = 0) : X d = [48] ∧ P d = 0 := (X_ex h).zero hz
theorem X_room {d : Int} (h : Ie.fnt d = true) : -323 ≤ (X d).length + P d ∧ (X d).length + P d ≤ 309 ∧ -1074 ≤ P d ∧ (X d).length ≤ 1383 ∧ 1 ≤ (X d).length := by
  obtain ⟨m0, m1, e0, e1, _⟩ := Ie.fdec d (of_decide_eq_true h)
  have lo := (X_ex h).lo
  have l1 := List.length_pos_iff.2 (X_digs h).2
  rcases (show Ie.dm d = 0 ∨ 0 < Ie.dm d by omega) with c | c
  · obtain ⟨a, b⟩ := X_zero h c
    rw [a, b] at *
    simp
  · have r := (X_ex h).room c m1 e1
    omega
end Fx

def AllTold (d : Int) (w : World) (e : Ending) (w' : World) : Prop :=
  ∃ s, e = .returned (.tuple #[.agg #[.bool (Fx.aN d), .string s, .int .i64 (Fx.aE d)], .int .i64 (Fx.aR d)]) ∧ Str s (Fx.aS d) ∧ Below w.heap.size w w'

theorem and_sign (d : Int) (h0 : 0 ≤ d) (h1 : d < 18446744073709551616) : (bits .and .u64 d 9223372036854775808 != 0) = decide (9223372036854775808 ≤ d) := by
  rw [Ib.sign_and d h0 h1]
  rcases (show d < 9223372036854775808 ∨ 9223372036854775808 ≤ d by omega) with c | c
  · have e : d / 9223372036854775808 = 0 := by omega
    rw [e]
    simp
    omega
  · have e : d / 9223372036854775808 = 1 := by omega
    rw [e]
    simp [c]

set_option maxRecDepth 100000 in
set_option maxHeartbeats 2000000 in
theorem fall_any (d : Int) (w : World) (hT : Tab w) (h0 : 0 ≤ d) (h1 : d < 18446744073709551616) :
    Calls Tryz.prog 14 #[.int .u64 d] w fun e w' => AllTold d w e w' := by
  have FN := hid (fun wx : World => ffinite_any d wx h0 h1)
  have Z := FR3.new w (.bool false) (.string ⟨#[]⟩) (.int .i64 0)
  have ZB := alloc_b w (.cells #[.bool false, .string ⟨#[]⟩, .int .i64 0] 25)
  by_cases hf : Ie.fnt d = true
  · have G : Hid (∀ (w' : World) (s : ByteArray), Str s (Fx.X d) → Below w.heap.size w w' → AllTold d w (.returned (.tuple #[.agg #[.bool (decide (9223372036854775808 ≤ d)), .string s, .int .i64 (Fx.P d)], .int .i64 0])) w') := by
      intro w' s hs hB
      refine ⟨s, ?_, by rw [Fx.aS, if_pos hf]; exact hs, hB⟩
      rw [Fx.aN, Fx.aE, Fx.aR, if_pos hf, if_pos hf, hf, Bool.true_and]
    have EX : Hid (∀ wx : World, Tab wx → Calls Tryz.prog 37 #[.int .u64 d] wx fun e w' => ExTold d wx e w') := fun wx h => exact_any d wx h h0 h1 (of_decide_eq_true hf)
    have AS := and_sign d h0 h1
    have E1 := hid (EX.out _ (hT.below ZB))
    have HZ := hid (And.intro Z ZB)
    rw [hf] at FN
    clear Z ZB EX hT h0 h1 hf
    unfold ExTold at E1
    rw [← Fx.X, ← Fx.P] at E1
    generalize Fx.X d = X at *
    generalize Fx.P d = P at *
    generalize decide (9223372036854775808 ≤ d) = sn at *
    go_enter Tryz.func14, Tryz.ntmps14
    go_wp2_with fail
    refine (FN.out _).mono ?_
    rintro e wz ⟨rfl, hz⟩
    replace hz := hz.symm
    subst hz
    go_wp2_with fail
    refine E1.out.mono ?_
    rintro e w1 ⟨s, rfl, hs, hB⟩
    have Z1 := hid (HZ.out.1.below hB HZ.out.1.lt)
    have B1 := hid (HZ.out.2.trans (hB.mono HZ.out.2.size))
    have K := hid (G.out _ s hs (fset3_below (u0 := .bool sn) (u1 := .string s) (u2 := .int .i64 P) B1.out (Nat.le_refl _)))
    obtain ⟨⟨c0, c1, c2⟩, f0, f1, f2⟩ := Z1.out.cells
    clear hs hB HZ G E1 FN
    go_wp2_with fail
    (try simp only [Exit.inBlock, Exit.then])
    refine bodyPost_ret (fresults_row_tmp rfl _ _ w.heap.size 25 _ (0, 0) _ rfl (Z1.out.put _ _ _) Tryz.underlying25 rfl (by kernel_rfl)) rfl ?_
    exact K.out
  · have hf' : Ie.fnt d = false := by simpa using hf
    have G : Hid (∀ (w' : World), Below w.heap.size w w' → AllTold d w (.returned (.tuple #[.agg #[.bool false, .string ⟨#[]⟩, .int .i64 0], .int .i64 5])) w') := by
      intro w' hB
      refine ⟨⟨#[]⟩, ?_, by rw [Fx.aS, if_neg hf]; rfl, hB⟩
      rw [Fx.aN, Fx.aE, Fx.aR, if_neg hf, if_neg hf, hf', Bool.false_and]
    rw [hf'] at FN
    have HZ := hid (And.intro Z ZB)
    have K := hid (G.out _ ZB)
    obtain ⟨⟨c0, c1, c2⟩, f0, f1, f2⟩ := Z.cells
    clear Z ZB hT h0 h1 hf hf' G
    go_enter Tryz.func14, Tryz.ntmps14
    go_wp2_with fail
    refine (FN.out _).mono ?_
    rintro e wz ⟨rfl, hz⟩
    replace hz := hz.symm
    subst hz
    go_wp2_with fail
    (try simp only [Exit.inBlock, Exit.then])
    refine bodyPost_ret (fresults_row_tmp rfl _ _ w.heap.size 25 _ (0, 0) _ rfl HZ.out.1 Tryz.underlying25 rfl (by kernel_rfl)) rfl ?_
    exact K.out
end Go.Proofs.YtjkefcikepnbpaaGreatDoor

namespace Go.Proofs.YtjkefcikepnbpaaGreatDoor
open Go Go.RowKit Go.Deep

set_option maxRecDepth 100000 in
set_option maxHeartbeats 2000000 in
theorem ldigits_yes (s : ByteArray) (xs : List Int) (w : World) (hs : Str s xs) (hx : Fx.Nml xs) (hn : xs.length ≤ 281474976710656) :
    Calls Tryz.prog 19 #[.string s] w fun e w' => e = .returned (.bool true) ∧ w' = w := by
  have HS := hid hs
  have HN := hid hn
  have HX := hid hx
  have hsz := hs.size
  have hnb : (xs.length : Int) ≤ 281474976710656 := by omega
  clear hs hn hx
  go_enter Tryz.func19, Tryz.ntmps19
  go_wp2_with fail
  go_loop [3] (fun c => ∃ j : Nat, c = .int .i64 j ∧ Hid (j ≤ xs.length)) (fun c => match c with | .int _ j => xs.length - j.toNat | _ => 0)
  case atStart => exact ⟨0, rfl, Nat.zero_le _⟩
  case round =>
    obtain ⟨j, rfl, I⟩ := hrel
    have hjl : j ≤ xs.length := I.out
    have hjb : (j : Int) ≤ 281474976710656 := by have := HN.out; omega
    have hx := HS.out.pk j
    by_cases hj : j < xs.length
    · have hji : (j : Int) < (xs.length : Int) := by omega
      have hd : 48 ≤ Sc.pk xs j ∧ Sc.pk xs j ≤ 57 := Sh.digs_get HX.out.digs hj
      have d1 : ¬ Sc.pk xs j < 48 := by omega
      have d2 : ¬ 57 < Sc.pk xs j := by omega
      have I2 : Hid (j + 1 ≤ xs.length) := hj
      clear hd I hjl
      generalize Sc.pk xs j = xj at *
      go_wp2_with fail
      go_round
      case rel => exact ⟨j + 1, by go_num, I2.out⟩
      case measure => simp; omega
    · have hji : ¬ (j : Int) < (xs.length : Int) := by omega
      obtain ⟨m, hm⟩ := HX.out.len
      have hp' : (0 : Int) < (xs.length : Int) := by omega
      have hm1 : (xs.length : Int) - 1 = (m : Int) := by omega
      have hml : (m : Int) < (xs.length : Int) := by omega
      have y0 := HS.out.pk 0
      have ym := HS.out.pk m
      have q0 : Sc.pk xs 0 ≠ 48 := HX.out.head
      have qm : Sc.pk xs m ≠ 48 := by
        have := HX.out.last
        rw [hm, Nat.add_sub_cancel] at this
        exact this
      have b0 : (Sc.pk xs 0 == 48) = false := by simpa using q0
      have b1 : (Sc.pk xs 0 != 48) = true := by simpa using q0
      have e0 : (Sc.pk xs m == 48) = false := by simpa using qm
      have e1 : (Sc.pk xs m != 48) = true := by simpa using qm
      clear I hx hj qm q0 hm
      generalize Sc.pk xs 0 = x0 at *
      generalize Sc.pk xs m = xm at *
      go_wp2_with fail
      go_ret
      exact ⟨rfl, rfl⟩

namespace Sh
theorem dd_self {U : Int} (h : 0 ≤ U) : (⟨false, (dd U).ds, (dd U).e⟩ : Sc.D) = dd U := by
  have o := (dd_is h).1.neg
  cases hD : dd U with
  | mk n ds e => rw [hD] at o; simp at o; rw [o]
/-- What Holds tells of a row of digits. -/
theorem hold_row {d e : Int} {neg : Bool} {rs : List Int} (hf : Ie.fnt d = true) (_h0 : 0 ≤ d) (hd : Digs rs) (hn : rs ≠ []) (e0 : -1075 ≤ e) (e1 : e ≤ 100000) (hl : rs.length ≤ 100000) :
    hoE rs e d = 0 ∧ (hoB neg rs e d = true → inB (d % 9223372036854775808) (dv rs * 10 ^ (e + 1075).toNat) = true) := by
  have I := isdec hd hn e0 e1 hl
  have U0 : 0 ≤ dv rs * 10 ^ (e + 1075).toNat := Int.mul_nonneg (dv_bd hd).1 (Int.le_of_lt (Fx.p_pos _))
  refine ⟨by rw [hoE, if_pos I, if_pos hf], fun h => ?_⟩
  rw [hoB, if_pos ⟨I, hf⟩, (nrm_ds neg rs e).1, (nrm_ds neg rs e).2, nrm_dd hd e0, dd_self U0, hD_in (by omega) U0] at h
  exact (Bool.and_eq_true_iff.1 h).2
/-- How great a gap can be. -/
theorem gap_bd {xs ys : List Int} {t1 t2 n : Nat} (hx : Digs xs) (hy : Digs ys) (h1 : xs.length + t1 ≤ n) (h2 : ys.length + t2 ≤ n) : ((dv xs * 10 ^ t1 - dv ys * 10 ^ t2).natAbs : Int) < 10 ^ n := by
  have up : ∀ {zs : List Int} {t : Nat}, Digs zs → zs.length + t ≤ n → 0 ≤ dv zs * 10 ^ t ∧ dv zs * 10 ^ t < 10 ^ n := by
    intro zs t hz hl
    have b := dv_bd hz
    have p := Fx.p_pos t
    refine ⟨Int.mul_nonneg b.1 (Int.le_of_lt p), ?_⟩
    obtain ⟨k, hk⟩ : ∃ k, n = zs.length + t + k := ⟨n - (zs.length + t), by omega⟩
    rw [hk, Int.pow_add, Int.pow_add]
    have q : (1 : Int) ≤ 10 ^ k := Fx.p_pos k
    have s1 := Int.mul_lt_mul_of_pos_right b.2 p
    have s2 := Int.mul_le_mul_of_nonneg_left q (Int.le_of_lt (Int.lt_of_le_of_lt (Int.mul_nonneg b.1 (Int.le_of_lt p)) s1))
    rw [Int.mul_one] at s2
    omega
  have a := up hx h1
  have b := up hy h2
  omega
end Sh

/-- What stands in memory as the law goes on. -/
structure NeS (w : World) (bx bv g : Nat) (neg : Bool) (t : ByteArray) (e : Int) (vn : Bool) (u : ByteArray) (f : Int) (n : Nat) (G : Int) (W : World) : Prop where
  x : FR3 W bx (.bool neg) (.string t) (.int .i64 e)
  v : FR3 W bv (.bool vn) (.string u) (.int .i64 f)
  m : OwnB W g (Dn.dg 10 n G)
  b : Below w.heap.size w W
theorem ownb_lt {W : World} {g : Nat} {zs : List Int} (h : OwnB W g zs) : g < W.heap.size := by
  unfold OwnB at h
  rcases Nat.lt_or_ge g W.heap.size with hl | hl
  · exact hl
  · simp [Array.getElem?_eq_none hl] at h
theorem ownb_on {W W' : World} {g : Nat} {zs : List Int} (h : OwnB W g zs) (b : Below W.heap.size W W') : OwnB W' g zs := by
  unfold OwnB at *
  rw [b.block g (ownb_lt h)]; exact h
theorem fr3_on {W W' : World} {g : Nat} {v0 v1 v2 : Value} (h : FR3 W g v0 v1 v2) (b : Below W.heap.size W W') : FR3 W' g v0 v1 v2 := h.below b h.lt
theorem bel_on {w W W' : World} (h : Below w.heap.size w W) (b : Below W.heap.size W W') : Below w.heap.size w W' := h.trans (b.mono h.size)
theorem NeS.on {w : World} {bx bv g : Nat} {neg : Bool} {t : ByteArray} {e : Int} {vn : Bool} {u : ByteArray} {f : Int} {n : Nat} {G : Int} {W W' : World} (h : NeS w bx bv g neg t e vn u f n G W) (b : Below W.heap.size W W') : NeS w bx bv g neg t e vn u f n G W' :=
  ⟨fr3_on h.x b, fr3_on h.v b, ownb_on h.m b, bel_on h.b b⟩
end Go.Proofs.YtjkefcikepnbpaaGreatDoor

namespace Go.Proofs.YtjkefcikepnbpaaGreatDoor
open Go Go.RowKit Go.Deep

/-- Its block: nothing of it is frozen. -/
structure RowM (base : Nat) (w : World) (g cap : Nat) (zs : List Int) : Prop where
  blk : ∃ (es : List Int) (lo hi : Nat), w.heap[g]? = some (.cells (es.map (Value.int .u8)).toArray 5 (lo, hi)) ∧ (es.length ≤ lo ∨ hi = 0) ∧ es.length = cap ∧ zs.length ≤ cap ∧ es.take zs.length = zs
  base : base ≤ g
theorem RowM.cell {base : Nat} {w : World} {g cap : Nat} {zs : List Int} (h : RowM base w g cap zs) {i : Nat} (hi : i < zs.length) : w.cell? ⟨g, i, none⟩ = some (.int .u8 (zs.getD i 0)) := by
  obtain ⟨es, lo, hj, hb, _, hc, hl, ht⟩ := h.blk
  have : i < es.length := by omega
  simp only [World.cell?, hb]
  rw [← ht, Nm.getD_take, if_pos hi]
  simp [List.getD, this]
theorem RowM.has {base : Nat} {w : World} {g cap : Nat} {zs : List Int} (h : RowM base w g cap zs) {i : Nat} (hi : i < cap) : ∃ c, w.cell? ⟨g, i, none⟩ = some c := by
  obtain ⟨es, lo, hj, hb, _, hc, hl, ht⟩ := h.blk
  have : i < es.length := by omega
  exact ⟨.int .u8 (es[i]), by simp [World.cell?, hb, this]⟩
theorem RowM.free {base : Nat} {w : World} {g cap : Nat} {zs : List Int} (h : RowM base w g cap zs) {i : Nat} (hi : i < cap) : w.frozen? ⟨g, i, none⟩ = false := by
  obtain ⟨es, lo, hj, hb, hf, hc, hl, ht⟩ := h.blk
  simp only [World.frozen?, hb]
  rcases hf with hf | hf
  · have : ¬ lo ≤ i := by omega
    simp [this]
  · have : ¬ i < hj := by omega
    simp [this]
theorem RowM.lt {base : Nat} {w : World} {g cap : Nat} {zs : List Int} (h : RowM base w g cap zs) : g < w.heap.size := by
  obtain ⟨es, lo, hj, hb, _⟩ := h.blk
  rcases Nat.lt_or_ge g w.heap.size with hl | hl
  · exact hl
  · simp [Array.getElem?_eq_none hl] at hb
theorem RowM.on {base : Nat} {w w' : World} {g cap : Nat} {zs : List Int} (h : RowM base w g cap zs) (b : Below w.heap.size w w') : RowM base w' g cap zs :=
  ⟨by rw [b.block g h.lt]; exact h.blk, h.base⟩
theorem RowM.set {base : Nat} {w : World} {g cap : Nat} {zs : List Int} (h : RowM base w g cap zs) (i : Nat) (v : Int) : RowM base (w.setCell ⟨g, i, none⟩ (.int .u8 v)) g cap (zs.set i v) := by
  obtain ⟨es, lo, hj, hb, hf, hc, hl, ht⟩ := h.blk
  refine ⟨⟨es.set i v, lo, hj, ?_, by rw [List.length_set]; exact hf, by rw [List.length_set]; exact hc, by rw [List.length_set]; exact hl, by rw [List.length_set, List.take_set, ht]⟩, h.base⟩
  simp [World.setCell, Array.getElem?_modify, hb, List.map_set]
theorem RowM.more {base : Nat} {w : World} {g cap : Nat} {zs : List Int} (h : RowM base w g cap zs) (v : Int) (hr : zs.length < cap) : RowM base (w.setCell ⟨g, zs.length, none⟩ (.int .u8 v)) g cap (zs ++ [v]) := by
  obtain ⟨es, lo, hj, hb, hf, hc, hl, ht⟩ := h.blk
  refine ⟨⟨es.set zs.length v, lo, hj, ?_, by rw [List.length_set]; exact hf, by rw [List.length_set]; exact hc, by simp; omega, ?_⟩, h.base⟩
  · simp [World.setCell, Array.getElem?_modify, hb, List.map_set]
  · rw [List.length_append, List.length_singleton, List.take_add_one]
    rw [List.take_set, List.getElem?_set_self (by omega), List.set_eq_of_length_le (by simp; omega), ht]
    rfl
theorem RowM.str {base : Nat} {w : World} {g cap : Nat} {zs : List Int} (h : RowM base w g cap zs) (hd : Digs zs) : ∃ t, Str t zs ∧ (convert 38 9 (.slice (some ⟨g, 0, none⟩) zs.length cap)).run Tryz.prog w = .ok (.string t) w := by
  refine ⟨strOfNums zs, Str.of_nums (fun x hx => by have := hd x hx; omega), run_convert_bytes_arg (P := Tryz.prog) w 38 5 Tryz.underlying38 Tryz.underlying5 g 0 zs.length cap zs rfl (fun i hi => ?_) 9 Tryz.underlying9⟩
  rw [Nat.zero_add, h.cell hi]

theorem linfo8 : (Tryz.prog.info? 5).map (fun i => (i.zero, i.size, i.bytes)) = some (some (.int .u8 0), 1, 1) := by kernel_rfl
theorem store_one {P : Program} {w : World} {g o : Nat} {v c : Value} (hc : w.cell? ⟨g, o, none⟩ = some c) (hf : w.frozen? ⟨g, o, none⟩ = false) (h1 : v.oneCell' = true) : (storeCells ⟨g, o, none⟩ [v] 0).run P w = .ok () (w.setCell ⟨g, o, none⟩ v) := by
  have hadd : (⟨g, o, none⟩ : Addr).add 0 = ⟨g, o, none⟩ := by simp [Addr.add]
  have hst : (store ((⟨g, o, none⟩ : Addr).add 0) v).run P w = .ok () (w.setCell ⟨g, o, none⟩ v) := by
    rw [hadd, run_store P w _ v _ h1, hc]
    simp [hf]
  simp only [storeCells, Sem.run_bind, hst, Result.andThen_ok]
  rfl

set_option maxRecDepth 100000 in
/-- One byte more. -/
theorem RowM.push {base : Nat} {w : World} {g cap : Nat} {zs : List Int} (h : RowM base w g cap zs) (x : Int) (hn : zs.length ≤ 100000) (hb : base ≤ w.heap.size) :
    ∃ g' cap' w', (Builtin.append_ #[38, 38] 38 #[.slice (some ⟨g, 0, none⟩) zs.length cap, .slice (some ⟨w.heap.size, 0, none⟩) 1 1]).run Tryz.prog (w.alloc (.cells #[.int .u8 x] 5)) = .ok (.slice (some ⟨g', 0, none⟩) (zs.length + 1) cap') w' ∧
      RowM base w' g' cap' (zs ++ [x]) ∧ w.heap.size ≤ w'.heap.size ∧ Below base w w' ∧ (∀ j, j < w.heap.size → j ≠ g → w'.heap[j]? = w.heap[j]?) := by
  obtain ⟨i, hi, hz⟩ := Option.map_eq_some_iff.1 linfo8
  simp only [Prod.mk.injEq] at hz
  obtain ⟨z1, z2, z3⟩ := hz
  have bm : Below w.heap.size w (w.alloc (.cells #[.int .u8 x] 5)) := (Below.refl _ _).alloc (Nat.le_refl _) _
  have hs : (w.alloc (.cells #[.int .u8 x] 5)).heap.size = w.heap.size + 1 := World.size_alloc _ _
  have hcell : (w.alloc (.cells #[.int .u8 x] 5)).cell? ⟨w.heap.size, 0, none⟩ = some (.int .u8 x) := by
    have q := heap_alloc_new w (.cells #[.int .u8 x] 5)
    rw [World.cell?]
    simp only [q]
    rfl
  have h' := h.on bm
  generalize w.alloc (.cells #[.int .u8 x] 5) = wa at *
  have hnews : ∀ j u, [Value.int .u8 x][j]? = some u → wa.cell? ((⟨w.heap.size, 0, none⟩ : Addr).add j) = some u := fun j u hu => by
    cases j with
    | zero => simp at hu; subst hu; rw [Go.WideShapes.add_plain]; exact hcell
    | succ j => simp at hu
  rcases Nat.lt_or_ge zs.length cap with hr | hr
  · obtain ⟨c, hc⟩ := h'.has hr
    have hst := store_one (P := Tryz.prog) (v := .int .u8 x) hc (h'.free hr) rfl
    have hf := run_firstCells_some (P := Tryz.prog) wa i.size 1 ⟨w.heap.size, 0, none⟩ 1 1 [.int .u8 x] (by rw [z2]; rfl) hnews
    have hroom : zs.length + 1 ≤ cap := hr
    rw [z2] at hf
    have B := (bm.mono hb).setCell (p := ⟨g, zs.length, none⟩) h.base (.int .u8 x)
    refine ⟨g, cap, _, ?_, h'.more x hr, ?_, ?_, ?_⟩
    · simp [Builtin.append_, run_underlying Tryz.underlying38, sizeOf, typeInfo, hi, Builtin.lenOf, hroom, hf, Addr.add_lit, hst, z2]
    · exact B.size
    · exact B
    · intro j hj hne
      have : (wa.setCell ⟨g, zs.length, none⟩ (.int .u8 x)).heap[j]? = wa.heap[j]? := by
        simp only [World.setCell, Array.getElem?_modify]
        rw [if_neg (by intro q; exact hne q.symm)]
      rw [this, bm.block j hj]
  · obtain ⟨es, lo, hj, hbk, hfz, hc, hl, ht⟩ := h'.blk
    have holds : ∀ j v, (zs.map (Value.int .u8))[j]? = some v → wa.cell? ((⟨g, 0, none⟩ : Addr).add j) = some v := fun j v hv => by
      rw [Go.WideShapes.add_plain]
      have jl : j < zs.length := by have := (List.getElem?_eq_some_iff.1 hv).1; simpa using this
      rw [Nat.zero_add, h'.cell jl]
      rw [List.getElem?_map, List.getElem?_eq_getElem jl] at hv
      simp [List.getD, jl] at hv ⊢
      exact hv
    have run := run_append_grow (P := Tryz.prog) wa 38 38 5 i (.int .u8 0) Tryz.underlying38 hi z1 ⟨g, 0, none⟩ zs.length cap (zs.map (Value.int .u8)) (by rw [z2]; simp) holds ⟨w.heap.size, 0, none⟩ 1 1 [.int .u8 x] (by rw [z2]; rfl) hnews (by omega) (by omega)
      (growslice_fits (by omega) (by rw [z3]; omega))
    have ge := grownCap_ge wa (zs.length + 1) cap 5
    have bg : Below base w (wa.drew.alloc (.cells ((zs.map (Value.int .u8)).toArray ++ [Value.int .u8 x].toArray ++ Builtin.zeroCells (Value.int .u8 0).cells (grownCap wa (zs.length + 1) cap 5 - (zs.length + 1))) 5)) :=
      (bm.mono hb).trans ((Below.drew (Below.refl _ _)).alloc (by show base ≤ wa.heap.size; omega) _)
    refine ⟨_, _, _, run, ⟨⟨zs ++ [x] ++ List.replicate (grownCap wa (zs.length + 1) cap 5 - (zs.length + 1)) 0, 0, 0, ?_, .inr rfl, ?_, ?_, ?_⟩, by omega⟩, ?_, bg, ?_⟩
    · show (wa.heap.push _)[wa.heap.size]? = _
      rw [Array.getElem?_push, if_pos rfl]
      congr 2
      apply Array.toList_inj.1
      simp [Builtin.zeroCells, Value.cells]
      apply List.ext_getElem
      · simp
      · intro i h1 h2
        simp [Nat.mod_one]
    · simp; omega
    · simp; omega
    · rw [List.take_append_of_le_length (Nat.le_refl _), List.take_length]
    · show w.heap.size ≤ (wa.heap.push _).size
      rw [Array.size_push]; omega
    · intro j hj' _
      show (wa.heap.push _)[j]? = _
      rw [Array.getElem?_push, if_neg (by omega)]
      exact bm.block j hj'
end Go.Proofs.YtjkefcikepnbpaaGreatDoor

namespace Go.Proofs.YtjkefcikepnbpaaGreatDoor
open Go Go.RowKit Go.Deep

theorem wpList_append_ng {ty : TypeId} {ops : Array Oper} {rest : List Oper} {o : Oper} {a : Act} {Q : Exit → Act → World → Prop} (hgd : o.guard = none) (s x : Operand)
    (ho : o.op = .call { callee := .builtin .append, args := #[s, x], argTypes := #[ty, ty] }) {v y v' : Value} {w w' : World} (hr : (Builtin.append_ #[ty, ty] o.type #[v, y]).run Tryz.prog w = .ok v' w') (hs : a.eval s = v) (hx : a.eval x = y)
    (h : wpList Tryz.prog ops Q rest (a.put o.dst v') w') : wpList Tryz.prog ops Q (o :: rest) a w := by
  refine wpList_plain hgd fun K hK => ?_
  unfold Oper.wp execOp
  simp only [ho, resolve, invoke, builtin, Sem.run_bind, Sem.run_pure, Result.andThen_ok, List.map_toArray, List.map_cons, List.map_nil, hs, hx, hr]
  exact hK _ _ h


theorem FR3.keep {w w' : World} {b : Nat} {v0 v1 v2 : Value} (h : FR3 w b v0 v1 v2) (k : w'.heap[b]? = w.heap[b]?) : FR3 w' b v0 v1 v2 := by rw [FR3, k]; exact h
theorem RowM.len {base : Nat} {w : World} {g cap : Nat} {zs : List Int} (h : RowM base w g cap zs) : zs.length ≤ cap := by
  obtain ⟨_, _, _, _, _, _, hl, _⟩ := h.blk
  exact hl
theorem bel_on2 {w W W' : World} {B : Nat} (h : Below w.heap.size w W) (b : Below B W W') (hB : w.heap.size ≤ B) : Below w.heap.size w W' := h.trans (b.mono hB)
structure NgS (w : World) (neg : Bool) (s : ByteArray) (e : Int) (g cp : Nat) (zs : List Int) (W : World) : Prop where
  row : RowM (w.heap.size + 2) W g cp zs
  x : FR3 W w.heap.size (.bool neg) (.string s) (.int .i64 e)
  r : FR3 W (w.heap.size + 1) (.bool false) (.string ⟨#[]⟩) (.int .i64 0)
  b : Below w.heap.size w W
  big : w.heap.size + 2 ≤ W.heap.size
theorem NgS.set {w : World} {neg : Bool} {s : ByteArray} {e : Int} {g cp : Nat} {zs : List Int} {W : World} (h : NgS w neg s e g cp zs W) (i : Nat) (v : Int) : NgS w neg s e g cp (zs.set i v) (W.setCell ⟨g, i, none⟩ (.int .u8 v)) := by
  have gb := h.row.base
  have B := h.b.setCell (p := ⟨g, i, none⟩) (by show w.heap.size ≤ g; omega) (.int .u8 v)
  refine ⟨h.row.set i v, h.x.far (by omega), h.r.far (by omega), B, ?_⟩
  have := h.big
  have : (W.setCell ⟨g, i, none⟩ (.int .u8 v)).heap.size = W.heap.size := by simp [World.setCell]
  omega
theorem Sh.Stp.zeros {xs : List Int} (h : Digs xs) (z : Nat) (q : Int) : Sh.Stp (dv xs * 10 ^ z + q) q (xs.length + 1 + z) (xs.length + z) (48 :: xs ++ List.replicate z 48) := by
  refine ⟨by simp; omega, fun d hd => ?_, rfl, by omega, ?_⟩
  · rcases List.mem_append.1 hd with c | c
    · rcases List.mem_cons.1 c with z | z
      · omega
      · exact h d z
    · have := List.eq_of_mem_replicate c
      omega
  · rw [dv_append, dv_cons, dv_zeros, List.length_replicate, show xs.length + 1 + z - 1 - (xs.length + z) = 0 by omega]
    simp

set_option maxRecDepth 100000 in
set_option maxHeartbeats 8000000 in
theorem near_gen (neg : Bool) (s : ByteArray) (xs : List Int) (e at_ : Int) (z : Nat) (up : Bool) (w : World) (hs : Str s xs) (hn : Fx.Nml xs) (hl : xs.length ≤ 2000) (hz : e - at_ = (z : Int)) (zl : z ≤ 2000) (a0 : -5000 ≤ at_) (a1 : at_ ≤ 5000) :
    Calls Tryz.prog 20 #[.agg #[.bool neg, .string s, .int .i64 e], .int .i64 at_, .bool up] w fun r w' => NearTold neg (dv xs * 10 ^ z + (if up = true then 1 else -1)) (xs.length + 1 + z) at_ w r w' := by
  have SZ : Str (⟨#[48]⟩ ++ s) (48 :: xs) := lstr_app (a := ⟨#[48]⟩) (xs := [48]) rfl hs
  have hsz := hs.size
  have z1 : (⟨#[48]⟩ ++ s : ByteArray).size = xs.length + 1 := by rw [SZ.size]; simp
  obtain ⟨wA, hwA⟩ : ∃ wA, (w.alloc (.cells #[.bool neg, .string s, .int .i64 e] 25)).alloc (.cells #[.bool false, .string ⟨#[]⟩, .int .i64 0] 25) = wA := ⟨_, rfl⟩
  have b1 := alloc_b w (.cells #[.bool neg, .string s, .int .i64 e] 25)
  have b2 := alloc_b (w.alloc (.cells #[.bool neg, .string s, .int .i64 e] 25)) (.cells #[.bool false, .string ⟨#[]⟩, .int .i64 0] 25)
  have s1 : (w.alloc (.cells #[.bool neg, .string s, .int .i64 e] 25)).heap.size = w.heap.size + 1 := Array.size_push ..
  have F1 := (FR3.new w (.bool neg) (.string s) (.int .i64 e)).below b2 (by rw [s1]; omega)
  have F2 := FR3.new (w.alloc (.cells #[.bool neg, .string s, .int .i64 e] 25)) (.bool false) (.string ⟨#[]⟩) (.int .i64 0)
  have s2 : wA.heap.size = w.heap.size + 2 := by rw [← hwA]; exact (Array.size_push ..).trans (by rw [s1])
  have BA := b1.trans (b2.mono b1.size)
  rw [hwA] at F1 F2 BA
  rw [s1] at F2
  have CV := run_bytes_of_string (P := Tryz.prog) wA 9 38 5 (⟨#[48]⟩ ++ s) Tryz.underlying9 Tryz.underlying38 Tryz.underlying5
  obtain ⟨cap, hcap⟩ : ∃ cap, grownCap wA (⟨#[48]⟩ ++ s : ByteArray).size 0 5 = cap := ⟨_, rfl⟩
  have cge := grownCap_ge wA (⟨#[48]⟩ ++ s : ByteArray).size 0 5
  rw [hcap] at CV cge
  have OF := bytes_ownL SZ wA cap
  have BW : Below wA.heap.size wA (wA.drew.alloc (.cells (bytesRow (⟨#[48]⟩ ++ s) cap) 5 ((bytesRow (⟨#[48]⟩ ++ s) cap).size, (bytesRow (⟨#[48]⟩ ++ s) cap).size + 1))) := (below_drewN (Below.refl _ _) 1).alloc (Nat.le_refl _) _
  obtain ⟨w1, hw1⟩ : ∃ w1, wA.drew.alloc (.cells (bytesRow (⟨#[48]⟩ ++ s) cap) 5 ((bytesRow (⟨#[48]⟩ ++ s) cap).size, (bytesRow (⟨#[48]⟩ ++ s) cap).size + 1)) = w1 := ⟨_, rfl⟩
  rw [hw1] at CV OF BW
  rw [z1] at CV cge
  rw [s2] at CV OF BW
  have le : (48 :: xs).length = xs.length + 1 := rfl
  have I0 : Hid (NgS w neg s e (w.heap.size + 2) cap (48 :: xs) w1) := by
    obtain ⟨lo, hi, ob, ol⟩ := OF
    refine ⟨⟨⟨_, lo, hi, ob, .inl ol, ?_, by rw [le]; exact cge, ?_⟩, Nat.le_refl _⟩, F1.below BW (by omega), F2.below BW (by omega), BA.trans (BW.mono (by omega)), by have := BW.size; omega⟩
    · rw [List.length_append, List.length_replicate, le]; omega
    · rw [List.take_append_of_le_length (Nat.le_refl _), List.take_length]
  have S0 : ∀ q : Int, Sh.Stp (dv xs * 10 ^ z + q) q (xs.length + 1 + z) (xs.length + z) (48 :: xs ++ List.replicate z 48) := fun q => Sh.Stp.zeros hn.digs z q
  have hp : 0 < dv xs * 10 ^ z := Int.mul_pos (Sh.nml_pos hn) (Fx.p_pos z)
  obtain ⟨n1, hn1⟩ : ∃ n1, xs.length + 1 = n1 := ⟨_, rfl⟩
  obtain ⟨K, hK⟩ : ∃ K, xs.length + z = K := ⟨_, rfl⟩
  rw [hn1] at S0 CV z1 cge ⊢
  rw [hK] at S0
  have N1 : Hid (n1 = xs.length + 1) := hn1.symm
  have NK : Hid (((n1 + z : Nat) : Int) = (K : Int) + 1) := by rw [Hid]; omega
  have EZ : Hid (e = at_ + (z : Int) ∧ z ≤ 2000 ∧ -5000 ≤ at_ ∧ at_ ≤ 5000) := ⟨by omega, zl, a0, a1⟩
  have n1b : (n1 : Int) ≤ 2001 := by omega
  have Kb : (K : Int) ≤ 4000 := by omega
  obtain ⟨⟨c0, c1, c2⟩, _⟩ := F1.cells
  have zb : ¬ 9223372036854775807 < 1 + s.size := by omega
  have szi : (s.size : Int) ≤ 2000 := by omega
  have jb : ∀ j, j < z → n1 + j ≤ 100000 := fun j _ => by omega
  clear hsz b1 b2 s1 F1 F2 OF le hs hn hl BA BW SZ s2 hw1 hcap hK hz zl a0 a1 cge hn1
  generalize hD : dv xs * 10 ^ z = D at *
  have LAST : Hid (∀ (T : Int) (wr : World) (zs : List Int) (g cp : Nat), NgS w neg s e g cp zs wr → dv zs = T → Digs zs → zs.length = n1 + z → ∃ t, (convert 38 9 (.slice (some ⟨g, 0, none⟩) (n1 + z) cp)).run Tryz.prog wr = .ok (.string t) wr ∧ ∀ w', Below w.heap.size w w' → NearTold neg T (n1 + z) at_ w (.returned (.agg #[.bool neg, .string t, .int .i64 at_])) w') := by
    intro T wr zs g cp h1 h2 h3 h4
    obtain ⟨t, ht, cv⟩ := h1.row.str h3
    rw [h4] at cv
    exact ⟨t, cv, fun w' hb => ⟨t, zs, rfl, ht, h3, h4, h2, hb⟩⟩
  clear hD
  cases up with
  | true =>
    have SU := hid (S0 1)
    clear S0 hp
    go_enter Tryz.func20, Tryz.ntmps20
    go_upto_region 1 with fail
    clear hwA
    go_wp2_with fail
    go_loopg [7, 8] z (fun q rv iv wr => ∃ (j g cp : Nat), Hid (j + q = z) ∧ rv = .slice (some ⟨g, 0, none⟩) (n1 + j) cp ∧ iv = .int .i64 (at_ + (j : Int)) ∧ Hid (NgS w neg s e g cp (48 :: xs ++ List.replicate j 48) wr))
    case atStart => exact ⟨0, _, _, by rw [Hid, Nat.zero_add], rfl, by rw [Int.natCast_zero, Int.add_zero], by rw [List.replicate_zero, List.append_nil]; exact I0⟩
    case round =>
      obtain ⟨j, g, cp, hj, rfl, rfl, I⟩ := hrel
      clear I0
      obtain ⟨⟨d0, d1, d2⟩, _⟩ := I.out.x.cells
      by_cases jz : j < z
      · have jl : at_ + (j : Int) < e := by have := EZ.out; omega
        have len : (48 :: xs ++ List.replicate j 48).length = n1 + j := by have := N1.out; simp; omega
        have PU := I.out.row.push 48 (by rw [len]; have := EZ.out; omega) I.out.big
        rw [len] at PU
        obtain ⟨g', cp', w', ap, rr, sz, bl, kp⟩ := PU
        have AP := hid ap
        have NX : Hid (NgS w neg s e g' cp' (48 :: xs ++ List.replicate (j + 1) 48) w') := by
          refine ⟨?_, I.out.x.keep (kp _ I.out.x.lt (by have := I.out.row.base; omega)), I.out.r.keep (kp _ I.out.r.lt (by have := I.out.row.base; omega)), bel_on2 I.out.b bl (by omega), Nat.le_trans I.out.big sz⟩
          rw [List.replicate_succ', ← List.append_assoc]
          exact rr
        have wj : IntKind.i64.wrap (at_ + (j : Int) + 1) = at_ + (j : Int) + 1 := by rw [IntKind.wrap_i64]; have := EZ.out; omega
        clear ap rr sz bl kp I len
        go_wp2_with (at_builtin; refine wpList_append_ng rfl _ _ rfl AP.out (by rfl) (by rfl) ?_; clear AP)
        go_roundg (z - (j + 1))
        case measure => have := hj.out; omega
        case rel => exact ⟨j + 1, g', cp', by rw [Hid]; have := hj.out; omega, by rw [Nat.add_assoc], by rw [Int.natCast_add, Int.add_assoc]; rfl, NX⟩
      · obtain rfl : j = z := by have := hj.out; omega
        have jl : ¬ at_ + (j : Int) < e := by have := EZ.out; omega
        have ci : ((n1 + j : Nat) : Int) = (K : Int) + 1 := NK.out
        have wk : IntKind.i64.wrap ((K : Int) + 1 - 1) = (K : Int) := by rw [IntKind.wrap_i64]; omega
        obtain ⟨N, hN⟩ : ∃ N, n1 + j = N := ⟨_, rfl⟩
        rw [hN] at SU LAST ci ⊢
        have CI := hid ci
        have HNn := hid hN
        clear hN hj
        go_wp2_with fail
        go_loopg [9] K (fun k kv wr => kv = .int .i64 (k : Int) ∧ Hid (∃ zs, NgS w neg s e g cp zs wr ∧ Sh.Stp (D + 1) 1 N k zs))
        case atStart => exact ⟨rfl, _, I.out, SU.out⟩
        case round =>
          obtain ⟨rfl, J⟩ := hrel
          obtain ⟨zs, R, S⟩ := J.out
          clear J I d0 d1 d2
          have gN : gk < N := S.kN
          have gi : (gk : Int) < (N : Int) := by omega
          have zl : gk < zs.length := by rw [S.len]; exact gN
          have cl : gk < cp := by have := R.row.len; omega
          have cz := R.row.cell zl
          have fz := R.row.free cl
          have bz := Sh.digs_get S.digs zl
          by_cases hc : 0 < gk ∧ zs.getD gk 0 = 57
          · have g0 : (0 : Int) < (gk : Int) := by omega
            have wg : IntKind.i64.wrap ((gk : Int) - 1) = (gk : Int) - 1 := by rw [IntKind.wrap_i64]; have := CI.out; omega
            have NX : Hid (∃ zs', NgS w neg s e g cp zs' (wr.setCell ⟨g, gk, none⟩ (.int .u8 48)) ∧ Sh.Stp (D + 1) 1 N (gk - 1) zs') := ⟨_, R.set gk 48, S.on hc.1 (by omega) (by rw [hc.2]; omega)⟩
            rw [hc.2] at cz
            have gk1 : Hid (0 < gk) := hc.1
            clear R S bz hc zl cl
            go_wp2_with fail
            go_roundg (gk - 1)
            case measure => have := gk1.out; omega
            case rel => exact ⟨by rw [show ((gk - 1 : Nat) : Int) = (gk : Int) - 1 by have := gk1.out; omega], NX.out⟩
          · have hx : zs.getD gk 0 ≤ 56 := by
              rcases (show gk = 0 ∨ zs.getD gk 0 ≠ 57 by omega) with q | q
              · subst q; rw [S.head]; omega
              · omega
            have NX := S.last (v := zs.getD gk 0 + 1) (by omega) rfl
            have RX := R.set gk (zs.getD gk 0 + 1)
            obtain ⟨t, cv, FT⟩ := LAST.out _ _ _ _ _ RX NX.1 NX.2.1 NX.2.2
            have x0 := RX.x.cells.1.1
            have FT := hid FT
            have X1 := hid RX.r
            have B7 := hid RX.b
            clear R S NX RX zl cl
            rcases (show gk = 0 ∨ (0 < gk ∧ zs.getD gk 0 ≠ 57) by omega) with q | ⟨q1, q2⟩
            · subst q
              have e48 := hid hc
              clear hc
              generalize zs.getD 0 0 = X at *
              have wx : IntKind.u8.wrap (X + 1) = X + 1 := by rw [IntKind.wrap_u8]; omega
              obtain ⟨⟨y0, y1, y2⟩, v0, v1, v2⟩ := X1.out.cells
              go_wp2_with fail
              (try simp only [Exit.inBlock, Exit.then])
              refine bodyPost_ret (results_cell_row rfl _ _ (w.heap.size + 1) 25 _ (0, 0) _ rfl (X1.out.put _ _ _) Tryz.underlying25 rfl (by kernel_rfl)) rfl ?_
              rw [HNn.out]
              exact FT.out _ (fset3_below (b := w.heap.size + 1) B7.out (by omega))
            · have q3 : (zs.getD gk 0 == 57) = false := by simpa using q2
              have g0 : (0 : Int) < (gk : Int) := by omega
              clear hc q1
              generalize zs.getD gk 0 = X at *
              have wx : IntKind.u8.wrap (X + 1) = X + 1 := by rw [IntKind.wrap_u8]; omega
              obtain ⟨⟨y0, y1, y2⟩, v0, v1, v2⟩ := X1.out.cells
              go_wp2_with fail
              (try simp only [Exit.inBlock, Exit.then])
              refine bodyPost_ret (results_cell_row rfl _ _ (w.heap.size + 1) 25 _ (0, 0) _ rfl (X1.out.put _ _ _) Tryz.underlying25 rfl (by kernel_rfl)) rfl ?_
              rw [HNn.out]
              exact FT.out _ (fset3_below (b := w.heap.size + 1) B7.out (by omega))
  | false =>
    have SU := hid (S0 (-1))
    have HP := hid hp
    clear S0 hp
    go_enter Tryz.func20, Tryz.ntmps20
    go_upto_region 1 with fail
    clear hwA
    go_wp2_with fail
    go_loopg [7, 8] z (fun q rv iv wr => ∃ (j g cp : Nat), Hid (j + q = z) ∧ rv = .slice (some ⟨g, 0, none⟩) (n1 + j) cp ∧ iv = .int .i64 (at_ + (j : Int)) ∧ Hid (NgS w neg s e g cp (48 :: xs ++ List.replicate j 48) wr))
    case atStart => exact ⟨0, _, _, by rw [Hid, Nat.zero_add], rfl, by rw [Int.natCast_zero, Int.add_zero], by rw [List.replicate_zero, List.append_nil]; exact I0⟩
    case round =>
      obtain ⟨j, g, cp, hj, rfl, rfl, I⟩ := hrel
      clear I0
      obtain ⟨⟨d0, d1, d2⟩, _⟩ := I.out.x.cells
      by_cases jz : j < z
      · have jl : at_ + (j : Int) < e := by have := EZ.out; omega
        have len : (48 :: xs ++ List.replicate j 48).length = n1 + j := by have := N1.out; simp; omega
        have PU := I.out.row.push 48 (by rw [len]; have := EZ.out; omega) I.out.big
        rw [len] at PU
        obtain ⟨g', cp', w', ap, rr, sz, bl, kp⟩ := PU
        have AP := hid ap
        have NX : Hid (NgS w neg s e g' cp' (48 :: xs ++ List.replicate (j + 1) 48) w') := by
          refine ⟨?_, I.out.x.keep (kp _ I.out.x.lt (by have := I.out.row.base; omega)), I.out.r.keep (kp _ I.out.r.lt (by have := I.out.row.base; omega)), bel_on2 I.out.b bl (by omega), Nat.le_trans I.out.big sz⟩
          rw [List.replicate_succ', ← List.append_assoc]
          exact rr
        have wj : IntKind.i64.wrap (at_ + (j : Int) + 1) = at_ + (j : Int) + 1 := by rw [IntKind.wrap_i64]; have := EZ.out; omega
        clear ap rr sz bl kp I len
        go_wp2_with (at_builtin; refine wpList_append_ng rfl _ _ rfl AP.out (by rfl) (by rfl) ?_; clear AP)
        go_roundg (z - (j + 1))
        case measure => have := hj.out; omega
        case rel => exact ⟨j + 1, g', cp', by rw [Hid]; have := hj.out; omega, by rw [Nat.add_assoc], by rw [Int.natCast_add, Int.add_assoc]; rfl, NX⟩
      · obtain rfl : j = z := by have := hj.out; omega
        have jl : ¬ at_ + (j : Int) < e := by have := EZ.out; omega
        have ci : ((n1 + j : Nat) : Int) = (K : Int) + 1 := NK.out
        have wk : IntKind.i64.wrap ((K : Int) + 1 - 1) = (K : Int) := by rw [IntKind.wrap_i64]; omega
        obtain ⟨N, hN⟩ : ∃ N, n1 + j = N := ⟨_, rfl⟩
        rw [hN] at SU LAST ci ⊢
        have CI := hid ci
        have HNn := hid hN
        clear hN hj
        go_wp2_with fail
        go_loopg [9] K (fun k kv wr => kv = .int .i64 (k : Int) ∧ Hid (∃ zs, NgS w neg s e g cp zs wr ∧ Sh.Stp (D + -1) (-1) N k zs))
        case atStart => exact ⟨rfl, _, I.out, SU.out⟩
        case round =>
          obtain ⟨rfl, J⟩ := hrel
          obtain ⟨zs, R, S⟩ := J.out
          clear J I d0 d1 d2
          have gN : gk < N := S.kN
          have gi : (gk : Int) < (N : Int) := by omega
          have zl : gk < zs.length := by rw [S.len]; exact gN
          have cl : gk < cp := by have := R.row.len; omega
          have cz := R.row.cell zl
          have fz := R.row.free cl
          have bz := Sh.digs_get S.digs zl
          by_cases hc : 0 < gk ∧ zs.getD gk 0 = 48
          · have g0 : (0 : Int) < (gk : Int) := by omega
            have wg : IntKind.i64.wrap ((gk : Int) - 1) = (gk : Int) - 1 := by rw [IntKind.wrap_i64]; have := CI.out; omega
            have NX : Hid (∃ zs', NgS w neg s e g cp zs' (wr.setCell ⟨g, gk, none⟩ (.int .u8 57)) ∧ Sh.Stp (D + -1) (-1) N (gk - 1) zs') := ⟨_, R.set gk 57, S.on hc.1 (by omega) (by rw [hc.2]; omega)⟩
            rw [hc.2] at cz
            have gk1 : Hid (0 < gk) := hc.1
            clear R S bz hc zl cl
            go_wp2_with fail
            go_roundg (gk - 1)
            case measure => have := gk1.out; omega
            case rel => exact ⟨by rw [show ((gk - 1 : Nat) : Int) = (gk : Int) - 1 by have := gk1.out; omega], NX.out⟩
          · have hx : 49 ≤ zs.getD gk 0 := S.low (by have := HP.out; omega) (by omega)
            have q2 : 0 < gk := by
              rcases Nat.eq_zero_or_pos gk with q | q
              · subst q; rw [S.head] at hx; omega
              · exact q
            have NX := S.last (v := zs.getD gk 0 - 1) (by omega) (by omega)
            have RX := R.set gk (zs.getD gk 0 - 1)
            obtain ⟨t, cv, FT⟩ := LAST.out _ _ _ _ _ RX NX.1 NX.2.1 NX.2.2
            have x0 := RX.x.cells.1.1
            have FT := hid FT
            have X1 := hid RX.r
            have B7 := hid RX.b
            clear R S NX RX zl cl
            have q3 : (zs.getD gk 0 == 48) = false := by simpa using (show zs.getD gk 0 ≠ 48 by omega)
            have g0 : (0 : Int) < (gk : Int) := by omega
            clear hc q2
            generalize zs.getD gk 0 = X at *
            have wx : IntKind.u8.wrap (X - 1) = X - 1 := by rw [IntKind.wrap_u8]; omega
            obtain ⟨⟨y0, y1, y2⟩, v0, v1, v2⟩ := X1.out.cells
            go_wp2_with fail
            (try simp only [Exit.inBlock, Exit.then])
            refine bodyPost_ret (results_cell_row rfl _ _ (w.heap.size + 1) 25 _ (0, 0) _ rfl (X1.out.put _ _ _) Tryz.underlying25 rfl (by kernel_rfl)) rfl ?_
            rw [HNn.out]
            exact FT.out _ (fset3_below (b := w.heap.size + 1) B7.out (by omega))
end Go.Proofs.YtjkefcikepnbpaaGreatDoor

namespace Go.Proofs.YtjkefcikepnbpaaGreatDoor
open Go Go.RowKit Go.Deep

theorem fr3_on' {W W' : World} {g : Nat} {v0 v1 v2 : Value} (h : FR3 W g v0 v1 v2) (b : Below W.heap.size W W') : FR3 W' g v0 v1 v2 := h.below b h.lt
theorem bel_on' {w W W' : World} (h : Below w.heap.size w W) (b : Below W.heap.size W W') : Below w.heap.size w W' := h.trans (b.mono h.size)
theorem fr3_drew {w : World} {b : Nat} {v0 v1 v2 : Value} (h : FR3 w b v0 v1 v2) : w.drew.heap[b]? = some (.cells #[v0, v1, v2] 25 (0, 0)) := h
theorem results_rr_tt {P : Program} {fn : Func} {p q u v : Tmp} {ty : TypeId} (h : fn.results = #[.cell p ty, .cell q ty, .tmp u, .tmp v]) (tmps : Array Value) (w : World) (g k : Nat) (t : TypeId) (cs ds : Array Value) (fr : Nat × Nat) (d : TypeDesc)
    (hp : tmps.getD p undef = .pointer (some ⟨g, 0, none⟩)) (hq : tmps.getD q undef = .pointer (some ⟨k, 0, none⟩)) (hg : w.heap[g]? = some (.cells cs t fr)) (hk : w.heap[k]? = some (.cells ds t fr))
    (hu : P.underlying ty = some d) (hd : (match d with | .struct _ | .array _ _ => true | _ => false) = true) (hi : (P.info? ty).map (·.size) = some cs.size) (hj : (P.info? ty).map (·.size) = some ds.size) :
    (results fn tmps).run P w = .ok (.tuple #[.agg cs, .agg ds, tmps.getD u undef, tmps.getD v undef]) w := by
  have hp' : tmps[p]?.getD undef = .pointer (some ⟨g, 0, none⟩) := by simpa using hp
  have hq' : tmps[q]?.getD undef = .pointer (some ⟨k, 0, none⟩) := by simpa using hq
  simp [results, h, hp', hq', asAddr, run_loadVar_row w g t ty cs fr d hg hu hd hi, run_loadVar_row w k t ty ds fr d hk hu hd hj]

set_option maxRecDepth 100000 in
set_option maxHeartbeats 2000000 in
theorem zbnd_inf (d : Int) (w : World) (h0 : 0 ≤ d) (h1 : d < 18446744073709551616) (hf : ¬ d % 9223372036854775808 < 9218868437227405312) :
    Calls Tryz.prog 18 #[.int .u64 d] w fun e w' => e = .returned (.tuple #[.agg #[.bool false, .string ⟨#[]⟩, .int .i64 0], .agg #[.bool false, .string ⟨#[]⟩, .int .i64 0], .bool false, .int .i64 5]) ∧ Below w.heap.size w w' := by
  have FN := hid (fun wx : World => zfinite_any d wx h0 h1)
  rw [Sh.fnt_iff, decide_eq_false hf] at FN
  have b1 := alloc_b w (.cells #[.bool false, .string ⟨#[]⟩, .int .i64 0] 25)
  have b2 := alloc_b (w.alloc (.cells #[.bool false, .string ⟨#[]⟩, .int .i64 0] 25)) (.cells #[.bool false, .string ⟨#[]⟩, .int .i64 0] 25)
  have s1 : (w.alloc (.cells #[.bool false, .string ⟨#[]⟩, .int .i64 0] 25)).heap.size = w.heap.size + 1 := Array.size_push ..
  have F1 := (FR3.new w (.bool false) (.string ⟨#[]⟩) (.int .i64 0)).below b2 (by rw [s1]; omega)
  have F2 := FR3.new (w.alloc (.cells #[.bool false, .string ⟨#[]⟩, .int .i64 0] 25)) (.bool false) (.string ⟨#[]⟩) (.int .i64 0)
  rw [s1] at F2
  have H1 := hid F1
  have H2 := hid F2
  have HB := hid (b1.trans (b2.mono b1.size))
  clear b1 b2 s1 F1 F2 h0 h1 hf
  go_enter Tryz.func18, Tryz.ntmps18
  go_wp2_with fail
  refine (FN.out _).mono ?_
  rintro e wz ⟨rfl, hz⟩
  subst hz
  go_wp2_with fail
  (try simp only [Exit.inBlock, Exit.then])
  refine bodyPost_ret (results_rr_tt rfl _ _ w.heap.size (w.heap.size + 1) 25 _ _ (0, 0) _ rfl rfl H1.out H2.out Tryz.underlying25 rfl (by kernel_rfl) (by kernel_rfl)) rfl ?_
  exact ⟨rfl, HB.out⟩

set_option maxRecDepth 100000 in
set_option maxHeartbeats 8000000 in
theorem zbnd_any (d : Int) (w : World) (h0 : 0 ≤ d) (h1 : d < 18446744073709551616) (hf : d % 9223372036854775808 < 9218868437227405312) :
    Calls Tryz.prog 18 #[.int .u64 d] w fun e w' => ∃ s2 s3, e = .returned (.tuple #[.agg #[.bool (Sh.dd (Sh.A (d % 9223372036854775808))).neg, .string s2, .int .i64 (Sh.dd (Sh.A (d % 9223372036854775808))).e], .agg #[.bool (Sh.dd (Sh.B (d % 9223372036854775808))).neg, .string s3, .int .i64 (Sh.dd (Sh.B (d % 9223372036854775808))).e], .bool (decide (d % 9223372036854775808 % 2 = 0)), .int .i64 0]) ∧ Hid (Str s2 (Sh.dd (Sh.A (d % 9223372036854775808))).ds ∧ Str s3 (Sh.dd (Sh.B (d % 9223372036854775808))).ds) ∧ Below w.heap.size w w' := by
  have FN := hid (fun wx : World => zfinite_any d wx h0 h1)
  have SP := hid (fun wx : World => zspan_any d wx h0 h1 hf)
  rw [Sh.fnt_iff, decide_eq_true hf] at FN
  have b1 := alloc_b w (.cells #[.bool false, .string ⟨#[]⟩, .int .i64 0] 25)
  have b2 := alloc_b (w.alloc (.cells #[.bool false, .string ⟨#[]⟩, .int .i64 0] 25)) (.cells #[.bool false, .string ⟨#[]⟩, .int .i64 0] 25)
  have s1 : (w.alloc (.cells #[.bool false, .string ⟨#[]⟩, .int .i64 0] 25)).heap.size = w.heap.size + 1 := Array.size_push ..
  have F1 := (FR3.new w (.bool false) (.string ⟨#[]⟩) (.int .i64 0)).below b2 (by rw [s1]; omega)
  have F2 := FR3.new (w.alloc (.cells #[.bool false, .string ⟨#[]⟩, .int .i64 0] 25)) (.bool false) (.string ⟨#[]⟩) (.int .i64 0)
  rw [s1] at F2
  have H0 := hid (And.intro F1 (And.intro F2 (b1.trans (b2.mono b1.size))))
  generalize d % 9223372036854775808 = a at *
  clear b1 b2 s1 F1 F2 h0 h1 hf
  go_enter Tryz.func18, Tryz.ntmps18
  go_wp2_with fail
  generalize (w.alloc (.cells #[.bool false, .string ⟨#[]⟩, .int .i64 0] 25)).alloc (.cells #[.bool false, .string ⟨#[]⟩, .int .i64 0] 25) = wA at *
  refine (FN.out _).mono ?_
  rintro e wz ⟨rfl, hz⟩
  rw [hz]
  clear hz FN
  go_wp2_with fail
  refine (SP.out _).mono ?_
  rintro e w1 ⟨v, rfl, ⟨s1, s2, s3, hv, g1, g2, g3⟩, B1⟩
  subst hv
  have HS := hid (And.intro g2 g3)
  clear g1 g2 g3 SP
  unfold spanV
  generalize (Sh.dd (Sh.V a)).neg = p0 at *
  generalize (Sh.dd (Sh.V a)).e = p2 at *
  generalize hAn : (Sh.dd (Sh.A a)).neg = a0 at *
  generalize hAe : (Sh.dd (Sh.A a)).e = a2 at *
  generalize hBn : (Sh.dd (Sh.B a)).neg = e0 at *
  generalize hBe : (Sh.dd (Sh.B a)).e = e2 at *
  generalize hcc : decide (a % 2 = 0) = c at *
  have c1 := alloc_b w1 (.cells #[.bool p0, .string s1, .int .i64 p2, .bool a0, .string s2, .int .i64 a2, .bool e0, .string s3, .int .i64 e2, .bool c] 51)
  have X0 := hid (And.intro (fr3_on' (fr3_on' H0.out.1 B1) c1) (And.intro (fr3_on' (fr3_on' H0.out.2.1 B1) c1) (And.intro (bel_on' (bel_on' H0.out.2.2 B1) c1) (heap_alloc_new w1 (.cells #[.bool p0, .string s1, .int .i64 p2, .bool a0, .string s2, .int .i64 a2, .bool e0, .string s3, .int .i64 e2, .bool c] 51)))))
  clear c1 B1 H0
  go_upto_region 4 with fail
  generalize w1.alloc (.cells #[.bool p0, .string s1, .int .i64 p2, .bool a0, .string s2, .int .i64 a2, .bool e0, .string s3, .int .i64 e2, .bool c] 51) = w2 at *
  have ne1 : w1.heap.size ≠ w.heap.size := fun q => by
    have z := X0.out.2.2.2
    rw [q] at z
    have y := X0.out.1
    rw [FR3] at y
    rw [y] at z
    exact absurd (congrArg (fun o : Option Obj => match o with | some (.cells c _ _) => c.size | _ => 0) z) (by simp)
  have ne2 : w1.heap.size ≠ w.heap.size + 1 := fun q => by
    have z := X0.out.2.2.2
    rw [q] at z
    have y := X0.out.2.1
    rw [FR3] at y
    rw [y] at z
    exact absurd (congrArg (fun o : Option Obj => match o with | some (.cells c _ _) => c.size | _ => 0) z) (by simp)
  generalize w1.heap.size = sb at *
  have SC : ∀ (i : Nat) (v : Value), #[Value.bool p0, .string s1, .int .i64 p2, .bool a0, .string s2, .int .i64 a2, .bool e0, .string s3, .int .i64 e2, .bool c][i]? = some v → w2.cell? ⟨sb, i, none⟩ = some v := fun i v hv => by
    have z := X0.out.2.2.2
    simp only [World.cell?, z]
    exact hv
  have c3 := SC 3 _ rfl
  have c4 := SC 4 _ rfl
  have c5 := SC 5 _ rfl
  have c6 := SC 6 _ rfl
  have c7 := SC 7 _ rfl
  have c8 := SC 8 _ rfl
  have c9 := SC 9 _ rfl
  obtain ⟨⟨r0, r1, r2⟩, f0, f1, f2⟩ := X0.out.1.cells
  obtain ⟨⟨q0, q1, q2⟩, k0, k1, k2⟩ := X0.out.2.1.cells
  have K1 : Hid (FR3 ((((((w2.setCell ⟨w.heap.size, 0, none⟩ (.bool a0)).setCell ⟨w.heap.size, 1, none⟩ (.string s2)).setCell ⟨w.heap.size, 2, none⟩ (.int .i64 a2)).setCell ⟨w.heap.size + 1, 0, none⟩ (.bool e0)).setCell ⟨w.heap.size + 1, 1, none⟩ (.string s3)).setCell ⟨w.heap.size + 1, 2, none⟩ (.int .i64 e2)) w.heap.size (.bool a0) (.string s2) (.int .i64 a2)) := FR3.far (FR3.far (FR3.far (FR3.put X0.out.1 _ _ _) (by omega)) (by omega)) (by omega)
  have K2 : Hid (FR3 ((((((w2.setCell ⟨w.heap.size, 0, none⟩ (.bool a0)).setCell ⟨w.heap.size, 1, none⟩ (.string s2)).setCell ⟨w.heap.size, 2, none⟩ (.int .i64 a2)).setCell ⟨w.heap.size + 1, 0, none⟩ (.bool e0)).setCell ⟨w.heap.size + 1, 1, none⟩ (.string s3)).setCell ⟨w.heap.size + 1, 2, none⟩ (.int .i64 e2)) (w.heap.size + 1) (.bool e0) (.string s3) (.int .i64 e2)) := FR3.put (FR3.far (FR3.far (FR3.far X0.out.2.1 (by omega)) (by omega)) (by omega)) _ _ _
  have K3 : Hid (Below w.heap.size w ((((((w2.setCell ⟨w.heap.size, 0, none⟩ (.bool a0)).setCell ⟨w.heap.size, 1, none⟩ (.string s2)).setCell ⟨w.heap.size, 2, none⟩ (.int .i64 a2)).setCell ⟨w.heap.size + 1, 0, none⟩ (.bool e0)).setCell ⟨w.heap.size + 1, 1, none⟩ (.string s3)).setCell ⟨w.heap.size + 1, 2, none⟩ (.int .i64 e2))) := fset3_below (b := w.heap.size + 1) (fset3_below (b := w.heap.size) X0.out.2.2.1 (Nat.le_refl _)) (by omega)
  clear SC X0
  go_region
  go_wp2_with fail
  (try simp only [Exit.inBlock, Exit.then])
  refine bodyPost_ret (results_rr_tt rfl _ _ w.heap.size (w.heap.size + 1) 25 #[.bool a0, .string s2, .int .i64 a2] #[.bool e0, .string s3, .int .i64 e2] (0, 0) _ rfl rfl (fr3_drew K1.out) (fr3_drew K2.out) Tryz.underlying25 rfl (by kernel_rfl) (by kernel_rfl)) rfl ?_
  refine ⟨s2, s3, ?_, HS, Below.drew K3.out⟩
  rw [hAn, hAe, hBn, hBe, hcc]
  rfl
end Go.Proofs.YtjkefcikepnbpaaGreatDoor

namespace Go.Proofs.YtjkefcikepnbpaaGreatDoor
open Go Go.RowKit Go.Deep

theorem i64_and15 (n : Int) : bits .and .i64 n 15 = n % 16 := by
  have h15 : (BitVec.ofInt 64 15).toNat = 2 ^ 4 - 1 := by decide
  have key : (BitVec.ofInt 64 n &&& BitVec.ofInt 64 15).toNat = (n % ((2 ^ 64 : Nat) : Int)).toNat % 2 ^ 4 := by
    rw [BitVec.toNat_and, BitVec.toNat_ofInt, h15, Nat.and_two_pow_sub_one_eq_mod]
  show IntKind.i64.wrap ((BitVec.ofInt 64 n &&& BitVec.ofInt 64 15).toNat : Nat) = n % 16
  rw [key, IntKind.wrap_i64]
  omega

structure EdS (w : World) (bl bh : Nat) (tl : ByteArray) (el : Int) (th : ByteArray) (eh : Int) (W : World) : Prop where
  l : FR3 W bl (.bool false) (.string tl) (.int .i64 el)
  h : FR3 W bh (.bool false) (.string th) (.int .i64 eh)
  b : Below w.heap.size w W
theorem EdS.on {w : World} {bl bh : Nat} {tl : ByteArray} {el : Int} {th : ByteArray} {eh : Int} {W W' : World} (h : EdS w bl bh tl el th eh W) (b : Below W.heap.size W W') : EdS w bl bh tl el th eh W' := ⟨fr3_on h.l b, fr3_on h.h b, bel_on h.b b⟩
/-- A neighbour, and what it reads as. -/
def NrTold (w : World) (s y : Int) (W : World) (r : Ending) (W' : World) : Prop :=
  ∃ t, r = .returned (.agg #[.bool false, .string t, .int .i64 s]) ∧ (∀ X, Below w.heap.size w X → Calls Tryz.prog 10 #[.agg #[.bool false, .string t, .int .i64 s]] X fun r w' => r = .returned (.tuple #[.int .u64 y, .int .i64 0]) ∧ Below X.heap.size X w') ∧ Below W.heap.size W W'

set_option maxRecDepth 100000 in
set_option maxHeartbeats 8000000 in
theorem edges_Z (d k kk : Int) (tl th : ByteArray) (el eh sh : Int) (w : World) (hM : d.tmod 9223372036854775808 = 0) (hk : bits .and .i64 k 15 = kk) (k0 : 0 ≤ kk) (k1 : kk ≤ 15) (h0 : -1200 ≤ eh) (h1 : eh ≤ 1200) (hsh : sh = min eh 0 - kk) (hz : tl = ⟨#[48]⟩ ∧ el = 0)
    (AW : Calls Tryz.prog 6 #[] w fun r w' => r = .returned (.bool true) ∧ Below w.heap.size w w')
    (BD : ∀ W, Below w.heap.size w W → Calls Tryz.prog 18 #[.int .u64 d] W fun r w' => r = .returned (.tuple #[.agg #[.bool false, .string tl, .int .i64 el], .agg #[.bool false, .string th, .int .i64 eh], .bool true, .int .i64 0]) ∧ Below W.heap.size W w')
    (FN : ∀ W, Calls Tryz.prog 9 #[.int .u64 d] W fun r w' => r = .returned (.bool true) ∧ w' = W)
    (LH : ∀ W, Calls Tryz.prog 19 #[.string th] W fun r w' => r = .returned (.bool true) ∧ w' = W)
    (EH : ∀ W, Below w.heap.size w W → Calls Tryz.prog 10 #[.agg #[.bool false, .string th, .int .i64 eh]] W fun r w' => r = .returned (.tuple #[.int .u64 0, .int .i64 0]) ∧ Below W.heap.size W w')
    (IH : ∀ W, Below w.heap.size w W → Calls Tryz.prog 20 #[.agg #[.bool false, .string th, .int .i64 eh], .int .i64 sh, .bool false] W fun r w' => NrTold w sh 0 W r w')
    (OH : ∀ W, Below w.heap.size w W → Calls Tryz.prog 20 #[.agg #[.bool false, .string th, .int .i64 eh], .int .i64 sh, .bool true] W fun r w' => NrTold w sh 1 W r w')
    (DN : ∀ W, Calls Tryz.prog 21 #[.int .u64 1] W fun r w' => r = .returned (.int .u64 0) ∧ w' = W) :
    Calls Tryz.prog 5 #[.int .u64 d, .int .i64 k] w fun r w' => r = .returned (.bool true) ∧ Below w.heap.size w w' := by
  have AW := hid AW
  have BD := hid BD
  have FN := hid FN
  have LH := hid LH
  have EH := hid EH
  have IH := hid IH
  have OH := hid OH
  have DN := hid DN
  subst hsh
  obtain ⟨rfl, rfl⟩ := hz
  have EQ := fun W => leq_dec false ⟨#[48]⟩ 0 W
  have kh : ¬ eh < -1200 := by omega
  have kh2 : ¬ 1200 < eh := by omega
  go_enter Tryz.func5, Tryz.ntmps5
  go_wp2_with fail
  refine AW.out.mono ?_
  rintro r w1 ⟨rfl, b1⟩
  have B1 := hid b1
  clear b1 AW
  go_wp2_with fail
  refine (BD.out _ B1.out).mono ?_
  rintro r w2 ⟨rfl, b2⟩
  have B2 := hid (bel_on B1.out b2)
  clear b2 B1 BD
  go_upto_region 5 with fail
  have c1 := alloc_b w2 (.cells #[.bool false, .string ⟨#[48]⟩, .int .i64 0] 25)
  have c2 := alloc_b (w2.alloc (.cells #[.bool false, .string ⟨#[48]⟩, .int .i64 0] 25)) (.cells #[.bool false, .string th, .int .i64 eh] 25)
  have s1 : (w2.alloc (.cells #[.bool false, .string ⟨#[48]⟩, .int .i64 0] 25)).heap.size = w2.heap.size + 1 := Array.size_push ..
  have F2 := FR3.new (w2.alloc (.cells #[.bool false, .string ⟨#[48]⟩, .int .i64 0] 25)) (.bool false) (.string th) (.int .i64 eh)
  rw [s1] at F2
  have S0 : Hid (EdS w w2.heap.size (w2.heap.size + 1) ⟨#[48]⟩ 0 th eh ((w2.alloc (.cells #[.bool false, .string ⟨#[48]⟩, .int .i64 0] 25)).alloc (.cells #[.bool false, .string th, .int .i64 eh] 25))) := ⟨fr3_on (FR3.new w2 (.bool false) (.string ⟨#[48]⟩) (.int .i64 0)) c2, F2, bel_on (bel_on B2.out c1) c2⟩
  clear c1 c2 s1 F2 B2
  generalize (w2.alloc (.cells #[.bool false, .string ⟨#[48]⟩, .int .i64 0] 25)).alloc (.cells #[.bool false, .string th, .int .i64 eh] 25) = w3 at *
  generalize w2.heap.size + 1 = bh at *
  generalize w2.heap.size = bl at *
  go_wp2_with fail
  refine (FN.out _).mono ?_
  rintro r wz ⟨rfl, hwz⟩
  rw [hwz]
  clear hwz wz FN
  obtain ⟨⟨x0, x1, x2⟩, _⟩ := S0.out.l.cells
  obtain ⟨⟨y0, y1, y2⟩, _⟩ := S0.out.h.cells
  go_wp2_with fail
  refine (LH.out _).mono ?_
  rintro r wz ⟨rfl, hwz⟩
  rw [hwz]
  clear hwz wz LH
  go_wp2_with fail
  refine (EH.out _ S0.out.b).mono ?_
  rintro r v0 ⟨rfl, b0⟩
  have S1 := hid (S0.out.on b0)
  clear b0 S0 EH
  clear x0 x1 x2 y0 y1 y2
  obtain ⟨⟨x0, x1, x2⟩, _⟩ := S1.out.l.cells
  obtain ⟨⟨y0, y1, y2⟩, _⟩ := S1.out.h.cells
  go_wp2_with fail
  refine (IH.out _ S1.out.b).mono ?_
  rintro r v1 ⟨t1, rfl, ex1, b1⟩
  have X1 := hid ex1
  have S2 := hid (S1.out.on b1)
  clear b1 S1 IH ex1
  clear x0 x1 x2 y0 y1 y2
  obtain ⟨⟨x0, x1, x2⟩, _⟩ := S2.out.l.cells
  obtain ⟨⟨y0, y1, y2⟩, _⟩ := S2.out.h.cells
  go_wp2_with fail
  refine (X1.out _ S2.out.b).mono ?_
  rintro r v2 ⟨rfl, b2⟩
  have S3 := hid (S2.out.on b2)
  clear b2 S2 X1
  clear x0 x1 x2 y0 y1 y2
  obtain ⟨⟨x0, x1, x2⟩, _⟩ := S3.out.l.cells
  obtain ⟨⟨y0, y1, y2⟩, _⟩ := S3.out.h.cells
  go_wp2_with fail
  refine (OH.out _ S3.out.b).mono ?_
  rintro r v3 ⟨t3, rfl, ex3, b3⟩
  have X3 := hid ex3
  have S4 := hid (S3.out.on b3)
  clear b3 S3 OH ex3
  clear x0 x1 x2 y0 y1 y2
  obtain ⟨⟨x0, x1, x2⟩, _⟩ := S4.out.l.cells
  obtain ⟨⟨y0, y1, y2⟩, _⟩ := S4.out.h.cells
  go_wp2_with fail
  refine (X3.out _ S4.out.b).mono ?_
  rintro r v4 ⟨rfl, b4⟩
  have S5 := hid (S4.out.on b4)
  clear b4 S4 X3
  clear x0 x1 x2 y0 y1 y2
  obtain ⟨⟨x0, x1, x2⟩, _⟩ := S5.out.l.cells
  obtain ⟨⟨y0, y1, y2⟩, _⟩ := S5.out.h.cells
  go_wp2_with fail
  refine (DN.out _).mono ?_
  rintro r wz ⟨rfl, hwz⟩
  rw [hwz]
  clear hwz wz DN
  go_wp2_with fail
  go_ret
  exact ⟨rfl, S5.out.b⟩

set_option maxRecDepth 100000 in
set_option maxHeartbeats 8000000 in
theorem edges_T (d a k kk : Int) (tl th : ByteArray) (el eh sl sh : Int) (w : World) (hM : d.tmod 9223372036854775808 = a) (hk : bits .and .i64 k 15 = kk) (k0 : 0 ≤ kk) (k1 : kk ≤ 15) (h0 : -1200 ≤ eh) (h1 : eh ≤ 1200) (hsh : sh = min eh 0 - kk) (m2 : a.tmod 2 = 0) (ap : 0 < a) (l0 : -1200 ≤ el) (l1 : el ≤ 1200) (hsl : sl = min el 0 - kk)
    (AW : Calls Tryz.prog 6 #[] w fun r w' => r = .returned (.bool true) ∧ Below w.heap.size w w')
    (BD : ∀ W, Below w.heap.size w W → Calls Tryz.prog 18 #[.int .u64 d] W fun r w' => r = .returned (.tuple #[.agg #[.bool false, .string tl, .int .i64 el], .agg #[.bool false, .string th, .int .i64 eh], .bool true, .int .i64 0]) ∧ Below W.heap.size W w')
    (FN : ∀ W, Calls Tryz.prog 9 #[.int .u64 d] W fun r w' => r = .returned (.bool true) ∧ w' = W)
    (LH : ∀ W, Calls Tryz.prog 19 #[.string th] W fun r w' => r = .returned (.bool true) ∧ w' = W)
    (EH : ∀ W, Below w.heap.size w W → Calls Tryz.prog 10 #[.agg #[.bool false, .string th, .int .i64 eh]] W fun r w' => r = .returned (.tuple #[.int .u64 a, .int .i64 0]) ∧ Below W.heap.size W w')
    (IH : ∀ W, Below w.heap.size w W → Calls Tryz.prog 20 #[.agg #[.bool false, .string th, .int .i64 eh], .int .i64 sh, .bool false] W fun r w' => NrTold w sh a W r w')
    (OH : ∀ W, Below w.heap.size w W → Calls Tryz.prog 20 #[.agg #[.bool false, .string th, .int .i64 eh], .int .i64 sh, .bool true] W fun r w' => NrTold w sh (a + 1) W r w')
    (DN : ∀ W, Calls Tryz.prog 21 #[.int .u64 (a + 1)] W fun r w' => r = .returned (.int .u64 a) ∧ w' = W)
    (LL : ∀ W, Calls Tryz.prog 19 #[.string tl] W fun r w' => r = .returned (.bool true) ∧ w' = W)
    (EL : ∀ W, Below w.heap.size w W → Calls Tryz.prog 10 #[.agg #[.bool false, .string tl, .int .i64 el]] W fun r w' => r = .returned (.tuple #[.int .u64 a, .int .i64 0]) ∧ Below W.heap.size W w')
    (IL : ∀ W, Below w.heap.size w W → Calls Tryz.prog 20 #[.agg #[.bool false, .string tl, .int .i64 el], .int .i64 sl, .bool true] W fun r w' => NrTold w sl a W r w')
    (OL : ∀ W, Below w.heap.size w W → Calls Tryz.prog 20 #[.agg #[.bool false, .string tl, .int .i64 el], .int .i64 sl, .bool false] W fun r w' => NrTold w sl (a - 1) W r w')
    (UP : ∀ W, Calls Tryz.prog 22 #[.int .u64 (a - 1)] W fun r w' => r = .returned (.int .u64 a) ∧ w' = W) :
    Calls Tryz.prog 5 #[.int .u64 d, .int .i64 k] w fun r w' => r = .returned (.bool true) ∧ Below w.heap.size w w' := by
  have AW := hid AW
  have BD := hid BD
  have FN := hid FN
  have LH := hid LH
  have EH := hid EH
  have IH := hid IH
  have OH := hid OH
  have DN := hid DN
  have LL := hid LL
  have EL := hid EL
  have IL := hid IL
  have OL := hid OL
  have UP := hid UP
  subst hsh
  subst hsl
  have kh : ¬ eh < -1200 := by omega
  have kh2 : ¬ 1200 < eh := by omega
  have kl : ¬ el < -1200 := by omega
  have kl2 : ¬ 1200 < el := by omega
  have az : (a == 0) = false := by rw [beq_eq_false_iff_ne]; omega
  have a1 : (a + 1 == a) = false := by rw [beq_eq_false_iff_ne]; omega
  have a2 : (a - 1 == a) = false := by rw [beq_eq_false_iff_ne]; omega
  have a3 : ¬ a + 1 = a := by omega
  have a4 : ¬ a - 1 = a := by omega
  have a5 : (a - 1 != a) = true := bne_iff_ne.2 (by omega)
  go_enter Tryz.func5, Tryz.ntmps5
  go_wp2_with fail
  refine AW.out.mono ?_
  rintro r w1 ⟨rfl, b1⟩
  have B1 := hid b1
  clear b1 AW
  go_wp2_with fail
  refine (BD.out _ B1.out).mono ?_
  rintro r w2 ⟨rfl, b2⟩
  have B2 := hid (bel_on B1.out b2)
  clear b2 B1 BD
  go_upto_region 5 with fail
  have c1 := alloc_b w2 (.cells #[.bool false, .string tl, .int .i64 el] 25)
  have c2 := alloc_b (w2.alloc (.cells #[.bool false, .string tl, .int .i64 el] 25)) (.cells #[.bool false, .string th, .int .i64 eh] 25)
  have s1 : (w2.alloc (.cells #[.bool false, .string tl, .int .i64 el] 25)).heap.size = w2.heap.size + 1 := Array.size_push ..
  have F2 := FR3.new (w2.alloc (.cells #[.bool false, .string tl, .int .i64 el] 25)) (.bool false) (.string th) (.int .i64 eh)
  rw [s1] at F2
  have S0 : Hid (EdS w w2.heap.size (w2.heap.size + 1) tl el th eh ((w2.alloc (.cells #[.bool false, .string tl, .int .i64 el] 25)).alloc (.cells #[.bool false, .string th, .int .i64 eh] 25))) := ⟨fr3_on (FR3.new w2 (.bool false) (.string tl) (.int .i64 el)) c2, F2, bel_on (bel_on B2.out c1) c2⟩
  clear c1 c2 s1 F2 B2
  generalize (w2.alloc (.cells #[.bool false, .string tl, .int .i64 el] 25)).alloc (.cells #[.bool false, .string th, .int .i64 eh] 25) = w3 at *
  generalize w2.heap.size + 1 = bh at *
  generalize w2.heap.size = bl at *
  go_wp2_with fail
  refine (FN.out _).mono ?_
  rintro r wz ⟨rfl, hwz⟩
  rw [hwz]
  clear hwz wz FN
  obtain ⟨⟨x0, x1, x2⟩, _⟩ := S0.out.l.cells
  obtain ⟨⟨y0, y1, y2⟩, _⟩ := S0.out.h.cells
  go_wp2_with fail
  refine (LH.out _).mono ?_
  rintro r wz ⟨rfl, hwz⟩
  rw [hwz]
  clear hwz wz LH
  go_wp2_with fail
  refine (EH.out _ S0.out.b).mono ?_
  rintro r v0 ⟨rfl, b0⟩
  have S1 := hid (S0.out.on b0)
  clear b0 S0 EH
  clear x0 x1 x2 y0 y1 y2
  obtain ⟨⟨x0, x1, x2⟩, _⟩ := S1.out.l.cells
  obtain ⟨⟨y0, y1, y2⟩, _⟩ := S1.out.h.cells
  go_wp2_with fail
  refine (IH.out _ S1.out.b).mono ?_
  rintro r v1 ⟨t1, rfl, ex1, b1⟩
  have X1 := hid ex1
  have S2 := hid (S1.out.on b1)
  clear b1 S1 IH ex1
  clear x0 x1 x2 y0 y1 y2
  obtain ⟨⟨x0, x1, x2⟩, _⟩ := S2.out.l.cells
  obtain ⟨⟨y0, y1, y2⟩, _⟩ := S2.out.h.cells
  go_wp2_with fail
  refine (X1.out _ S2.out.b).mono ?_
  rintro r v2 ⟨rfl, b2⟩
  have S3 := hid (S2.out.on b2)
  clear b2 S2 X1
  clear x0 x1 x2 y0 y1 y2
  obtain ⟨⟨x0, x1, x2⟩, _⟩ := S3.out.l.cells
  obtain ⟨⟨y0, y1, y2⟩, _⟩ := S3.out.h.cells
  go_wp2_with fail
  refine (OH.out _ S3.out.b).mono ?_
  rintro r v3 ⟨t3, rfl, ex3, b3⟩
  have X3 := hid ex3
  have S4 := hid (S3.out.on b3)
  clear b3 S3 OH ex3
  clear x0 x1 x2 y0 y1 y2
  obtain ⟨⟨x0, x1, x2⟩, _⟩ := S4.out.l.cells
  obtain ⟨⟨y0, y1, y2⟩, _⟩ := S4.out.h.cells
  go_wp2_with fail
  refine (X3.out _ S4.out.b).mono ?_
  rintro r v4 ⟨rfl, b4⟩
  have S5 := hid (S4.out.on b4)
  clear b4 S4 X3
  clear x0 x1 x2 y0 y1 y2
  obtain ⟨⟨x0, x1, x2⟩, _⟩ := S5.out.l.cells
  obtain ⟨⟨y0, y1, y2⟩, _⟩ := S5.out.h.cells
  go_wp2_with fail
  refine (DN.out _).mono ?_
  rintro r wz ⟨rfl, hwz⟩
  rw [hwz]
  clear hwz wz DN
  go_wp2_with fail
  refine (LL.out _).mono ?_
  rintro r wz ⟨rfl, hwz⟩
  rw [hwz]
  clear hwz wz LL
  go_wp2_with fail
  refine (EL.out _ S5.out.b).mono ?_
  rintro r v5 ⟨rfl, b5⟩
  have S6 := hid (S5.out.on b5)
  clear b5 S5 EL
  clear x0 x1 x2 y0 y1 y2
  obtain ⟨⟨x0, x1, x2⟩, _⟩ := S6.out.l.cells
  obtain ⟨⟨y0, y1, y2⟩, _⟩ := S6.out.h.cells
  go_wp2_with fail
  refine (IL.out _ S6.out.b).mono ?_
  rintro r v6 ⟨t6, rfl, ex6, b6⟩
  have X6 := hid ex6
  have S7 := hid (S6.out.on b6)
  clear b6 S6 IL ex6
  clear x0 x1 x2 y0 y1 y2
  obtain ⟨⟨x0, x1, x2⟩, _⟩ := S7.out.l.cells
  obtain ⟨⟨y0, y1, y2⟩, _⟩ := S7.out.h.cells
  go_wp2_with fail
  refine (X6.out _ S7.out.b).mono ?_
  rintro r v7 ⟨rfl, b7⟩
  have S8 := hid (S7.out.on b7)
  clear b7 S7 X6
  clear x0 x1 x2 y0 y1 y2
  obtain ⟨⟨x0, x1, x2⟩, _⟩ := S8.out.l.cells
  obtain ⟨⟨y0, y1, y2⟩, _⟩ := S8.out.h.cells
  go_wp2_with fail
  refine (OL.out _ S8.out.b).mono ?_
  rintro r v8 ⟨t8, rfl, ex8, b8⟩
  have X8 := hid ex8
  have S9 := hid (S8.out.on b8)
  clear b8 S8 OL ex8
  clear x0 x1 x2 y0 y1 y2
  obtain ⟨⟨x0, x1, x2⟩, _⟩ := S9.out.l.cells
  obtain ⟨⟨y0, y1, y2⟩, _⟩ := S9.out.h.cells
  go_wp2_with fail
  refine (X8.out _ S9.out.b).mono ?_
  rintro r v9 ⟨rfl, b9⟩
  have S10 := hid (S9.out.on b9)
  clear b9 S9 X8
  clear x0 x1 x2 y0 y1 y2
  obtain ⟨⟨x0, x1, x2⟩, _⟩ := S10.out.l.cells
  obtain ⟨⟨y0, y1, y2⟩, _⟩ := S10.out.h.cells
  go_wp2_with fail
  refine (UP.out _).mono ?_
  rintro r wz ⟨rfl, hwz⟩
  rw [hwz]
  clear hwz wz UP
  have FB := hid S10.out.b
  go_wp2_with fail
  go_ret
  exact ⟨rfl, FB.out⟩

set_option maxRecDepth 100000 in
set_option maxHeartbeats 8000000 in
theorem edges_F (d a k kk : Int) (tl th : ByteArray) (el eh sl sh : Int) (w : World) (hM : d.tmod 9223372036854775808 = a) (hk : bits .and .i64 k 15 = kk) (k0 : 0 ≤ kk) (k1 : kk ≤ 15) (h0 : -1200 ≤ eh) (h1 : eh ≤ 1200) (hsh : sh = min eh 0 - kk) (m2 : a.tmod 2 = 1) (ap : 0 < a) (l0 : -1200 ≤ el) (l1 : el ≤ 1200) (hsl : sl = min el 0 - kk)
    (AW : Calls Tryz.prog 6 #[] w fun r w' => r = .returned (.bool true) ∧ Below w.heap.size w w')
    (BD : ∀ W, Below w.heap.size w W → Calls Tryz.prog 18 #[.int .u64 d] W fun r w' => r = .returned (.tuple #[.agg #[.bool false, .string tl, .int .i64 el], .agg #[.bool false, .string th, .int .i64 eh], .bool false, .int .i64 0]) ∧ Below W.heap.size W w')
    (FN : ∀ W, Calls Tryz.prog 9 #[.int .u64 d] W fun r w' => r = .returned (.bool true) ∧ w' = W)
    (LH : ∀ W, Calls Tryz.prog 19 #[.string th] W fun r w' => r = .returned (.bool true) ∧ w' = W)
    (EH : ∀ W, Below w.heap.size w W → Calls Tryz.prog 10 #[.agg #[.bool false, .string th, .int .i64 eh]] W fun r w' => r = .returned (.tuple #[.int .u64 (a + 1), .int .i64 0]) ∧ Below W.heap.size W w')
    (IH : ∀ W, Below w.heap.size w W → Calls Tryz.prog 20 #[.agg #[.bool false, .string th, .int .i64 eh], .int .i64 sh, .bool false] W fun r w' => NrTold w sh a W r w')
    (OH : ∀ W, Below w.heap.size w W → Calls Tryz.prog 20 #[.agg #[.bool false, .string th, .int .i64 eh], .int .i64 sh, .bool true] W fun r w' => NrTold w sh (a + 1) W r w')
    (DN : ∀ W, Calls Tryz.prog 21 #[.int .u64 (a + 1)] W fun r w' => r = .returned (.int .u64 a) ∧ w' = W)
    (LL : ∀ W, Calls Tryz.prog 19 #[.string tl] W fun r w' => r = .returned (.bool true) ∧ w' = W)
    (EL : ∀ W, Below w.heap.size w W → Calls Tryz.prog 10 #[.agg #[.bool false, .string tl, .int .i64 el]] W fun r w' => r = .returned (.tuple #[.int .u64 (a - 1), .int .i64 0]) ∧ Below W.heap.size W w')
    (IL : ∀ W, Below w.heap.size w W → Calls Tryz.prog 20 #[.agg #[.bool false, .string tl, .int .i64 el], .int .i64 sl, .bool true] W fun r w' => NrTold w sl a W r w')
    (OL : ∀ W, Below w.heap.size w W → Calls Tryz.prog 20 #[.agg #[.bool false, .string tl, .int .i64 el], .int .i64 sl, .bool false] W fun r w' => NrTold w sl (a - 1) W r w')
    (UP : ∀ W, Calls Tryz.prog 22 #[.int .u64 (a - 1)] W fun r w' => r = .returned (.int .u64 a) ∧ w' = W) :
    Calls Tryz.prog 5 #[.int .u64 d, .int .i64 k] w fun r w' => r = .returned (.bool true) ∧ Below w.heap.size w w' := by
  have AW := hid AW
  have BD := hid BD
  have FN := hid FN
  have LH := hid LH
  have EH := hid EH
  have IH := hid IH
  have OH := hid OH
  have DN := hid DN
  have LL := hid LL
  have EL := hid EL
  have IL := hid IL
  have OL := hid OL
  have UP := hid UP
  subst hsh
  subst hsl
  have kh : ¬ eh < -1200 := by omega
  have kh2 : ¬ 1200 < eh := by omega
  have kl : ¬ el < -1200 := by omega
  have kl2 : ¬ 1200 < el := by omega
  have az : (a == 0) = false := by rw [beq_eq_false_iff_ne]; omega
  have a1 : (a + 1 == a) = false := by rw [beq_eq_false_iff_ne]; omega
  have a2 : (a - 1 == a) = false := by rw [beq_eq_false_iff_ne]; omega
  have a3 : ¬ a + 1 = a := by omega
  have a4 : ¬ a - 1 = a := by omega
  have a5 : (a - 1 != a) = true := bne_iff_ne.2 (by omega)
  go_enter Tryz.func5, Tryz.ntmps5
  go_wp2_with fail
  refine AW.out.mono ?_
  rintro r w1 ⟨rfl, b1⟩
  have B1 := hid b1
  clear b1 AW
  go_wp2_with fail
  refine (BD.out _ B1.out).mono ?_
  rintro r w2 ⟨rfl, b2⟩
  have B2 := hid (bel_on B1.out b2)
  clear b2 B1 BD
  go_upto_region 5 with fail
  have c1 := alloc_b w2 (.cells #[.bool false, .string tl, .int .i64 el] 25)
  have c2 := alloc_b (w2.alloc (.cells #[.bool false, .string tl, .int .i64 el] 25)) (.cells #[.bool false, .string th, .int .i64 eh] 25)
  have s1 : (w2.alloc (.cells #[.bool false, .string tl, .int .i64 el] 25)).heap.size = w2.heap.size + 1 := Array.size_push ..
  have F2 := FR3.new (w2.alloc (.cells #[.bool false, .string tl, .int .i64 el] 25)) (.bool false) (.string th) (.int .i64 eh)
  rw [s1] at F2
  have S0 : Hid (EdS w w2.heap.size (w2.heap.size + 1) tl el th eh ((w2.alloc (.cells #[.bool false, .string tl, .int .i64 el] 25)).alloc (.cells #[.bool false, .string th, .int .i64 eh] 25))) := ⟨fr3_on (FR3.new w2 (.bool false) (.string tl) (.int .i64 el)) c2, F2, bel_on (bel_on B2.out c1) c2⟩
  clear c1 c2 s1 F2 B2
  generalize (w2.alloc (.cells #[.bool false, .string tl, .int .i64 el] 25)).alloc (.cells #[.bool false, .string th, .int .i64 eh] 25) = w3 at *
  generalize w2.heap.size + 1 = bh at *
  generalize w2.heap.size = bl at *
  go_wp2_with fail
  refine (FN.out _).mono ?_
  rintro r wz ⟨rfl, hwz⟩
  rw [hwz]
  clear hwz wz FN
  obtain ⟨⟨x0, x1, x2⟩, _⟩ := S0.out.l.cells
  obtain ⟨⟨y0, y1, y2⟩, _⟩ := S0.out.h.cells
  go_wp2_with fail
  refine (LH.out _).mono ?_
  rintro r wz ⟨rfl, hwz⟩
  rw [hwz]
  clear hwz wz LH
  go_wp2_with fail
  refine (EH.out _ S0.out.b).mono ?_
  rintro r v0 ⟨rfl, b0⟩
  have S1 := hid (S0.out.on b0)
  clear b0 S0 EH
  clear x0 x1 x2 y0 y1 y2
  obtain ⟨⟨x0, x1, x2⟩, _⟩ := S1.out.l.cells
  obtain ⟨⟨y0, y1, y2⟩, _⟩ := S1.out.h.cells
  go_wp2_with fail
  refine (IH.out _ S1.out.b).mono ?_
  rintro r v1 ⟨t1, rfl, ex1, b1⟩
  have X1 := hid ex1
  have S2 := hid (S1.out.on b1)
  clear b1 S1 IH ex1
  clear x0 x1 x2 y0 y1 y2
  obtain ⟨⟨x0, x1, x2⟩, _⟩ := S2.out.l.cells
  obtain ⟨⟨y0, y1, y2⟩, _⟩ := S2.out.h.cells
  go_wp2_with fail
  refine (X1.out _ S2.out.b).mono ?_
  rintro r v2 ⟨rfl, b2⟩
  have S3 := hid (S2.out.on b2)
  clear b2 S2 X1
  clear x0 x1 x2 y0 y1 y2
  obtain ⟨⟨x0, x1, x2⟩, _⟩ := S3.out.l.cells
  obtain ⟨⟨y0, y1, y2⟩, _⟩ := S3.out.h.cells
  go_wp2_with fail
  refine (OH.out _ S3.out.b).mono ?_
  rintro r v3 ⟨t3, rfl, ex3, b3⟩
  have X3 := hid ex3
  have S4 := hid (S3.out.on b3)
  clear b3 S3 OH ex3
  clear x0 x1 x2 y0 y1 y2
  obtain ⟨⟨x0, x1, x2⟩, _⟩ := S4.out.l.cells
  obtain ⟨⟨y0, y1, y2⟩, _⟩ := S4.out.h.cells
  go_wp2_with fail
  refine (X3.out _ S4.out.b).mono ?_
  rintro r v4 ⟨rfl, b4⟩
  have S5 := hid (S4.out.on b4)
  clear b4 S4 X3
  clear x0 x1 x2 y0 y1 y2
  obtain ⟨⟨x0, x1, x2⟩, _⟩ := S5.out.l.cells
  obtain ⟨⟨y0, y1, y2⟩, _⟩ := S5.out.h.cells
  go_wp2_with fail
  refine (DN.out _).mono ?_
  rintro r wz ⟨rfl, hwz⟩
  rw [hwz]
  clear hwz wz DN
  go_wp2_with fail
  refine (LL.out _).mono ?_
  rintro r wz ⟨rfl, hwz⟩
  rw [hwz]
  clear hwz wz LL
  go_wp2_with fail
  refine (EL.out _ S5.out.b).mono ?_
  rintro r v5 ⟨rfl, b5⟩
  have S6 := hid (S5.out.on b5)
  clear b5 S5 EL
  clear x0 x1 x2 y0 y1 y2
  obtain ⟨⟨x0, x1, x2⟩, _⟩ := S6.out.l.cells
  obtain ⟨⟨y0, y1, y2⟩, _⟩ := S6.out.h.cells
  go_wp2_with fail
  refine (IL.out _ S6.out.b).mono ?_
  rintro r v6 ⟨t6, rfl, ex6, b6⟩
  have X6 := hid ex6
  have S7 := hid (S6.out.on b6)
  clear b6 S6 IL ex6
  clear x0 x1 x2 y0 y1 y2
  obtain ⟨⟨x0, x1, x2⟩, _⟩ := S7.out.l.cells
  obtain ⟨⟨y0, y1, y2⟩, _⟩ := S7.out.h.cells
  go_wp2_with fail
  refine (X6.out _ S7.out.b).mono ?_
  rintro r v7 ⟨rfl, b7⟩
  have S8 := hid (S7.out.on b7)
  clear b7 S7 X6
  clear x0 x1 x2 y0 y1 y2
  obtain ⟨⟨x0, x1, x2⟩, _⟩ := S8.out.l.cells
  obtain ⟨⟨y0, y1, y2⟩, _⟩ := S8.out.h.cells
  go_wp2_with fail
  refine (OL.out _ S8.out.b).mono ?_
  rintro r v8 ⟨t8, rfl, ex8, b8⟩
  have X8 := hid ex8
  have S9 := hid (S8.out.on b8)
  clear b8 S8 OL ex8
  clear x0 x1 x2 y0 y1 y2
  obtain ⟨⟨x0, x1, x2⟩, _⟩ := S9.out.l.cells
  obtain ⟨⟨y0, y1, y2⟩, _⟩ := S9.out.h.cells
  go_wp2_with fail
  refine (X8.out _ S9.out.b).mono ?_
  rintro r v9 ⟨rfl, b9⟩
  have S10 := hid (S9.out.on b9)
  clear b9 S9 X8
  clear x0 x1 x2 y0 y1 y2
  obtain ⟨⟨x0, x1, x2⟩, _⟩ := S10.out.l.cells
  obtain ⟨⟨y0, y1, y2⟩, _⟩ := S10.out.h.cells
  go_wp2_with fail
  refine (UP.out _).mono ?_
  rintro r wz ⟨rfl, hwz⟩
  rw [hwz]
  clear hwz wz UP
  have FB := hid S10.out.b
  go_wp2_with fail
  go_ret
  exact ⟨rfl, FB.out⟩

end Go.Proofs.YtjkefcikepnbpaaGreatDoor
