/-
  Texts put together: ZRef7, PoR4, ZLess, ZPlus, BitW, ZRef17, TnB, TnC, STimes, NGroup, SRef1, NToU, NSpread0, NSpread, QRows.
-/
import Derived.Test.YtonnlimmjelldaaGreatDoorRC
import Derived.Test.YtonnlimmjelldaaGreatDoorRA
import Derived.Deep.LoopGhost
import Derived.Test.YtonnlimmjelldaaGreatDoorZRef3
import Derived.Test.YtonnlimmjelldaaGreatDoorTnA
import Derived.Test.YtonnlimmjelldaaGreatDoorRB
import Derived.Test.YtonnlimmjelldaaGreatDoorSGrown
import Derived.Test.YtonnlimmjelldaaGreatDoorWalk1
import Derived.Test.YtonnlimmjelldaaGreatDoorNums
import Derived.Test.YtonnlimmjelldaaGreatDoorNDigit
import Derived.Test.YtonnlimmjelldaaGreatDoorSmallA
import Derived.Test.YtonnlimmjelldaaGreatDoorWalk5a
import Derived.Test.YtonnlimmjelldaaGreatDoorNMem
import Derived.BigRegion
import Derived.Deep.RegionWith
import Derived.Deep.CutRange
import Derived.Deep.DeepFit
import Derived.Test.YtonnlimmjelldaaGreatDoorMem
import Derived.Laws.AppendOwn
import Derived.Laws.OwnMore
namespace Go.Proofs.YtonnlimmjelldaaGreatDoor
open Go.RowKit Go.Deep

theorem half_more (x0 : Int) (c : Nat) : x0 / 2 ^ c / 2 = x0 / 2 ^ (c + 1) := by
  rw [Nm.two_add, ← Int.ediv_ediv_of_nonneg (by have := Nm.two_pos c; omega)]
  rfl

set_option maxRecDepth 20000 in
set_option maxRecDepth 100000 in
set_option maxHeartbeats 2000000 in
theorem refBitLen_any (p : Option Addr) (n cap : Nat) (zs : List Int) (w : World) (ha : Arg w p n cap zs) :
    Calls Tryz.prog 54 #[.slice p n cap] w fun e w' => (∃ L : Nat, e = .returned (.int .i64 (L : Int)) ∧ Nm.BLen (Nm.val zs) L) ∧ w' = w := by
  obtain ⟨a1, a2, a3, a4, a5⟩ := ha
  have tl := Nm.tsize_le zs
  have S1 := refSize_any p n cap zs w a1 (by omega) a4
  by_cases h0 : Nm.tsize zs = 0
  · rw [h0] at S1
    have HS := hid S1
    have hv := (Nm.tsize_zero_iff a5).1 h0
    have B0 : Hid (Nm.BLen (Nm.val zs) 0) := ⟨by rw [hv]; decide, fun _ => rfl, fun h => by omega⟩
    clear S1 h0 hv
    go_enter Tryz.func54, Tryz.ntmps54
    go_wp2_with fail
    refine HS.out.mono ?_
    rintro e w' ⟨rfl, rfl⟩
    go_wp2
    go_ret
    exact ⟨⟨0, rfl, B0.out⟩, rfl⟩
  · obtain ⟨t, ht⟩ : ∃ t, Nm.tsize zs = t + 1 := ⟨Nm.tsize zs - 1, by omega⟩
    obtain ⟨b, off, rfl, hbw, HC⟩ := a4.at (by omega)
    obtain ⟨x0, hx, X⟩ : ∃ x0, w.cell? ⟨b, off + t, none⟩ = some (.int .u64 x0) ∧ Hid (x0 = zs.getD t 0) := ⟨_, HC.out t (by omega), rfl⟩
    have hx0 : 0 ≤ x0 := by have := a5.at t; have := X.out; omega
    have hx1 : x0 < 18446744073709551616 := by have := a5.at t; have := X.out; omega
    have XP : Hid (0 < x0) := by
      have h := Nm.tsize_top zs (by omega)
      rw [ht, Nat.add_sub_cancel, ← X.out] at h
      show 0 < x0
      omega
    have FIN : Hid (∀ c : Nat, x0 / 2 ^ c = 0 → (c = 0 ∨ 2 ^ (c - 1) ≤ x0) → Nm.BLen (Nm.val zs) (64 * t + c)) := by
      intro c h1 h2
      have hp := Nm.two_pos c
      have hlt : x0 < 2 ^ c := by
        rcases Int.lt_or_le x0 (2 ^ c) with h | h
        · exact h
        · have : 1 ≤ x0 / 2 ^ c := (Int.le_ediv_iff_mul_le hp).2 (by omega)
          omega
      have hc : 1 ≤ c := by
        rcases Nat.eq_zero_or_pos c with h | h
        · subst h
          have := XP.out
          have e : (2 : Int) ^ 0 = 1 := rfl
          omega
        · exact h
      have h3 : (2 : Int) ^ (c - 1) ≤ x0 := by
        rcases h2 with h | h
        · omega
        · exact h
      exact Nm.blen_at zs t c a5 ht hc (by rw [← X.out]; exact h3) (by rw [← X.out]; exact hlt)
    have CB : Hid (∀ c : Nat, 2 ^ (c - 1) ≤ x0 → c ≤ 64) := by
      intro c h
      have h2 : (2 : Int) ^ (c - 1) < 2 ^ 64 := by rw [Nm.two_64]; omega
      rcases Nat.lt_or_ge (c - 1) 64 with h3 | h3
      · omega
      · have := Nm.two_mono h3
        omega
    rw [ht] at S1
    have hS : ((t + 1 : Nat) : Int) = (t : Int) + 1 := by omega
    rw [hS] at S1
    have HS := hid S1
    have htn : (t : Int) < (n : Int) := by omega
    have htb : t ≤ 17592186044416 := by omega
    clear S1 h0 hS ht tl a4
    go_enter Tryz.func54, Tryz.ntmps54
    go_wp2_with fail
    refine HS.out.mono ?_
    rintro e w' ⟨rfl, rfl⟩
    go_wp2_with fail
    go_loop [4, 5] (fun s y => ∃ (c S : Nat) (x : Int), Hid (S = 64 * t + c) ∧ S ≤ 1125899906842688 ∧ s = .int .i64 S ∧ y = .int .u64 x ∧ 0 ≤ x ∧ x ≤ x0 ∧ Hid (x = x0 / 2 ^ c) ∧ Hid (c = 0 ∨ 2 ^ (c - 1) ≤ x0)) (fun _ y => (intOf y).toNat)
    case atStart => exact ⟨0, 64 * t, x0, rfl, by omega, by first | rfl | go_num, rfl, hx0, by omega, by simp [Hid], .inl rfl⟩
    case round =>
      obtain ⟨c, S, x, HSS, hS, rfl, rfl, h1, h2, HX, HCc⟩ := hrel
      by_cases hz : x = 0
      · have hz' : ¬ (0 : Int) < x := by omega
        have E : Hid (Nm.BLen (Nm.val zs) S) := by rw [HSS.out]; exact FIN.out c (by rw [← HX.out]; exact hz) HCc.out
        clear hz
        go_wp2
        go_ret
        exact ⟨⟨S, rfl, E.out⟩, rfl⟩
      · have hz' : (0 : Int) < x := by omega
        have P1 : Hid (2 ^ c ≤ x0) := by
          have h := HX.out
          have hp := Nm.two_pos c
          have : 1 ≤ x0 / 2 ^ c := by omega
          have := (Int.le_ediv_iff_mul_le hp).1 this
          show _ ≤ _
          omega
        have hc64 : c + 1 ≤ 64 := CB.out (c + 1) (by rw [Nat.add_sub_cancel]; exact P1.out)
        have hS2 : S + 1 ≤ 1125899906842688 := by have := HSS.out; omega
        obtain ⟨y, hy, Y⟩ : ∃ y, x / 2 = y ∧ Hid (y = x / 2) := ⟨_, rfl, rfl⟩
        have hy0 : 0 ≤ y := by omega
        have hyx : y < x := by omega
        have YX : Hid (y = x0 / 2 ^ (c + 1)) := by rw [Hid, Y.out, HX.out, half_more]
        clear hz
        go_wp2
        go_round
        case rel => exact ⟨c + 1, S + 1, y, by have := HSS.out; show _ = _; omega, hS2, by go_num, by rw [hy], hy0, by omega, YX.out, .inr (by rw [Nat.add_sub_cancel]; exact P1.out)⟩
        case measure => simp [intOf]; omega
end Go.Proofs.YtonnlimmjelldaaGreatDoor

namespace Go.Proofs.YtonnlimmjelldaaGreatDoor
open Go Go.RowKit Go.Deep Go.Shelf

theorem Po.blen_bd {m : Int} {L : Nat} (m1 : 0 < m) (m2 : m < 18446744073709551616) (h : Nm.BLen m L) : 1 ≤ L ∧ L ≤ 64 := by
  obtain ⟨a, b⟩ := h.2.2 m1
  refine ⟨a, ?_⟩
  rcases Nat.lt_or_ge 64 L with c | c
  · exfalso
    have : (2 : Int) ^ 64 ≤ 2 ^ (L - 1) := by
      have q : (2 ^ 64 : Nat) ≤ 2 ^ (L - 1) := Nat.pow_le_pow_right (by omega) (by omega)
      exact_mod_cast q
    have e : (2 : Int) ^ 64 = 18446744073709551616 := rfl
    omega
  · exact c

set_option maxRecDepth 100000 in
set_option maxHeartbeats 4000000 in
theorem xtens_any (m x K : Int) (w : World) (m0 : 0 < m) (m1 : m < 18446744073709551616) (x0 : -1100 ≤ x) (x1 : x ≤ 1000) (hK : ∀ k, -1000 ≤ k → k ≤ 1000 → Po.atl m x k = decide (k ≤ K)) (k0 : -400 ≤ K) (k1 : K ≤ 400) :
    Calls Tryz.prog 31 #[.int .u64 m, .int .i64 x] w fun e w' => e = .returned (.int .i64 K) ∧ Below w.heap.size w w' := by
  have bA := hid (alloc_b w (.cells #[.int .u64 m] 26))
  have A0 : Arg (w.alloc (.cells #[.int .u64 m] 26)) (some ⟨w.heap.size, 0, none⟩) 1 1 [m] := ⟨rfl, Nat.le_refl _, by omega, (Own.alloc w [m]).lies, limb_one ⟨by omega, m1⟩⟩
  have BL := hid (refBitLen_any _ 1 1 [m] _ A0)
  have AL : Hid (∀ W' k, -1000 ≤ k → k ≤ 1000 → Calls Tryz.prog 55 #[.int .u64 m, .int .i64 x, .int .i64 k] W' fun en w' => en = .returned (.bool (decide (k ≤ K))) ∧ Below W'.heap.size W' w') := by
    intro W' k h1 h2
    have := xatLeast_any m x k W' (by omega) m1 (by omega) (by omega) (by omega) (by omega)
    rw [hK k h1 h2] at this
    exact this
  have LB : Hid (∀ L : Nat, Nm.BLen (Nm.val [m]) L → 1 ≤ L ∧ L ≤ 64) := fun L h => Po.blen_bd m0 m1 (by rw [show Nm.val [m] = m by simp [Nm.val]] at h; exact h)
  clear A0 hK m0 m1
  go_enter Tryz.func31, Tryz.ntmps31
  go_wp2_with fail
  with_reducible refine BL.out.mono ?_
  rintro e w1 ⟨⟨L, rfl, hL⟩, hw⟩
  obtain ⟨l1, l2⟩ := LB.out L hL
  rw [hw]
  clear hw hL LB BL w1
  have li1 : (1 : Int) ≤ (L : Int) := by omega
  have li2 : (L : Int) ≤ 64 := by omega
  clear l1 l2
  obtain ⟨q, hq, q0, q1⟩ : ∃ q, (((L : Int) - 1 + x) * 30103).tdiv 100000 = q ∧ -800 ≤ q ∧ q ≤ 800 := by
    refine ⟨_, rfl, ?_, ?_⟩
    · rcases (show 0 ≤ ((L : Int) - 1 + x) * 30103 ∨ ((L : Int) - 1 + x) * 30103 < 0 by omega) with c | c
      · have := Int.tdiv_nonneg c (show (0 : Int) ≤ 100000 by omega); omega
      · have e : (((L : Int) - 1 + x) * 30103).tdiv 100000 = -((-(((L : Int) - 1 + x) * 30103)).tdiv 100000) := by rw [Int.neg_tdiv]; omega
        rw [e, Int.tdiv_eq_ediv_of_nonneg (by omega)]
        omega
    · rcases (show 0 ≤ ((L : Int) - 1 + x) * 30103 ∨ ((L : Int) - 1 + x) * 30103 < 0 by omega) with c | c
      · rw [Int.tdiv_eq_ediv_of_nonneg c]; omega
      · have e : (((L : Int) - 1 + x) * 30103).tdiv 100000 = -((-(((L : Int) - 1 + x) * 30103)).tdiv 100000) := by rw [Int.neg_tdiv]; omega
        rw [e, Int.tdiv_eq_ediv_of_nonneg (by omega)]
        omega
  go_wp2_with fail
  go_loopg [6] (q - K).toNat (fun g v wr => ∃ j : Int, v = .int .i64 j ∧ (j - K).toNat = g ∧ -900 ≤ j ∧ j ≤ 900 ∧ Hid (Below w.heap.size w wr))
  case atStart => exact ⟨q, by first | rfl | rw [hq], rfl, by omega, by omega, bA⟩
  case round =>
    obtain ⟨j, rfl, hg, j0, j1, B1⟩ := hrel
    clear bA hq
    by_cases hj : j ≤ K
    · have hd : decide (j ≤ K) = true := decide_eq_true hj
      have A1 := hid (AL.out wr j (by omega) (by omega))
      rw [hd] at A1
      replace hg := hid hg
      go_wp2_with fail
      with_reducible refine A1.out.mono ?_
      rintro e w2 ⟨rfl, b2⟩
      have B2 := hid (below_on B1.out b2)
      clear b2 A1 B1 hg hd
      go_wp2_with fail
      go_loopg [6] (K - j).toNat (fun g v wr => ∃ i : Int, v = .int .i64 i ∧ (K - i).toNat = g ∧ i ≤ K ∧ -900 ≤ i ∧ Hid (Below w.heap.size w wr))
      case atStart => exact ⟨j, rfl, rfl, hj, j0, B2⟩
      case round =>
        obtain ⟨i, rfl, hgi, hi, i0, B3⟩ := hrel
        clear B2
        by_cases hi1 : i + 1 ≤ K
        · have hd : decide (i + 1 ≤ K) = true := decide_eq_true hi1
          have A1 := hid (AL.out wr (i + 1) (by omega) (by omega))
          rw [hd] at A1
          replace hgi := hid hgi
          go_wp2_with fail
          with_reducible refine A1.out.mono ?_
          rintro e w4 ⟨rfl, b4⟩
          have B4 := hid (below_on B3.out b4)
          clear b4 A1 B3 hd
          go_wp2_with fail
          go_roundg ((K - (i + 1)).toNat)
          case measure => have := hgi.out; omega
          case rel => exact ⟨i + 1, rfl, rfl, hi1, by omega, B4⟩
        · have hd : decide (i + 1 ≤ K) = false := decide_eq_false hi1
          have A1 := hid (AL.out wr (i + 1) (by omega) (by omega))
          rw [hd] at A1
          have hiK : Hid (i = K) := by show i = K; omega
          replace hgi := hid hgi
          go_wp2_with fail
          with_reducible refine A1.out.mono ?_
          rintro e w4 ⟨rfl, b4⟩
          have B4 := hid (below_on B3.out b4)
          clear b4 A1 B3 hd
          go_wp2_with fail
          go_ret
          exact ⟨by have q := hiK.out; rw [← q]; rfl, B4.out⟩
    · have hd : decide (j ≤ K) = false := decide_eq_false hj
      have A1 := hid (AL.out wr j (by omega) (by omega))
      rw [hd] at A1
      replace hg := hid hg
      go_wp2_with fail
      with_reducible refine A1.out.mono ?_
      rintro e w2 ⟨rfl, b2⟩
      have B2 := hid (below_on B1.out b2)
      clear b2 A1 B1 hd
      go_wp2_with fail
      go_roundg ((j - 1 - K).toNat)
      case measure => have := hg.out; omega
      case rel => exact ⟨j - 1, rfl, rfl, by omega, by omega, B2⟩
end Go.Proofs.YtonnlimmjelldaaGreatDoor

namespace Go.Proofs.YtonnlimmjelldaaGreatDoor
open Go.RowKit Go.Deep

namespace Nm
theorem v32_lt : ∀ zs : List Int, Halves zs → v32 zs < p32 zs.length
  | [], _ => by simp [v32, p32]
  | z :: zs, h => by
    have h1 := v32_lt zs (fun x hx => h x (List.mem_cons_of_mem _ hx))
    have h2 := h z List.mem_cons_self
    simp only [v32, List.length_cons, p32]
    omega

theorem v32_split : ∀ (zs : List Int) (k : Nat), v32 zs = v32 (zs.take k) + p32 k * v32 (zs.drop k)
  | zs, 0 => by simp [v32, p32]
  | [], k + 1 => by simp [v32]
  | z :: zs, k + 1 => by
    have := v32_split zs k
    simp only [List.take_succ_cons, List.drop_succ_cons, v32, p32]
    rw [Int.mul_assoc]
    omega

theorem Halves.drop {zs : List Int} (h : Halves zs) (k : Nat) : Halves (zs.drop k) := fun z hz => h z (List.mem_of_mem_drop hz)

theorem less_step {ss xs ys : List Int} {j : Nat} {c c' lo : Int} (hl : ss.length = j) (h : v32 ss + p32 j * (-c) = v32 (xs.take j) - v32 (ys.take j)) (hs : lo + 4294967296 * (-c') = (-c) + xs.getD j 0 + (-ys.getD j 0)) :
    v32 (ss ++ [lo]) + p32 (j + 1) * (-c') = v32 (xs.take (j + 1)) - v32 (ys.take (j + 1)) := by
  rw [v32_snoc, v32_take_next, v32_take_next, hl]
  have e : p32 j * (lo + 4294967296 * (-c')) = p32 j * ((-c) + xs.getD j 0 + (-ys.getD j 0)) := by rw [hs]
  rw [Int.mul_add, Int.mul_add, Int.mul_add, Int.mul_neg (p32 j) (ys.getD j 0)] at e
  have e2 : p32 (j + 1) * (-c') = p32 j * (4294967296 * (-c')) := by simp only [p32]; rw [Int.mul_comm 4294967296 (p32 j), Int.mul_assoc]
  omega

theorem less_end {ss xs ys : List Int} {l : Nat} {c A B : Int} (hl : ss.length = l) (hx : xs.length = l) (hs : Halves ss) (hy : Halves ys) (vx : v32 xs = A) (vy : v32 ys = B) (hc : 0 ≤ c) (hle : B ≤ A) (h : v32 ss + p32 l * (-c) = v32 (xs.take l) - v32 (ys.take l)) : v32 ss = A - B := by
  rw [List.take_of_length_le (by omega), vx] at h
  have h1 := v32_split ys l
  have h2 := v32_lt ss hs
  have h3 := v32_nonneg _ (hy.drop l)
  have h4 := p32_pos l
  rw [hl] at h2
  rw [vy] at h1
  rw [Int.mul_neg] at h
  obtain ⟨r, hr⟩ : ∃ r, v32 (ys.drop l) = r := ⟨_, rfl⟩
  rw [hr] at h1 h3
  have e : p32 l * (c + r) = p32 l * c + p32 l * r := Int.mul_add _ _ _
  have h5 : c + r = 0 := by
    rcases (show c + r = 0 ∨ 1 ≤ c + r by omega) with h6 | h6
    · exact h6
    · have h7 : p32 l * 1 ≤ p32 l * (c + r) := Int.mul_le_mul_of_nonneg_left h6 (by omega)
      omega
  rw [h5, Int.mul_zero] at e
  omega
end Nm

set_option maxRecDepth 20000 in
set_option maxHeartbeats 4000000 in
theorem less_any (p q : Option Addr) (n cap m cap' : Nat) (za zb : List Int) (w : World) (ha : Arg w p n cap za) (hb : Arg w q m cap' zb) (hn : Nm.tsize za ≤ 1099511627776) (hle : Nm.val zb ≤ Nm.val za) :
    Calls Tryz.prog 62 #[.slice p n cap, .slice q m cap'] w fun e w' => ∃ r os, e = .returned (.slice r (List.length os) (List.length os)) ∧ Ans w.heap.size w' r os (Nm.val za - Nm.val zb) ∧ Below w.heap.size w w' := by
  have LE := hid hle
  clear hle
  have HA := hid ha
  have HB0 := hid hb
  clear ha hb
  go_enter Tryz.func62, Tryz.ntmps62
  go_wp2_with fail
  refine (halves_any p n cap za _ HA.out (by have := HA.out.2.1; have := HA.out.2.2.1; omega)).mono ?_
  rintro e w1 ⟨xs, rfl, lx, hx, vx, kx, bx⟩
  have HB1 := hid (HB0.out.below bx (Nat.le_refl _))
  have D1 := hid bx
  obtain ⟨l1, LX⟩ : ∃ l1, Hid (xs.length = l1) := ⟨_, rfl⟩
  have LX0 := hid lx
  have HX := hid hx
  have VX := hid vx
  have kx1 : l1 ≤ 2 * Nm.tsize za := by have := LX.out; omega
  rw [LX.out]
  clear lx hx vx kx bx HB0
  go_wp2_with fail
  refine (halves_any q m cap' zb _ HB1.out (by have := HB1.out.2.1; have := HB1.out.2.2.1; omega)).mono ?_
  rintro e w2 ⟨ys, rfl, ly, hy, vy, ky, by_⟩
  have D2 := hid (chain D1.out by_ (Nat.le_refl _))
  obtain ⟨l2, LY⟩ : ∃ l2, Hid (ys.length = l2) := ⟨_, rfl⟩
  have HY := hid hy
  have VY := hid vy
  have ky1 : l2 ≤ 2 * Nm.tsize zb := by have := LY.out; omega
  obtain ⟨g1, G1⟩ : ∃ g1, w.heap.size = g1 := ⟨_, rfl⟩
  obtain ⟨g2, G2⟩ : ∃ g2, w1.heap.size = g2 := ⟨_, rfl⟩
  have LX2 := LX0.out.below by_ (Nat.le_refl _)
  rw [G1] at LX2
  have ly2 := ly
  rw [G2] at ly2
  have CX : Hid (∀ i, i < l1 → w2.cell? ⟨g1, i, none⟩ = some (.int .u64 (xs.getD i 0))) := fun i hi => by have := LX2.cells i (by have := LX.out; omega); rwa [Nat.zero_add] at this
  have CY : Hid (∀ i, i < l2 → w2.cell? ⟨g2, i, none⟩ = some (.int .u64 (ys.getD i 0))) := fun i hi => by have := ly2.cells i (by have := LY.out; omega); rwa [Nat.zero_add] at this
  obtain ⟨g, Gg⟩ : ∃ g, Hid (w2.heap.size = g) := ⟨_, rfl⟩
  have BX : Hid (∀ {j : Nat}, j < l1 → g1 < g) := fun {j} hj => by rw [← Gg.out]; exact cell_lt (CX.out j hj)
  have BY : Hid (∀ {j : Nat}, j < l2 → g2 < g) := fun {j} hj => by rw [← Gg.out]; exact cell_lt (CY.out j hj)
  rw [LY.out, G1, G2]
  clear ly hy vy ky by_ LX0 LX2 ly2 HB1 D1 G2
  have hmk := make64_room l1 (by omega) w2
  rw [Gg.out] at hmk
  have bm := hid ((Below.refl w2.heap.size w2).alloc (Nat.le_refl _) (.cells (madeCells #[.int .u64 0] l1) 26))
  have gm := hid (Grown.made w2 l1)
  rw [Gg.out] at bm gm
  generalize w2.alloc (.cells (madeCells #[.int .u64 0] l1) 26) = wm at hmk bm gm
  go_wp2
  clear hmk
  go_loopw [7, 8, 9] (fun a c i wr => ∃ (j : Nat) (cc : Int) (ss : List Int), j ≤ l1 ∧ i = .int .i64 j ∧ a = .slice (some ⟨g, 0, none⟩) j l1 ∧ c = .int .u64 cc ∧ 0 ≤ cc ∧ cc ≤ 1 ∧ Hid (Grown wr g ss (l1 - j)) ∧ Hid (ss.length = j) ∧ Hid (Nm.Halves ss) ∧ Hid (Nm.v32 ss + Nm.p32 j * (-cc) = Nm.v32 (xs.take j) - Nm.v32 (ys.take j)) ∧ Below g w2 wr) (fun _ _ i _ => l1 - (intOf i).toNat)
  case atStart => exact ⟨0, 0, [], Nat.zero_le _, rfl, rfl, rfl, by omega, by omega, gm.out, rfl, Nm.Halves.nil, rfl, bm.out⟩
  case round =>
    obtain ⟨j, cc, ss, hj, rfl, rfl, rfl, hc0, hc1, G, L, HS, V, hB⟩ := hrel
    by_cases h1 : j < l1
    · obtain ⟨x, hx, X⟩ : ∃ x, wr.cell? ⟨g1, j, none⟩ = some (.int .u64 x) ∧ Hid (x = xs.getD j 0) := ⟨_, (hB.cell (p := ⟨g1, j, none⟩) (BX.out h1)).trans (CX.out j h1), rfl⟩
      have hx0 : 0 ≤ x := by have := HX.out.at j; have := X.out; omega
      have hx1 : x < 4294967296 := by have := HX.out.at j; have := X.out; omega
      have h1' : (j : Int) < (l1 : Int) := by omega
      have G' := G.out
      rw [show l1 - j = (l1 - j - 1) + 1 by omega] at G'
      by_cases h2 : j < l2
      · skip
        obtain ⟨y, hy, Y⟩ : ∃ y, wr.cell? ⟨g2, j, none⟩ = some (.int .u64 y) ∧ Hid (y = ys.getD j 0) := ⟨_, (hB.cell (p := ⟨g2, j, none⟩) (BY.out h2)).trans (CY.out j h2), rfl⟩
        have hy0 : 0 ≤ y := by have := HY.out.at j; have := Y.out; omega
        have hy1 : y < 4294967296 := by have := HY.out.at j; have := Y.out; omega
        have h2' : (j : Int) < (l2 : Int) := by omega
        obtain ⟨o, ho, O⟩ : ∃ o, IntKind.u64.wrap (cc + y) = o ∧ Hid (o = cc + y) := ⟨_, by rw [IntKind.wrap_u64, Int.emod_eq_of_lt (by omega) (by omega)], rfl⟩
        have ho0 : 0 ≤ o := by have := O.out; omega
        have ho1 : o ≤ 4294967296 := by have := O.out; omega
        by_cases hd : x < o
        · skip
          obtain ⟨d, hd1, DD⟩ : ∃ d, IntKind.u64.wrap (x + 4294967296) = d ∧ Hid (d = x + 4294967296) := ⟨_, by rw [IntKind.wrap_u64, Int.emod_eq_of_lt (by omega) (by omega)], rfl⟩
          have hd2 : 4294967296 ≤ d := by have := DD.out; omega
          have hd3 : d < 8589934592 := by have := DD.out; omega
          obtain ⟨z, hz, Z⟩ : ∃ z, IntKind.u64.wrap (d - o) = z ∧ Hid (z = d - o) := ⟨_, by rw [IntKind.wrap_u64, Int.emod_eq_of_lt (by omega) (by omega)], rfl⟩
          have BZ : Hid (0 ≤ z ∧ z < 4294967296) := by have := Z.out; have := DD.out; show _ ∧ _; omega
          have ST : Hid (z + 4294967296 * (-1) = (-cc) + x + (-y)) := by have := Z.out; have := DD.out; have := O.out; show _ = _; omega
          obtain ⟨w2, ap, gr, be, sz⟩ := push64 g j (l1 - j - 1) l1 ss z wr L.out (by omega) G'
          have AP := hid ap
          have GR := hid gr
          have BE := hid (hB.trans be)
          clear ap gr be sz hB G G'
          go_wp2_with (at_builtin; refine wpList_append_row rfl _ _ rfl AP.out (by rfl) (by rfl) ?_; clear AP)
          go_roundw
          case rel =>
            refine ⟨j + 1, 1, ss ++ [z], by omega, by go_num, rfl, rfl, by omega, by omega, GR.out, ?_, HS.out.snoc BZ.out.1 BZ.out.2, ?_, BE.out⟩
            · have := L.out; simp only [Hid, List.length_append, List.length_cons, List.length_nil]; omega
            · exact Nm.less_step L.out V.out (by rw [← X.out, ← Y.out]; exact ST.out)
          case measure => simp [intOf]; omega
        · skip
          obtain ⟨z, hz, Z⟩ : ∃ z, IntKind.u64.wrap (x - o) = z ∧ Hid (z = x - o) := ⟨_, by rw [IntKind.wrap_u64, Int.emod_eq_of_lt (by omega) (by omega)], rfl⟩
          have BZ : Hid (0 ≤ z ∧ z < 4294967296) := by have := Z.out; show _ ∧ _; omega
          have ST : Hid (z + 4294967296 * (-0) = (-cc) + x + (-y)) := by have := Z.out; have := O.out; show _ = _; omega
          obtain ⟨w2, ap, gr, be, sz⟩ := push64 g j (l1 - j - 1) l1 ss z wr L.out (by omega) G'
          have AP := hid ap
          have GR := hid gr
          have BE := hid (hB.trans be)
          clear ap gr be sz hB G G'
          go_wp2_with (at_builtin; refine wpList_append_row rfl _ _ rfl AP.out (by rfl) (by rfl) ?_; clear AP)
          go_roundw
          case rel =>
            refine ⟨j + 1, 0, ss ++ [z], by omega, by go_num, rfl, rfl, by omega, by omega, GR.out, ?_, HS.out.snoc BZ.out.1 BZ.out.2, ?_, BE.out⟩
            · have := L.out; simp only [Hid, List.length_append, List.length_cons, List.length_nil]; omega
            · exact Nm.less_step L.out V.out (by rw [← X.out, ← Y.out]; exact ST.out)
          case measure => simp [intOf]; omega
      · skip
        obtain ⟨y, hy0, Y⟩ : ∃ y : Int, y = 0 ∧ Hid (y = ys.getD j 0) := ⟨0, rfl, by simp [Hid, List.getD, List.getElem?_eq_none (show ys.length ≤ j by have := LY.out; omega)]⟩
        have h2' : ¬ (j : Int) < (l2 : Int) := by omega
        have O : Hid (cc = cc + y) := by show _ = _; omega
        by_cases hd : x < cc
        · skip
          obtain ⟨d, hd1, DD⟩ : ∃ d, IntKind.u64.wrap (x + 4294967296) = d ∧ Hid (d = x + 4294967296) := ⟨_, by rw [IntKind.wrap_u64, Int.emod_eq_of_lt (by omega) (by omega)], rfl⟩
          have hd2 : 4294967296 ≤ d := by have := DD.out; omega
          have hd3 : d < 8589934592 := by have := DD.out; omega
          obtain ⟨z, hz, Z⟩ : ∃ z, IntKind.u64.wrap (d - cc) = z ∧ Hid (z = d - cc) := ⟨_, by rw [IntKind.wrap_u64, Int.emod_eq_of_lt (by omega) (by omega)], rfl⟩
          have BZ : Hid (0 ≤ z ∧ z < 4294967296) := by have := Z.out; have := DD.out; show _ ∧ _; omega
          have ST : Hid (z + 4294967296 * (-1) = (-cc) + x + (-y)) := by have := Z.out; have := DD.out; have := O.out; show _ = _; omega
          obtain ⟨w2, ap, gr, be, sz⟩ := push64 g j (l1 - j - 1) l1 ss z wr L.out (by omega) G'
          have AP := hid ap
          have GR := hid gr
          have BE := hid (hB.trans be)
          clear ap gr be sz hB G G'
          go_wp2_with (at_builtin; refine wpList_append_row rfl _ _ rfl AP.out (by rfl) (by rfl) ?_; clear AP)
          go_roundw
          case rel =>
            refine ⟨j + 1, 1, ss ++ [z], by omega, by go_num, rfl, rfl, by omega, by omega, GR.out, ?_, HS.out.snoc BZ.out.1 BZ.out.2, ?_, BE.out⟩
            · have := L.out; simp only [Hid, List.length_append, List.length_cons, List.length_nil]; omega
            · exact Nm.less_step L.out V.out (by rw [← X.out, ← Y.out]; exact ST.out)
          case measure => simp [intOf]; omega
        · skip
          obtain ⟨z, hz, Z⟩ : ∃ z, IntKind.u64.wrap (x - cc) = z ∧ Hid (z = x - cc) := ⟨_, by rw [IntKind.wrap_u64, Int.emod_eq_of_lt (by omega) (by omega)], rfl⟩
          have BZ : Hid (0 ≤ z ∧ z < 4294967296) := by have := Z.out; show _ ∧ _; omega
          have ST : Hid (z + 4294967296 * (-0) = (-cc) + x + (-y)) := by have := Z.out; have := O.out; show _ = _; omega
          obtain ⟨w2, ap, gr, be, sz⟩ := push64 g j (l1 - j - 1) l1 ss z wr L.out (by omega) G'
          have AP := hid ap
          have GR := hid gr
          have BE := hid (hB.trans be)
          clear ap gr be sz hB G G'
          go_wp2_with (at_builtin; refine wpList_append_row rfl _ _ rfl AP.out (by rfl) (by rfl) ?_; clear AP)
          go_roundw
          case rel =>
            refine ⟨j + 1, 0, ss ++ [z], by omega, by go_num, rfl, rfl, by omega, by omega, GR.out, ?_, HS.out.snoc BZ.out.1 BZ.out.2, ?_, BE.out⟩
            · have := L.out; simp only [Hid, List.length_append, List.length_cons, List.length_nil]; omega
            · exact Nm.less_step L.out V.out (by rw [← X.out, ← Y.out]; exact ST.out)
          case measure => simp [intOf]; omega
    · have h1' : ¬ (j : Int) < (l1 : Int) := by omega
      obtain rfl : j = l1 := by omega
      have D3 := hid (chain D2.out (by rw [Gg.out]; exact hB) (Nat.le_refl _))
      have VV : Hid (Nm.v32 ss = Nm.val za - Nm.val zb) := Nm.less_end L.out LX.out HS.out HY.out VX.out VY.out hc0 LE.out V.out
      have AG : Hid (Arg wr (some ⟨g, 0, none⟩) j j ss) := ⟨L.out, Nat.le_refl _, by omega, G.out.lies, HS.out.limbs⟩
      have hw3 : Hid (w.heap.size ≤ wr.heap.size) := D3.out.size
      clear hB G
      go_wp2_with fail
      refine (rlimbs_any _ j j ss _ AG.out HS.out).mono ?_
      rintro e w4 ⟨r, os, rfl, hA, hb⟩
      rw [VV.out] at hA
      have A4 := hid (hA.mono hw3.out)
      have D4 := hid (chain D3.out hb (Nat.le_refl _))
      clear hA hb
      go_wp2
      go_ret
      exact ⟨r, os, rfl, A4.out, D4.out⟩
end Go.Proofs.YtonnlimmjelldaaGreatDoor

namespace Go.Proofs.YtonnlimmjelldaaGreatDoor
open Go.RowKit Go.Deep

set_option maxRecDepth 20000 in
set_option maxHeartbeats 4000000 in
theorem plus_any (p q : Option Addr) (n cap m cap' : Nat) (za zb : List Int) (w : World) (ha : Arg w p n cap za) (hb : Arg w q m cap' zb) (hn : Nm.tsize za ≤ 1099511627776) (hm : Nm.tsize zb ≤ 1099511627776) :
    Calls Tryz.prog 59 #[.slice p n cap, .slice q m cap'] w fun e w' => ∃ r os, e = .returned (.slice r (List.length os) (List.length os)) ∧ Ans w.heap.size w' r os (Nm.val za + Nm.val zb) ∧ Below w.heap.size w w' := by
  have HA := hid ha
  have HB0 := hid hb
  clear ha hb
  go_enter Tryz.func59, Tryz.ntmps59
  go_wp2_with fail
  refine (halves_any p n cap za _ HA.out (by have := HA.out.2.1; have := HA.out.2.2.1; omega)).mono ?_
  rintro e w1 ⟨xs, rfl, lx, hx, vx, kx, bx⟩
  have HB1 := hid (HB0.out.below bx (Nat.le_refl _))
  have D1 := hid bx
  obtain ⟨l1, LX⟩ : ∃ l1, Hid (xs.length = l1) := ⟨_, rfl⟩
  have LX0 := hid lx
  have HX := hid hx
  have VX := hid vx
  have kx1 : l1 ≤ 2 * Nm.tsize za := by have := LX.out; omega
  rw [LX.out]
  clear lx hx vx kx bx HB0
  go_wp2_with fail
  refine (halves_any q m cap' zb _ HB1.out (by have := HB1.out.2.1; have := HB1.out.2.2.1; omega)).mono ?_
  rintro e w2 ⟨ys, rfl, ly, hy, vy, ky, by_⟩
  have D2 := hid (chain D1.out by_ (Nat.le_refl _))
  obtain ⟨l2, LY⟩ : ∃ l2, Hid (ys.length = l2) := ⟨_, rfl⟩
  have HY := hid hy
  have VY := hid vy
  have ky1 : l2 ≤ 2 * Nm.tsize zb := by have := LY.out; omega
  obtain ⟨g1, G1⟩ : ∃ g1, w.heap.size = g1 := ⟨_, rfl⟩
  obtain ⟨g2, G2⟩ : ∃ g2, w1.heap.size = g2 := ⟨_, rfl⟩
  have LX2 := LX0.out.below by_ (Nat.le_refl _)
  rw [G1] at LX2
  have ly2 := ly
  rw [G2] at ly2
  have CX : Hid (∀ i, i < l1 → w2.cell? ⟨g1, i, none⟩ = some (.int .u64 (xs.getD i 0))) := fun i hi => by have := LX2.cells i (by have := LX.out; omega); rwa [Nat.zero_add] at this
  have CY : Hid (∀ i, i < l2 → w2.cell? ⟨g2, i, none⟩ = some (.int .u64 (ys.getD i 0))) := fun i hi => by have := ly2.cells i (by have := LY.out; omega); rwa [Nat.zero_add] at this
  obtain ⟨g, Gg⟩ : ∃ g, Hid (w2.heap.size = g) := ⟨_, rfl⟩
  have BX : Hid (∀ {j : Nat}, j < l1 → g1 < g) := fun {j} hj => by rw [← Gg.out]; exact cell_lt (CX.out j hj)
  have BY : Hid (∀ {j : Nat}, j < l2 → g2 < g) := fun {j} hj => by rw [← Gg.out]; exact cell_lt (CY.out j hj)
  rw [LY.out, G1, G2]
  clear ly hy vy ky by_ LX0 LX2 ly2 HB1 D1 G2
  obtain ⟨C, HC⟩ : ∃ C, Hid (l1 + l2 + 1 = C) := ⟨_, rfl⟩
  have hmk := make64_room (l1 + l2 + 1) (by omega) w2
  rw [show ((l1 + l2 + 1 : Nat) : Int) = (l1 : Int) + (l2 : Int) + 1 by omega, HC.out, Gg.out] at hmk
  have bm := hid ((Below.refl w2.heap.size w2).alloc (Nat.le_refl _) (.cells (madeCells #[.int .u64 0] C) 26))
  have gm := hid (Grown.made w2 C)
  rw [Gg.out] at bm gm
  generalize w2.alloc (.cells (madeCells #[.int .u64 0] C) 26) = wm at hmk bm gm
  have hCb : C ≤ 35184372088832 := by have := HC.out; omega
  go_wp2
  clear hmk
  go_loopw [7, 8, 9] (fun a c i wr => ∃ (j : Nat) (cc : Int) (ss : List Int), j ≤ l1 + l2 ∧ j + 1 ≤ C ∧ i = .int .i64 j ∧ a = .slice (some ⟨g, 0, none⟩) j C ∧ c = .int .u64 cc ∧ 0 ≤ cc ∧ cc ≤ 1 ∧ Hid (Grown wr g ss (C - j)) ∧ Hid (ss.length = j) ∧ Hid (Nm.Halves ss) ∧ Hid (Nm.v32 ss + Nm.p32 j * cc = Nm.v32 (xs.take j) + Nm.v32 (ys.take j)) ∧ Below g w2 wr) (fun _ _ i _ => l1 + l2 - (intOf i).toNat)
  case atStart => exact ⟨0, 0, [], Nat.zero_le _, by have := HC.out; omega, rfl, rfl, rfl, by omega, by omega, gm.out, rfl, Nm.Halves.nil, rfl, bm.out⟩
  case round =>
    obtain ⟨j, cc, ss, hj, hjC, rfl, rfl, rfl, hc0, hc1, G, L, HS, V, hB⟩ := hrel
    have G' := G.out
    rw [show C - j = (C - j - 1) + 1 by omega] at G'
    by_cases h1 : j < l1
    · have hj2 : j + 1 ≤ l1 + l2 := by omega
      have hj3 : j + 1 + 1 ≤ C := by have := HC.out; omega
      by_cases h2 : j < l2
      · skip
        obtain ⟨x, hx, X⟩ : ∃ x, wr.cell? ⟨g1, j, none⟩ = some (.int .u64 x) ∧ Hid (x = xs.getD j 0) := ⟨_, (hB.cell (p := ⟨g1, j, none⟩) (BX.out h1)).trans (CX.out j h1), rfl⟩
        have hx0 : 0 ≤ x := by have := HX.out.at j; have := X.out; omega
        have hx1 : x < 4294967296 := by have := HX.out.at j; have := X.out; omega
        have h1' : (j : Int) < (l1 : Int) := by omega
        obtain ⟨y, hy, Y⟩ : ∃ y, wr.cell? ⟨g2, j, none⟩ = some (.int .u64 y) ∧ Hid (y = ys.getD j 0) := ⟨_, (hB.cell (p := ⟨g2, j, none⟩) (BY.out h2)).trans (CY.out j h2), rfl⟩
        have hy0 : 0 ≤ y := by have := HY.out.at j; have := Y.out; omega
        have hy1 : y < 4294967296 := by have := HY.out.at j; have := Y.out; omega
        have h2' : (j : Int) < (l2 : Int) := by omega
        obtain ⟨c1, hc1, C1⟩ : ∃ c1, IntKind.u64.wrap (cc + x) = c1 ∧ Hid (c1 = cc + x) := ⟨_, by rw [IntKind.wrap_u64, Int.emod_eq_of_lt (by omega) (by omega)], rfl⟩
        have hc10 : 0 ≤ c1 := by have := C1.out; omega
        have hc11 : c1 ≤ 4294967296 := by have := C1.out; omega
        obtain ⟨c2, hc2, C2⟩ : ∃ c2, IntKind.u64.wrap (c1 + y) = c2 ∧ Hid (c2 = c1 + y) := ⟨_, by rw [IntKind.wrap_u64, Int.emod_eq_of_lt (by omega) (by omega)], rfl⟩
        have hc20 : 0 ≤ c2 := by have := C2.out; omega
        have hc21 : c2 ≤ 8589934592 := by have := C2.out; omega
        have TOT : Hid (c2 = cc + x + y) := by have := C1.out; have := C2.out; show _ = _; omega
        obtain ⟨lo, hlo, LO⟩ : ∃ lo, bits .and .u64 c2 4294967295 = lo ∧ Hid (lo = c2 % 4294967296) := ⟨_, r_mask32 c2 (by omega) (by omega), rfl⟩
        obtain ⟨hi, hhi, HI⟩ : ∃ hi, c2 / 4294967296 = hi ∧ Hid (hi = c2 / 4294967296) := ⟨_, rfl, rfl⟩
        have hi0 : 0 ≤ hi := by omega
        have hi1 : hi ≤ 1 := by have := TOT.out; have := HX.out.at j; have := HY.out.at j; have := X.out; have := Y.out; omega
        obtain ⟨w2, ap, gr, be, sz⟩ := push64 g j (C - j - 1) C ss lo wr L.out (by omega) G'
        have AP := hid ap
        have GR := hid gr
        have BE := hid (hB.trans be)
        have BLO : Hid (0 ≤ lo ∧ lo < 4294967296) := by have := LO.out; show _ ∧ _; omega
        clear ap gr be sz hB G G'
        go_wp2_with (at_builtin; refine wpList_append_row rfl _ _ rfl AP.out (by rfl) (by rfl) ?_; clear AP)
        go_roundw
        case rel =>
          refine ⟨j + 1, hi, ss ++ [lo], by omega, by omega, by go_num, rfl, rfl, hi0, hi1, GR.out, ?_, HS.out.snoc BLO.out.1 BLO.out.2, ?_, BE.out⟩
          · have := L.out; simp only [Hid, List.length_append, List.length_cons, List.length_nil]; omega
          · exact Nm.plus_step L.out V.out (by rw [← X.out, ← Y.out, ← TOT.out, LO.out, HI.out]; omega)
        case measure => simp [intOf]; omega
      · skip
        obtain ⟨x, hx, X⟩ : ∃ x, wr.cell? ⟨g1, j, none⟩ = some (.int .u64 x) ∧ Hid (x = xs.getD j 0) := ⟨_, (hB.cell (p := ⟨g1, j, none⟩) (BX.out h1)).trans (CX.out j h1), rfl⟩
        have hx0 : 0 ≤ x := by have := HX.out.at j; have := X.out; omega
        have hx1 : x < 4294967296 := by have := HX.out.at j; have := X.out; omega
        have h1' : (j : Int) < (l1 : Int) := by omega
        obtain ⟨y, hy0, Y⟩ : ∃ y : Int, y = 0 ∧ Hid (y = ys.getD j 0) := ⟨0, rfl, by simp [Hid, List.getD, List.getElem?_eq_none (show ys.length ≤ j by have := LY.out; omega)]⟩
        have h2' : ¬ (j : Int) < (l2 : Int) := by omega
        obtain ⟨c1, hc1, C1⟩ : ∃ c1, IntKind.u64.wrap (cc + x) = c1 ∧ Hid (c1 = cc + x) := ⟨_, by rw [IntKind.wrap_u64, Int.emod_eq_of_lt (by omega) (by omega)], rfl⟩
        have hc10 : 0 ≤ c1 := by have := C1.out; omega
        have hc11 : c1 ≤ 4294967296 := by have := C1.out; omega
        have TOT : Hid (c1 = cc + x + y) := by have := C1.out; show _ = _; omega
        obtain ⟨lo, hlo, LO⟩ : ∃ lo, bits .and .u64 c1 4294967295 = lo ∧ Hid (lo = c1 % 4294967296) := ⟨_, r_mask32 c1 (by omega) (by omega), rfl⟩
        obtain ⟨hi, hhi, HI⟩ : ∃ hi, c1 / 4294967296 = hi ∧ Hid (hi = c1 / 4294967296) := ⟨_, rfl, rfl⟩
        have hi0 : 0 ≤ hi := by omega
        have hi1 : hi ≤ 1 := by have := TOT.out; have := HX.out.at j; have := HY.out.at j; have := X.out; have := Y.out; omega
        obtain ⟨w2, ap, gr, be, sz⟩ := push64 g j (C - j - 1) C ss lo wr L.out (by omega) G'
        have AP := hid ap
        have GR := hid gr
        have BE := hid (hB.trans be)
        have BLO : Hid (0 ≤ lo ∧ lo < 4294967296) := by have := LO.out; show _ ∧ _; omega
        clear ap gr be sz hB G G'
        go_wp2_with (at_builtin; refine wpList_append_row rfl _ _ rfl AP.out (by rfl) (by rfl) ?_; clear AP)
        go_roundw
        case rel =>
          refine ⟨j + 1, hi, ss ++ [lo], by omega, by omega, by go_num, rfl, rfl, hi0, hi1, GR.out, ?_, HS.out.snoc BLO.out.1 BLO.out.2, ?_, BE.out⟩
          · have := L.out; simp only [Hid, List.length_append, List.length_cons, List.length_nil]; omega
          · exact Nm.plus_step L.out V.out (by rw [← X.out, ← Y.out, ← TOT.out, LO.out, HI.out]; omega)
        case measure => simp [intOf]; omega
    · by_cases h2 : j < l2
      · have hj2 : j + 1 ≤ l1 + l2 := by omega
        have hj3 : j + 1 + 1 ≤ C := by have := HC.out; omega
        obtain ⟨x, hx0, X⟩ : ∃ x : Int, x = 0 ∧ Hid (x = xs.getD j 0) := ⟨0, rfl, by simp [Hid, List.getD, List.getElem?_eq_none (show xs.length ≤ j by have := LX.out; omega)]⟩
        have h1' : ¬ (j : Int) < (l1 : Int) := by omega
        obtain ⟨y, hy, Y⟩ : ∃ y, wr.cell? ⟨g2, j, none⟩ = some (.int .u64 y) ∧ Hid (y = ys.getD j 0) := ⟨_, (hB.cell (p := ⟨g2, j, none⟩) (BY.out h2)).trans (CY.out j h2), rfl⟩
        have hy0 : 0 ≤ y := by have := HY.out.at j; have := Y.out; omega
        have hy1 : y < 4294967296 := by have := HY.out.at j; have := Y.out; omega
        have h2' : (j : Int) < (l2 : Int) := by omega
        obtain ⟨c2, hc2, C2⟩ : ∃ c2, IntKind.u64.wrap (cc + y) = c2 ∧ Hid (c2 = cc + y) := ⟨_, by rw [IntKind.wrap_u64, Int.emod_eq_of_lt (by omega) (by omega)], rfl⟩
        have hc20 : 0 ≤ c2 := by have := C2.out; omega
        have hc21 : c2 ≤ 8589934592 := by have := C2.out; omega
        have TOT : Hid (c2 = cc + x + y) := by have := C2.out; show _ = _; omega
        obtain ⟨lo, hlo, LO⟩ : ∃ lo, bits .and .u64 c2 4294967295 = lo ∧ Hid (lo = c2 % 4294967296) := ⟨_, r_mask32 c2 (by omega) (by omega), rfl⟩
        obtain ⟨hi, hhi, HI⟩ : ∃ hi, c2 / 4294967296 = hi ∧ Hid (hi = c2 / 4294967296) := ⟨_, rfl, rfl⟩
        have hi0 : 0 ≤ hi := by omega
        have hi1 : hi ≤ 1 := by have := TOT.out; have := HX.out.at j; have := HY.out.at j; have := X.out; have := Y.out; omega
        obtain ⟨w2, ap, gr, be, sz⟩ := push64 g j (C - j - 1) C ss lo wr L.out (by omega) G'
        have AP := hid ap
        have GR := hid gr
        have BE := hid (hB.trans be)
        have BLO : Hid (0 ≤ lo ∧ lo < 4294967296) := by have := LO.out; show _ ∧ _; omega
        clear ap gr be sz hB G G'
        go_wp2_with (at_builtin; refine wpList_append_row rfl _ _ rfl AP.out (by rfl) (by rfl) ?_; clear AP)
        go_roundw
        case rel =>
          refine ⟨j + 1, hi, ss ++ [lo], by omega, by omega, by go_num, rfl, rfl, hi0, hi1, GR.out, ?_, HS.out.snoc BLO.out.1 BLO.out.2, ?_, BE.out⟩
          · have := L.out; simp only [Hid, List.length_append, List.length_cons, List.length_nil]; omega
          · exact Nm.plus_step L.out V.out (by rw [← X.out, ← Y.out, ← TOT.out, LO.out, HI.out]; omega)
        case measure => simp [intOf]; omega
      · have h1' : ¬ (j : Int) < (l1 : Int) := by omega
        have h2' : ¬ (j : Int) < (l2 : Int) := by omega
        obtain ⟨w3, ap, gr, be, sz⟩ := push64 g j (C - j - 1) C ss cc wr L.out (by omega) G'
        have AP := hid ap
        have D3 := hid (chain D2.out (by rw [Gg.out]; exact hB.trans be) (Nat.le_refl _))
        have VV : Hid (Nm.v32 (ss ++ [cc]) = Nm.val za + Nm.val zb) := by
          have := V.out
          rw [List.take_of_length_le (by have := LX.out; omega), List.take_of_length_le (by have := LY.out; omega), VX.out, VY.out] at this
          rw [Hid, Nm.v32_snoc, L.out]
          exact this
        have HS2 := hid (HS.out.snoc hc0 (by omega : cc < 4294967296))
        have AG : Hid (Arg w3 (some ⟨g, 0, none⟩) (j + 1) C (ss ++ [cc])) := ⟨by simp [L.out], by omega, by have := HC.out; omega, gr.lies, HS2.out.limbs⟩
        have hw3 : Hid (w.heap.size ≤ w3.heap.size) := D3.out.size
        clear ap gr be sz hB G G'
        go_wp2_with (at_builtin; refine wpList_append_row rfl _ _ rfl AP.out (by rfl) (by rfl) ?_; clear AP)
        refine (rlimbs_any _ (j + 1) C (ss ++ [cc]) _ AG.out HS2.out).mono ?_
        rintro e w4 ⟨r, os, rfl, hA, hb⟩
        rw [VV.out] at hA
        have A4 := hid (hA.mono hw3.out)
        have D4 := hid (chain D3.out hb (Nat.le_refl _))
        clear hA hb
        go_wp2
        go_ret
        exact ⟨r, os, rfl, A4.out, D4.out⟩
end Go.Proofs.YtonnlimmjelldaaGreatDoor

namespace Go.Proofs.YtonnlimmjelldaaGreatDoor
open Go.RowKit Go.Deep

theorem one_bit (x : Int) (h0 : 0 ≤ x) (h1 : x < 18446744073709551616) : bits .and .u64 x 1 = x % 2 := by
  obtain ⟨n, rfl⟩ := Int.eq_ofNat_of_zero_le h0
  have h := bits_and_u64_nat n 1 (by omega) (by omega)
  have e : n &&& 1 = n % 2 := Nat.and_two_pow_sub_one_eq_mod n 1
  rw [e] at h
  rw [show (1 : Int) = ((1 : Nat) : Int) from rfl, h]
  omega

end Go.Proofs.YtonnlimmjelldaaGreatDoor

namespace Go.Proofs.YtonnlimmjelldaaGreatDoor
open Go.RowKit Go.Deep


theorem refBit_neg (p : Option Addr) (n cap : Nat) (i : Int) (w : World) (hi : i < 0) :
    Calls Tryz.prog 63 #[.slice p n cap, .int .i64 i] w fun e w' => e = .returned (.int .i64 0) ∧ w' = w := by
  go_enter Tryz.func63, Tryz.ntmps63
  go_wp2
  go_ret
  exact ⟨rfl, rfl⟩

set_option maxRecDepth 20000 in
set_option maxRecDepth 100000 in
set_option maxHeartbeats 2000000 in
theorem refBit_any (p : Option Addr) (n cap : Nat) (zs : List Int) (i : Nat) (ii : Int) (w : World) (ha : Arg w p n cap zs) (hi : ii ≤ 9223372036854775807) (hii : ii = (i : Int)) :
    Calls Tryz.prog 63 #[.slice p n cap, .int .i64 ii] w fun e w' => e = .returned (.int .i64 (Nm.val zs / 2 ^ i % 2)) ∧ w' = w := by
  obtain ⟨a1, a2, a3, a4, a5⟩ := ha
  have hi0 : 0 ≤ ii := by omega
  have hi0' : ¬ ii < 0 := by omega
  obtain ⟨k, HK⟩ : ∃ k : Nat, Hid (ii / 64 = (k : Int) ∧ k = i / 64) := ⟨i / 64, by show _ ∧ _; omega⟩
  obtain ⟨r, HR⟩ : ∃ r : Nat, Hid (ii % 64 = (r : Int) ∧ r = i % 64) := ⟨i % 64, by show _ ∧ _; omega⟩
  have hr : r ≤ 63 := by have := HR.out; omega
  by_cases hk : n ≤ k
  · have hk' : (n : Int) ≤ ii / 64 := by have := HK.out; omega
    have E : Hid (0 = Nm.val zs / 2 ^ i % 2) := by
      have h1 := Nm.val_bd zs a5
      rw [a1, Nm.pw_two] at h1
      have h2 := Nm.two_mono (show 64 * n ≤ i by have := HK.out; omega)
      rw [Hid, Int.ediv_eq_zero_of_lt h1.1 (by omega)]
      rfl
    clear hii
    go_enter Tryz.func63, Tryz.ntmps63
    go_wp2
    go_ret
    exact ⟨ret_i64 E.out, rfl⟩
  · have hk' : ¬ (n : Int) ≤ ii / 64 := by have := HK.out; omega
    obtain ⟨b, off, rfl, hbw, HC⟩ := a4.at (by omega)
    obtain ⟨x0, hx, X⟩ : ∃ x0, w.cell? ⟨b, off + k, none⟩ = some (.int .u64 x0) ∧ Hid (x0 = zs.getD k 0) := ⟨_, HC.out k (by omega), rfl⟩
    have hx0 : 0 ≤ x0 := by have := a5.at k; have := X.out; omega
    have hx1 : x0 < 18446744073709551616 := by have := a5.at k; have := X.out; omega
    have E : Hid (x0 / 2 ^ r % 2 = Nm.val zs / 2 ^ i % 2) := by
      rw [Hid, X.out]
      exact (Nm.bit_at zs i k r (by have := HK.out; have := HR.out; omega) (by omega) a5 (by omega)).symm
    have hq : ii / 64 = (k : Int) := HK.out.1
    have hkn : (k : Int) < (n : Int) := by omega
    have hkn' : ¬ (n : Int) ≤ (k : Int) := by omega
    clear hii a4
    go_enter Tryz.func63, Tryz.ntmps63
    go_wp2
    clear hq
    go_loop [5, 6] (fun y t => ∃ (c : Nat) (x : Int), c ≤ r ∧ t = .int .i64 c ∧ y = .int .u64 x ∧ 0 ≤ x ∧ x ≤ x0 ∧ Hid (x = x0 / 2 ^ c)) (fun _ t => r - (intOf t).toNat)
    case atStart => exact ⟨0, x0, Nat.zero_le _, rfl, rfl, hx0, by omega, by simp [Hid]⟩
    case round =>
      obtain ⟨c, x, hc, rfl, rfl, h1, h2, HX⟩ := hrel
      by_cases hlt : c < r
      · have hlt' : (c : Int) < ii % 64 := by have := HR.out; omega
        obtain ⟨y, hy, Y⟩ : ∃ y, x / 2 = y ∧ Hid (y = x / 2) := ⟨_, rfl, rfl⟩
        have hy0 : 0 ≤ y := by omega
        have hyx : y ≤ x0 := by omega
        have YX : Hid (y = x0 / 2 ^ (c + 1)) := by rw [Hid, Y.out, HX.out, half_more]
        go_wp2
        go_round
        case rel => exact ⟨c + 1, y, by omega, by go_num, by first | rfl | rw [hy], hy0, hyx, YX.out⟩
        case measure => simp [intOf]; omega
      · have hlt' : ¬ (c : Int) < ii % 64 := by have := HR.out; omega
        obtain rfl : c = r := by omega
        obtain ⟨y, hy, Y⟩ : ∃ y, x % 2 = y ∧ Hid (y = x % 2) := ⟨_, rfl, rfl⟩
        have hy0 : 0 ≤ y := by omega
        have hy1 : y ≤ 1 := by omega
        have E2 : Hid (y = Nm.val zs / 2 ^ i % 2) := by rw [Hid, Y.out, HX.out]; exact E.out
        go_wp2
        go_ret
        exact ⟨ret_i64 E2.out, rfl⟩
end Go.Proofs.YtonnlimmjelldaaGreatDoor

namespace Go.Proofs.YtonnlimmjelldaaGreatDoor
open Go Go.RowKit Go.Deep

namespace Tn
open Sh
theorem cm_c (x y : Int) : (x < y ∧ Go.Proofs.YtonnlimmjelldaaGreatDoor.cmpI x y = -1) ∨ (x = y ∧ Go.Proofs.YtonnlimmjelldaaGreatDoor.cmpI x y = 0) ∨ (y < x ∧ Go.Proofs.YtonnlimmjelldaaGreatDoor.cmpI x y = 1) := by
  unfold Go.Proofs.YtonnlimmjelldaaGreatDoor.cmpI
  rcases Int.lt_trichotomy x y with h | h | h
  · exact .inl ⟨h, if_pos h⟩
  · refine .inr (.inl ⟨h, ?_⟩)
    subst h
    rw [if_neg (Int.lt_irrefl x)]
    first | rfl | (rw [if_pos rfl]) | (rw [if_neg (Int.lt_irrefl x)])
  · refine .inr (.inr ⟨h, ?_⟩)
    rw [if_neg (by omega)]
    first | (rw [if_neg (by omega)]) | (rw [if_pos h])
theorem in_yes {a k e x : Int} (hx : x = (Ie.ex a : Int) - 1076) (he : -1075 ≤ e) (h0 : 0 < a) (hc : a % 2 = 0) :
    inB a (k * S e) = (decide (Go.Proofs.YtonnlimmjelldaaGreatDoor.cmpI (nu (lo a) x e) (k * de x e) ≤ 0) && decide (Go.Proofs.YtonnlimmjelldaaGreatDoor.cmpI (k * de x e) (nu (4 * Ie.man a + 2) x e) ≤ 0)) := by
  have s1 := sc_is (m := lo a) hx he (lo_A h0)
  have s2 := sc_is (m := 4 * Ie.man a + 2) hx he (hi_B a)
  have l1 := cmp_gt (k := k) (de_pos x e) (S_pos e) s1
  have l2 := cmp_lt (k := k) (de_pos x e) (S_pos e) s2
  have c1 := cm_c (nu (lo a) x e) (k * de x e)
  have c2 := cm_c (k * de x e) (nu (4 * Ie.man a + 2) x e)
  unfold inB
  rw [← Bool.decide_and]
  congr 1
  apply propext
  omega
theorem in_no {a k e x : Int} (hx : x = (Ie.ex a : Int) - 1076) (he : -1075 ≤ e) (h0 : 0 < a) (hc : ¬ a % 2 = 0) :
    inB a (k * S e) = (decide (Go.Proofs.YtonnlimmjelldaaGreatDoor.cmpI (nu (lo a) x e) (k * de x e) < 0) && decide (Go.Proofs.YtonnlimmjelldaaGreatDoor.cmpI (k * de x e) (nu (4 * Ie.man a + 2) x e) < 0)) := by
  have s1 := sc_is (m := lo a) hx he (lo_A h0)
  have s2 := sc_is (m := 4 * Ie.man a + 2) hx he (hi_B a)
  have l1 := cmp_lt (k := k) (de_pos x e) (S_pos e) s1
  have l2 := cmp_gt (k := k) (de_pos x e) (S_pos e) s2
  have c1 := cm_c (nu (lo a) x e) (k * de x e)
  have c2 := cm_c (k * de x e) (nu (4 * Ie.man a + 2) x e)
  unfold inB
  rw [← Bool.decide_and]
  congr 1
  apply propext
  omega
theorem lo_bd {a : Int} (h0 : 0 < a) (h1 : a < 9218868437227405312) : 0 ≤ lo a ∧ lo a < 18446744073709551616 := by
  have := man_bd h0 h1
  unfold lo
  split <;> omega
end Tn

set_option maxRecDepth 100000 in
set_option maxHeartbeats 4000000 in
theorem xinside_any (a k e : Int) (r : Option Addr) (os : List Int) (w : World) (a0 : 0 < a) (a1 : a < 9218868437227405312) (e0 : -1000 ≤ e) (e1 : e ≤ 1000) (hA : Arg w r os.length os.length os) (hv : Nm.val os = k) (hk : k < 10 ^ 60) :
    Calls Tryz.prog 60 #[Tn.spv a, .slice r os.length os.length, .int .i64 e] w fun en w' => en = .returned (.bool (Sh.inB a (k * Tn.S e))) ∧ Below w.heap.size w w' := by
  obtain ⟨m0, m1, m2, x1⟩ := Tn.man_bd a0 a1
  obtain ⟨l0, l1⟩ := Tn.lo_bd a0 a1
  have k0 : 0 ≤ k := by rw [← hv]; exact (Nm.val_bd os hA.2.2.2.2).1
  unfold Tn.spv
  obtain ⟨x, hx⟩ : ∃ x, x = (Ie.ex a : Int) - 1076 := ⟨_, rfl⟩
  rw [← hx]
  have C1 := hid (fun wx => xscaled_any (Tn.lo a) x e wx l0 l1 (by omega) (by omega) (by omega) (by omega))
  have C2 := hid (fun wx => xscaled_any (4 * Ie.man a + 2) x e wx (by omega) (by omega) (by omega) (by omega) (by omega) (by omega))
  have q1 : Hid (Tn.nu (Tn.lo a) x e < Nm.pw 4096) := pw_bdm l0 l1 (by omega)
  have q2 : Hid (Tn.nu (4 * Ie.man a + 2) x e < Nm.pw 4096) := pw_bdm (by omega) (by omega) (by omega)
  have q3 : Hid (Tn.de x e < Nm.pw 4096) := pw_bd (by omega)
  have q4 : Hid (k * Tn.de x e < Nm.pw 4096) := by
    show _ < _
    have h1 := pw_bd (a := e.toNat + 60) (b := (-x).toNat) (by omega)
    have h2 : k * Tn.de x e ≤ 10 ^ 60 * Tn.de x e := Int.mul_le_mul_of_nonneg_right (by omega) (Int.le_of_lt (Tn.de_pos x e))
    rw [Int.pow_add, Int.mul_comm ((10 : Int) ^ e.toNat), Int.mul_assoc] at h1
    exact Int.lt_of_le_of_lt h2 h1
  have TS : Hid (Nm.tsize os ≤ 1099511627776) := by
    show _ ≤ _
    have h1 := pw_bd (a := 60) (b := 0) (by omega)
    rw [Int.pow_zero, Int.mul_one] at h1
    have := (Nm.tsize_le_iff hA.2.2.2.2 4096).2 (by omega)
    omega
  have R0 := hid (R5.new w (.int .u64 (4 * Ie.man a)) (.int .u64 (Tn.lo a)) (.int .u64 (4 * Ie.man a + 2)) (.int .i64 x) (.bool (decide (a % 2 = 0))))
  have ZB := hid (alloc_b w (.cells #[.int .u64 (4 * Ie.man a), .int .u64 (Tn.lo a), .int .u64 (4 * Ie.man a + 2), .int .i64 x, .bool (decide (a % 2 = 0))] 56))
  have HA := hid hA
  have HV := hid hv
  have EY := hid (Tn.in_yes (k := k) (e := e) hx (by omega) a0)
  have EN := hid (Tn.in_no (k := k) (e := e) hx (by omega) a0)
  unfold ScTold at C1 C2
  rw [← Tn.nu, ← Tn.de] at C1 C2
  generalize Tn.nu (Tn.lo a) x e = NL at *
  generalize Tn.nu (4 * Ie.man a + 2) x e = NH at *
  generalize Tn.de x e = DE at *
  generalize Sh.inB a (k * Tn.S e) = bb at *
  generalize 4 * Ie.man a + 2 = vh at *
  generalize 4 * Ie.man a = vm at *
  generalize Tn.lo a = vl at *
  clear hA hv hx a0 a1 e0 e1 hk m0 m1 m2 x1 l0 l1 k0
  by_cases hc : a % 2 = 0
  · have E := hid (EY.out hc)
    rw [decide_eq_true hc] at R0 ZB ⊢
    clear EY EN hc
    go_enter Tryz.func60, Tryz.ntmps60
    go_wp2_with fail
    refine (C1.out _).mono ?_
    rintro en w1 ⟨r1, o1, s1, u1, rfl, A1, A2, b1⟩
    have R1 := hid (R0.out.on b1)
    have B1 := hid (below_on ZB.out b1)
    have H1 := hid (HA.out.below (ZB.out.trans (b1.mono ZB.out.size)) (Nat.le_refl _))
    have L1 := hid A1
    have D1 := hid A2
    obtain ⟨⟨-, -, c2, c3, -⟩, -⟩ := R1.out.cells
    clear A1 A2 b1 R0 ZB HA C1
    go_wp2_with fail
    clear c2 c3
    refine (C2.out _).mono ?_
    rintro en w2 ⟨r2, o2, s2, u2, rfl, A1, A2, b2⟩
    have R2 := hid (R1.out.on b2)
    have B2 := hid (below_on B1.out b2)
    have H2 := hid (H1.out.below b2 (Nat.le_refl _))
    have L2 := hid (L1.out.below b2 (Nat.le_refl _))
    have D2 := hid (D1.out.below b2 (Nat.le_refl _))
    have U2 := hid A1
    have TM := hid (times_any r s1 _ _ _ _ os u1 w2 H2.out (D2.out.argT q3.out) TS.out (Nat.le_trans (D2.out.tsT q3.out) (by omega)))
    rw [HV.out, D2.out.2.2.2.1] at TM
    clear A1 A2 b2 R1 B1 H1 L1 D1 C2
    go_wp2_with fail
    refine TM.out.mono ?_
    rintro en w3 ⟨r3, o3, rfl, A5, b3⟩
    have R3 := hid (R2.out.on b3)
    have B3 := hid (below_on B2.out b3)
    have L3 := hid (L2.out.below b3 (Nat.le_refl _))
    have U3 := hid (U2.out.below b3 (Nat.le_refl _))
    have X3 := hid A5
    have K1 := hid (refCmp_any r1 r3 _ _ _ _ o1 o3 w3 (L3.out.argT q1.out) (X3.out.argT q4.out))
    rw [L3.out.2.2.2.1, X3.out.2.2.2.1] at K1
    clear A5 b3 R2 B2 H2 L2 D2 U2 TM
    go_wp2_with fail
    refine K1.out.mono ?_
    rintro en w4 ⟨rfl, b4⟩
    have R4 := hid (R3.out.on b4)
    have B4 := hid (below_on B3.out b4)
    have U4 := hid (U3.out.below b4 (Nat.le_refl _))
    have X4 := hid (X3.out.below b4 (Nat.le_refl _))
    have K2 := hid (refCmp_any r3 r2 _ _ _ _ o3 o2 w4 (X4.out.argT q4.out) (U4.out.argT q2.out))
    rw [U4.out.2.2.2.1, X4.out.2.2.2.1] at K2
    clear b4 R3 B3 L3 U3 X3 K1
    go_wp2_with fail
    refine K2.out.mono ?_
    rintro en w5 ⟨rfl, b5⟩
    have R5 := hid (R4.out.on b5)
    have B5 := hid (below_on B4.out b5)
    obtain ⟨⟨-, -, -, -, c4⟩, -⟩ := R5.out.cells
    clear b5 R4 B4 U4 X4 K2
    generalize cmpI NL (k * DE) = p1 at *
    generalize cmpI (k * DE) NH = p2 at *
    have E2 := E.out
    by_cases g1 : p1 ≤ 0
    · have E3 : Hid (bb = decide (p2 ≤ 0)) := by show _ = _; rw [E2, decide_eq_true g1]; rfl
      clear E2
      go_wp2_with fail
      go_ret
      exact ⟨by rw [E3.out]; rfl, B5.out⟩
    · have E3 : Hid (bb = false) := by show _ = _; rw [E2, decide_eq_false g1]; rfl
      clear E2
      go_wp2_with fail
      go_ret
      exact ⟨by rw [E3.out]; rfl, B5.out⟩
  · have E := hid (EN.out hc)
    rw [decide_eq_false hc] at R0 ZB ⊢
    clear EY EN hc
    go_enter Tryz.func60, Tryz.ntmps60
    go_wp2_with fail
    refine (C1.out _).mono ?_
    rintro en w1 ⟨r1, o1, s1, u1, rfl, A1, A2, b1⟩
    have R1 := hid (R0.out.on b1)
    have B1 := hid (below_on ZB.out b1)
    have H1 := hid (HA.out.below (ZB.out.trans (b1.mono ZB.out.size)) (Nat.le_refl _))
    have L1 := hid A1
    have D1 := hid A2
    obtain ⟨⟨-, -, c2, c3, -⟩, -⟩ := R1.out.cells
    clear A1 A2 b1 R0 ZB HA C1
    go_wp2_with fail
    clear c2 c3
    refine (C2.out _).mono ?_
    rintro en w2 ⟨r2, o2, s2, u2, rfl, A1, A2, b2⟩
    have R2 := hid (R1.out.on b2)
    have B2 := hid (below_on B1.out b2)
    have H2 := hid (H1.out.below b2 (Nat.le_refl _))
    have L2 := hid (L1.out.below b2 (Nat.le_refl _))
    have D2 := hid (D1.out.below b2 (Nat.le_refl _))
    have U2 := hid A1
    have TM := hid (times_any r s1 _ _ _ _ os u1 w2 H2.out (D2.out.argT q3.out) TS.out (Nat.le_trans (D2.out.tsT q3.out) (by omega)))
    rw [HV.out, D2.out.2.2.2.1] at TM
    clear A1 A2 b2 R1 B1 H1 L1 D1 C2
    go_wp2_with fail
    refine TM.out.mono ?_
    rintro en w3 ⟨r3, o3, rfl, A5, b3⟩
    have R3 := hid (R2.out.on b3)
    have B3 := hid (below_on B2.out b3)
    have L3 := hid (L2.out.below b3 (Nat.le_refl _))
    have U3 := hid (U2.out.below b3 (Nat.le_refl _))
    have X3 := hid A5
    have K1 := hid (refCmp_any r1 r3 _ _ _ _ o1 o3 w3 (L3.out.argT q1.out) (X3.out.argT q4.out))
    rw [L3.out.2.2.2.1, X3.out.2.2.2.1] at K1
    clear A5 b3 R2 B2 H2 L2 D2 U2 TM
    go_wp2_with fail
    refine K1.out.mono ?_
    rintro en w4 ⟨rfl, b4⟩
    have R4 := hid (R3.out.on b4)
    have B4 := hid (below_on B3.out b4)
    have U4 := hid (U3.out.below b4 (Nat.le_refl _))
    have X4 := hid (X3.out.below b4 (Nat.le_refl _))
    have K2 := hid (refCmp_any r3 r2 _ _ _ _ o3 o2 w4 (X4.out.argT q4.out) (U4.out.argT q2.out))
    rw [U4.out.2.2.2.1, X4.out.2.2.2.1] at K2
    clear b4 R3 B3 L3 U3 X3 K1
    go_wp2_with fail
    refine K2.out.mono ?_
    rintro en w5 ⟨rfl, b5⟩
    have R5 := hid (R4.out.on b5)
    have B5 := hid (below_on B4.out b5)
    obtain ⟨⟨-, -, -, -, c4⟩, -⟩ := R5.out.cells
    clear b5 R4 B4 U4 X4 K2
    generalize cmpI NL (k * DE) = p1 at *
    generalize cmpI (k * DE) NH = p2 at *
    have E2 := E.out
    by_cases g1 : p1 < 0
    · have E3 : Hid (bb = decide (p2 < 0)) := by show _ = _; rw [E2, decide_eq_true g1]; rfl
      clear E2
      go_wp2_with fail
      go_ret
      exact ⟨by rw [E3.out]; rfl, B5.out⟩
    · have E3 : Hid (bb = false) := by show _ = _; rw [E2, decide_eq_false g1]; rfl
      clear E2
      go_wp2_with fail
      go_ret
      exact ⟨by rw [E3.out]; rfl, B5.out⟩
end Go.Proofs.YtonnlimmjelldaaGreatDoor

namespace Go.Proofs.YtonnlimmjelldaaGreatDoor
open Go Go.RowKit Go.Deep

def ChTold (a S : Int) (w : World) (en : Ending) (w' : World) : Prop := ∃ r os, en = .returned (.tuple #[.slice r (List.length os) (List.length os), .bool (Tn.co a S)]) ∧ Ans w.heap.size w' r os (Tn.ck a S) ∧ Below w.heap.size w w'
namespace Tn
open Sh
theorem side_is {N D U S : Int} (hD : 0 < D) (hS : 0 < S) (h : N * S = U * D) :
    (0 < Go.Proofs.YtonnlimmjelldaaGreatDoor.cmpI (N % D) (D - N % D) ↔ S < 2 * (U % S)) ∧ (Go.Proofs.YtonnlimmjelldaaGreatDoor.cmpI (N % D) (D - N % D) = 0 ↔ S = 2 * (U % S)) := by
  obtain ⟨-, d2⟩ := div_eq hD hS h
  obtain ⟨r1, r2⟩ := rest_lt hD hS d2
  have c := cm_c (N % D) (D - N % D)
  rw [← r1, ← r2]
  omega
theorem zero_is {N D U S : Int} (hD : 0 < D) (hS : 0 < S) (h : N * S = U * D) : N % D = 0 ↔ U % S = 0 := by
  obtain ⟨-, d2⟩ := div_eq hD hS h
  constructor
  · intro c
    rw [c, Int.zero_mul] at d2
    rcases Int.mul_eq_zero.1 d2.symm with q | q <;> omega
  · intro c
    rw [c, Int.zero_mul] at d2
    rcases Int.mul_eq_zero.1 d2 with q | q <;> omega
end Tn

set_option maxRecDepth 100000 in
set_option maxHeartbeats 8000000 in
theorem xchoose_any (a e : Int) (w : World) (a0 : 0 < a) (a1 : a < 9218868437227405312) (e0 : -1000 ≤ e) (e1 : e ≤ 1000) (hK : Sh.V a / Tn.S e + 1 < 10 ^ 60) :
    Calls Tryz.prog 32 #[Tn.spv a, .int .i64 e] w fun en w' => ChTold a (Tn.S e) w en w' := by
  obtain ⟨m0, m1, m2, x1⟩ := Tn.man_bd a0 a1
  obtain ⟨x, hx⟩ : ∃ x, x = (Ie.ex a : Int) - 1076 := ⟨_, rfl⟩
  have C1 := hid (fun wx => xscaled_any (4 * Ie.man a) x e wx (by omega) (by omega) (by omega) (by omega) (by omega) (by omega))
  have q1 : Hid (Tn.nu (4 * Ie.man a) x e < Nm.pw 4096) := pw_bdm (by omega) (by omega) (by omega)
  have q3 : Hid (Tn.de x e < Nm.pw 4096) := pw_bd (by omega)
  have DP := hid (Tn.de_pos x e)
  have n0 : Hid (0 ≤ Tn.nu (4 * Ie.man a) x e) := Int.mul_nonneg (Int.mul_nonneg (by omega) (Int.le_of_lt (Int.pow_pos (by omega)))) (Int.le_of_lt (Int.pow_pos (by omega)))
  have SC := hid (Tn.sc_is (e := e) hx (by omega) (Tn.mid_V a))
  have IN := hid (fun (k : Int) r os wx h1 h2 h3 => xinside_any a k e r os wx a0 a1 e0 e1 h1 h2 h3)
  have V0 := hid (Sh.V_nn (Int.le_of_lt a0))
  have SP := hid (Tn.S_pos e)
  unfold Tn.spv at IN ⊢
  rw [← hx] at IN ⊢
  unfold ScTold at C1
  rw [← Tn.nu, ← Tn.de] at C1
  have R0 := hid (R5.new w (.int .u64 (4 * Ie.man a)) (.int .u64 (Tn.lo a)) (.int .u64 (4 * Ie.man a + 2)) (.int .i64 x) (.bool (decide (a % 2 = 0))))
  have ZB := hid (alloc_b w (.cells #[.int .u64 (4 * Ie.man a), .int .u64 (Tn.lo a), .int .u64 (4 * Ie.man a + 2), .int .i64 x, .bool (decide (a % 2 = 0))] 56))
  have EQ := hid (Tn.div_eq DP.out SP.out SC.out)
  have EZ := hid (Tn.zero_is DP.out SP.out SC.out)
  have ES := hid (Tn.side_is DP.out SP.out SC.out)
  have F0 : Hid (0 ≤ Sh.V a / Tn.S e) := Int.ediv_nonneg V0.out (Int.le_of_lt SP.out)
  have HK := hid hK
  -- what is told
  have T1 : Hid (Sh.V a % Tn.S e = 0 → Tn.co a (Tn.S e) = true ∧ Tn.ck a (Tn.S e) = Sh.V a / Tn.S e) := fun h => ⟨by rw [Tn.co, if_pos h], by rw [Tn.ck, if_pos h]⟩
  have T2 : Hid (¬ Sh.V a % Tn.S e = 0 → Sh.inB a (Sh.V a / Tn.S e * Tn.S e) = false → Tn.co a (Tn.S e) = Sh.inB a ((Sh.V a / Tn.S e + 1) * Tn.S e) ∧ Tn.ck a (Tn.S e) = Sh.V a / Tn.S e + 1) := fun h h2 => ⟨by rw [Tn.co, if_neg h, if_pos h2], by rw [Tn.ck, if_neg h, if_pos h2]⟩
  have T3 : Hid (¬ Sh.V a % Tn.S e = 0 → Sh.inB a (Sh.V a / Tn.S e * Tn.S e) = true → Tn.co a (Tn.S e) = true) := fun h h2 => by rw [Tn.co, if_neg h, if_neg (by rw [h2]; decide)]
  have T4 : Hid (¬ Sh.V a % Tn.S e = 0 → Sh.inB a (Sh.V a / Tn.S e * Tn.S e) = true → Sh.inB a ((Sh.V a / Tn.S e + 1) * Tn.S e) = false → Tn.ck a (Tn.S e) = Sh.V a / Tn.S e) := fun h h2 h3 => by rw [Tn.ck, if_neg h, if_neg (by rw [h2]; decide), if_pos h3]
  have T5 : Hid (¬ Sh.V a % Tn.S e = 0 → Sh.inB a (Sh.V a / Tn.S e * Tn.S e) = true → Sh.inB a ((Sh.V a / Tn.S e + 1) * Tn.S e) = true → Tn.ck a (Tn.S e) = if Sh.upB (Sh.V a) (Tn.S e) = true then Sh.V a / Tn.S e + 1 else Sh.V a / Tn.S e) := fun h h2 h3 => by rw [Tn.ck, if_neg h, if_neg (by rw [h2]; decide), if_neg (by rw [h3]; decide)]
  have UP : Hid (Sh.upB (Sh.V a) (Tn.S e) = decide (Tn.S e < 2 * (Sh.V a % Tn.S e) ∨ (Tn.S e = 2 * (Sh.V a % Tn.S e) ∧ (Sh.V a / Tn.S e) % 2 = 1))) := rfl
  unfold ChTold
  generalize Tn.nu (4 * Ie.man a) x e = NM at *
  generalize Tn.de x e = DE at *
  generalize Sh.V a = VV at *
  generalize Tn.S e = SS at *
  generalize Tn.co a SS = oc at *
  generalize Tn.ck a SS = kc at *
  generalize Sh.upB VV SS = ub at *
  generalize VV % SS = VR at *
  generalize VV / SS = VQ at *
  generalize 4 * Ie.man a + 2 = vh at *
  generalize 4 * Ie.man a = vm at *
  generalize Tn.lo a = vl at *
  generalize decide (a % 2 = 0) = cb at *
  clear hK hx a0 a1 e0 e1 m0 m1 m2 x1 V0
  go_enter Tryz.func32, Tryz.ntmps32
  go_wp2_with fail
  refine (C1.out _).mono ?_
  rintro en w1 ⟨r1, o1, s1, u1, rfl, A1, A2, b1⟩
  have R1 := hid (R0.out.on b1)
  have B1 := hid (below_on ZB.out b1)
  have D1 := hid A2
  have tp : 0 < Nm.tsize u1 := by
    rcases Nat.eq_zero_or_pos (Nm.tsize u1) with c | c
    · have q := (Nm.tsize_zero_iff A2.2.1).1 c
      rw [A2.2.2.2.1] at q
      have := DP.out
      omega
    · exact c
  have DV := hid (refDivide_any r1 s1 _ _ _ _ o1 u1 w1 (A1.argT q1.out) (A2.argT q3.out) (A1.tsT q1.out) (A2.tsT q3.out) tp)
  rw [A1.2.2.2.1, A2.2.2.2.1] at DV
  unfold Parts at DV
  rw [EQ.out.1] at DV
  clear A1 A2 b1 R0 ZB C1 tp
  go_wp2_with fail
  refine DV.out.mono ?_
  rintro en w2 ⟨r2, o2, r3, o3, rfl, A3, A4, b2⟩
  have R2 := hid (R1.out.on b2)
  have B2 := hid (below_on B1.out b2)
  have D2 := hid (D1.out.below b2 (Nat.le_refl _))
  have Q2 := hid (A3.upT B1.out.size)
  have S2 := hid A4
  have qq : Hid (VQ + 1 < Nm.pw 4096) := by
    show _ < _
    have h1 := pw_bd (a := 60) (b := 0) (by omega)
    rw [Int.pow_zero, Int.mul_one] at h1
    exact Int.lt_trans HK.out h1
  have rq : Hid (NM % DE < Nm.pw 4096) := Int.lt_trans (Int.emod_lt_of_pos _ DP.out) q3.out
  have rd : Hid (DE - NM % DE < Nm.pw 4096) := by have := Int.emod_nonneg NM (show DE ≠ 0 by have := DP.out; omega); have := q3.out; show _ < _; omega
  have rl : Hid (NM % DE ≤ DE) := Int.le_of_lt (Int.emod_lt_of_pos _ DP.out)
  have SZ := hid (refSize_any r3 _ (List.length o3) o3 w2 rfl (by have := A4.small rq.out; omega) A4.1)
  have ZI : Hid (Nm.tsize o3 = 0 ↔ VR = 0) := by show _ ↔ _; rw [Nm.tsize_zero_iff A4.2.1, A4.2.2.2.1]; exact EZ.out
  clear A3 A4 b2 R1 B1 D1 DV EQ EZ
  go_wp2_with fail
  refine SZ.out.mono ?_
  rintro en w2' ⟨rfl, hw⟩
  rw [hw]
  clear hw SZ w2'
  generalize Nm.tsize o3 = tz at *
  by_cases hz : VR = 0
  · have tz0 : tz = 0 := ZI.out.2 hz
    subst tz0
    obtain ⟨t1, t2⟩ := T1.out hz
    have F : Hid (Ans w.heap.size w2 r2 o2 kc ∧ Below w.heap.size w w2) := ⟨by rw [t2]; exact Q2.out, B2.out⟩
    clear T1 T2 T3 T4 T5 hz t2
    go_wp2_with fail
    go_ret2
    exact ⟨r2, o2, by rw [t1]; rfl, F.out⟩
  · have tz1 : ¬ tz = 0 := fun c => hz (ZI.out.1 c)
    have tzi : ((tz : Int) == 0) = false := beq_eq_false_iff_ne.2 (by omega)
    have t2 := hid (T2.out hz)
    have t3 := hid (T3.out hz)
    have t4 := hid (T4.out hz)
    have t5 := hid (T5.out hz)
    clear T1 T2 T3 T4 T5 hz ZI tz1
    have A1 : Hid (Arg (w2.alloc (.cells #[.int .u64 1] 26)) (some ⟨w2.heap.size, 0, none⟩) 1 1 [1]) := ⟨rfl, Nat.le_refl _, by omega, (Own.alloc w2 [1]).lies, limb_one ⟨by omega, by omega⟩⟩
    have bO := hid (alloc_b w2 (.cells #[.int .u64 1] 26))
    have qz : Hid (VQ < Nm.pw 4096) := by have := qq.out; show _ < _; omega
    have PL := hid (plus_any r2 (some ⟨w2.heap.size, 0, none⟩) _ _ 1 1 o2 [1] (w2.alloc (.cells #[.int .u64 1] 26)) ((Q2.out.below bO.out (Nat.le_refl _)).argT qz.out) A1.out (Nat.le_trans (Q2.out.tsT qz.out) (by omega)) (Nat.le_trans (Nm.tsize_le _) (by simp)))
    rw [Q2.out.2.2.2.1, show Nm.val [1] = 1 by simp [Nm.val]] at PL
    go_wp2_with fail
    refine PL.out.mono ?_
    rintro en w3 ⟨r4, o4, rfl, A5, b3⟩
    have b23 := bO.out.trans (b3.mono bO.out.size)
    have R3 := hid (R2.out.on b23)
    have B3 := hid (below_on B2.out b23)
    have D3 := hid (D2.out.below b23 (Nat.le_refl _))
    have Q3 := hid (Q2.out.below b23 (Nat.le_refl _))
    have S3 := hid (S2.out.below b23 (Nat.le_refl _))
    have P3 := hid (A5.upT (Nat.le_trans B2.out.size bO.out.size))
    have I1 := hid (IN.out VQ r2 o2 w3 (Q3.out.argT qz.out) Q3.out.2.2.2.1 (by have := HK.out; omega))
    obtain ⟨⟨c0, c1, c2, c3, c4⟩, -⟩ := R3.out.cells
    clear A5 b3 b23 R2 B2 D2 Q2 S2 A1 bO PL
    generalize Sh.inB a (VQ * SS) = okf at *
    go_wp2_with fail
    clear c0 c1 c2 c3 c4
    refine I1.out.mono ?_
    rintro en w4 ⟨rfl, b4⟩
    have R4 := hid (R3.out.on b4)
    have B4 := hid (below_on B3.out b4)
    have D4 := hid (D3.out.below b4 (Nat.le_refl _))
    have Q4 := hid (Q3.out.below b4 (Nat.le_refl _))
    have S4 := hid (S3.out.below b4 (Nat.le_refl _))
    have P4 := hid (P3.out.below b4 (Nat.le_refl _))
    have I2 := hid (IN.out (VQ + 1) r4 o4 w4 (P4.out.argT qq.out) P4.out.2.2.2.1 HK.out)
    obtain ⟨⟨c0, c1, c2, c3, c4⟩, -⟩ := R4.out.cells
    clear b4 R3 B3 D3 Q3 S3 P3 I1 IN
    generalize Sh.inB a ((VQ + 1) * SS) = okc at *
    go_wp2_with fail
    clear c0 c1 c2 c3 c4
    refine I2.out.mono ?_
    rintro en w5 ⟨rfl, b5⟩
    have B5 := hid (below_on B4.out b5)
    have D5 := hid (D4.out.below b5 (Nat.le_refl _))
    have Q5 := hid (Q4.out.below b5 (Nat.le_refl _))
    have S5 := hid (S4.out.below b5 (Nat.le_refl _))
    have P5 := hid (P4.out.below b5 (Nat.le_refl _))
    clear b5 R4 B4 D4 Q4 S4 P4 I2
    cases okf with
    | false =>
      obtain ⟨t6, t7⟩ := t2.out rfl
      have F : Hid (Ans w.heap.size w5 r4 o4 kc ∧ Below w.heap.size w w5) := ⟨by rw [t7]; exact P5.out, B5.out⟩
      have G := hid t6
      clear t2 t3 t4 t5 t6 t7
      go_wp2_with fail
      go_ret2
      exact ⟨r4, o4, by rw [G.out]; rfl, F.out⟩
    | true =>
      have t6 := hid (t3.out rfl)
      cases okc with
      | false =>
        have F : Hid (Ans w.heap.size w5 r2 o2 kc ∧ Below w.heap.size w w5) := ⟨by rw [t4.out rfl rfl]; exact Q5.out, B5.out⟩
        clear t2 t3 t4 t5
        go_wp2_with fail
        go_ret2
        exact ⟨r2, o2, by rw [t6.out]; rfl, F.out⟩
      | true =>
        have t7 := hid (t5.out rfl rfl)
        clear t2 t3 t4 t5
        have LE := hid (less_any s1 r3 _ _ _ _ u1 o3 w5 (D5.out.argT q3.out) (S5.out.argT rq.out) (Nat.le_trans (D5.out.tsT q3.out) (by omega)) (by rw [D5.out.2.2.2.1, S5.out.2.2.2.1]; exact rl.out))
        rw [D5.out.2.2.2.1, S5.out.2.2.2.1] at LE
        go_wp2_with fail
        refine LE.out.mono ?_
        rintro en w6 ⟨r6, o6, rfl, A6, b6⟩
        have B6 := hid (below_on B5.out b6)
        have Q6 := hid (Q5.out.below b6 (Nat.le_refl _))
        have S6 := hid (S5.out.below b6 (Nat.le_refl _))
        have P6 := hid (P5.out.below b6 (Nat.le_refl _))
        have K1 := hid (refCmp_any r3 r6 _ _ _ _ o3 o6 w6 (S6.out.argT rq.out) (A6.argT rd.out))
        rw [S6.out.2.2.2.1, A6.2.2.2.1] at K1
        clear A6 b6 B5 D5 Q5 S5 P5 LE
        go_wp2_with fail
        refine K1.out.mono ?_
        rintro en w7 ⟨rfl, b7⟩
        have B7 := hid (below_on B6.out b7)
        have Q7 := hid (Q6.out.below b7 (Nat.le_refl _))
        have P7 := hid (P6.out.below b7 (Nat.le_refl _))
        have BT := hid (refBit_any r2 _ _ o2 0 0 w7 (Q7.out.argT qz.out) (by omega) rfl)
        rw [Q7.out.2.2.2.1, Int.pow_zero, Int.ediv_one] at BT
        clear b7 B6 Q6 S6 P6 K1
        obtain ⟨s1', s2'⟩ := ES.out
        generalize cmpI (NM % DE) (DE - NM % DE) = sd at *
        by_cases g1 : 0 < sd
        · have u1' : ub = true := by rw [UP.out]; exact decide_eq_true (.inl (s1'.1 g1))
          have F : Hid (Ans w.heap.size w7 r4 o4 kc ∧ Below w.heap.size w w7) := ⟨by rw [t7.out, if_pos u1']; exact P7.out, B7.out⟩
          clear s1' s2' u1' t7 BT UP ES
          go_wp2_with fail
          go_ret2
          exact ⟨r4, o4, by rw [t6.out]; rfl, F.out⟩
        · by_cases g2 : sd = 0
          · have g2b : (sd == 0) = true := beq_iff_eq.2 g2
            by_cases g3 : VQ % 2 = 1
            · have u1' : ub = true := by rw [UP.out]; exact decide_eq_true (.inr ⟨s2'.1 g2, g3⟩)
              have F : Hid (Ans w.heap.size w7 r4 o4 kc ∧ Below w.heap.size w w7) := ⟨by rw [t7.out, if_pos u1']; exact P7.out, B7.out⟩
              rw [g3] at BT
              clear s1' s2' u1' t7 UP ES g2 g3
              go_wp2_with fail
              refine BT.out.mono ?_
              rintro en w8 ⟨rfl, hw⟩
              rw [hw]
              clear hw BT
              go_wp2_with fail
              go_ret2
              exact ⟨r4, o4, by rw [t6.out]; rfl, F.out⟩
            · have u1' : ¬ ub = true := by rw [UP.out, decide_eq_true_iff]; rintro (c | c); exact g1 (s1'.2 c); exact g3 c.2
              have F : Hid (Ans w.heap.size w7 r2 o2 kc ∧ Below w.heap.size w w7) := ⟨by rw [t7.out, if_neg u1']; exact Q7.out, B7.out⟩
              rw [show VQ % 2 = 0 by omega] at BT
              clear s1' s2' u1' t7 UP ES g2 g3
              go_wp2_with fail
              refine BT.out.mono ?_
              rintro en w8 ⟨rfl, hw⟩
              rw [hw]
              clear hw BT
              go_wp2_with fail
              go_ret2
              exact ⟨r2, o2, by rw [t6.out]; rfl, F.out⟩
          · have g2b : (sd == 0) = false := beq_eq_false_iff_ne.2 g2
            have u1' : ¬ ub = true := by rw [UP.out, decide_eq_true_iff]; rintro (c | c); exact g1 (s1'.2 c); exact g2 (s2'.2 c.1)
            have F : Hid (Ans w.heap.size w7 r2 o2 kc ∧ Below w.heap.size w w7) := ⟨by rw [t7.out, if_neg u1']; exact Q7.out, B7.out⟩
            clear s1' s2' u1' t7 UP ES g2 BT
            go_wp2_with fail
            go_ret2
            exact ⟨r2, o2, by rw [t6.out]; rfl, F.out⟩
end Go.Proofs.YtonnlimmjelldaaGreatDoor

namespace Go.Proofs.YtonnlimmjelldaaGreatDoor
namespace Gn
/-- The number of a row of digits, lowest first. -/
def gv (B : Int) : List Int → Int
  | [] => 0
  | z :: zs => z + B * gv B zs

def pb (B : Int) : Nat → Int
  | 0 => 1
  | k + 1 => B * pb B k

def Digs (B : Int) (zs : List Int) : Prop := ∀ z ∈ zs, 0 ≤ z ∧ z < B

theorem gv_snoc (B : Int) : ∀ (zs : List Int) (x : Int), gv B (zs ++ [x]) = gv B zs + pb B zs.length * x
  | [], x => by simp [gv, pb]
  | z :: zs, x => by
    simp only [List.cons_append, gv, gv_snoc B zs x, List.length_cons, pb, Int.mul_add, Int.mul_assoc]
    omega

theorem gv_take_succ (B : Int) (zs : List Int) (k : Nat) (h : k < zs.length) : gv B (zs.take (k + 1)) = gv B (zs.take k) + pb B k * zs.getD k 0 := by
  rw [Nm.take_snoc zs k h, gv_snoc, List.length_take, Nat.min_eq_left (by omega)]

theorem gv_set (B : Int) : ∀ (zs : List Int) (i : Nat) (s : Int), i < zs.length → gv B (zs.set i s) = gv B zs + pb B i * (s - zs.getD i 0)
  | [], _, _, h => by simp at h
  | z :: zs, 0, s, _ => by simp only [List.set_cons_zero, gv, pb, List.getD_cons_zero]; omega
  | z :: zs, i + 1, s, h => by
    have := gv_set B zs i s (by simpa using h)
    simp only [List.set_cons_succ, gv, pb, List.getD_cons_succ, this, Int.mul_add, Int.mul_assoc]
    omega

theorem Digs.set {B : Int} {zs : List Int} (h : Digs B zs) (i : Nat) {s : Int} (h0 : 0 ≤ s) (h1 : s < B) : Digs B (zs.set i s) := by
  intro z hz
  rcases List.mem_or_eq_of_mem_set hz with a | rfl
  · exact h z a
  · exact ⟨h0, h1⟩

theorem Digs.snoc {B : Int} {zs : List Int} (h : Digs B zs) {s : Int} (h0 : 0 ≤ s) (h1 : s < B) : Digs B (zs ++ [s]) := by
  intro z hz
  rcases List.mem_append.1 hz with a | a
  · exact h z a
  · simp at a
    subst a
    exact ⟨h0, h1⟩

theorem Digs.at {B : Int} {zs : List Int} (h : Digs B zs) (hB : 0 < B) (i : Nat) : 0 ≤ zs.getD i 0 ∧ zs.getD i 0 < B := by
  by_cases hi : i < zs.length
  · have : zs.getD i 0 = zs[i] := by simp [List.getD, hi]
    rw [this]
    exact h _ (List.getElem_mem hi)
  · simp [List.getD, List.getElem?_eq_none (Nat.le_of_not_lt hi), hB]

theorem grow_step {B p h m c lo c' T U X : Int} (he : lo + B * c' = h * m + c) (hI : X + p * c = m * T + U) : X + p * (lo - h) + p * B * c' = m * (T + p * h) + (U - p * h) := by
  have e1 : p * lo + p * (B * c') = p * (h * m) + p * c := by rw [← Int.mul_add, ← Int.mul_add, he]
  have e2 : p * (h * m) = m * (p * h) := by rw [← Int.mul_assoc, Int.mul_comm]
  rw [Int.mul_sub, Int.mul_add, Int.mul_assoc]
  omega
end Gn
open Go.RowKit Go.Deep

/-- What times tells. -/
def TimesTold (base : Nat) (B : Int) (gs : List Int) (c : Int) (w : World) (e : Ending) (w' : World) : Prop :=
  ∃ mv gs', e = .returned mv ∧ Row64 base w' mv gs' ∧ Gn.Digs B gs' ∧ Gn.gv B gs' = 4294967296 * Gn.gv B gs + c ∧ gs'.length ≤ gs.length + 2 ∧ Below base w w'

def TInv (base : Nat) (B : Int) (hs os : List Int) (c0 c : Int) (i : Nat) (mv : Value) (w wr : World) : Prop :=
  Row64 base wr mv os ∧ os.length = hs.length ∧ Gn.Digs B os ∧ (∀ j, i ≤ j → os.getD j 0 = hs.getD j 0) ∧ Gn.gv B os + Gn.pb B i * c = 4294967296 * Gn.gv B (hs.take i) + (Gn.gv B hs - Gn.gv B (hs.take i) + c0) ∧ Below base w wr

theorem TInv.step {base : Nat} {B : Int} {hs os : List Int} {c0 c : Int} {i g n cap : Nat} {w wr : World} (I : TInv base B hs os c0 c i (.slice (some ⟨g, 0, none⟩) n cap) w wr) (hi : i < hs.length) {lo c' : Int} (he : lo + B * c' = hs.getD i 0 * 4294967296 + c) (h0 : 0 ≤ lo) (h1 : lo < B) (hb : base ≤ g) :
    TInv base B hs (os.set i lo) c0 c' (i + 1) (.slice (some ⟨g, 0, none⟩) n cap) w (wr.setCell ⟨g, i, none⟩ (.int .u64 lo)) := by
  obtain ⟨i1, i2, i3, i4, i5, i6⟩ := I
  refine ⟨i1.set i lo, by simpa using i2, i3.set i h0 h1, fun j hj => ?_, ?_, i6.trans ⟨rfl, rfl, rfl, by simp [World.setCell], fun j hj => ?_⟩⟩
  · rw [← i4 j (by omega)]
    simp [List.getD, show ¬ i = j by omega]
  · rw [Gn.gv_set B os i lo (by omega), i4 i (Nat.le_refl _), Gn.gv_take_succ B hs i hi]
    have := Gn.grow_step he i5
    rw [Gn.pb]
    generalize Gn.pb B i = p at *
    rw [show B * p * c' = p * B * c' by rw [Int.mul_comm B p]]
    omega
  · simp only [World.setCell, Array.getElem?_modify]
    rw [if_neg (by omega)]

def UInv (base : Nat) (B : Int) (hs os : List Int) (c0 c : Int) (mv : Value) (w wr : World) : Prop :=
  Row64 base wr mv os ∧ Gn.Digs B os ∧ Gn.gv B os + Gn.pb B os.length * c = 4294967296 * Gn.gv B hs + c0 ∧ Below base w wr ∧ (os.length = hs.length ∧ c < 4294967296 ∨ os.length = hs.length + 1 ∧ c < 65536 ∨ os.length = hs.length + 2 ∧ c ≤ 0)

theorem UInv.step {base : Nat} {B : Int} {hs os : List Int} {c0 c : Int} {mv : Value} {w wr : World} (I : UInv base B hs os c0 c mv w wr) (hB : 65536 ≤ B) (hl : hs.length ≤ 1000000) (hc : 0 < c) (hb : base ≤ w.heap.size) :
    ∃ mv' w', (Builtin.append_ #[59, 59] 59 #[mv, .slice (some ⟨wr.heap.size, 0, none⟩) 1 1]).run Tryz.prog (wr.alloc (.cells #[.int .u64 (c % B)] 26)) = .ok mv' w' ∧ UInv base B hs (os ++ [c % B]) c0 (c / B) mv' w w' := by
  obtain ⟨i1, i2, i3, i4, i5⟩ := I
  obtain ⟨mv', w2, ap, r2, z2, b2, _⟩ := i1.push (c % B) (by omega) (by have := i4.size; omega)
  refine ⟨mv', w2, ap, r2, i2.snoc (Int.emod_nonneg _ (by omega)) (Int.emod_lt_of_pos _ (by omega)), ?_, i4.trans b2, ?_⟩
  · rw [Gn.gv_snoc, List.length_append, List.length_cons, List.length_nil, Nat.zero_add, Gn.pb, ← i3]
    have e := Int.emod_add_mul_ediv c B
    generalize Gn.pb B os.length = q
    rw [Int.mul_comm B q, Int.mul_assoc, Int.add_assoc, ← Int.mul_add, e]
  · have h1 : c < 4294967296 → c / B < 65536 := fun h => Int.ediv_lt_of_lt_mul (by omega) (by omega)
    have h2 : c < 65536 → c / B < 1 := fun h => Int.ediv_lt_of_lt_mul (by omega) (by omega)
    rw [List.length_append, List.length_cons, List.length_nil]
    omega

set_option maxRecDepth 100000 in
set_option maxHeartbeats 2000000 in
theorem stimes_any (base : Nat) (mv : Value) (hs : List Int) (B c : Int) (w : World) (hr : Row64 base w mv hs) (hh : Gn.Digs B hs) (hl : hs.length ≤ 1000000) (hm0 : 65536 ≤ B) (hm1 : B < 2147483648) (hc0 : 0 ≤ c) (hc1 : c < 4294967296) (hb : base ≤ w.heap.size) :
    Calls Tryz.prog 135 #[mv, .int .u64 c, .int .u64 B] w fun e w' => TimesTold base B hs c w e w' := by
  obtain ⟨pm, cp, hmv⟩ := hr.shape
  subst hmv
  obtain ⟨n, HN⟩ : ∃ n, Hid (hs.length = n) := ⟨_, rfl⟩
  rw [HN.out] at hr ⊢
  have hn : (n : Int) ≤ 1000000 := by have := HN.out; omega
  have I0 : Hid (TInv base B hs hs c c 0 (.slice pm n cp) w w) := ⟨hr, rfl, hh, fun _ _ => rfl, by simp [Gn.gv, Gn.pb], Below.refl _ _⟩
  have HH := hid hh
  have HB := hid hb
  have GB : Hid (0 < n → ∃ g, pm = some ⟨g, 0, none⟩ ∧ base ≤ g) := fun h => by
    rcases hr.2 with ⟨e, _⟩ | ⟨g, cap, cur, e, h1, _⟩
    · simp only [Value.slice.injEq] at e
      omega
    · simp only [Value.slice.injEq] at e
      exact ⟨g, e.1, h1⟩
  obtain ⟨cc, HCC⟩ : ∃ cc, Hid (c = cc) := ⟨_, rfl⟩
  rw [HCC.out] at I0
  have hcc0 : 0 ≤ cc := by have := HCC.out; omega
  have hcc1 : cc < 4294967296 := by have := HCC.out; omega
  rw [HCC.out]
  clear hr hh hb hc0 hc1 hl HCC
  have hB0 : B ≠ 0 := by omega
  go_enter Tryz.func135, Tryz.ntmps135
  go_wp2_with fail
  go_loopw [1, 7, 8] (fun a i _ wr => ∃ (j : Nat) (x : Int) (os : List Int), a = .int .u64 x ∧ i = .int .i64 (j : Int) ∧ j ≤ n ∧ 0 ≤ x ∧ x < 4294967296 ∧ Hid (TInv base B hs os cc x j (.slice pm n cp) w wr)) (fun _ i _ _ => n - (intOf i).toNat)
  case atStart => exact ⟨0, cc, hs, rfl, rfl, Nat.zero_le _, hcc0, hcc1, I0.out⟩
  case round =>
    clear I0
    obtain ⟨j, x, os, rfl, rfl, hj, hx0, hx1, I⟩ := hrel
    by_cases hlt : j < n
    · have hji : (j : Int) < (n : Int) := by omega
      obtain ⟨g, hg, hbg⟩ := GB.out (by omega)
      subst hg
      obtain ⟨h, hH⟩ : ∃ h, Hid (hs.getD j 0 = h) := ⟨_, rfl⟩
      have hcell : wr.cell? ⟨g, j, none⟩ = some (.int .u64 h) := by
        obtain ⟨g', cp', e, cs⟩ := I.out.1.cells (fun c => by have h1 := I.out.2.1; rw [c] at h1; have := HN.out; simp at h1; omega)
        simp only [Value.slice.injEq, Option.some.injEq] at e
        obtain ⟨e1, _, _⟩ := e
        cases e1
        have := cs j (by have := I.out.2.1; have := HN.out; omega)
        rw [Nat.zero_add, I.out.2.2.2.1 j (Nat.le_refl _), hH.out] at this
        exact this
      have hfr := I.out.1.free j
      have hhb := HH.out.at (by omega) j
      rw [hH.out] at hhb
      obtain ⟨h0, h1⟩ := hhb
      obtain ⟨p, hp, P⟩ : ∃ p, IntKind.u64.wrap (h * 4294967296) = p ∧ Hid (p = h * 4294967296) := ⟨_, by rw [IntKind.wrap_u64, Int.emod_eq_of_lt (by omega) (by omega)], rfl⟩
      have p0 : 0 ≤ p := by have := P.out; omega
      have p1 : p < 9223372036854775808 := by have := P.out; omega
      obtain ⟨t, ht, T⟩ : ∃ t, IntKind.u64.wrap (p + x) = t ∧ Hid (t = p + x) := ⟨_, by rw [IntKind.wrap_u64, Int.emod_eq_of_lt (by omega) (by omega)], rfl⟩
      have t0 : 0 ≤ t := by have := T.out; omega
      obtain ⟨lo, hlo⟩ : ∃ lo, t % B = lo := ⟨_, rfl⟩
      obtain ⟨c', hc'⟩ : ∃ c', t / B = c' := ⟨_, rfl⟩
      have l0 : 0 ≤ lo := by rw [← hlo]; exact Int.emod_nonneg _ hB0
      have l1 : lo < B := by rw [← hlo]; exact Int.emod_lt_of_pos _ (by omega)
      have c0 : 0 ≤ c' := by rw [← hc']; exact Int.ediv_nonneg t0 (by omega)
      have c1 : c' < 4294967296 := by
        rw [← hc']
        refine Int.ediv_lt_of_lt_mul (by omega) ?_
        have := P.out
        have := T.out
        omega
      have e : lo + B * c' = h * 4294967296 + x := by
        have := Int.emod_add_mul_ediv t B
        rw [hlo, hc'] at this
        have := P.out
        have := T.out
        omega
      have hlo2 : t.tmod B = lo := by rw [Int.tmod_eq_emod_of_nonneg t0]; exact hlo
      have hc2 : t.tdiv B = c' := by rw [Int.tdiv_eq_ediv_of_nonneg t0]; exact hc'
      have ST : Hid (TInv base B hs (os.set j lo) cc c' (j + 1) (.slice (some ⟨g, 0, none⟩) n cp) w (wr.setCell ⟨g, j, none⟩ (.int .u64 lo))) := I.out.step (by have := HN.out; omega) (by rw [hH.out]; omega) l0 l1 hbg
      clear I e
      go_wp2_with fail
      go_roundw
      case rel => exact ⟨j + 1, c', _, by first | rfl | rw [hc'], by go_num, by omega, c0, c1, ST.out⟩
      case measure => simp [intOf]; omega
    · obtain rfl : j = n := by omega
      obtain ⟨i1, i2, i3, i4, i5, i6⟩ := I.out
      rw [List.take_of_length_le (by have := HN.out; omega), show Gn.gv B hs - Gn.gv B hs + cc = cc by omega] at i5
      have U0 : Hid (UInv base B hs os cc x (.slice pm j cp) w wr) := ⟨i1, i3, by rw [i2, HN.out]; exact i5, i6, .inl ⟨i2, hx1⟩⟩
      clear I i1 i2 i3 i4 i5 i6
      go_wp2_with fail
      go_loopw [0, 1] (fun a c w2 => ∃ (mv2 : Value) (y : Int) (os2 : List Int), a = mv2 ∧ c = .int .u64 y ∧ 0 ≤ y ∧ y < 4294967296 ∧ Hid (UInv base B hs os2 cc y mv2 w w2)) (fun _ c _ => (intOf c).toNat)
      case atStart => exact ⟨_, x, os, rfl, rfl, hx0, hx1, U0.out⟩
      case round =>
        clear U0
        obtain ⟨mv2, y, os2, hmv, rfl, hy0, hy1, I⟩ := hrel
        have hmv := hmv.symm
        subst hmv
        by_cases hz : y = 0
        · subst hz
          obtain ⟨i1, i2, i3, i4, i5⟩ := I.out
          have F : Hid (TimesTold base B hs cc w (.returned mv2) wr) := ⟨_, os2, rfl, i1, i2, by rw [Int.mul_zero, Int.add_zero] at i3; exact i3, by omega, i4⟩
          clear I i1 i2 i3 i4 i5
          go_wp2_with fail
          go_ret
          exact F.out
        · have hyp : 0 < y := by omega
          obtain ⟨mv', w2, ap, I2⟩ := I.out.step hm0 (by have := HN.out; omega) hyp HB.out
          obtain ⟨lo, hlo⟩ : ∃ lo, y % B = lo := ⟨_, rfl⟩
          obtain ⟨c', hc'⟩ : ∃ c', y / B = c' := ⟨_, rfl⟩
          rw [hlo] at ap I2
          rw [hc'] at I2
          have c0 : 0 ≤ c' := by rw [← hc']; exact Int.ediv_nonneg hy0 (by omega)
          have c1 : c' < y := by rw [← hc']; exact Int.ediv_lt_self_of_pos_of_ne_one hyp (by omega)
          have hlo2 : y.tmod B = lo := by rw [Int.tmod_eq_emod_of_nonneg hy0]; exact hlo
          have hc2 : y.tdiv B = c' := by rw [Int.tdiv_eq_ediv_of_nonneg hy0]; exact hc'
          have AP := hid ap
          have I3 := hid I2
          clear ap I2 I
          go_wp2_with (at_builtin; refine wpList_append_d rfl _ _ rfl AP.out (by rfl) (by rfl) ?_; clear AP)
          go_roundw
          case rel => exact ⟨mv', c', os2 ++ [lo], rfl, by first | rfl | rw [hc'], c0, by omega, I3.out⟩
          case measure => simp [intOf]; omega
end Go.Proofs.YtonnlimmjelldaaGreatDoor

namespace Go.Proofs.YtonnlimmjelldaaGreatDoor
open Go.RowKit Go.Deep

structure ShutG (p : Prop) : Prop where
  out : p

/-- So many digits a limb holds. -/
theorem few64 {B : Int} {W : Nat} (hB : 2 ≤ B) (h : B ^ W < 18446744073709551616) : W ≤ 63 := by
  have := Ln.small (A := B ^ W) (L := 64) hB (Int.le_refl _) (by rw [show (2 : Int) ^ 64 = 18446744073709551616 by decide]; exact h)
  omega

set_option maxRecDepth 100000 in
set_option maxHeartbeats 1000000 in
theorem group_any (B : Int) (w : World) (h2 : 2 ≤ B) (h36 : B ≤ 36) :
    Calls Tryz.prog 168 #[.int .u64 B] w fun e w' => (∃ (W : Nat) (P : Int), e = .returned (.tuple #[.int .u64 P, .int .i64 (W : Int)]) ∧ P = B ^ W ∧ 1 ≤ W ∧ W ≤ 63 ∧ P < 18446744073709551616) ∧ w' = w := by
  have hB0 : (B == 0) = false := by rw [beq_eq_false_iff_ne]; omega
  go_enter Tryz.func168, Tryz.ntmps168
  go_wp2_with fail
  go_loop [4, 5] (fun p c => ∃ (P : Int) (W : Nat), p = .int .u64 P ∧ c = .int .i64 (W : Int) ∧ 1 ≤ P ∧ P ≤ 18446744073709551615 ∧ Hid (P = B ^ W ∧ 1 ≤ W ∧ W ≤ 63)) (fun _ c => 64 - (intOf c).toNat)
  case atStart => exact ⟨B, 1, rfl, rfl, by omega, by omega, by rw [Int.pow_succ, Int.pow_zero, Int.one_mul], by omega, by omega⟩
  case round =>
    obtain ⟨P, W, rfl, rfl, hP1, hP2, F⟩ := hrel
    have hW : (W : Int) ≤ 63 := by have := F.out.2.2; omega
    by_cases hle : P ≤ 18446744073709551615 / B
    · have hm : P * B ≤ 18446744073709551615 := (Int.le_ediv_iff_mul_le (by omega)).1 hle
      have hm0 : 0 ≤ P * B := Int.mul_nonneg (by omega) (by omega)
      have hm1 : 1 ≤ P * B := by have := Int.mul_le_mul (a := 1) (b := 1) hP1 (show 1 ≤ B by omega) (by omega) (by omega); omega
      have q1 : IntKind.u64.wrap (P * B) = P * B := by rw [IntKind.wrap_u64]; omega
      have W2 : Hid (W + 1 ≤ 63) := few64 h2 (by rw [Int.pow_succ, ← F.out.1]; omega)
      have HM := hid hm
      have HM1 := hid hm1
      clear hm hm0 hm1
      go_wp2_with fail
      go_round
      case rel => exact ⟨P * B, W + 1, rfl, by go_num, HM1.out, HM.out, by rw [Int.pow_succ, ← F.out.1], by omega, W2.out⟩
      case measure => simp [intOf]; have := F.out.2; omega
    · go_wp2_with fail
      go_ret2
      exact ⟨⟨W, P, rfl, F.out.1, F.out.2.1, F.out.2.2, by omega⟩, rfl⟩
end Go.Proofs.YtonnlimmjelldaaGreatDoor

namespace Go.Proofs.YtonnlimmjelldaaGreatDoor
open Go.RowKit Go.Deep

/-- The number of limbs, as the statements count it. -/
theorem slimbs_any (p : Option Addr) (n cap : Nat) (zs : List Int) (w : World) (hn : zs.length = n) (hm : n ≤ 140737488355328) (h : Lies w p zs) :
    Calls Tryz.prog 133 #[.slice p n cap] w fun e w' => e = .returned (.int .i64 (Nm.tsize zs)) ∧ w' = w := by
  rcases h with rfl | ⟨b, off, rfl, hcell⟩
  · have hn0 : n = 0 := by simpa using hn.symm
    subst hn0
    go_enter Tryz.func133, Tryz.ntmps133
    go_wp2
    refine wp_loop_rounds 1 ?_
    rw [rounds_succ]
    go_wp2
    go_ret
    exact ⟨rfl, rfl⟩
  · have H : Hid (zs.length = n) := hn
    have HC : Hid (∀ i, i < zs.length → w.cell? ⟨b, off + i, none⟩ = some (.int .u64 (zs.getD i 0))) := hcell
    clear hn hcell
    go_enter Tryz.func133, Tryz.ntmps133
    go_wp2
    go_loop [3] (fun t => ∃ k : Nat, k ≤ n ∧ t = .int .i64 k ∧ Hid (∀ j, k ≤ j → zs.getD j 0 = 0)) (fun t => (intOf t).toNat)
    case atStart => exact ⟨n, Nat.le_refl _, rfl, fun j hj => by simp [List.getD, List.getElem?_eq_none (show zs.length ≤ j by have := H.out; omega)]⟩
    case round =>
      obtain ⟨k, hk, rfl, hz⟩ := hrel
      by_cases h0 : k = 0
      · subst h0
        go_wp2
        go_ret
        exact ⟨by rw [Nm.tsize_unique zs 0 hz.out (.inl rfl)]; rfl, rfl⟩
      · obtain ⟨j, rfl⟩ : ∃ j, k = j + 1 := ⟨k - 1, by omega⟩
        obtain ⟨x, hx, X⟩ : ∃ x, w.cell? ⟨b, off + j, none⟩ = some (.int .u64 x) ∧ Hid (x = zs.getD j 0) := ⟨_, HC.out j (by have := H.out; omega), rfl⟩
        by_cases hx0 : x = 0
        · subst hx0
          go_wp2
          go_round
          case rel =>
            refine ⟨j, by omega, rfl, fun i hi => ?_⟩
            by_cases e : i = j
            · subst e; exact X.out.symm
            · exact hz.out i (by omega)
          case measure => simp [intOf]
        · go_wp2
          go_ret
          exact ⟨by rw [Nm.tsize_unique zs (j + 1) hz.out (.inr (by rw [Nat.add_sub_cancel, ← X.out]; exact hx0))]; rfl, rfl⟩

def vv (x : Int) : Int := if 48 ≤ x ∧ x ≤ 57 then x - 48 else if 97 ≤ x ∧ x ≤ 122 then x - 97 + 10 else if 65 ≤ x ∧ x ≤ 90 then x - 65 + 10 else 99

theorem vv_wv (x B : Int) (h36 : B ≤ 36) : (vv x < B ↔ wv x < B) ∧ 0 ≤ vv x ∧ vv x ≤ 99 := by
  unfold vv wv
  split
  · omega
  · split
    · omega
    · split <;> omega

theorem retV64 {a b : Int} (h : a = b) : Ending.returned (.int .i64 a) = .returned (.int .i64 b) := by rw [h]

/-- The byte of a digit. -/
def dgt (v : Int) (up : Bool) : Int := if v < 10 then 48 + v else if up then 65 + v - 10 else 97 + v - 10

theorem ret_u8 {a b : Int} (h : a = b) : Ending.returned (.int .u8 a) = .returned (.int .u8 b) := by rw [h]

set_option maxRecDepth 100000 in
theorem sdigit_any (v : Int) (up : Bool) (w : World) (h0 : 0 ≤ v) (h1 : v < 36) : Calls Tryz.prog 136 #[.int .i64 v, .bool up] w fun e w' => e = .returned (.int .u8 (dgt v up)) ∧ w' = w := by
  by_cases h : v < 10
  · have E : Hid (48 + v = dgt v up) := by show _ = _; rw [dgt, if_pos h]
    go_enter Tryz.func136, Tryz.ntmps136
    go_wp2
    go_ret
    exact ⟨ret_u8 E.out, rfl⟩
  · cases up with
    | true =>
      have E : Hid (65 + v - 10 = dgt v true) := by show _ = _; rw [dgt, if_neg h]; rfl
      have h2 : 10 ≤ v := by omega
      clear h
      go_enter Tryz.func136, Tryz.ntmps136
      go_wp2
      go_ret
      exact ⟨ret_u8 E.out, rfl⟩
    | false =>
      have E : Hid (97 + v - 10 = dgt v false) := by show _ = _; rw [dgt, if_neg h]; rfl
      have h2 : 10 ≤ v := by omega
      clear h
      go_enter Tryz.func136, Tryz.ntmps136
      go_wp2
      go_ret
      exact ⟨ret_u8 E.out, rfl⟩

set_option maxRecDepth 100000 in
set_option maxHeartbeats 1000000 in
theorem sgroup_any (B : Int) (w : World) (h2 : 2 ≤ B) (h36 : B ≤ 36) :
    Calls Tryz.prog 134 #[.int .i64 B] w fun e w' => (∃ (k : Nat) (P : Int), e = .returned (.tuple #[.int .i64 (k : Int), .int .u64 P]) ∧ P = B ^ k ∧ k ≤ 30 ∧ 1 ≤ P ∧ P < 2147483648 ∧ 2147483648 ≤ P * B) ∧ w' = w := by
  go_enter Tryz.func134, Tryz.ntmps134
  go_wp2_with fail
  go_loop [4, 5] (fun c p => ∃ (P : Int) (k : Nat), p = .int .u64 P ∧ c = .int .i64 (k : Int) ∧ 1 ≤ P ∧ P < 2147483648 ∧ Hid (P = B ^ k ∧ k ≤ 30)) (fun c _ => 31 - (intOf c).toNat)
  case atStart => exact ⟨1, 0, rfl, rfl, by omega, by omega, by rw [Int.pow_zero], by omega⟩
  case round =>
    obtain ⟨P, k, rfl, rfl, hP1, hP2, F⟩ := hrel
    have hk : (k : Int) ≤ 30 := by have := F.out.2; omega
    have hm0 : P * 1 ≤ P * B := Int.mul_le_mul_of_nonneg_left (by omega) (by omega)
    have hm1 : P * B ≤ P * 36 := Int.mul_le_mul_of_nonneg_left h36 (by omega)
    obtain ⟨Q, hQ⟩ : ∃ Q, P * B = Q := ⟨_, rfl⟩
    have q1 : IntKind.u64.wrap (P * B) = Q := by rw [hQ, IntKind.wrap_u64]; omega
    have hq0 : 1 ≤ Q := by omega
    have hq1 : Q < 18446744073709551616 := by omega
    have HQ := hid hQ
    clear hm0 hm1 hQ
    by_cases hlt : Q < 2147483648
    · have K2 : Hid (Q = B ^ (k + 1) ∧ k + 1 ≤ 30) := by
        have e : Q = B ^ (k + 1) := by rw [Int.pow_succ, ← F.out.1, HQ.out]
        refine ⟨e, ?_⟩
        have := Ln.small (A := B ^ (k + 1)) (L := 31) h2 (Int.le_refl _) (by rw [← e, show (2 : Int) ^ 31 = 2147483648 by decide]; exact hlt)
        omega
      go_wp2_with fail
      go_round
      case rel => exact ⟨Q, k + 1, rfl, by go_num, hq0, hlt, K2.out⟩
      case measure => simp [intOf]; have := F.out.2; omega
    · go_wp2_with fail
      go_ret2
      exact ⟨⟨k, P, rfl, F.out.1, F.out.2, hP1, hP2, by rw [HQ.out]; omega⟩, rfl⟩
end Go.Proofs.YtonnlimmjelldaaGreatDoor

namespace Go.Proofs.YtonnlimmjelldaaGreatDoor
open Go.RowKit Go.Deep

/-- What ToUint answers: the limb, and whether it is one. -/
def toU (zs : List Int) : Int := if Nm.tsize zs = 1 then zs.getD 0 0 else 0

theorem ret_to {a b : Int} {c d : Bool} (h : a = b) (k : c = d) : Ending.returned (.tuple #[.int .u64 a, .bool c]) = .returned (.tuple #[.int .u64 b, .bool d]) := by rw [h, k]

theorem toUint_any (p : Option Addr) (n cap : Nat) (zs : List Int) (w : World) (ha : Arg w p n cap zs) :
    Calls Tryz.prog 184 #[.slice p n cap] w fun e w' => e = .returned (.tuple #[.int .u64 (toU zs), .bool (decide (Nm.tsize zs ≤ 1))]) ∧ w' = w := by
  obtain ⟨a1, a2, a3, a4, a5⟩ := ha
  have tl := Nm.tsize_le zs
  have S1 := trimmed_any p n cap zs w a1 a2 (by omega) a4
  rcases (show Nm.tsize zs = 0 ∨ Nm.tsize zs = 1 ∨ 1 < Nm.tsize zs by omega) with h | h | h
  · have E : Hid (0 = toU zs ∧ true = decide (Nm.tsize zs ≤ 1)) := by simp [Hid, toU, h]
    rw [h] at S1
    have HS := hid S1
    clear S1 h
    go_enter Tryz.func184, Tryz.ntmps184
    go_wp2_with fail
    refine HS.out.mono ?_
    rintro e w' ⟨rfl, rfl⟩
    go_wp2
    go_ret2
    exact ⟨ret_to E.out.1 E.out.2, rfl⟩
  · have E : Hid (zs.getD 0 0 = toU zs ∧ true = decide (Nm.tsize zs ≤ 1)) := by simp [Hid, toU, h]
    obtain ⟨b, off, rfl, hbw, HC⟩ := a4.at (by omega)
    have hc := HC.out 0 (by omega)
    rw [Nat.add_zero] at hc
    rw [h] at S1
    have HS := hid S1
    clear S1 h
    go_enter Tryz.func184, Tryz.ntmps184
    go_wp2_with fail
    refine HS.out.mono ?_
    rintro e w' ⟨rfl, rfl⟩
    go_wp2
    go_ret2
    exact ⟨ret_to E.out.1 E.out.2, rfl⟩
  · have E : Hid (0 = toU zs ∧ false = decide (Nm.tsize zs ≤ 1)) := by
      refine ⟨?_, ?_⟩
      · rw [toU, if_neg (by omega)]
      · simp; omega
    have h1 : ((Nm.tsize zs : Int) == 0) = false := by rw [beq_eq_false_iff_ne]; omega
    have h2 : ((Nm.tsize zs : Int) == 1) = false := by rw [beq_eq_false_iff_ne]; omega
    have HS := hid S1
    clear S1 h
    go_enter Tryz.func184, Tryz.ntmps184
    go_wp2_with fail
    refine HS.out.mono ?_
    rintro e w' ⟨rfl, rfl⟩
    go_wp2
    go_ret2
    exact ⟨ret_to E.out.1 E.out.2, rfl⟩

theorem toU_val {zs : List Int} (hl : Nm.Limbs zs) (hv : Nm.val zs < 18446744073709551616) : toU zs = Nm.val zs := by
  have h1 : Nm.tsize zs ≤ 1 := (Nm.tsize_le_iff hl 1).2 (by simpa [Nm.pw] using hv)
  by_cases h : Nm.tsize zs = 1
  · rw [toU, if_pos h, ← Nm.val_trim zs, Nm.trim, h]
    cases zs with
    | nil => simp [Nm.val]
    | cons z zs => simp [Nm.val]
  · have h0 : Nm.tsize zs = 0 := by omega
    rw [toU, if_neg h, ← Nm.val_trim zs, Nm.trim, h0]
    simp [Nm.val]
end Go.Proofs.YtonnlimmjelldaaGreatDoor

namespace Go.Proofs.YtonnlimmjelldaaGreatDoor
open Go.RowKit Go.Deep

set_option maxRecDepth 100000 in
set_option maxHeartbeats 4000000 in
theorem spread_zero (B : Int) (W g o cap cp n c : Nat) (p pm : Option Addr) (za ds : List Int) (V : Int) (w : World) (h2 : 2 ≤ B) (h36 : B ≤ 36) (hW : W ≤ 63) (hd : OwnB w g ds) (hol : o + W ≤ ds.length) (ha : Arg w p n c za) (hV : Nm.val za = V) (hV1 : V < 18446744073709551616) :
    Calls Tryz.prog 170 #[.slice (some ⟨g, o, none⟩) W cap, .slice p n c, .slice pm 0 cp, .int .u64 B] w fun e w' => e = .returned (.tuple #[]) ∧ OwnB w' g (put ds o (Dn.dg B W V)) ∧ Only g w w' := by
  have hB0 : (B == 0) = false := by rw [beq_eq_false_iff_ne]; omega
  have hV0 : 0 ≤ V := by rw [← hV]; exact (Nm.val_bd za ha.2.2.2.2).1
  have TU : Hid (Calls Tryz.prog 184 #[.slice p n c] w fun e w' => e = .returned (.tuple #[.int .u64 V, .bool (decide (Nm.tsize za ≤ 1))]) ∧ w' = w) := by
    have := toUint_any p n c za w ha
    rw [toU_val ha.2.2.2.2 (by rw [hV]; exact hV1), hV] at this
    exact this
  have hWi : (W : Int) ≤ 63 := by omega
  have OB := hid hd
  have HOL := hid hol
  clear ha hV hd hol
  go_enter Tryz.func170, Tryz.ntmps170
  go_wp2_with fail
  refine TU.out.mono ?_
  rintro e w' ⟨rfl, rfl⟩
  clear TU
  go_wp2_with fail
  go_loopw [8, 10] (fun a i wr => ∃ (j : Nat) (N : Int), a = .int .u64 N ∧ i = .int .i64 ((j : Int) - 1) ∧ j ≤ W ∧ 0 ≤ N ∧ N < 18446744073709551616 ∧ Hid (N = V / B ^ (W - j) ∧ OwnB wr g (put ds (o + j) (Dn.dg B (W - j) V)) ∧ Only g w' wr)) (fun _ i _ => (intOf i + 1).toNat)
  case atStart =>
    refine ⟨W, V, rfl, rfl, Nat.le_refl _, hV0, hV1, ?_, ?_, Only.refl _ _⟩
    · rw [Nat.sub_self, Int.pow_zero, Int.ediv_one]
    · rw [Nat.sub_self, Dn.dg, put_nil]
      exact OB.out
  case round =>
    obtain ⟨j, N, rfl, rfl, hj, hN0, hN1, I⟩ := hrel
    cases j with
    | zero =>
      have F : Hid (OwnB wr g (put ds o (Dn.dg B W V)) ∧ Only g w' wr) := ⟨I.out.2.1, I.out.2.2⟩
      clear I
      go_wp2_with fail
      (try simp only [Exit.inBlock, Exit.then])
      refine bodyPost_ret (results_none rfl _ _ _) rfl ?_
      exact ⟨rfl, F.out⟩
    | succ u =>
      rw [show ((u + 1 : Nat) : Int) - 1 = (u : Int) by omega]
      have hu : (u : Int) < (W : Int) := by omega
      have hB1 : 0 < B := by omega
      obtain ⟨d, hd⟩ : ∃ d, N % B = d := ⟨_, rfl⟩
      obtain ⟨M, hM⟩ : ∃ M, N / B = M := ⟨_, rfl⟩
      have hd0 : 0 ≤ d := by rw [← hd]; exact Int.emod_nonneg _ (by omega)
      have hd1 : d < 36 := by have := Int.emod_lt_of_pos N hB1; omega
      have hM0 : 0 ≤ M := by rw [← hM]; exact Int.ediv_nonneg hN0 (by omega)
      have hM1 : M < 18446744073709551616 := by have := Int.ediv_le_self B hN0; omega
      have hlen : (put ds (o + (u + 1)) (Dn.dg B (W - (u + 1)) V)).length = ds.length := put_length _ _ _ (by rw [Dn.dg_length]; have := HOL.out; omega)
      have ST : Hid (∀ wq, Below wr.heap.size wr wq → OwnB (wq.setCell ⟨g, o + u, none⟩ (.int .u8 d)) g (put ds (o + u) (Dn.dg B (W - u) V)) ∧ Only g w' (wq.setCell ⟨g, o + u, none⟩ (.int .u8 d))) := by
        intro wq hb
        have h1 := (I.out.2.1.below hb I.out.2.1.lt).set (o + u) d
        rw [show o + (u + 1) = o + u + 1 by omega, put_head _ _ _ _ (by rw [Dn.dg_length]; have := HOL.out; omega)] at h1
        have e1 : d :: Dn.dg B (W - (u + 1)) V = Dn.dg B (W - u) V := by
          rw [show W - u = W - (u + 1) + 1 by omega, Dn.dg_head hB1, ← I.out.1, hd, Dn.dg_mod hB1]
        rw [e1] at h1
        exact ⟨h1, (I.out.2.2.trans (Only.of_below hb)).trans (Only.set _ _)⟩
      have EM : Hid (M = V / B ^ (W - u)) := by
        show _ = _
        rw [← hM, I.out.1, show W - u = W - (u + 1) + 1 by omega, Int.pow_succ, Int.ediv_ediv_of_nonneg (Int.le_of_lt (Int.pow_pos hB1))]
      obtain ⟨y, hy⟩ : ∃ y, wr.cell? ⟨g, o + u, none⟩ = some (.int .u8 y) := ⟨_, I.out.2.1.cell (o + u) (by rw [hlen]; have := HOL.out; omega)⟩
      have hfr := I.out.2.1.free (o + u)
      clear I hlen
      go_wp2_with fail
      go_region
      all_goals
        go_wp2
        go_roundw
        case rel => exact ⟨u, M, by first | rfl | rw [hM], by go_num, by omega, hM0, hM1, EM.out, ST.out _ (below_drewN (Below.refl _ _) _)⟩
        case measure => simp [intOf]
end Go.Proofs.YtonnlimmjelldaaGreatDoor

namespace Go.Proofs.YtonnlimmjelldaaGreatDoor
open Go.RowKit Go.Deep

/-- The powers b, b^2, b^4 .., in blocks below g. -/
def Pows (g : Nat) (b : Int) (pm : Option Addr) (K : Nat) (w : World) : Prop :=
  ∀ s, s < K → ∃ gm r us, pm = some ⟨gm, 0, none⟩ ∧ gm < g ∧ w.cell? ⟨gm, s, none⟩ = some (.slice r (List.length us) (List.length us)) ∧ Arg w r us.length us.length us ∧ Nm.val us = b ^ (2 ^ s) ∧ Nm.tsize us ≤ 4096 ∧ ∀ a, r = some a → a.block < g

theorem Pows.only {g : Nat} {b : Int} {pm : Option Addr} {K : Nat} {w w' : World} (h : Pows g b pm K w) (k : Only g w w') : Pows g b pm K w' := by
  intro s hs
  obtain ⟨gm, r, us, h1, h2, h3, h4, h5, h6, h7⟩ := h s hs
  exact ⟨gm, r, us, h1, h2, k.cell h3 (Nat.ne_of_lt h2), h4.only k (fun a ha => Nat.ne_of_lt (h7 a ha)), h5, h6, h7⟩

/-- What spread leaves behind. -/
def Spread (B : Int) (g o L : Nat) (ds : List Int) (V : Int) (w w' : World) : Prop := OwnB w' g (put ds o (Dn.dg B L V)) ∧ Only g w w'

structure ShutN (p : Prop) : Prop where
  out : p

theorem Ans.smallT {B : Nat} {w : World} {p : Option Addr} {ys : List Int} {n : Int} (h : Ans B w p ys n) (hn : n < Nm.pw 4096) : ys.length ≤ 4096 := by
  have h1 := (Nm.tsize_le_iff h.2.1 4096).2 (by rw [h.2.2.2.1]; exact hn)
  have h2 := h.2.2.1
  omega

theorem Ans.tsN {B : Nat} {w : World} {p : Option Addr} {ys : List Int} {n : Int} (h : Ans B w p ys n) (hn : n < Nm.pw 4096) : Nm.tsize ys ≤ 4096 := (Nm.tsize_le_iff h.2.1 4096).2 (by rw [h.2.2.2.1]; exact hn)

theorem below_drew (w : World) : Below w.heap.size w w.drew := (Below.refl _ _).drew

set_option maxRecDepth 100000 in
set_option maxHeartbeats 4000000 in
theorem spread_any (B : Int) (W g K cp : Nat) (pm : Option Addr) (h2 : 2 ≤ B) (h36 : B ≤ 36) (hW1 : 1 ≤ W) (hW : W ≤ 63) (hBW : B ^ W < 18446744073709551616) (hK : K ≤ 18) : ∀ (k : Nat), k ≤ K → k ≤ cp → ∀ (o L cap n c : Nat) (p : Option Addr) (za ds : List Int) (V : Int) (w : World),
    L = W * 2 ^ k → OwnB w g ds → o + L ≤ ds.length → L ≤ cap → cap ≤ 35184372088832 → Arg w p n c za → (∀ a, p = some a → a.block ≠ g) → Nm.val za = V → V < B ^ L → Nm.tsize za ≤ 4096 → Pows g (B ^ W) pm K w →
    Calls Tryz.prog 170 #[.slice (some ⟨g, o, none⟩) L cap, .slice p n c, .slice pm k cp, .int .u64 B] w fun e w' => e = .returned (.tuple #[]) ∧ Spread B g o L ds V w w' := by
  intro k
  induction k with
  | zero =>
    intro _ _ o L cap n c p za ds V w hL hd hol hc hcm ha hp hV hV1 ht hP
    rw [Nat.pow_zero, Nat.mul_one] at hL
    subst hL
    exact spread_zero B L g o cap cp n c p pm za ds V w h2 h36 hW hd hol ha hV (by omega)
  | succ k ih =>
    intro hkK hkc o L cap n c p za ds V w hL hd hol hc hcm ha hp hV hV1 ht hP
    obtain ⟨H, hH⟩ : ∃ H, W * 2 ^ k = H := ⟨_, rfl⟩
    have hLH : L = H + H := by rw [hL, Nat.pow_succ, ← Nat.mul_assoc, hH]; omega
    subst hLH
    have hB1 : 0 < B := by omega
    have hV0 : 0 ≤ V := by rw [← hV]; exact (Nm.val_bd za ha.2.2.2.2).1
    obtain ⟨gm, r, us, e1, e2, hcell, hr, hus, htu, hrb⟩ := hP k (by omega)
    subst e1
    have ePk : Nm.val us = B ^ H := by rw [hus, ← Int.pow_mul, hH]
    have hPk : 0 < B ^ H := Int.pow_pos hB1
    have htu0 : 0 < Nm.tsize us := by
      rcases Nat.eq_zero_or_pos (Nm.tsize us) with c | c
      · have := (Nm.tsize_zero_iff hr.2.2.2.2).1 c
        omega
      · exact c
    have DM := hid (divMod_ok p r n c _ _ za us w ha hr ht htu htu0)
    rw [hV, ePk] at DM
    have vh0 : 0 ≤ V / B ^ H := Int.ediv_nonneg hV0 (Int.le_of_lt hPk)
    have vh : V / B ^ H < B ^ H := Int.ediv_lt_of_lt_mul hPk (by rw [← Int.pow_add]; exact hV1)
    have vl : V % B ^ H < B ^ H := Int.emod_lt_of_pos _ hPk
    have vV : V < Nm.pw 4096 := by rw [← hV]; exact (Nm.tsize_le_iff ha.2.2.2.2 4096).1 ht
    have vhp : V / B ^ H < Nm.pw 4096 := Int.lt_of_le_of_lt (Int.ediv_le_self _ hV0) vV
    have vlp : V % B ^ H < Nm.pw 4096 := by
      have h1 := Int.emod_add_mul_ediv V (B ^ H)
      have h2 := Int.mul_nonneg (Int.le_of_lt hPk) vh0
      exact Int.lt_of_le_of_lt (by omega) vV
    have I1 : ShutN (∀ (w1 : World) (q : Option Addr) (os : List Int), OwnB w1 g ds → Ans w.heap.size w1 q os (V / B ^ H) → Pows g (B ^ W) (some ⟨gm, 0, none⟩) K w1 →
        Calls Tryz.prog 170 #[.slice (some ⟨g, o, none⟩) H cap, .slice q (List.length os) (List.length os), .slice (some ⟨gm, 0, none⟩) k cp, .int .u64 B] w1 fun e w' => e = .returned (.tuple #[]) ∧ Spread B g o H ds (V / B ^ H) w1 w') :=
      ⟨fun w1 q os a1 a2 a3 => ih (by omega) (by omega) o H cap _ _ q os ds _ w1 hH.symm a1 (by omega) (by omega) hcm (a2.arg (by have := a2.smallT vhp; omega)) (fun a ha => by have := a2.2.2.2.2 a ha; have := hd.lt; omega) a2.2.2.2.1 vh (a2.tsN vhp) a3⟩
    have I2 : ShutN (∀ (H2 : Nat) (w1 : World) (q : Option Addr) (os ds1 : List Int), H2 = H → OwnB w1 g ds1 → ds1.length = ds.length → Ans w.heap.size w1 q os (V % B ^ H) → Pows g (B ^ W) (some ⟨gm, 0, none⟩) K w1 →
        Calls Tryz.prog 170 #[.slice (some ⟨g, o + H, none⟩) H2 (cap - H), .slice q (List.length os) (List.length os), .slice (some ⟨gm, 0, none⟩) k cp, .int .u64 B] w1 fun e w' => e = .returned (.tuple #[]) ∧ Spread B g (o + H) H ds1 (V % B ^ H) w1 w') :=
      ⟨fun H2 w1 q os ds1 a0 a1 al a2 a3 => by subst a0; exact ih (by omega) (by omega) (o + H2) H2 (cap - H2) _ _ q os ds1 _ w1 hH.symm a1 (by omega) (by omega) (by omega) (a2.arg (by have := a2.smallT vlp; omega)) (fun a ha => by have := a2.2.2.2.2 a ha; have := hd.lt; omega) a2.2.2.2.1 vl (a2.tsN vlp) a3⟩
    have FIN : ShutN (∀ w1 w2 w3 w4 : World, Below w.heap.size w w1 → Spread B g o H ds (V / B ^ H) w1 w2 → Only g w2 w3 → Spread B g (o + H) H (put ds o (Dn.dg B H (V / B ^ H))) (V % B ^ H) w3 w4 → Spread B g o (H + H) ds V w w4) := by
      refine ⟨fun w1 w2 w3 w4 b1 s1 b2 s2 => ?_⟩
      have e1 := s2.1
      have hl := Dn.dg_length B H (V / B ^ H)
      have hl2 := Dn.dg_length B H (V % B ^ H)
      have e2 := put_two ds o (Dn.dg B H (V / B ^ H)) (Dn.dg B H (V % B ^ H)) (by rw [hl, hl2]; omega)
      rw [hl] at e2
      rw [e2, ← Dn.dg_split hB1] at e1
      exact ⟨e1, ((Only.of_below b1).trans s1.2).trans (b2.trans s2.2)⟩
    have PL : Hid ((put ds o (Dn.dg B H (V / B ^ H))).length = ds.length) := put_length _ _ _ (by rw [Dn.dg_length]; omega)
    obtain ⟨L, HL⟩ : ∃ L, Hid (H + H = L) := ⟨_, rfl⟩
    obtain ⟨K1, HK1⟩ : ∃ K1, Hid (k + 1 = K1) := ⟨_, rfl⟩
    have r1 : ((K1 : Int) == 0) = false := by rw [beq_eq_false_iff_ne]; have := HK1.out; omega
    have r2 : (K1 : Int) - 1 = (k : Int) := by have := HK1.out; omega
    have r3 : (L : Int) / 2 = (H : Int) := by have := HL.out; omega
    have r4 : (L : Int).tdiv 2 = (H : Int) := by have := HL.out; rw [Int.tdiv_eq_ediv_of_nonneg (by omega)]; omega
    have hk1 : (k : Int) < (K1 : Int) := by have := HK1.out; omega
    have hk18 : (k : Int) ≤ 18 := by omega
    have hH1 : 1 ≤ H := by rw [← hH]; exact Nat.mul_pos (by omega) (Nat.pow_pos (by omega))
    have hHc : H ≤ cap := by omega
    have hne : ¬ cap = H := by omega
    have hne2 : ¬ L = H := by have := HL.out; omega
    have hHL : H ≤ L := by have := HL.out; omega
    have hkc2 : k ≤ cp := by omega
    have hLc : L ≤ cap := by have := HL.out; omega
    have OB := hid hd
    have HG := hid hd.lt
    have PW := hid hP
    rw [HL.out] at FIN
    rw [HL.out, HK1.out]
    clear ih hL hd hol hc ha hp hV hV1 ht hP hus hr htu hrb ePk htu0 vh0 vh vl vV vhp vlp e2 hkK hkc hH hBW hV0 hPk
    go_enter Tryz.func170, Tryz.ntmps170
    go_wp2_with fail
    refine DM.out.mono ?_
    rintro e w1 ⟨q1, os1, q2, os2, rfl, A1, A2, d1⟩
    have SA1 := hid A1
    have SA2 := hid A2
    have D1 := hid d1
    have OB1 := hid (OB.out.below d1 OB.out.lt)
    have PW1 := hid (PW.out.only (Only.of_below d1))
    clear A1 A2 d1 DM OB PW hcell
    have C1 := hid (I1.out w1.drew q1 os1 OB1.out (SA1.out.below (below_drew w1) (Nat.le_refl _)) (PW1.out.only (Only.of_below (below_drew w1))))
    go_upto_region 8 with fail
    go_cut [] from 57 to 65 (fun wx => Hid (Spread B g o H ds (V / B ^ H) w1 wx))
    case first =>
      go_region_with (go_at_call 170; refine C1.out.mono ?_; rintro e w2 ⟨rfl, s2⟩; have F : Hid (Spread B g o H ds (V / B ^ H) w1 w2) := ⟨s2.1, (Only.of_below (below_drew w1)).trans s2.2⟩; clear s2)
      all_goals (go_wp2_with fail; go_meet; exact F)
    case rest =>
      have SA3 : Hid (Ans w.heap.size wc q2 os2 (V % B ^ H)) := ⟨SA2.out.1.only hcut.out.2 (fun a ha => by have := SA2.out.2.2.2.2 a ha; have := HG.out; omega), SA2.out.2⟩
      have PW2 := hid (PW1.out.only hcut.out.2)
      have C2 := hid (I2.out (L - H) wc.drew q2 os2 _ (by have := HL.out; omega) hcut.out.1 PL.out (SA3.out.below (below_drew wc) (Nat.le_refl _)) (PW2.out.only (Only.of_below (below_drew wc))))
      clear C1 SA1 SA2 PW1 OB1 SA3 PW2 I1 I2
      go_upto_region 9 with fail
      go_region_with (go_at_call 170; go_must (go_fit C2.out); rintro e w3 ⟨rfl, s3⟩; have F : Hid (Spread B g o L ds V w w3) := FIN.out w1 wc wc.drew w3 D1.out hcut.out (Only.of_below (below_drew wc)) s3; clear s3)
      all_goals (go_wp2_with fail; go_end0; exact ⟨rfl, F.out⟩)
end Go.Proofs.YtonnlimmjelldaaGreatDoor

namespace Go.Proofs.YtonnlimmjelldaaGreatDoor
open Go.RowKit Go.Deep

theorem info64r : (Tryz.prog.info? 59).map (fun i => (i.zero, i.size, i.bytes)) = some (some (.slice none 0 0), 1, 24) := by kernel_rfl

/-- The list of headers, behind another one is appended: in its block, or in a new one at the heap's end. -/
theorem pushRow (base n : Nat) (mv : Value) (xs : List Value) (v : Value) (w : World) (hn : n ≤ 1000) (hv : v.oneCell' = true) (hb : base ≤ w.heap.size) (ho : w.ownsRow base 59 1 mv n xs) :
    ∃ mv' w', (Builtin.append_ #[105, 105] 105 #[mv, .slice (some ⟨w.heap.size, 0, none⟩) 1 1]).run Tryz.prog (w.alloc (.cells #[v] 59)) = .ok mv' w' ∧ w'.ownsRow base 59 1 mv' (n + 1) (xs ++ [v]) ∧ Below base w w' ∧ w.heap.size ≤ w'.heap.size ∧
      (∀ j, j < w.heap.size → some j ≠ mv.ownBlock → w'.heap[j]? = w.heap[j]?) ∧ (∀ k, mv'.ownBlock = some k → mv.ownBlock = some k ∨ w.heap.size ≤ k) := by
  obtain ⟨i, hi, hz⟩ := Option.map_eq_some_iff.1 info64r
  simp only [Prod.mk.injEq] at hz
  obtain ⟨z1, z2, z3⟩ := hz
  have bm : Below w.heap.size w (w.alloc (.cells #[v] 59)) := (Below.refl _ _).alloc (Nat.le_refl _) _
  have hs : (w.alloc (.cells #[v] 59)).heap.size = w.heap.size + 1 := World.size_alloc _ _
  have ho' := ho.alloc (.cells #[v] 59)
  have hcell : (w.alloc (.cells #[v] 59)).cell? ⟨w.heap.size, 0, none⟩ = some v := by
    have : (w.alloc (.cells #[v] 59)).heap[w.heap.size]? = some (.cells #[v] 59 (0, 0)) := by
      show (w.heap.push _)[w.heap.size]? = _
      rw [Array.getElem?_push, if_pos rfl]
    simp only [World.cell?, this]
    rfl
  have hnews : ∀ j u, [v][j]? = some u → (w.alloc (.cells #[v] 59)).cell? ((⟨w.heap.size, 0, none⟩ : Addr).add j) = some u := fun j u hu => by
    cases j with
    | zero =>
      simp at hu
      subst hu
      rw [Go.WideShapes.add_plain]
      exact hcell
    | succ j => simp at hu
  have h1v : ∀ u ∈ [v], u.oneCell' = true := fun u hu => by simp at hu; subst hu; exact hv
  obtain ⟨v', w', hr, h1, h2, _⟩ := run_append_own (P := Tryz.prog) (w.alloc (.cells #[v] 59)) base 105 105 59 i (.slice none 0 0) 1 24 Tryz.underlying105 hi z1 z2 z3 rfl (by omega) mv n xs ho'
    ⟨w.heap.size, 0, none⟩ 1 1 [v] rfl hnews h1v (by simp only [maxLen]; omega) (by omega) (by rw [hs]; omega)
  refine ⟨v', w', hr, h1, ?_, by have := h2.size; omega, fun j hj hne => ?_, ?_⟩
  · have hb2 : Below base (w.alloc (.cells #[v] 59)) w' := by
      refine ⟨h2.os, h2.tape, h2.output, h2.size, fun j hj => h2.block j (by rw [hs]; omega) ?_⟩
      intro hk
      have := (ho'.lt j hk.symm).1
      omega
    exact (bm.mono hb).trans hb2
  · rw [h2.block j (by rw [hs]; omega) hne]
    exact bm.block j hj
  · intro k hk
    rcases ho'.2 with ⟨rfl, h0⟩ | ⟨g, cap, cur, rfl, _, hcur, hnc, hcm, hcs, htk⟩
    · right
      subst h0
      have hr2 := run_append_nil (P := Tryz.prog) (w.alloc (.cells #[v] 59)) 105 105 59 i (.slice none 0 0) Tryz.underlying105 hi z1 ⟨w.heap.size, 0, none⟩ 1 1 [v] (by rw [z2]; rfl) hnews (by omega) (by omega) (by rw [z3]; omega)
      rw [hr] at hr2
      simp only [Result.ok.injEq] at hr2
      obtain ⟨rfl, _⟩ := hr2
      simp only [Value.ownBlock, Option.some.injEq] at hk
      omega
    · by_cases hroom : n + 1 ≤ cap
      · left
        have hr2 := run_append_room (P := Tryz.prog) (w.alloc (.cells #[v] 59)) 105 105 59 i Tryz.underlying105 hi g n cap cur hcur ⟨w.heap.size, 0, none⟩ 1 1 [v] (by rw [z2]; rfl) hnews h1v hroom (by rw [z2, hcs]; simp; omega)
        rw [hr] at hr2
        simp only [Result.ok.injEq] at hr2
        obtain ⟨rfl, _⟩ := hr2
        simpa [Value.ownBlock] using hk
      · right
        have holds : ∀ j u, xs[j]? = some u → (w.alloc (.cells #[v] 59)).cell? ((⟨g, 0, none⟩ : Addr).add j) = some u := ho'.cells (g := g) rfl
        have hr2 := run_append_grow (P := Tryz.prog) (w.alloc (.cells #[v] 59)) 105 105 59 i (.slice none 0 0) Tryz.underlying105 hi z1 ⟨g, 0, none⟩ n cap xs (by rw [z2]; exact ho.1) holds ⟨w.heap.size, 0, none⟩ 1 1 [v] (by rw [z2]; rfl) hnews (by omega) (by omega) (growslice_fits (by omega) (by rw [z3]; omega))
        rw [hr] at hr2
        simp only [Result.ok.injEq] at hr2
        obtain ⟨rfl, _⟩ := hr2
        simp only [Value.ownBlock, Option.some.injEq] at hk
        omega

/-- A row: a trimmed list of the number V, in another block than the headers. -/
def RowIn (w : World) (mv : Value) (e : Option Addr × List Int) (V : Int) : Prop :=
  Lies w e.1 e.2 ∧ Nm.Limbs e.2 ∧ Nm.tsize e.2 = e.2.length ∧ Nm.val e.2 = V ∧ ∀ a, e.1 = some a → a.block < w.heap.size ∧ some a.block ≠ mv.ownBlock

def rowV (e : Option Addr × List Int) : Value := .slice e.1 e.2.length e.2.length

theorem RowIn.below {w w' : World} {mv : Value} {e : Option Addr × List Int} {V : Int} (h : RowIn w mv e V) (hb : Below w.heap.size w w') : RowIn w' mv e V :=
  ⟨h.1.below hb (Nat.le_refl _), h.2.1, h.2.2.1, h.2.2.2.1, fun a ha => ⟨Nat.lt_of_lt_of_le (h.2.2.2.2 a ha).1 hb.size, (h.2.2.2.2 a ha).2⟩⟩

theorem RowIn.pushed {w w' : World} {mv mv' : Value} {e : Option Addr × List Int} {V : Int} (h : RowIn w mv e V) (hz : w.heap.size ≤ w'.heap.size) (hb : ∀ j, j < w.heap.size → some j ≠ mv.ownBlock → w'.heap[j]? = w.heap[j]?) (hk : ∀ k, mv'.ownBlock = some k → mv.ownBlock = some k ∨ w.heap.size ≤ k) : RowIn w' mv' e V := by
  obtain ⟨h1, h2, h3, h4, h5⟩ := h
  refine ⟨?_, h2, h3, h4, fun a ha => ⟨Nat.lt_of_lt_of_le (h5 a ha).1 hz, fun hc => ?_⟩⟩
  · rcases h1 with h1 | ⟨b, off, hp, h1⟩
    · exact .inl h1
    · refine .inr ⟨b, off, hp, fun i hi => ?_⟩
      have h6 := h5 _ hp
      have := hb b h6.1 h6.2
      rw [← h1 i hi]
      simp only [World.cell?, this]
  · have h6 := h5 a ha
    rcases hk a.block hc.symm with c | c
    · exact h6.2 c.symm
    · omega

theorem RowIn.arg {w : World} {mv : Value} {e : Option Addr × List Int} {V : Int} (h : RowIn w mv e V) (hl : e.2.length ≤ 17592186044416) : Arg w e.1 e.2.length e.2.length e.2 := ⟨rfl, Nat.le_refl _, hl, h.1, h.2.1⟩

/-- An answer that is newer than the headers is such a row. -/
theorem Ans.row {B base n : Nat} {w w' : World} {r : Option Addr} {os : List Int} {V : Int} {mv : Value} {xs : List Value} (h : Ans B w' r os V) (hB : B = w.heap.size) (ho : w.ownsRow base 59 1 mv n xs) (h0 : 0 < V) : RowIn w' mv (r, os) V := by
  refine ⟨h.1, h.2.1, h.2.2.1, h.2.2.2.1, fun a ha => ⟨?_, fun hc => ?_⟩⟩
  · have hne : 0 < os.length := by
      rcases Nat.eq_zero_or_pos os.length with c | c
      · have := h.2.2.2.1
        rw [List.eq_nil_of_length_eq_zero c] at this
        simp [Nm.val] at this
        omega
      · exact c
    exact h.1.lt hne a ha
  · have h1 := h.2.2.2.2 a ha
    have h2 := ho.lt a.block hc.symm
    omega
end Go.Proofs.YtonnlimmjelldaaGreatDoor
