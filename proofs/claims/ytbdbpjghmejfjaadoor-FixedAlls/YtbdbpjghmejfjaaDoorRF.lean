/-
  Texts put together: FRaised, FRow, FExact2, FRow3.
-/
import Derived.Test.YtbdbpjghmejfjaaDoorRE
import Derived.Test.YtbdbpjghmejfjaaDoorRD
import Derived.Deep.RegionHeld3
import Derived.Laws.ResultCell
namespace Go.Proofs.YtbdbpjghmejfjaaDoor
open Go Go.RowKit Go.Deep

theorem pw_step {m : Int} (m0 : 1 ≤ m) (m1 : m ≤ 5) : ∀ i : Nat, i ≤ 13 → 1 ≤ m ^ i ∧ m ^ i ≤ 1220703125 := by
  intro i hi
  have h1 : (1 : Int) ≤ m ^ i := Int.pow_pos (by omega)
  refine ⟨h1, ?_⟩
  have a : ∀ k : Nat, m ^ k ≤ 5 ^ k := by
    intro k
    induction k with
    | zero => simp
    | succ k ih =>
      rw [Int.pow_succ, Int.pow_succ]
      have p : (0 : Int) ≤ 5 ^ k := Int.le_of_lt (Int.pow_pos (by omega))
      have a1 : m ^ k * m ≤ 5 ^ k * m := Int.mul_le_mul_of_nonneg_right ih (by omega)
      have a2 : (5 : Int) ^ k * m ≤ 5 ^ k * 5 := Int.mul_le_mul_of_nonneg_left m1 p
      omega
  have b : (5 : Int) ^ i ≤ 5 ^ 13 := by
    obtain ⟨d, hd⟩ := Nat.exists_eq_add_of_le hi
    rw [hd, Int.pow_add]
    have p : (0 : Int) < 5 ^ i := Int.pow_pos (by omega)
    have q : (1 : Int) ≤ 5 ^ d := Int.pow_pos (by omega)
    have := Int.mul_le_mul_of_nonneg_left q (Int.le_of_lt p)
    omega
  have c : (5 : Int) ^ 13 = 1220703125 := by decide
  have := a i
  omega

set_option maxRecDepth 100000 in
set_option maxHeartbeats 4000000 in
theorem rraised_any (p : Option Addr) (cp : Nat) (ls : List Int) (v m : Int) (K N : Nat) (w : World) (hl : Lies w p ls) (hr : Gf.Rw ls v) (hv : 0 < v) (hN : ls.length ≤ N) (hK : K ≤ 2000) (hN1 : N ≤ 20) (m0 : 1 ≤ m) (m1 : m ≤ 5) :
    Calls Tryd.prog 32 #[.slice p (List.length ls) cp, .int .u64 m, .int .i64 (K : Int)] w fun e w' => RowTold (v * m ^ K) (N + 11 * K) w e w' := by
  have TM : Hid (∀ (wx : World) (q : Option Addr) (c : Nat) (zs : List Int) (i j : Nat) (y : Int), Lies wx q zs → Gf.Rw zs y → 0 < y → zs.length ≤ N + 11 * j → j ≤ 2000 → i ≤ 13 → Calls Tryd.prog 49 #[.slice q (List.length zs) c, .int .u64 (m ^ i)] wx fun e w' => RowTold (m ^ i * y) (N + 11 * j + 11) wx e w') :=
    fun wx q c zs i j y h1 h2 h3 h4 h5 h6 => by
      have b := pw_step m0 m1 i h6
      exact rtimes_any q c zs y (m ^ i) (N + 11 * j) wx h1 h2 h3 h4 (by omega) (by omega) (by omega)
  have PS := hid (pw_step m0 m1)
  have MP : Hid (∀ i j : Nat, j + i ≤ K → m ^ i * (v * m ^ j) = v * m ^ (j + i)) := fun i j _ => by rw [Int.pow_add, Int.mul_left_comm, Int.mul_comm (m ^ i)]
  have VP : Hid (∀ j : Nat, 0 < v * m ^ j) := fun j => Int.mul_pos hv (Int.pow_pos (by omega))
  have PSU : Hid (∀ i : Nat, m ^ i * m = m ^ (i + 1)) := fun i => (Int.pow_succ m i).symm
  have H0 : Hid (Lies w p ls ∧ Gf.Rw ls (v * m ^ (K - K)) ∧ ls.length ≤ N + 11 * (K - K) ∧ Below w.heap.size w w) := ⟨hl, by rw [Nat.sub_self, Int.pow_zero, Int.mul_one]; exact hr, by omega, Below.refl _ _⟩
  have HK := hid hK
  clear hl hr hv hN hN1
  go_enter Tryd.func32, Tryd.ntmps32
  go_wp2_with fail
  go_loopw [0, 2, 7, 8] (fun a k _ _ wr => ∃ (j : Nat) (q : Option Addr) (c : Nat) (zs : List Int), a = .slice q (List.length zs) c ∧ k = .int .i64 (j : Int) ∧ j ≤ K ∧ Hid (Lies wr q zs ∧ Gf.Rw zs (v * m ^ (K - j)) ∧ zs.length ≤ N + 11 * (K - j) ∧ Below w.heap.size w wr)) (fun _ k _ _ _ => (intOf k).toNat)
  case atStart => exact ⟨K, p, cp, ls, rfl, rfl, Nat.le_refl _, H0.out⟩
  case round =>
    clear H0
    obtain ⟨j, q, c, zs, rfl, rfl, hj, I⟩ := hrel
    have hKi : (K : Int) ≤ 2000 := by have := HK.out; omega
    rcases Nat.eq_zero_or_pos j with hj0 | hj0
    · subst hj0
      have F : Hid (RowTold (v * m ^ K) (N + 11 * K) w (.returned (.slice q (List.length zs) c)) wr) := ⟨q, c, zs, rfl, I.out.1, I.out.2.1, I.out.2.2.1, I.out.2.2.2⟩
      clear I
      go_wp2_with fail
      go_ret
      exact F.out
    · have hji : (0 : Int) < (j : Int) := by omega
      have hjK : (j : Int) ≤ (K : Int) := by omega
      obtain ⟨wq, hwq⟩ : ∃ wq, wr = wq := ⟨_, rfl⟩
      subst hwq
      go_wp2_with fail
      go_loopw [2, 7, 8] (fun k s i w2 => w2 = wr ∧ ∃ (t : Nat) (st : Int), k = .int .i64 ((j : Int) - (t : Int)) ∧ s = .int .u64 st ∧ i = .int .i64 (t : Int) ∧ t ≤ 13 ∧ t ≤ j ∧ 1 ≤ st ∧ st ≤ 1220703125 ∧ Hid (st = m ^ t)) (fun k _ _ _ => (intOf k).toNat)
      case atStart => exact ⟨rfl, 0, 1, by simp, rfl, rfl, by omega, by omega, by omega, by omega, by show _ = _; simp⟩
      case round =>
        obtain ⟨rfl, t, st, rfl, rfl, rfl, ht, htj, s0, s1, ST⟩ := hrel
        by_cases hgo : t < 13 ∧ t < j
        · have g1 : (t : Int) < 13 := by omega
          have g2 : (0 : Int) < (j : Int) - (t : Int) := by omega
          obtain ⟨y, hy⟩ : ∃ y, st * m = y := ⟨_, rfl⟩
          have yb := PS.out (t + 1) (by omega)
          have ye : y = m ^ (t + 1) := by rw [← hy, ST.out]; exact PSU.out t
          rw [← ye] at yb
          obtain ⟨y0, y1⟩ := yb
          have wy : IntKind.u64.wrap (st * m) = y := by rw [hy, IntKind.wrap_u64]; omega
          have YE := hid ye
          clear ye ST
          go_wp2_with fail
          go_roundw
          case rel => exact ⟨by first | rfl | trivial, t + 1, y, by go_num, rfl, by go_num, by omega, by omega, y0, y1, YE.out⟩
          case measure => simp [intOf]; omega
        · have tp : 0 < t := by omega
          have hst := ST.out
          have T1 := TM.out wr q c zs t (K - j) _ I.out.1 I.out.2.1 (VP.out _) I.out.2.2.1 (by omega) ht
          rw [← hst, hst, MP.out t (K - j) (by omega), ← hst] at T1
          have HT1 := hid T1
          have HB := hid I.out.2.2.2
          obtain ⟨r, hr⟩ : ∃ r : Nat, (j : Int) - (t : Int) = (r : Int) := ⟨j - t, by omega⟩
          have EK : Hid (K - j + t = K - r ∧ r < j) := ⟨by omega, by omega⟩
          rw [EK.out.1] at HT1
          rcases (show (t : Int) = 13 ∨ ((t : Int) < 13 ∧ (j : Int) - (t : Int) = 0) by omega) with hc | ⟨hc, hc2⟩
          · have hc1 : ¬ (t : Int) < 13 := by omega
            clear T1 I ST hst hgo
            go_wp2_with fail
            refine HT1.out.mono ?_
            rintro e w3 ⟨q3, c3, z3, rfl, l3, r3, n3, B3⟩
            have K3 := hid (And.intro l3 (And.intro r3 (And.intro (show z3.length ≤ N + 11 * (K - r) by have := EK.out; omega) (HB.out.trans (B3.mono HB.out.size)))))
            clear l3 r3 n3 B3 HT1
            go_wp2_with fail
            go_roundw
            case rel => exact ⟨r, q3, c3, z3, rfl, by first | rfl | rw [hr] | (congr 1; omega), by have := EK.out; omega, K3.out⟩
            case measure => have := EK.out; simp [intOf]; omega
          · clear T1 I ST hst hgo
            go_wp2_with fail
            refine HT1.out.mono ?_
            rintro e w3 ⟨q3, c3, z3, rfl, l3, r3, n3, B3⟩
            have K3 := hid (And.intro l3 (And.intro r3 (And.intro (show z3.length ≤ N + 11 * (K - r) by have := EK.out; omega) (HB.out.trans (B3.mono HB.out.size)))))
            clear l3 r3 n3 B3 HT1
            go_wp2_with fail
            go_roundw
            case rel => exact ⟨r, q3, c3, z3, rfl, by first | rfl | rw [hr] | (congr 1; omega), by have := EK.out; omega, K3.out⟩
            case measure => have := EK.out; simp [intOf]; omega
end Go.Proofs.YtbdbpjghmejfjaaDoor

namespace Go.Proofs.YtbdbpjghmejfjaaDoor
open Go Go.RowKit Go.Deep

set_option maxRecDepth 100000 in
set_option maxHeartbeats 2000000 in
theorem rrow_any (n : Int) (w : World) (h0 : 0 < n) (h1 : n < 9007199254740992) :
    Calls Tryd.prog 31 #[.int .u64 n] w fun e w' => RowTold n 20 w e w' := by
  have t16 : (10 : Int) ^ (16 - 0) = 10000000000000000 := by decide
  have I0 : Hid (Row64 w.heap.size w (.slice none 0 0) [] ∧ Gf.Pt [] n n ∧ Below w.heap.size w w ∧ n < 10 ^ (16 - 0)) := ⟨row_nil _ _, ⟨fun z hz => by simp at hz, by simp [Gf.gv], .inl h0⟩, Below.refl _ _, by rw [t16]; omega⟩
  clear t16
  go_enter Tryd.func31, Tryd.ntmps31
  go_wp2_with fail
  go_loopw [0, 3] (fun c a w2 => ∃ (mv : Value) (y : Int) (zs : List Int), a = mv ∧ c = .int .u64 y ∧ 0 ≤ y ∧ y < 9007199254740992 ∧ Hid (Row64 w.heap.size w2 mv zs ∧ Gf.Pt zs y n ∧ Below w.heap.size w w2 ∧ zs.length ≤ 16 ∧ y < 10 ^ (16 - zs.length))) (fun c _ _ => (intOf c).toNat)
  case atStart => exact ⟨_, n, [], rfl, rfl, by omega, h1, I0.out.1, I0.out.2.1, I0.out.2.2.1, by simp, I0.out.2.2.2⟩
  case round =>
    clear I0
    obtain ⟨mv, y, zs, hmv, rfl, hy0, hy1, I⟩ := hrel
    have hmv := hmv.symm
    subst hmv
    by_cases hz : y = 0
    · subst hz
      obtain ⟨p, cp, e, hl⟩ := row_lies I.out.1
      subst e
      have F : Hid (RowTold n 20 w (.returned (.slice p (List.length zs) cp)) wr) := ⟨p, cp, zs, rfl, hl, I.out.2.1.done, by have := I.out.2.2.2.1; omega, I.out.2.2.1⟩
      clear I hl
      go_wp2_with fail
      go_ret
      exact F.out
    · have hyp : 0 < y := by omega
      obtain ⟨i1, i2, i3, i4, i5⟩ := I.out
      have zl : zs.length < 16 := by
        rcases Nat.lt_or_ge zs.length 16 with c | c
        · exact c
        · rw [show 16 - zs.length = 0 by omega] at i5
          simp at i5
          omega
      obtain ⟨mv', w2, ap, r2, z2, b2, _⟩ := i1.push (y % 10) (by omega) i3.size
      have I2 : Hid (Row64 w.heap.size w2 mv' (zs ++ [y % 10]) ∧ Gf.Pt (zs ++ [y % 10]) (y / 10) n ∧ Below w.heap.size w w2 ∧ (zs ++ [y % 10]).length ≤ 16 ∧ y / 10 < 10 ^ (16 - (zs ++ [y % 10]).length)) := by
        refine ⟨r2, i2.step hyp, i3.trans b2, by simp; omega, ?_⟩
        rw [List.length_append, List.length_cons, List.length_nil]
        rw [show 16 - zs.length = (16 - (zs.length + 1)) + 1 by omega, Int.pow_succ] at i5
        rw [Nat.zero_add]
        generalize (10 : Int) ^ (16 - (zs.length + 1)) = q at *
        omega
      have AP := hid ap
      obtain ⟨lo, hlo⟩ : ∃ lo, y % 10 = lo := ⟨_, rfl⟩
      obtain ⟨c', hc'⟩ : ∃ c', y / 10 = c' := ⟨_, rfl⟩
      rw [hlo] at AP I2
      rw [hc'] at I2
      have c0 : 0 ≤ c' := by omega
      have c1 : c' < y := by omega
      have hlo2 : y.tmod 10 = lo := by rw [Int.tmod_eq_emod_of_nonneg hy0]; exact hlo
      have hc2 : y.tdiv 10 = c' := by rw [Int.tdiv_eq_ediv_of_nonneg hy0]; exact hc'
      clear ap I i1 i2 i3 i4 i5 zl r2 z2 b2
      go_wp2_with (at_builtin; refine wpList_append_d rfl _ _ rfl AP.out (by rfl) (by rfl) ?_; clear AP)
      go_roundw
      case rel => exact ⟨mv', c', zs ++ [lo], rfl, by first | rfl | rw [hc'], c0, by omega, I2.out⟩
      case measure => simp [intOf]; omega
end Go.Proofs.YtbdbpjghmejfjaaDoor

namespace Go.Proofs.YtbdbpjghmejfjaaDoor
open Go Go.RowKit Go.Deep

/-- What exact tells. -/
def ExTold (d : Int) (w : World) (e : Ending) (w' : World) : Prop :=
  ∃ s, e = .returned (.tuple #[.string s, .int .i64 (Fx.ed (Ie.dm d) (Ie.de d))]) ∧ Str s (Fx.xd (Ie.dm d) (Ie.de d)) ∧ Below w.heap.size w w'

theorem ExTold.of {d : Int} {w w' : World} {s : ByteArray} {xs : List Int} {E : Int} (hm : 0 ≤ Ie.dm d) (h : Fx.Ex (Ie.dm d) (Ie.de d) xs E) (hs : Str s xs) (hB : Below w.heap.size w w') : ExTold d w (.returned (.tuple #[.string s, .int .i64 E])) w' := by
  obtain ⟨e1, e2⟩ := h.is hm
  exact ⟨s, by rw [e2], by rw [← e1]; exact hs, hB⟩

set_option maxRecDepth 100000 in
set_option maxHeartbeats 4000000 in
theorem exact_any (d : Int) (w : World) (hT : Tab w) (h0 : 0 ≤ d) (h1 : d < 18446744073709551616) (hf : Ie.cls d < 3) :
    Calls Tryd.prog 17 #[.int .u64 d] w fun e w' => ExTold d w e w' := by
  have D := hid (decode_any d w h0 h1)
  obtain ⟨m0, m1, e0, e1, mz⟩ := Ie.fdec d hf
  have FIN : Hid (∀ (w' : World) (s : ByteArray) (xs : List Int) (E : Int), Fx.Ex (Ie.dm d) (Ie.de d) xs E → Str s xs → Below w.heap.size w w' → ExTold d w (.returned (.tuple #[.string s, .int .i64 E])) w') := fun w' s xs E h hs hB => .of m0 h hs hB
  have HT := hid hT
  simp only [partsOf] at D
  generalize decide (9223372036854775808 ≤ d) = neg at *
  generalize Ie.dm d = m at *
  generalize Ie.de d = x at *
  generalize Ie.cls d = c at *
  clear hT h0 h1 hf
  by_cases hc : c = 0
  · subst hc
    have hm := mz.1 rfl
    subst hm
    have F0 : Hid (∀ (w' : World), Below w.heap.size w w' → ExTold d w (.returned (.tuple #[.string ⟨#[48]⟩, .int .i64 0])) w') := fun w' hB => FIN.out w' _ [48] 0 ⟨by omega, fun _ => ⟨rfl, rfl⟩, fun h => by omega, fun h => by omega⟩ rfl hB
    clear FIN mz HT
    go_enter Tryd.func17, Tryd.ntmps17
    go_wp2_with fail
    refine D.out.mono ?_
    rintro e w1 ⟨rfl, hB⟩
    have K := hid (F0.out _ (hB.trans ((alloc_b w1 (.cells #[.bool neg, .int .i64 0, .int .u64 0, .int .i64 x] 47)).mono hB.size)))
    clear hB F0 D
    go_wp2_with fail
    go_ret2
    exact K.out
  · have hc' : (c == 0) = false := by rw [beq_eq_false_iff_ne]; exact hc
    have hm : 0 < m := by rcases (show m = 0 ∨ 0 < m by omega) with h | h; exact absurd (mz.2 h) hc; exact h
    have TZ : Hid (∀ wx : World, Tab wx → Calls Tryd.prog 35 #[.int .u64 m] wx fun e w' => ∃ (t : Nat) (q : Int), e = .returned (.int .i64 t) ∧ t ≤ 63 ∧ Hid (m = 2 ^ t * q ∧ 0 < q ∧ q % 2 = 1) ∧ m / 2 ^ t = q ∧ 0 ≤ q ∧ q < 9007199254740992 ∧ w' = wx) := by
      intro wx hT
      refine (tz64 m wx hm (by omega) hT).mono ?_
      rintro e w' ⟨t, q, rfl, ht, hq, rfl⟩
      have hq' : m = 2 ^ t * (2 * q + 1) := hq
      have p2 : (0 : Int) < 2 ^ t := Int.pow_pos (by omega)
      have qp : 0 < 2 * q + 1 := by
        rcases (show 2 * q + 1 ≤ 0 ∨ 0 < 2 * q + 1 by omega) with h | h
        · have := Int.mul_nonpos_of_nonneg_of_nonpos (Int.le_of_lt p2) h
          omega
        · exact h
      have dv' : m / 2 ^ t = 2 * q + 1 := by rw [hq']; exact Int.mul_ediv_cancel_left _ (by omega)
      refine ⟨t, 2 * q + 1, rfl, ht, ⟨hq', qp, by omega⟩, dv', by omega, ?_, rfl⟩
      have : (1 : Int) * (2 * q + 1) ≤ 2 ^ t * (2 * q + 1) := Int.mul_le_mul_of_nonneg_right p2 (by omega)
      omega
    have XB := hid (And.intro e0 e1)
    clear mz hc hm
    go_enter Tryd.func17, Tryd.ntmps17
    go_wp2_with fail
    refine D.out.mono ?_
    rintro e w1 ⟨rfl, hB1⟩
    have HB1 := hid hB1
    clear hB1 D
    go_upto_region 4 with fail
    have hb := HB1.out.trans ((alloc_b w1 (.cells #[.bool neg, .int .i64 c, .int .u64 m, .int .i64 x] 47)).mono HB1.out.size)
    have P := Row4.new w1 47 (.bool neg) (.int .i64 c) (.int .u64 m) (.int .i64 x)
    obtain ⟨SS, KS, CS, BS, MS⟩ := state (fun w' => (w'.cell? ⟨w1.heap.size, 2, none⟩ = some (.int .u64 m) ∧ w'.cell? ⟨w1.heap.size, 3, none⟩ = some (.int .i64 x)) ∧ Tab w') w (((Stays.cell _ _).and (Stays.cell _ _)).and Stays.tab)
    have S0 := hid (MS.out _ ⟨⟨P.cells.1.2.2.1, P.cells.1.2.2.2⟩, HT.out.below hb⟩ hb)
    clear P hb HT HB1 MS
    generalize w1.alloc (.cells #[.bool neg, .int .i64 c, .int .u64 m, .int .i64 x] 47) = wA at *
    generalize w1.heap.size = b at *
    have CC : Hid (∀ wx : World, SS wx → (wx.cell? ⟨b, 2, none⟩ = some (.int .u64 m) ∧ wx.cell? ⟨b, 3, none⟩ = some (.int .i64 x))) := fun wx h => (CS.out wx h).1
    have T0 := hid (TZ.out _ (CS.out _ S0.out).2)
    obtain ⟨p2, p3⟩ := CC.out _ S0.out
    clear CS TZ
    go_wp2_with fail
    refine T0.out.mono ?_
    rintro e wz ⟨t, q, rfl, ht, HQ, dq, q0, q1, hz⟩
    replace hz := hz.symm
    subst hz
    have FU := hid (fun (wx : World) => fromUint_any q wx q0 (by omega))
    obtain ⟨y, hy⟩ : ∃ y, x + (t : Int) = y := ⟨_, rfl⟩
    have WK : IntKind.i64.wrap (x + (t : Int)) = y := by rw [IntKind.wrap_i64]; omega
    have WN : IntKind.i64.wrap y = y := by rw [IntKind.wrap_i64]; omega
    clear T0
    have S1 := hid (KS.out _ _ S0.out (drew_nil _))
    go_upto_region 5 with fail
    go_region_held3 (fun w' => w'.cell? ⟨b, 2, none⟩ = some (.int .u64 m) ∧ w'.cell? ⟨b, 3, none⟩ = some (.int .i64 x)) (first | (with_reducible exact CC.out _ S2.out) | (with_reducible exact CC.out _ S1.out)) (first
      | (go_at_call 24; refine (FU.out _).mono ?_; rintro e w2 ⟨p, os, rfl, A, hB⟩; have S2 := hid (KS.out _ _ S1.out hB); have A2 := hid A; clear hB A))
    all_goals
      by_cases hy0 : y < 0
      · obtain ⟨n, hn⟩ : ∃ n : Nat, -y = (n : Int) := ⟨(-y).toNat, by omega⟩
        have hn0 : (n : Int) ≤ 1074 := by omega
        have BH := hid (behind_any p os _ q (n : Int) n w2 A2.out HQ.out.2.1 (by omega) rfl (by omega))
        have KK : Hid (∀ (w3 : World) (s : ByteArray) (xs : List Int), DigT (q * 5 ^ n) s xs → Below w2.heap.size w2 w3 → ExTold d w (.returned (.tuple #[.string s, .int .i64 y])) w3) := by
          intro w3 s xs D hB
          refine FIN.out w3 s xs y ?_ D.str ((BS.out _ S2.out).trans (hB.mono (BS.out _ S2.out).size))
          rw [← hy]
          exact ex_odd HQ.out.1 HQ.out.2.1 HQ.out.2.2 XB.out.1 (by omega) D
        clear FIN A2 FU S0 S1 CC HQ dq hy WK p2 p3
        go_wp2_with fail
        refine BH.out.mono ?_
        rintro e w3 ⟨s, xs, rfl, D, hB⟩
        have K := hid (KK.out w3 s xs D hB)
        clear D hB KK BH
        go_wp2_with fail
        go_ret2
        exact K.out
      · obtain ⟨n, hn⟩ : ∃ n : Nat, y = (n : Int) := ⟨y.toNat, by omega⟩
        have hn0 : (n : Int) ≤ 1034 := by omega
        have room : q * 2 ^ n < 10 ^ (20 + n) := by
          have h1 := f2_10 n
          have h0 : (0 : Int) < 2 ^ n := Int.pow_pos (by omega)
          have h2 : q * 2 ^ n < 9007199254740992 * 2 ^ n := Int.mul_lt_mul_of_pos_right q1 h0
          rw [Int.pow_add]
          have e : (10 : Int) ^ 20 = 100000000000000000000 := by decide
          rw [e]
          omega
        have r0 : q < Nm.pw 4096 := Int.lt_trans (show q < 10 ^ 20 by rw [show (10 : Int) ^ 20 = 100000000000000000000 by decide]; omega) (fp10_pw (by omega))
        have SH := fshl_any p _ _ os (n : Int) n w2 (A2.out.argT r0) (A2.out.tsT r0) rfl (by rw [A2.out.2.2.2.1]; exact Int.lt_trans room (fp10_pw (by omega)))
        rw [A2.out.2.2.2.1] at SH
        have HS := hid SH
        have DG : Hid (∀ (w1 : World) (r : Option Addr) (zs : List Int) (B : Nat), Ans B w1 r zs (q * 2 ^ n) → Calls Tryd.prog 37 #[.slice r (List.length zs) (List.length zs)] w1 fun e w' => ∃ s xs, e = .returned (.tuple #[.string s, .int .i64 0]) ∧ DigT (q * 2 ^ n) s xs ∧ Below w1.heap.size w1 w') :=
          fun w1 r zs B A1 => fdigits_any r zs B _ w1 (20 + n) A1 (Int.mul_pos HQ.out.2.1 (Int.pow_pos (by omega))) (by omega) room
        have KK : Hid (∀ (w3 : World) (s s' : ByteArray) (xs : List Int) (k : Nat), DigT (q * 2 ^ n) s xs → Str s' (xs.take k) → k ≤ xs.length → (∀ i, k ≤ i → i < xs.length → xs.getD i 0 = 48) → (0 < k → xs.getD (k - 1) 0 ≠ 48) → Below w.heap.size w w3 → ExTold d w (.returned (.tuple #[.string s', .int .i64 ((s.size : Int) - (s'.size : Int))])) w3) := by
          intro w3 s s' xs k D hs hk g0 gl hB
          have z1 : s.size = xs.length := D.str.size
          have z2 : s'.size = k := by rw [hs.size, List.length_take]; omega
          rw [z1, z2]
          exact FIN.out w3 s' (xs.take k) _ (ex_whole HQ.out.1 HQ.out.2.1 XB.out.1 (by omega) D hk g0 gl) hs hB
        have hy1 : ¬ (n : Int) < 0 := by omega
        subst hn
        clear FIN A2 FU S0 S1 CC HQ dq hy WK p2 p3 SH room r0 hy0
        generalize q * 2 ^ n = T at *
        go_wp2_with fail
        refine HS.out.mono ?_
        rintro e w3 ⟨r, zs, rfl, A3, B3⟩
        have D3 := hid (DG.out w3 r zs _ A3)
        have HB3 := hid ((BS.out _ S2.out).trans (B3.mono (BS.out _ S2.out).size))
        clear A3 B3 HS DG
        go_wp2_with fail
        refine D3.out.mono ?_
        rintro e w4 ⟨s, xs, rfl, D4, B4⟩
        have HB4 := hid (HB3.out.trans (B4.mono HB3.out.size))
        have HD := hid D4
        have TR := hid (frtrim0_any s xs w4 D4.str (by have := D4.len; omega))
        have sz1 : (s.size : Int) ≤ 3000 := by have := D4.str.size; have := D4.len; omega
        clear D4 B4 D3 HB3
        go_wp2_with fail
        refine TR.out.mono ?_
        rintro e w5 ⟨⟨s', k, rfl, g1, g2, g3, g4⟩, hz⟩
        have sz2 : (s'.size : Int) ≤ (s.size : Int) := by rw [g1.size, HD.out.str.size, List.length_take]; omega
        have K := hid (KK.out w5 s s' xs k HD.out g1 g2 g3 g4 (by rw [hz]; exact HB4.out))
        clear g1 g2 g3 g4 hz TR KK HD HB4
        go_wp2_with fail
        go_ret2
        exact K.out
end Go.Proofs.YtbdbpjghmejfjaaDoor

namespace Go.Proofs.YtbdbpjghmejfjaaDoor
open Go Go.RowKit Go.Deep

theorem fset1 {w : World} {b o t : Nat} {v : Value} {c c' : Array Value} (h : w.heap[b]? = some (.cells c t (0, 0))) (e : c.setIfInBounds o v = c') : (w.setCell ⟨b, o, none⟩ v).heap[b]? = some (.cells c' t (0, 0)) := by
  subst e
  simp [World.setCell, Array.getElem?_modify, h]


/-- Three cells that may be written. -/
def FR3 (w : World) (b : Nat) (v0 v1 v2 : Value) : Prop := w.heap[b]? = some (.cells #[v0, v1, v2] 29 (0, 0))
theorem FR3.new (w : World) (v0 v1 v2 : Value) : FR3 (w.alloc (.cells #[v0, v1, v2] 29)) w.heap.size v0 v1 v2 := heap_alloc_new w _
theorem FR3.below {B : Nat} {w w' : World} {b : Nat} {v0 v1 v2 : Value} (h : FR3 w b v0 v1 v2) (hB : Below B w w') (hb : b < B) : FR3 w' b v0 v1 v2 := by
  rw [FR3, hB.block b hb]; exact h
theorem FR3.lt {w : World} {b : Nat} {v0 v1 v2 : Value} (h : FR3 w b v0 v1 v2) : b < w.heap.size := by
  rcases Nat.lt_or_ge b w.heap.size with hl | hl
  · exact hl
  · simp [FR3, Array.getElem?_eq_none hl] at h
theorem FR3.cells {w : World} {b : Nat} {v0 v1 v2 : Value} (h : FR3 w b v0 v1 v2) :
    (w.cell? ⟨b, 0, none⟩ = some v0 ∧ w.cell? ⟨b, 1, none⟩ = some v1 ∧ w.cell? ⟨b, 2, none⟩ = some v2) ∧
    (w.frozen? ⟨b, 0, none⟩ = false ∧ w.frozen? ⟨b, 1, none⟩ = false ∧ w.frozen? ⟨b, 2, none⟩ = false) := by
  simp only [FR3] at h
  refine ⟨⟨?_, ?_, ?_⟩, ⟨?_, ?_, ?_⟩⟩ <;> simp [World.cell?, World.frozen?, h]
theorem FR3.put {w : World} {b : Nat} {v0 v1 v2 : Value} (h : FR3 w b v0 v1 v2) (u0 u1 u2 : Value) :
    FR3 (((w.setCell ⟨b, 0, none⟩ u0).setCell ⟨b, 1, none⟩ u1).setCell ⟨b, 2, none⟩ u2) b u0 u1 u2 := by
  have h0 := fset1 (o := 0) (v := u0) (c' := #[u0, v1, v2]) h (by simp [Array.setIfInBounds])
  have h1 := fset1 (o := 1) (v := u1) (c' := #[u0, u1, v2]) h0 (by simp [Array.setIfInBounds])
  exact fset1 (o := 2) (v := u2) (c' := #[u0, u1, u2]) h1 (by simp [Array.setIfInBounds])
theorem FR3.far {w : World} {b c o : Nat} {v v0 v1 v2 : Value} (h : FR3 w b v0 v1 v2) (hc : c ≠ b) : FR3 (w.setCell ⟨c, o, none⟩ v) b v0 v1 v2 := by
  simp only [FR3] at *
  simp only [World.setCell, Array.getElem?_modify]
  rw [if_neg hc]; exact h
theorem fset3_below {B : Nat} {w w' : World} {b : Nat} {u0 u1 u2 : Value} (h : Below B w w') (hb : B ≤ b) : Below B w (((w'.setCell ⟨b, 0, none⟩ u0).setCell ⟨b, 1, none⟩ u1).setCell ⟨b, 2, none⟩ u2) :=
  ((h.setCell (p := ⟨b, 0, none⟩) hb u0).setCell (p := ⟨b, 1, none⟩) hb u1).setCell (p := ⟨b, 2, none⟩) hb u2


theorem fresults_row_tmp {P : Program} {fn : Func} {p u : Tmp} {ty : TypeId} (h : fn.results = #[.cell p ty, .tmp u]) (tmps : Array Value) (w : World) (g : Nat) (t : TypeId) (cs : Array Value) (fr : Nat × Nat) (d : TypeDesc)
    (hp : tmps.getD p undef = .pointer (some ⟨g, 0, none⟩)) (hg : w.heap[g]? = some (.cells cs t fr))
    (hu : P.underlying ty = some d) (hd : (match d with | .struct _ | .array _ _ => true | _ => false) = true) (hi : (P.info? ty).map (·.size) = some cs.size) :
    (results fn tmps).run P w = .ok (.tuple #[.agg cs, tmps.getD u undef]) w := by
  rw [results_cell_tmp h, hp]
  simp [asAddr, run_loadVar_row w g t ty cs fr d hg hu hd hi, Result.andThen]

end Go.Proofs.YtbdbpjghmejfjaaDoor
