/-
  Texts put together: QShift, QGuess, NUpward.
-/
import Derived.Test.YtigmhnlcmhpepaaGreatDoorWAA
import Derived.Test.YtigmhnlcmhpepaaGreatDoorWAF
import Derived.Test.YtigmhnlcmhpepaaGreatDoorWAD
import Derived.Test.YtigmhnlcmhpepaaGreatDoorWAI
namespace Go.Proofs.YtigmhnlcmhpepaaGreatDoor
open Go.RowKit Go.Deep

/-- Two limbs moved up, as one: digits that don't meet. -/
theorem shift_or (x y : Int) (t u : Nat) (htu : t + u = 64) (_x0 : 0 ≤ x) (y0 : 0 ≤ y) (y1 : y < 18446744073709551616) :
    ∃ A C s : Int, IntKind.u64.wrap (x * 2 ^ t) = A ∧ y / 2 ^ u = C ∧ bits .or .u64 A C = s ∧ Hid (s = x % 2 ^ u * 2 ^ t + y / 2 ^ u) := by
  have hP : (0 : Int) < 2 ^ t := Int.pow_pos (by omega)
  have hQ : (0 : Int) < 2 ^ u := Int.pow_pos (by omega)
  have hPQ : (2 : Int) ^ t * 2 ^ u = 18446744073709551616 := by rw [← Int.pow_add, htu]; rfl
  have h1 := Qd.part_bd (z := x) hP hQ hPQ
  have h2 : 0 ≤ y / 2 ^ u := Int.ediv_nonneg y0 (by omega)
  have h3 : y / 2 ^ u < 2 ^ t := by rw [Int.ediv_lt_iff_lt_mul hQ, hPQ]; exact y1
  have h4 := Int.emod_add_mul_ediv x (2 ^ u)
  have hA : IntKind.u64.wrap (x * 2 ^ t) = x % 2 ^ u * 2 ^ t := by
    have e : x * 2 ^ t = x % 2 ^ u * 2 ^ t + 18446744073709551616 * (x / 2 ^ u) := by
      have : (x % 2 ^ u + 2 ^ u * (x / 2 ^ u)) * 2 ^ t = x * 2 ^ t := by rw [h4]
      rw [Int.add_mul, Int.mul_right_comm, Int.mul_comm (2 ^ u) (2 ^ t), hPQ] at this
      omega
    rw [wrap_mod, e]
    omega
  exact ⟨_, _, _, hA, rfl, rfl, or_sum (x % 2 ^ u) (y / 2 ^ u) t (Int.emod_nonneg x (by omega)) h2 h3 (by omega) (by omega)⟩

theorem ret_u64 {a b : Int} (h : a = b) : Ending.returned (.int .u64 a) = .returned (.int .u64 b) := by rw [h]

set_option maxRecDepth 100000 in
set_option maxHeartbeats 1000000 in
/-- Limb i of the number moved up by t binary digits. -/
theorem shifted_any (p : Option Addr) (n cap : Nat) (zs : List Int) (i t : Nat) (ii tt v : Int) (w : World) (hn : zs.length = n) (hc : n ≤ cap) (hm : cap ≤ 140737488355328) (h : Lies w p zs) (hz : Nm.Limbs zs) (hi : i < n) (ht : t ≤ 63) (hii : ii = (i : Int)) (htt : tt = (t : Int)) (hv : Qd.limb zs (2 ^ t) (2 ^ (64 - t)) i = v) :
    Calls Tryz.prog 254 #[.slice p n cap, .int .i64 ii, .int .i64 tt] w fun e w' => e = .returned (.int .u64 v) ∧ Below w.heap.size w w' := by
  subst hv
  subst hii
  subst htt
  obtain ⟨b, off, rfl, hbw, HC⟩ := h.at (by omega)
  obtain ⟨u, hu⟩ : ∃ u, 64 - t = u := ⟨_, rfl⟩
  rw [hu]
  cases i with
  | zero =>
    obtain ⟨x, hx, X⟩ : ∃ x, w.cell? ⟨b, off, none⟩ = some (.int .u64 x) ∧ Hid (x = zs.getD 0 0) := ⟨_, HC.out 0 (by omega), rfl⟩
    have hx0 := hz.at 0
    rw [← X.out] at hx0
    obtain ⟨A, C, s, r1, r2, r3, R⟩ := shift_or x 0 t u (by omega) hx0.1 (Int.le_refl 0) (by omega)
    have FIN : Hid (A = Qd.limb zs (2 ^ t) (2 ^ u) 0) := by
      show _ = _
      rw [Int.zero_ediv] at r2 R
      subst r2
      have e := Qd.part_bd (z := x) (T := 2 ^ t) (U := 2 ^ u) (Int.pow_pos (by omega)) (Int.pow_pos (by omega)) (by rw [← Int.pow_add, show t + u = 64 by omega]; rfl)
      have o := or_sum (x % 2 ^ u) 0 t (Int.emod_nonneg x (by have : (0 : Int) < 2 ^ u := Int.pow_pos (by omega); omega)) (Int.le_refl 0) (Int.pow_pos (by omega)) (by have : (0 : Int) < 2 ^ t := Int.pow_pos (by omega); omega) (by omega)
      have hA : A = x % 2 ^ u * 2 ^ t := by
        rw [← r1, wrap_mod]
        have h4 := Int.emod_add_mul_ediv x (2 ^ u)
        have hPQ : (2 : Int) ^ t * 2 ^ u = 18446744073709551616 := by rw [← Int.pow_add, show t + u = 64 by omega]; rfl
        have e2 : x * 2 ^ t = x % 2 ^ u * 2 ^ t + 18446744073709551616 * (x / 2 ^ u) := by
          have : (x % 2 ^ u + 2 ^ u * (x / 2 ^ u)) * 2 ^ t = x * 2 ^ t := by rw [h4]
          rw [Int.add_mul, Int.mul_right_comm, Int.mul_comm (2 ^ u) (2 ^ t), hPQ] at this
          omega
        have : (0 : Int) < 2 ^ t := Int.pow_pos (by omega)
        rw [e2]
        omega
      rw [hA, Qd.limb, ← X.out]
      show _ = _ + 0
      omega
    clear r2 r3 R X
    go_enter Tryz.func254, Tryz.ntmps254
    go_wp2
    go_ret
    exact ⟨ret_u64 FIN.out, Below.refl _ _⟩
  | succ j =>
    obtain ⟨x, hx, X⟩ : ∃ x, w.cell? ⟨b, off + (j + 1), none⟩ = some (.int .u64 x) ∧ Hid (x = zs.getD (j + 1) 0) := ⟨_, HC.out (j + 1) (by omega), rfl⟩
    obtain ⟨y, hy, Y⟩ : ∃ y, w.cell? ⟨b, off + j, none⟩ = some (.int .u64 y) ∧ Hid (y = zs.getD j 0) := ⟨_, HC.out j (by omega), rfl⟩
    have hx0 := hz.at (j + 1)
    rw [← X.out] at hx0
    have hy0 := hz.at j
    rw [← Y.out] at hy0
    obtain ⟨hx0, hx1⟩ := hx0
    obtain ⟨hy0, hy1⟩ := hy0
    obtain ⟨A, C, s, r1, r2, r3, R⟩ := shift_or x y t u (by omega) hx0 hy0 hy1
    have r4 : 64 - (t : Int) = (u : Int) := by omega
    have FIN : Hid (s = Qd.limb zs (2 ^ t) (2 ^ u) (j + 1)) := by
      show _ = _
      rw [R.out, Qd.limb, ← X.out, Y.out]
      rfl
    have hij : ((j : Int) + 1 == 0) = false := by rw [beq_eq_false_iff_ne]; omega
    obtain ⟨k, HK⟩ : ∃ k, Hid (k = j + 1) := ⟨_, rfl⟩
    have ek : (((j + 1 : Nat) : Int)) = (k : Int) := by rw [HK.out]
    have ek1 : (k : Int) - 1 = (j : Int) := by rw [HK.out]; omega
    have hk0 : ((k : Int) == 0) = false := by rw [beq_eq_false_iff_ne]; omega
    have hkn : (k : Int) < (n : Int) := by rw [HK.out]; omega
    have hjn : (j : Int) < (n : Int) := by omega
    have hx2 : w.cell? ⟨b, off + k, none⟩ = some (.int .u64 x) := by rw [HK.out]; exact hx
    rw [ek]
    clear R hx hij ek hi hu
    go_enter Tryz.func254, Tryz.ntmps254
    go_wp2_with fail
    go_quiet (fail)
    go_wp2
    go_ret
    exact ⟨ret_u64 FIN.out, below_drewN (Below.refl _ _) _⟩

set_option maxRecDepth 100000 in
set_option maxHeartbeats 1000000 in
/-- The guess made less. -/
theorem lessened_any (Q : Int → Prop) (f s h m l d left : Int) (w : World) (hQ : ∀ q, Q q → Qd.Fits q f s h m l) (f0 : 0 ≤ f) (f1 : f < 18446744073709551616) (s0 : 0 ≤ s) (s1 : s < 18446744073709551616) (l0 : 0 ≤ l) (l1 : l < 18446744073709551616)
    (H : Qd.Over Q f (h * 18446744073709551616 + m) d left) :
    Calls Tryz.prog 255 #[.int .u64 d, .int .u64 left, .int .u64 l, .int .u64 f, .int .u64 s] w fun e w' => ∃ g, e = .returned (.int .u64 g) ∧ (0 ≤ g ∧ g < 18446744073709551616) ∧ Hid (∀ q, Q q → q ≤ g) ∧ w' = w := by
  have HH := hid H
  have HQ := hid hQ
  clear H hQ
  go_enter Tryz.func255, Tryz.ntmps255
  go_wp2_with fail
  go_loop [0, 1] (fun a b => ∃ d left, a = .int .u64 d ∧ b = .int .u64 left ∧ Hid (Qd.Over Q f (h * 18446744073709551616 + m) d left)) (fun a _ => (intOf a).toNat)
  case atStart => exact ⟨d, left, rfl, rfl, HH.out⟩
  case round =>
    clear HH
    obtain ⟨d, left, rfl, rfl, H⟩ := hrel
    obtain ⟨d0, d1⟩ := H.out.1
    obtain ⟨left0, left1⟩ := H.out.2.1
    go_wp2_with fail
    refine (mul64 d s d0 d1 s0 s1 _).mono ?_
    rintro e w' ⟨hh, ll, rfl, ⟨hh0, hh1, ll0, ll1⟩, E, _, rfl⟩
    rcases (show hh < left ∨ (hh = left ∧ ll ≤ l) ∨ (left < hh) ∨ (hh = left ∧ l < ll) by omega) with c | c | c | c
    · go_wp2
      go_ret
      exact ⟨d, rfl, ⟨d0, d1⟩, H.out.2.2.2, rfl⟩
    · obtain ⟨rfl, c⟩ := c
      go_wp2
      go_ret
      exact ⟨d, rfl, ⟨d0, d1⟩, H.out.2.2.2, rfl⟩
    all_goals
      have hc : left * 18446744073709551616 + l < d * s := by
        have := E.out
        omega
      obtain ⟨g1, g2, g3⟩ := Qd.over_down HQ.out l0 f0 H.out hc
      have G3 := hid g3
      have G2 := hid g2
      clear g2 g3
      by_cases hr : left + f < 18446744073709551616
      · have ON := hid (Qd.over_on HQ.out l0 f0 H.out hc hr)
        clear hc
        try (obtain ⟨rfl, c⟩ := c)
        go_wp2
        go_round
        case rel => exact ⟨d - 1, _, rfl, rfl, ON.out⟩
        case measure => simp [intOf]; omega
      · have r1 : IntKind.u64.wrap (left + f) = left + f - 18446744073709551616 := by rw [wrap_mod]; omega
        clear hc
        try (obtain ⟨rfl, c⟩ := c)
        go_wp2
        go_ret
        exact ⟨d - 1, rfl, by omega, G3.out, rfl⟩
end Go.Proofs.YtigmhnlcmhpepaaGreatDoor

namespace Go.Proofs.YtigmhnlcmhpepaaGreatDoor
open Go.RowKit Go.Deep

/-- Both lists lie where they lay. -/
def Both (w : World) (p q : Option Addr) (ps bs : List Int) : Prop := Lies w p ps ∧ Lies w q bs

theorem Both.below {w w' : World} {p q : Option Addr} {ps bs : List Int} (h : Both w p q ps bs) (hb : Below w.heap.size w w') : Both w' p q ps bs :=
  ⟨h.1.below hb (Nat.le_refl _), h.2.below hb (Nat.le_refl _)⟩

/-- Moved up till its highest binary digit is at the top, the divisor keeps its limbs. -/
theorem room_up {bs : List Int} (hz : Nm.Limbs bs) {k : Nat} (lb : bs.length = k + 2) {T U y : Int} (hT : 0 < T) (hTU : T * U = 18446744073709551616) (hy : bs.getD (k + 1) 0 = y) (hyT : y * T < 18446744073709551616) : Nm.val bs * T < Nm.pw (k + 2) := by
  have h1 := Nm.val_take_succ bs (k + 1) (by omega)
  rw [List.take_of_length_le (by omega), hy] at h1
  have h2 := (Nm.val_bd _ (hz.take (k + 1))).2
  rw [List.length_take, Nat.min_eq_left (by omega)] at h2
  have hyU : y + 1 ≤ U := by
    rcases (show y + 1 ≤ U ∨ U ≤ y by omega) with c | c
    · exact c
    · exfalso
      have : U * T ≤ y * T := Int.mul_le_mul_of_nonneg_right c (by omega)
      rw [Int.mul_comm U T, hTU] at this
      omega
  have h3 : (y + 1) * T ≤ U * T := Int.mul_le_mul_of_nonneg_right hyU (by omega)
  rw [Int.mul_comm U T, hTU] at h3
  have hp := Nm.pw_pos (k + 1)
  have h4 : Nm.pw (k + 1) * ((y + 1) * T) ≤ Nm.pw (k + 1) * 18446744073709551616 := Int.mul_le_mul_of_nonneg_left h3 (by omega)
  have h5 : Nm.val bs < Nm.pw (k + 1) * (y + 1) := by rw [Int.mul_add, Int.mul_one]; omega
  have h6 := Int.mul_lt_mul_of_pos_right h5 hT
  rw [Int.mul_assoc] at h6
  rw [show k + 2 = k + 1 + 1 from rfl, Nm.pw_succ]
  omega

set_option maxRecDepth 100000 in
set_option maxHeartbeats 1000000 in
theorem guess_any (p q : Option Addr) (k n n1 cap cap' : Nat) (ps bs : List Int) (w : World) (hn : n = k + 2) (hn1 : n1 = k + 3) (lb : bs.length = n) (lp : ps.length = n1) (hc : n1 ≤ cap) (hc' : n ≤ cap') (hm : cap ≤ 140737488355328) (hm' : cap' ≤ 140737488355328)
    (hp : Lies w p ps) (hb : Lies w q bs) (hlp : Nm.Limbs ps) (hlb : Nm.Limbs bs) (htop : bs.getD (k + 1) 0 ≠ 0) (hpb : Nm.val ps < Nm.val bs * 18446744073709551616) :
    Calls Tryz.prog 248 #[.slice p n1 cap, .slice q n cap'] w fun e w' => ∃ g, e = .returned (.int .u64 g) ∧ (0 ≤ g ∧ g < 18446744073709551616) ∧ Hid (∀ x, 0 ≤ x → x * Nm.val bs ≤ Nm.val ps → x ≤ g) ∧ Below w.heap.size w w' := by
  obtain ⟨b, off, rfl, hbw, HC⟩ := hb.at (by omega)
  obtain ⟨t1, HT1⟩ : ∃ t1, Hid (t1 = k + 1) := ⟨_, rfl⟩
  have e1 : (n : Int) - 1 = (t1 : Int) := by rw [HT1.out]; omega
  obtain ⟨y, hy, Y⟩ : ∃ y, w.cell? ⟨b, off + t1, none⟩ = some (.int .u64 y) ∧ Hid (y = bs.getD t1 0) := ⟨_, HC.out t1 (by rw [HT1.out]; omega), rfl⟩
  have hy0 := hlb.at t1
  rw [← Y.out] at hy0
  obtain ⟨hy0, hy1⟩ := hy0
  have hyp : 0 < y := by
    have := Y.out
    rw [HT1.out] at this
    omega
  obtain ⟨l, hl⟩ : ∃ l, Lib.bitLen y.toNat = l := ⟨_, rfl⟩
  obtain ⟨t, ht, ht63, _, hyT, hT, hU, hTU⟩ := shift_facts y l hyp hy1 hl
  have LE := lead_any y l w hy0 hy1 hl
  rw [show 64 - (l : Int) = (t : Int) by omega] at LE
  have F := Qd.fits hlb hlp hT hU hTU (k := k) (by omega) (by omega) (room_up hlb (by omega) hT hTU (by rw [← HT1.out]; exact Y.out.symm) hyT) hpb
  have Bf := Qd.limb_bd hlb hT hU hTU (k + 1)
  have Bs := Qd.limb_bd hlb hT hU hTU k
  have Bh := Qd.limb_bd hlp hT hU hTU (k + 2)
  have Bm := Qd.limb_bd hlp hT hU hTU (k + 1)
  have Bl := Qd.limb_bd hlp hT hU hTU k
  obtain ⟨f, hf⟩ : ∃ f, Qd.limb bs (2 ^ t) (2 ^ (64 - t)) (k + 1) = f := ⟨_, rfl⟩
  obtain ⟨s, hs⟩ : ∃ f, Qd.limb bs (2 ^ t) (2 ^ (64 - t)) k = f := ⟨_, rfl⟩
  obtain ⟨h, hh⟩ : ∃ f, Qd.limb ps (2 ^ t) (2 ^ (64 - t)) (k + 2) = f := ⟨_, rfl⟩
  obtain ⟨m, hmm⟩ : ∃ f, Qd.limb ps (2 ^ t) (2 ^ (64 - t)) (k + 1) = f := ⟨_, rfl⟩
  obtain ⟨lo, hlo⟩ : ∃ f, Qd.limb ps (2 ^ t) (2 ^ (64 - t)) k = f := ⟨_, rfl⟩
  rw [hf, hs, hh, hmm, hlo] at F
  rw [hf] at Bf
  rw [hs] at Bs
  rw [hh] at Bh
  rw [hmm] at Bm
  rw [hlo] at Bl
  obtain ⟨f0, f1⟩ := Bf
  obtain ⟨s0, s1⟩ := Bs
  obtain ⟨h0, h1⟩ := Bh
  obtain ⟨m0, m1⟩ := Bm
  obtain ⟨lo0, lo1⟩ := Bl
  obtain ⟨hhf, hfit⟩ := F
  have HQ : Hid (∀ x, (fun x => 0 ≤ x ∧ x * Nm.val bs ≤ Nm.val ps) x → Qd.Fits x f s h m lo) := fun x hx => hfit x hx.1 hx.2
  have HLE := hid LE
  have HBO : Hid (Both w p (some ⟨b, off, none⟩) ps bs) := ⟨hp, hb⟩
  have HF := hid hf
  have HS := hid hs
  have HH := hid hh
  have HM := hid hmm
  have HL := hid hlo
  have hLP := hid hlp
  have hLB := hid hlb
  have HN := hid hn
  have HN1 := hid hn1
  have HLP := hid lp
  have HLB := hid lb
  have hnn1 : (n : Int) < (n1 : Int) := by omega
  clear LE hf hs hh hmm hlo hfit hlp hlb hn hn1 lp lb hp hb hl ht htop hpb hyT hT hU hTU
  have fin : ∀ (g : Int), (∀ x, (fun x => 0 ≤ x ∧ x * Nm.val bs ≤ Nm.val ps) x → x ≤ g) → Hid (∀ x, 0 ≤ x → x * Nm.val bs ≤ Nm.val ps → x ≤ g) := fun g hg x x0 hx => hg x ⟨x0, hx⟩
  have FIN := hid fin
  clear fin
  go_enter Tryz.func248, Tryz.ntmps248
  go_wp2_with fail
  refine HLE.out.mono ?_
  rintro e w' ⟨rfl, rfl⟩
  clear HLE hy
  go_wp2_with fail
  refine (shifted_any _ n cap' bs (k + 1) t _ _ f _ HLB.out hc' hm' HBO.out.2 hLB.out (by have := HN.out; omega) ht63 (by have := HT1.out; omega) rfl HF.out).mono ?_
  rintro e w1 ⟨rfl, hb1⟩
  have HB1 := hid hb1
  have HBO1 := hid (HBO.out.below hb1)
  clear hb1
  go_wp2_with fail
  refine (shifted_any _ n cap' bs k t _ _ s _ HLB.out hc' hm' HBO1.out.2 hLB.out (by have := HN.out; omega) ht63 (by have := HT1.out; omega) rfl HS.out).mono ?_
  rintro e w2 ⟨rfl, hb2⟩
  have HB2 := hid (chain HB1.out hb2 (Nat.le_refl _))
  have HBO2 := hid (HBO1.out.below hb2)
  clear hb2
  go_wp2_with fail
  refine (shifted_any _ n1 cap ps (k + 2) t _ _ h _ HLP.out hc hm HBO2.out.1 hLP.out (by have := HN1.out; omega) ht63 (by have := HT1.out; omega) rfl HH.out).mono ?_
  rintro e w3 ⟨rfl, hb3⟩
  have HB3 := hid (chain HB2.out hb3 (Nat.le_refl _))
  have HBO3 := hid (HBO2.out.below hb3)
  clear hb3
  go_wp2_with fail
  refine (shifted_any _ n1 cap ps (k + 1) t _ _ m _ HLP.out hc hm HBO3.out.1 hLP.out (by have := HN1.out; omega) ht63 (by have := HT1.out; omega) rfl HM.out).mono ?_
  rintro e w4 ⟨rfl, hb4⟩
  have HB4 := hid (chain HB3.out hb4 (Nat.le_refl _))
  have HBO4 := hid (HBO3.out.below hb4)
  clear hb4
  go_wp2_with fail
  refine (shifted_any _ n1 cap ps k t _ _ lo _ HLP.out hc hm HBO4.out.1 hLP.out (by have := HN1.out; omega) ht63 (by have := HT1.out; omega) rfl HL.out).mono ?_
  rintro e w5 ⟨rfl, hb5⟩
  have HB5 := hid (chain HB4.out hb5 (Nat.le_refl _))
  clear hb5 HB1 HB2 HB3 HB4 HBO HBO1 HBO2 HBO3 HBO4
  by_cases hhe : h = f
  · have hhe' : (h == f) = true := by simp [hhe]
    obtain ⟨s1', S1⟩ : ∃ s, Hid (s = (m + f + 0) % 18446744073709551616) := ⟨_, rfl⟩
    obtain ⟨k1, K1⟩ : ∃ c, Hid (c = (m + f + 0) / 18446744073709551616) := ⟨_, rfl⟩
    by_cases hov : m + f < 18446744073709551616
    · have ek : k1 = 0 := by have := K1.out; omega
      have es : s1' = m + f := by have := S1.out; omega
      subst ek
      subst es
      have OV := hid (Qd.over_even HQ.out hhe (by omega) hov)
      go_wp2_with (simp only [add64' m f 0 _ _ m0 f0 (Int.le_refl 0) (by decide) S1.out K1.out])
      refine (lessened_any _ f s h m lo _ _ _ HQ.out f0 f1 s0 s1 lo0 lo1 OV.out).mono ?_
      rintro e w6 ⟨g, rfl, G, GQ, rfl⟩
      have HG := hid G
      clear G
      go_wp2_with fail
      go_ret
      exact ⟨g, rfl, HG.out, FIN.out g GQ.out, HB5.out⟩
    · have ek : k1 = 1 := by have := K1.out; omega
      subst ek
      have OV := hid (Qd.over_most HQ.out)
      go_wp2_with (simp only [add64' m f 0 _ _ m0 f0 (Int.le_refl 0) (by decide) S1.out K1.out])
      go_ret
      exact ⟨_, rfl, by omega, FIN.out _ OV.out, HB5.out⟩
  · have hhe' : (h == f) = false := by rw [beq_eq_false_iff_ne]; exact hhe
    have hlt : h < f := by omega
    go_wp2_with fail
    refine (div64 h m f _ h0 hlt m0 m1 f1).mono ?_
    rintro e w6 ⟨d, r, rfl, ⟨d0, d1, r0, r1⟩, E, hb6⟩
    have HB6 := hid (chain HB5.out hb6 (Nat.le_refl _))
    have OV := hid (Qd.over_first HQ.out s0 lo1 ⟨d0, d1⟩ r0 r1 f1 E.out)
    clear hb6 E
    go_wp2_with fail
    refine (lessened_any _ f s h m lo _ _ _ HQ.out f0 f1 s0 s1 lo0 lo1 OV.out).mono ?_
    rintro e w7 ⟨g, rfl, G, GQ, rfl⟩
    have HG := hid G
    clear G
    go_wp2_with fail
    go_ret
    exact ⟨g, rfl, HG.out, FIN.out g GQ.out, HB6.out⟩
end Go.Proofs.YtigmhnlcmhpepaaGreatDoor

namespace Go.Proofs.YtigmhnlcmhpepaaGreatDoor
open Go.RowKit Go.Deep

/-- Whether the kept digits ds are taken up by the dropped ones. -/
def UpIs (ds ys : List Int) (more u : Bool) : Prop :=
  (u = true → 10 ^ ys.length ≤ 2 * dv ys ∧ (2 * dv ys = 10 ^ ys.length → more = true ∨ dv ds % 2 = 1)) ∧ (u = false → 2 * dv ys ≤ 10 ^ ys.length ∧ (2 * dv ys = 10 ^ ys.length → more = false ∧ dv ds % 2 = 0))

theorem dv_first {y : Int} {rest : List Int} (h : Digs (y :: rest)) : ∃ P : Int, 0 < P ∧ (10 : Int) ^ (y :: rest).length = 10 * P ∧ dv (y :: rest) = (y - 48) * P + dv rest ∧ 0 ≤ dv rest ∧ dv rest < P := by
  have hr : Digs rest := fun d hd => h d (by simp [hd])
  have b := dv_bd hr
  refine ⟨10 ^ rest.length, Int.pow_pos (by omega), by rw [List.length_cons, Int.pow_succ, Int.mul_comm], dv_cons y rest, b.1, b.2⟩

theorem dv_zero_iff : ∀ {ds : List Int}, Digs ds → (dv ds = 0 ↔ ∀ i, i < ds.length → ds.getD i 0 = 48)
  | [], _ => by simp [dv, Dn.tv]
  | d :: ds, h => by
    have hr : Digs ds := fun e he => h e (by simp [he])
    have b := dv_bd hr
    have hd := h d (by simp)
    have hP : (0 : Int) < 10 ^ ds.length := Int.pow_pos (by omega)
    rw [dv_cons]
    constructor
    · intro c
      have h1 : 0 ≤ (d - 48) * 10 ^ ds.length := Int.mul_nonneg (by omega) (Int.le_of_lt hP)
      have h2 : (d - 48) * 10 ^ ds.length = 0 := by omega
      have h3 : d - 48 = 0 := by
        rcases Int.mul_eq_zero.1 h2 with e | e
        · exact e
        · omega
      have h4 : dv ds = 0 := by omega
      intro i hi
      cases i with
      | zero => simp; omega
      | succ i => simpa using (dv_zero_iff hr).1 h4 i (by simpa using hi)
    · intro c
      have h1 : d = 48 := by simpa using c 0 (by simp)
      have h2 : dv ds = 0 := (dv_zero_iff hr).2 (fun i hi => by simpa using c (i + 1) (by simpa using hi))
      rw [h1, h2]
      simp

theorem up_over {ds ys : List Int} {more : Bool} {y : Int} {rest : List Int} (hy : ys = y :: rest) (hd : Digs ys) (h : 53 < y) : UpIs ds ys more true := by
  subst hy
  obtain ⟨P, p1, p2, p3, p4, p5⟩ := dv_first hd
  have : 6 * P ≤ (y - 48) * P := Int.mul_le_mul_of_nonneg_right (by omega) (by omega)
  refine ⟨fun _ => ⟨by omega, fun c => by omega⟩, fun c => by cases c⟩

theorem up_under {ds ys : List Int} {more : Bool} {y : Int} {rest : List Int} (hy : ys = y :: rest) (hd : Digs ys) (h : y < 53) : UpIs ds ys more false := by
  subst hy
  obtain ⟨P, p1, p2, p3, p4, p5⟩ := dv_first hd
  have : (y - 48) * P ≤ 4 * P := Int.mul_le_mul_of_nonneg_right (by omega) (by omega)
  refine ⟨fun c => (by cases c), fun _ => ⟨by omega, fun c => by omega⟩⟩

theorem up_more {ds ys : List Int} {rest : List Int} (hy : ys = 53 :: rest) (hd : Digs ys) : UpIs ds ys true true := by
  subst hy
  obtain ⟨P, p1, p2, p3, p4, p5⟩ := dv_first hd
  refine ⟨fun _ => ⟨by omega, fun c => .inl rfl⟩, fun c => by cases c⟩

theorem up_rest {ds ys : List Int} {more : Bool} {rest : List Int} (hy : ys = 53 :: rest) (hd : Digs ys) (h : dv rest ≠ 0) : UpIs ds ys more true := by
  subst hy
  obtain ⟨P, p1, p2, p3, p4, p5⟩ := dv_first hd
  refine ⟨fun _ => ⟨by omega, fun c => by omega⟩, fun c => by cases c⟩

theorem up_half {ds ys : List Int} {rest : List Int} (hy : ys = 53 :: rest) (hd : Digs ys) (h : dv rest = 0) {u : Bool} (hu : u = decide (dv ds % 2 = 1)) : UpIs ds ys false u := by
  subst hy
  obtain ⟨P, p1, p2, p3, p4, p5⟩ := dv_first hd
  refine ⟨fun c => ⟨by omega, fun _ => .inr ?_⟩, fun c => ⟨by omega, fun _ => ⟨rfl, ?_⟩⟩⟩
  · rw [c] at hu
    exact of_decide_eq_true hu.symm
  · rw [c] at hu
    have := of_decide_eq_false hu.symm
    omega

theorem dv_last {ds : List Int} {n : Nat} (hn : ds.length = n + 1) : dv ds % 2 = ds.getD n 0 % 2 := by
  have e : ds = ds.take n ++ [ds.getD n 0] := by
    have h := List.take_append_drop n ds
    rw [List.drop_eq_getElem_cons (by omega), List.drop_of_length_le (by omega)] at h
    simpa [List.getD, show n < ds.length by omega] using h.symm
  generalize ds.getD n 0 = x at *
  rw [e, dv_append, dv_cons]
  simp [dv, Dn.tv]
  omega

def UpTold (ds ys : List Int) (more : Bool) (e : Ending) : Prop := ∃ u, e = .returned (.bool u) ∧ UpIs ds ys more u

set_option maxRecDepth 100000 in
set_option maxHeartbeats 2000000 in
theorem upward_any (g n cap : Nat) (es ys : List Int) (sd : ByteArray) (more : Bool) (w : World) (ho : OwnF w g es) (hn : n ≤ es.length) (hnb : n ≤ 140737488351232) (hs : Str sd ys) (hy0 : ys ≠ []) (hyb : ys.length ≤ 140737488351232) (hd : Digs ys) (hde : Digs (es.take n)) :
    Calls Tryz.prog 227 #[.slice (some ⟨g, 0, none⟩) n cap, .string sd, .bool more] w fun e w' => UpTold (es.take n) ys more e ∧ Below w.heap.size w w' := by
  obtain ⟨y, rest, hys⟩ := List.exists_cons_of_ne_nil hy0
  obtain ⟨m, HM⟩ : ∃ m, Hid (ys.length = m) := ⟨_, rfl⟩
  have hsz : sd.size = m := by rw [hs.size, HM.out]
  have hm0 : 0 < m := by have := HM.out; rw [hys] at this; simp at this; omega
  have hmi : (0 : Int) < (m : Int) := by omega
  have hmb : (m : Int) ≤ 140737488351232 := by have := HM.out; omega
  have hx : ∀ h : 0 < sd.size, ((sd[0]'h).toNat : Int) = y := fun h => by rw [hs.at 0 h, hys]; rfl
  have hyd := hd y (by rw [hys]; simp)
  have SR : Str (sd.extract 1 m) rest := by
    have := hs.extract 1 m
    rw [hys, List.drop_succ_cons, List.drop_zero, List.take_of_length_le (by have := HM.out; rw [hys] at this; simp at this; omega)] at this
    exact this
  have TR := hid (trim0_any (sd.extract 1 m) rest w SR (by have := HM.out; rw [hys] at this; simp at this; omega))
  have HY := hid hys
  have HD := hid hd
  have HO := hid ho
  have HN := hid hn
  have hnbi : (n : Int) ≤ 140737488351232 := by omega
  obtain ⟨hyd0, hyd1⟩ := hyd
  clear ho hn hs hy0 hyb hys SR hd
  rcases (show 53 < y ∨ y < 53 ∨ y = 53 by omega) with h | h | h
  · have F := hid (up_over (ds := es.take n) (more := more) HY.out HD.out h)
    have hne : (y == 53) = false := by rw [beq_eq_false_iff_ne]; omega
    go_enter Tryz.func227, Tryz.ntmps227
    go_wp2_with fail
    go_ret
    exact ⟨⟨_, rfl, F.out⟩, Below.refl _ _⟩
  · have F := hid (up_under (ds := es.take n) (more := more) HY.out HD.out h)
    have hne : (y == 53) = false := by rw [beq_eq_false_iff_ne]; omega
    have hnl : ¬ 53 < y := by omega
    go_enter Tryz.func227, Tryz.ntmps227
    go_wp2_with fail
    go_ret
    exact ⟨⟨_, rfl, F.out⟩, Below.refl _ _⟩
  · subst h
    cases more with
    | true =>
      have F := hid (up_more (ds := es.take n) HY.out HD.out)
      go_enter Tryz.func227, Tryz.ntmps227
      go_wp2_with fail
      go_ret
      exact ⟨⟨_, rfl, F.out⟩, Below.refl _ _⟩
    | false =>
      go_enter Tryz.func227, Tryz.ntmps227
      go_wp2_with fail
      refine TR.out.mono ?_
      rintro e w1 ⟨⟨s', rfl, hz⟩, d1⟩
      have D1 := hid d1
      have hr : Digs rest := fun d hd => HD.out d (by rw [HY.out]; simp [hd])
      have zi := dv_zero_iff hr
      by_cases hzr : dv rest = 0
      · have e1 : s'.toList = [] := hz.2 (zi.1 hzr)
        have UH := hid (fun (u : Bool) (hu : u = decide (dv (es.take n) % 2 = 1)) => up_half (ds := es.take n) HY.out HD.out hzr hu)
        have O1 := hid (HO.out.below d1 HO.out.lt)
        clear hz zi hr d1 TR hzr
        cases n with
        | zero =>
          have F := hid (UH.out false (by simp [dv, Dn.tv]))
          go_wp2_with fail
          go_ret
          exact ⟨⟨_, rfl, F.out⟩, D1.out⟩
        | succ k =>
          obtain ⟨N, HNk⟩ : ∃ N, Hid (k + 1 = N) := ⟨_, rfl⟩
          have hNk : (N : Int) - 1 = (k : Int) := by have := HNk.out; omega
          have hkN : (k : Int) < (N : Int) := by have := HNk.out; omega
          have hN0 : (0 : Int) < (N : Int) := by have := HNk.out; omega
          have hNb : (N : Int) ≤ 140737488351232 := by have := HNk.out; omega
          obtain ⟨x, X⟩ : ∃ x, Hid (es.getD k 0 = x) := ⟨_, rfl⟩
          have hc : w1.cell? ⟨g, k, none⟩ = some (.int .u8 x) := by rw [O1.out.cell k (by have := HN.out; omega), X.out]
          have LP : Hid (dv (es.take (k + 1)) % 2 = x % 2) := by
            show _ = _
            rw [dv_last (n := k) (by simp; have := HN.out; omega), ← X.out]
            simp [List.getD]
          rw [HNk.out] at UH LP ⊢
          have x0 : 0 ≤ x ∧ x < 256 := by
            have hlt : k < (es.take (k + 1)).length := by simp; have := HN.out; omega
            have := hde _ (List.getElem_mem hlt)
            have e : (es.take (k + 1))[k] = x := by rw [← X.out]; simp [List.getD, List.getElem?_eq_getElem (show k < es.length by have := HN.out; omega)]
            rw [e] at this
            omega
          obtain ⟨b, hb⟩ : ∃ b, x % 2 = b := ⟨_, rfl⟩
          have hb2 : x.tmod 2 = b := by rw [Int.tmod_eq_emod_of_nonneg x0.1]; exact hb
          have q1 : IntKind.i64.wrap ((N : Int) - 1) = (k : Int) := by rw [IntKind.wrap_i64]; omega
          have q2 : IntKind.i64.wrap (k : Int) = (k : Int) := by rw [IntKind.wrap_i64]; omega
          have b01 : b = 1 ∨ b = 0 := by omega
          clear hNb hnb hnbi hde
          rcases b01 with c | c
          · subst c
            have F := hid (UH.out true (by rw [LP.out, hb]; rfl))
            clear UH
            go_wp2_with fail
            go_ret
            exact ⟨⟨_, rfl, by have h := F.out; rw [← HNk.out] at h; exact h⟩, D1.out⟩
          · subst c
            have F := hid (UH.out false (by rw [LP.out, hb]; rfl))
            clear UH
            go_wp2_with fail
            go_ret
            exact ⟨⟨_, rfl, by have h := F.out; rw [← HNk.out] at h; exact h⟩, D1.out⟩
      · have e1 : s'.toList ≠ [] := fun c => hzr (zi.2 (hz.1 c))
        have e2 : (s'.toList == []) = false := by rw [beq_eq_false_iff_ne]; exact e1
        have e3 : s'.toList.isEmpty = false := by rw [List.isEmpty_eq_false_iff]; exact e1
        have F := hid (up_rest (ds := es.take n) (more := false) HY.out HD.out hzr)
        clear hz zi hr d1 TR hzr
        go_wp2_with fail
        go_ret
        exact ⟨⟨_, rfl, F.out⟩, D1.out⟩
end Go.Proofs.YtigmhnlcmhpepaaGreatDoor
