/-
  Texts put together: Small, QShift, QGuess, SubA, QTake.
-/
import Derived.Test.YtpeecbidojjfpaaDoorSmallA
import Derived.Test.YtpeecbidojjfpaaDoorRA
import Derived.Test.YtpeecbidojjfpaaDoorNums
import Derived.Test.YtpeecbidojjfpaaDoorBits
import Derived.Test.YtpeecbidojjfpaaDoorWalk2a
import Derived.Shelf.Spec.BitsCarry
import Derived.Test.YtpeecbidojjfpaaDoorWalk5a
namespace Go.Proofs.YtpeecbidojjfpaaDoor
open Go.RowKit Go.Deep

theorem cmp_is (c : Int) (p q : Option Addr) (n cap m cap' : Nat) (zs ys : List Int) (w : World) (ha : Arg w p n cap zs) (hb : Arg w q m cap' ys) (hc : cmpI (Nm.val zs) (Nm.val ys) = c) :
    Calls Tryd.prog 49 #[.slice p n cap, .slice q m cap'] w fun e w' => e = .returned (.int .i64 c) ∧ Below w.heap.size w w' := by
  rw [← hc]
  exact cmp_any p q n cap m cap' zs ys w ha hb
end Go.Proofs.YtpeecbidojjfpaaDoor

namespace Go.Proofs.YtpeecbidojjfpaaDoor
open Go.RowKit Go.Deep

/-- Two limbs moved up, as one: digits that don't meet. -/
theorem shift_or (x y : Int) (t u : Nat) (htu : t + u = 64) (_x0 : 0 ≤ x) (y0 : 0 ≤ y) (y1 : y < 18446744073709551616) :
    ∃ A C s : Int, IntKind.u64.wrap (x * 2 ^ t) = A ∧ y / 2 ^ u = C ∧ bits .or .u64 A C = s ∧ Hid (s = x % 2 ^ u * 2 ^ t + y / 2 ^ u) := by
  have hP : (0 : Int) < 2 ^ t := Int.pow_pos (by omega)
  have hQ : (0 : Int) < 2 ^ u := Int.pow_pos (by omega)
  have hPQ : (2 : Int) ^ t * 2 ^ u = 18446744073709551616 := by rw [← Int.pow_add, htu]; rfl
  have h1 := Qd.part_bd (z := x) hP hQ hPQ
  have h2 : 0 ≤ y / 2 ^ u := Int.ediv_nonneg y0 (by omega)
  have h3 : y / 2 ^ u < 2 ^ t := by rw [Int.ediv_lt_iff_lt_mul hQ, hPQ]; exact y1
  have h4 := Int.emod_add_mul_ediv x (2 ^ u)
  have hA : IntKind.u64.wrap (x * 2 ^ t) = x % 2 ^ u * 2 ^ t := by
    have e : x * 2 ^ t = x % 2 ^ u * 2 ^ t + 18446744073709551616 * (x / 2 ^ u) := by
      have : (x % 2 ^ u + 2 ^ u * (x / 2 ^ u)) * 2 ^ t = x * 2 ^ t := by rw [h4]
      rw [Int.add_mul, Int.mul_right_comm, Int.mul_comm (2 ^ u) (2 ^ t), hPQ] at this
      omega
    rw [wrap_mod, e]
    omega
  exact ⟨_, _, _, hA, rfl, rfl, or_sum (x % 2 ^ u) (y / 2 ^ u) t (Int.emod_nonneg x (by omega)) h2 h3 (by omega) (by omega)⟩

theorem ret_u64 {a b : Int} (h : a = b) : Ending.returned (.int .u64 a) = .returned (.int .u64 b) := by rw [h]

set_option maxRecDepth 100000 in
set_option maxHeartbeats 1000000 in
/-- Limb i of the number moved up by t binary digits. -/
theorem shifted_any (p : Option Addr) (n cap : Nat) (zs : List Int) (i t : Nat) (ii tt v : Int) (w : World) (hn : zs.length = n) (hc : n ≤ cap) (hm : cap ≤ 140737488355328) (h : Lies w p zs) (hz : Nm.Limbs zs) (hi : i < n) (ht : t ≤ 63) (hii : ii = (i : Int)) (htt : tt = (t : Int)) (hv : Qd.limb zs (2 ^ t) (2 ^ (64 - t)) i = v) :
    Calls Tryd.prog 105 #[.slice p n cap, .int .i64 ii, .int .i64 tt] w fun e w' => e = .returned (.int .u64 v) ∧ Below w.heap.size w w' := by
  subst hv
  subst hii
  subst htt
  obtain ⟨b, off, rfl, hbw, HC⟩ := h.at (by omega)
  obtain ⟨u, hu⟩ : ∃ u, 64 - t = u := ⟨_, rfl⟩
  rw [hu]
  cases i with
  | zero =>
    obtain ⟨x, hx, X⟩ : ∃ x, w.cell? ⟨b, off, none⟩ = some (.int .u64 x) ∧ Hid (x = zs.getD 0 0) := ⟨_, HC.out 0 (by omega), rfl⟩
    have hx0 := hz.at 0
    rw [← X.out] at hx0
    obtain ⟨A, C, s, r1, r2, r3, R⟩ := shift_or x 0 t u (by omega) hx0.1 (Int.le_refl 0) (by omega)
    have FIN : Hid (A = Qd.limb zs (2 ^ t) (2 ^ u) 0) := by
      show _ = _
      rw [Int.zero_ediv] at r2 R
      subst r2
      have e := Qd.part_bd (z := x) (T := 2 ^ t) (U := 2 ^ u) (Int.pow_pos (by omega)) (Int.pow_pos (by omega)) (by rw [← Int.pow_add, show t + u = 64 by omega]; rfl)
      have o := or_sum (x % 2 ^ u) 0 t (Int.emod_nonneg x (by have : (0 : Int) < 2 ^ u := Int.pow_pos (by omega); omega)) (Int.le_refl 0) (Int.pow_pos (by omega)) (by have : (0 : Int) < 2 ^ t := Int.pow_pos (by omega); omega) (by omega)
      have hA : A = x % 2 ^ u * 2 ^ t := by
        rw [← r1, wrap_mod]
        have h4 := Int.emod_add_mul_ediv x (2 ^ u)
        have hPQ : (2 : Int) ^ t * 2 ^ u = 18446744073709551616 := by rw [← Int.pow_add, show t + u = 64 by omega]; rfl
        have e2 : x * 2 ^ t = x % 2 ^ u * 2 ^ t + 18446744073709551616 * (x / 2 ^ u) := by
          have : (x % 2 ^ u + 2 ^ u * (x / 2 ^ u)) * 2 ^ t = x * 2 ^ t := by rw [h4]
          rw [Int.add_mul, Int.mul_right_comm, Int.mul_comm (2 ^ u) (2 ^ t), hPQ] at this
          omega
        have : (0 : Int) < 2 ^ t := Int.pow_pos (by omega)
        rw [e2]
        omega
      rw [hA, Qd.limb, ← X.out]
      show _ = _ + 0
      omega
    clear r2 r3 R X
    go_enter Tryd.func105, Tryd.ntmps105
    go_wp2
    go_ret
    exact ⟨ret_u64 FIN.out, Below.refl _ _⟩
  | succ j =>
    obtain ⟨x, hx, X⟩ : ∃ x, w.cell? ⟨b, off + (j + 1), none⟩ = some (.int .u64 x) ∧ Hid (x = zs.getD (j + 1) 0) := ⟨_, HC.out (j + 1) (by omega), rfl⟩
    obtain ⟨y, hy, Y⟩ : ∃ y, w.cell? ⟨b, off + j, none⟩ = some (.int .u64 y) ∧ Hid (y = zs.getD j 0) := ⟨_, HC.out j (by omega), rfl⟩
    have hx0 := hz.at (j + 1)
    rw [← X.out] at hx0
    have hy0 := hz.at j
    rw [← Y.out] at hy0
    obtain ⟨hx0, hx1⟩ := hx0
    obtain ⟨hy0, hy1⟩ := hy0
    obtain ⟨A, C, s, r1, r2, r3, R⟩ := shift_or x y t u (by omega) hx0 hy0 hy1
    have r4 : 64 - (t : Int) = (u : Int) := by omega
    have FIN : Hid (s = Qd.limb zs (2 ^ t) (2 ^ u) (j + 1)) := by
      show _ = _
      rw [R.out, Qd.limb, ← X.out, Y.out]
      rfl
    have hij : ((j : Int) + 1 == 0) = false := by rw [beq_eq_false_iff_ne]; omega
    obtain ⟨k, HK⟩ : ∃ k, Hid (k = j + 1) := ⟨_, rfl⟩
    have ek : (((j + 1 : Nat) : Int)) = (k : Int) := by rw [HK.out]
    have ek1 : (k : Int) - 1 = (j : Int) := by rw [HK.out]; omega
    have hk0 : ((k : Int) == 0) = false := by rw [beq_eq_false_iff_ne]; omega
    have hkn : (k : Int) < (n : Int) := by rw [HK.out]; omega
    have hjn : (j : Int) < (n : Int) := by omega
    have hx2 : w.cell? ⟨b, off + k, none⟩ = some (.int .u64 x) := by rw [HK.out]; exact hx
    rw [ek]
    clear R hx hij ek hi hu
    go_enter Tryd.func105, Tryd.ntmps105
    go_wp2_with fail
    go_quiet (fail)
    go_wp2
    go_ret
    exact ⟨ret_u64 FIN.out, below_drewN (Below.refl _ _) _⟩

set_option maxRecDepth 100000 in
set_option maxHeartbeats 1000000 in
/-- The guess made less. -/
theorem lessened_any (Q : Int → Prop) (f s h m l d left : Int) (w : World) (hQ : ∀ q, Q q → Qd.Fits q f s h m l) (f0 : 0 ≤ f) (f1 : f < 18446744073709551616) (s0 : 0 ≤ s) (s1 : s < 18446744073709551616) (l0 : 0 ≤ l) (l1 : l < 18446744073709551616)
    (H : Qd.Over Q f (h * 18446744073709551616 + m) d left) :
    Calls Tryd.prog 106 #[.int .u64 d, .int .u64 left, .int .u64 l, .int .u64 f, .int .u64 s] w fun e w' => ∃ g, e = .returned (.int .u64 g) ∧ (0 ≤ g ∧ g < 18446744073709551616) ∧ Hid (∀ q, Q q → q ≤ g) ∧ w' = w := by
  have HH := hid H
  have HQ := hid hQ
  clear H hQ
  go_enter Tryd.func106, Tryd.ntmps106
  go_wp2_with fail
  go_loop [0, 1] (fun a b => ∃ d left, a = .int .u64 d ∧ b = .int .u64 left ∧ Hid (Qd.Over Q f (h * 18446744073709551616 + m) d left)) (fun a _ => (intOf a).toNat)
  case atStart => exact ⟨d, left, rfl, rfl, HH.out⟩
  case round =>
    clear HH
    obtain ⟨d, left, rfl, rfl, H⟩ := hrel
    obtain ⟨d0, d1⟩ := H.out.1
    obtain ⟨left0, left1⟩ := H.out.2.1
    go_wp2_with fail
    refine (mul64 d s d0 d1 s0 s1 _).mono ?_
    rintro e w' ⟨hh, ll, rfl, ⟨hh0, hh1, ll0, ll1⟩, E, _, rfl⟩
    rcases (show hh < left ∨ (hh = left ∧ ll ≤ l) ∨ (left < hh) ∨ (hh = left ∧ l < ll) by omega) with c | c | c | c
    · go_wp2
      go_ret
      exact ⟨d, rfl, ⟨d0, d1⟩, H.out.2.2.2, rfl⟩
    · obtain ⟨rfl, c⟩ := c
      go_wp2
      go_ret
      exact ⟨d, rfl, ⟨d0, d1⟩, H.out.2.2.2, rfl⟩
    all_goals
      have hc : left * 18446744073709551616 + l < d * s := by
        have := E.out
        omega
      obtain ⟨g1, g2, g3⟩ := Qd.over_down HQ.out l0 f0 H.out hc
      have G3 := hid g3
      have G2 := hid g2
      clear g2 g3
      by_cases hr : left + f < 18446744073709551616
      · have ON := hid (Qd.over_on HQ.out l0 f0 H.out hc hr)
        clear hc
        try (obtain ⟨rfl, c⟩ := c)
        go_wp2
        go_round
        case rel => exact ⟨d - 1, _, rfl, rfl, ON.out⟩
        case measure => simp [intOf]; omega
      · have r1 : IntKind.u64.wrap (left + f) = left + f - 18446744073709551616 := by rw [wrap_mod]; omega
        clear hc
        try (obtain ⟨rfl, c⟩ := c)
        go_wp2
        go_ret
        exact ⟨d - 1, rfl, by omega, G3.out, rfl⟩
end Go.Proofs.YtpeecbidojjfpaaDoor

namespace Go.Proofs.YtpeecbidojjfpaaDoor
open Go.RowKit Go.Deep

/-- Both lists lie where they lay. -/
def Both (w : World) (p q : Option Addr) (ps bs : List Int) : Prop := Lies w p ps ∧ Lies w q bs

theorem Both.below {w w' : World} {p q : Option Addr} {ps bs : List Int} (h : Both w p q ps bs) (hb : Below w.heap.size w w') : Both w' p q ps bs :=
  ⟨h.1.below hb (Nat.le_refl _), h.2.below hb (Nat.le_refl _)⟩

/-- Moved up till its highest binary digit is at the top, the divisor keeps its limbs. -/
theorem room_up {bs : List Int} (hz : Nm.Limbs bs) {k : Nat} (lb : bs.length = k + 2) {T U y : Int} (hT : 0 < T) (hTU : T * U = 18446744073709551616) (hy : bs.getD (k + 1) 0 = y) (hyT : y * T < 18446744073709551616) : Nm.val bs * T < Nm.pw (k + 2) := by
  have h1 := Nm.val_take_succ bs (k + 1) (by omega)
  rw [List.take_of_length_le (by omega), hy] at h1
  have h2 := (Nm.val_bd _ (hz.take (k + 1))).2
  rw [List.length_take, Nat.min_eq_left (by omega)] at h2
  have hyU : y + 1 ≤ U := by
    rcases (show y + 1 ≤ U ∨ U ≤ y by omega) with c | c
    · exact c
    · exfalso
      have : U * T ≤ y * T := Int.mul_le_mul_of_nonneg_right c (by omega)
      rw [Int.mul_comm U T, hTU] at this
      omega
  have h3 : (y + 1) * T ≤ U * T := Int.mul_le_mul_of_nonneg_right hyU (by omega)
  rw [Int.mul_comm U T, hTU] at h3
  have hp := Nm.pw_pos (k + 1)
  have h4 : Nm.pw (k + 1) * ((y + 1) * T) ≤ Nm.pw (k + 1) * 18446744073709551616 := Int.mul_le_mul_of_nonneg_left h3 (by omega)
  have h5 : Nm.val bs < Nm.pw (k + 1) * (y + 1) := by rw [Int.mul_add, Int.mul_one]; omega
  have h6 := Int.mul_lt_mul_of_pos_right h5 hT
  rw [Int.mul_assoc] at h6
  rw [show k + 2 = k + 1 + 1 from rfl, Nm.pw_succ]
  omega

set_option maxRecDepth 100000 in
set_option maxHeartbeats 1000000 in
theorem guess_any (p q : Option Addr) (k n n1 cap cap' : Nat) (ps bs : List Int) (w : World) (hn : n = k + 2) (hn1 : n1 = k + 3) (lb : bs.length = n) (lp : ps.length = n1) (hc : n1 ≤ cap) (hc' : n ≤ cap') (hm : cap ≤ 140737488355328) (hm' : cap' ≤ 140737488355328)
    (hp : Lies w p ps) (hb : Lies w q bs) (hlp : Nm.Limbs ps) (hlb : Nm.Limbs bs) (htop : bs.getD (k + 1) 0 ≠ 0) (hpb : Nm.val ps < Nm.val bs * 18446744073709551616) :
    Calls Tryd.prog 95 #[.slice p n1 cap, .slice q n cap'] w fun e w' => ∃ g, e = .returned (.int .u64 g) ∧ (0 ≤ g ∧ g < 18446744073709551616) ∧ Hid (∀ x, 0 ≤ x → x * Nm.val bs ≤ Nm.val ps → x ≤ g) ∧ Below w.heap.size w w' := by
  obtain ⟨b, off, rfl, hbw, HC⟩ := hb.at (by omega)
  obtain ⟨t1, HT1⟩ : ∃ t1, Hid (t1 = k + 1) := ⟨_, rfl⟩
  have e1 : (n : Int) - 1 = (t1 : Int) := by rw [HT1.out]; omega
  obtain ⟨y, hy, Y⟩ : ∃ y, w.cell? ⟨b, off + t1, none⟩ = some (.int .u64 y) ∧ Hid (y = bs.getD t1 0) := ⟨_, HC.out t1 (by rw [HT1.out]; omega), rfl⟩
  have hy0 := hlb.at t1
  rw [← Y.out] at hy0
  obtain ⟨hy0, hy1⟩ := hy0
  have hyp : 0 < y := by
    have := Y.out
    rw [HT1.out] at this
    omega
  obtain ⟨l, hl⟩ : ∃ l, Lib.bitLen y.toNat = l := ⟨_, rfl⟩
  obtain ⟨t, ht, ht63, _, hyT, hT, hU, hTU⟩ := shift_facts y l hyp hy1 hl
  have LE := lead_any y l w hy0 hy1 hl
  rw [show 64 - (l : Int) = (t : Int) by omega] at LE
  have F := Qd.fits hlb hlp hT hU hTU (k := k) (by omega) (by omega) (room_up hlb (by omega) hT hTU (by rw [← HT1.out]; exact Y.out.symm) hyT) hpb
  have Bf := Qd.limb_bd hlb hT hU hTU (k + 1)
  have Bs := Qd.limb_bd hlb hT hU hTU k
  have Bh := Qd.limb_bd hlp hT hU hTU (k + 2)
  have Bm := Qd.limb_bd hlp hT hU hTU (k + 1)
  have Bl := Qd.limb_bd hlp hT hU hTU k
  obtain ⟨f, hf⟩ : ∃ f, Qd.limb bs (2 ^ t) (2 ^ (64 - t)) (k + 1) = f := ⟨_, rfl⟩
  obtain ⟨s, hs⟩ : ∃ f, Qd.limb bs (2 ^ t) (2 ^ (64 - t)) k = f := ⟨_, rfl⟩
  obtain ⟨h, hh⟩ : ∃ f, Qd.limb ps (2 ^ t) (2 ^ (64 - t)) (k + 2) = f := ⟨_, rfl⟩
  obtain ⟨m, hmm⟩ : ∃ f, Qd.limb ps (2 ^ t) (2 ^ (64 - t)) (k + 1) = f := ⟨_, rfl⟩
  obtain ⟨lo, hlo⟩ : ∃ f, Qd.limb ps (2 ^ t) (2 ^ (64 - t)) k = f := ⟨_, rfl⟩
  rw [hf, hs, hh, hmm, hlo] at F
  rw [hf] at Bf
  rw [hs] at Bs
  rw [hh] at Bh
  rw [hmm] at Bm
  rw [hlo] at Bl
  obtain ⟨f0, f1⟩ := Bf
  obtain ⟨s0, s1⟩ := Bs
  obtain ⟨h0, h1⟩ := Bh
  obtain ⟨m0, m1⟩ := Bm
  obtain ⟨lo0, lo1⟩ := Bl
  obtain ⟨hhf, hfit⟩ := F
  have HQ : Hid (∀ x, (fun x => 0 ≤ x ∧ x * Nm.val bs ≤ Nm.val ps) x → Qd.Fits x f s h m lo) := fun x hx => hfit x hx.1 hx.2
  have HLE := hid LE
  have HBO : Hid (Both w p (some ⟨b, off, none⟩) ps bs) := ⟨hp, hb⟩
  have HF := hid hf
  have HS := hid hs
  have HH := hid hh
  have HM := hid hmm
  have HL := hid hlo
  have hLP := hid hlp
  have hLB := hid hlb
  have HN := hid hn
  have HN1 := hid hn1
  have HLP := hid lp
  have HLB := hid lb
  have hnn1 : (n : Int) < (n1 : Int) := by omega
  clear LE hf hs hh hmm hlo hfit hlp hlb hn hn1 lp lb hp hb hl ht htop hpb hyT hT hU hTU
  have fin : ∀ (g : Int), (∀ x, (fun x => 0 ≤ x ∧ x * Nm.val bs ≤ Nm.val ps) x → x ≤ g) → Hid (∀ x, 0 ≤ x → x * Nm.val bs ≤ Nm.val ps → x ≤ g) := fun g hg x x0 hx => hg x ⟨x0, hx⟩
  have FIN := hid fin
  clear fin
  go_enter Tryd.func95, Tryd.ntmps95
  go_wp2_with fail
  refine HLE.out.mono ?_
  rintro e w' ⟨rfl, rfl⟩
  clear HLE hy
  go_wp2_with fail
  refine (shifted_any _ n cap' bs (k + 1) t _ _ f _ HLB.out hc' hm' HBO.out.2 hLB.out (by have := HN.out; omega) ht63 (by have := HT1.out; omega) rfl HF.out).mono ?_
  rintro e w1 ⟨rfl, hb1⟩
  have HB1 := hid hb1
  have HBO1 := hid (HBO.out.below hb1)
  clear hb1
  go_wp2_with fail
  refine (shifted_any _ n cap' bs k t _ _ s _ HLB.out hc' hm' HBO1.out.2 hLB.out (by have := HN.out; omega) ht63 (by have := HT1.out; omega) rfl HS.out).mono ?_
  rintro e w2 ⟨rfl, hb2⟩
  have HB2 := hid (chain HB1.out hb2 (Nat.le_refl _))
  have HBO2 := hid (HBO1.out.below hb2)
  clear hb2
  go_wp2_with fail
  refine (shifted_any _ n1 cap ps (k + 2) t _ _ h _ HLP.out hc hm HBO2.out.1 hLP.out (by have := HN1.out; omega) ht63 (by have := HT1.out; omega) rfl HH.out).mono ?_
  rintro e w3 ⟨rfl, hb3⟩
  have HB3 := hid (chain HB2.out hb3 (Nat.le_refl _))
  have HBO3 := hid (HBO2.out.below hb3)
  clear hb3
  go_wp2_with fail
  refine (shifted_any _ n1 cap ps (k + 1) t _ _ m _ HLP.out hc hm HBO3.out.1 hLP.out (by have := HN1.out; omega) ht63 (by have := HT1.out; omega) rfl HM.out).mono ?_
  rintro e w4 ⟨rfl, hb4⟩
  have HB4 := hid (chain HB3.out hb4 (Nat.le_refl _))
  have HBO4 := hid (HBO3.out.below hb4)
  clear hb4
  go_wp2_with fail
  refine (shifted_any _ n1 cap ps k t _ _ lo _ HLP.out hc hm HBO4.out.1 hLP.out (by have := HN1.out; omega) ht63 (by have := HT1.out; omega) rfl HL.out).mono ?_
  rintro e w5 ⟨rfl, hb5⟩
  have HB5 := hid (chain HB4.out hb5 (Nat.le_refl _))
  clear hb5 HB1 HB2 HB3 HB4 HBO HBO1 HBO2 HBO3 HBO4
  by_cases hhe : h = f
  · have hhe' : (h == f) = true := by simp [hhe]
    obtain ⟨s1', S1⟩ : ∃ s, Hid (s = (m + f + 0) % 18446744073709551616) := ⟨_, rfl⟩
    obtain ⟨k1, K1⟩ : ∃ c, Hid (c = (m + f + 0) / 18446744073709551616) := ⟨_, rfl⟩
    by_cases hov : m + f < 18446744073709551616
    · have ek : k1 = 0 := by have := K1.out; omega
      have es : s1' = m + f := by have := S1.out; omega
      subst ek
      subst es
      have OV := hid (Qd.over_even HQ.out hhe (by omega) hov)
      go_wp2_with (simp only [add64' m f 0 _ _ m0 f0 (Int.le_refl 0) (by decide) S1.out K1.out])
      refine (lessened_any _ f s h m lo _ _ _ HQ.out f0 f1 s0 s1 lo0 lo1 OV.out).mono ?_
      rintro e w6 ⟨g, rfl, G, GQ, rfl⟩
      have HG := hid G
      clear G
      go_wp2_with fail
      go_ret
      exact ⟨g, rfl, HG.out, FIN.out g GQ.out, HB5.out⟩
    · have ek : k1 = 1 := by have := K1.out; omega
      subst ek
      have OV := hid (Qd.over_most HQ.out)
      go_wp2_with (simp only [add64' m f 0 _ _ m0 f0 (Int.le_refl 0) (by decide) S1.out K1.out])
      go_ret
      exact ⟨_, rfl, by omega, FIN.out _ OV.out, HB5.out⟩
  · have hhe' : (h == f) = false := by rw [beq_eq_false_iff_ne]; exact hhe
    have hlt : h < f := by omega
    go_wp2_with fail
    refine (div64 h m f _ h0 hlt m0 m1 f1).mono ?_
    rintro e w6 ⟨d, r, rfl, ⟨d0, d1, r0, r1⟩, E, hb6⟩
    have HB6 := hid (chain HB5.out hb6 (Nat.le_refl _))
    have OV := hid (Qd.over_first HQ.out s0 lo1 ⟨d0, d1⟩ r0 r1 f1 E.out)
    clear hb6 E
    go_wp2_with fail
    refine (lessened_any _ f s h m lo _ _ _ HQ.out f0 f1 s0 s1 lo0 lo1 OV.out).mono ?_
    rintro e w7 ⟨g, rfl, G, GQ, rfl⟩
    have HG := hid G
    clear G
    go_wp2_with fail
    go_ret
    exact ⟨g, rfl, HG.out, FIN.out g GQ.out, HB6.out⟩
end Go.Proofs.YtpeecbidojjfpaaDoor

namespace Go.Proofs.YtpeecbidojjfpaaDoor
open Go.RowKit Go.Deep

/-- Sub64: the limb of a difference, and the borrow, under names. -/
theorem sub64' (x y b s b' : Int) (hx : 0 ≤ x) (hx1 : x < 18446744073709551616) (hy : 0 ≤ y) (hy1 : y < 18446744073709551616) (hb0 : 0 ≤ b) (hb : b ≤ 1) (hs : 0 ≤ s ∧ s < 18446744073709551616) (hb' : 0 ≤ b' ∧ b' ≤ 1) (he : s + 18446744073709551616 * (-b') = x + (-y) + (-b)) (w : World) :
    (callFunc 98 #[.int .u64 x, .int .u64 y, .int .u64 b]).run Tryd.prog w = .ok (.value (.tuple #[.int .u64 s, .int .u64 b'])) w := by
  obtain ⟨x, rfl⟩ := Int.eq_ofNat_of_zero_le hx
  obtain ⟨y, rfl⟩ := Int.eq_ofNat_of_zero_le hy
  obtain ⟨b, rfl⟩ := Int.eq_ofNat_of_zero_le hb0
  rw [run_callFunc_extern Tryd.func98 (by kernel_rfl) (by kernel_rfl) (by kernel_rfl) (e := sub64Entry) (by kernel_rfl), run_sub64 x y b (by omega)]
  have e1 : (((x + 18446744073709551616 - y - b) % 18446744073709551616 : Nat) : Int) = s := by omega
  have e2 : ((if x < y + b then 1 else 0 : Nat) : Int) = b' := by split <;> omega
  rw [e1, e2]
  rfl

theorem sub_names (x y b : Int) (hx : 0 ≤ x) (hx1 : x < 18446744073709551616) (hy : 0 ≤ y) (hy1 : y < 18446744073709551616) (hb0 : 0 ≤ b) (hb : b ≤ 1) : ∃ s b' : Int, (0 ≤ s ∧ s < 18446744073709551616) ∧ (0 ≤ b' ∧ b' ≤ 1) ∧ Hid (s + 18446744073709551616 * (-b') = x + (-y) + (-b)) :=
  ⟨(x - y - b) % 18446744073709551616, -((x - y - b) / 18446744073709551616), by omega, by omega, show _ = _ by omega⟩

theorem AddInv.down {g k : Nat} {w : World} {T : Int} {j : Nat} {c : Int} {os : List Int} {wr : World} (h : AddInv g k w T j c os wr) (hj : j < k) {x s c' : Int} (hs0 : 0 ≤ s ∧ s < 18446744073709551616) (hs : s + 18446744073709551616 * c' = os.getD j 0 + x + c) :
    AddInv g k w (T + Nm.pw j * x) (j + 1) c' (os.set j s) (wr.setCell ⟨g, j, none⟩ (.int .u64 s)) := by
  obtain ⟨h1, h2, h3, h4, h5, h6⟩ := h
  exact ⟨h1.set j s, by simpa using h2, h3.set j hs0.1 hs0.2, Nm.add_step (by omega) hs h4, h5.setCell (Nat.le_refl _) _, by simpa [World.setCell] using h6⟩

theorem AddInv.stop {g k : Nat} {w : World} {T : Int} {j : Nat} {b : Int} {os : List Int} {wr : World} (h : AddInv g k w T j (-b) os wr) (hT : 0 ≤ T) (hb : 1 ≤ b) : j < k := by
  obtain ⟨h1, h2, h3, h4, h5, h6⟩ := h
  rcases Nat.lt_or_ge j k with hj | hj
  · exact hj
  · have e1 := Nm.pw_mono hj
    have e2 := (Nm.val_bd os h3).2
    rw [h2] at e2
    have e3 := Nm.pw_pos j
    have e4 : Nm.pw j * 1 ≤ Nm.pw j * b := Int.mul_le_mul_of_nonneg_left hb (by omega)
    rw [Int.mul_neg] at h4
    omega
end Go.Proofs.YtpeecbidojjfpaaDoor

namespace Go.Proofs.YtpeecbidojjfpaaDoor
open Go.RowKit Go.Deep

/-- As AddInv; from limb 'top' on the block is as it was, and so is every other block. -/
def PartInv (g k top : Nat) (w : World) (zs : List Int) (T : Int) (j : Nat) (c : Int) (os : List Int) (wr : World) : Prop :=
  AddInv g k w T j c os wr ∧ (∀ i, top ≤ i → os.getD i 0 = zs.getD i 0) ∧ ∀ b, b ≠ g → wr.heap[b]? = w.heap[b]?

theorem PartInv.step {g k top : Nat} {w : World} {zs : List Int} {T : Int} {j : Nat} {c : Int} {os : List Int} {wr : World} (h : PartInv g k top w zs T j c os wr) (hj : j < k) (ht : j < top) {x s c' : Int}
    (hs0 : 0 ≤ s ∧ s < 18446744073709551616) (hs : s + 18446744073709551616 * c' = os.getD j 0 + x + c) :
    PartInv g k top w zs (T + Nm.pw j * x) (j + 1) c' (os.set j s) (wr.setCell ⟨g, j, none⟩ (.int .u64 s)) := by
  obtain ⟨h1, h2, h3⟩ := h
  refine ⟨h1.down hj hs0 hs, fun i hi => ?_, fun b hb => ?_⟩
  · rw [Nm.getD_set _ _ _ _ (by have := h1.2.1; omega), if_neg (by omega)]
    exact h2 i hi
  · rw [← h3 b hb]
    simp only [World.setCell, Array.getElem?_modify]
    rw [if_neg (by omega)]

theorem PartInv.own {g k top : Nat} {w : World} {zs : List Int} {T : Int} {j : Nat} {c : Int} {os : List Int} {wr : World} (h : PartInv g k top w zs T j c os wr) {b : Nat} {xs : List Int} (ho : Own w b xs) (hb : b ≠ g) : Own wr b xs := by
  simp only [Own] at ho ⊢
  rw [h.2.2 b hb]
  exact ho

/-- The limbs of one round of takeTimes. -/
theorem take_step {x m y c p l h s1 k1 s2 b : Int} (hp : l + 18446744073709551616 * h = p) (hl : 0 ≤ l ∧ l < 18446744073709551616) (hh : 0 ≤ h) (hx : 0 ≤ x ∧ x < 18446744073709551616) (hm : 0 ≤ m ∧ m < 18446744073709551616) (hxm : p = x * m)
    (hy : 0 ≤ y ∧ y < 18446744073709551616) (hc : 0 ≤ c ∧ c < 18446744073709551616) (e1 : s1 = (l + c + 0) % 18446744073709551616) (e2 : k1 = (l + c + 0) / 18446744073709551616)
    (hs : 0 ≤ s2 ∧ s2 < 18446744073709551616) (_hb : 0 ≤ b ∧ b ≤ 1) (e3 : s2 + 18446744073709551616 * (-b) = y + (-s1) + (-0)) :
    (0 ≤ h + k1 + b ∧ h + k1 + b < 18446744073709551616) ∧ s2 + 18446744073709551616 * (-(h + k1 + b)) = y + (-(x * m)) + (-c) := by
  have hbd : x * m ≤ 18446744073709551615 * 18446744073709551615 := Int.mul_le_mul (by omega) (by omega) (by omega) (by omega)
  rw [← hxm] at hbd ⊢
  clear hxm
  omega

set_option maxRecDepth 100000 in
set_option maxHeartbeats 1000000 in
theorem takeTimes_any (g k o n n1 cap : Nat) (zs : List Int) (q : Option Addr) (cap' : Nat) (ys : List Int) (m : Int) (w : World) (hk : zs.length = k) (hkm : k ≤ 35184372088832) (ho : Own w g zs) (hl : Nm.Limbs zs)
    (hn : ys.length = n) (hn0 : 0 < n) (hn1 : n < n1) (hon : o + n < k) (hy : Lies w q ys) (hly : Nm.Limbs ys) (hq : ∀ a, q = some a → a.block < g) (hm0 : 0 ≤ m) (hm1 : m < 18446744073709551616) :
    Calls Tryd.prog 96 #[.slice (some ⟨g, o, none⟩) n1 cap, .slice q n cap', .int .u64 m] w fun e w' => ∃ (c : Int) (os : List Int), e = .returned (.int .u64 c) ∧ (0 ≤ c ∧ c ≤ 1) ∧
      Hid (PartInv g k (o + n + 1) w zs (Nm.val zs + Nm.pw o * (-(Nm.val ys * m))) (o + n + 1) (-c) os w') := by
  obtain ⟨b, off, rfl, hbw, HC⟩ := hy.at (by omega)
  have hbg : b < g := hq _ rfl
  have I0 : PartInv g k (o + n + 1) w zs (Nm.val zs + Nm.pw o * (-(Nm.val (ys.take 0) * m))) (o + 0) (-0) zs w := ⟨⟨ho, hk, hl, by simp [Nm.val], Below.refl _ _, rfl⟩, fun _ _ => rfl, fun _ _ => rfl⟩
  have HM : Hid (ys.length = n) := hn
  have HY : Hid (Nm.Limbs ys) := hly
  clear hn hly hq ho hk hl hy
  go_enter Tryd.func96, Tryd.ntmps96
  go_wp2
  go_loopw [7, 19] (fun c i wr => ∃ (j : Nat) (cc : Int) (os : List Int), j ≤ n ∧ i = .int .i64 j ∧ c = .int .u64 cc ∧ (0 ≤ cc ∧ cc < 18446744073709551616) ∧ PartInv g k (o + n + 1) w zs (Nm.val zs + Nm.pw o * (-(Nm.val (ys.take j) * m))) (o + j) (-cc) os wr) (fun _ i _ => n - (intOf i).toNat)
  case atStart => exact ⟨0, 0, zs, Nat.zero_le _, rfl, rfl, by omega, I0⟩
  case round =>
    clear I0
    obtain ⟨j, cc, os, hj, rfl, rfl, ⟨hcc0, hcc1⟩, I⟩ := hrel
    by_cases hlt : j < n
    · obtain ⟨x, hx, X⟩ : ∃ x, wr.cell? ⟨b, off + j, none⟩ = some (.int .u64 x) ∧ Hid (x = ys.getD j 0) :=
        ⟨_, (I.1.2.2.2.2.1.cell (p := ⟨b, off + j, none⟩) hbg).trans (HC.out j (by have := HM.out; omega)), rfl⟩
      obtain ⟨y, hyc, Y⟩ : ∃ y, wr.cell? ⟨g, o + j, none⟩ = some (.int .u64 y) ∧ Hid (y = os.getD (o + j) 0) := ⟨_, I.1.1.cell (o + j) (by have := I.1.2.1; omega), rfl⟩
      have hfr := I.1.1.free (o + j)
      have hx0 : 0 ≤ x ∧ x < 18446744073709551616 := by have := HY.out.at j; have := X.out; omega
      have hy0 : 0 ≤ y ∧ y < 18446744073709551616 := by have := I.1.2.2.1.at (o + j); have := Y.out; omega
      obtain ⟨hx0, hx1⟩ := hx0
      obtain ⟨hy0, hy1⟩ := hy0
      have hjn1 : (j : Int) < (n1 : Int) := by omega
      go_wp2_with fail
      refine (mul64 x m hx0 hx1 hm0 hm1 _).mono ?_
      rintro e w' ⟨h, l, rfl, ⟨hh0, hh1, hl0, hl1⟩, P1, _, rfl⟩
      obtain ⟨s1, S1⟩ : ∃ s, Hid (s = (l + cc + 0) % 18446744073709551616) := ⟨_, rfl⟩
      obtain ⟨k1, K1⟩ : ∃ c, Hid (c = (l + cc + 0) / 18446744073709551616) := ⟨_, rfl⟩
      have hs1 : 0 ≤ s1 := by have := S1.out; omega
      have hs2 : s1 < 18446744073709551616 := by have := S1.out; omega
      obtain ⟨s2, b2, ⟨t0, t1⟩, ⟨t2, t3⟩, S2⟩ := sub_names y s1 0 hy0 hy1 hs1 hs2 (Int.le_refl 0) (by decide)
      have ST := hid (take_step P1.out ⟨hl0, hl1⟩ hh0 ⟨hx0, hx1⟩ ⟨hm0, hm1⟩ rfl ⟨hy0, hy1⟩ ⟨hcc0, hcc1⟩ S1.out K1.out ⟨t0, t1⟩ ⟨t2, t3⟩ S2.out)
      have hk1 : 0 ≤ k1 := by have := K1.out; omega
      have hkk : h + k1 + b2 < 18446744073709551616 := ST.out.1.2
      go_wp2_with (first | simp only [add64' l cc 0 s1 k1 hl0 hcc0 (Int.le_refl 0) (by decide) S1.out K1.out] | simp only [sub64' y s1 0 s2 b2 hy0 hy1 hs1 hs2 (Int.le_refl 0) (by decide) ⟨t0, t1⟩ ⟨t2, t3⟩ S2.out])
      go_roundw
      case rel =>
        have hst := I.step (by omega) (by omega) (x := -(x * m)) (s := s2) (c' := -(h + k1 + b2)) ⟨t0, t1⟩ (by rw [← Y.out]; exact ST.out.2)
        refine ⟨j + 1, h + k1 + b2, os.set (o + j) s2, by omega, by go_num, rfl, ST.out.1, ?_⟩
        have e : Nm.val zs + Nm.pw o * (-(Nm.val (ys.take (j + 1)) * m)) = Nm.val zs + Nm.pw o * (-(Nm.val (ys.take j) * m)) + Nm.pw (o + j) * (-(x * m)) := by
          rw [Nm.val_take_succ ys j (by have := HM.out; omega), ← X.out, Nm.pw_add, Int.add_mul, Int.mul_neg, Int.mul_neg, Int.mul_neg, Int.mul_add, Int.mul_assoc, Int.mul_assoc]
          omega
        rw [e]
        exact hst
      case measure => simp [intOf]; omega
    · have hjn : j = n := by omega
      subst hjn
      rw [List.take_of_length_le (by have := HM.out; omega)] at I
      obtain ⟨y, hyc, Y⟩ : ∃ y, wr.cell? ⟨g, o + j, none⟩ = some (.int .u64 y) ∧ Hid (y = os.getD (o + j) 0) := ⟨_, I.1.1.cell (o + j) (by have := I.1.2.1; omega), rfl⟩
      have hfr := I.1.1.free (o + j)
      have hy0 : 0 ≤ y ∧ y < 18446744073709551616 := by have := I.1.2.2.1.at (o + j); have := Y.out; omega
      obtain ⟨hy0, hy1⟩ := hy0
      obtain ⟨s2, b2, ⟨t0, t1⟩, ⟨t2, t3⟩, S2⟩ := sub_names y cc 0 hy0 hy1 hcc0 hcc1 (Int.le_refl 0) (by decide)
      have hst := I.step (by omega) (by omega) (x := 0) (s := s2) (c' := -b2) ⟨t0, t1⟩ (by rw [← Y.out]; have := S2.out; omega)
      rw [Int.mul_zero, Int.add_zero] at hst
      have HS := hid hst
      clear hst I
      go_wp2_with (simp only [sub64' y cc 0 s2 b2 hy0 hy1 hcc0 hcc1 (Int.le_refl 0) (by decide) ⟨t0, t1⟩ ⟨t2, t3⟩ S2.out])
      go_ret
      exact ⟨b2, os.set (o + j) s2, rfl, ⟨t2, t3⟩, HS.out⟩

set_option maxRecDepth 100000 in
set_option maxHeartbeats 1000000 in
theorem giveBack_any (g k o n n1 cap : Nat) (zs : List Int) (q : Option Addr) (cap' : Nat) (ys : List Int) (w : World) (hk : zs.length = k) (hkm : k ≤ 35184372088832) (ho : Own w g zs) (hl : Nm.Limbs zs)
    (hn : ys.length = n) (hn0 : 0 < n) (hn1 : n < n1) (hon : o + n < k) (hy : Lies w q ys) (hly : Nm.Limbs ys) (hq : ∀ a, q = some a → a.block < g) :
    Calls Tryd.prog 97 #[.slice (some ⟨g, o, none⟩) n1 cap, .slice q n cap'] w fun e w' => ∃ (c : Int) (os : List Int), e = .returned (.int .u64 c) ∧ (0 ≤ c ∧ c ≤ 1) ∧
      Hid (PartInv g k (o + n + 1) w zs (Nm.val zs + Nm.pw o * Nm.val ys) (o + n + 1) c os w') := by
  obtain ⟨b, off, rfl, hbw, HC⟩ := hy.at (by omega)
  have hbg : b < g := hq _ rfl
  have I0 : PartInv g k (o + n + 1) w zs (Nm.val zs + Nm.pw o * Nm.val (ys.take 0)) (o + 0) 0 zs w := ⟨⟨ho, hk, hl, by simp [Nm.val], Below.refl _ _, rfl⟩, fun _ _ => rfl, fun _ _ => rfl⟩
  have HM : Hid (ys.length = n) := hn
  have HY : Hid (Nm.Limbs ys) := hly
  clear hn hly hq ho hk hl hy
  go_enter Tryd.func97, Tryd.ntmps97
  go_wp2
  go_loopw [5, 10] (fun c i wr => ∃ (j : Nat) (cc : Int) (os : List Int), j ≤ n ∧ i = .int .i64 j ∧ c = .int .u64 cc ∧ (0 ≤ cc ∧ cc ≤ 1) ∧ PartInv g k (o + n + 1) w zs (Nm.val zs + Nm.pw o * Nm.val (ys.take j)) (o + j) cc os wr) (fun _ i _ => n - (intOf i).toNat)
  case atStart => exact ⟨0, 0, zs, Nat.zero_le _, rfl, rfl, by omega, I0⟩
  case round =>
    clear I0
    obtain ⟨j, cc, os, hj, rfl, rfl, ⟨hcc0, hcc1⟩, I⟩ := hrel
    by_cases hlt : j < n
    · obtain ⟨x, hx, X⟩ : ∃ x, wr.cell? ⟨b, off + j, none⟩ = some (.int .u64 x) ∧ Hid (x = ys.getD j 0) :=
        ⟨_, (I.1.2.2.2.2.1.cell (p := ⟨b, off + j, none⟩) hbg).trans (HC.out j (by have := HM.out; omega)), rfl⟩
      obtain ⟨y, hyc, Y⟩ : ∃ y, wr.cell? ⟨g, o + j, none⟩ = some (.int .u64 y) ∧ Hid (y = os.getD (o + j) 0) := ⟨_, I.1.1.cell (o + j) (by have := I.1.2.1; omega), rfl⟩
      have hfr := I.1.1.free (o + j)
      have hx0 : 0 ≤ x ∧ x < 18446744073709551616 := by have := HY.out.at j; have := X.out; omega
      have hy0 : 0 ≤ y ∧ y < 18446744073709551616 := by have := I.1.2.2.1.at (o + j); have := Y.out; omega
      obtain ⟨hx0, hx1⟩ := hx0
      obtain ⟨hy0, hy1⟩ := hy0
      have hjn1 : (j : Int) < (n1 : Int) := by omega
      obtain ⟨s, S⟩ : ∃ s, Hid (s = (y + x + cc) % 18446744073709551616) := ⟨_, rfl⟩
      obtain ⟨c', C⟩ : ∃ c', Hid (c' = (y + x + cc) / 18446744073709551616) := ⟨_, rfl⟩
      have hs0 : 0 ≤ s ∧ s < 18446744073709551616 := by have := S.out; omega
      have hc0 : 0 ≤ c' ∧ c' ≤ 1 := by have := C.out; omega
      have SE : Hid (s + 18446744073709551616 * c' = y + x + cc) := by show _ = _; have := S.out; have := C.out; omega
      go_wp2_with (simp only [add64' y x cc s c' hy0 hx0 hcc0 hcc1 S.out C.out])
      go_roundw
      case rel =>
        have hst := I.step (by omega) (by omega) (x := x) (s := s) (c' := c') hs0 (by rw [← Y.out]; exact SE.out)
        refine ⟨j + 1, c', os.set (o + j) s, by omega, by go_num, rfl, hc0, ?_⟩
        have e : Nm.val zs + Nm.pw o * Nm.val (ys.take (j + 1)) = Nm.val zs + Nm.pw o * Nm.val (ys.take j) + Nm.pw (o + j) * x := by
          rw [Nm.val_take_succ ys j (by have := HM.out; omega), ← X.out, Nm.pw_add, Int.mul_add, Int.mul_assoc]
          omega
        rw [e]
        exact hst
      case measure => simp [intOf]; omega
    · have hjn : j = n := by omega
      subst hjn
      rw [List.take_of_length_le (by have := HM.out; omega)] at I
      obtain ⟨y, hyc, Y⟩ : ∃ y, wr.cell? ⟨g, o + j, none⟩ = some (.int .u64 y) ∧ Hid (y = os.getD (o + j) 0) := ⟨_, I.1.1.cell (o + j) (by have := I.1.2.1; omega), rfl⟩
      have hfr := I.1.1.free (o + j)
      have hy0 : 0 ≤ y ∧ y < 18446744073709551616 := by have := I.1.2.2.1.at (o + j); have := Y.out; omega
      obtain ⟨hy0, hy1⟩ := hy0
      obtain ⟨s, S⟩ : ∃ s, Hid (s = (y + 0 + cc) % 18446744073709551616) := ⟨_, rfl⟩
      obtain ⟨c', C⟩ : ∃ c', Hid (c' = (y + 0 + cc) / 18446744073709551616) := ⟨_, rfl⟩
      have hs0 : 0 ≤ s ∧ s < 18446744073709551616 := by have := S.out; omega
      have hc0 : 0 ≤ c' ∧ c' ≤ 1 := by have := C.out; omega
      have hst := I.step (by omega) (by omega) (x := 0) (s := s) (c' := c') hs0 (by rw [← Y.out]; have := S.out; have := C.out; omega)
      rw [Int.mul_zero, Int.add_zero] at hst
      have HS := hid hst
      clear hst I
      go_wp2_with (simp only [add64' y 0 cc s c' hy0 (Int.le_refl 0) hcc0 hcc1 S.out C.out])
      go_ret
      exact ⟨c', os.set (o + j) s, rfl, hc0, HS.out⟩
end Go.Proofs.YtpeecbidojjfpaaDoor
