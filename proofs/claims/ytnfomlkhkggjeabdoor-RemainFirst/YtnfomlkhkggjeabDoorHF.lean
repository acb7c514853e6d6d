/-
  Texts put together: MSteps, IWalk1A, HFirstN, IWhole1, IWhole2, IWhole3, IWhole4, MPowY, HFirstT, HFirstF, HFirst.
-/
import Derived.Test.YtnfomlkhkggjeabDoorMNum
import Derived.Test.YtnfomlkhkggjeabDoorIWalk1B
import Derived.Test.YtnfomlkhkggjeabDoorMPw
import Derived.Test.YtnfomlkhkggjeabDoorXS
import Derived.Test.YtnfomlkhkggjeabDoorMRnd
import Derived.Test.YtnfomlkhkggjeabDoorFromW
import Derived.Deep.RegionWith
/-
  Scalings: what lost nothing is exact; two scalings are one.
-/
namespace Go.Proofs.YtnfomlkhkggjeabDoor
namespace Ie

theorem scale_exact {V E x : Int} (v0 : 0 < V) (v1 : V < 9007199254740992) (h : Rnd V 1 E false x) (x0 : 4503599627370496 < x) (x1 : x < 9218868437227405312) : ∃ c : Nat, (c : Int) = E + 1074 ∧ un x = V * 2 ^ c := by
  have e53 : (2 : Int) ^ 53 = 9007199254740992 := by decide
  rcases (show E < -1074 ∨ -1074 ≤ E by omega) with hE | hE
  · exfalso
    have hl : Rnd 4503599627370496 1 (-1074) false 4503599627370496 := by
      refine rnd_vl _ _ _ false 1 0 (by omega) (by omega) (by omega) ?_
      decide
    obtain ⟨a', ha'⟩ : ∃ a' : Nat, (a' : Int) = -1074 - E := ⟨(-1074 - E).toNat, by omega⟩
    have := h.mono (by decide) (by decide) hl (a := 0) (a' := a') (by omega) (.inl ?_)
    · omega
    · have g := Nm.two_mono (show 1 ≤ a' by omega)
      have e1 : (2 : Int) ^ 1 = 2 := rfl
      rw [Int.mul_one, Int.pow_zero, Int.mul_one, Int.mul_one]
      omega
  · obtain ⟨c, hc⟩ : ∃ c : Nat, (c : Int) = E + 1074 := ⟨(E + 1074).toNat, by omega⟩
    refine ⟨c, hc, ?_⟩
    rcases Nat.lt_or_ge 2045 c with hl | hl
    · obtain ⟨s, hs⟩ : ∃ s, c = 2045 + s := ⟨c - 2045, by omega⟩
      have hp := Nm.two_pos s
      have g := h.up s
      rcases (show V * 2 ^ s < 9007199254740992 ∨ 9007199254740992 ≤ V * 2 ^ s by omega) with q | q
      · have := (rnd_rep (c := 2045) (by omega) (by have := Int.mul_pos v0 hp; omega) q (Nat.le_refl _) g).1
        rw [this, hs, Nm.two_add, Int.mul_comm (2 ^ 2045), Int.mul_assoc]
      · exfalso
        have := g.one (by decide) (by decide) (rnd_inf (V * 2 ^ s) 1 (E - s) 53 0 false (by omega) (by decide) (by omega)) (a := 0) (a' := 0) (by omega) rfl
        omega
    · exact (rnd_rep hc (by omega) v1 hl h).1

/-- Two roundings of one number. -/
theorem same_rnd {V V' E E' x y : Int} {a a' : Nat} (h : Rnd V 1 E false x) (h' : Rnd V' 1 E' false y) (ha : (a : Int) - a' = E - E') (e : V * 2 ^ a = V' * 2 ^ a') : x = y := by
  refine h.one (by decide) (by decide) h' ha ?_
  rw [Int.mul_one, Int.mul_one]
  exact e
end Ie
end Go.Proofs.YtnfomlkhkggjeabDoor

/-
  ieee: Neg.
-/
namespace Go.Proofs.YtnfomlkhkggjeabDoor
open Go Go.RowKit Go.Deep

set_option maxRecDepth 100000 in
theorem neg_any (d : Int) (w : World) (h0 : 0 ≤ d) (h1 : d < 18446744073709551616) :
    Calls Tryd.prog 11 #[.int .u64 d] w fun e w' => e = .returned (.int .u64 (Ie.ng d)) ∧ w' = w := by
  have B : bits .xor .u64 d 9223372036854775808 = Ie.ng d := Ib.sign_xor d h0 h1
  go_enter Tryd.func11, Tryd.ntmps11
  go_wp2
  go_ret
  exact ⟨rfl, rfl⟩
end Go.Proofs.YtnfomlkhkggjeabDoor

/-
  RemainFirst in numbers.
-/
namespace Go.Proofs.YtnfomlkhkggjeabDoor
namespace Ie

theorem PowIs.one {m e n r r' : Int} (m0 : 0 < m) (h : PowIs m e n r) (h' : PowIs m e n r') : r = r' := by
  rcases (show 0 ≤ n ∨ n < 0 by omega) with g | g
  · exact (h.1 n.toNat (by omega)).one (by decide) (by decide) (h'.1 n.toNat (by omega)) (a := 0) (a' := 0) (by omega) rfl
  · have := pow_pos' m0 (-n).toNat
    exact (h.2 (-n).toNat (by omega)).one this this (h'.2 (-n).toNat (by omega)) (a := 0) (a' := 0) (by omega) rfl

theorem kinds3 {x : Int} (h : isn x = false) : isz x = true ∨ isi x = true ∨ (fin x ∧ ab x ≠ 0) := by
  simp only [isn, isz, isi, fin, decide_eq_true_iff, decide_eq_false_iff_not] at *; omega

theorem SizeIs.one {x n y y' : Int} (hn : isn x = false) (h : SizeIs x n y) (h' : SizeIs x n y') : y = y' := by
  rcases kinds3 hn with k | k | ⟨f, z⟩
  · rw [h.1 k, h'.1 k]
  · rw [h.2.1 k, h'.2.1 k]
  · obtain ⟨⟨m0, m1⟩, -, -, m2⟩ := dec_f x f
    exact (h.2.2.1 f z).one (by have := fun g => z (m2.1 g); omega) (h'.2.2.1 f z)

theorem PwrIs.one {x n r f r' f' : Int} (h : PwrIs x n r f) (h' : PwrIs x n r' f') : r = r' ∧ f = f' := by
  by_cases g : n < -1024 ∨ 1024 < n
  · obtain ⟨a, b⟩ := h.1 g
    obtain ⟨a', b'⟩ := h'.1 g
    rw [a, b, a', b']; exact ⟨rfl, rfl⟩
  · obtain ⟨b, c, d⟩ := h.2 (by omega) (by omega)
    obtain ⟨b', c', d'⟩ := h'.2 (by omega) (by omega)
    refine ⟨?_, by rw [b, b']⟩
    by_cases z : n = 0
    · rw [c z, c' z]
    · cases k : isn x
      · obtain ⟨y, hr, hy⟩ := (d z).2 k
        obtain ⟨y', hr', hy'⟩ := (d' z).2 k
        rw [hr, hr', hy.one k hy']
      · rw [(d z).1 k, (d' z).1 k]

theorem rnd_me {d : Int} (hf : fin d) : Rnd (dm d) 1 (de d) false (ab d) := by
  obtain ⟨-, ⟨e0, e1⟩, gd, -⟩ := dec_f d hf
  obtain ⟨k, hk⟩ : ∃ k : Nat, (k : Int) = de d + 1074 := ⟨(de d + 1074).toNat, by omega⟩
  refine rnd_vl _ _ _ false (k + 1) 0 (by omega) (ab_bd d).1 hf ?_
  rw [vl_un, ← gd k hk, Nm.two_succ, Int.pow_zero, Int.mul_one]
  exact Int.mul_left_comm _ _ _

theorem sg_zero {x : Int} (h0 : 0 ≤ x) (h1 : x < 18446744073709551616) (h : isz x = true) : x = sg (ngd x) 0 := by
  have e := sg_ab x h0 h1
  rw [isz, decide_eq_true_iff] at h
  rw [h] at e
  exact e
theorem sg_inf {x : Int} (h0 : 0 ≤ x) (h1 : x < 18446744073709551616) (h : isi x = true) : x = sg (ngd x) 9218868437227405312 := by
  have e := sg_ab x h0 h1
  rw [isi, decide_eq_true_iff] at h
  rw [h] at e
  exact e

/-- The first power. -/
theorem pow_one {x r f : Int} (h0 : 0 ≤ x) (h1 : x < 18446744073709551616) (h : PwrIs x 1 r f) : f = 0 ∧ (isn x = true → r = 9221120237041090560) ∧ (isn x = false → r = x) := by
  obtain ⟨b, -, d⟩ := h.2 (by omega) (by omega)
  refine ⟨b, (d (by omega)).1, fun k => ?_⟩
  obtain ⟨y, hr, hy⟩ := (d (by omega)).2 k
  rw [show (ngd x && !((1 : Int) % 2 == 0)) = ngd x by cases ngd x <;> rfl] at hr
  rw [hr]
  rcases kinds3 k with g | g | ⟨g, z⟩
  · rw [hy.1 g, if_pos (by decide)]; exact (sg_zero h0 h1 g).symm
  · rw [hy.2.1 g, if_pos (by decide)]; exact (sg_inf h0 h1 g).symm
  · have q := (hy.2.2.1 g z).1 1 rfl
    rw [Int.pow_one, Int.mul_one] at q
    rw [q.one (by decide) (by decide) (rnd_me g) (a := 0) (a' := 0) (by omega) rfl]
    exact (sg_ab x h0 h1).symm

theorem pow_nought {x r f : Int} (h : PwrIs x 0 r f) : r = 4607182418800017408 ∧ f = 0 := by
  obtain ⟨b, c, -⟩ := h.2 (by omega) (by omega)
  exact ⟨c rfl, b⟩

/-- The second power is the product. -/
theorem pow_two {x r f r' f' : Int} (h : PwrIs x 2 r f) (h' : MulIs x x r' f') : r = r' ∧ f = 0 := by
  obtain ⟨b, -, d⟩ := h.2 (by omega) (by omega)
  refine ⟨?_, b⟩
  cases k : isn x
  · obtain ⟨y, hr, hy⟩ := (d (by omega)).2 k
    rw [show (ngd x && !((2 : Int) % 2 == 0)) = false by cases ngd x <;> rfl] at hr
    rcases kinds3 k with g | g | ⟨g, z⟩
    · have i := (sz_not g).1
      rw [MulIs, k, i, g] at h'
      simp only [Bool.false_eq_true, or_self, false_and, and_false, if_false] at h'
      obtain ⟨y', t, L, hr', -, hR, -, -⟩ := h'
      have f0 : fin x := by simp only [isz, fin, decide_eq_true_iff] at *; omega
      have m0 : dm x = 0 := (dec_f x f0).2.2.2.2 (by rw [isz, decide_eq_true_iff] at g; exact g)
      rw [m0, Int.zero_mul] at hR
      have := hR.one (by decide) (by decide) (rnd_zero 1 (de x + de x) false (by decide)) (a := 0) (a' := 0) (by omega) rfl
      rw [hr, hr', this, hy.1 g, if_pos (by decide)]
      cases ngd x <;> rfl
    · have i := (si_not g).1
      rw [MulIs, k, i, g] at h'
      simp only [Bool.false_eq_true, or_self, and_false, false_and, if_false, if_true] at h'
      rw [hr, h'.1, hy.2.1 g, if_pos (by decide)]
      cases ngd x <;> rfl
    · obtain ⟨y', t, L, hr', -, hR, -, -⟩ := h'.get g g
      have q := (hy.2.2.1 g z).1 2 rfl
      rw [show dm x ^ 2 = dm x * dm x by rw [Int.pow_succ, Int.pow_one], show de x * 2 = de x + de x by omega] at q
      rw [hr, hr', q.one (by decide) (by decide) hR (a := 0) (a' := 0) (by omega) rfl]
      cases ngd x <;> rfl
  · rw [(d (by omega)).1 k]
    rw [MulIs, k] at h'
    simp only [true_or, if_true] at h'
    exact h'.1.symm

theorem un_one : un 4607182418800017408 = 2 ^ 1074 := by
  rw [un_is (m := 4503599627370496) (E := 1022) (by decide) (by decide), show (4503599627370496 : Int) = 2 ^ 52 by decide, ← Nm.two_add]

/-- The power -1 is the quotient. -/
theorem pow_under {x r f r' f' : Int} (h : PwrIs x (-1) r f) (h' : DivIs 4607182418800017408 x r' f') : r = r' ∧ f = 0 := by
  obtain ⟨b, -, d⟩ := h.2 (by omega) (by omega)
  refine ⟨?_, b⟩
  have o1 : isn 4607182418800017408 = false := by decide
  have o2 : isi 4607182418800017408 = false := by decide
  have o3 : isz 4607182418800017408 = false := by decide
  have o4 : ngd 4607182418800017408 = false := by decide
  have o5 : ab 4607182418800017408 = 4607182418800017408 := by decide
  cases k : isn x
  · obtain ⟨y, hr, hy⟩ := (d (by omega)).2 k
    rw [show (ngd x && !((-1 : Int) % 2 == 0)) = ngd x by cases ngd x <;> rfl] at hr
    rcases kinds3 k with g | g | ⟨g, z⟩
    · have i := (sz_not g).1
      rw [DivIs, k, i, g, o1, o2, o3, o4] at h'
      simp only [Bool.false_eq_true, or_self, false_and, and_false, if_false, if_true] at h'
      rw [hr, h'.1, hy.1 g, if_neg (by decide)]
      cases ngd x <;> rfl
    · have i := (si_not g).1
      rw [DivIs, k, i, g, o1, o2, o3, o4] at h'
      simp only [Bool.false_eq_true, or_self, false_and, and_false, if_false, if_true] at h'
      rw [hr, h'.1, hy.2.1 g, if_neg (by decide)]
      cases ngd x <;> rfl
    · have hs := h'.rs (by rw [fin, o5]; decide) g z
      rw [o4, o5, un_one] at hs
      obtain ⟨-, ⟨e0, e1⟩, gd, -⟩ := dec_f x g
      obtain ⟨j, hj⟩ : ∃ j : Nat, (j : Int) = de x + 1074 := ⟨(de x + 1074).toNat, by omega⟩
      have q := (hy.2.2.1 g z).2 1 rfl
      rw [Int.pow_one] at q
      have q2 := q 2149 j (by omega)
      rw [gd j hj] at q2
      have hp := Nm.two_pos 1074
      have ux : 0 < un (ab x) := un_pos (by have := (ab_bd x).1; omega)
      refine RS.one ux ux (S := sn (false != ngd x) (2 ^ 1074 * 2 ^ 1074)) (S' := sn (false != ngd x) (2 ^ 1074 * 2 ^ 1074)) (z := (false != ngd x)) ?_ hs rfl
      refine ⟨ngd x, 2 ^ 1074 * 2 ^ 1074, y, hr, ?_, Int.mul_nonneg (by omega) (by omega), ?_, fun hz => ?_⟩
      · cases ngd x <;> rfl
      · rw [← Nm.two_add, ← Nm.two_succ]
        rw [Int.one_mul] at q2
        exact q2
      · cases ngd x <;> rfl
  · rw [(d (by omega)).1 k]
    rw [DivIs, k] at h'
    simp only [or_true, if_true] at h'
    exact h'.1.symm

/-- Powers of 2 are Scale's. -/
theorem pow_scale {n r f r' : Int} (n1 : -1024 ≤ n) (n2 : n ≤ 1024) (h : PwrIs 4611686018427387904 n r f) (h' : ScaleIs 4607182418800017408 n r') : r = r' ∧ f = 0 := by
  have a1 : ab 4611686018427387904 = 4611686018427387904 := by decide
  have n0 : ngd 4611686018427387904 = false := by decide
  have m1 : dm 4611686018427387904 = 4503599627370496 := by decide
  have e1 : de 4611686018427387904 = -51 := by decide
  have i1 : isn 4611686018427387904 = false := by decide
  have a2 : ab 4607182418800017408 = 4607182418800017408 := by decide
  have p0 : ngd 4607182418800017408 = false := by decide
  have m2 : dm 4607182418800017408 = 4503599627370496 := by decide
  have e2 : de 4607182418800017408 = -52 := by decide
  obtain ⟨b, c, d⟩ := h.2 n1 n2
  refine ⟨?_, b⟩
  have fo : fin 4607182418800017408 := by rw [fin, a2]; decide
  obtain ⟨y', hr', hy'⟩ := h'.2.2 fo
  rw [p0] at hr'
  by_cases z : n = 0
  · rw [c z, hr']
    rw [z, Int.add_zero] at hy'
    rw [hy'.one (by decide) (by decide) (rnd_me fo) (a := 0) (a' := 0) (by omega) rfl, a2]
    rfl
  · obtain ⟨y, hr, hy⟩ := (d z).2 i1
    rw [n0, Bool.false_and] at hr
    have hp := hy.2.2.1 (by rw [fin, a1]; decide) (by rw [a1]; decide)
    rw [m1, e1] at hp
    obtain ⟨q1, q2⟩ := hp.odd (o := 1) (t := 52) (by decide)
    rw [m2, e2] at hy'
    have key : Rnd 1 1 n false y := by
      rcases (show 0 ≤ n ∨ n < 0 by omega) with g | g
      · have := q1 n.toNat (by omega)
        rw [Int.one_pow, show ((-51 : Int) + (52 : Nat)) * n = n by omega] at this
        exact this
      · have := q2 (-n).toNat (by omega)
        rw [Int.one_pow, show ((-51 : Int) + (52 : Nat)) * n = n by omega] at this
        exact this
    rw [hr, hr', key.one (by decide) (by decide) hy' (a := 52) (a' := 0) (by omega) (by decide)]

theorem ng_facts (x : Int) (h0 : 0 ≤ x) (h1 : x < 18446744073709551616) : (0 ≤ ng x ∧ ng x < 18446744073709551616) ∧ ab (ng x) = ab x ∧ ngd (ng x) = !ngd x ∧ cls (ng x) = cls x := by
  rcases (show x < 9223372036854775808 ∨ 9223372036854775808 ≤ x by omega) with g | g
  · rw [ng, if_pos g]
    refine ⟨by omega, by simp only [ab]; omega, by rw [ngd, ngd, decide_eq_true (by omega), decide_eq_false (by omega)]; rfl, ?_⟩
    have e1 : fld (x + 9223372036854775808) = fld x := by simp only [fld]; omega
    have e2 : (x + 9223372036854775808) % 4503599627370496 = x % 4503599627370496 := by omega
    rw [cls, cls, e1, e2]
  · rw [ng, if_neg (by omega)]
    refine ⟨by omega, by simp only [ab]; omega, by rw [ngd, ngd, decide_eq_false (by omega), decide_eq_true (by omega)]; rfl, ?_⟩
    have e1 : fld (x - 9223372036854775808) = fld x := by simp only [fld]; omega
    have e2 : (x - 9223372036854775808) % 4503599627370496 = x % 4503599627370496 := by omega
    rw [cls, cls, e1, e2]

theorem ng_dec (x : Int) (h0 : 0 ≤ x) (h1 : x < 18446744073709551616) : dm (ng x) = dm x ∧ de (ng x) = de x := by
  have c := (ng_facts x h0 h1).2.2.2
  have e : ng x % 4503599627370496 = x % 4503599627370496 ∧ fld (ng x) = fld x := by
    rw [ng]; split <;> simp only [fld] <;> omega
  rw [dm, de, dm, de, c, e.1, e.2]
  exact ⟨rfl, rfl⟩

/-- A negative x changes the sign of odd powers alone. -/
theorem pow_turned {x n p f t g : Int} (h0 : 0 ≤ x) (h1 : x < 18446744073709551616) (n1 : -1024 ≤ n) (n2 : n ≤ 1024) (h : PwrIs x n p f) (h' : PwrIs (ng x) n t g) :
    f = 0 ∧ g = 0 ∧ (n % 2 = 0 → t = p) ∧ (n % 2 = 1 → isn x = true → p = 9221120237041090560 ∧ t = p) ∧ (n % 2 = 1 → isn x = false → (p == 9221120237041090560) = false ∧ 0 ≤ t ∧ t < 18446744073709551616 ∧ ng t = p) := by
  obtain ⟨-, qa, qn, -⟩ := ng_facts x h0 h1
  obtain ⟨qm, qe⟩ := ng_dec x h0 h1
  obtain ⟨b, c, d⟩ := h.2 n1 n2
  obtain ⟨b', c', d'⟩ := h'.2 n1 n2
  have ei : isn (ng x) = isn x := by rw [isn, isn, qa]
  have same : ∀ y, SizeIs (ng x) n y ↔ SizeIs x n y := by
    intro y
    simp only [SizeIs, isz, isi, fin, qa, qm, qe]
  refine ⟨b, b', fun e => ?_, fun e k => ?_, fun e k => ?_⟩
  · by_cases z : n = 0
    · rw [c z, c' z]
    · cases k : isn x
      · obtain ⟨y, hr, hy⟩ := (d z).2 k
        obtain ⟨y', hr', hy'⟩ := (d' z).2 (by rw [ei]; exact k)
        rw [e] at hr hr'
        rw [hr, hr', ((same y').1 hy').one k hy]
        simp
      · rw [(d z).1 k, (d' z).1 (by rw [ei]; exact k)]
  · have z : n ≠ 0 := by omega
    rw [(d z).1 k, (d' z).1 (by rw [ei]; exact k)]
    exact ⟨rfl, rfl⟩
  · have z : n ≠ 0 := by omega
    obtain ⟨y, hr, hy⟩ := (d z).2 k
    obtain ⟨y', hr', hy'⟩ := (d' z).2 (by rw [ei]; exact k)
    have ey := ((same y').1 hy').one k hy
    have y0 := hy.2.2.2.1
    have y1 := hy.2.2.2.2
    rw [e, qn, ey] at hr'
    rw [e] at hr
    cases N : ngd x
    · rw [N] at hr hr'
      have t1 : t = y + 9223372036854775808 := hr'
      have p1 : p = y := hr
      refine ⟨by rw [beq_eq_false_iff_ne]; omega, by omega, by omega, ?_⟩
      rw [ng, if_neg (by omega)]; omega
    · rw [N] at hr hr'
      have t1 : t = y := hr'
      have p1 : p = y + 9223372036854775808 := hr
      refine ⟨by rw [beq_eq_false_iff_ne]; omega, by omega, by omega, ?_⟩
      rw [ng, if_pos (by omega)]; omega
end Ie
end Go.Proofs.YtnfomlkhkggjeabDoor

/-
  ieee: finite, FromUint, FromInt, Whole.
-/
namespace Go.Proofs.YtnfomlkhkggjeabDoor
open Go Go.RowKit Go.Deep

set_option maxRecDepth 100000 in
theorem fromI_nn (i : Int) (w : World) (hT : Tab w) (h0 : 0 ≤ i) (h1 : i ≤ 9223372036854775807) :
    Calls Tryd.prog 10 #[.int .i64 i] w fun e w' => ∃ x, e = .returned (.int .u64 x) ∧ Ie.Rnd i 1 0 false x ∧ Below w.heap.size w w' := by
  have F := hid (fromU_any i w hT h0 (by omega))
  clear hT
  go_enter Tryd.func10, Tryd.ntmps10
  go_wp2_with fail
  refine F.out.mono ?_
  rintro e w1 ⟨x, rfl, R, hB⟩
  have K := hid (And.intro R hB)
  clear R hB
  go_wp2_with fail
  go_ret
  exact ⟨x, rfl, K.out⟩

set_option maxRecDepth 100000 in
theorem fromI_ng (i : Int) (w : World) (hT : Tab w) (h0 : i < 0) (h1 : -9223372036854775808 ≤ i) :
    Calls Tryd.prog 10 #[.int .i64 i] w fun e w' => ∃ x, e = .returned (.int .u64 (x + 9223372036854775808)) ∧ Ie.Rnd (-i) 1 0 false x ∧ Below w.heap.size w w' := by
  have F := hid (fun (u : Int) (hu : u = -i) => fromU_any u w hT (by omega) (by omega))
  have W1 : IntKind.u64.wrap i = i + 18446744073709551616 := by rw [IntKind.wrap_u64]; omega
  have W2 : IntKind.u64.wrap (-(i + 18446744073709551616)) = -i := by rw [IntKind.wrap_u64]; omega
  clear hT
  go_enter Tryd.func10, Tryd.ntmps10
  go_wp2_with fail
  refine (F.out _ (by omega)).mono ?_
  rintro e w1 ⟨x, rfl, R, hB⟩
  have b := R.bd
  have N : Hid (Calls Tryd.prog 11 #[.int .u64 x] w1 fun e w' => e = .returned (.int .u64 (x + 9223372036854775808)) ∧ w' = w1) := by
    have := neg_any x w1 b.1 (by omega)
    rw [Ie.ng, if_pos (by omega)] at this
    exact this
  have K := hid (And.intro R hB)
  clear R hB b F
  go_wp2_with fail
  refine N.out.mono ?_
  rintro e w2 ⟨rfl, rfl⟩
  go_wp2_with fail
  go_ret
  refine ⟨x, rfl, ?_⟩
  exact K.out
end Go.Proofs.YtnfomlkhkggjeabDoor

/-
  ieee: Whole.
-/
namespace Go.Proofs.YtnfomlkhkggjeabDoor
open Go Go.RowKit Go.Deep

/-- What Whole tells of a finite double. -/
def WholeTold (d : Int) (w : World) (e : Ending) (w' : World) : Prop :=
  ∃ r os, e = .returned (.tuple #[.bool (decide (9223372036854775808 ≤ d)), .slice r (List.length os) (List.length os), .int .i64 0]) ∧ Ans w.heap.size w' r os (Ie.whp (d % 9223372036854775808)) ∧ Below w.heap.size w w'

set_option maxRecDepth 100000 in
theorem whole_inf (d : Int) (w : World) (h0 : 0 ≤ d) (h1 : d < 18446744073709551616) (hr : 9218868437227405312 ≤ d % 9223372036854775808) :
    Calls Tryd.prog 57 #[.int .u64 d] w fun e w' => e = .returned (.tuple #[.bool false, .slice none 0 0, .int .i64 5]) ∧ w' = w := by
  have F := finite_any d w h0 h1
  rw [decide_eq_false (by omega)] at F
  have F := hid F
  go_enter Tryd.func57, Tryd.ntmps57
  go_wp2_with fail
  refine F.out.mono ?_
  rintro e w' ⟨rfl, rfl⟩
  go_wp2_with fail
  go_ret3
  exact ⟨rfl, rfl⟩

set_option maxRecDepth 100000 in
set_option maxHeartbeats 4000000 in
theorem whole_low (d : Int) (w : World) (h0 : 0 ≤ d) (h1 : d < 18446744073709551616) (r m : Int) (c : Int) (k : Nat) (hr : d % 9223372036854775808 = r) (hf : r < 9218868437227405312) (hc : Ie.cls d = c) (hm : Ie.dm d = m) (he : Ie.de d = -(k : Int)) (hk : 0 < k) (hk2 : k ≤ 1074) (mb : 0 ≤ m ∧ m < 9007199254740992) (hw : Ie.whp r = m / 2 ^ k) :
    Calls Tryd.prog 57 #[.int .u64 d] w fun e w' => WholeTold d w e w' := by
  have F := finite_any d w h0 h1
  rw [decide_eq_true (by omega)] at F
  have F := hid F
  have D := hid (decode_any d w h0 h1)
  rw [hc, hm, he] at D
  simp only [partsOf] at D
  obtain ⟨neg, hneg⟩ : ∃ neg, decide (9223372036854775808 ≤ d) = neg := ⟨_, rfl⟩
  rw [hneg] at D
  have q0 : 0 ≤ m / 2 ^ k := Int.ediv_nonneg mb.1 (by have := Nm.two_pos k; omega)
  have q1 : m / 2 ^ k ≤ m := Int.ediv_le_self _ mb.1
  have FU : Hid (∀ (wx : World) (u : Int), u = m / 2 ^ k → Calls Tryd.prog 30 #[.int .u64 u] wx fun e w' => ∃ r os, e = .returned (.slice r (List.length os) (List.length os)) ∧ Ans wx.heap.size w' r os (m / 2 ^ k) ∧ Below wx.heap.size wx w') := by
    intro wx u hu
    subst hu
    exact fromUint_any (m / 2 ^ k) wx q0 (by omega)
  have SM := Ie.shr_min m k mb.1 mb.2
  have WT : Hid (∀ (w2 : World) (p : Option Addr) (os : List Int) (B : Nat), w.heap.size ≤ B → Ans B w2 p os (m / 2 ^ k) → Below w.heap.size w w2 → WholeTold d w (.returned (.tuple #[.bool neg, .slice p (List.length os) (List.length os), .int .i64 0])) w2) := by
    intro w2 p os B hB A hb
    refine ⟨p, os, by rw [hneg], ?_, hb⟩
    rw [hr, hw]
    exact ⟨A.1, A.2.1, A.2.2.1, A.2.2.2.1, fun a h => by have := A.2.2.2.2 a h; omega⟩
  have WK : IntKind.i64.wrap (k : Int) = (k : Int) := by rw [IntKind.wrap_i64]; omega
  have k1 : -(k : Int) < 0 := by omega
  have k2 : (k : Int) ≤ 1074 := by omega
  obtain ⟨mb0, mb1⟩ := mb
  clear hneg hr hf hc hm he hw q0 q1
  go_enter Tryd.func57, Tryd.ntmps57
  go_wp2_with fail
  refine F.out.mono ?_
  rintro e w ⟨rfl, rfl⟩
  go_wp2_with fail
  refine D.out.mono ?_
  rintro e w1 ⟨rfl, hB⟩
  have HB := hid hB
  clear hB F D
  go_wp2_with fail
  have HB1 := hid (Below.alloc HB.out HB.out.size (.cells #[.bool neg, .int .i64 c, .int .u64 m, .int .i64 (-(k : Int))] 34))
  have hg := heap_alloc_new w1 (.cells #[.bool neg, .int .i64 c, .int .u64 m, .int .i64 (-(k : Int))] 34)
  have p0 : (w1.alloc (.cells #[.bool neg, .int .i64 c, .int .u64 m, .int .i64 (-(k : Int))] 34)).cell? ⟨w1.heap.size, 0, none⟩ = some (.bool neg) := by simp only [World.cell?, hg]; rfl
  have p2 : (w1.alloc (.cells #[.bool neg, .int .i64 c, .int .u64 m, .int .i64 (-(k : Int))] 34)).cell? ⟨w1.heap.size, 2, none⟩ = some (.int .u64 m) := by simp only [World.cell?, hg]; rfl
  have p3 : (w1.alloc (.cells #[.bool neg, .int .i64 c, .int .u64 m, .int .i64 (-(k : Int))] 34)).cell? ⟨w1.heap.size, 3, none⟩ = some (.int .i64 (-(k : Int))) := by simp only [World.cell?, hg]; rfl
  clear hg
  generalize w1.alloc (.cells #[.bool neg, .int .i64 c, .int .u64 m, .int .i64 (-(k : Int))] 34) = wA at *
  have CA : Hid (∀ wx w2 : World, wx.heap = wA.heap → Below w.heap.size w wx → Below wx.heap.size wx w2 → Below w.heap.size w w2 ∧ w2.cell? ⟨w1.heap.size, 0, none⟩ = some (.bool neg)) := by
    intro wx w2 hh hw hB2
    have lt : w1.heap.size < wx.heap.size := by rw [hh]; exact cell_lt p0
    have eq : wx.cell? ⟨w1.heap.size, 0, none⟩ = wA.cell? ⟨w1.heap.size, 0, none⟩ := World.cell?_of_block (by rw [hh])
    exact ⟨hw.trans (hB2.mono hw.size), by rw [hB2.cell (p := ⟨w1.heap.size, 0, none⟩) lt, eq]; exact p0⟩
  have HS := hid (show w.heap.size ≤ wA.heap.size from HB1.out.size)
  go_region_with (go_at_call 30; refine (FU.out _ _ ?_).mono ?_; (first | omega | (simp only [SM] <;> fail) | trace_state); rintro e w2 ⟨p, os, rfl, A, hB2⟩; obtain ⟨hB3, k0⟩ := CA.out wA.drew w2 rfl (below_drew1 HB1.out) hB2; have KK := hid (WT.out w2 p os _ HS.out A hB3); clear A hB2 hB3)
  all_goals (go_wp2_with fail; go_ret3; exact KK.out)
set_option maxRecDepth 100000 in
set_option maxHeartbeats 4000000 in
theorem whole_high (d : Int) (w : World) (h0 : 0 ≤ d) (h1 : d < 18446744073709551616) (r m : Int) (c : Int) (k : Nat) (hr : d % 9223372036854775808 = r) (hf : r < 9218868437227405312) (hc : Ie.cls d = c) (hm : Ie.dm d = m) (he : Ie.de d = (k : Int)) (hk2 : k ≤ 971) (mb : 0 ≤ m ∧ m < 9007199254740992) (hw : Ie.whp r = m * 2 ^ k) :
    Calls Tryd.prog 57 #[.int .u64 d] w fun e w' => WholeTold d w e w' := by
  have F := finite_any d w h0 h1
  rw [decide_eq_true (by omega)] at F
  have F := hid F
  have D := hid (decode_any d w h0 h1)
  rw [hc, hm, he] at D
  simp only [partsOf] at D
  obtain ⟨neg, hneg⟩ : ∃ neg, decide (9223372036854775808 ≤ d) = neg := ⟨_, rfl⟩
  rw [hneg] at D
  have FU : Hid (∀ wx : World, Calls Tryd.prog 30 #[.int .u64 m] wx fun e w' => ∃ r os, e = .returned (.slice r (List.length os) (List.length os)) ∧ Ans wx.heap.size w' r os m ∧ Below wx.heap.size wx w') := by
    intro wx
    exact fromUint_any m wx mb.1 (by omega)
  have mp : m < Nm.pw 1 := by have : Nm.pw 1 = 18446744073709551616 := rfl; omega
  have rm := shl_room (t := k) mp (by omega)
  have SL : Hid (∀ (wx : World) (p : Option Addr) (os : List Int) (B : Nat), Ans B wx p os m → Calls Tryd.prog 17 #[.slice p os.length os.length, .int .i64 (k : Int)] wx fun e w' => ∃ r os, e = .returned (.tuple #[.slice r (List.length os) (List.length os), .int .i64 0]) ∧ Ans wx.heap.size w' r os (m * 2 ^ k) ∧ Below wx.heap.size wx w') := by
    intro wx p os B A
    have l1 := ans_small A 1 mp
    have := shl_any p _ _ os (k : Int) k wx (A.arg (by omega)) (by rw [A.2.2.1]; omega) rfl (by rw [A.2.2.2.1]; exact rm)
    rw [A.2.2.2.1] at this
    exact this
  have WT : Hid (∀ (w2 : World) (p : Option Addr) (os : List Int) (B : Nat), w.heap.size ≤ B → Ans B w2 p os (m * 2 ^ k) → Below w.heap.size w w2 → WholeTold d w (.returned (.tuple #[.bool neg, .slice p (List.length os) (List.length os), .int .i64 0])) w2) := by
    intro w2 p os B hB A hb
    refine ⟨p, os, by rw [hneg], ?_, hb⟩
    rw [hr, hw]
    exact ⟨A.1, A.2.1, A.2.2.1, A.2.2.2.1, fun a h => by have := A.2.2.2.2 a h; omega⟩
  have k1 : ¬ (k : Int) < 0 := by omega
  have k2 : (k : Int) ≤ 971 := by omega
  obtain ⟨mb0, mb1⟩ := mb
  clear hneg hr hf hc hm he hw mp rm
  go_enter Tryd.func57, Tryd.ntmps57
  go_wp2_with fail
  refine F.out.mono ?_
  rintro e w ⟨rfl, rfl⟩
  go_wp2_with fail
  refine D.out.mono ?_
  rintro e w1 ⟨rfl, hB⟩
  have HB := hid hB
  clear hB F D
  go_wp2_with fail
  have HB1 := hid (Below.alloc HB.out HB.out.size (.cells #[.bool neg, .int .i64 c, .int .u64 m, .int .i64 (k : Int)] 34))
  have hg := heap_alloc_new w1 (.cells #[.bool neg, .int .i64 c, .int .u64 m, .int .i64 (k : Int)] 34)
  have p0 : (w1.alloc (.cells #[.bool neg, .int .i64 c, .int .u64 m, .int .i64 (k : Int)] 34)).cell? ⟨w1.heap.size, 0, none⟩ = some (.bool neg) := by simp only [World.cell?, hg]; rfl
  have p2 : (w1.alloc (.cells #[.bool neg, .int .i64 c, .int .u64 m, .int .i64 (k : Int)] 34)).cell? ⟨w1.heap.size, 2, none⟩ = some (.int .u64 m) := by simp only [World.cell?, hg]; rfl
  have p3 : (w1.alloc (.cells #[.bool neg, .int .i64 c, .int .u64 m, .int .i64 (k : Int)] 34)).cell? ⟨w1.heap.size, 3, none⟩ = some (.int .i64 (k : Int)) := by simp only [World.cell?, hg]; rfl
  clear hg
  generalize w1.alloc (.cells #[.bool neg, .int .i64 c, .int .u64 m, .int .i64 (k : Int)] 34) = wA at *
  have CA : Hid (∀ wx w2 : World, wx.heap = wA.heap → Below w.heap.size w wx → Below wx.heap.size wx w2 → Below w.heap.size w w2 ∧ w2.cell? ⟨w1.heap.size, 0, none⟩ = some (.bool neg) ∧ w2.cell? ⟨w1.heap.size, 3, none⟩ = some (.int .i64 (k : Int))) := by
    intro wx w2 hh hw hB2
    have lt : w1.heap.size < wx.heap.size := by rw [hh]; exact cell_lt p0
    have eq : ∀ o, wx.cell? ⟨w1.heap.size, o, none⟩ = wA.cell? ⟨w1.heap.size, o, none⟩ := fun o => World.cell?_of_block (by rw [hh])
    exact ⟨hw.trans (hB2.mono hw.size), by rw [hB2.cell (p := ⟨w1.heap.size, 0, none⟩) lt, eq]; exact p0, by rw [hB2.cell (p := ⟨w1.heap.size, 3, none⟩) lt, eq]; exact p3⟩
  have HS := hid (show w.heap.size ≤ wA.heap.size from HB1.out.size)
  go_region_with (first | (go_at_call 30; refine (FU.out _).mono ?_; rintro e w2 ⟨p, os, rfl, A, hB2⟩; obtain ⟨hB3, k0, k3⟩ := CA.out wA.drew w2 rfl (below_drew1 HB1.out) hB2; have SS := hid (SL.out w2 p os _ A); have HH := hid hB3; have HZ := hid (Nat.lt_of_lt_of_le (cell_lt k0) (Nat.le_refl _)); have K0 := hid k0; clear A hB2 hB3) | (go_at_call 17; refine SS.out.mono ?_; rintro e w3 ⟨p', os', rfl, A, hB4⟩; have z0 : w3.cell? ⟨w1.heap.size, 0, none⟩ = some (.bool neg) := (hB4.cell (p := ⟨w1.heap.size, 0, none⟩) (cell_lt K0.out)).trans K0.out; have KK := hid (WT.out w3 p' os' _ HH.out.size A (HH.out.trans (hB4.mono HH.out.size))); clear A hB4))
  all_goals (go_wp2_with fail; go_ret3; exact KK.out)

/-- Whole of a finite double. -/
theorem whole_fin (d : Int) (w : World) (h0 : 0 ≤ d) (h1 : d < 18446744073709551616) (hf : d % 9223372036854775808 < 9218868437227405312) :
    Calls Tryd.prog 57 #[.int .u64 d] w fun e w' => WholeTold d w e w' := by
  rcases Ie.dec_kinds d _ rfl with ⟨c, m, x, k1⟩ | ⟨c, m, x, k1, k2⟩ | ⟨c, m, x, k1, k2⟩ | ⟨c, m, x, k1⟩ | ⟨c, m, x, k1, k2⟩
  · exact whole_high d w h0 h1 _ 0 _ 0 rfl hf c m x (by omega) (by omega) (by rw [k1, Ie.whp_zero]; rfl)
  · have e0 : Ie.ex (d % 9223372036854775808) = 0 := by rw [Ie.ex]; omega
    have m0 : Ie.man (d % 9223372036854775808) = d % 9223372036854775808 := by rw [Ie.man, if_pos k2]
    exact whole_low d w h0 h1 _ _ _ 1074 rfl hf c m x (by omega) (by omega) (by omega) (by rw [Ie.whp_low _ 1074 (by omega), m0])
  · have mb := Ie.man_nn (d % 9223372036854775808) (by omega)
    have eb : (Ie.ex (d % 9223372036854775808) : Int) ≤ 2045 := by simp only [Ie.ex]; omega
    rcases (show (Ie.ex (d % 9223372036854775808) : Int) < 1074 ∨ 1074 ≤ (Ie.ex (d % 9223372036854775808) : Int) by omega) with h | h
    · obtain ⟨k, hk⟩ : ∃ k : Nat, (Ie.ex (d % 9223372036854775808) : Int) + k = 1074 := ⟨(1074 - (Ie.ex (d % 9223372036854775808) : Int)).toNat, by omega⟩
      exact whole_low d w h0 h1 _ _ _ k rfl hf c m (by rw [x]; omega) (by omega) (by omega) mb (Ie.whp_low _ k hk)
    · obtain ⟨k, hk⟩ : ∃ k : Nat, (Ie.ex (d % 9223372036854775808) : Int) = 1074 + k := ⟨((Ie.ex (d % 9223372036854775808) : Int) - 1074).toNat, by omega⟩
      exact whole_high d w h0 h1 _ _ _ k rfl hf c m (by rw [x]; omega) (by omega) mb (Ie.whp_high _ k hk).1
  · omega
  · omega
end Go.Proofs.YtnfomlkhkggjeabDoor



/-
  ieee: ToInt.
-/
namespace Go.Proofs.YtnfomlkhkggjeabDoor
open Go Go.RowKit Go.Deep

theorem ret_ie {a b c d : Int} (h : a = b) (k : c = d) : Ending.returned (.tuple #[.int .i64 a, .int .i64 c]) = .returned (.tuple #[.int .i64 b, .int .i64 d]) := by rw [h, k]

set_option maxRecDepth 100000 in
theorem toInt_inf (d : Int) (w : World) (h0 : 0 ≤ d) (h1 : d < 18446744073709551616) (hr : 9218868437227405312 ≤ d % 9223372036854775808) :
    Calls Tryd.prog 25 #[.int .u64 d] w fun e w' => e = .returned (.tuple #[.int .i64 0, .int .i64 5]) ∧ w' = w := by
  have F := hid (whole_inf d w h0 h1 hr)
  clear hr
  go_enter Tryd.func25, Tryd.ntmps25
  go_wp2_with fail
  refine F.out.mono ?_
  rintro e w' ⟨rfl, rfl⟩
  go_wp2_with fail
  go_ret2
  exact ⟨rfl, rfl⟩

/-- What ToInt tells of a finite double: the number, or 0 and ErrRange. -/
def ToIntIs (neg : Bool) (W : Int) (j f : Int) : Prop :=
  (W ≤ (if neg = true then 9223372036854775808 else 9223372036854775807) ∧ j = (if neg = true then -W else W) ∧ f = 0) ∨ ((if neg = true then 9223372036854775808 else 9223372036854775807) < W ∧ j = 0 ∧ f = 41)

set_option maxRecDepth 100000 in
set_option maxHeartbeats 4000000 in
theorem toInt_fin (d : Int) (w : World) (h0 : 0 ≤ d) (h1 : d < 18446744073709551616) (hr : d % 9223372036854775808 < 9218868437227405312) (neg : Bool) (hneg : decide (9223372036854775808 ≤ d) = neg) (V : Int) (hV : Ie.whp (d % 9223372036854775808) = V) (V0 : 0 ≤ V) (Vb : V < Nm.pw 4096) :
    Calls Tryd.prog 25 #[.int .u64 d] w fun e w' => ∃ j f, e = .returned (.tuple #[.int .i64 j, .int .i64 f]) ∧ ToIntIs neg V j f ∧ Below w.heap.size w w' := by
  have F : Hid (Calls Tryd.prog 57 #[.int .u64 d] w fun e w' => ∃ r os, e = .returned (.tuple #[.bool neg, .slice r (List.length os) (List.length os), .int .i64 0]) ∧ Ans w.heap.size w' r os V ∧ Below w.heap.size w w') := by
    have := whole_fin d w h0 h1 hr
    simp only [WholeTold] at this
    rw [hneg, hV] at this
    exact this
  have VB := hid Vb
  clear hneg hV hr Vb
  rcases (show 18446744073709551616 ≤ V ∨ V < 18446744073709551616 by omega) with hb | hb
  · have TU : Hid (∀ (wx : World) (r : Option Addr) (os : List Int) (B : Nat), Ans B wx r os V → ∃ u, Calls Tryd.prog 58 #[.slice r os.length os.length] wx fun e w' => e = .returned (.tuple #[.int .u64 u, .bool false]) ∧ w' = wx) := by
      intro wx r os B A
      have l := ans_small A 4096 VB.out
      have := toUint_any r _ _ os wx (A.arg (by omega))
      have h2 : decide (Nm.tsize os ≤ 1) = false := by
        rw [decide_eq_false_iff_not]
        intro hh
        have := (Nm.tsize_le_iff A.2.1 1).1 hh
        rw [A.2.2.2.1] at this
        have e : Nm.pw 1 = 18446744073709551616 := rfl
        omega
      rw [h2] at this
      exact ⟨_, this⟩
    cases neg
    · go_enter Tryd.func25, Tryd.ntmps25
      go_wp2_with fail
      refine F.out.mono ?_
      rintro e w1 ⟨r, os, rfl, A, hB⟩
      obtain ⟨u, hu⟩ := TU.out w1 r os _ A
      have HU := hid hu
      have HB := hid hB
      clear hu hB A F TU
      go_wp2_with fail
      refine HU.out.mono ?_
      rintro e w2 ⟨rfl, rfl⟩
      go_wp2_with fail
      go_ret2
      exact ⟨0, 41, rfl, .inr ⟨by simp; omega, rfl, rfl⟩, HB.out⟩
    · go_enter Tryd.func25, Tryd.ntmps25
      go_wp2_with fail
      refine F.out.mono ?_
      rintro e w1 ⟨r, os, rfl, A, hB⟩
      obtain ⟨u, hu⟩ := TU.out w1 r os _ A
      have HU := hid hu
      have HB := hid hB
      clear hu hB A F TU
      go_wp2_with fail
      refine HU.out.mono ?_
      rintro e w2 ⟨rfl, rfl⟩
      go_wp2_with fail
      go_ret2
      exact ⟨0, 41, rfl, .inr ⟨by simp; omega, rfl, rfl⟩, HB.out⟩
  · have TU : Hid (∀ (wx : World) (r : Option Addr) (os : List Int) (B : Nat), Ans B wx r os V → Calls Tryd.prog 58 #[.slice r os.length os.length] wx fun e w' => e = .returned (.tuple #[.int .u64 V, .bool true]) ∧ w' = wx) := by
      intro wx r os B A
      have l := ans_small A 4096 VB.out
      exact toU_is r _ _ os wx (A.arg (by omega)) V A.2.2.2.1 hb
    cases neg
    · rcases (show 9223372036854775807 < V ∨ V ≤ 9223372036854775807 by omega) with hm | hm
      · go_enter Tryd.func25, Tryd.ntmps25
        go_wp2_with fail
        refine F.out.mono ?_
        rintro e w1 ⟨r, os, rfl, A, hB⟩
        have HU := hid (TU.out w1 r os _ A)
        have HB := hid hB
        clear hB A F TU
        go_wp2_with fail
        refine HU.out.mono ?_
        rintro e w2 ⟨rfl, rfl⟩
        go_wp2_with fail
        go_ret2
        exact ⟨0, 41, rfl, .inr ⟨by simp; omega, rfl, rfl⟩, HB.out⟩
      · go_enter Tryd.func25, Tryd.ntmps25
        go_wp2_with fail
        refine F.out.mono ?_
        rintro e w1 ⟨r, os, rfl, A, hB⟩
        have HU := hid (TU.out w1 r os _ A)
        have HB := hid hB
        clear hB A F TU
        go_wp2_with fail
        refine HU.out.mono ?_
        rintro e w2 ⟨rfl, rfl⟩
        go_wp2_with fail
        go_ret2
        exact ⟨V, 0, rfl, .inl ⟨by simp; omega, rfl, rfl⟩, HB.out⟩
    · rcases (show 9223372036854775808 < V ∨ V = 9223372036854775808 ∨ V < 9223372036854775808 by omega) with hm | hm | hm
      · go_enter Tryd.func25, Tryd.ntmps25
        go_wp2_with fail
        refine F.out.mono ?_
        rintro e w1 ⟨r, os, rfl, A, hB⟩
        have HU := hid (TU.out w1 r os _ A)
        have HB := hid hB
        clear hB A F TU
        go_wp2_with fail
        refine HU.out.mono ?_
        rintro e w2 ⟨rfl, rfl⟩
        go_wp2_with fail
        go_ret2
        exact ⟨0, 41, rfl, .inr ⟨by simp; omega, rfl, rfl⟩, HB.out⟩
      · subst hm
        go_enter Tryd.func25, Tryd.ntmps25
        go_wp2_with fail
        refine F.out.mono ?_
        rintro e w1 ⟨r, os, rfl, A, hB⟩
        have HU := hid (TU.out w1 r os _ A)
        have HB := hid hB
        clear hB A F TU
        go_wp2_with fail
        refine HU.out.mono ?_
        rintro e w2 ⟨rfl, rfl⟩
        go_wp2_with fail
        go_ret2
        exact ⟨-9223372036854775808, 0, ret_ie (by first | decide | (simp [wrap64] <;> omega) | rfl) rfl, .inl ⟨by simp, rfl, rfl⟩, HB.out⟩
      · go_enter Tryd.func25, Tryd.ntmps25
        go_wp2_with fail
        refine F.out.mono ?_
        rintro e w1 ⟨r, os, rfl, A, hB⟩
        have HU := hid (TU.out w1 r os _ A)
        have HB := hid hB
        clear hB A F TU
        go_wp2_with fail
        refine HU.out.mono ?_
        rintro e w2 ⟨rfl, rfl⟩
        go_wp2_with fail
        go_ret2
        exact ⟨-V, 0, rfl, .inl ⟨by simp; omega, rfl, rfl⟩, HB.out⟩
end Go.Proofs.YtnfomlkhkggjeabDoor

/-
  remain: Pow, of what FromInt answers.
-/
namespace Go.Proofs.YtnfomlkhkggjeabDoor
open Go Go.RowKit Go.Deep

namespace Ie
/-- What FromInt answers. -/
def FromIs (n y : Int) : Prop := ∃ z, y = sg (decide (n < 0)) z ∧ Rnd (max n (-n)) 1 0 false z

theorem big_dbl : un 4890909195324358656 = 9223372036854775808 * 2 ^ 1074 := by
  have h : un 4890909195324358656 = 4503599627370496 * 2 ^ 1085 := by
    rw [un, show man 4890909195324358656 = 4503599627370496 by decide, show ex 4890909195324358656 = 1085 by decide]
  rw [h, show (9223372036854775808 : Int) = 4503599627370496 * 2 ^ 11 by decide, Int.mul_assoc, ← Nm.two_add]

theorem rnd_un {A z : Int} (z0 : 0 ≤ z) (z1 : z < 9218868437227405312) (h : un z = A * 2 ^ 1074) : Rnd A 1 0 false z := by
  refine rnd_vl A 0 z false 1075 0 (by omega) z0 z1 ?_
  rw [vl_un, h, show (1075 : Nat) = 1074 + 1 by rfl, Nm.two_succ, Int.pow_zero, Int.mul_one]
  exact Int.mul_left_comm _ _ _

theorem from_facts {n y : Int} (n0 : -9223372036854775808 ≤ n) (n1 : n ≤ 9223372036854775807) (h : FromIs n y) :
    ∃ W : Int, 0 ≤ y ∧ y < 18446744073709551616 ∧ y % 9223372036854775808 < 9218868437227405312 ∧ decide (9223372036854775808 ≤ y) = decide (n < 0) ∧ whp (y % 9223372036854775808) = W ∧ 0 ≤ W ∧ W ≤ 9223372036854775808 ∧
      (-1024 ≤ n → n ≤ 1024 → W = max n (-n) ∧ intg y = true) ∧ (n < -1024 ∨ 1024 < n → 1024 < W) := by
  obtain ⟨z, rfl, hz⟩ := h
  have hp := Nm.two_pos 1074
  have b := hz.bd
  have hb : z ≤ 4890909195324358656 := hz.mono (by decide) (by decide) (rnd_un (A := 9223372036854775808) (by decide) (by decide) big_dbl) (a := 0) (a' := 0) (by omega) (by
    rw [Int.mul_one, Int.mul_one, Int.pow_zero, Int.mul_one, Int.mul_one]
    rcases (show max n (-n) < 9223372036854775808 ∨ max n (-n) = 9223372036854775808 by omega) with g | g
    · exact .inl g
    · exact .inr ⟨g, id⟩)
  have f1 := ab_sb (decide (n < 0)) z b.1 (by omega)
  rw [show sb (decide (n < 0)) z = sg (decide (n < 0)) z from rfl] at f1
  have f2 : 0 ≤ sg (decide (n < 0)) z ∧ sg (decide (n < 0)) z < 18446744073709551616 := by
    rw [sg]; split <;> omega
  have ew : ∀ x, whp x = un x / 2 ^ 1074 := fun x => by rw [whp, ediv_un]
  have ub : un z ≤ 9223372036854775808 * 2 ^ 1074 := by rw [← big_dbl]; exact un_le b.1 hb
  have W0 : 0 ≤ un z / 2 ^ 1074 := Int.ediv_nonneg (un_nn b.1) (by omega)
  have W1 : un z / 2 ^ 1074 ≤ 9223372036854775808 := by
    have := Int.ediv_le_ediv hp ub
    rw [Int.mul_ediv_cancel _ (by omega)] at this
    exact this
  have ea : sg (decide (n < 0)) z % 9223372036854775808 = z := f1.1
  refine ⟨un z / 2 ^ 1074, f2.1, f2.2, by rw [ea]; omega, f1.2, by rw [ea, ew], W0, W1, fun g1 g2 => ?_, fun g => ?_⟩
  · have e := (rnd_rep (c := 1074) (by omega) (by omega) (by omega) (by omega) hz).1
    refine ⟨by rw [e, Int.mul_ediv_cancel _ (by omega)], ?_⟩
    have hf : fin (sg (decide (n < 0)) z) := by rw [fin, f1.1]; omega
    rw [intg_iff_un hf, f1.1, e]
    exact Int.mul_emod_left _ _
  · obtain ⟨u, u0, u1, hu⟩ := un_rep 1074 1025 (by omega) (by omega) (by omega)
    have hm : u ≤ z := (rnd_un u0 u1 hu).mono (by decide) (by decide) hz (a := 0) (a' := 0) (by omega) (by
      rw [Int.mul_one, Int.mul_one, Int.pow_zero, Int.mul_one, Int.mul_one]
      rcases (show 1025 < max n (-n) ∨ 1025 = max n (-n) by omega) with k | k
      · exact .inl k
      · exact .inr ⟨k, id⟩)
    have hl := un_le u0 hm
    rw [hu] at hl
    have := Int.ediv_le_ediv hp hl
    rw [Int.mul_ediv_cancel _ (by omega)] at this
    exact Int.lt_of_lt_of_le (by decide) this
end Ie

theorem fromI_any (n : Int) (w : World) (hT : Tab w) (n0 : -9223372036854775808 ≤ n) (n1 : n ≤ 9223372036854775807) :
    Calls Tryd.prog 10 #[.int .i64 n] w fun e w' => ∃ y, e = .returned (.int .u64 y) ∧ Ie.FromIs n y ∧ Below w.heap.size w w' := by
  rcases (show 0 ≤ n ∨ n < 0 by omega) with g | g
  · refine (fromI_nn n w hT g n1).mono ?_
    rintro e w' ⟨x, rfl, h, hB⟩
    refine ⟨x, rfl, ⟨x, ?_, ?_⟩, hB⟩
    · rw [decide_eq_false (by omega)]; rfl
    · rw [show max n (-n) = n by omega]; exact h
  · refine (fromI_ng n w hT g n0).mono ?_
    rintro e w' ⟨x, rfl, h, hB⟩
    refine ⟨_, rfl, ⟨x, ?_, ?_⟩, hB⟩
    · rw [decide_eq_true (by omega)]; rfl
    · rw [show max n (-n) = -n by omega]; exact h

theorem pw_room' {W : Int} (h : W ≤ 9223372036854775808) : W < Nm.pw 4096 := by
  have h1 := Nm.pw_mono (show 1 ≤ 4096 by omega)
  have h2 : Nm.pw 1 = 18446744073709551616 := rfl
  omega

set_option maxRecDepth 100000 in
set_option maxHeartbeats 4000000 in
theorem powY_any (x n y : Int) (w : World) (hT : Tab w) (x0 : 0 ≤ x) (x1 : x < 18446744073709551616) (n0 : -9223372036854775808 ≤ n) (n1 : n ≤ 9223372036854775807) (hy : Ie.FromIs n y) :
    Calls Tryd.prog 9 #[.int .u64 x, .int .u64 y] w fun e w' => ∃ r f, e = .returned (.tuple #[.int .u64 r, .int .i64 f]) ∧ Ie.PwrIs x n r f ∧ Below w.heap.size w w' := by
  obtain ⟨W, y0, y1, yf, yn, hW, W0, W1, q1, q2⟩ := Ie.from_facts n0 n1 hy
  have TI := hid (toInt_fin y w y0 y1 yf _ yn W hW W0 (pw_room' W1))
  have IG := hid (fun (wx : World) (hx : Tab wx) => integral_any y wx hx y0 y1)
  have PW := hid (fun (wx : World) (j : Int) (hx : Tab wx) => power6_any x j wx hx x0 x1)
  have HT := hid hT
  by_cases g : n < -1024 ∨ 1024 < n
  · have E : Hid (Ie.PwrIs x n 0 60) := ⟨fun _ => ⟨rfl, rfl⟩, fun k k' => (by omega)⟩
    have PJ : Hid (∀ j f r e, ToIntIs (decide (n < 0)) W j f → f = 0 → Ie.PwrIs x j r e → Ie.PwrIs x n r e) := by
      intro j f r e hj hf hp
      have hw := q2 g
      have : j < -1024 ∨ 1024 < j := by
        rcases hj with ⟨_, h, _⟩ | ⟨_, _, h⟩
        · split at h <;> omega
        · omega
      obtain ⟨rfl, rfl⟩ := hp.1 this
      exact E.out
    have fz : Hid (∀ j f, ToIntIs (decide (n < 0)) W j f → f = 0 ∨ f = 41) := by
      intro j f hj
      rcases hj with ⟨_, _, h⟩ | ⟨_, _, h⟩
      · exact .inl h
      · exact .inr h
    clear q1 q2 hW yn yf hT hy g W0 W1
    go_enter Tryd.func9, Tryd.ntmps9
    go_wp2_with fail
    refine TI.out.mono ?_
    rintro e w1 ⟨j, f, rfl, hj, hB⟩
    have HB1 := hid hB
    have HJ := hid hj
    rcases fz.out j f hj with rfl | rfl
    · clear hB hj TI fz
      cases hi : Ie.intg y
      · rw [hi] at IG
        go_wp2_with fail
        refine (IG.out _ (HT.out.below HB1.out)).mono ?_
        rintro e w2 ⟨rfl, hB⟩
        have HB2 := hid (HB1.out.trans (hB.mono HB1.out.size))
        clear hB IG
        go_wp2_with fail
        go_ret2
        exact ⟨_, _, rfl, E.out, HB2.out⟩
      · rw [hi] at IG
        go_wp2_with fail
        refine (IG.out _ (HT.out.below HB1.out)).mono ?_
        rintro e w2 ⟨rfl, hB⟩
        have HB2 := hid (HB1.out.trans (hB.mono HB1.out.size))
        clear hB IG
        go_wp2_with fail
        refine (PW.out _ j (HT.out.below HB2.out)).mono ?_
        rintro e w3 ⟨r, f, rfl, hp, hB⟩
        have HB3 := hid (HB2.out.trans (hB.mono HB2.out.size))
        have KP := hid (PJ.out j 0 r f HJ.out rfl hp)
        clear hB hp PW PJ
        go_wp2_with fail
        go_ret2
        exact ⟨_, _, rfl, KP.out, HB3.out⟩
    · clear hB hj TI fz
      go_wp2_with fail
      go_ret2
      exact ⟨_, _, rfl, E.out, HB1.out⟩
  · obtain ⟨q3, q4⟩ := q1 (by omega) (by omega)
    have JN : Hid (∀ j f, ToIntIs (decide (n < 0)) W j f → f = 0 ∧ j = n) := by
      intro j f hj
      rcases hj with ⟨_, h, h'⟩ | ⟨h, _, _⟩
      · refine ⟨h', ?_⟩
        rcases (show n < 0 ∨ 0 ≤ n by omega) with k | k
        · rw [decide_eq_true k, if_pos rfl] at h; omega
        · rw [decide_eq_false (by omega), if_neg (by decide)] at h; omega
      · split at h <;> omega
    rw [q4] at IG
    clear q1 q2 q3 q4 hW yn yf hT hy g W0 W1
    go_enter Tryd.func9, Tryd.ntmps9
    go_wp2_with fail
    refine TI.out.mono ?_
    rintro e w1 ⟨j, f, rfl, hj, hB⟩
    obtain ⟨rfl, hjn⟩ := JN.out j f hj
    subst hjn
    have HB1 := hid hB
    clear hB hj TI JN
    go_wp2_with fail
    refine (IG.out _ (HT.out.below HB1.out)).mono ?_
    rintro e w2 ⟨rfl, hB⟩
    have HB2 := hid (HB1.out.trans (hB.mono HB1.out.size))
    clear hB IG
    go_wp2_with fail
    refine (PW.out _ j (HT.out.below HB2.out)).mono ?_
    rintro e w3 ⟨r, f, rfl, hp, hB⟩
    have HB3 := hid (HB2.out.trans (hB.mono HB2.out.size))
    have KP := hid hp
    clear hB hp PW
    go_wp2_with fail
    go_ret2
    exact ⟨_, _, rfl, KP.out, HB3.out⟩
end Go.Proofs.YtnfomlkhkggjeabDoor

/-
  RemainFirst, a NaN (made by mkhfirst.py).
-/
namespace Go.Proofs.YtnfomlkhkggjeabDoor
open Go Go.RowKit Go.Deep

set_option maxRecDepth 100000 in
set_option maxHeartbeats 8000000 in
theorem first_T (d n : Int) (w : World) (hT : Tab w) (h0 : 0 ≤ d) (h1 : d < 18446744073709551616) (n0 : -9223372036854775808 ≤ n) (n1 : n ≤ 9223372036854775807) (hn : Ie.isn d = true) :
    Calls Tryd.prog 3 #[.int .u64 d, .int .i64 n] w fun e w' => e = .returned (.bool true) ∧ Below w.heap.size w w' := by
  have AWK := hid (hawake_any w hT)
  have HT := hid hT
  have PW := hid (fun (wx : World) (x k : Int) (x0 : 0 ≤ x) (x1 : x < 18446744073709551616) (hx : Tab wx) => power6_any x k wx hx x0 x1)
  have MU := hid (fun (wx : World) (hx : Tab wx) => softMul_any d d wx h0 h1 h0 h1 hx)
  have DI := hid (fun (wx : World) (hx : Tab wx) => softDiv_any 4607182418800017408 d wx (by omega) (by omega) h0 h1 hx)
  have FR := hid (fun (wx : World) (hx : Tab wx) => fromI_any n wx hx n0 n1)
  have PY := hid (fun (wx : World) (y : Int) (hx : Tab wx) (hy : Ie.FromIs n y) => powY_any d n y wx hx h0 h1 n0 n1 hy)
  have SC := hid (fun (wx : World) (hx : Tab wx) => scale_any 4607182418800017408 n wx hx (by omega) (by omega))
  have NG := hid (fun (wx : World) => neg_any d wx h0 h1)
  have nb := (Ie.ng_facts d h0 h1).1
  have H01 := hid (And.intro h0 h1)
  have P1 : Hid (∀ r f, Ie.PwrIs d 1 r f → f = 0 ∧ r = 9221120237041090560) := fun r f h => ⟨(Ie.pow_one h0 h1 h).1, (Ie.pow_one h0 h1 h).2.1 hn⟩
  have dk : d % 9223372036854775808 > 9218868437227405312 := by rw [Ie.isn, decide_eq_true_iff, Ie.ab] at hn; exact hn
  have TU := hid (fun (p f t g : Int) (n1 : -1024 ≤ n) (n2 : n ≤ 1024) (h : Ie.PwrIs d n p f) (h' : Ie.PwrIs (Ie.ng d) n t g) => Ie.pow_turned h0 h1 n1 n2 h h')
  have HN := hid hn
  clear hT hn
  go_enter Tryd.func3, Tryd.ntmps3
  go_wp2_with fail
  refine AWK.out.mono ?_
  rintro e w1 ⟨rfl, hB⟩
  have HB1 := hid hB
  clear hB AWK
  go_wp2_with fail
  refine (PW.out _ d 0 H01.out.1 H01.out.2 (HT.out.below HB1.out)).mono ?_
  rintro e w2 ⟨r0, f0, rfl, h, hB⟩
  have HB2 := hid (HB1.out.trans (hB.mono HB1.out.size))
  obtain ⟨rfl, rfl⟩ := Ie.pow_nought h
  clear hB h HB1
  go_wp2_with fail
  refine (PW.out _ d 1 H01.out.1 H01.out.2 (HT.out.below HB2.out)).mono ?_
  rintro e w3 ⟨r1, f1, rfl, h, hB⟩
  have HB3 := hid (HB2.out.trans (hB.mono HB2.out.size))
  obtain ⟨rfl, hr1⟩ := P1.out r1 f1 h
  subst hr1
  clear hB h HB2 P1
  go_wp2_with fail
  refine (PW.out _ d 2 H01.out.1 H01.out.2 (HT.out.below HB3.out)).mono ?_
  rintro e w4 ⟨r2, f2, rfl, h, hB⟩
  have HB4 := hid (HB3.out.trans (hB.mono HB3.out.size))
  have E2 := hid h
  obtain ⟨-, rfl⟩ : True ∧ f2 = 0 := ⟨trivial, (h.2 (by omega) (by omega)).1⟩
  clear hB h HB3
  go_wp2_with fail
  refine (PW.out _ d (-1) H01.out.1 H01.out.2 (HT.out.below HB4.out)).mono ?_
  rintro e w5 ⟨r3, f3, rfl, h, hB⟩
  have HB5 := hid (HB4.out.trans (hB.mono HB4.out.size))
  have E3 := hid h
  obtain ⟨-, rfl⟩ : True ∧ f3 = 0 := ⟨trivial, (h.2 (by omega) (by omega)).1⟩
  clear hB h HB4
  go_wp2_with fail
  refine (MU.out _ (HT.out.below HB5.out)).mono ?_
  rintro e w6 ⟨r4, f4, rfl, h, hB⟩
  have HB6 := hid (HB5.out.trans (hB.mono HB5.out.size))
  obtain ⟨hm, -⟩ := Ie.pow_two E2.out h
  replace hm := hm.symm
  subst hm
  clear hB h HB5 E2 MU
  go_wp2_with fail
  refine (DI.out _ (HT.out.below HB6.out)).mono ?_
  rintro e w7 ⟨r5, f5, rfl, h, hB⟩
  have HB7 := hid (HB6.out.trans (hB.mono HB6.out.size))
  obtain ⟨hm, -⟩ := Ie.pow_under E3.out h
  replace hm := hm.symm
  subst hm
  clear hB h HB6 E3 DI
  go_wp2_with fail
  refine (PW.out _ d n H01.out.1 H01.out.2 (HT.out.below HB7.out)).mono ?_
  rintro e w8 ⟨p, f6, rfl, h, hB⟩
  have HB8 := hid (HB7.out.trans (hB.mono HB7.out.size))
  have EP := hid h
  clear hB h HB7
  go_wp2_with fail
  refine (FR.out _ (HT.out.below HB8.out)).mono ?_
  rintro e w9 ⟨y, rfl, h, hB⟩
  have HB9 := hid (HB8.out.trans (hB.mono HB8.out.size))
  have EY := hid h
  clear hB h HB8 FR
  go_wp2_with fail
  refine (PY.out _ y (HT.out.below HB9.out) EY.out).mono ?_
  rintro e w10 ⟨q, f7, rfl, h, hB⟩
  have HB10 := hid (HB9.out.trans (hB.mono HB9.out.size))
  obtain ⟨hq, hf⟩ := EP.out.one h
  subst hq hf
  clear hB h HB9 PY EY
  rcases (show n > 1024 ∨ (¬ n > 1024 ∧ n < -1024) ∨ (-1024 ≤ n ∧ n ≤ 1024) by omega) with g | ⟨g, g'⟩ | ⟨g1, g2⟩
  · obtain ⟨hp, hf⟩ := EP.out.1 (by omega)
    subst hp hf
    clear EP PW SC NG TU
    go_wp2_with fail
    go_ret
    exact ⟨by first | rfl | simp, HB10.out⟩
  · obtain ⟨hp, hf⟩ := EP.out.1 (by omega)
    subst hp hf
    clear EP PW SC NG TU
    go_wp2_with fail
    go_ret
    exact ⟨by first | rfl | simp, HB10.out⟩
  · have g1' : ¬ n < -1024 := by omega
    have g2' : ¬ n > 1024 := by omega
    obtain ⟨-, rfl⟩ : True ∧ f6 = 0 := ⟨trivial, (EP.out.2 g1 g2).1⟩
    go_wp2_with fail
    refine (PW.out _ 4611686018427387904 n (by omega) (by omega) (HT.out.below HB10.out)).mono ?_
    rintro e w11 ⟨b, f8, rfl, h, hB⟩
    have HB11 := hid (HB10.out.trans (hB.mono HB10.out.size))
    have EB := hid h
    obtain ⟨-, rfl⟩ : True ∧ f8 = 0 := ⟨trivial, (h.2 g1 g2).1⟩
    clear hB h HB10
    go_wp2_with fail
    refine (NG.out _).mono ?_
    rintro e wz ⟨rfl, hz⟩
    replace hz := hz.symm
    subst hz
    go_wp2_with fail
    refine (PW.out _ (Ie.ng d) n nb.1 nb.2 (HT.out.below HB11.out)).mono ?_
    rintro e w12 ⟨t, f9, rfl, h, hB⟩
    have HB12 := hid (HB11.out.trans (hB.mono HB11.out.size))
    obtain ⟨-, rfl, t1, t2, t3⟩ := TU.out p 0 t f9 g1 g2 EP.out h
    clear hB h HB11 PW TU NG EP
    rcases (show n % 2 = 0 ∨ n % 2 = 1 by omega) with e2 | e2
    · have ht := t1 e2
      subst ht
      have p' : Int.tmod n 2 = 0 := (tmod2 n).1 e2
      clear t1 t2 t3 e2
      go_wp2_with fail
      refine (SC.out _ (HT.out.below HB12.out)).mono ?_
      rintro e w13 ⟨s, rfl, h, hB⟩
      have HB13 := hid (HB12.out.trans (hB.mono HB12.out.size))
      obtain ⟨hs, -⟩ := Ie.pow_scale g1 g2 EB.out h
      replace hs := hs.symm
      subst hs
      clear hB h SC EB HB12
      go_wp2_with fail
      go_ret
      exact ⟨by first | rfl | simp, HB13.out⟩
    · obtain ⟨hp, ht⟩ := t2 e2 HN.out
      subst ht
      subst hp
      have p' : (Int.tmod n 2 == 0) = false := by rw [beq_eq_false_iff_ne]; exact (tmod2 n).2 e2
      have p2 : (Int.tmod n 2 != 0) = true := by rw [bne, p']; rfl
      clear t1 t2 t3 e2
      go_wp2_with fail
      refine (SC.out _ (HT.out.below HB12.out)).mono ?_
      rintro e w13 ⟨s, rfl, h, hB⟩
      have HB13 := hid (HB12.out.trans (hB.mono HB12.out.size))
      obtain ⟨hs, -⟩ := Ie.pow_scale g1 g2 EB.out h
      replace hs := hs.symm
      subst hs
      clear hB h SC EB HB12
      go_wp2_with fail
      go_ret
      exact ⟨by first | rfl | simp, HB13.out⟩
end Go.Proofs.YtnfomlkhkggjeabDoor

/-
  RemainFirst, no NaN (made by mkhfirst.py).
-/
namespace Go.Proofs.YtnfomlkhkggjeabDoor
open Go Go.RowKit Go.Deep

set_option maxRecDepth 100000 in
set_option maxHeartbeats 8000000 in
theorem first_F (d n : Int) (w : World) (hT : Tab w) (h0 : 0 ≤ d) (h1 : d < 18446744073709551616) (n0 : -9223372036854775808 ≤ n) (n1 : n ≤ 9223372036854775807) (hn : Ie.isn d = false) :
    Calls Tryd.prog 3 #[.int .u64 d, .int .i64 n] w fun e w' => e = .returned (.bool true) ∧ Below w.heap.size w w' := by
  have AWK := hid (hawake_any w hT)
  have HT := hid hT
  have PW := hid (fun (wx : World) (x k : Int) (x0 : 0 ≤ x) (x1 : x < 18446744073709551616) (hx : Tab wx) => power6_any x k wx hx x0 x1)
  have MU := hid (fun (wx : World) (hx : Tab wx) => softMul_any d d wx h0 h1 h0 h1 hx)
  have DI := hid (fun (wx : World) (hx : Tab wx) => softDiv_any 4607182418800017408 d wx (by omega) (by omega) h0 h1 hx)
  have FR := hid (fun (wx : World) (hx : Tab wx) => fromI_any n wx hx n0 n1)
  have PY := hid (fun (wx : World) (y : Int) (hx : Tab wx) (hy : Ie.FromIs n y) => powY_any d n y wx hx h0 h1 n0 n1 hy)
  have SC := hid (fun (wx : World) (hx : Tab wx) => scale_any 4607182418800017408 n wx hx (by omega) (by omega))
  have NG := hid (fun (wx : World) => neg_any d wx h0 h1)
  have nb := (Ie.ng_facts d h0 h1).1
  have H01 := hid (And.intro h0 h1)
  have P1 : Hid (∀ r f, Ie.PwrIs d 1 r f → f = 0 ∧ r = d) := fun r f h => ⟨(Ie.pow_one h0 h1 h).1, (Ie.pow_one h0 h1 h).2.2 hn⟩
  have dk : ¬ d % 9223372036854775808 > 9218868437227405312 := by rw [Ie.isn, decide_eq_false_iff_not, Ie.ab] at hn; exact hn
  have TU := hid (fun (p f t g : Int) (n1 : -1024 ≤ n) (n2 : n ≤ 1024) (h : Ie.PwrIs d n p f) (h' : Ie.PwrIs (Ie.ng d) n t g) => Ie.pow_turned h0 h1 n1 n2 h h')
  have HN := hid hn
  clear hT hn
  go_enter Tryd.func3, Tryd.ntmps3
  go_wp2_with fail
  refine AWK.out.mono ?_
  rintro e w1 ⟨rfl, hB⟩
  have HB1 := hid hB
  clear hB AWK
  go_wp2_with fail
  refine (PW.out _ d 0 H01.out.1 H01.out.2 (HT.out.below HB1.out)).mono ?_
  rintro e w2 ⟨r0, f0, rfl, h, hB⟩
  have HB2 := hid (HB1.out.trans (hB.mono HB1.out.size))
  obtain ⟨rfl, rfl⟩ := Ie.pow_nought h
  clear hB h HB1
  go_wp2_with fail
  refine (PW.out _ d 1 H01.out.1 H01.out.2 (HT.out.below HB2.out)).mono ?_
  rintro e w3 ⟨r1, f1, rfl, h, hB⟩
  have HB3 := hid (HB2.out.trans (hB.mono HB2.out.size))
  obtain ⟨rfl, hr1⟩ := P1.out r1 f1 h
  replace hr1 := hr1.symm
  subst hr1
  clear hB h HB2 P1
  go_wp2_with fail
  refine (PW.out _ d 2 H01.out.1 H01.out.2 (HT.out.below HB3.out)).mono ?_
  rintro e w4 ⟨r2, f2, rfl, h, hB⟩
  have HB4 := hid (HB3.out.trans (hB.mono HB3.out.size))
  have E2 := hid h
  obtain ⟨-, rfl⟩ : True ∧ f2 = 0 := ⟨trivial, (h.2 (by omega) (by omega)).1⟩
  clear hB h HB3
  go_wp2_with fail
  refine (PW.out _ d (-1) H01.out.1 H01.out.2 (HT.out.below HB4.out)).mono ?_
  rintro e w5 ⟨r3, f3, rfl, h, hB⟩
  have HB5 := hid (HB4.out.trans (hB.mono HB4.out.size))
  have E3 := hid h
  obtain ⟨-, rfl⟩ : True ∧ f3 = 0 := ⟨trivial, (h.2 (by omega) (by omega)).1⟩
  clear hB h HB4
  go_wp2_with fail
  refine (MU.out _ (HT.out.below HB5.out)).mono ?_
  rintro e w6 ⟨r4, f4, rfl, h, hB⟩
  have HB6 := hid (HB5.out.trans (hB.mono HB5.out.size))
  obtain ⟨hm, -⟩ := Ie.pow_two E2.out h
  replace hm := hm.symm
  subst hm
  clear hB h HB5 E2 MU
  go_wp2_with fail
  refine (DI.out _ (HT.out.below HB6.out)).mono ?_
  rintro e w7 ⟨r5, f5, rfl, h, hB⟩
  have HB7 := hid (HB6.out.trans (hB.mono HB6.out.size))
  obtain ⟨hm, -⟩ := Ie.pow_under E3.out h
  replace hm := hm.symm
  subst hm
  clear hB h HB6 E3 DI
  go_wp2_with fail
  refine (PW.out _ d n H01.out.1 H01.out.2 (HT.out.below HB7.out)).mono ?_
  rintro e w8 ⟨p, f6, rfl, h, hB⟩
  have HB8 := hid (HB7.out.trans (hB.mono HB7.out.size))
  have EP := hid h
  clear hB h HB7
  go_wp2_with fail
  refine (FR.out _ (HT.out.below HB8.out)).mono ?_
  rintro e w9 ⟨y, rfl, h, hB⟩
  have HB9 := hid (HB8.out.trans (hB.mono HB8.out.size))
  have EY := hid h
  clear hB h HB8 FR
  go_wp2_with fail
  refine (PY.out _ y (HT.out.below HB9.out) EY.out).mono ?_
  rintro e w10 ⟨q, f7, rfl, h, hB⟩
  have HB10 := hid (HB9.out.trans (hB.mono HB9.out.size))
  obtain ⟨hq, hf⟩ := EP.out.one h
  subst hq hf
  clear hB h HB9 PY EY
  rcases (show n > 1024 ∨ (¬ n > 1024 ∧ n < -1024) ∨ (-1024 ≤ n ∧ n ≤ 1024) by omega) with g | ⟨g, g'⟩ | ⟨g1, g2⟩
  · obtain ⟨hp, hf⟩ := EP.out.1 (by omega)
    subst hp hf
    clear EP PW SC NG TU
    go_wp2_with fail
    go_ret
    exact ⟨by first | rfl | simp, HB10.out⟩
  · obtain ⟨hp, hf⟩ := EP.out.1 (by omega)
    subst hp hf
    clear EP PW SC NG TU
    go_wp2_with fail
    go_ret
    exact ⟨by first | rfl | simp, HB10.out⟩
  · have g1' : ¬ n < -1024 := by omega
    have g2' : ¬ n > 1024 := by omega
    obtain ⟨-, rfl⟩ : True ∧ f6 = 0 := ⟨trivial, (EP.out.2 g1 g2).1⟩
    go_wp2_with fail
    refine (PW.out _ 4611686018427387904 n (by omega) (by omega) (HT.out.below HB10.out)).mono ?_
    rintro e w11 ⟨b, f8, rfl, h, hB⟩
    have HB11 := hid (HB10.out.trans (hB.mono HB10.out.size))
    have EB := hid h
    obtain ⟨-, rfl⟩ : True ∧ f8 = 0 := ⟨trivial, (h.2 g1 g2).1⟩
    clear hB h HB10
    go_wp2_with fail
    refine (NG.out _).mono ?_
    rintro e wz ⟨rfl, hz⟩
    replace hz := hz.symm
    subst hz
    go_wp2_with fail
    refine (PW.out _ (Ie.ng d) n nb.1 nb.2 (HT.out.below HB11.out)).mono ?_
    rintro e w12 ⟨t, f9, rfl, h, hB⟩
    have HB12 := hid (HB11.out.trans (hB.mono HB11.out.size))
    obtain ⟨-, rfl, t1, t2, t3⟩ := TU.out p 0 t f9 g1 g2 EP.out h
    clear hB h HB11 PW TU NG EP
    rcases (show n % 2 = 0 ∨ n % 2 = 1 by omega) with e2 | e2
    · have ht := t1 e2
      subst ht
      have p' : Int.tmod n 2 = 0 := (tmod2 n).1 e2
      clear t1 t2 t3 e2
      go_wp2_with fail
      refine (SC.out _ (HT.out.below HB12.out)).mono ?_
      rintro e w13 ⟨s, rfl, h, hB⟩
      have HB13 := hid (HB12.out.trans (hB.mono HB12.out.size))
      obtain ⟨hs, -⟩ := Ie.pow_scale g1 g2 EB.out h
      replace hs := hs.symm
      subst hs
      clear hB h SC EB HB12
      go_wp2_with fail
      go_ret
      exact ⟨by first | rfl | simp, HB13.out⟩
    · obtain ⟨hp, t4, t5, ht⟩ := t3 e2 HN.out
      have p' : (Int.tmod n 2 == 0) = false := by rw [beq_eq_false_iff_ne]; exact (tmod2 n).2 e2
      have p2 : (Int.tmod n 2 != 0) = true := by rw [bne, p']; rfl
      have p3 : (p != 9221120237041090560) = true := by rw [bne, hp]; rfl
      have NT := hid (fun (wx : World) => neg_any t wx t4 t5)
      rw [ht] at NT
      clear t1 t2 t3 e2 t4 t5 ht
      go_wp2_with fail
      refine (NT.out _).mono ?_
      rintro e wz ⟨rfl, hz⟩
      replace hz := hz.symm
      subst hz
      go_wp2_with fail
      refine (SC.out _ (HT.out.below HB12.out)).mono ?_
      rintro e w13 ⟨s, rfl, h, hB⟩
      have HB13 := hid (HB12.out.trans (hB.mono HB12.out.size))
      obtain ⟨hs, -⟩ := Ie.pow_scale g1 g2 EB.out h
      replace hs := hs.symm
      subst hs
      clear hB h SC EB HB12
      go_wp2_with fail
      go_ret
      exact ⟨by first | rfl | simp, HB13.out⟩
end Go.Proofs.YtnfomlkhkggjeabDoor

/-
  RemainFirst (made by mkhfirst.py).
-/
namespace Go.Proofs.YtnfomlkhkggjeabDoor
open Go Go.RowKit Go.Deep

theorem first_law (d n : Int) (w : World) (hT : Tab w) (h0 : 0 ≤ d) (h1 : d < 18446744073709551616) (n0 : -9223372036854775808 ≤ n) (n1 : n ≤ 9223372036854775807) :
    Calls Tryd.prog 3 #[.int .u64 d, .int .i64 n] w fun e w' => e = .returned (.bool true) ∧ Below w.heap.size w w' := by
  cases hn : Ie.isn d
  · exact first_F d n w hT h0 h1 n0 n1 hn
  · exact first_T d n w hT h0 h1 n0 n1 hn
end Go.Proofs.YtnfomlkhkggjeabDoor
