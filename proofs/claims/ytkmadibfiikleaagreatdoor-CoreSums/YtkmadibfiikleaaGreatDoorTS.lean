/-
  Texts put together: TSumN, GDot, XMul, IWalk1A, XAdd, TSum.
-/
import Derived.Test.YtkmadibfiikleaaGreatDoorGA
import Derived.Test.YtkmadibfiikleaaGreatDoorXM
import Derived.Test.YtkmadibfiikleaaGreatDoorMM
import Derived.Test.YtkmadibfiikleaaGreatDoorGProd2
import Derived.Test.YtkmadibfiikleaaGreatDoorGNew
import Derived.Test.YtkmadibfiikleaaGreatDoorGOver
import Derived.Test.YtkmadibfiikleaaGreatDoorIWalk1B
namespace Go.Proofs.YtkmadibfiikleaaGreatDoor
namespace Ie
theorem RS.sign {S Q : Int} {z z' : Bool} {r : Int} (h : RS S Q z r) (k : S = 0 → z = z') : RS S Q z' r := by
  obtain ⟨neg, V, x, h1, h2, h3, h4, h5⟩ := h
  exact ⟨neg, V, x, h1, h2, h3, h4, fun q => (h5 q).trans (k q)⟩
theorem RS.scale {S Q : Int} {z : Bool} {r : Int} (h : RS S Q z r) (hQ : 0 < Q) (k : Int) (hk : 0 < k) {S' Q' : Int} (e1 : S' = S * k) (e2 : Q' = Q * k) {r' : Int} (h' : RS S' Q' z r') : r' = r := by
  refine (h.one hQ (by rw [e2]; exact Int.mul_pos hQ hk) h' ?_).symm
  rw [e1, e2]
  ac_rfl
end Ie
namespace Ga

/-- The product of x and y is a NaN; it is infinite, above 0; below 0. -/
def nP (x y : Int) : Int := if Wild (Ie.cls x) (Ie.cls y) then 1 else 0
def uP (x y : Int) : Int := if ¬ Wild (Ie.cls x) (Ie.cls y) ∧ (Ie.cls x = 3 ∨ Ie.cls y = 3) ∧ (Ie.ngd x != Ie.ngd y) = false then 1 else 0
def dP (x y : Int) : Int := if ¬ Wild (Ie.cls x) (Ie.cls y) ∧ (Ie.cls x = 3 ∨ Ie.cls y = 3) ∧ (Ie.ngd x != Ie.ngd y) = true then 1 else 0

theorem prod_cnt (s : St) (x y : Int) : (s.prod x y).n = s.n + nP x y ∧ (s.prod x y).u = s.u + uP x y ∧ (s.prod x y).d = s.d + dP x y := by
  rw [St.prod, St.note, odd, nP, uP, dP]
  by_cases hw : Wild (Ie.cls x) (Ie.cls y)
  · simp [hw, St.inc]
  · by_cases hi : Ie.cls x = 3 ∨ Ie.cls y = 3
    · cases hn : (Ie.ngd x != Ie.ngd y) <;> simp [hw, hi, St.inc]
    · simp only [hw, hi, decide_false, Bool.or_self, Bool.false_eq_true, if_false, not_false_eq_true, true_and, false_and, Int.add_zero]
      split
      · split <;> exact ⟨rfl, rfl, rfl⟩
      · split <;> exact ⟨rfl, rfl, rfl⟩

theorem prod_c2 (s : St) (x y : Int) : (s.prod x y).c = s.c + 1 := by
  rw [St.prod, St.note]
  split
  · split
    · rfl
    · split
      · split <;> rfl
      · rfl
  · split
    · split <;> rfl
    · split <;> rfl

theorem is_nan {s : St} {q r : Int} (h : 0 < s.n) (k : s.Is q r) : r = 9221120237041090560 := by
  rw [St.Is, if_pos (.inl h), St.told, if_pos (.inl h)] at k
  exact k
theorem is_clash {s : St} {q r : Int} (h : 0 < s.u) (h' : 0 < s.d) (k : s.Is q r) : r = 9221120237041090560 := by
  rw [St.Is, if_pos (.inr (.inl h)), St.told, if_pos (.inr ⟨h, h'⟩)] at k
  exact k
theorem is_up {s : St} {q r : Int} (h0 : s.n = 0) (h : 0 < s.u) (h' : s.d = 0) (k : s.Is q r) : r = 9218868437227405312 := by
  rw [St.Is, if_pos (.inr (.inl h)), St.told, if_neg (by omega), if_pos h] at k
  exact k
theorem is_down {s : St} {q r : Int} (h0 : s.n = 0) (h : s.u = 0) (h' : 0 < s.d) (k : s.Is q r) : r = 18442240474082181120 := by
  rw [St.Is, if_pos (.inr (.inr h')), St.told, if_neg (by omega), if_neg (by omega), if_pos h'] at k
  exact k
theorem is_fin {s : St} {q r : Int} (h0 : s.n = 0) (h : s.u = 0) (h' : s.d = 0) (k : s.Is q r) : Ie.RS (s.P - s.N) (2 ^ 1074 * q) s.zs r := by
  rw [St.Is, if_neg (by rw [St.Odd]; omega)] at k
  exact k

theorem cls4 {d : Int} : Ie.isn d = true ↔ Ie.cls d = 4 := by rw [← Ie.isn_cls, beq_iff_eq]
theorem cls3 {d : Int} : Ie.isi d = true ↔ Ie.cls d = 3 := by rw [← Ie.isi_cls, beq_iff_eq]
theorem cls0 {d : Int} : Ie.isz d = true ↔ Ie.cls d = 0 := by rw [← Ie.isz_cls, beq_iff_eq]

/-- A signed infinity. -/
theorem inf_is {d : Int} (h0 : 0 ≤ d) (h1 : d < 18446744073709551616) (h : Ie.cls d = 3) : d = Ie.sb (Ie.ngd d) 9218868437227405312 := by
  have e := Ie.sb_ab d h0 h1
  have := cls3.2 h
  rw [Ie.isi, decide_eq_true_iff] at this
  rw [this] at e
  exact e

theorem mul_same {a b r r' f : Int} (h : (none.prod a b).Is 1 r) (k : Ie.MulIs a b r' f) : r = r' := by
  obtain ⟨c1, c2, c3⟩ := prod_cnt none a b
  have e0 : none.n = 0 ∧ none.u = 0 ∧ none.d = 0 := ⟨rfl, rfl, rfl⟩
  rw [e0.1, Int.zero_add] at c1
  rw [e0.2.1, Int.zero_add] at c2
  rw [e0.2.2, Int.zero_add] at c3
  rw [Ie.MulIs] at k
  by_cases g1 : Ie.isn a = true ∨ Ie.isn b = true
  · rw [if_pos g1] at k
    rw [cls4, cls4] at g1
    rw [k.1]
    refine is_nan ?_ h
    rw [c1, nP, if_pos (by rw [Wild]; omega)]
    decide
  · rw [if_neg g1] at k
    rw [cls4, cls4] at g1
    by_cases g2 : (Ie.isi a = true ∧ Ie.isz b = true) ∨ (Ie.isz a = true ∧ Ie.isi b = true)
    · rw [if_pos g2] at k
      rw [cls3, cls3, cls0, cls0] at g2
      rw [k.1]
      refine is_nan ?_ h
      rw [c1, nP, if_pos (by rw [Wild]; omega)]
      decide
    · rw [if_neg g2] at k
      rw [cls3, cls3, cls0, cls0] at g2
      have hw : ¬ Wild (Ie.cls a) (Ie.cls b) := by rw [Wild]; omega
      rw [nP, if_neg hw] at c1
      by_cases g3 : Ie.isi a = true ∨ Ie.isi b = true
      · rw [if_pos g3] at k
        rw [cls3, cls3] at g3
        rw [k.1]
        cases hn : (Ie.ngd a != Ie.ngd b)
        · rw [uP, if_pos ⟨hw, g3, hn⟩] at c2
          rw [dP, if_neg (fun q => by rw [hn] at q; exact absurd q.2.2 (by decide))] at c3
          exact is_up c1 (by omega) c3 h
        · rw [uP, if_neg (fun q => by rw [hn] at q; exact absurd q.2.2 (by decide))] at c2
          rw [dP, if_pos ⟨hw, g3, hn⟩] at c3
          exact is_down c1 c2 (by omega) h
      · rw [cls3, cls3] at g3
        have fa : Ie.fin a := fin_cls (by omega) (by omega)
        have fb : Ie.fin b := fin_cls (by omega) (by omega)
        have M := prod_fin none fa fb
        have R := is_fin c1 (by rw [c2, uP, if_neg (fun q => g3 q.2.1)]) (by rw [c3, dP, if_neg (fun q => g3 q.2.1)]) h
        have K : Ie.RS (Ie.uv a * Ie.uv b) (2 ^ 1074) (Ie.ngd a != Ie.ngd b) r' := Ie.MulIs.rs fa fb (f := f) (by
          rw [Ie.MulIs, if_neg (by rw [cls4, cls4]; exact g1), if_neg (by rw [cls3, cls3, cls0, cls0]; exact g2), if_neg (by rw [cls3, cls3]; exact g3)] ; rw [if_neg (by rw [cls3, cls3]; exact g3)] at k; exact k)
        rw [M.T, show none.P - none.N = 0 from rfl, Int.zero_add, Int.mul_one] at R
        have R2 := R.sign (z' := (Ie.ngd a != Ie.ngd b)) (fun q => by
          rw [St.zs, M.c, M.z, q]
          cases (Ie.ngd a != Ie.ngd b) <;> decide)
        exact R2.one (Nm.two_pos _) (Nm.two_pos _) K rfl

theorem wild_one (c : Int) : Wild c 2 ↔ c = 4 := by rw [Wild]; omega
theorem one_cls : Ie.cls 4607182418800017408 = 2 := by decide
theorem one_ngd (b : Bool) : (b != Ie.ngd 4607182418800017408) = b := by rw [show Ie.ngd 4607182418800017408 = false by decide, Bool.bne_false]
theorem nP_one (a : Int) : nP a 4607182418800017408 = if Ie.cls a = 4 then 1 else 0 := by rw [nP, one_cls]; simp only [wild_one]
theorem uP_one (a : Int) : uP a 4607182418800017408 = if Ie.cls a = 3 ∧ Ie.ngd a = false then 1 else 0 := by
  rw [uP, one_cls, one_ngd]
  by_cases h : Ie.cls a = 3 ∧ Ie.ngd a = false
  · rw [if_pos h, if_pos ⟨by rw [wild_one]; omega, .inl h.1, h.2⟩]
  · rw [if_neg h, if_neg (fun q => h ⟨q.2.1.resolve_right (by decide), q.2.2⟩)]
theorem dP_one (a : Int) : dP a 4607182418800017408 = if Ie.cls a = 3 ∧ Ie.ngd a = true then 1 else 0 := by
  rw [dP, one_cls, one_ngd]
  by_cases h : Ie.cls a = 3 ∧ Ie.ngd a = true
  · rw [if_pos h, if_pos ⟨by rw [wild_one]; omega, .inl h.1, h.2⟩]
  · rw [if_neg h, if_neg (fun q => h ⟨q.2.1.resolve_right (by decide), q.2.2⟩)]

theorem add_prod {s : St} (hc : s.c < 1099511627776) (x : Int) : s.add x = s.prod x 4607182418800017408 := by rw [St.add, if_pos hc]

/-- An infinity and an addend that is no NaN. -/
theorem inf_and {s : St} {a c r : Int} (h0 : 0 ≤ c) (h1 : c < 18446744073709551616) (a0 : 0 ≤ a) (a1 : a < 18446744073709551616) (ca : Ie.cls a = 3) (c4 : Ie.cls c ≠ 4) (n0 : s.n = 0)
    (hu : s.u = if Ie.ngd a = false then 1 else 0) (hd : s.d = if Ie.ngd a = true then 1 else 0) (h : (s.prod c 4607182418800017408).Is 1 r) :
    r = if Ie.cls c = 3 ∧ a ≠ c then 9221120237041090560 else a := by
  obtain ⟨c1, c2, c3⟩ := prod_cnt s c 4607182418800017408
  rw [nP_one, if_neg c4, n0] at c1
  rw [uP_one, hu] at c2
  rw [dP_one, hd] at c3
  have ea := inf_is a0 a1 ca
  by_cases k : Ie.cls c = 3
  · have ec := inf_is h0 h1 k
    cases ha : Ie.ngd a <;> cases hc : Ie.ngd c <;> rw [ha] at ea c2 c3 <;> rw [hc] at ec c2 c3 <;> simp only [k, Bool.false_eq_true, if_true, if_false, Bool.true_eq_false, and_true, and_false] at c2 c3
    · rw [if_neg (fun q => q.2 (ea.trans ec.symm)), ea]
      exact is_up c1 (by omega) (by omega) h
    · rw [if_pos ⟨k, fun q => by rw [ea, ec] at q; exact absurd q (by decide)⟩]
      exact is_clash (by omega) (by omega) h
    · rw [if_pos ⟨k, fun q => by rw [ea, ec] at q; exact absurd q (by decide)⟩]
      exact is_clash (by omega) (by omega) h
    · rw [if_neg (fun q => q.2 (ea.trans ec.symm)), ea]
      exact is_down c1 (by omega) (by omega) h
  · rw [if_neg (fun q => k q.1)]
    simp only [k, false_and, if_false] at c2 c3
    cases ha : Ie.ngd a <;> rw [ha] at ea c2 c3 <;> simp only [Bool.false_eq_true, if_true, if_false, Bool.true_eq_false] at c2 c3
    · rw [ea]; exact is_up c1 (by omega) (by omega) h
    · rw [ea]; exact is_down c1 (by omega) (by omega) h

/-- A finite addend and an infinity. -/
theorem and_inf {s : St} {c r : Int} (h0 : 0 ≤ c) (h1 : c < 18446744073709551616) (cc : Ie.cls c = 3) (n0 : s.n = 0) (hu : s.u = 0) (hd : s.d = 0) (h : (s.prod c 4607182418800017408).Is 1 r) : r = c := by
  obtain ⟨c1, c2, c3⟩ := prod_cnt s c 4607182418800017408
  rw [nP_one, if_neg (by omega), n0] at c1
  rw [uP_one, hu] at c2
  rw [dP_one, hd] at c3
  have ec := inf_is h0 h1 cc
  cases hc : Ie.ngd c <;> rw [hc] at ec c2 c3 <;> simp only [cc, true_and, Bool.false_eq_true, if_true, if_false, Bool.true_eq_false] at c2 c3
  · rw [ec]; exact is_up c1 (by omega) (by omega) h
  · rw [ec]; exact is_down c1 (by omega) (by omega) h

/-- The sign of a sum of two that is nothing. -/
theorem two_zs {s t : St} {n1 n2 : Bool} {V1 V2 : Int} (M : More none s n1 V1) (L : More s t n2 V2) (p1 : n1 = true → V1 ≤ 0) (p2 : n2 = true → V2 ≤ 0) (h : V1 + V2 = 0) : t.zs = (n1 && n2) := by
  rw [St.zs, L.c, M.c, L.z, M.z, show none.c = 0 from rfl, show none.z = 0 from rfl]
  cases n1 <;> cases n2 <;> simp only [Bool.false_eq_true, false_and, if_false, true_and, Bool.and_self, Bool.and_false, Bool.false_and]
  · decide
  · split <;> decide
  · split <;> decide
  · have := p1 rfl
    have := p2 rfl
    rw [if_pos (by omega), if_pos (by omega)]
    decide

theorem uv_le {d : Int} (h : Ie.ngd d = true) : Ie.uv d ≤ 0 := by
  rw [Ie.uv, h, Ie.sn_true]
  have := Ie.un_nn (Ie.ab_bd d).1
  omega
theorem uv_prod {a b : Int} (h : (Ie.ngd a != Ie.ngd b) = true) : Ie.uv a * Ie.uv b ≤ 0 := by
  rw [Ie.uv, Ie.uv, Ie.sn_mul, h, Ie.sn_true]
  have := Int.mul_nonneg (Ie.un_nn (Ie.ab_bd a).1) (Ie.un_nn (Ie.ab_bd b).1)
  omega

theorem add_same {a b r r' f : Int} (a0 : 0 ≤ a) (a1 : a < 18446744073709551616) (b0 : 0 ≤ b) (b1 : b < 18446744073709551616) (h : ((none.add a).add b).Is 1 r) (k : Ie.AddIs a b r' f) : r = r' := by
  have ca : (none.add a).c < 1099511627776 := by rw [add_prod (by decide), (prod_c2 none a _)]; decide
  rw [add_prod ca] at h
  have cn := prod_cnt none a 4607182418800017408
  rw [← add_prod (by decide), show none.n = 0 from rfl, show none.u = 0 from rfl, show none.d = 0 from rfl, Int.zero_add, Int.zero_add, Int.zero_add, nP_one, uP_one, dP_one] at cn
  obtain ⟨c1, c2, c3⟩ := cn
  obtain ⟨d1, d2, d3⟩ := prod_cnt (none.add a) b 4607182418800017408
  have k' := k
  rw [Ie.AddIs] at k
  by_cases g1 : Ie.isn a = true ∨ Ie.isn b = true
  · rw [if_pos g1] at k
    rw [cls4, cls4] at g1
    rw [k.1]
    refine is_nan ?_ h
    rw [d1, c1, nP_one]
    rcases g1 with q | q
    · rw [if_pos q]; split <;> decide
    · rw [if_pos q]; split <;> decide
  · rw [if_neg g1] at k
    rw [cls4, cls4] at g1
    rw [if_neg (fun q => g1 (.inl q))] at c1
    by_cases gi : Ie.cls a = 3
    · have R := inf_and b0 b1 a0 a1 gi (fun q => g1 (.inr q)) c1 (by rw [c2]; simp [gi]) (by rw [c3]; simp [gi]) h
      rw [R]
      by_cases g2 : Ie.isi a = true ∧ Ie.isi b = true ∧ a ≠ b
      · rw [if_pos g2] at k
        rw [cls3, cls3] at g2
        rw [if_pos g2.2, k.1]
      · rw [if_neg g2, if_pos (cls3.2 gi)] at k
        rw [cls3, cls3] at g2
        rw [if_neg (fun q => g2 ⟨gi, q⟩), k.1]
    · rw [if_neg (fun q => gi (cls3.1 q.1)), if_neg (fun q => gi (cls3.1 q))] at k
      rw [if_neg (fun q => gi q.1)] at c2 c3
      by_cases gb : Ie.cls b = 3
      · rw [if_pos (cls3.2 gb)] at k
        rw [k.1]
        exact and_inf b0 b1 gb c1 c2 c3 h
      · have fa : Ie.fin a := fin_cls (by omega) (by omega)
        have fb : Ie.fin b := fin_cls (by omega) (by omega)
        have M := add_fin none fa (by decide)
        have L := add_fin (none.add a) fb ca
        rw [add_prod ca] at L
        have R := is_fin (by rw [L.n, c1]) (by rw [L.u, c2]) (by rw [L.d, c3]) h
        rw [L.T, M.T, show none.P - none.N = 0 from rfl, Int.zero_add, Int.mul_one, ← Int.add_mul] at R
        have K := k'.rs fa fb
        have R2 := R.sign (z' := (Ie.ngd a && Ie.ngd b)) (fun q => two_zs M L (fun n => by have := Int.mul_le_mul_of_nonneg_right (uv_le n) (Int.le_of_lt (Nm.two_pos 1074)); rw [Int.zero_mul] at this; exact this) (fun n => by have := Int.mul_le_mul_of_nonneg_right (uv_le n) (Int.le_of_lt (Nm.two_pos 1074)); rw [Int.zero_mul] at this; exact this) (by rw [← Int.add_mul]; exact q))
        exact Ie.RS.scale K (by decide) (2 ^ 1074) (Nm.two_pos _) rfl (by rw [Int.one_mul]) R2

theorem fma_same {a b c r r' f : Int} (c0 : 0 ≤ c) (c1 : c < 18446744073709551616) (h : ((none.prod a b).prod c 4607182418800017408).Is 1 r) (k : Ie.FmaIs a b c r' f) : r = r' := by
  have cn := prod_cnt none a b
  rw [show none.n = 0 from rfl, show none.u = 0 from rfl, show none.d = 0 from rfl, Int.zero_add, Int.zero_add, Int.zero_add] at cn
  obtain ⟨e1, e2, e3⟩ := cn
  obtain ⟨d1, d2, d3⟩ := prod_cnt (none.prod a b) c 4607182418800017408
  have k' := k
  rw [Ie.FmaIs] at k
  have nn : 0 ≤ nP a b ∧ 0 ≤ nP c 4607182418800017408 := ⟨by rw [nP]; split <;> decide, by rw [nP]; split <;> decide⟩
  by_cases g1 : Ie.isn a = true ∨ Ie.isn b = true ∨ Ie.isn c = true
  · rw [if_pos g1] at k
    rw [cls4, cls4, cls4] at g1
    rw [k.1]
    refine is_nan ?_ h
    rw [d1, e1]
    rcases g1 with q | q | q
    · have : nP a b = 1 := by rw [nP, if_pos (.inl q)]
      omega
    · have : nP a b = 1 := by rw [nP, if_pos (.inr (.inl q))]
      omega
    · have : nP c 4607182418800017408 = 1 := by rw [nP, if_pos (.inl q)]
      omega
  · rw [if_neg g1] at k
    rw [cls4, cls4, cls4] at g1
    by_cases g2 : Ie.isi a = true ∨ Ie.isi b = true
    · rw [if_pos g2] at k
      rw [cls3, cls3] at g2
      by_cases g3 : Ie.isz a = true ∨ Ie.isz b = true
      · rw [if_pos g3] at k
        rw [cls0, cls0] at g3
        rw [k.1]
        refine is_nan ?_ h
        have : nP a b = 1 := by rw [nP, if_pos (by rw [Wild]; omega)]
        rw [d1, e1]
        omega
      · rw [if_neg g3] at k
        rw [cls0, cls0] at g3
        have hw : ¬ Wild (Ie.cls a) (Ie.cls b) := by rw [Wild]; omega
        rw [nP, if_neg hw] at e1
        obtain ⟨ng, hng⟩ : ∃ ng, (Ie.ngd a != Ie.ngd b) = ng := ⟨_, rfl⟩
        rw [uP, hng] at e2
        rw [dP, hng] at e3
        rw [hng] at k
        obtain ⟨xa, xn⟩ := Ie.ab_sb ng 9218868437227405312 (by decide) (by decide)
        have xb : 0 ≤ Ie.sb ng 9218868437227405312 ∧ Ie.sb ng 9218868437227405312 < 18446744073709551616 := by cases ng <;> decide
        have xc : Ie.cls (Ie.sb ng 9218868437227405312) = 3 := cls3.1 (by rw [Ie.isi, xa]; decide)
        have R := inf_and c0 c1 xb.1 xb.2 xc (by omega) e1 (by rw [e2, xn]; cases ng <;> simp [hw, g2]) (by rw [e3, xn]; cases ng <;> simp [hw, g2]) h
        rw [Ie.AddIs, if_neg (by rw [cls4, cls4, xc]; omega)] at k
        rw [R]
        by_cases g4 : Ie.isi (Ie.sb ng 9218868437227405312) = true ∧ Ie.isi c = true ∧ Ie.sb ng 9218868437227405312 ≠ c
        · rw [if_pos g4] at k
          rw [cls3, cls3] at g4
          rw [if_pos g4.2, k.1]
        · rw [if_neg g4, if_pos (cls3.2 xc)] at k
          rw [cls3, cls3] at g4
          rw [if_neg (fun q => g4 ⟨xc, q⟩), k.1]
    · rw [if_neg g2] at k
      rw [cls3, cls3] at g2
      have fa : Ie.fin a := fin_cls (by omega) (by omega)
      have fb : Ie.fin b := fin_cls (by omega) (by omega)
      have M := prod_fin none fa fb
      have n0 : (none.prod a b).n = 0 := M.n
      have u0 : (none.prod a b).u = 0 := M.u
      have d0 : (none.prod a b).d = 0 := M.d
      by_cases gc : Ie.cls c = 3
      · rw [if_pos (cls3.2 gc)] at k
        rw [k.1]
        exact and_inf c0 c1 gc n0 u0 d0 h
      · have fc : Ie.fin c := fin_cls (by omega) (by omega)
        have L := prod_fin (none.prod a b) fc fin_one
        rw [one_ngd, uv_one] at L
        have R := is_fin (by rw [L.n, n0]) (by rw [L.u, u0]) (by rw [L.d, d0]) h
        rw [L.T, M.T, show none.P - none.N = 0 from rfl, Int.zero_add, Int.mul_one] at R
        have K := k'.rs fa fb fc
        have R2 := R.sign (z' := ((Ie.ngd a != Ie.ngd b) && Ie.ngd c)) (fun q => two_zs M L (fun n => uv_prod n) (fun n => by have := Int.mul_le_mul_of_nonneg_right (uv_le n) (Int.le_of_lt (Nm.two_pos 1074)); rw [Int.zero_mul] at this; exact this) q)
        exact R2.one (Nm.two_pos _) (Nm.two_pos _) K rfl

theorem scale_rs {d r : Int} {n : Nat} (hf : Ie.fin d) (h : Ie.ScaleIs d n r) : Ie.RS (Ie.uv d * 2 ^ n) 1 (Ie.ngd d) r := by
  obtain ⟨x, rfl, hR⟩ := h.2.2 hf
  obtain ⟨⟨m0, -⟩, ⟨e0, -⟩, gd, -⟩ := Ie.dec_f d hf
  obtain ⟨c, hc⟩ := Int.eq_ofNat_of_zero_le (show 0 ≤ Ie.de d + 1074 by omega)
  have e := gd c hc.symm
  have b := Ie.rs_of (neg := Ie.ngd d) (S := Ie.sn (Ie.ngd d) (Ie.dm d * 2 ^ (c + n))) (Q := 2 ^ 0) (z := Ie.ngd d) hR m0 (c + n) 0 (by omega) rfl rfl (fun _ => rfl)
  rw [show Ie.dm d * 2 ^ (c + n) = Ie.un (Ie.ab d) * 2 ^ n by rw [Nm.two_add, ← Int.mul_assoc, e], ← Ie.sn_mul_right, ← Ie.uv, Int.pow_zero] at b
  exact b

theorem twice_same {a r r' f : Int} (h : Ie.AddIs a a r f) (k : Ie.ScaleIs a ((1 : Nat) : Int) r') : r = r' := by
  have h' := h
  rw [Ie.AddIs] at h
  rcases Ie.kinds a with q | ⟨q1, q2, -⟩ | ⟨-, -, q⟩
  · rw [if_pos (.inl q)] at h
    rw [h.1, k.1 q]
  · rw [if_neg (by rw [q1]; simp), if_neg (fun w => w.2.2 rfl), if_pos q2] at h
    rw [h.1, k.2.1 q2]
  · have A := h'.rs q q
    rw [Bool.and_self] at A
    have B := scale_rs q k
    refine A.one (by decide) (by decide) B ?_
    rw [show (2 : Int) ^ 1 = 2 by decide]
    omega
end Ga
end Go.Proofs.YtkmadibfiikleaaGreatDoor

namespace Go.Proofs.YtkmadibfiikleaaGreatDoor
open Go.RowKit Go.Deep

namespace Ga
/-- The products of two lists, pair by pair, are added. -/
def St.dots (s : St) : List (Int × Int) → St
  | [] => s
  | p :: r => (s.mul p.1 p.2).dots r
theorem dots_append (s : St) : ∀ (a b : List (Int × Int)), s.dots (a ++ b) = (s.dots a).dots b
  | [], b => rfl
  | p :: r, b => by rw [List.cons_append, St.dots, St.dots, dots_append]
theorem dots_succ (s : St) (xs ys : List Int) (j : Nat) (hx : j < xs.length) (hy : j < ys.length) : s.dots ((xs.zip ys).take (j + 1)) = (s.dots ((xs.zip ys).take j)).mul (xs.getD j 0) (ys.getD j 0) := by
  have hj : j < (xs.zip ys).length := by rw [List.length_zip]; omega
  rw [List.take_add_one, dots_append, List.getElem?_eq_getElem hj]
  simp [St.dots, List.getD, List.getElem?_eq_getElem hx, List.getElem?_eq_getElem hy]
end Ga

theorem Arg.elem' {w : World} {p : Option Addr} {n cap : Nat} {zs : List Int} (h : Arg w p n cap zs) (j : Nat) (hj : j < n) :
    ∃ b off x, p = some ⟨b, off, none⟩ ∧ w.cell? ⟨b, off + j, none⟩ = some (.int .u64 x) ∧ zs.getD j 0 = x ∧ 0 ≤ x ∧ x < 18446744073709551616 := by
  obtain ⟨hn, -, -, hL, hm⟩ := h
  rcases hL with rfl | ⟨b, off, rfl, hc⟩
  · simp at hn; omega
  · have := hm.at j
    exact ⟨b, off, _, rfl, hc j (by omega), rfl, this.1, this.2⟩

set_option maxRecDepth 100000 in
theorem products_any (p q : Option Addr) (n cap cap' : Nat) (xs ys : List Int) (w : World) (ha : Arg w p n cap xs) (hb : Arg w q n cap' ys) :
    Calls Tryz.prog 15 #[.slice p n cap, .slice q n cap'] w fun e w' => e = .returned (.pointer (some ⟨w.heap.size, 0, none⟩)) ∧ AccAt w' w.heap.size (Ga.none.dots (xs.zip ys)) ∧ Below w.heap.size w w' := by
  have nb : n ≤ 140737488355328 := by have := ha.2.1; have := ha.2.2.1; omega
  have NW := hid (new_any w)
  have HA := hid (fun (wx : World) (h : Below w.heap.size w wx) => ha.below h (Nat.le_refl _))
  have HB := hid (fun (wx : World) (h : Below w.heap.size w wx) => hb.below h (Nat.le_refl _))
  have lx := hid ha.1
  have ly := hid hb.1
  obtain ⟨g, hg⟩ : ∃ g, w.heap.size = g := ⟨_, rfl⟩
  rw [hg] at NW
  clear ha hb
  go_enter Tryz.func15, Tryz.ntmps15
  go_wp2_with fail
  refine NW.out.mono ?_
  rintro e w1 ⟨rfl, hA, hB⟩
  have R0 : Hid (AccAt w1 g (Ga.none.dots ((xs.zip ys).take 0)) ∧ Below w.heap.size w w1) := ⟨hA, by rw [hg]; exact hB⟩
  clear hA hB NW
  go_wp2_with fail
  go_loopw [11] (fun i wr => ∃ j : Nat, i = .int .i64 j ∧ j ≤ n ∧ Hid (AccAt wr g (Ga.none.dots ((xs.zip ys).take j)) ∧ Below w.heap.size w wr)) (fun i _ => n - (intOf i).toNat)
  case atStart => exact ⟨0, rfl, Nat.zero_le _, R0⟩
  case round =>
    clear R0
    obtain ⟨j, rfl, hj, R⟩ := hrel
    by_cases hlt : j < n
    · obtain ⟨b, off, x, rfl, hx, X, x0, x1⟩ := (HA.out _ R.out.2).elem' j hlt
      obtain ⟨b', off', y, rfl, hy, Y, y0, y1⟩ := (HB.out _ R.out.2).elem' j hlt
      have AD := addProduct_all g _ _ R.out.1 x y x0 x1 y0 y1
      rw [← X, ← Y, ← Ga.dots_succ Ga.none xs ys j (by rw [lx.out]; exact hlt) (by rw [ly.out]; exact hlt), X, Y] at AD
      have AD := hid AD
      have E : Hid (∀ w7, AccAt w7 g (Ga.none.dots ((xs.zip ys).take (j + 1))) → Only g wr w7 → AccAt w7 g (Ga.none.dots ((xs.zip ys).take (j + 1))) ∧ Below w.heap.size w w7) := fun w7 h7 o7 => ⟨h7, R.out.2.trans (o7.below (by omega) R.out.2.size)⟩
      have hlt' : (j : Int) < (n : Int) := by omega
      clear R X Y
      go_wp2_with fail
      refine AD.out.mono ?_
      rintro e w7 ⟨rfl, h7, o7⟩
      have R1 := hid (E.out w7 h7 o7)
      clear h7 o7 AD E hx hy
      go_wp2_with fail
      go_roundw
      case rel => exact ⟨j + 1, by go_num, by omega, R1⟩
      case measure => simp [intOf]; omega
    · have hjn : j = n := by omega
      subst hjn
      rw [List.take_of_length_le (by rw [List.length_zip, lx.out, ly.out]; omega)] at R
      have R2 : Hid (AccAt wr g (Ga.none.dots (xs.zip ys)) ∧ Below g w wr) := ⟨R.out.1, by rw [← hg]; exact R.out.2⟩
      clear R
      go_wp2_with fail
      go_ret
      rw [hg]
      exact ⟨rfl, R2.out⟩

set_option maxRecDepth 100000 in
theorem dot_any (p q : Option Addr) (n cap cap' : Nat) (xs ys : List Int) (w : World) (ha : Arg w p n cap xs) (hb : Arg w q n cap' ys) (hT : Tab w) :
    Calls Tryz.prog 8 #[.slice p n cap, .slice q n cap'] w fun e w' => ∃ r, e = .returned (.tuple #[.int .u64 r, .int .i64 0]) ∧ Hid ((Ga.none.dots (xs.zip ys)).Is 1 r) ∧ Below w.heap.size w w' := by
  have GA := hid (products_any p q n cap cap' xs ys w ha hb)
  have HT := hid hT
  clear ha hb hT
  go_enter Tryz.func8, Tryz.ntmps8
  go_wp2_with fail
  refine GA.out.mono ?_
  rintro e w1 ⟨rfl, hA, hB⟩
  have V := hid (value_any _ _ w1 hA (HT.out.below hB))
  have HB := hid hB
  clear hA hB
  go_wp2_with fail
  refine V.out.mono ?_
  rintro e w2 ⟨r, rfl, E, hB⟩
  have HB2 := hid (HB.out.trans (hB.mono HB.out.size))
  clear hB
  go_wp2_with fail
  go_ret2
  exact ⟨r, rfl, E, HB2.out⟩
end Go.Proofs.YtkmadibfiikleaaGreatDoor

/-
  soft: Mul.
-/
namespace Go.Proofs.YtkmadibfiikleaaGreatDoor
open Go Go.RowKit Go.Deep

set_option maxRecDepth 100000 in
set_option maxHeartbeats 4000000 in
theorem softMul_any (a b : Int) (w : World) (a0 : 0 ≤ a) (a1 : a < 18446744073709551616) (b0 : 0 ≤ b) (b1 : b < 18446744073709551616) (hT : Tab w) :
    Calls Tryz.prog 9 #[.int .u64 a, .int .u64 b] w fun e w' => Told1 (Ie.MulIs a b) w e w' := by
  have AD := hid (mul_any a b w a0 a1 b0 b1 hT)
  clear hT
  go_enter Tryz.func9, Tryz.ntmps9
  go_wp2_with fail
  refine AD.out.mono ?_
  rintro e w1 ⟨r, f, rfl, h, hB⟩
  have KK : Hid (Told1 (Ie.MulIs a b) w (.returned (.int .u64 r)) w1) := ⟨r, f, rfl, h, hB⟩
  clear h hB AD
  go_wp2_with fail
  go_ret
  exact KK.out

end Go.Proofs.YtkmadibfiikleaaGreatDoor

/-
  ieee: Neg.
-/
namespace Go.Proofs.YtkmadibfiikleaaGreatDoor
open Go Go.RowKit Go.Deep

set_option maxRecDepth 100000 in
theorem neg_any (d : Int) (w : World) (h0 : 0 ≤ d) (h1 : d < 18446744073709551616) :
    Calls Tryz.prog 7 #[.int .u64 d] w fun e w' => e = .returned (.int .u64 (Ie.ng d)) ∧ w' = w := by
  have B : bits .xor .u64 d 9223372036854775808 = Ie.ng d := Ib.sign_xor d h0 h1
  go_enter Tryz.func7, Tryz.ntmps7
  go_wp2
  go_ret
  exact ⟨rfl, rfl⟩
end Go.Proofs.YtkmadibfiikleaaGreatDoor

/-
  soft: sub, Add, Sub.
-/
namespace Go.Proofs.YtkmadibfiikleaaGreatDoor
open Go Go.RowKit Go.Deep

set_option maxRecDepth 100000 in
set_option maxHeartbeats 4000000 in
theorem sub_any (a b : Int) (w : World) (a0 : 0 ≤ a) (a1 : a < 18446744073709551616) (b0 : 0 ≤ b) (b1 : b < 18446744073709551616) (hT : Tab w) :
    Calls Tryz.prog 14 #[.int .u64 a, .int .u64 b] w fun e w' => Told2 (Ie.AddIs a (Ie.ng b)) w e w' := by
  have N1 := hid (neg_any b w b0 b1)
  have nb : 0 ≤ Ie.ng b ∧ Ie.ng b < 18446744073709551616 := by simp only [Ie.ng]; split <;> omega
  have AD := hid (add_any a (Ie.ng b) w a0 a1 nb.1 nb.2 hT)
  clear hT nb
  go_enter Tryz.func14, Tryz.ntmps14
  go_wp2_with fail
  refine N1.out.mono ?_
  rintro e wz ⟨rfl, rfl⟩
  go_wp2_with fail
  refine AD.out.mono ?_
  rintro e w1 ⟨r, f, rfl, h, hB⟩
  have KK : Hid (Told2 (Ie.AddIs a (Ie.ng b)) wz (.returned (.tuple #[.int .u64 r, .int .i64 f])) w1) := ⟨r, f, rfl, h, hB⟩
  clear h hB AD N1
  go_wp2_with fail
  go_ret2
  exact KK.out


set_option maxRecDepth 100000 in
set_option maxHeartbeats 4000000 in
theorem softAdd_any (a b : Int) (w : World) (a0 : 0 ≤ a) (a1 : a < 18446744073709551616) (b0 : 0 ≤ b) (b1 : b < 18446744073709551616) (hT : Tab w) :
    Calls Tryz.prog 5 #[.int .u64 a, .int .u64 b] w fun e w' => Told1 (Ie.AddIs a b) w e w' := by
  have AD := hid (add_any a b w a0 a1 b0 b1 hT)
  clear hT
  go_enter Tryz.func5, Tryz.ntmps5
  go_wp2_with fail
  refine AD.out.mono ?_
  rintro e w1 ⟨r, f, rfl, h, hB⟩
  have KK : Hid (Told1 (Ie.AddIs a b) w (.returned (.int .u64 r)) w1) := ⟨r, f, rfl, h, hB⟩
  clear h hB AD
  go_wp2_with fail
  go_ret
  exact KK.out

set_option maxRecDepth 100000 in
set_option maxHeartbeats 4000000 in
theorem softSub_any (a b : Int) (w : World) (a0 : 0 ≤ a) (a1 : a < 18446744073709551616) (b0 : 0 ≤ b) (b1 : b < 18446744073709551616) (hT : Tab w) :
    Calls Tryz.prog 6 #[.int .u64 a, .int .u64 b] w fun e w' => Told1 (Ie.AddIs a (Ie.ng b)) w e w' := by
  have AD := hid (sub_any a b w a0 a1 b0 b1 hT)
  clear hT
  go_enter Tryz.func6, Tryz.ntmps6
  go_wp2_with fail
  refine AD.out.mono ?_
  rintro e w1 ⟨r, f, rfl, h, hB⟩
  have KK : Hid (Told1 (Ie.AddIs a (Ie.ng b)) w (.returned (.int .u64 r)) w1) := ⟨r, f, rfl, h, hB⟩
  clear h hB AD
  go_wp2_with fail
  go_ret
  exact KK.out

end Go.Proofs.YtkmadibfiikleaaGreatDoor

namespace Go.Proofs.YtkmadibfiikleaaGreatDoor
open Go.RowKit Go.Deep

theorem targ2 (w : World) (a b : Int) (a0 : 0 ≤ a) (a1 : a < 18446744073709551616) (b0 : 0 ≤ b) (b1 : b < 18446744073709551616) :
    Arg (w.alloc (.cells #[.int .u64 a, .int .u64 b] 22)) (some ⟨w.heap.size, 0, none⟩) 2 2 [a, b] ∧ Below w.heap.size w (w.alloc (.cells #[.int .u64 a, .int .u64 b] 22)) :=
  ⟨⟨rfl, Nat.le_refl _, by decide, (Own.alloc w [a, b]).lies, Nm.Limbs.mk a0 a1 (Nm.Limbs.mk b0 b1 Nm.Limbs.nil)⟩, (Below.refl _ _).alloc (Nat.le_refl _) _⟩

theorem targ1 (w : World) (a : Int) (a0 : 0 ≤ a) (a1 : a < 18446744073709551616) :
    Arg (w.alloc (.cells #[.int .u64 a] 22)) (some ⟨w.heap.size, 0, none⟩) 1 1 [a] ∧ Below w.heap.size w (w.alloc (.cells #[.int .u64 a] 22)) :=
  ⟨⟨rfl, Nat.le_refl _, by decide, (Own.alloc w [a]).lies, Nm.Limbs.mk a0 a1 Nm.Limbs.nil⟩, (Below.refl _ _).alloc (Nat.le_refl _) _⟩

theorem Ga.ones {r : Int} (h : (Ga.none.adds [4607182418800017408, 4607182418800017408]).Is 1 r) : r = 4611686018427387904 := by
  have h' : ((Ga.none.add 4607182418800017408).add 4607182418800017408).Is 1 r := h
  have M := Ga.add_fin Ga.none Ga.fin_one (by decide)
  have L := Ga.add_fin (Ga.none.add 4607182418800017408) Ga.fin_one (by rw [M.c]; decide)
  rw [Ga.St.Is, if_neg (by rw [L.odd, M.odd]; exact Ga.not_odd_none), L.T, M.T, Int.mul_one, Ga.uv_one, show Ga.none.P - Ga.none.N = 0 from rfl, Int.zero_add] at h'
  refine Ie.RS.lit (Nm.two_pos 1074) h' 4611686018427387904 (by decide) (by decide) ?_
  rw [Ie.un_2, show (4503599627370496 : Int) = 2 ^ 52 by decide, show (2 : Int) ^ 52 * 2 ^ 1023 = 2 * 2 ^ 1074 by rw [← Nm.two_add, show 52 + 1023 = 1074 + 1 by rfl, Nm.two_succ], Int.mul_assoc]
  omega

theorem Ga.dots2 (a b c : Int) : Ga.none.dots ([a, c].zip [b, 4607182418800017408]) = (Ga.none.prod a b).prod c 4607182418800017408 := by
  show ((Ga.none.mul a b).mul c 4607182418800017408) = _
  rw [show Ga.none.mul a b = Ga.none.prod a b by rw [Ga.St.mul, if_pos (by decide)], Ga.St.mul, if_pos (by rw [Ga.prod_c2]; decide)]

set_option maxRecDepth 100000 in
set_option maxHeartbeats 4000000 in
theorem sums_law (a b c : Int) (w : World) (a0 : 0 ≤ a) (a1 : a < 18446744073709551616) (b0 : 0 ≤ b) (b1 : b < 18446744073709551616) (c0 : 0 ≤ c) (c1 : c < 18446744073709551616) (hT : Tab w) :
    Calls Tryz.prog 3 #[.int .u64 a, .int .u64 b, .int .u64 c] w fun e w' => e = .returned (.bool true) ∧ Below w.heap.size w w' := by
  have nb : 0 ≤ Ie.ng b ∧ Ie.ng b < 18446744073709551616 := by simp only [Ie.ng]; split <;> omega
  obtain ⟨nb0, nb1⟩ := nb
  have TT := hid (fun (wx : World) (h : Below w.heap.size w wx) => hT.below h)
  have TR : Hid (∀ wx w' : World, Below w.heap.size w wx → Below wx.heap.size wx w' → Below w.heap.size w w') := fun wx w' x y => x.trans (y.mono x.size)
  have SO := hid (fun (wx : World) (x y : Int) (x0 : 0 ≤ x) (x1 : x < 18446744073709551616) (y0 : 0 ≤ y) (y1 : y < 18446744073709551616) (h : Below w.heap.size w wx) =>
    (gsumOf_any (some ⟨wx.heap.size, 0, none⟩) 2 2 [x, y] (wx.alloc (.cells #[.int .u64 x, .int .u64 y] 22)) (targ2 wx x y x0 x1 y0 y1).1 (by decide) ((hT.below h).below (targ2 wx x y x0 x1 y0 y1).2)).mono (R' := fun e w' => ∃ r, e = .returned (.int .u64 r) ∧ Hid ((Ga.none.adds [x, y]).Is 1 r) ∧ Below w.heap.size w w') (fun e w' hh => by
      obtain ⟨r, he, hE, hB⟩ := hh
      have b2 := (targ2 wx x y x0 x1 y0 y1).2
      exact ⟨r, he, hE, TR.out _ _ (TR.out _ _ h b2) hB⟩))
  have AD := hid (fun (wx : World) (x y : Int) (x0 : 0 ≤ x) (x1 : x < 18446744073709551616) (y0 : 0 ≤ y) (y1 : y < 18446744073709551616) (h : Below w.heap.size w wx) => softAdd_any x y wx x0 x1 y0 y1 (hT.below h))
  have SU := hid (fun (wx : World) (h : Below w.heap.size w wx) => softSub_any a b wx a0 a1 b0 b1 (hT.below h))
  have NE := hid (fun (wx : World) => neg_any b wx b0 b1)
  have MU := hid (fun (wx : World) (h : Below w.heap.size w wx) => softMul_any a b wx a0 a1 b0 b1 (hT.below h))
  have FM := hid (fun (wx : World) (h : Below w.heap.size w wx) => softFma_any a b c wx a0 a1 b0 b1 c0 c1 (hT.below h))
  have SC := hid (fun (wx : World) (h : Below w.heap.size w wx) => scale_any a 1 wx (hT.below h) a0 a1)
  have B0 : Hid (Below w.heap.size w w) := Below.refl _ _
  have S1 := hid (SO.out w 4607182418800017408 4607182418800017408 (by decide) (by decide) (by decide) (by decide) B0.out)
  clear hT
  go_enter Tryz.func3, Tryz.ntmps3
  go_wp2_with fail
  refine S1.out.mono ?_
  rintro e w1 ⟨r, rfl, E, hB⟩
  have er := Ga.ones E.out
  subst er
  have B1 := hid hB
  have A1 := hid (AD.out w1 a b a0 a1 b0 b1 hB)
  clear hB E S1 B0
  go_wp2_with fail
  refine A1.out.mono ?_
  rintro e w2 ⟨r2, f2, rfl, k2, hB⟩
  have B2 := hid (TR.out _ _ B1.out hB)
  have K2 := hid k2
  have S2 := hid (SO.out w2 a b a0 a1 b0 b1 B2.out)
  clear hB k2 A1 B1
  go_wp2_with fail
  refine S2.out.mono ?_
  rintro e w3 ⟨r3, rfl, E3, hB⟩
  have er := Ga.add_same a0 a1 b0 b1 E3.out K2.out
  replace er := er.symm
  subst er
  have B3 := hid hB
  have U3 := hid (SU.out w3 hB)
  clear hB E3 K2 S2 B2
  go_wp2_with fail
  refine U3.out.mono ?_
  rintro e w4 ⟨r4, f4, rfl, k4, hB⟩
  have B4 := hid (TR.out _ _ B3.out hB)
  have K4 := hid k4
  have S4 := hid (SO.out w4 a (Ie.ng b) a0 a1 nb0 nb1 B4.out)
  clear hB k4 U3 B3
  go_wp2_with fail
  refine (NE.out _).mono ?_
  rintro e wz ⟨rfl, hz⟩
  replace hz := hz.symm
  subst hz
  go_wp2_with fail
  refine S4.out.mono ?_
  rintro e w5 ⟨r5, rfl, E5, hB⟩
  have er := Ga.add_same a0 a1 nb0 nb1 E5.out K4.out
  replace er := er.symm
  subst er
  have B5 := hid hB
  obtain ⟨x1', y1'⟩ := targ1 w5 a a0 a1
  obtain ⟨x2', y2'⟩ := targ1 (w5.alloc (.cells #[.int .u64 a] 22)) b b0 b1
  have s6 : (w5.alloc (.cells #[.int .u64 a] 22)).heap.size = w5.heap.size + 1 := by simp
  have b6 := TR.out _ _ (TR.out _ _ hB y1') y2'
  have D6 := dot_any _ _ 1 1 1 [a] [b] _ (x1'.below y2' (Nat.le_refl _)) x2' (TT.out _ b6)
  rw [s6] at D6
  have D6 := hid D6
  have B6 := hid b6
  clear hB E5 K4 S4 B4 x1' y1' x2' y2' b6 s6
  go_wp2_with fail
  refine D6.out.mono ?_
  rintro e w6 ⟨r6, rfl, E6, hB⟩
  have B7 := hid (TR.out _ _ B6.out hB)
  have M7 := hid (MU.out w6 B7.out)
  clear hB D6 B6 B5
  go_wp2_with fail
  refine M7.out.mono ?_
  rintro e w7 ⟨r7, f7, rfl, k7, hB⟩
  have er := Ga.mul_same (r := r6) (by have := E6.out; rw [show Ga.none.dots ([a].zip [b]) = Ga.none.mul a b from rfl, Ga.St.mul, if_pos (by decide)] at this; exact this) k7
  replace er := er.symm
  subst er
  have B8 := hid (TR.out _ _ B7.out hB)
  obtain ⟨x1', y1'⟩ := targ2 w7 a c a0 a1 c0 c1
  obtain ⟨x2', y2'⟩ := targ2 (w7.alloc (.cells #[.int .u64 a, .int .u64 c] 22)) b 4607182418800017408 b0 b1 (by decide) (by decide)
  have s8 : (w7.alloc (.cells #[.int .u64 a, .int .u64 c] 22)).heap.size = w7.heap.size + 1 := by simp
  have b9 := TR.out _ _ (TR.out _ _ B8.out y1') y2'
  have D9 := dot_any _ _ 2 2 2 [a, c] [b, 4607182418800017408] _ (x1'.below y2' (Nat.le_refl _)) x2' (TT.out _ b9)
  rw [s8] at D9
  have D9 := hid D9
  have B9 := hid b9
  clear hB k7 E6 M7 B7 x1' y1' x2' y2' b9 s8
  go_wp2_with fail
  refine D9.out.mono ?_
  rintro e w9 ⟨r9, rfl, E9, hB⟩
  have B10 := hid (TR.out _ _ B9.out hB)
  have F10 := hid (FM.out w9 B10.out)
  clear hB D9 B9 B8
  go_wp2_with fail
  refine F10.out.mono ?_
  rintro e w10 ⟨r10, f10, rfl, k10, hB⟩
  have er := Ga.fma_same (r := r9) c0 c1 (by have := E9.out; rw [Ga.dots2] at this; exact this) k10
  replace er := er.symm
  subst er
  have B11 := hid (TR.out _ _ B10.out hB)
  have A11 := hid (AD.out w10 a a a0 a1 a0 a1 B11.out)
  clear hB k10 E9 F10 B10
  go_wp2_with fail
  refine A11.out.mono ?_
  rintro e w11 ⟨r11, f11, rfl, k11, hB⟩
  have K11 := hid k11
  have B12 := hid (TR.out _ _ B11.out hB)
  have C12 := hid (SC.out w11 B12.out)
  clear hB k11 A11 B11
  go_wp2_with fail
  refine C12.out.mono ?_
  rintro e w12 ⟨r12, rfl, k12, hB⟩
  have er := Ga.twice_same K11.out k12
  subst er
  have B13 := hid (TR.out _ _ B12.out hB)
  clear hB k12 K11 C12 B12
  go_wp2_with fail
  go_ret
  exact ⟨rfl, B13.out⟩
end Go.Proofs.YtkmadibfiikleaaGreatDoor
