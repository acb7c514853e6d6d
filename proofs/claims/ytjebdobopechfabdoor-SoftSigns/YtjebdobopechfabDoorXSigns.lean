import Derived.Test.YtjebdobopechfabDoorXOps
/-
  Order of operands, signs, One, the zeros' signs: what soft's answers leave.
-/
namespace Go.Proofs.YtjebdobopechfabDoor
namespace Ie

theorem kind (d : Int) : isn d = true ∨ (isn d = false ∧ isi d = true) ∨ (isn d = false ∧ isi d = false ∧ fin d) := by
  cases h : isn d
  · cases k : isi d
    · exact .inr (.inr ⟨rfl, rfl, fin_of h k⟩)
    · exact .inr (.inl ⟨rfl, rfl⟩)
  · exact .inl rfl

theorem isi_sb {d : Int} (h0 : 0 ≤ d) (h1 : d < 18446744073709551616) (h : isi d = true) : d = sb (ngd d) 9218868437227405312 := by
  have e := sb_ab d h0 h1
  rw [isi, decide_eq_true_eq] at h
  rw [h] at e
  exact e

theorem ng_is (d : Int) (h0 : 0 ≤ d) (h1 : d < 18446744073709551616) : isn (ng d) = isn d ∧ isi (ng d) = isi d ∧ isz (ng d) = isz d ∧ ngd (ng d) = !ngd d ∧ (fin d → fin (ng d)) := by
  obtain ⟨-, g2, g3, -⟩ := ng_uv d h0 h1
  exact ⟨by rw [isn, isn, g2], by rw [isi, isi, g2], by rw [isz, isz, g2], g3, fun h => by rw [fin, g2]; exact h⟩

theorem ng_sb' (n : Bool) (x : Int) (h0 : 0 ≤ x) (h1 : x ≤ 9218868437227405312) : ng (sb n x) = sb (!n) x := by
  cases n <;> simp only [ng, sb, Bool.false_eq_true, if_true, if_false, Bool.not_true, Bool.not_false] <;> split <;> omega

theorem ng_inj {a b : Int} (a0 : 0 ≤ a) (a1 : a < 18446744073709551616) (b0 : 0 ≤ b) (b1 : b < 18446744073709551616) : ng a = ng b ↔ a = b := by
  simp only [ng]; split <;> split <;> omega

theorem RS.anyz {S Q : Int} {z : Bool} {r : Int} (h : RS S Q z r) (h0 : S ≠ 0) (z' : Bool) : RS S Q z' r := by
  obtain ⟨n, V, x, h1, h2, h3, h4, _⟩ := h
  exact ⟨n, V, x, h1, h2, h3, h4, fun h => absurd h h0⟩

theorem RS.zero {Q : Int} {z : Bool} {r : Int} (hQ : 0 < Q) (h : RS 0 Q z r) : ab r = 0 := by
  obtain ⟨n, y, hr⟩ : ∃ (n : Bool) (y : Int), r = sb n 0 ∧ y = (0 : Int) := by
    obtain ⟨neg, hr, _, _⟩ := h.exact hQ 0 (by omega) (by omega) (by rw [un_zero, Int.zero_mul]; decide)
    exact ⟨neg, 0, hr, rfl⟩
  rw [hr.1, (ab_sb n 0 (by omega) (by omega)).1]

theorem RS.neg {S Q : Int} {z : Bool} {r : Int} (h : RS S Q z r) : RS (-S) Q (!z) (ng r) := by
  obtain ⟨n, V, x, h1, h2, h3, h4, h5⟩ := h
  refine ⟨!n, V, x, ?_, by rw [h2, sn_not], h3, h4, fun h => by rw [h5 (by omega)]⟩
  rw [h1, ng_sb' n x h4.1.1 h4.1.2]

theorem RS.self {a Q : Int} {z : Bool} {r : Int} (a0 : 0 ≤ a) (a1 : a < 18446744073709551616) (fa : fin a) (hQ : 0 < Q) (hz : z = ngd a) (h : RS (sn (ngd a) (un (ab a) * Q)) Q z r) : r = a := by
  have u0 := un_nn (ab_bd a).1
  have p0 := Int.mul_nonneg u0 (show 0 ≤ Q by omega)
  obtain ⟨neg, hr, hS, h0⟩ := h.exact hQ (ab a) (ab_bd a).1 fa (az_sn _ _ p0)
  have hn : neg = ngd a := by
    rcases (show un (ab a) * Q = 0 ∨ 0 < un (ab a) * Q by omega) with g | g
    · rw [h0 (by rw [g, sn_zero]), hz]
    · revert hS
      cases neg <;> cases ngd a <;> simp only [sn, Bool.false_eq_true, if_true, if_false] <;> intro h <;> first | rfl | omega
  rw [hr, hn]
  exact (sb_ab a a0 a1).symm

theorem un_one : un 4607182418800017408 = 2 ^ 1074 := by
  rw [un_1, show 1074 = 52 + 1022 by rfl, Nm.two_add]; rfl

theorem uv_one : uv 4607182418800017408 = 2 ^ 1074 := by rw [uv_pos (by omega) (by omega), un_one]
theorem uv_nz : uv 9223372036854775808 = 0 := by
  have h := uv_neg (x := 0) (by omega) (by omega)
  rw [un_zero] at h
  exact h

theorem lits : isn 4607182418800017408 = false ∧ isi 4607182418800017408 = false ∧ isz 4607182418800017408 = false ∧ ngd 4607182418800017408 = false ∧ ab 4607182418800017408 = 4607182418800017408 ∧ isn 9223372036854775808 = false ∧ isi 9223372036854775808 = false ∧ ngd 9223372036854775808 = true := by decide
theorem fin_1 : fin 4607182418800017408 := by rw [fin]; decide
theorem fin_nz : fin 9223372036854775808 := by rw [fin]; decide

theorem AddIs.one {a b r r' f f' : Int} (h : AddIs a b r f) (k : AddIs a b r' f') : r' = r := by
  rcases kind a with ha | ⟨ha, ia⟩ | ⟨ha, ia, fa⟩ <;> rcases kind b with hb | ⟨hb, ib⟩ | ⟨hb, ib, fb⟩
  case inr.inr.inr.inr => exact (k.rs fa fb).one (by omega) (by omega) (h.rs fa fb) rfl
  case inr.inl.inr.inl =>
    rw [AddIs, ha, hb, ia, ib] at h k
    by_cases e : a = b
    · simp only [e, Bool.false_eq_true, or_self, if_false, ne_eq, not_true_eq_false, and_false, if_true] at h k; omega
    · simp only [e, Bool.false_eq_true, or_self, if_false, ne_eq, not_false_eq_true, and_self, if_true] at h k; omega
  all_goals
    rw [AddIs] at h k
    simp_all
    try omega

theorem AddIs.comm {a b r r' f f' : Int} (h : AddIs a b r f) (k : AddIs b a r' f') : r' = r := by
  rcases kind a with ha | ⟨ha, ia⟩ | ⟨ha, ia, fa⟩ <;> rcases kind b with hb | ⟨hb, ib⟩ | ⟨hb, ib, fb⟩
  case inr.inr.inr.inr =>
    have h1 := h.rs fa fb
    have h2 := k.rs fb fa
    rw [Int.add_comm, Bool.and_comm] at h2
    exact h2.one (by omega) (by omega) h1 rfl
  case inr.inl.inr.inl =>
    rw [AddIs, ha, hb, ia, ib] at h
    rw [AddIs, ha, hb, ia, ib] at k
    by_cases e : a = b
    · subst e
      simp only [Bool.false_eq_true, or_self, if_false, ne_eq, not_true_eq_false, and_false, if_true] at h k; omega
    · have e' : ¬ b = a := fun h => e h.symm
      simp only [e, e', Bool.false_eq_true, or_self, if_false, ne_eq, not_false_eq_true, and_self, if_true] at h k; omega
  all_goals
    rw [AddIs] at h k
    simp_all
    try omega

theorem MulIs.comm {a b r r' f f' : Int} (h : MulIs a b r f) (k : MulIs b a r' f') : r' = r := by
  have x : (ngd b != ngd a) = (ngd a != ngd b) := by cases ngd a <;> cases ngd b <;> rfl
  rcases kind a with ha | ⟨ha, ia⟩ | ⟨ha, ia, fa⟩ <;> rcases kind b with hb | ⟨hb, ib⟩ | ⟨hb, ib, fb⟩
  case inr.inr.inr.inr =>
    have h1 := h.rs fa fb
    have h2 := k.rs fb fa
    rw [Int.mul_comm, x] at h2
    exact h2.one (Nm.two_pos _) (Nm.two_pos _) h1 rfl
  all_goals
    rw [MulIs] at h k
    simp_all
    try (cases za : isz a <;> cases zb : isz b <;> simp_all <;> omega)

theorem FmaIs.comm {a b c r r' f f' : Int} (h : FmaIs a b c r f) (k : FmaIs b a c r' f') : r' = r := by
  have x : (ngd b != ngd a) = (ngd a != ngd b) := by cases ngd a <;> cases ngd b <;> rfl
  rcases kind a with ha | ⟨ha, ia⟩ | ⟨ha, ia, fa⟩ <;> rcases kind b with hb | ⟨hb, ib⟩ | ⟨hb, ib, fb⟩ <;> rcases kind c with hc | ⟨hc, ic⟩ | ⟨hc, ic, fc⟩
  case inr.inr.inr.inr.inr.inr =>
    have h1 := h.rs fa fb fc
    have h2 := k.rs fb fa fc
    rw [Int.mul_comm (uv b), x] at h2
    exact h2.one (Nm.two_pos _) (Nm.two_pos _) h1 rfl
  all_goals
    rw [FmaIs] at h k
    simp_all
    try (cases za : isz a <;> cases zb : isz b <;> simp_all <;> first | omega | exact AddIs.one h k)

theorem fma_one {a b r s f g : Int} (a0 : 0 ≤ a) (a1 : a < 18446744073709551616) (h : FmaIs a 4607182418800017408 b r f) (k : AddIs a b s g) : r = s := by
  obtain ⟨l1, l2, l3, l4, -⟩ := lits
  have x : (ngd a != false) = ngd a := by cases ngd a <;> rfl
  rcases kind a with ha | ⟨ha, ia⟩ | ⟨ha, ia, fa⟩ <;> rcases kind b with hb | ⟨hb, ib⟩ | ⟨hb, ib, fb⟩
  case inr.inr.inr.inr =>
    have h1 := h.rs fa fin_1 fb
    have h2 := k.rs fa fb
    rw [uv_one, l4, x, ← Int.add_mul] at h1
    exact h1.one (Nm.two_pos _) (by omega) h2 (by rw [Int.mul_one])
  case inr.inl.inr.inl =>
    have z := not_iz ia
    have e := isi_sb a0 a1 ia
    rw [FmaIs, ha, hb, l1, ia, z, l3, l4, x, ← e] at h
    simp only [Bool.false_eq_true, or_self, if_false, true_or, if_true] at h
    exact k.one h
  case inr.inl.inr.inr =>
    have z := not_iz ia
    have e := isi_sb a0 a1 ia
    rw [FmaIs, ha, hb, l1, ia, z, l3, l4, x, ← e] at h
    simp only [Bool.false_eq_true, or_self, if_false, true_or, if_true] at h
    exact k.one h
  all_goals
    rw [FmaIs] at h
    rw [AddIs] at k
    simp_all
    try omega

theorem fma_nz {a b r p f g : Int} (h : FmaIs a b 9223372036854775808 r f) (k : MulIs a b p g) : r = p := by
  obtain ⟨-, -, -, -, -, l1, l2, l3⟩ := lits
  have x : ((ngd a != ngd b) && true) = (ngd a != ngd b) := by cases ngd a <;> cases ngd b <;> rfl
  by_cases hn : isn a = true ∨ isn b = true
  · rw [FmaIs, if_pos (by rcases hn with h | h <;> simp [h])] at h
    rw [MulIs, if_pos hn] at k
    omega
  have hn2 : ¬ (isn a = true ∨ isn b = true ∨ isn 9223372036854775808 = true) := by
    rw [l1]; simpa using hn
  by_cases hi : isi a = true ∨ isi b = true
  · rw [FmaIs, if_neg hn2, if_pos hi] at h
    rw [MulIs, if_neg hn] at k
    by_cases hz : isz a = true ∨ isz b = true
    · have cond : (isi a = true ∧ isz b = true) ∨ (isz a = true ∧ isi b = true) := by
        rcases hi with hi | hi <;> rcases hz with hz | hz
        · rw [not_iz hi] at hz; cases hz
        · exact .inl ⟨hi, hz⟩
        · exact .inr ⟨hz, hi⟩
        · rw [not_iz hi] at hz; cases hz
      rw [if_pos hz] at h
      rw [if_pos cond] at k
      omega
    · have cond : ¬ ((isi a = true ∧ isz b = true) ∨ (isz a = true ∧ isi b = true)) := by
        rintro (⟨_, g⟩ | ⟨g, _⟩)
        · exact hz (.inr g)
        · exact hz (.inl g)
      rw [if_neg hz] at h
      rw [if_neg cond, if_pos hi] at k
      have e : isn (sb (ngd a != ngd b) 9218868437227405312) = false ∧ isi (sb (ngd a != ngd b) 9218868437227405312) = true := by
        obtain ⟨g, -⟩ := ab_sb (ngd a != ngd b) 9218868437227405312 (by omega) (by omega)
        rw [isn, isi, g]; decide
      rw [AddIs, e.1, e.2, l1, l2] at h
      simp only [Bool.false_eq_true, or_self, if_false, false_and, and_false, if_true] at h
      omega
  · have ka := kind a
    have kb := kind b
    have fa : fin a := by
      rcases ka with g | ⟨_, g⟩ | ⟨_, _, g⟩
      · exact absurd (.inl g) hn
      · exact absurd (.inl g) hi
      · exact g
    have fb : fin b := by
      rcases kb with g | ⟨_, g⟩ | ⟨_, _, g⟩
      · exact absurd (.inr g) hn
      · exact absurd (.inr g) hi
      · exact g
    have h1 := h.rs fa fb fin_nz
    rw [uv_nz, l3, x, Int.zero_mul, Int.add_zero] at h1
    exact h1.one (Nm.two_pos _) (Nm.two_pos _) (k.rs fa fb) rfl

theorem AddIs.ngs {a b s r f g : Int} (a0 : 0 ≤ a) (a1 : a < 18446744073709551616) (b0 : 0 ≤ b) (b1 : b < 18446744073709551616) (h : AddIs a b s f) (k : AddIs (ng a) (ng b) r g) (hs : ab s ≠ 0) (hm : ab s ≤ 9218868437227405312) : r = ng s := by
  obtain ⟨na1, na2, -, -, na5⟩ := ng_is a a0 a1
  obtain ⟨nb1, nb2, -, -, nb5⟩ := ng_is b b0 b1
  have inj := ng_inj a0 a1 b0 b1
  have nan : ab 9221120237041090560 = 9221120237041090560 := by decide
  rcases kind a with ha | ⟨ha, ia⟩ | ⟨ha, ia, fa⟩ <;> rcases kind b with hb | ⟨hb, ib⟩ | ⟨hb, ib, fb⟩
  case inr.inr.inr.inr =>
    have h1 := h.rs fa fb
    have h2 := k.rs (na5 fa) (nb5 fb)
    have e : uv (ng a) + uv (ng b) = -(uv a + uv b) := by rw [(ng_uv a a0 a1).1, (ng_uv b b0 b1).1]; omega
    rw [e] at h2
    have s0 : uv a + uv b ≠ 0 := by
      intro h0
      rw [h0] at h1
      exact hs (h1.zero (by omega))
    exact (h2.anyz (by omega) (!(ngd a && ngd b))).one (by omega) (by omega) h1.neg rfl
  case inr.inl.inr.inl =>
    rw [AddIs, ha, hb, ia, ib] at h
    rw [AddIs, na1, nb1, na2, nb2, ha, hb, ia, ib] at k
    by_cases e : a = b
    · subst e
      simp only [Bool.false_eq_true, or_self, if_false, ne_eq, not_true_eq_false, and_false, if_true] at h k
      rw [h.1, k.1]
    · simp only [e, Bool.false_eq_true, or_self, if_false, ne_eq, not_false_eq_true, and_self, if_true] at h
      rw [h.1, nan] at hm
      omega
  all_goals
    rw [AddIs] at h k
    simp_all

theorem MulIs.ng_of {a b a' b' p r f g : Int} (hc : (isn a' = isn a ∧ isi a' = isi a ∧ isz a' = isz a) ∧ (isn b' = isn b ∧ isi b' = isi b ∧ isz b' = isz b)) (hs : (ngd a' != ngd b') = !(ngd a != ngd b)) (hu : uv a' * uv b' = -(uv a * uv b)) (hf : (fin a → fin a') ∧ (fin b → fin b')) (h : MulIs a b p f) (k : MulIs a' b' r g) (hp : p ≠ 9221120237041090560) : r = ng p := by
  obtain ⟨⟨a1, a2, a3⟩, b1, b2, b3⟩ := hc
  by_cases hn : isn a = true ∨ isn b = true
  · rw [MulIs, if_pos hn] at h; exact absurd h.1 hp
  by_cases hz : (isi a = true ∧ isz b = true) ∨ (isz a = true ∧ isi b = true)
  · rw [MulIs, if_neg hn, if_pos hz] at h; exact absurd h.1 hp
  by_cases hi : isi a = true ∨ isi b = true
  · rw [MulIs, if_neg hn, if_neg hz, if_pos hi] at h
    rw [MulIs, a1, a2, a3, b1, b2, b3, if_neg hn, if_neg hz, if_pos hi, hs] at k
    rw [h.1, k.1, ng_sb' _ _ (by omega) (by omega)]
  · have fa : fin a := by
      rcases kind a with g | ⟨_, g⟩ | ⟨_, _, g⟩
      · exact absurd (.inl g) hn
      · exact absurd (.inl g) hi
      · exact g
    have fb : fin b := by
      rcases kind b with g | ⟨_, g⟩ | ⟨_, _, g⟩
      · exact absurd (.inr g) hn
      · exact absurd (.inr g) hi
      · exact g
    have h2 := k.rs (hf.1 fa) (hf.2 fb)
    rw [hu, hs] at h2
    exact h2.one (Nm.two_pos _) (Nm.two_pos _) (h.rs fa fb).neg rfl

theorem DivIs.ng_of {a b a' b' p r f g : Int} (hc : (isn a' = isn a ∧ isi a' = isi a ∧ isz a' = isz a) ∧ (isn b' = isn b ∧ isi b' = isi b ∧ isz b' = isz b)) (hs : (ngd a' != ngd b') = !(ngd a != ngd b)) (hab : ab a' = ab a ∧ ab b' = ab b) (h : DivIs a b p f) (k : DivIs a' b' r g) (hp : p ≠ 9221120237041090560) : r = ng p := by
  obtain ⟨⟨a1, a2, a3⟩, b1, b2, b3⟩ := hc
  by_cases hn : isn a = true ∨ isn b = true
  · rw [DivIs, if_pos hn] at h; exact absurd h.1 hp
  by_cases hz : (isi a = true ∧ isi b = true) ∨ (isz a = true ∧ isz b = true)
  · rw [DivIs, if_neg hn, if_pos hz] at h; exact absurd h.1 hp
  by_cases ia : isi a = true
  · rw [DivIs, if_neg hn, if_neg hz, if_pos ia] at h
    rw [DivIs, a1, a2, a3, b1, b2, b3, if_neg hn, if_neg hz, if_pos ia, hs] at k
    rw [h.1, k.1, ng_sb' _ _ (by omega) (by omega)]
  by_cases ib : isi b = true
  · rw [DivIs, if_neg hn, if_neg hz, if_neg ia, if_pos ib] at h
    rw [DivIs, a1, a2, a3, b1, b2, b3, if_neg hn, if_neg hz, if_neg ia, if_pos ib, hs] at k
    rw [h.1, k.1, ng_sb' _ _ (by omega) (by omega)]
  by_cases zb : isz b = true
  · rw [DivIs, if_neg hn, if_neg hz, if_neg ia, if_neg ib, if_pos zb] at h
    rw [DivIs, a1, a2, a3, b1, b2, b3, if_neg hn, if_neg hz, if_neg ia, if_neg ib, if_pos zb, hs] at k
    rw [h.1, k.1, ng_sb' _ _ (by omega) (by omega)]
  · have fa : fin a := by
      rcases kind a with g | ⟨_, g⟩ | ⟨_, _, g⟩
      · exact absurd (.inl g) hn
      · exact absurd g ia
      · exact g
    have fb : fin b := by
      rcases kind b with g | ⟨_, g⟩ | ⟨_, _, g⟩
      · exact absurd (.inr g) hn
      · exact absurd g ib
      · exact g
    have nz : ab b ≠ 0 := by
      intro h
      exact zb (by rw [isz, h]; rfl)
    have h2 := k.rs (by rw [fin, hab.1]; exact fa) (by rw [fin, hab.2]; exact fb) (by rw [hab.2]; exact nz)
    rw [hab.1, hab.2, hs, sn_not] at h2
    have bp : 0 < un (ab b) := un_pos (by have := (ab_bd b).1; omega)
    exact h2.one bp bp (h.rs fa fb nz).neg rfl

theorem bne_not (x y : Bool) : ((!x) != y) = !(x != y) ∧ (x != (!y)) = !(x != y) := by cases x <;> cases y <;> exact ⟨rfl, rfl⟩

theorem MulIs.ng1 {a b p r f g : Int} (a0 : 0 ≤ a) (a1 : a < 18446744073709551616) (h : MulIs a b p f) (k : MulIs (ng a) b r g) (hp : p ≠ 9221120237041090560) : r = ng p := by
  obtain ⟨n1, n2, n3, n4, n5⟩ := ng_is a a0 a1
  exact MulIs.ng_of ⟨⟨n1, n2, n3⟩, rfl, rfl, rfl⟩ (by rw [n4]; exact (bne_not _ _).1) (by rw [(ng_uv a a0 a1).1, Int.neg_mul]) ⟨n5, id⟩ h k hp

theorem MulIs.ng2 {a b p r f g : Int} (b0 : 0 ≤ b) (b1 : b < 18446744073709551616) (h : MulIs a b p f) (k : MulIs a (ng b) r g) (hp : p ≠ 9221120237041090560) : r = ng p := by
  obtain ⟨n1, n2, n3, n4, n5⟩ := ng_is b b0 b1
  exact MulIs.ng_of ⟨⟨rfl, rfl, rfl⟩, n1, n2, n3⟩ (by rw [n4]; exact (bne_not _ _).2) (by rw [(ng_uv b b0 b1).1, Int.mul_neg]) ⟨id, n5⟩ h k hp

theorem DivIs.ng1 {a b p r f g : Int} (a0 : 0 ≤ a) (a1 : a < 18446744073709551616) (h : DivIs a b p f) (k : DivIs (ng a) b r g) (hp : p ≠ 9221120237041090560) : r = ng p := by
  obtain ⟨n1, n2, n3, n4, -⟩ := ng_is a a0 a1
  exact DivIs.ng_of ⟨⟨n1, n2, n3⟩, rfl, rfl, rfl⟩ (by rw [n4]; exact (bne_not _ _).1) ⟨(ng_uv a a0 a1).2.1, rfl⟩ h k hp

theorem DivIs.ng2 {a b p r f g : Int} (b0 : 0 ≤ b) (b1 : b < 18446744073709551616) (h : DivIs a b p f) (k : DivIs a (ng b) r g) (hp : p ≠ 9221120237041090560) : r = ng p := by
  obtain ⟨n1, n2, n3, n4, -⟩ := ng_is b b0 b1
  exact DivIs.ng_of ⟨⟨rfl, rfl, rfl⟩, n1, n2, n3⟩ (by rw [n4]; exact (bne_not _ _).2) ⟨rfl, (ng_uv b b0 b1).2.1⟩ h k hp

theorem mul_1 {a r f : Int} (a0 : 0 ≤ a) (a1 : a < 18446744073709551616) (hn : isn a = false) (h : MulIs a 4607182418800017408 r f) : r = a := by
  obtain ⟨l1, l2, l3, l4, -⟩ := lits
  have x : (ngd a != false) = ngd a := by cases ngd a <;> rfl
  rcases kind a with ha | ⟨ha, ia⟩ | ⟨ha, ia, fa⟩
  · rw [hn] at ha; cases ha
  · rw [MulIs, hn, ia, l1, l2, l3, not_iz ia, l4, x, ← isi_sb a0 a1 ia] at h
    simp only [Bool.false_eq_true, or_self, if_false, and_false, true_or, if_true] at h
    exact h.1
  · have h1 := h.rs fa fin_1
    rw [uv_one, l4, uv, sn_mul_right] at h1
    exact h1.self a0 a1 fa (Nm.two_pos _) x

theorem div_1 {a r f : Int} (a0 : 0 ≤ a) (a1 : a < 18446744073709551616) (hn : isn a = false) (h : DivIs a 4607182418800017408 r f) : r = a := by
  obtain ⟨l1, l2, l3, l4, l5, -⟩ := lits
  have x : (ngd a != false) = ngd a := by cases ngd a <;> rfl
  rcases kind a with ha | ⟨ha, ia⟩ | ⟨ha, ia, fa⟩
  · rw [hn] at ha; cases ha
  · rw [DivIs, hn, ia, l1, l2, l3, not_iz ia, l4, x, ← isi_sb a0 a1 ia] at h
    simp only [Bool.false_eq_true, or_self, if_false, and_false, if_true] at h
    exact h.1
  · have h1 := h.rs fa fin_1 (by rw [l5]; decide)
    rw [l4, l5, x, un_one] at h1
    exact h1.self a0 a1 fa (Nm.two_pos _) rfl

theorem add_nz {a r f : Int} (a0 : 0 ≤ a) (a1 : a < 18446744073709551616) (hn : isn a = false) (h : AddIs a 9223372036854775808 r f) : r = a := by
  obtain ⟨-, -, -, -, -, l1, l2, l3⟩ := lits
  rcases kind a with ha | ⟨ha, ia⟩ | ⟨ha, ia, fa⟩
  · rw [hn] at ha; cases ha
  · rw [AddIs, hn, ia, l1, l2] at h
    simp only [Bool.false_eq_true, or_self, if_false, false_and, and_false, if_true] at h
    exact h.1
  · have h1 := h.rs fa fin_nz
    rw [uv_nz, l3, Int.add_zero, Bool.and_true, uv] at h1
    refine RS.self (Q := 1) a0 a1 fa (by omega) rfl ?_
    rw [Int.mul_one]
    exact h1
end Ie
end Go.Proofs.YtjebdobopechfabDoor
