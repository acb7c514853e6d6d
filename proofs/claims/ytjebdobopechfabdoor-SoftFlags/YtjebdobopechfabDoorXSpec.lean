import Derived.Test.YtjebdobopechfabDoorXAdd
/-
  What add answers of finite doubles: the exact sum, rounded; closed sums: 1 + 2, 3 - 2.
-/
namespace Go.Proofs.YtjebdobopechfabDoor
namespace Ie

/-- The value of a double that is no NaN, in units of 2^-1074. -/
def uv (d : Int) : Int := sn (ngd d) (un (ab d))

theorem rs_of {neg : Bool} {V e x S Q : Int} {z : Bool} (hR : Rnd V 1 e false x) (hV : 0 ≤ V) (c q : Nat) (hc : (c : Int) - q = e + 1074) (hS : S = sn neg (V * 2 ^ c)) (hQ : Q = 2 ^ q) (hz : S = 0 → neg = z) : RS S Q z (sg neg x) := by
  refine ⟨neg, V * 2 ^ c, x, rfl, hS, Int.mul_nonneg hV (by have := Nm.two_pos c; omega), ?_, hz⟩
  have h := hR (c + 1) q (by omega)
  rw [Int.one_mul] at h
  rw [hQ, show 2 * (V * 2 ^ c) = V * 2 ^ (c + 1) by rw [Nm.two_succ]; ac_rfl]
  exact h

theorem sn_eq_zero {neg : Bool} {V : Int} (h : sn neg V = 0) : V = 0 := by
  cases neg <;> simp only [sn, Bool.false_eq_true, if_true, if_false] at h <;> omega

theorem fin_not {d : Int} (h : fin d) : isn d = false ∧ isi d = false := by
  rw [fin] at h
  exact ⟨by rw [isn, decide_eq_false_iff_not]; omega, by rw [isi, decide_eq_false_iff_not]; omega⟩

theorem AddIs.get {a b r f : Int} (fa : fin a) (fb : fin b) (h : AddIs a b r f) : ∃ neg V e, SumIs (ngd a) (dm a) (de a) (ngd b) (dm b) (de b) neg V e ∧ Res neg V e false r f := by
  rw [AddIs, (fin_not fa).1, (fin_not fa).2, (fin_not fb).1, (fin_not fb).2] at h
  simp only [Bool.false_eq_true, or_self, false_and, if_false] at h
  exact h

theorem SumIs.at {n1 n2 neg : Bool} {V1 e1 V2 e2 V e : Int} (h : SumIs n1 V1 e1 n2 V2 e2 neg V e) (B : Nat) (h1 : 0 ≤ e1 + B) (h2 : 0 ≤ e2 + B) {u1 u2 : Int} (g1 : ∀ k : Nat, (k : Int) = e1 + B → V1 * 2 ^ k = u1) (g2 : ∀ k : Nat, (k : Int) = e2 + B → V2 * 2 ^ k = u2) :
    ∃ c : Nat, (c : Int) = e + B ∧ sn neg (V * 2 ^ c) = sn n1 u1 + sn n2 u2 ∧ (sn n1 u1 + sn n2 u2 = 0 → neg = (n1 && n2)) := by
  have e0 : 0 ≤ e + B := by rcases h.1 with h | h <;> omega
  obtain ⟨a, ha⟩ : ∃ k : Nat, (k : Int) = e1 + B := ⟨(e1 + B).toNat, by omega⟩
  obtain ⟨b, hb⟩ : ∃ k : Nat, (k : Int) = e2 + B := ⟨(e2 + B).toNat, by omega⟩
  obtain ⟨c, hc⟩ : ∃ k : Nat, (k : Int) = e + B := ⟨(e + B).toNat, by omega⟩
  have key := h.2.2.2 B a b c ha hb hc
  rw [sn_mul_right, sn_mul_right, sn_mul_right, g1 a ha, g2 b hb] at key
  refine ⟨c, hc, key, fun h0 => ?_⟩
  rw [h0] at key
  have := sn_eq_zero key
  rcases Int.mul_eq_zero.1 this with g | g
  · exact h.2.1 g
  · have := Nm.two_pos c; omega

theorem AddIs.rs {a b r f : Int} (fa : fin a) (fb : fin b) (h : AddIs a b r f) : RS (uv a + uv b) 1 (ngd a && ngd b) r := by
  obtain ⟨neg, V, e, hS, x, t, L, rfl, -, hR, -, -⟩ := h.get fa fb
  obtain ⟨_, ⟨ea0, ea1⟩, ga, _⟩ := dec_f a fa
  obtain ⟨_, ⟨eb0, eb1⟩, gb, _⟩ := dec_f b fb
  obtain ⟨c, hc, key, h0⟩ := hS.at 1074 (by omega) (by omega) ga gb
  exact rs_of hR hS.2.2.1.1 c 0 (by omega) key.symm rfl h0

theorem un_lit {x m : Int} {E : Nat} (h1 : man x = m) (h2 : ex x = E) : un x = m * 2 ^ E := by rw [un, h1, h2]

theorem p1022 : (2 : Int) ^ 1023 = 2 * 2 ^ 1022 ∧ (2 : Int) ^ 1024 = 4 * 2 ^ 1022 ∧ (2 : Int) ^ 1025 = 8 * 2 ^ 1022 := by
  refine ⟨Nm.two_succ 1022, ?_, ?_⟩
  · rw [show 1024 = 2 + 1022 by rfl, Nm.two_add]; rfl
  · rw [show 1025 = 3 + 1022 by rfl, Nm.two_add]; rfl

theorem un_1 : un 4607182418800017408 = 4503599627370496 * 2 ^ 1022 := un_lit (by decide) (by decide)
theorem un_2 : un 4611686018427387904 = 4503599627370496 * 2 ^ 1023 := un_lit (by decide) (by decide)
theorem un_3 : un 4613937818241073152 = 6755399441055744 * 2 ^ 1023 := un_lit (by decide) (by decide)
theorem un_6 : un 4618441417868443648 = 6755399441055744 * 2 ^ 1024 := un_lit (by decide) (by decide)
theorem un_9 : un 4621256167635550208 = 5066549580791808 * 2 ^ 1025 := un_lit (by decide) (by decide)

theorem uv_pos {x : Int} (h0 : 0 ≤ x) (h1 : x < 9223372036854775808) : uv x = un x := by
  have h := ab_sb false x h0 h1
  rw [show sb false x = x from rfl] at h
  rw [uv, h.1, h.2]; rfl
theorem uv_neg {x : Int} (h0 : 0 ≤ x) (h1 : x < 9223372036854775808) : uv (x + 9223372036854775808) = -un x := by
  have h := ab_sb true x h0 h1
  rw [show sb true x = x + 9223372036854775808 from rfl] at h
  rw [uv, h.1, h.2]; rfl

/-- An exact answer above nothing. -/
theorem RS.lit {S Q : Int} {z : Bool} {r : Int} (hQ : 0 < Q) (h : RS S Q z r) (y : Int) (y0 : 0 < y) (y1 : y < 9218868437227405312) (e : S = un y * Q) : r = y := by
  have p := Int.mul_pos (un_pos y0) hQ
  obtain ⟨neg, rfl, hS, -⟩ := h.exact hQ y (by omega) y1 (by rw [e]; rcases (show 0 ≤ un y * Q by omega) with h; simp only [az]; split <;> omega)
  cases neg
  · rfl
  · exfalso
    rw [sn_true] at hS
    omega

theorem add_12 {r f : Int} (h : AddIs 4607182418800017408 4611686018427387904 r f) : r = 4613937818241073152 := by
  refine (h.rs (by rw [fin]; decide) (by rw [fin]; decide)).lit (by omega) _ (by omega) (by omega) ?_
  rw [uv_pos (by omega) (by omega), uv_pos (by omega) (by omega), un_1, un_2, un_3, p1022.1]
  generalize (2 : Int) ^ 1022 = P
  omega

theorem sub_32 {r f : Int} (h : AddIs 4613937818241073152 (ng 4611686018427387904) r f) : r = 4607182418800017408 := by
  have e : ng 4611686018427387904 = 4611686018427387904 + 9223372036854775808 := by decide
  rw [e] at h
  refine (h.rs (by rw [fin]; decide) (by rw [fin]; decide)).lit (by omega) _ (by omega) (by omega) ?_
  rw [uv_pos (by omega) (by omega), uv_neg (by omega) (by omega), un_1, un_2, un_3, p1022.1]
  generalize (2 : Int) ^ 1022 = P
  omega
end Ie
end Go.Proofs.YtjebdobopechfabDoor
