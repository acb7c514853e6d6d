/-
  Texts put together: XFlag, XSpecA, XSpec, XFlagA, XTwo2.
-/
import Derived.Test.YtnfomlkhkggjeaaGreatDoorXA
import Derived.Test.YtnfomlkhkggjeaaGreatDoorXTwo
/-
  The flags of a rounding, as numbers: exact or not, over, under.
-/
namespace Go.Proofs.YtnfomlkhkggjeaaGreatDoor
open Go Go.RowKit Go.Deep

namespace Ie
theorem de_ex (d : Int) (h : fin d) : (ab d = 0 → de d = 0) ∧ (0 < ab d → de d = ex (ab d) - 1074) := by
  have b := ab_bd d
  rw [fin] at h
  rcases dec_kinds d _ rfl with ⟨c, m, x, k1⟩ | ⟨c, m, x, k1, k2⟩ | ⟨c, m, x, k1, k2⟩ | ⟨c, m, x, k1⟩ | ⟨c, m, x, k1, k2⟩ <;> rw [x]
  · rw [← ab] at k1
    exact ⟨fun _ => rfl, fun _ => by omega⟩
  · rw [← ab] at k1 k2
    have e0 : ex (ab d) = 0 := by rw [ex]; omega
    exact ⟨fun _ => by omega, fun _ => by rw [e0]; rfl⟩
  · rw [← ab] at k1 k2 ⊢
    exact ⟨fun _ => by omega, fun _ => by omega⟩
  · rw [← ab] at k1; omega
  · rw [← ab] at k1; omega

/-- The result is the double x. -/
def Exa (V e : Int) (more : Bool) (x : Int) : Prop := more = false ∧ x < 9218868437227405312 ∧ ∀ a b : Nat, (a : Int) - b = e + 1074 → V * 2 ^ a = un x * 2 ^ b

theorem two_at (e c : Int) : ∃ a b : Nat, (a : Int) - b = e + c := ⟨(e + c).toNat, (-(e + c)).toNat, by omega⟩

theorem ex_le {x : Int} (h : 0 < x) : ex (x - 1) ≤ ex x := by simp only [ex]; omega

theorem pow_le_cancel {a b : Nat} (h : (2 : Int) ^ a ≤ 2 ^ b) : a ≤ b := by
  rcases (show b < a ∨ a ≤ b by omega) with k | k
  · have h1 := Nm.two_mono (show b + 1 ≤ a by omega)
    have h2 := Nm.two_succ b
    have h3 := Nm.two_pos b
    omega
  · exact k

theorem mult_eq {M c g : Int} (hM : 0 < M) (h1 : 2 * (M * g) - M ≤ 2 * (M * c)) (h2 : 2 * (M * c) ≤ 2 * (M * g) + M) : c = g := by
  rcases (show c + 1 ≤ g ∨ c = g ∨ g + 1 ≤ c by omega) with h | h | h
  · have := Int.mul_le_mul_of_nonneg_left h (by omega : (0 : Int) ≤ M)
    rw [Int.mul_add, Int.mul_one] at this
    omega
  · exact h
  · have := Int.mul_le_mul_of_nonneg_left h (by omega : (0 : Int) ≤ M)
    rw [Int.mul_add, Int.mul_one] at this
    omega

theorem exa_zero {e x : Int} {more : Bool} (hm : more = false) (hR : Rnd 0 1 e more x) : x = 0 ∧ Exa 0 e more x := by
  obtain ⟨a, b, hab, hN⟩ := hR.at
  have hz := rnd_zero 1 e more (by decide) a b hab
  have hp : (0 : Int) < 1 * 2 ^ b := by have := Nm.two_pos b; omega
  have : x = 0 := hN.one hp hp hz rfl
  subst this
  exact ⟨rfl, hm, by decide, fun a b _ => by rw [un_zero, Int.zero_mul, Int.zero_mul]⟩

theorem isx_exa {V e x : Int} {more : Bool} (neg : Bool) {t : Nat} (v0 : 0 ≤ V) (hm : V = 0 → more = false) (hR : Rnd V 1 e more x) (ht : Nm.Trl V t) : isx V e more (sg neg x) t = true ↔ Exa V e more x := by
  have xb := hR.bd
  have ha : ab (sg neg x) = x := (ab_sb neg x xb.1 (by omega)).1
  rcases (show V = 0 ∨ 0 < V by omega) with hV | hV
  · subst hV
    rw [isx, decide_eq_true rfl, Bool.true_or]
    exact ⟨fun _ => (exa_zero (hm rfl) hR).2, fun _ => rfl⟩
  obtain ⟨m, hv⟩ : ∃ m, V = 2 ^ t * (2 * m + 1) := by
    rcases ht with h | h
    · omega
    · exact h
  rw [isx, decide_eq_false (by omega), Bool.false_or, isi, ha]
  simp only [Bool.and_eq_true, Bool.not_eq_true', decide_eq_false_iff_not, decide_eq_true_eq]
  constructor
  · rintro ⟨h1, h2, h3⟩
    have x1 : x < 9218868437227405312 := by omega
    have DE := de_ex (sg neg x) (by rw [fin, ha]; exact x1)
    rw [ha] at DE
    refine ⟨h1, x1, fun a b hab => ?_⟩
    have hN := hR (a + 1) b (by omega)
    have pb := Nm.two_pos b
    rw [Int.one_mul] at hN
    obtain ⟨_, n1, n2⟩ := hN
    replace n2 : V * 2 ^ (a + 1) ≤ md x * 2 ^ b := by rcases n2 x1 with h | h <;> omega
    rw [Nm.two_succ, show V * (2 * 2 ^ a) = 2 * (V * 2 ^ a) by rw [← Int.mul_assoc, Int.mul_comm V 2, Int.mul_assoc]] at n1 n2
    have hw : V * 2 ^ a = 2 ^ (t + a) * (2 * m + 1) := by
      rw [hv, Int.pow_add, Int.mul_assoc, Int.mul_assoc, Int.mul_comm (2 * m + 1)]
    rcases (show x = 0 ∨ 0 < x by omega) with hx | hx
    · exfalso
      rw [hx, md_zero, Int.one_mul] at n2
      have d0 := DE.1 hx
      have hm0 : 0 < 2 * m + 1 := by
        rcases (show 2 * m + 1 ≤ 0 ∨ 0 < 2 * m + 1 by omega) with k | k
        · have := Int.mul_nonpos_of_nonneg_of_nonpos (Int.le_of_lt (Nm.two_pos t)) k
          omega
        · exact k
      have g1 : (2 : Int) ^ (t + a) ≤ V * 2 ^ a := by
        rw [hw]
        have := Int.mul_le_mul_of_nonneg_left (show 1 ≤ 2 * m + 1 by omega) (Int.le_of_lt (Nm.two_pos (t + a)))
        omega
      have g2 := pow_le_cancel (show (2 : Int) ^ (t + a) ≤ 2 ^ b by have := Nm.two_pos (t + a); omega)
      omega
    · have dx := DE.2 hx
      have n1' : md (x - 1) * 2 ^ b ≤ 2 * (V * 2 ^ a) := by rcases n1 hx with h | h <;> omega
      have e1 := md_un (x - 1) (by omega)
      have e2 := un_succ (x - 1) (by omega)
      rw [show x - 1 + 1 = x by omega] at e1 e2
      have e3 : md x = 2 * un x + 2 ^ ex x := by rw [md_eq, vl_un]
      have e4 := Nm.two_mono (ex_le hx)
      have hU : un x * 2 ^ b = 2 ^ (ex x + b) * man x := by
        rw [un, Int.pow_add, Int.mul_assoc, Int.mul_comm]
      obtain ⟨j, hj⟩ : ∃ j, t + a = ex x + b + j := ⟨t + a - (ex x + b), by omega⟩
      have hW : V * 2 ^ a = 2 ^ (ex x + b) * (2 ^ j * (2 * m + 1)) := by
        rw [hw, hj, Int.pow_add, Int.mul_assoc]
      have hP : (2 : Int) ^ ex x * 2 ^ b = 2 ^ (ex x + b) := (Int.pow_add _ _ _).symm
      have hP1 : (2 : Int) ^ ex (x - 1) * 2 ^ b ≤ 2 ^ (ex x + b) := by
        rw [← hP]; exact Int.mul_le_mul_of_nonneg_right e4 (by omega)
      have k1 : md (x - 1) * 2 ^ b = 2 * (un x * 2 ^ b) - 2 ^ ex (x - 1) * 2 ^ b := by
        rw [show md (x - 1) = 2 * un x - 2 ^ ex (x - 1) by omega, Int.sub_mul, Int.mul_assoc]
      have k2 : md x * 2 ^ b = 2 * (un x * 2 ^ b) + 2 ^ (ex x + b) := by
        rw [e3, Int.add_mul, Int.mul_assoc, hP]
      rw [k1] at n1'
      rw [k2] at n2
      rw [hW, hU] at n1' n2 ⊢
      rw [mult_eq (M := 2 ^ (ex x + b)) (c := 2 ^ j * (2 * m + 1)) (g := man x) (Nm.two_pos _) (by omega) (by omega)]
  · rintro ⟨h1, x1, hE⟩
    have DE := de_ex (sg neg x) (by rw [fin, ha]; exact x1)
    rw [ha] at DE
    refine ⟨h1, by omega, ?_⟩
    obtain ⟨a, b, hab⟩ := two_at e 1074
    have h := hE a b hab
    have hw : V * 2 ^ a = 2 ^ (t + a) * (2 * m + 1) := by
      rw [hv, Int.pow_add, Int.mul_assoc, Int.mul_assoc, Int.mul_comm (2 * m + 1)]
    rcases (show x = 0 ∨ 0 < x by omega) with hx | hx
    · exfalso
      rw [hx, un_zero, Int.zero_mul] at h
      have := Int.mul_pos hV (Nm.two_pos a)
      omega
    · have dx := DE.2 hx
      rcases (show ex x + b ≤ t + a ∨ t + a < ex x + b by omega) with k | k
      · omega
      · exfalso
        obtain ⟨s, hs⟩ : ∃ s, ex x + b = t + a + (s + 1) := ⟨ex x + b - (t + a) - 1, by omega⟩
        have hU : un x * 2 ^ b = 2 ^ (t + a) * (2 ^ (s + 1) * man x) := by
          rw [← Int.mul_assoc, ← Int.pow_add, ← hs, un, Int.pow_add, Int.mul_assoc, Int.mul_comm]
        rw [hw, hU] at h
        exact Nm.odd_unique (Int.eq_of_mul_eq_mul_left (by have := Nm.two_pos (t + a); omega) h)

theorem under_le {V e x : Int} {more : Bool} {L : Nat} (hR : Rnd V 1 e more x) (hL : Nm.BLen V L) (hu : (L : Int) + e ≤ -1022) : x ≤ 4503599627370496 := by
  obtain ⟨a, b, hab, hN⟩ := hR.at
  have hs := rnd_self 4503599627370496 (-1074) false (by decide) (by decide) (by decide) 1 0 (by decide)
  have pb := Nm.two_pos b
  have pa := Nm.two_pos a
  refine hN.mono (by omega) (by decide) hs (Or.inl ?_)
  have h1 : V * 2 ^ a < 2 ^ L * 2 ^ a := Int.mul_lt_mul_of_pos_right hL.1 pa
  have h2 : (2 : Int) ^ L * 2 ^ a ≤ 2 ^ (53 + b) := by rw [← Int.pow_add]; exact Nm.two_mono (by omega)
  have h3 : (2 : Int) ^ (53 + b) = 9007199254740992 * 2 ^ b := by rw [Int.pow_add]; rfl
  have h4 : man 4503599627370496 = 4503599627370496 := by decide
  rw [h4]
  omega

theorem under_ge {V e x : Int} {more : Bool} {L : Nat} (hV : 0 < V) (hR : Rnd V 1 e more x) (hL : Nm.BLen V L) (hu : ¬(L : Int) + e ≤ -1022) : 4503599627370496 ≤ x := by
  obtain ⟨a, b, hab, hN⟩ := hR.at
  have hs := rnd_self 4503599627370496 (-1074) false (by decide) (by decide) (by decide) 1 0 (by decide)
  have pb := Nm.two_pos b
  have pa := Nm.two_pos a
  obtain ⟨l1, l2⟩ := hL.2.2 hV
  have h1 : 2 ^ (L - 1) * 2 ^ a ≤ V * 2 ^ a := Int.mul_le_mul_of_nonneg_right l2 (by omega)
  have h2 : (2 : Int) ^ (53 + b) ≤ 2 ^ (L - 1) * 2 ^ a := by rw [← Int.pow_add]; exact Nm.two_mono (by omega)
  have h3 : (2 : Int) ^ (53 + b) = 9007199254740992 * 2 ^ b := by rw [Int.pow_add]; rfl
  have h4 : man 4503599627370496 = 4503599627370496 := by decide
  rw [h4] at hs
  refine hs.mono (by decide) (by omega) hN ?_
  rcases (show 9007199254740992 * 2 ^ b < V * 2 ^ a ∨ 9007199254740992 * 2 ^ b = V * 2 ^ a by omega) with k | k
  · exact Or.inl (by omega)
  · exact Or.inr ⟨by omega, fun h => by cases h⟩

/-- What the flags f say of the answer r, ex being whether it is exact. -/
def FlagsIs (r f : Int) (exact : Prop) : Prop :=
  (f = 0 ∧ exact ∧ ab r < 9218868437227405312) ∨
  (¬exact ∧ ((ab r = 9218868437227405312 ∧ f = 20) ∨ (ab r < 9218868437227405312 ∧ ((f = 16 ∧ 4503599627370496 ≤ ab r) ∨ (f = 24 ∧ ab r ≤ 4503599627370496)))))

theorem Res.flags {neg more : Bool} {V e r f : Int} (v0 : 0 ≤ V) (hm : V = 0 → more = false) (h : Res neg V e more r f) : FlagsIs r f (Exa V e more (ab r)) := by
  obtain ⟨x, t, L, rfl, rfl, hR, ht, hL⟩ := h
  have xb := hR.bd
  have ha : ab (sg neg x) = x := (ab_sb neg x xb.1 (by omega)).1
  have hi := isx_exa neg v0 hm hR ht
  rw [FlagsIs, ha, flg, isi, ha]
  by_cases hE : Exa V e more x
  · rw [if_pos (hi.2 hE)]
    exact Or.inl ⟨rfl, hE, hE.2.1⟩
  · rw [if_neg (fun h => hE (hi.1 h))]
    refine Or.inr ⟨hE, ?_⟩
    have vp : 0 < V := by
      rcases (show V = 0 ∨ 0 < V by omega) with h | h
      · subst h
        exact absurd (exa_zero (hm rfl) hR).2 hE
      · exact h
    have u1 := fun h => under_le (x := x) hR hL h
    have u2 := fun h => under_ge (x := x) vp hR hL h
    rcases (show x = 9218868437227405312 ∨ x < 9218868437227405312 by omega) with hx | hx
    · refine Or.inl ⟨hx, ?_⟩
      rw [decide_eq_true hx, if_pos rfl]
      by_cases hu : (L : Int) + e ≤ -1022
      · have := u1 hu
        omega
      · rw [if_neg hu]; rfl
    · refine Or.inr ⟨hx, ?_⟩
      rw [decide_eq_false (by omega), if_neg (by decide)]
      by_cases hu : (L : Int) + e ≤ -1022
      · rw [if_pos hu]; exact Or.inr ⟨rfl, u1 hu⟩
      · rw [if_neg hu]; exact Or.inl ⟨rfl, u2 hu⟩
end Ie
end Go.Proofs.YtnfomlkhkggjeaaGreatDoor

/-
  Rounded signed fractions: the value of a double, closed ones.
-/
namespace Go.Proofs.YtnfomlkhkggjeaaGreatDoor
namespace Ie

/-- The value of a double that is no NaN, in units of 2^-1074. -/
def uv (d : Int) : Int := sn (ngd d) (un (ab d))

theorem rs_of {neg : Bool} {V e x S Q : Int} {z : Bool} (hR : Rnd V 1 e false x) (hV : 0 ≤ V) (c q : Nat) (hc : (c : Int) - q = e + 1074) (hS : S = sn neg (V * 2 ^ c)) (hQ : Q = 2 ^ q) (hz : S = 0 → neg = z) : RS S Q z (sg neg x) := by
  refine ⟨neg, V * 2 ^ c, x, rfl, hS, Int.mul_nonneg hV (by have := Nm.two_pos c; omega), ?_, hz⟩
  have h := hR (c + 1) q (by omega)
  rw [Int.one_mul] at h
  rw [hQ, show 2 * (V * 2 ^ c) = V * 2 ^ (c + 1) by rw [Nm.two_succ]; ac_rfl]
  exact h

theorem sn_eq_zero {neg : Bool} {V : Int} (h : sn neg V = 0) : V = 0 := by
  cases neg <;> simp only [sn, Bool.false_eq_true, if_true, if_false] at h <;> omega

theorem fin_not {d : Int} (h : fin d) : isn d = false ∧ isi d = false := by
  rw [fin] at h
  exact ⟨by rw [isn, decide_eq_false_iff_not]; omega, by rw [isi, decide_eq_false_iff_not]; omega⟩

theorem un_lit {x m : Int} {E : Nat} (h1 : man x = m) (h2 : ex x = E) : un x = m * 2 ^ E := by rw [un, h1, h2]

theorem p1022 : (2 : Int) ^ 1023 = 2 * 2 ^ 1022 ∧ (2 : Int) ^ 1024 = 4 * 2 ^ 1022 ∧ (2 : Int) ^ 1025 = 8 * 2 ^ 1022 := by
  refine ⟨Nm.two_succ 1022, ?_, ?_⟩
  · rw [show 1024 = 2 + 1022 by rfl, Nm.two_add]; rfl
  · rw [show 1025 = 3 + 1022 by rfl, Nm.two_add]; rfl

theorem un_1 : un 4607182418800017408 = 4503599627370496 * 2 ^ 1022 := un_lit (by decide) (by decide)
theorem un_2 : un 4611686018427387904 = 4503599627370496 * 2 ^ 1023 := un_lit (by decide) (by decide)
theorem un_3 : un 4613937818241073152 = 6755399441055744 * 2 ^ 1023 := un_lit (by decide) (by decide)
theorem un_6 : un 4618441417868443648 = 6755399441055744 * 2 ^ 1024 := un_lit (by decide) (by decide)
theorem un_9 : un 4621256167635550208 = 5066549580791808 * 2 ^ 1025 := un_lit (by decide) (by decide)

theorem uv_pos {x : Int} (h0 : 0 ≤ x) (h1 : x < 9223372036854775808) : uv x = un x := by
  have h := ab_sb false x h0 h1
  rw [show sb false x = x from rfl] at h
  rw [uv, h.1, h.2]; rfl
theorem uv_neg {x : Int} (h0 : 0 ≤ x) (h1 : x < 9223372036854775808) : uv (x + 9223372036854775808) = -un x := by
  have h := ab_sb true x h0 h1
  rw [show sb true x = x + 9223372036854775808 from rfl] at h
  rw [uv, h.1, h.2]; rfl

/-- An exact answer above nothing. -/
theorem RS.lit {S Q : Int} {z : Bool} {r : Int} (hQ : 0 < Q) (h : RS S Q z r) (y : Int) (y0 : 0 < y) (y1 : y < 9218868437227405312) (e : S = un y * Q) : r = y := by
  have p := Int.mul_pos (un_pos y0) hQ
  obtain ⟨neg, rfl, hS, -⟩ := h.exact hQ y (by omega) y1 (by rw [e]; rcases (show 0 ≤ un y * Q by omega) with h; simp only [az]; split <;> omega)
  cases neg
  · rfl
  · exfalso
    rw [sn_true] at hS
    omega

end Ie
end Go.Proofs.YtnfomlkhkggjeaaGreatDoor

/-
  What add answers of finite doubles: the exact sum, rounded; closed sums: 1 + 2, 3 - 2.
-/
namespace Go.Proofs.YtnfomlkhkggjeaaGreatDoor
namespace Ie

theorem AddIs.get {a b r f : Int} (fa : fin a) (fb : fin b) (h : AddIs a b r f) : ∃ neg V e, SumIs (ngd a) (dm a) (de a) (ngd b) (dm b) (de b) neg V e ∧ Res neg V e false r f := by
  rw [AddIs, (fin_not fa).1, (fin_not fa).2, (fin_not fb).1, (fin_not fb).2] at h
  simp only [Bool.false_eq_true, or_self, false_and, if_false] at h
  exact h

theorem SumIs.at {n1 n2 neg : Bool} {V1 e1 V2 e2 V e : Int} (h : SumIs n1 V1 e1 n2 V2 e2 neg V e) (B : Nat) (h1 : 0 ≤ e1 + B) (h2 : 0 ≤ e2 + B) {u1 u2 : Int} (g1 : ∀ k : Nat, (k : Int) = e1 + B → V1 * 2 ^ k = u1) (g2 : ∀ k : Nat, (k : Int) = e2 + B → V2 * 2 ^ k = u2) :
    ∃ c : Nat, (c : Int) = e + B ∧ sn neg (V * 2 ^ c) = sn n1 u1 + sn n2 u2 ∧ (sn n1 u1 + sn n2 u2 = 0 → neg = (n1 && n2)) := by
  have e0 : 0 ≤ e + B := by rcases h.1 with h | h <;> omega
  obtain ⟨a, ha⟩ : ∃ k : Nat, (k : Int) = e1 + B := ⟨(e1 + B).toNat, by omega⟩
  obtain ⟨b, hb⟩ : ∃ k : Nat, (k : Int) = e2 + B := ⟨(e2 + B).toNat, by omega⟩
  obtain ⟨c, hc⟩ : ∃ k : Nat, (k : Int) = e + B := ⟨(e + B).toNat, by omega⟩
  have key := h.2.2.2 B a b c ha hb hc
  rw [sn_mul_right, sn_mul_right, sn_mul_right, g1 a ha, g2 b hb] at key
  refine ⟨c, hc, key, fun h0 => ?_⟩
  rw [h0] at key
  have := sn_eq_zero key
  rcases Int.mul_eq_zero.1 this with g | g
  · exact h.2.1 g
  · have := Nm.two_pos c; omega

theorem AddIs.rs {a b r f : Int} (fa : fin a) (fb : fin b) (h : AddIs a b r f) : RS (uv a + uv b) 1 (ngd a && ngd b) r := by
  obtain ⟨neg, V, e, hS, x, t, L, rfl, -, hR, -, -⟩ := h.get fa fb
  obtain ⟨_, ⟨ea0, ea1⟩, ga, _⟩ := dec_f a fa
  obtain ⟨_, ⟨eb0, eb1⟩, gb, _⟩ := dec_f b fb
  obtain ⟨c, hc, key, h0⟩ := hS.at 1074 (by omega) (by omega) ga gb
  exact rs_of hR hS.2.2.1.1 c 0 (by omega) key.symm rfl h0

theorem add_12 {r f : Int} (h : AddIs 4607182418800017408 4611686018427387904 r f) : r = 4613937818241073152 := by
  refine (h.rs (by rw [fin]; decide) (by rw [fin]; decide)).lit (by omega) _ (by omega) (by omega) ?_
  rw [uv_pos (by omega) (by omega), uv_pos (by omega) (by omega), un_1, un_2, un_3, p1022.1]
  generalize (2 : Int) ^ 1022 = P
  omega

theorem sub_32 {r f : Int} (h : AddIs 4613937818241073152 (ng 4611686018427387904) r f) : r = 4607182418800017408 := by
  have e : ng 4611686018427387904 = 4611686018427387904 + 9223372036854775808 := by decide
  rw [e] at h
  refine (h.rs (by rw [fin]; decide) (by rw [fin]; decide)).lit (by omega) _ (by omega) (by omega) ?_
  rw [uv_pos (by omega) (by omega), uv_neg (by omega) (by omega), un_1, un_2, un_3, p1022.1]
  generalize (2 : Int) ^ 1022 = P
  omega
end Ie
end Go.Proofs.YtnfomlkhkggjeaaGreatDoor

/-
  The flags of add, mul, fma, div on finite operands: exact in whole numbers.
-/
namespace Go.Proofs.YtnfomlkhkggjeaaGreatDoor
open Go Go.RowKit Go.Deep

namespace Ie
theorem FlagsIs.iff {r f : Int} {P Q : Prop} (h : FlagsIs r f P) (e : P ↔ Q) : FlagsIs r f Q := propext e ▸ h

theorem exa_iff {V e x : Int} {c q : Nat} (hc : (c : Int) - q = e + 1074) : Exa V e false x ↔ x < 9218868437227405312 ∧ V * 2 ^ c = un x * 2 ^ q := by
  constructor
  · rintro ⟨_, h1, h2⟩
    exact ⟨h1, h2 c q hc⟩
  · rintro ⟨h1, h2⟩
    refine ⟨rfl, h1, fun a b hab => ?_⟩
    have pq := Nm.two_pos q
    have e1 : V * 2 ^ a * 2 ^ q = un x * 2 ^ b * 2 ^ q := by
      have : V * 2 ^ c * 2 ^ b = un x * 2 ^ q * 2 ^ b := by rw [h2]
      rw [Int.mul_assoc, ← Nm.two_add] at this
      rw [Int.mul_assoc, ← Nm.two_add, show a + q = c + b by omega, this, Int.mul_assoc, Int.mul_assoc, Int.mul_comm ((2 : Int) ^ q)]
    exact Int.eq_of_mul_eq_mul_right (by omega) e1

theorem sn_inj (neg : Bool) (A B : Int) : sn neg A = sn neg B ↔ A = B := by cases neg <;> simp only [sn, if_true, Bool.false_eq_true, if_false] <;> omega

theorem Res.uvr {neg more : Bool} {V e r f : Int} (h : Res neg V e more r f) : uv r = sn neg (un (ab r)) := by
  obtain ⟨x, t, L, rfl, rfl, hR, _⟩ := h
  have xb := hR.bd
  have ha := ab_sb neg x xb.1 (by omega)
  rw [uv, show ngd (sg neg x) = neg from ha.2]

/-- A result S / 2^q, in units of 2^-1074. -/
theorem Res.flags_of {neg : Bool} {V e r f S : Int} (v0 : 0 ≤ V) (h : Res neg V e false r f) (c q : Nat) (hc : (c : Int) - q = e + 1074) (hS : sn neg (V * 2 ^ c) = S) :
    FlagsIs r f (ab r < 9218868437227405312 ∧ S = uv r * 2 ^ q) := by
  refine (h.flags v0 (fun _ => rfl)).iff ?_
  rw [exa_iff hc, ← hS, h.uvr, sn_mul_right, sn_inj]

theorem AddIs.flags {a b r f : Int} (fa : fin a) (fb : fin b) (h : AddIs a b r f) : FlagsIs r f (ab r < 9218868437227405312 ∧ uv a + uv b = uv r) := by
  obtain ⟨neg, V, e, hS, hR⟩ := h.get fa fb
  obtain ⟨_, ⟨ea0, ea1⟩, ga, _⟩ := dec_f a fa
  obtain ⟨_, ⟨eb0, eb1⟩, gb, _⟩ := dec_f b fb
  obtain ⟨c, hc, key, h0⟩ := hS.at 1074 (by omega) (by omega) ga gb
  have := hR.flags_of hS.2.2.1.1 c 0 (by omega) key
  rw [Int.pow_zero, Int.mul_one] at this
  exact this
end Ie
end Go.Proofs.YtnfomlkhkggjeaaGreatDoor

/-
  Knuth's sum and the fused rest of a product.
-/
namespace Go.Proofs.YtnfomlkhkggjeaaGreatDoor
namespace Ie

theorem Fl.ge {S z y : Int} (h : Fl S z) (y0 : 0 ≤ y) (y1 : y ≤ 9218868437227405312) (hS : un y ≤ az S) : un y ≤ az z := by
  obtain ⟨n, V, x, rfl, hV, rfl, hN⟩ := h
  rw [az_sn n V hV] at hS
  rw [az_sn n _ (un_nn hN.1.1)]
  rcases (show y ≤ x ∨ x < y by omega) with h | h
  · exact un_le y0 h
  · exfalso
    have g1 := hN.2.2 (by omega)
    rw [md_un x hN.1.1, Int.mul_one] at g1
    have g2 := un_le (x := x + 1) (y := y) (by have := hN.1.1; omega) (by omega)
    have g3 := un_lt hN.1.1 (show x < x + 1 by omega)
    omega

/-- Knuth's six additions: what each answers is exact but for the first two. -/
theorem knuth {a b s bb ya yb ys : Int} (ha : az a = un ya) (hb : az b = un yb) (hs : az s = un ys) (a0 : 0 ≤ ya) (a1 : ya < 9218868437227405312) (b0 : 0 ≤ yb) (b1 : yb < 9218868437227405312) (s0 : 0 ≤ ys) (s1 : ys < 9218868437227405312)
    (ma : un ya < 2 ^ 2096) (mb : un yb < 2 ^ 2096) (h1 : Fl (a + b) s) (h2 : Fl (s - a) bb) : DB (s - bb) ∧ DB (a - (s - bb)) ∧ DB (b - bb) ∧ DB (a + b - s) := by
  obtain ⟨d1, d2, d3⟩ := err_db ha hb a0 a1 b0 b1 h1
  have e96 : (2 : Int) ^ 2098 = 4 * 2 ^ 2096 := by rw [show 2098 = 2 + 2096 by rfl, Nm.two_add]; rfl
  have dA : DB a := ⟨ya, a0, a1, ha⟩
  have dB : DB b := ⟨yb, b0, b1, hb⟩
  rcases (show yb ≤ ya ∨ ya < yb by omega) with hl | hl
  · have f := fast ha hb b0 hl a1 mb h1
    have e : bb = s - a := h2.exact f
    refine ⟨?_, ?_, ?_, d1⟩
    · rw [show s - bb = a by omega]; exact dA
    · rw [show a - (s - bb) = 0 by omega]; exact DB.zero
    · rw [show b - bb = a + b - s by omega]; exact d1
  · have h2' : Fl (s + -a) bb := by rw [← Int.sub_eq_add_neg]; exact h2
    have ha' : az (-a) = un ya := by rw [az_neg, ha]
    obtain ⟨n1, n2, n3⟩ := err_db hs ha' s0 s1 a0 a1 h2'
    have n4 := h2.near (w := b) dB
    have n5 : az (s - a - b) = az (a + b - s) := by rw [show s - a - b = -(a + b - s) by omega, az_neg]
    rw [n5] at n4
    have n1' : DB (a - (s - bb)) := by rw [show a - (s - bb) = -(s + -a - bb) by omega]; exact n1.neg
    have key : bb = b ∧ s = a + b → DB (s - bb) ∧ DB (a - (s - bb)) ∧ DB (b - bb) ∧ DB (a + b - s) := by
      rintro ⟨e1, e2⟩
      refine ⟨?_, n1', ?_, d1⟩
      · rw [show s - bb = a by omega]; exact dA
      · rw [show b - bb = 0 by omega]; exact DB.zero
    rcases (show ya ≤ ys ∨ ys < ya by omega) with c | c
    · have f := fast hs ha' a0 c s1 ma h2'
      have f' : DB (s - bb) := by rw [show s - bb = -(bb - s) by omega]; exact f.neg
      refine ⟨f', n1', ?_, d1⟩
      -- b - bb
      have ea : ex ya ≤ 2045 := by simp only [ex]; omega
      have da : Dv (ex ya) a := .of_az (by rw [ha]; exact un_dv _ (Nat.le_refl _))
      have db : Dv (ex ya) b := .of_az (by rw [hb]; exact un_dv _ (ex_mono (by omega)))
      have ds := h1.dv' (da.add db) ea
      have ua := un_bd ya a0
      have es : (2 : Int) ^ (ex ya + 1) = 2 * 2 ^ ex ya := Nm.two_succ _
      have p := Nm.two_pos (ex ya)
      have sz : az (b - bb) ≤ 2 * az (a + b - s) := by
        rcases az_or (a + b - s) with ⟨_, q1⟩ | ⟨_, q1⟩ <;> rcases az_or (s - a - bb) with ⟨_, q2⟩ | ⟨_, q2⟩ <;> rcases az_or (b - bb) with ⟨_, q3⟩ | ⟨_, q3⟩ <;> omega
      rcases h2.dv (ds.sub da) ea with ⟨_, _, g⟩ | g
      · rw [show b - bb = a + b - s by omega]; exact d1
      · rcases (show ex ya + 1 ≤ ex yb ∨ ex yb = ex ya by have := ex_mono (Int.le_of_lt hl); omega) with c' | c'
        · have db' : Dv (ex ya + 1) b := .of_az (by rw [hb]; exact un_dv _ c')
          exact db_of (db'.sub g) (by omega) (by omega)
        · have ub := un_bd yb b0
          rw [c'] at ub
          have le : az (a + b) ≤ az a + az b := by
            rcases az_or a with ⟨_, q1⟩ | ⟨_, q1⟩ <;> rcases az_or b with ⟨_, q2⟩ | ⟨_, q2⟩ <;> rcases az_or (a + b) with ⟨_, q3⟩ | ⟨_, q3⟩ <;> omega
          have sm := err_small h1 (da.add db) (by omega) (by omega)
          exact db_of (db.sub (g.down (Nat.le_succ _))) (by omega) (by omega)
    · -- the sum is less than a: b lies within a factor of two
      have lt := un_lt s0 c
      have ub := un_lt a0 hl
      have g : az (a + b) < az a := by
        rcases (show az (a + b) < az a ∨ az a ≤ az (a + b) by omega) with h | h
        · exact h
        · have := h1.ge a0 (by omega) (by omega)
          omega
      have st := sterbenz a0 b1 (Int.le_of_lt hl) (by
        rcases az_or a with ⟨_, q1⟩ | ⟨_, q1⟩ <;> rcases az_or b with ⟨_, q2⟩ | ⟨_, q2⟩ <;> rcases az_or (a + b) with ⟨_, q3⟩ | ⟨_, q3⟩ <;> omega)
      have dS : DB (a + b) := by
        rcases (show a + b = un yb - un ya ∨ a + b = -(un yb - un ya) by
          rcases az_or a with ⟨_, q1⟩ | ⟨_, q1⟩ <;> rcases az_or b with ⟨_, q2⟩ | ⟨_, q2⟩ <;> rcases az_or (a + b) with ⟨_, q3⟩ | ⟨_, q3⟩ <;> omega) with e | e <;> rw [e]
        · exact st
        · exact st.neg
      have e1 := h1.exact dS
      refine key ⟨?_, e1⟩
      refine h2.exact ?_ |>.trans (by omega)
      rw [show s - a = b by omega]
      exact dB

/-- The sum of two modest doubles is finite. -/
theorem un_2097 : ∃ y, 0 ≤ y ∧ y < 9218868437227405312 ∧ un y = 2 ^ 2097 := by
  obtain ⟨y, y0, y1, hy⟩ := un_rep 2045 4503599627370496 (by omega) (by omega) (by omega)
  refine ⟨y, y0, y1, ?_⟩
  rw [hy, show 2097 = 52 + 2045 by rfl, Nm.two_add]
  rfl

theorem knuth_fin {a b s : Int} (ha : az a < 2 ^ 2096) (hb : az b < 2 ^ 2096) (h1 : Fl (a + b) s) : az s ≤ 2 ^ 2097 ∧ DB s := by
  obtain ⟨y, y0, y1, hy⟩ := un_2097
  have e : (2 : Int) ^ 2097 = 2 * 2 ^ 2096 := Nm.two_succ 2096
  obtain ⟨x, x0, x1, hx⟩ := h1.fin y y0 y1 (by
    rw [hy]
    rcases az_or a with ⟨_, q1⟩ | ⟨_, q1⟩ <;> rcases az_or b with ⟨_, q2⟩ | ⟨_, q2⟩ <;> rcases az_or (a + b) with ⟨_, q3⟩ | ⟨_, q3⟩ <;> omega)
  exact ⟨by have := un_le x0 x1; omega, x, x0, by omega, hx⟩

theorem knuth_fin2 {a b s bb : Int} (hA : DB a) (hb : az b < 2 ^ 2096) (h1 : Fl (a + b) s) (h2 : Fl (s - a) bb) : DB bb := by
  obtain ⟨y, y0, y1, hy⟩ := un_2097
  have e : (2 : Int) ^ 2097 = 2 * 2 ^ 2096 := Nm.two_succ 2096
  have g1 := h1.near (w := a) hA
  rw [show a + b - a = b by omega] at g1
  obtain ⟨x, x0, x1, hx⟩ := h2.fin y y0 y1 (by
    rw [hy]
    rcases az_or b with ⟨_, q1⟩ | ⟨_, q1⟩ <;> rcases az_or (a + b - s) with ⟨_, q2⟩ | ⟨_, q2⟩ <;> rcases az_or (s - a) with ⟨_, q3⟩ | ⟨_, q3⟩ <;> omega)
  exact ⟨x, x0, by omega, hx⟩

/-- How far a rounding goes. -/
theorem near_half {V x : Int} (v0 : 0 ≤ V) (h : Near (2 * V) 1 false x) (hx : x < 9218868437227405312) : 2 * az (V - un x) ≤ 2 ^ ex x := by
  have x0 := h.1.1
  have g := h.2.2 hx
  have us := un_succ x x0
  have p := Nm.two_pos (ex x)
  rw [md_un x x0, Int.mul_one] at g
  rcases az_or (V - un x) with ⟨q, q'⟩ | ⟨q, q'⟩
  · rcases g with g | g <;> omega
  · rcases (show x = 0 ∨ 0 < x by omega) with h0 | h0
    · subst h0
      rw [un_zero] at *
      omega
    · have g2 := h.2.1 h0
      have us' := un_succ (x - 1) (by omega)
      rw [md_un (x - 1) (by omega), Int.mul_one, show x - 1 + 1 = x by omega] at g2
      rw [show x - 1 + 1 = x by omega] at us'
      have m := Nm.two_mono (ex_mono (show x - 1 ≤ x by omega))
      rcases g2 with g2 | g2 <;> omega

/-- What the rounding of a product lost is a double, if its last bit counts at least 1. -/
theorem fused {T p : Int} {F : Nat} (hT : Dv F T) (hb : az T < 2 ^ (106 + F)) (h : Fl T p) (hp : DB p) : DB (T - p) := by
  have h' := h
  obtain ⟨n, V, x, rfl, hV, rfl, hN⟩ := h'
  obtain ⟨y, y0, y1, hy⟩ := hp
  rw [az_sn n _ (un_nn hN.1.1)] at hy
  have e := un_inj hN.1.1 y0 hy
  subst e
  rw [az_sn n V hV] at hb
  have eS : az (sn n V - sn n (un x)) = az (V - un x) := by
    cases n
    · rfl
    · rw [sn_true, sn_true, show -V - -un x = -(V - un x) by omega, az_neg]
  have hh := near_half hV hN y1
  have ex1 : ex x ≤ 2045 := by simp only [ex]; omega
  have p1 := Nm.two_mono ex1
  have e98 := two_2098
  have p2 := Nm.two_pos 2045
  rcases Nat.lt_or_ge 2045 F with hF | hF
  · have d := hT.down (show 2045 ≤ F by omega)
    have ub := un_bd x hN.1.1
    have v1 : V ≤ 9007199254740992 * 2 ^ 2045 := by
      have g := hN.2.2 y1
      rw [md_eq, vl_un, Int.mul_one] at g
      have m : un x ≤ 9007199254740991 * 2 ^ 2045 := by
        have := (man_nn x y0).2
        have a1 : un x ≤ 9007199254740991 * 2 ^ ex x := Int.mul_le_mul_of_nonneg_right (by omega) (by have := Nm.two_pos (ex x); omega)
        have a2 : (9007199254740991 : Int) * 2 ^ ex x ≤ 9007199254740991 * 2 ^ 2045 := Int.mul_le_mul_of_nonneg_left p1 (by omega)
        omega
      rcases g with g | g <;> omega
    have v2 : V < 2 ^ 2098 := by
      have g := hN.2.2 y1
      rw [md_eq, vl_un, Int.mul_one] at g
      have m : un x ≤ 9007199254740991 * 2 ^ 2045 := by
        have := (man_nn x y0).2
        have a1 : un x ≤ 9007199254740991 * 2 ^ ex x := Int.mul_le_mul_of_nonneg_right (by omega) (by have := Nm.two_pos (ex x); omega)
        have a2 : (9007199254740991 : Int) * 2 ^ ex x ≤ 9007199254740991 * 2 ^ 2045 := Int.mul_le_mul_of_nonneg_left p1 (by omega)
        omega
      rcases g with g | g <;> omega
    have dT : DB (sn n V) := db_of d (by rw [az_sn n V hV]; exact v1) (by rw [az_sn n V hV]; exact v2)
    have := h.exact dT
    rw [this, Int.sub_self]
    exact DB.zero
  · have d := hT.sub (h.dv' hT hF)
    refine db_of d ?_ ?_ <;> rw [eS]
    · have e54 : ex x ≤ F + 54 := by
        rcases Nat.lt_or_ge (F + 54) (ex x) with c | c
        · exfalso
          have m : 4503599627370496 ≤ man x := by
            have z : 0 < ex x := by omega
            simp only [man]
            simp only [ex] at z
            split <;> omega
          have m2 : 4503599627370496 * 2 ^ ex x ≤ un x := Int.mul_le_mul_of_nonneg_right m (by have := Nm.two_pos (ex x); omega)
          have m3 := Nm.two_mono (show F + 55 ≤ ex x by omega)
          have m4 : (2 : Int) ^ (106 + F) = 2251799813685248 * 2 ^ (F + 55) := by rw [show 106 + F = 51 + (F + 55) by omega, Nm.two_add]; rfl
          have m5 := Nm.two_pos (F + 55)
          rcases az_or (V - un x) with ⟨q, q'⟩ | ⟨q, q'⟩ <;> omega
        · exact c
      have m := Nm.two_mono e54
      have m2 : (2 : Int) ^ (F + 54) = 18014398509481984 * 2 ^ F := by rw [Nat.add_comm, Nm.two_add]; rfl
      omega
    · omega
end Ie
end Go.Proofs.YtnfomlkhkggjeaaGreatDoor
