/-
  Texts put together: KNml, PNum, NearEx, PCmp, LHoldN, KTen, PNear, PRoad, PTravel, PConv, LAwake, LEdgeN, LEdgeV, FTab, LTab.
-/
import Derived.Test.YtjkefcikepnbpaaGreatDoorRH
import Derived.Test.YtjkefcikepnbpaaGreatDoorINum
import Derived.Test.YtjkefcikepnbpaaGreatDoorRG
import Derived.Test.YtjkefcikepnbpaaGreatDoorRE
import Derived.Test.YtjkefcikepnbpaaGreatDoorWalk4
import Derived.Deep.RegionHeld3
import Derived.Test.YtjkefcikepnbpaaGreatDoorRA
import Derived.Test.YtjkefcikepnbpaaGreatDoorRF
import Derived.Test.YtjkefcikepnbpaaGreatDoorRC
import Derived.Lib.LaidTab
namespace Go.Proofs.YtjkefcikepnbpaaGreatDoor
open Go Go.RowKit Go.Deep

theorem nml_iff (xs : List Int) (e : Int) : Nml xs e ↔ xs ≠ [] ∧ -1152921504606846976 ≤ e ∧ e ≤ 1152921504606846976 ∧ (∀ i, i < xs.length → 48 ≤ xs.getD i 0 ∧ xs.getD i 0 ≤ 57) ∧ ((xs = [48] ∧ e = 0) ∨ (xs ≠ [48] ∧ xs.getD 0 0 ≠ 48 ∧ xs.getD (xs.length - 1) 0 ≠ 48)) := by
  constructor
  · rintro ⟨h, k⟩
    refine ⟨h.1, h.2.1, h.2.2.1, fun i hi => (isdec_dig h).at hi, ?_⟩
    by_cases c : Sc.lz xs = xs.length
    · rw [Sc.nrm_zero c] at k
      injection k with k1 k2 k3
      exact .inl ⟨k2.symm, k3.symm⟩
    · rw [Sc.nrm_pos c] at k
      injection k with k1 k2 k3
      have tz0 : Sc.tz xs = 0 := by omega
      have hl := congrArg List.length k2
      rw [List.length_take, List.length_drop, tz0] at hl
      have le := Sc.lz_le xs
      have lz0 : Sc.lz xs = 0 := by omega
      have e1 := Sc.lz_end xs
      rw [lz0] at e1
      have e2 := Sc.tz_end (ds := xs) (by omega)
      rw [tz0] at e2
      refine .inr ⟨?_, e1, e2⟩
      rintro rfl
      exact e1 rfl
  · rintro ⟨h1, h2, h3, h4, h5⟩
    have dg : ∀ x ∈ xs, Sc.dg x = true := fun x hx => by
      obtain ⟨i, hi, rfl⟩ := List.getElem_of_mem hx
      have := h4 i hi
      rw [show xs.getD i 0 = xs[i] by simp [List.getD, hi]] at this
      exact Sc.dg_iff.2 this
    rcases h5 with ⟨rfl, rfl⟩ | ⟨_, e1, e2⟩
    · decide +kernel
    · have hp : 0 < xs.length := by
        rcases Nat.eq_zero_or_pos xs.length with c | c
        · exact absurd (List.length_eq_zero_iff.1 c) h1
        · exact c
      have lz0 : Sc.lz xs = 0 := Sc.lz_is (fun i hi => by omega) e1
      have tz0 : Sc.tz xs = 0 := by
        have := Sc.tz_is (ds := xs) (k := xs.length) (Nat.le_refl _) (fun i hi hj => by omega) (fun _ => e2)
        omega
      refine ⟨⟨h1, h2, h3, dg, fun _ => by rw [tz0]; omega⟩, ?_⟩
      rw [Sc.nrm_pos (by omega), lz0, tz0]
      simp

end Go.Proofs.YtjkefcikepnbpaaGreatDoor

namespace Go.Proofs.YtjkefcikepnbpaaGreatDoor
open Go Go.RowKit Go.Deep

namespace Ie
theorem Near.same {P Q P' Q' : Int} {m : Bool} {x : Int} (hQ : 0 < Q) (hQ' : 0 < Q') (h : Near P Q m x) (hv : P * Q' = P' * Q) : Near P' Q' m x := by
  have key : ∀ y : Int, (y * Q < P → y * Q' < P') ∧ (y * Q = P → y * Q' = P') ∧ (P < y * Q → P' < y * Q') := by
    intro y
    have f : y * Q * Q' = y * Q' * Q := by rw [Int.mul_assoc, Int.mul_comm Q Q', Int.mul_assoc]
    refine ⟨fun g => ?_, fun g => ?_, fun g => ?_⟩
    · have := Int.mul_lt_mul_of_pos_right g hQ'
      exact Int.lt_of_mul_lt_mul_right (a := Q) (by omega) (by omega)
    · rw [g] at f
      exact Int.eq_of_mul_eq_mul_right (a := Q) (by omega) (by omega)
    · have := Int.mul_lt_mul_of_pos_right g hQ'
      exact Int.lt_of_mul_lt_mul_right (a := Q) (by omega) (by omega)
  refine ⟨h.1, fun hx => ?_, fun hx => ?_⟩
  · rcases h.2.1 hx with g | ⟨g, g'⟩
    · exact .inl ((key _).1 g)
    · exact .inr ⟨(key _).2.1 g, g'⟩
  · rcases h.2.2 hx with g | ⟨g, g'⟩
    · exact .inl ((key _).2.2 g)
    · exact .inr ⟨((key _).2.1 g.symm).symm, g'⟩

theorem Rnd.same {n d n' d' e : Int} {m : Bool} {x : Int} (hd : 0 < d) (hd' : 0 < d') (h : Rnd n d e m x) (hv : n * d' = n' * d) : Rnd n' d' e m x := by
  intro a b hab
  refine (h a b hab).same (Int.mul_pos hd (Nm.two_pos _)) (Int.mul_pos hd' (Nm.two_pos _)) ?_
  have e1 : n * 2 ^ a * (d' * 2 ^ b) = n * d' * (2 ^ a * 2 ^ b) := by ac_rfl
  have e2 : n' * 2 ^ a * (d * 2 ^ b) = n' * d * (2 ^ a * 2 ^ b) := by ac_rfl
  rw [e1, e2, hv]

theorem Rnd.up {n d e : Int} {m : Bool} {x : Int} (k : Nat) (h : Rnd n d e m x) : Rnd (n * 2 ^ k) d (e - k) m x := by
  intro a b hab
  have := h (k + a) b (by omega)
  rw [Nm.two_add, ← Int.mul_assoc] at this
  exact this
theorem Rnd.down {n d e : Int} {m : Bool} {x : Int} (k : Nat) (h : Rnd n d e m x) : Rnd n (d * 2 ^ k) (e + k) m x := by
  intro a b hab
  have := h a (k + b) (by omega)
  rw [Nm.two_add, ← Int.mul_assoc d] at this
  exact this

theorem rnd_great {n d : Int} (hd : 0 < d) (h : 2 ^ 1024 * d ≤ n) : Rnd n d 0 false 9218868437227405312 := by
  refine Rnd.of (a := 1075) (b := 0) (by decide) ⟨⟨by omega, by omega⟩, fun _ => .inl ?_, fun h => absurd h (by omega)⟩
  rw [show (9218868437227405312 : Int) - 1 = 9218868437227405311 by omega, md_last, Int.pow_zero, Int.mul_one]
  have e1 : (2 : Int) ^ 2045 = 2 ^ 970 * 2 ^ 1075 := by rw [← Nm.two_add]
  have e2 : (2 : Int) ^ 1024 = 18014398509481984 * 2 ^ 970 := by rw [show 1024 = 54 + 970 by rfl, Nm.two_add, show (2 : Int) ^ 54 = 18014398509481984 by decide]
  have p := Nm.two_pos 970
  have q := Nm.two_pos 1075
  rw [e2] at h
  rw [e1]
  generalize (2 : Int) ^ 970 = A at *
  generalize (2 : Int) ^ 1075 = B at *
  have h1 : 18014398509481984 * A * d * B ≤ n * B := Int.mul_le_mul_of_nonneg_right h (by omega)
  have e3 : 18014398509481983 * (A * B) * d = 18014398509481983 * (A * d * B) := by ac_rfl
  have e4 : 18014398509481984 * A * d * B = 18014398509481984 * (A * d * B) := by ac_rfl
  have r := Int.mul_pos (Int.mul_pos p hd) q
  rw [e3]
  rw [e4] at h1
  generalize A * d * B = C at *
  omega

theorem rnd_little {n d : Int} (h : n * 2 ^ 1075 < d) : Rnd n d 0 false 0 := by
  refine Rnd.of (a := 1075) (b := 0) (by decide) ⟨⟨by omega, by omega⟩, fun h => absurd h (by omega), fun _ => .inl ?_⟩
  rw [md_zero, Int.one_mul, Int.pow_zero, Int.mul_one]
  exact h

theorem ten_five (k : Nat) : (10 : Int) ^ k = 5 ^ k * 2 ^ k := by rw [← Int.mul_pow]; rfl
theorem ten_pos (k : Nat) : (0 : Int) < 10 ^ k := Int.pow_pos (by decide)
theorem ten_le {a b : Nat} (h : a ≤ b) : (10 : Int) ^ a ≤ 10 ^ b := by
  have h1 := Nat.pow_le_pow_right (show 0 < 10 by decide) h
  have e : ∀ k : Nat, ((10 ^ k : Nat) : Int) = 10 ^ k := by intro k; simp
  have e1 := e a
  have e2 := e b
  omega
theorem five_mono {a b : Nat} (h : a ≤ b) : (5 : Int) ^ a ≤ 5 ^ b := by
  have h1 := Nat.pow_le_pow_right (show 0 < 5 by decide) h
  have e : ∀ k : Nat, ((5 ^ k : Nat) : Int) = 5 ^ k := by intro k; simp
  have e1 := e a
  have e2 := e b
  omega

theorem big1 : (2 : Int) ^ 1024 ≤ 10 ^ 400 := by decide +kernel
theorem big2 : (2 : Int) ^ 1075 ≤ 10 ^ 399 := by decide +kernel
theorem big3 : (2 : Int) ^ 1024 ≤ 10 ^ 767 := by decide +kernel
theorem big4 : (18014398509481984 : Int) * 5 ^ 1075 ≤ 10 ^ 768 := by decide +kernel

/-- Of the numbers with 768 figures, no two neighbours have a middle between them. -/
theorem no_middle {A T : Int} {u p q : Nat} (hA : 0 < A) (hA1 : A < 18014398509481984) (hu : u ≤ 2045) (hT : 10 ^ 767 ≤ T) (hpq : p = 0 ∨ q = 0) :
    A * 2 ^ u * 10 ^ q ≤ T * 10 ^ p * 2 ^ 1075 ∨ (T + 1) * 10 ^ p * 2 ^ 1075 ≤ A * 2 ^ u * 10 ^ q := by
  have tp := ten_pos p
  have tq := ten_pos q
  have T0 : 0 < T := by have := ten_pos 767; omega
  rcases (show 1075 ≤ u ∨ u < 1075 by omega) with h | h
  · obtain ⟨k, rfl⟩ : ∃ k, u = k + 1075 := ⟨u - 1075, by omega⟩
    have e1 : A * 2 ^ (k + 1075) * 10 ^ q = A * 2 ^ k * 10 ^ q * 2 ^ 1075 := by rw [Nm.two_add, ← Int.mul_assoc A, Int.mul_assoc (A * 2 ^ k), Int.mul_comm (2 ^ 1075) (10 ^ q), ← Int.mul_assoc]
    rw [e1]
    have P := Nm.two_pos 1075
    generalize (2 : Int) ^ 1075 = B at *
    have key : A * 2 ^ k * 10 ^ q ≤ T * 10 ^ p ∨ (T + 1) * 10 ^ p ≤ A * 2 ^ k * 10 ^ q := by
      rcases hpq with rfl | rfl
      · rw [Int.pow_zero, Int.mul_one, Int.mul_one]; omega
      · left
        rw [Int.pow_zero, Int.mul_one]
        have k1 : (2 : Int) ^ k ≤ 2 ^ 970 := Nm.two_mono (by omega)
        have e2 : (2 : Int) ^ 1024 = 18014398509481984 * 2 ^ 970 := by rw [show 1024 = 54 + 970 by rfl, Nm.two_add, show (2 : Int) ^ 54 = 18014398509481984 by decide]
        have h1 : A * 2 ^ k ≤ A * 2 ^ 970 := Int.mul_le_mul_of_nonneg_left k1 (by omega)
        have h2 : A * 2 ^ 970 ≤ 18014398509481984 * 2 ^ 970 := Int.mul_le_mul_of_nonneg_right (by omega) (by have := Nm.two_pos 970; omega)
        have h3 : T * 1 ≤ T * 10 ^ p := Int.mul_le_mul_of_nonneg_left (by omega) (by omega)
        have h4 := big3
        rw [e2] at h4
        generalize (2 : Int) ^ 970 = C at *
        generalize (10 : Int) ^ 767 = G at *
        omega
    rcases key with g | g
    · exact .inl (Int.mul_le_mul_of_nonneg_right g (by omega))
    · exact .inr (Int.mul_le_mul_of_nonneg_right g (by omega))
  · obtain ⟨k, hk⟩ : ∃ k, u + k = 1075 := ⟨1075 - u, by omega⟩
    have e0 : (2 : Int) ^ 1075 = 2 ^ u * 2 ^ k := by rw [← hk, Nm.two_add]
    have pu := Nm.two_pos u
    have f5 : (0 : Int) < 5 ^ k := Int.pow_pos (by decide)
    have N1 : A * 5 ^ k < 10 ^ 768 := by
      have g1 : A * 5 ^ k < 18014398509481984 * 5 ^ k := Int.mul_lt_mul_of_pos_right hA1 f5
      have g2 : (18014398509481984 : Int) * 5 ^ k ≤ 18014398509481984 * 5 ^ 1075 := Int.mul_le_mul_of_nonneg_left (five_mono (by omega)) (by omega)
      have g3 := big4
      generalize (5 : Int) ^ 1075 = X at *
      generalize (10 : Int) ^ 768 = Y at *
      omega
    have key : A * 5 ^ k * 10 ^ q ≤ T * 10 ^ (p + k) ∨ (T + 1) * 10 ^ (p + k) ≤ A * 5 ^ k * 10 ^ q := by
      rcases (show p + k ≤ q ∨ q < p + k by omega) with g | g
      · have hp : p = 0 := by omega
        obtain ⟨r, rfl⟩ : ∃ r, q = r + (p + k) := ⟨q - (p + k), by omega⟩
        have e1 : A * 5 ^ k * 10 ^ (r + (p + k)) = A * 5 ^ k * 10 ^ r * 10 ^ (p + k) := by rw [Int.pow_add 10 r (p + k), ← Int.mul_assoc]
        rw [e1]
        have tk := ten_pos (p + k)
        rcases (show A * 5 ^ k * 10 ^ r ≤ T ∨ T + 1 ≤ A * 5 ^ k * 10 ^ r by omega) with c | c
        · exact .inl (Int.mul_le_mul_of_nonneg_right c (by omega))
        · exact .inr (Int.mul_le_mul_of_nonneg_right c (by omega))
      · left
        obtain ⟨r, hr⟩ : ∃ r, p + k = r + 1 + q := ⟨p + k - q - 1, by omega⟩
        have e1 : T * 10 ^ (p + k) = T * 10 ^ (r + 1) * 10 ^ q := by rw [hr, Int.pow_add 10 (r + 1) q, Int.mul_assoc]
        rw [e1]
        refine Int.mul_le_mul_of_nonneg_right ?_ (by omega)
        have g1 : T * 10 ^ 1 ≤ T * 10 ^ (r + 1) := Int.mul_le_mul_of_nonneg_left (ten_le (by omega)) (by omega)
        have g2 : (10 : Int) ^ 768 = 10 ^ 767 * 10 := Int.pow_succ 10 767
        rw [Int.pow_one] at g1
        rw [g2] at N1
        generalize (10 : Int) ^ 767 = Y at *
        omega
    have e1 : ∀ X : Int, X * 10 ^ p * 2 ^ 1075 * 5 ^ k = X * 10 ^ (p + k) * 2 ^ u := by
      intro X
      rw [e0, Int.pow_add, ten_five k]
      ac_rfl
    have e2 : A * 2 ^ u * 10 ^ q * 5 ^ k = A * 5 ^ k * 10 ^ q * 2 ^ u := by ac_rfl
    rcases key with g | g
    · left
      have := Int.mul_le_mul_of_nonneg_right g (show (0 : Int) ≤ 2 ^ u by omega)
      rw [← e1, ← e2] at this
      exact Int.le_of_mul_le_mul_right this f5
    · right
      have := Int.mul_le_mul_of_nonneg_right g (show (0 : Int) ≤ 2 ^ u by omega)
      rw [← e1, ← e2] at this
      exact Int.le_of_mul_le_mul_right this f5

theorem md_side {T y : Int} {p q : Nat} (hT : 10 ^ 767 ≤ T) (hpq : p = 0 ∨ q = 0) (h0 : 0 ≤ y) (h1 : y < 9218868437227405312) :
    md y * 10 ^ q ≤ T * 10 ^ p * 2 ^ 1075 ∨ (T + 1) * 10 ^ p * 2 ^ 1075 ≤ md y * 10 ^ q := by
  have m := man_nn y h0
  exact no_middle (by omega) (by omega) (by unfold ex; omega) hT hpq

/-- V / D lies between T and T + 1, times 10^(p - q). -/
def Btw (T : Int) (p q : Nat) (V D : Int) : Prop := T * 10 ^ p * D < V * 10 ^ q ∧ V * 10 ^ q < (T + 1) * 10 ^ p * D

theorem Btw.lo {T V D M : Int} {p q : Nat} (h : Btw T p q V D) (hD : 0 < D) (hM : M * 10 ^ q ≤ T * 10 ^ p * 2 ^ 1075) : M * D < V * 2 ^ 1075 := by
  have tq := ten_pos q
  have P := Nm.two_pos 1075
  generalize (2 : Int) ^ 1075 = B at *
  have a1 : M * 10 ^ q * D ≤ T * 10 ^ p * B * D := Int.mul_le_mul_of_nonneg_right hM (by omega)
  have a2 := Int.mul_lt_mul_of_pos_right h.1 P
  have e1 : T * 10 ^ p * B * D = T * 10 ^ p * D * B := by ac_rfl
  have e2 : M * 10 ^ q * D = M * D * 10 ^ q := by ac_rfl
  have e3 : V * 10 ^ q * B = V * B * 10 ^ q := by ac_rfl
  exact Int.lt_of_mul_lt_mul_right (a := 10 ^ q) (by omega) (by omega)
theorem Btw.hi {T V D M : Int} {p q : Nat} (h : Btw T p q V D) (hD : 0 < D) (hM : (T + 1) * 10 ^ p * 2 ^ 1075 ≤ M * 10 ^ q) : V * 2 ^ 1075 < M * D := by
  have tq := ten_pos q
  have P := Nm.two_pos 1075
  generalize (2 : Int) ^ 1075 = B at *
  have a1 : (T + 1) * 10 ^ p * B * D ≤ M * 10 ^ q * D := Int.mul_le_mul_of_nonneg_right hM (by omega)
  have a2 := Int.mul_lt_mul_of_pos_right h.2 P
  have e1 : (T + 1) * 10 ^ p * B * D = (T + 1) * 10 ^ p * D * B := by ac_rfl
  have e2 : M * 10 ^ q * D = M * D * 10 ^ q := by ac_rfl
  have e3 : V * 10 ^ q * B = V * B * 10 ^ q := by ac_rfl
  exact Int.lt_of_mul_lt_mul_right (a := 10 ^ q) (by omega) (by omega)

/-- Two numbers between the same neighbours round alike. -/
theorem Btw.rnd {T V D V' D' x : Int} {p q : Nat} (hT : 10 ^ 767 ≤ T) (hpq : p = 0 ∨ q = 0) (hD : 0 < D) (hD' : 0 < D') (h : Btw T p q V D) (h' : Btw T p q V' D') (hr : Rnd V D 0 false x) : Rnd V' D' 0 false x := by
  have hn := hr 1075 0 (by decide)
  refine Rnd.of (a := 1075) (b := 0) (by decide) ?_
  rw [Int.pow_zero, Int.mul_one] at hn ⊢
  refine ⟨hn.1, fun hx => .inl ?_, fun hx => .inl ?_⟩
  · rcases md_side (y := x - 1) hT hpq (by omega) (by have := hn.1; omega) with s | s
    · exact h'.lo hD' s
    · have a := h.hi hD s
      rcases hn.2.1 hx with g | g
      · omega
      · omega
  · rcases md_side (y := x) hT hpq hn.1.1 hx with s | s
    · have a := h.lo hD s
      rcases hn.2.2 hx with g | g
      · omega
      · omega
    · exact h'.hi hD' s
end Ie

/-- The double nearest to the decimal xs * 10^e. -/
def Dr (xs : List Int) (e x : Int) : Prop := Ie.Rnd (dw xs * 10 ^ e.toNat) (10 ^ (-e).toNat) 0 false x

theorem Dr.one {xs : List Int} {e x y : Int} (h : Dr xs e x) (k : Dr xs e y) : x = y :=
  Ie.Rnd.one (a := 0) (a' := 0) (Ie.ten_pos _) (Ie.ten_pos _) h k (by omega) rfl
theorem Dr.bd {xs : List Int} {e x : Int} (h : Dr xs e x) : 0 ≤ x ∧ x ≤ 9218868437227405312 := Ie.Rnd.bd h

theorem Dr.same {xs ys : List Int} {e f x : Int} (h : Dr xs e x) (hv : dw xs * 10 ^ e.toNat * 10 ^ (-f).toNat = dw ys * 10 ^ f.toNat * 10 ^ (-e).toNat) : Dr ys f x :=
  Ie.Rnd.same (Ie.ten_pos _) (Ie.ten_pos _) h hv

theorem Dr.mono {xs ys : List Int} {e f x y : Int} (h : Dr xs e x) (k : Dr ys f y) (hv : dw xs * 10 ^ e.toNat * 10 ^ (-f).toNat ≤ dw ys * 10 ^ f.toNat * 10 ^ (-e).toNat) : x ≤ y := by
  refine Ie.Rnd.mono (a := 0) (a' := 0) (Ie.ten_pos _) (Ie.ten_pos _) h k (by omega) ?_
  rw [Int.pow_zero, Int.mul_one, Int.mul_one]
  rcases Int.lt_or_eq_of_le hv with g | g
  · exact .inl g
  · exact .inr ⟨g, id⟩

theorem Dr.tell {xs : List Int} {e x y : Int} (hd : Dig9 xs) (h : TellIs xs e x true) (hy : Dr xs e y) : x = y := tell_true hd h hy

theorem dr_up {xs : List Int} {e x : Int} (j : Nat) (he : e = (j : Int)) (h : Ie.Rnd (dw xs * 5 ^ j) 1 e false x) : Dr xs e x := by
  have g := h.up j
  rw [show e - (j : Int) = 0 by omega, Int.mul_assoc, ← Ie.ten_five] at g
  unfold Dr
  rw [show e.toNat = j by omega, show (-e).toNat = 0 by omega]
  exact g
theorem dr_down {xs : List Int} {e x : Int} (j : Nat) (he : e = -(j : Int)) (h : Ie.Rnd (dw xs) (5 ^ j) e false x) : Dr xs e x := by
  have g := h.down j
  rw [show e + (j : Int) = 0 by omega, ← Ie.ten_five] at g
  unfold Dr
  rw [show e.toNat = 0 by omega, show (-e).toNat = j by omega, Int.pow_zero, Int.mul_one]
  exact g

theorem dw_low {xs : List Int} (h : Dig9 xs) (hn : xs ≠ []) (h0 : xs.getD 0 0 ≠ 48) : 10 ^ (xs.length - 1) ≤ dw xs := by
  cases xs with
  | nil => exact absurd rfl hn
  | cons x l =>
    have h1 := dv_cons x l
    rw [dw_dv, dw_dv] at h1
    have h2 := h x (by simp)
    have h3 : x ≠ 48 := h0
    have h4 := (dw_range (xs := l) (fun y hy => h y (by simp [hy]))).1
    have p := Ie.ten_pos l.length
    have h5 : 1 * 10 ^ l.length ≤ (x - 48) * 10 ^ l.length := Int.mul_le_mul_of_nonneg_right (by omega) (by omega)
    rw [show (x :: l).length - 1 = l.length by simp]
    omega

theorem dw_last {xs : List Int} (h : Dig9 xs) (hn : xs ≠ []) (h0 : xs.getD (xs.length - 1) 0 ≠ 48) : 0 < dw xs := by
  have l0 : 0 < xs.length := List.length_pos_iff.2 hn
  have h1 := dw_take (ds := xs) (j := xs.length - 1) (by omega)
  rw [show xs.length - 1 + 1 = xs.length by omega, List.take_length] at h1
  have h2 := h.at (j := xs.length - 1) (by omega)
  have h3 := (dw_bd h (xs.length - 1) (by omega)).1
  omega

theorem dr_inf {xs : List Int} {e : Int} (hd : Dig9 xs) (hn : xs ≠ []) (h0 : xs.getD 0 0 ≠ 48) (h : 400 ≤ e + xs.length - 1) : Dr xs e 9218868437227405312 := by
  refine Ie.rnd_great (Ie.ten_pos _) ?_
  have l0 : 0 < xs.length := List.length_pos_iff.2 hn
  have lo := dw_low hd hn h0
  have h1 : (10 : Int) ^ (400 + (-e).toNat) ≤ 10 ^ (xs.length - 1 + e.toNat) := Ie.ten_le (by omega)
  rw [Int.pow_add, Int.pow_add] at h1
  have h2 : (10 : Int) ^ (xs.length - 1) * 10 ^ e.toNat ≤ dw xs * 10 ^ e.toNat := Int.mul_le_mul_of_nonneg_right lo (Int.le_of_lt (Ie.ten_pos _))
  have h3 : (2 : Int) ^ 1024 * 10 ^ (-e).toNat ≤ 10 ^ 400 * 10 ^ (-e).toNat := Int.mul_le_mul_of_nonneg_right Ie.big1 (Int.le_of_lt (Ie.ten_pos _))
  exact Int.le_trans h3 (Int.le_trans h1 h2)

theorem dr_zero {xs : List Int} {e : Int} (hd : Dig9 xs) (hn : xs ≠ []) (h : e + xs.length - 1 ≤ -400) : Dr xs e 0 := by
  refine Ie.rnd_little ?_
  have l0 : 0 < xs.length := List.length_pos_iff.2 hn
  have hi := (dw_range hd).2
  have nn := (dw_range hd).1
  rw [show e.toNat = 0 by omega, Int.pow_zero, Int.mul_one]
  have h1 : (10 : Int) ^ (xs.length + 399) ≤ 10 ^ (-e).toNat := Ie.ten_le (by omega)
  rw [Int.pow_add] at h1
  have t := Ie.ten_pos 399
  have h2 : dw xs * 2 ^ 1075 ≤ dw xs * 10 ^ 399 := Int.mul_le_mul_of_nonneg_left Ie.big2 nn
  have h3 : dw xs * 10 ^ 399 < 10 ^ xs.length * 10 ^ 399 := Int.mul_lt_mul_of_pos_right hi t
  exact Int.lt_of_le_of_lt h2 (Int.lt_of_lt_of_le h3 h1)

theorem btw_of {T t v e E : Int} {r : Nat} (hE : E = e + r) (hv : v = T * 10 ^ r + t) (t0 : 0 < t) (t1 : t < 10 ^ r) : Ie.Btw T E.toNat (-E).toNat (v * 10 ^ e.toNat) (10 ^ (-e).toNat) := by
  have ta := tens_add hE
  have pp : (0 : Int) < 10 ^ e.toNat * 10 ^ (-E).toNat := Int.mul_pos (Ie.ten_pos _) (Ie.ten_pos _)
  unfold Ie.Btw
  rw [Int.mul_assoc T, Int.mul_assoc (T + 1), ← ta, Int.mul_assoc v, ← Int.mul_assoc T, ← Int.mul_assoc (T + 1)]
  refine ⟨Int.mul_lt_mul_of_pos_right (by omega) pp, Int.mul_lt_mul_of_pos_right ?_ pp⟩
  rw [Int.add_mul, Int.one_mul]
  omega

theorem dig1 : Dig9 [49] := fun x hx => by simp at hx; omega
theorem Dig9.append {xs ys : List Int} (h : Dig9 xs) (k : Dig9 ys) : Dig9 (xs ++ ys) := fun x hx => by
  rcases List.mem_append.1 hx with g | g
  · exact h x g
  · exact k x g

/-- Of the figures behind the first K only that there are some counts. -/
theorem dr_cut {xs : List Int} {e x : Int} (K : Nat) (hK : 768 ≤ K) (hd : Dig9 xs) (hl : K < xs.length) (h0 : xs.getD 0 0 ≠ 48) (h1 : xs.getD (xs.length - 1) 0 ≠ 48) (h : Dr (xs.take K ++ [49]) (e + xs.length - K - 1) x) : Dr xs e x := by
  have hT : 10 ^ 767 ≤ dw (xs.take K) := by
    have hlen : (xs.take K).length = K := by rw [List.length_take]; omega
    have := dw_low (hd.take K) (by intro c; rw [c] at hlen; simp at hlen; omega) (by
      cases xs with
      | nil => simp at hl
      | cons x l =>
        cases K with
        | zero => omega
        | succ k => simpa using h0)
    rw [hlen] at this
    exact Int.le_trans (Ie.ten_le (by omega)) this
  have sp := dw_split (xs := xs) K
  have tl := dw_range (hd.drop K)
  rw [List.length_drop] at tl
  have tp : 0 < dw (xs.drop K) := by
    refine dw_last (hd.drop K) ?_ ?_
    · intro c
      have := congrArg List.length c
      rw [List.length_drop, List.length_nil] at this
      omega
    · rw [List.length_drop, show (xs.drop K).getD (xs.length - K - 1) 0 = xs.getD (xs.length - 1) 0 by
        simp only [List.getD, List.getElem?_drop]; rw [show K + (xs.length - K - 1) = xs.length - 1 by omega]]
      exact h1
  obtain ⟨r, hr⟩ : ∃ r : Nat, xs.length = r + K := ⟨xs.length - K, by omega⟩
  rw [show xs.length - K = r by omega] at sp tl
  have b1 := btw_of (e := e) (E := e + r) rfl sp tp tl.2
  have sn := dw_snoc (xs.take K) 49
  have b2 := btw_of (T := dw (xs.take K)) (t := 1) (v := dw (xs.take K ++ [49])) (e := e + xs.length - K - 1) (E := e + r) (r := 1) (by omega) (by rw [sn, Int.pow_one, Int.mul_comm]; rfl) (by omega) (by decide)
  exact b2.rnd hT (by omega) (Ie.ten_pos _) (Ie.ten_pos _) b1 h

/-- Zeros at both ends don't count. -/
theorem dw_zeros {l : List Int} (h : ∀ i, i < l.length → l.getD i 0 = 48) : dw l = 0 := by
  have : ∀ j, j ≤ l.length → dw (l.take j) = 0 := by
    intro j
    induction j with
    | zero => intro _; simp [dw]
    | succ j ih =>
      intro hj
      rw [dw_take (by omega), ih (by omega), h j (by omega)]
      rfl
  have := this l.length (Nat.le_refl _)
  rwa [List.take_length] at this
theorem dw_head0 {l : List Int} (k : Nat) (h : ∀ i, i < k → l.getD i 0 = 48) : dw l = dw (l.drop k) := by
  rw [dw_split (xs := l) k, dw_zeros (l := l.take k) (fun i hi => ?_), Int.zero_mul, Int.zero_add]
  rw [List.length_take] at hi
  have hik : i < k := by omega
  have := h i hik
  simp only [List.getD, List.getElem?_take, if_pos hik] at *
  exact this
theorem dw_tail0 {l : List Int} (k : Nat) (h : ∀ i, k ≤ i → i < l.length → l.getD i 0 = 48) : dw l = dw (l.take k) * 10 ^ (l.length - k) := by
  rw [dw_split (xs := l) k, dw_zeros (l := l.drop k) (fun i hi => ?_), Int.add_zero]
  rw [List.length_drop] at hi
  have := h (k + i) (by omega) (by omega)
  simp only [List.getD, List.getElem?_drop] at *
  exact this

theorem dw_nrm (neg : Bool) (xs : List Int) (e : Int) : dw xs * 10 ^ e.toNat * 10 ^ (-(Sc.nrm neg xs e).e).toNat = dw (Sc.nrm neg xs e).ds * 10 ^ (Sc.nrm neg xs e).e.toNat * 10 ^ (-e).toNat := by
  by_cases h : Sc.lz xs = xs.length
  · rw [Sc.nrm_zero h]
    rw [dw_zeros (l := xs) (fun i hi => Sc.lz_at (by omega))]
    simp [dw]
  · rw [Sc.nrm_pos h]
    simp only
    have lt := Sc.lz_tz h
    have a1 := dw_head0 (l := xs) (Sc.lz xs) (fun i hi => Sc.lz_at hi)
    have a2 := dw_tail0 (l := xs.drop (Sc.lz xs)) (xs.length - Sc.tz xs - Sc.lz xs) (fun i hi hl => by
      rw [List.length_drop] at hl
      have := Sc.tz_at (ds := xs) (i := Sc.lz xs + i) (by omega) (by omega)
      rw [← this]
      exact Sc.pk_drop xs _ i)
    rw [List.length_drop, show xs.length - Sc.lz xs - (xs.length - Sc.tz xs - Sc.lz xs) = Sc.tz xs by omega] at a2
    rw [a1, a2]
    have ta := tens_add (e := e) (q := e + (Sc.tz xs : Nat)) (r := Sc.tz xs) rfl
    generalize dw ((xs.drop (Sc.lz xs)).take (xs.length - Sc.tz xs - Sc.lz xs)) = D
    rw [Int.mul_assoc D, Int.mul_assoc D, Int.mul_assoc (10 ^ Sc.tz xs), ta, ← Int.mul_assoc D]

theorem Dr.nrm {neg : Bool} {xs : List Int} {e x : Int} (h : Dr (Sc.nrm neg xs e).ds (Sc.nrm neg xs e).e x) : Dr xs e x := h.same (dw_nrm neg xs e).symm
theorem Dr.nrm' {neg : Bool} {xs : List Int} {e x : Int} (h : Dr xs e x) : Dr (Sc.nrm neg xs e).ds (Sc.nrm neg xs e).e x := h.same (dw_nrm neg xs e)
end Go.Proofs.YtjkefcikepnbpaaGreatDoor

namespace Go.Proofs.YtjkefcikepnbpaaGreatDoor

/-- There is always a nearest double. -/
theorem near_ex (P Q : Int) : ∃ x, Ie.Near P Q false x := by
  have step : ∀ k : Nat, (∃ x, Ie.Near P Q false x) ∨ ((k : Int) ≤ 9218868437227405312 → 0 < (k : Int) → Ie.md (k - 1) * Q < P ∨ (Ie.md (k - 1) * Q = P ∧ (k : Int) % 2 = 0)) := by
    intro k
    induction k with
    | zero => exact .inr (fun _ h => absurd h (by simp))
    | succ k ih =>
      rcases ih with ih | ih
      · exact .inl ih
      · rcases (show (k : Int) < 9218868437227405312 ∨ 9218868437227405312 ≤ (k : Int) by omega) with hk | hk
        · by_cases hu : P < Ie.md k * Q ∨ (P = Ie.md k * Q ∧ (k : Int) % 2 = 0)
          · left
            refine ⟨k, ⟨by omega, by omega⟩, fun h => ?_, fun _ => ?_⟩
            · rcases ih (by omega) h with g | ⟨g, g'⟩
              · exact .inl g
              · exact .inr ⟨g, .inl g'⟩
            · rcases hu with g | ⟨g, g'⟩
              · exact .inl g
              · exact .inr ⟨g, g', rfl⟩
          · right
            intro _ _
            rw [show ((k + 1 : Nat) : Int) - 1 = k by omega]
            rcases Int.lt_trichotomy (Ie.md k * Q) P with g | g | g
            · exact .inl g
            · refine .inr ⟨g, ?_⟩
              have : ¬ (k : Int) % 2 = 0 := fun c => hu (.inr ⟨g.symm, c⟩)
              omega
            · exact absurd (.inl g) hu
        · right
          intro h; omega
  rcases step 9218868437227405312 with h | h
  · exact h
  · refine ⟨9218868437227405312, ⟨by decide, by decide⟩, fun _ => ?_, fun h => absurd h (by decide)⟩
    rcases h (by decide) (by decide) with g | ⟨g, g'⟩
    · exact .inl g
    · exact .inr ⟨g, .inl g'⟩

end Go.Proofs.YtjkefcikepnbpaaGreatDoor

namespace Go.Proofs.YtjkefcikepnbpaaGreatDoor
open Go Go.RowKit Go.Deep

theorem dw_cons (x : Int) (l : List Int) : dw (x :: l) = (x - 48) * 10 ^ l.length + dw l := by
  have h := dv_cons x l
  rw [dw_dv, dw_dv] at h
  exact h

theorem lex_le : ∀ (xs ys : List Int) (M : Nat), Dig9 xs → Dig9 ys → xs.length ≤ M → ys.length ≤ M → Sc.lex xs ys ≤ 0 → dw xs * 10 ^ (M - xs.length) ≤ dw ys * 10 ^ (M - ys.length)
  | [], ys, M, _, hy, _, _, _ => by
    have := (dw_range hy).1
    have h := Int.mul_nonneg this (Int.le_of_lt (Ie.ten_pos (M - ys.length)))
    simp only [dw, List.foldl_nil, Int.zero_mul]
    exact h
  | x :: a, [], M, _, _, _, _, h => by simp [Sc.lex] at h
  | x :: a, y :: b, 0, _, _, h, _, _ => by simp at h
  | x :: a, y :: b, M + 1, hx, hy, lx, ly, h => by
    have hxa : Dig9 a := fun z hz => hx z (by simp [hz])
    have hyb : Dig9 b := fun z hz => hy z (by simp [hz])
    rw [List.length_cons] at lx ly
    have ea : ∀ (z : Int) (l : List Int), l.length ≤ M → dw (z :: l) * 10 ^ (M + 1 - (z :: l).length) = (z - 48) * 10 ^ M + dw l * 10 ^ (M - l.length) := by
      intro z l hl
      rw [dw_cons, List.length_cons, show M + 1 - (l.length + 1) = M - l.length by omega, Int.add_mul, Int.mul_assoc, ← Int.pow_add, show l.length + (M - l.length) = M by omega]
    rw [ea x a (by omega), ea y b (by omega)]
    simp only [Sc.lex] at h
    rcases Int.lt_trichotomy x y with c | c | c
    · have b1 : dw a * 10 ^ (M - a.length) < 10 ^ a.length * 10 ^ (M - a.length) := Int.mul_lt_mul_of_pos_right (dw_range hxa).2 (Ie.ten_pos _)
      rw [← Int.pow_add, show a.length + (M - a.length) = M by omega] at b1
      have b2 : 0 ≤ dw b * 10 ^ (M - b.length) := Int.mul_nonneg (dw_range hyb).1 (Int.le_of_lt (Ie.ten_pos _))
      have b3 : (x - 48 + 1) * 10 ^ M ≤ (y - 48) * 10 ^ M := Int.mul_le_mul_of_nonneg_right (by omega) (Int.le_of_lt (Ie.ten_pos _))
      rw [Int.add_mul, Int.one_mul] at b3
      omega
    · subst c
      rw [if_neg (by omega), if_neg (by omega)] at h
      have := lex_le a b M hxa hyb (by omega) (by omega) h
      omega
    · rw [if_neg (by omega), if_pos c] at h
      omega

/-- a's number is at most b's. -/
def Vle (a b : Sc.D) : Prop := dw a.ds * 10 ^ a.e.toNat * 10 ^ (-b.e).toNat ≤ dw b.ds * 10 ^ b.e.toNat * 10 ^ (-a.e).toNat

theorem mc_le {a b : Sc.D} (ha : Dig9 a.ds) (hb : Dig9 b.ds) (hn : b.ds ≠ []) (h0 : b.ds.getD 0 0 ≠ 48) (h : Sc.mc a b ≤ 0) : Vle a b := by
  unfold Vle
  have l0 : 0 < b.ds.length := List.length_pos_iff.2 hn
  rw [Int.mul_assoc, Int.mul_assoc, ← Int.pow_add, ← Int.pow_add]
  unfold Sc.mc at h
  split at h
  · rename_i hp
    have hl : Sc.pl a < Sc.pl b := by rcases Sc.cmpI_c (Sc.pl a) (Sc.pl b) with k | k | k <;> omega
    unfold Sc.pl at hl
    have h1 : dw a.ds * 10 ^ (a.e.toNat + (-b.e).toNat) ≤ 10 ^ a.ds.length * 10 ^ (a.e.toNat + (-b.e).toNat) := Int.mul_le_mul_of_nonneg_right (Int.le_of_lt (dw_range ha).2) (Int.le_of_lt (Ie.ten_pos _))
    have h2 : 10 ^ (b.ds.length - 1) * 10 ^ (b.e.toNat + (-a.e).toNat) ≤ dw b.ds * 10 ^ (b.e.toNat + (-a.e).toNat) := Int.mul_le_mul_of_nonneg_right (dw_low hb hn h0) (Int.le_of_lt (Ie.ten_pos _))
    rw [← Int.pow_add] at h1 h2
    exact Int.le_trans h1 (Int.le_trans (Ie.ten_le (by omega)) h2)
  · rename_i hp
    have hl : Sc.pl a = Sc.pl b := by omega
    unfold Sc.pl at hl
    obtain ⟨M, hM⟩ : ∃ M, M = max a.ds.length b.ds.length := ⟨_, rfl⟩
    have := lex_le a.ds b.ds M ha hb (by omega) (by omega) h
    obtain ⟨s, hs⟩ : ∃ s, a.e.toNat + (-b.e).toNat = M - a.ds.length + s := ⟨a.e.toNat + (-b.e).toNat - (M - a.ds.length), by omega⟩
    have hs2 : b.e.toNat + (-a.e).toNat = M - b.ds.length + s := by omega
    rw [hs, hs2, Int.pow_add, Int.pow_add, ← Int.mul_assoc, ← Int.mul_assoc]
    exact Int.mul_le_mul_of_nonneg_right this (Int.le_of_lt (Ie.ten_pos _))

/-- A double with its sign, as a number. -/
def sv (neg : Bool) (x : Int) : Int := if neg = true then -x else x

theorem dr48 {x : Int} (h : Dr [48] 0 x) : x = 0 := by
  have h2 : Ie.Rnd 0 1 0 false x := by simpa [Dr, dw] using h
  exact Ie.Rnd.one (a := 0) (a' := 0) (by decide) (by decide) h2 (Ie.rnd_zero 1 0 false (by decide)) (by omega) rfl

theorem Nml.dig {xs : List Int} {e : Int} (h : Nml xs e) : Dig9 xs := isdec_dig h.1
theorem Nml.ne {xs : List Int} {e : Int} (h : Nml xs e) : xs ≠ [] := h.1.1
theorem Nml.form {xs : List Int} {e : Int} (h : Nml xs e) : (xs = [48] ∧ e = 0) ∨ (xs ≠ [48] ∧ xs.getD 0 0 ≠ 48 ∧ xs.getD (xs.length - 1) 0 ≠ 48) := ((nml_iff xs e).1 h).2.2.2.2

theorem Nml.zero {xs : List Int} {e x : Int} (h : Nml xs e) (h4 : xs = [48]) (hx : Dr xs e x) : x = 0 := by
  rcases h.form with ⟨_, g⟩ | ⟨g, _⟩
  · subst h4 g; exact dr48 hx
  · exact absurd h4 g

theorem cmp_sv {a b : Sc.D} {x y : Int} (ha : Nml a.ds a.e) (hb : Nml b.ds b.e) (hx : Dr a.ds a.e x) (hy : Dr b.ds b.e y) (h : Sc.cmpD a b ≤ 0) : sv a.neg x ≤ sv b.neg y := by
  have xb := hx.bd
  have yb := hy.bd
  unfold Sc.cmpD at h
  unfold sv
  rcases Sc.sgn_c a with ⟨a1, a2⟩ | ⟨a1, a2, a3⟩ | ⟨a1, a2, a3⟩ <;> rcases Sc.sgn_c b with ⟨b1, b2⟩ | ⟨b1, b2, b3⟩ | ⟨b1, b2, b3⟩
  · have := ha.zero a1 hx; have := hb.zero b1 hy; subst x y; split <;> split <;> omega
  · rw [a2, b3, if_pos (by decide)] at h; exact absurd h (by decide)
  · have := ha.zero a1 hx; subst x; rw [b2]; split <;> simp <;> omega
  · have := hb.zero b1 hy; subst y; rw [a2, if_pos rfl]; split <;> omega
  · rw [a3, b3, if_neg (by decide), a2, if_pos rfl] at h
    have g := hb.form
    have k := ha.form
    have v := mc_le hb.dig ha.dig ha.ne (by rcases k with ⟨k, _⟩ | k; · exact absurd k a1
                                            · exact k.2.1) h
    have := hy.mono hx v
    rw [a2, b2, if_pos rfl, if_pos rfl]
    omega
  · rw [a2, b2]; simp; omega
  · rw [a3, b2, if_pos (by decide)] at h; exact absurd h (by decide)
  · rw [a3, b3, if_pos (by decide)] at h; exact absurd h (by decide)
  · rw [a3, b3, if_neg (by decide), a2, if_neg (by decide)] at h
    have k := hb.form
    have v := mc_le ha.dig hb.dig hb.ne (by rcases k with ⟨k, _⟩ | k; · exact absurd k b1
                                            · exact k.2.1) h
    have := hx.mono hy v
    rw [a2, b2]
    simp
    omega

theorem nml_nrm {xs : List Int} {e : Int} (neg : Bool) (h : Sc.IsDec xs e) : Nml (Sc.nrm neg xs e).ds (Sc.nrm neg xs e).e := by
  rw [nml_iff]
  obtain ⟨h1, h2, h3, h4, h5⟩ := h
  by_cases hz : Sc.lz xs = xs.length
  · rw [Sc.nrm_zero hz]
    refine ⟨by simp, by simp, by simp, ?_, .inl ⟨rfl, rfl⟩⟩
    intro i hi
    simp at hi
    subst hi
    simp
  · rw [Sc.nrm_pos hz]
    have lt := Sc.lz_tz hz
    have e5 := h5 hz
    simp only
    have len : ((xs.drop (Sc.lz xs)).take (xs.length - Sc.tz xs - Sc.lz xs)).length = xs.length - Sc.tz xs - Sc.lz xs := by rw [List.length_take, List.length_drop]; omega
    have at_ : ∀ i, i < xs.length - Sc.tz xs - Sc.lz xs → ((xs.drop (Sc.lz xs)).take (xs.length - Sc.tz xs - Sc.lz xs)).getD i 0 = Sc.pk xs (Sc.lz xs + i) := by
      intro i hi
      have := Sc.pk_take (xs.drop (Sc.lz xs)) (xs.length - Sc.tz xs - Sc.lz xs) i
      rw [if_pos hi, Sc.pk_drop] at this
      exact this
    have hd : ((xs.drop (Sc.lz xs)).take (xs.length - Sc.tz xs - Sc.lz xs)).getD 0 0 ≠ 48 := by
      rw [at_ 0 (by omega), Nat.add_zero]; exact Sc.lz_end xs
    refine ⟨?_, by omega, by omega, ?_, .inr ⟨?_, hd, ?_⟩⟩
    · intro c; rw [c] at len; simp at len; omega
    · intro i hi
      rw [len] at hi
      rw [at_ i hi]
      have hi2 : Sc.lz xs + i < xs.length := by omega
      have := h4 (xs[Sc.lz xs + i]) (List.getElem_mem hi2)
      have e : Sc.pk xs (Sc.lz xs + i) = xs[Sc.lz xs + i] := by simp [Sc.pk, List.getD, hi2]
      rw [e]
      exact Sc.dg_iff.1 this
    · intro c; rw [c] at hd; exact hd rfl
    · rw [len, at_ _ (by omega), show Sc.lz xs + (xs.length - Sc.tz xs - Sc.lz xs - 1) = xs.length - Sc.tz xs - 1 by omega]
      exact Sc.tz_end (by omega)

theorem dr_ex (xs : List Int) (e : Int) : ∃ y, Dr xs e y := by
  obtain ⟨x, h⟩ := near_ex (dw xs * 10 ^ e.toNat * 2 ^ 1075) (10 ^ (-e).toNat * 2 ^ 0)
  exact ⟨x, Ie.Rnd.of (a := 1075) (b := 0) (by decide) h⟩
end Go.Proofs.YtjkefcikepnbpaaGreatDoor

namespace Go.Proofs.YtjkefcikepnbpaaGreatDoor
open Go Go.RowKit Go.Deep
namespace Sh

theorem nml_fx {xs : List Int} {e : Int} (h : Nml xs e) : (xs = [48] ∧ e = 0) ∨ Fx.Nml xs := by
  rcases h.form with c | c
  · exact .inl c
  · refine .inr ⟨fun d hd => ?_, h.ne, c.2.1, c.2.2⟩
    exact h.dig d hd
theorem cmpI_lt {x y : Int} : Sc.cmpI x y < 0 ↔ x < y := by rcases Sc.cmpI_c x y with k | k | k <;> omega
theorem cmpI_le {x y : Int} : Sc.cmpI x y ≤ 0 ↔ x ≤ y := by rcases Sc.cmpI_c x y with k | k | k <;> omega

theorem uk_uv {D : Sc.D} {K : Nat} (h : Ok D) (hK : 1075 ≤ K) : uk K D = uv D * 10 ^ (K - 1075) := by
  have := h.lo
  unfold uk uv
  rw [Int.mul_assoc, ← Int.pow_add, show (D.e + 1075).toNat + (K - 1075) = (D.e + K).toNat by omega]
theorem pk_ok {D : Sc.D} {K : Nat} (h : Ok D) (hK : 1075 ≤ K) (hp : 0 < uv D) : Pk K D := ⟨h.neg, by have := h.lo; omega, h.nml hp⟩

theorem hold_near {a : Int} {X : Sc.D} (h0 : 0 ≤ a) (h1 : a < 9218868437227405312) (hn : X.neg = false) (hX : Nml X.ds X.e) :
    hD (dd (A a)) (dd (B a)) X (decide (a % 2 = 0)) = true ↔ Dr X.ds X.e a := by
  have oA := dd_is (A_nn h0)
  have oB := dd_is (B_nn h0)
  have bp : 0 < B a := Int.lt_of_le_of_lt (V_nn h0) V_B
  rcases nml_fx hX with ⟨z1, z2⟩ | hN
  · have hXz : X = ⟨false, [48], 0⟩ := by
      obtain ⟨n, ds, e⟩ := X
      simp at z1 z2 hn
      rw [hn, z1, z2]
    subst hXz
    have oX : Ok ⟨false, [48], 0⟩ := ⟨rfl, by show (-1075 : Int) ≤ 0; omega, .inl ⟨rfl, rfl⟩⟩
    have uX : uv ⟨false, [48], 0⟩ = 0 := uv_zero rfl
    unfold hD
    rw [cmp_uv oA.1 oX, cmp_uv oX oB.1, oA.2, oB.2, uX]
    constructor
    · intro h
      have hA : A a = 0 := by
        simp [cmpI_lt, cmpI_le] at h
        have := A_nn h0
        omega
      have ha : a = 0 := by
        rcases (show a = 0 ∨ 0 < a by omega) with c | c
        · exact c
        · have := A_pos c; omega
      rw [ha]
      have : Ie.Rnd 0 1 0 false 0 := Ie.rnd_zero 1 0 false (by decide)
      simpa [Dr, dw] using this
    · intro h
      have ha := dr48 h
      subst ha
      simp [cmpI_lt, cmpI_le, A]
      omega
  · obtain ⟨K, hK⟩ : ∃ K : Nat, K = 1075 + (-X.e).toNat := ⟨_, rfl⟩
    have k1 : 1075 ≤ K := by omega
    have pX : Pk K X := ⟨hn, by omega, hN⟩
    have pB : Pk K (dd (B a)) := pk_ok oB.1 k1 (by rw [oB.2]; exact bp)
    obtain ⟨Z, hZ⟩ : ∃ Z : Int, (10 : Int) ^ (K - 1075) = Z := ⟨_, rfl⟩
    have zp : 0 < Z := by rw [← hZ]; exact Fx.p_pos _
    have uB : uk K (dd (B a)) = B a * Z := by rw [uk_uv oB.1 k1, oB.2, hZ]
    obtain ⟨U, hU⟩ : ∃ U, uk K X = U := ⟨_, rfl⟩
    obtain ⟨P, hP⟩ : ∃ P, dw X.ds * 10 ^ X.e.toNat * 2 ^ 1075 = P := ⟨_, rfl⟩
    obtain ⟨Q, hQ⟩ : ∃ Q : Int, (10 : Int) ^ (-X.e).toNat = Q := ⟨_, rfl⟩
    have qp : 0 < Q := by rw [← hQ]; exact Fx.p_pos _
    have tz : 0 < T5 * Z := Int.mul_pos T5_pos zp
    have key : U * Q = P * (T5 * Z) := by
      rw [← hU, ← hQ, ← hP, ← hZ]
      unfold uk T5
      rw [dw_dv, Int.mul_assoc, ← Int.pow_add, show (X.e + K).toNat + (-X.e).toNat = X.e.toNat + (1075 + (K - 1075)) by omega, Int.pow_add, Int.pow_add]
      generalize K - 1075 = z2
      generalize 1075 = z
      rw [show (10 : Int) ^ z = 2 ^ z * 5 ^ z by rw [← Int.mul_pow]; rfl]
      generalize (2 : Int) ^ z = x1
      generalize (5 : Int) ^ z = x2
      generalize (10 : Int) ^ X.e.toNat = x3
      generalize (10 : Int) ^ z2 = x4
      ac_rfl
    have e3 : ∀ M : Int, M * T5 * Z * Q = M * Q * (T5 * Z) := by
      intro M
      generalize T5 = t
      ac_rfl
    have lt : ∀ M : Int, M * Q < P ↔ M * T5 * Z < U := by
      intro M
      constructor
      · intro g
        refine Int.lt_of_mul_lt_mul_right (a := Q) ?_ (Int.le_of_lt qp)
        rw [e3, key]
        exact Int.mul_lt_mul_of_pos_right g tz
      · intro g
        refine Int.lt_of_mul_lt_mul_right (a := T5 * Z) ?_ (Int.le_of_lt tz)
        rw [← key, ← e3]
        exact Int.mul_lt_mul_of_pos_right g qp
    have gt : ∀ M : Int, P < M * Q ↔ U < M * T5 * Z := by
      intro M
      constructor
      · intro g
        refine Int.lt_of_mul_lt_mul_right (a := Q) ?_ (Int.le_of_lt qp)
        rw [e3, key]
        exact Int.mul_lt_mul_of_pos_right g tz
      · intro g
        refine Int.lt_of_mul_lt_mul_right (a := T5 * Z) ?_ (Int.le_of_lt tz)
        rw [← key, ← e3]
        exact Int.mul_lt_mul_of_pos_right g qp
    have hB : B a = Ie.md a * T5 := rfl
    have dr : Dr X.ds X.e a ↔ Ie.Near P Q false a := by
      unfold Dr
      constructor
      · intro h
        have := h 1075 0 (by decide)
        rw [Int.pow_zero, Int.mul_one, hP, hQ] at this
        exact this
      · intro h
        refine Ie.Rnd.of (a := 1075) (b := 0) (by decide) ?_
        rw [Int.pow_zero, Int.mul_one, hP, hQ]
        exact h
    rw [dr]
    have up : 0 < U := by rw [← hU]; exact pX.pos
    have cB : Sc.cmpD X (dd (B a)) = Sc.cmpI U (Ie.md a * T5 * Z) := by rw [cmpk pX pB, hU, uB, hB]
    have g1 := gt (Ie.md a)
    have g2 := lt (Ie.md a)
    rcases (show a = 0 ∨ 0 < a by omega) with ca | ca
    · subst ca
      have cA : Sc.cmpD (dd (A 0)) X = -1 := by
        rw [show A 0 = 0 by rw [A, if_pos rfl], dd_zero]
        unfold Sc.cmpD
        rw [show Sc.sgn (⟨false, [48], 0⟩ : Sc.D) = 0 from rfl, Sc.sgn, if_neg (nml_ne hN), hn]
        rfl
      unfold hD Ie.Near
      rw [cA, cB]
      have m1 := g1
      have m2 := g2
      generalize Ie.md 0 * T5 * Z = BZ at *
      generalize Ie.md 0 * Q = MQ at *
      simp [cmpI_lt, cmpI_le]
      omega
    · have pA : Pk K (dd (A a)) := pk_ok oA.1 k1 (by rw [oA.2]; exact A_pos ca)
      have hA : A a = Ie.md (a - 1) * T5 := by rw [A, if_neg (by omega), B]
      have cA : Sc.cmpD (dd (A a)) X = Sc.cmpI (Ie.md (a - 1) * T5 * Z) U := by rw [cmpk pA pX, hU, uk_uv oA.1 k1, oA.2, hZ, hA]
      have g3 := gt (Ie.md (a - 1))
      have g4 := lt (Ie.md (a - 1))
      unfold hD Ie.Near
      rw [cA, cB]
      generalize Ie.md a * T5 * Z = BZ at *
      generalize Ie.md a * Q = MQ at *
      generalize Ie.md (a - 1) * T5 * Z = AZ at *
      generalize Ie.md (a - 1) * Q = NQ at *
      simp [cmpI_lt, cmpI_le]
      omega
end Sh
end Go.Proofs.YtjkefcikepnbpaaGreatDoor

namespace Go.Proofs.YtjkefcikepnbpaaGreatDoor
open Go Go.RowKit Go.Deep

theorem ten_pw {j : Nat} (h : j ≤ 20000) : (10 : Int) ^ j < Nm.pw 4096 := by
  have h1 := Nat.pow_le_pow_left (show 10 ≤ 2 ^ 4 by decide) j
  rw [← Nat.pow_mul] at h1
  have e1 : ((10 ^ j : Nat) : Int) = 10 ^ j := by simp
  have e2 : ((2 ^ (4 * j) : Nat) : Int) = 2 ^ (4 * j) := by simp
  have h3 := two_pw (u := 4 * j) (by omega)
  omega

end Go.Proofs.YtjkefcikepnbpaaGreatDoor

namespace Go.Proofs.YtjkefcikepnbpaaGreatDoor
open Go Go.RowKit Go.Deep

/-- What cut keeps. -/
def CutIs (xs : List Int) (e : Int) (ys : List Int) (f : Int) : Prop := (xs.length ≤ 768 ∧ ys = xs ∧ f = e) ∨ (768 < xs.length ∧ ys = xs.take 768 ++ [49] ∧ f = e + xs.length - (768 : Nat) - 1)

theorem Str.cat {s t : ByteArray} {xs ys : List Int} (h : Str s xs) (k : Str t ys) : Str (s ++ t) (xs ++ ys) := by
  unfold Str at *
  rw [ByteArray.data_append, Array.toList_append, List.map_append, h, k]

set_option maxRecDepth 100000 in
set_option maxHeartbeats 1000000 in
theorem cut_any10 (s : ByteArray) (xs : List Int) (e : Int) (w : World) (hs : Str s xs) (hn : xs.length ≤ 281474976710656) (e0 : -1152921504606846976 ≤ e) (e1 : e ≤ 1152921504606846976) :
    Calls Tryz.prog 197 #[.string s, .int .i64 e] w fun r w' => (∃ t ys f, r = .returned (.tuple #[.string t, .int .i64 f]) ∧ Str t ys ∧ CutIs xs e ys f) ∧ w' = w := by
  have hsz := hs.size
  by_cases h : xs.length ≤ 768
  · have F : Hid (∃ t ys f, Ending.returned (.tuple #[.string s, .int .i64 e]) = .returned (.tuple #[.string t, .int .i64 f]) ∧ Str t ys ∧ CutIs xs e ys f) := ⟨s, xs, e, rfl, hs, .inl ⟨h, rfl, rfl⟩⟩
    have hi : (xs.length : Int) ≤ 768 := by omega
    clear hs hn h
    go_enter Tryz.func197, Tryz.ntmps197
    go_wp2_with fail
    go_ret2
    exact ⟨F.out, rfl⟩
  · have EX := hs.extract 0 768
    simp only [List.drop_zero, Nat.sub_zero] at EX
    have F : Hid (∃ t ys f, Ending.returned (.tuple #[.string (s.extract 0 768 ++ ⟨#[49]⟩), .int .i64 (e + xs.length - (768 : Nat) - 1)]) = .returned (.tuple #[.string t, .int .i64 f]) ∧ Str t ys ∧ CutIs xs e ys f) := ⟨_, _, _, rfl, EX.cat (ys := [49]) rfl, .inr ⟨by omega, rfl, rfl⟩⟩
    have hx : (s.extract 0 768).size = 768 := by rw [EX.size, List.length_take]; omega
    have hi : ¬ (xs.length : Int) ≤ 768 := by omega
    have hb : (xs.length : Int) ≤ 281474976710656 := by omega
    have hs1 : 768 ≤ s.size := by omega
    obtain ⟨q, hq⟩ : ∃ q, e + ((xs.length : Int) - 768 - 1) = q := ⟨_, rfl⟩
    have hq2 : e + (xs.length : Int) - (768 : Nat) - 1 = q := by omega
    rw [hq2] at F
    clear hs hn h EX hq2
    go_enter Tryz.func197, Tryz.ntmps197
    go_wp2_with fail
    go_ret2
    exact ⟨F.out, rfl⟩

theorem five_pw10 {j : Nat} (h : j ≤ 4000) : (5 : Int) ^ j < Nm.pw 4095 := by
  have h1 := Nat.pow_le_pow_left (show 5 ≤ 2 ^ 3 by decide) j
  rw [← Nat.pow_mul] at h1
  have e1 : ((5 ^ j : Nat) : Int) = 5 ^ j := by simp
  have e2 : ((2 ^ (3 * j) : Nat) : Int) = 2 ^ (3 * j) := by simp
  have h3 := Nm.two_mono (show 3 * j + 1 ≤ 64 * 4095 by omega)
  rw [Int.pow_succ] at h3
  rw [Nm.pw_two]
  have := Nm.two_pos (3 * j)
  generalize (2 : Int) ^ (64 * 4095) = y at *
  omega
theorem pw_up : Nm.pw 4095 ≤ Nm.pw 4096 := by
  rw [Nm.pw_two, Nm.pw_two]
  exact Nm.two_mono (by decide)

theorem pow5_ok (k : Int) (n : Nat) (w : World) (hk : k = (n : Int)) (hn : n ≤ 4000) :
    Calls Tryz.prog 64 #[.int .i64 k] w fun e w' => ∃ r os, e = .returned (.tuple #[.slice r (List.length os) (List.length os), .int .i64 0]) ∧ Ans w.heap.size w' r os (5 ^ n) ∧ Below w.heap.size w w' := by
  refine (pow5_gives k n w hk (by omega)).mono ?_
  rintro e w' ⟨⟨_, r, os, rfl, A⟩ | ⟨h, _⟩, hB⟩
  · exact ⟨r, os, rfl, A, hB⟩
  · exact absurd (Int.lt_of_lt_of_le (five_pw10 hn) pw_up) (Int.not_lt.2 h)

theorem CutIs.bd {xs ys : List Int} {e f : Int} (h : CutIs xs e ys f) (hm : Nml xs e) (p0 : -400 < e + xs.length - 1) (p1 : e + xs.length - 1 < 400) :
    Dig9 ys ∧ ys ≠ [] ∧ ys.length ≤ 769 ∧ -1200 ≤ f ∧ f ≤ 400 ∧ ∀ x, Dr ys f x → Dr xs e x := by
  have hd := hm.dig
  have hn := hm.ne
  have l0 : 0 < xs.length := List.length_pos_iff.2 hn
  rcases h with ⟨h, rfl, rfl⟩ | ⟨h, rfl, rfl⟩
  · exact ⟨hd, hn, by omega, by omega, by omega, fun _ => id⟩
  · refine ⟨(hd.take 768).append dig1, by simp, by rw [List.length_append, List.length_take]; simp; omega, by omega, by omega, fun x hx => ?_⟩
    rcases hm.form with ⟨g, _⟩ | ⟨_, g1, g2⟩
    · rw [g] at h; simp at h
    · exact dr_cut 768 (Nat.le_refl _) hd h g1 g2 hx

set_option maxRecDepth 100000 in
set_option maxHeartbeats 2000000 in
theorem near_any10 (s : ByteArray) (xs : List Int) (e y : Int) (w : World) (hT : Tab w) (hs : Str s xs) (hn : xs.length ≤ 281474976710655) (hm : Nml xs e) (hy : Dr xs e y) :
    Calls Tryz.prog 196 #[.string s, .int .i64 e] w fun r w' => r = .returned (.int .u64 y) ∧ Below w.heap.size w w' := by
  have hsz := hs.size
  have hb : (xs.length : Int) ≤ 281474976710655 := by omega
  have hd := hm.dig
  have hne := hm.ne
  have e0 := hm.1.2.1
  have e1 := hm.1.2.2.1
  by_cases h4 : 400 ≤ e + xs.length - 1
  · have hy0 : y = 9218868437227405312 := by
      rcases hm.form with ⟨g, g0⟩ | ⟨_, g1, _⟩
      · rw [g, g0] at h4; simp at h4
      · exact hy.one (dr_inf hd hne g1 h4)
    subst hy0
    clear hs hn hm hy hd hne hT
    go_enter Tryz.func196, Tryz.ntmps196
    go_wp2_with fail
    go_ret
    exact ⟨rfl, Below.refl _ _⟩
  · by_cases h5 : e + xs.length - 1 ≤ -400
    · have hy0 : y = 0 := hy.one (dr_zero hd hne h5)
      subst hy0
      clear hs hn hm hy hd hne hT
      go_enter Tryz.func196, Tryz.ntmps196
      go_wp2_with fail
      go_ret
      exact ⟨rfl, Below.refl _ _⟩
    · have CT := hid (fun wx => cut_any10 s xs e wx hs (by omega) e0 e1)
      have CB := hid (fun ys f (h : CutIs xs e ys f) => h.bd hm (by omega) (by omega))
      have HY := hid (fun x (h : Dr xs e x) => h.one hy)
      have HT := hid hT
      clear hs hn hm hy hd hne hT
      go_enter Tryz.func196, Tryz.ntmps196
      go_wp2_with fail
      with_reducible refine (CT.out _).mono ?_
      rintro r w1 ⟨⟨t, ys, f, rfl, ht, hc⟩, rfl⟩
      obtain ⟨yd, yn, yl, f0, f1, yc⟩ := CB.out ys f hc
      have rg := dw_range yd
      have big : dw ys < Nm.pw 4096 := by have := ten_pw (show ys.length ≤ 20000 by omega); omega
      have RD := hid (fun wx => read_any t ys wx ht (by omega) yd yn (by rw [dw_dv]; exact big))
      rw [dw_dv] at RD
      have FY : Hid (∀ x, Dr ys f x → x = y) := fun x hx => HY.out x (yc x hx)
      have HW : Hid (dw ys < 10 ^ ys.length ∧ 0 ≤ dw ys ∧ ys.length ≤ 769 ∧ dw ys < Nm.pw 4096) := ⟨rg.2, rg.1, yl, big⟩
      clear CT CB HY hc yd yn yl yc rg ht big h4 h5 e0 e1
      by_cases hf : f < 0
      · obtain ⟨j, hj⟩ := Int.eq_ofNat_of_zero_le (show 0 ≤ -f by omega)
        have P := hid (fun wx => pow5_ok (-f) j wx hj (by omega))
        have f5 : (0 : Int) < 5 ^ j := Int.pow_pos (by decide)
        have RR : Hid (∀ p os q ps wx, Tab wx → Ans w1.heap.size wx p os (dw ys) → Ans w1.heap.size wx q ps (5 ^ j) → Calls Tryz.prog 199 #[.bool false, .slice p (List.length os) (List.length os), .slice q (List.length ps) (List.length ps), .int .i64 f] wx fun r w' => r = .returned (.tuple #[.int .u64 y, .int .i64 0]) ∧ Below wx.heap.size wx w') := fun p os q ps wx hT A B => by
          have fp := five_pw10 (show j ≤ 4000 by omega)
          have fq := Int.lt_of_lt_of_le fp pw_up
          refine (roundRatio_any false p q _ _ _ _ os ps wx (A.argT HW.out.2.2.2) (B.argT fq) hT (A.tsT HW.out.2.2.2) ((Nm.tsize_le_iff B.2.1 4095).2 (by rw [B.2.2.2.1]; exact fp)) (dw ys) (5 ^ j) f A.2.2.2.1 B.2.2.2.1 f5).mono ?_
          rintro r w' ⟨x, rfl, R, hB⟩
          obtain rfl := FY.out x (dr_down j (by omega) R)
          exact ⟨rfl, hB⟩
        clear FY hj f5
        go_wp2_with fail
        with_reducible refine (RD.out _).mono ?_
        rintro r w2 ⟨p, os, rfl, A, hB⟩
        have A2 := hid A
        have B2 := hid hB
        clear A hB RD
        go_wp2_with fail
        with_reducible refine (P.out _).mono ?_
        rintro r w3 ⟨q, ps, rfl, A, hB⟩
        have R2 := hid (RR.out p os q ps w3 (HT.out.below (below_on B2.out hB)) (A2.out.below hB (Nat.le_refl _)) (A.upT B2.out.size))
        have B3 := hid (below_on B2.out hB)
        clear A hB RR P A2 B2
        go_wp2_with fail
        with_reducible refine R2.out.mono ?_
        rintro r w4 ⟨rfl, hB⟩
        have B4 := hid (below_on B3.out hB)
        clear hB R2 B3
        go_wp2_with fail
        go_ret
        exact ⟨rfl, B4.out⟩
      · obtain ⟨j, hj⟩ := Int.eq_ofNat_of_zero_le (show 0 ≤ f by omega)
        have P := hid (fun wx => pow5_ok f j wx hj (by omega))
        have f5 : (0 : Int) < 5 ^ j := Int.pow_pos (by decide)
        have lim : Hid (dw ys * 5 ^ j < Nm.pw 4096) := by
          show _ < _
          have g1 : dw ys * 5 ^ j < 10 ^ ys.length * 5 ^ j := Int.mul_lt_mul_of_pos_right HW.out.1 f5
          have g2 : (10 : Int) ^ ys.length * 5 ^ j ≤ 10 ^ ys.length * 10 ^ j := by
            refine Int.mul_le_mul_of_nonneg_left ?_ (Int.le_of_lt (Ie.ten_pos _))
            rw [Ie.ten_five j]
            have := Nm.two_pos j
            have : (5 : Int) ^ j * 1 ≤ 5 ^ j * 2 ^ j := Int.mul_le_mul_of_nonneg_left (by omega) (by omega)
            omega
          rw [← Int.pow_add] at g2
          have := ten_pw (show ys.length + j ≤ 20000 by have := HW.out.2.2.1; omega)
          omega
        have ML : Hid (∀ p os q ps wx, Ans w1.heap.size wx p os (dw ys) → Ans w1.heap.size wx q ps (5 ^ j) → Calls Tryz.prog 65 #[.slice p (List.length os) (List.length os), .slice q (List.length ps) (List.length ps)] wx fun e w' => ∃ r os, e = .returned (.tuple #[.slice r (List.length os) (List.length os), .int .i64 0]) ∧ Ans wx.heap.size w' r os (dw ys * 5 ^ j) ∧ Below wx.heap.size wx w') := fun p os q ps wx A B => by
          have fp := five_pw10 (show j ≤ 4000 by omega)
          have fq := Int.lt_of_lt_of_le fp pw_up
          refine (mul_ok p q _ _ _ _ os ps wx (A.argT HW.out.2.2.2) (B.argT fq) (A.tsT HW.out.2.2.2) (B.tsT fq) (by rw [A.2.2.2.1, B.2.2.2.1]; exact lim.out)).mono ?_
          rw [A.2.2.2.1, B.2.2.2.1]
          exact fun e w' h => h
        have RN : Hid (∀ p os b wx, Tab wx → Ans b wx p os (dw ys * 5 ^ j) → Calls Tryz.prog 200 #[.bool false, .slice p (List.length os) (List.length os), .int .i64 f, .bool false] wx fun r w' => r = .returned (.tuple #[.int .u64 y, .int .i64 0]) ∧ Below wx.heap.size wx w') := fun p os b wx hT A => by
          refine (round_any false p _ _ os wx (A.argT lim.out) hT (A.tsT lim.out) (dw ys * 5 ^ j) f false A.2.2.2.1).mono ?_
          rintro r w' ⟨x, rfl, R, hB⟩
          obtain rfl := FY.out x (dr_up j (by omega) R)
          exact ⟨rfl, hB⟩
        clear FY hj f5 lim HW
        go_wp2_with fail
        with_reducible refine (RD.out _).mono ?_
        rintro r w2 ⟨p, os, rfl, A, hB⟩
        have A2 := hid A
        have B2 := hid hB
        clear A hB RD
        go_wp2_with fail
        with_reducible refine (P.out _).mono ?_
        rintro r w3 ⟨q, ps, rfl, A, hB⟩
        have M2 := hid (ML.out p os q ps w3 (A2.out.below hB (Nat.le_refl _)) (A.upT B2.out.size))
        have B3 := hid (below_on B2.out hB)
        clear A hB ML P A2 B2
        go_wp2_with fail
        with_reducible refine M2.out.mono ?_
        rintro r w4 ⟨p4, os4, rfl, A, hB⟩
        have R2 := hid (RN.out p4 os4 _ w4 (HT.out.below (below_on B3.out hB)) A)
        have B4 := hid (below_on B3.out hB)
        clear A hB M2 B3 RN
        go_wp2_with fail
        with_reducible refine R2.out.mono ?_
        rintro r w5 ⟨rfl, hB⟩
        have B5 := hid (below_on B4.out hB)
        clear hB R2 B4
        go_wp2_with fail
        go_ret
        exact ⟨rfl, B5.out⟩
end Go.Proofs.YtjkefcikepnbpaaGreatDoor

namespace Go.Proofs.YtjkefcikepnbpaaGreatDoor
open Go Go.RowKit Go.Deep

/-- What Try tells of a normal Dec. -/
def TryY (neg : Bool) (xs : List Int) (e y : Int) (w : World) (r : Ending) (w' : World) : Prop :=
  ∃ su, (∃ x, TellIs xs e x su) ∧ r = .returned (.tuple #[.int .u64 (if su = true then Ie.sg neg y else 0), .bool su]) ∧ Below w.heap.size w w'

theorem try_y10 (neg : Bool) (s : ByteArray) (xs : List Int) (e y : Int) (w : World) (hT : Tab w) (hX : Tens w) (hs : Str s xs) (hn : xs.length ≤ 281474976710655) (hm : Nml xs e) (hy : Dr xs e y) :
    Calls Tryz.prog 221 #[decV neg s e] w fun r w' => TryY neg xs e y w r w' := by
  refine (try_any9 neg s xs e w hT hX hs (by omega)).mono ?_
  rintro r w' ⟨⟨h, _⟩ | ⟨_, x, su, TI, x0, x1, rfl⟩, hB⟩
  · exact absurd hm h
  · refine ⟨su, ⟨x, TI⟩, ?_, hB⟩
    cases su with
    | true => rw [tell_true hm.dig TI hy]; rfl
    | false => rw [tell_no TI]; rfl

set_option maxRecDepth 100000 in
set_option maxHeartbeats 1000000 in
theorem qdouble_any10 (neg : Bool) (s : ByteArray) (xs : List Int) (e y : Int) (w : World) (hT : Tab w) (hX : Tens w) (hs : Str s xs) (hn : xs.length ≤ 281474976710655) (hm : Nml xs e) (hy : Dr xs e y) :
    Calls Tryz.prog 220 #[.agg #[], decV neg s e] w fun r w' => TryY neg xs e y w r w' := by
  have TR := hid (fun wx (b : Below w.heap.size w wx) => try_y10 neg s xs e y wx (hT.below b) (hX.below b) hs hn hm hy)
  have FF : Hid (∀ su w1 w2, Below w.heap.size w w1 → TryY neg xs e y w1 (.returned (.tuple #[.int .u64 (if su = true then Ie.sg neg y else 0), .bool su])) w2 → TryY neg xs e y w (.returned (.tuple #[.int .u64 (if su = true then Ie.sg neg y else 0), .bool su])) w2) := by
    rintro su w1 w2 b ⟨su', h1, h2, h3⟩
    exact ⟨su', h1, h2, below_on b h3⟩
  have B2 := hid (below_on (alloc_b w (.cells #[] 85)) (alloc_b _ (.cells #[.bool neg, .string s, .int .i64 e] 25)))
  have b2 := B2.out
  unfold decV at *
  clear hs hn hm hy hT hX
  go_enter Tryz.func220, Tryz.ntmps220
  go_wp2_with fail
  with_reducible refine (TR.out _ b2).mono ?_
  rintro r w1 ⟨su, h1, rfl, hB⟩
  have F := hid (FF.out su _ w1 b2 ⟨su, h1, rfl, hB⟩)
  clear hB h1 FF TR b2 B2
  generalize (if su = true then Ie.sg neg y else 0) = X at *
  go_wp2_with fail
  go_ret2
  exact F.out

set_option maxRecDepth 100000 in
set_option maxHeartbeats 1000000 in
theorem xdouble_any10 (neg : Bool) (s : ByteArray) (xs : List Int) (e y : Int) (w : World) (hT : Tab w) (hs : Str s xs) (hn : xs.length ≤ 281474976710655) (hm : Nml xs e) (hy : Dr xs e y) :
    Calls Tryz.prog 195 #[.agg #[], decV neg s e] w fun r w' => r = .returned (.tuple #[.int .u64 (Ie.sg neg y), .bool true]) ∧ Below w.heap.size w w' := by
  have NR := hid (fun wx (b : Below w.heap.size w wx) => near_any10 s xs e y wx (hT.below b) hs hn hm hy)
  have yb := hy.bd
  have b2 := below_on (alloc_b w (.cells #[] 61)) (alloc_b _ (.cells #[.bool neg, .string s, .int .i64 e] 25))
  have Z : Hid (Row3 ((w.alloc (.cells #[] 61)).alloc (.cells #[.bool neg, .string s, .int .i64 e] 25)) (w.heap.size + 1) (.bool neg) (.string s) (.int .i64 e)) := by
    have := Row3.new (w.alloc (.cells #[] 61)) (.bool neg) (.string s) (.int .i64 e)
    rw [show (w.alloc (.cells #[] 61)).heap.size = w.heap.size + 1 by simp] at this
    exact this
  have NG := hid (fun (wx : World) => neg_any y wx yb.1 (by omega))
  rw [show Ie.ng y = Ie.sg true y by unfold Ie.ng Ie.sg; rw [if_pos (by omega), if_pos rfl]] at NG
  unfold decV
  clear hs hn hm hy hT
  go_enter Tryz.func195, Tryz.ntmps195
  go_wp2_with fail
  with_reducible refine (NR.out _ b2).mono ?_
  rintro r w1 ⟨rfl, hB⟩
  have Z1 := hid (Z.out.below hB Z.out.lt)
  have B1 := hid (below_on b2 hB)
  obtain ⟨⟨c0, c1, c2⟩, _⟩ := Z1.out.cells
  clear hB b2 NR Z
  cases neg with
  | false =>
    go_wp2_with fail
    go_ret2
    exact ⟨rfl, B1.out⟩
  | true =>
    go_wp2_with fail
    with_reducible refine (NG.out _).mono ?_
    rintro r w2 ⟨rfl, rfl⟩
    go_wp2_with fail
    go_ret2
    exact ⟨rfl, B1.out⟩
end Go.Proofs.YtjkefcikepnbpaaGreatDoor

namespace Go.Proofs.YtjkefcikepnbpaaGreatDoor
open Go Go.RowKit Go.Deep

/-- A list of roads: the exact one alone, or the quick one ahead of it. -/
def RX (w : World) (b : Nat) : Prop := w.cell? ⟨b, 0, none⟩ = some (.iface 61 (.agg #[]))
def RQ (w : World) (b : Nat) : Prop := w.cell? ⟨b, 0, none⟩ = some (.iface 85 (.agg #[])) ∧ w.cell? ⟨b, 1, none⟩ = some (.iface 61 (.agg #[]))

theorem meth_x (w : World) : (method 357 61 (.agg #[]) "abacus/strtod.double").run Tryz.prog w = .ok (195, .agg #[]) w := by kernel_rfl
theorem meth_q (w : World) : (method 357 85 (.agg #[]) "abacus/strtod.double").run Tryz.prog w = .ok (220, .agg #[]) w := by kernel_rfl

set_option maxRecDepth 100000 in
set_option maxHeartbeats 1000000 in
theorem travel1_any10 (neg : Bool) (s : ByteArray) (xs : List Int) (e y : Int) (b : Nat) (w : World) (hT : Tab w) (hb : RX w b) (hs : Str s xs) (hn : xs.length ≤ 281474976710655) (hm : Nml xs e) (hy : Dr xs e y) :
    Calls Tryz.prog 35 #[decV neg s e, .slice (some ⟨b, 0, none⟩) 1 1] w fun r w' => r = .returned (.tuple #[.int .u64 (Ie.sg neg y), .int .i64 1]) ∧ Below w.heap.size w w' := by
  have XD := hid (fun wx (b : Below w.heap.size w wx) => xdouble_any10 neg s xs e y wx (hT.below b) hs hn hm hy)
  have b1 := alloc_b w (.cells #[.bool neg, .string s, .int .i64 e] 25)
  have Z := hid (Row3.new w (.bool neg) (.string s) (.int .i64 e))
  have c3 : w.cell? ⟨b, 0, none⟩ = some (.iface 61 (.agg #[])) := hb
  have lt := cell_lt c3
  unfold decV at *
  clear hs hn hm hy hT hb
  go_enter Tryz.func35, Tryz.ntmps35
  go_wp2_with fail
  generalize hW : w.alloc (.cells #[.bool neg, .string s, .int .i64 e] 25) = W at *
  obtain ⟨⟨c0, c1, c2⟩, _⟩ := Z.out.cells
  have c4 : W.cell? ⟨b, 0, none⟩ = some (.iface 61 (.agg #[])) := by rw [b1.cell lt]; exact c3
  clear hW c3
  go_loopw [12] (fun i wr => i = .int .i64 0 ∧ wr = W) (fun _ _ => 1)
  case atStart => exact ⟨rfl, rfl⟩
  case round =>
    obtain ⟨rfl, rfl⟩ := hrel
    have mx := meth_x
    go_wp2_with fail
    with_reducible refine (XD.out _ b1).mono ?_
    rintro r w1 ⟨rfl, hB⟩
    have B1 := hid (below_on b1 hB)
    clear hB b1 XD c0 c1 c2 c4
    go_wp2_with fail
    go_ret2
    exact ⟨rfl, B1.out⟩

/-- A Dec in its box. -/
def DX (w wx : World) (b : Nat) (neg : Bool) (s : ByteArray) (e : Int) : Prop := Below w.heap.size w wx ∧ w.heap.size ≤ b ∧ Row3 wx b (.bool neg) (.string s) (.int .i64 e)
theorem DX.new (w : World) (neg : Bool) (s : ByteArray) (e : Int) : DX w (w.alloc (.cells #[.bool neg, .string s, .int .i64 e] 25)) w.heap.size neg s e := ⟨alloc_b _ _, Nat.le_refl _, Row3.new _ _ _ _⟩
theorem DX.new' {w w1 : World} (h : Below w.heap.size w w1) (neg : Bool) (s : ByteArray) (e : Int) : DX w (w1.alloc (.cells #[.bool neg, .string s, .int .i64 e] 25)) w1.heap.size neg s e := ⟨below_on h (alloc_b _ _), h.size, Row3.new _ _ _ _⟩
theorem DX.on {w wx wy : World} {b : Nat} {neg : Bool} {s : ByteArray} {e : Int} (h : DX w wx b neg s e) (k : Below wx.heap.size wx wy) : DX w wy b neg s e := ⟨below_on h.1 k, h.2.1, h.2.2.below k h.2.2.lt⟩
theorem DX.drew {w wx : World} {b : Nat} {neg : Bool} {s : ByteArray} {e : Int} (h : DX w wx b neg s e) : DX w wx.drew b neg s e := h.on (below_drewN (Below.refl _ _) 1)
theorem DX.three {w wx : World} {b : Nat} {neg : Bool} {s : ByteArray} {e : Int} (h : DX w wx b neg s e) : wx.cell? ⟨b, 0, none⟩ = some (.bool neg) ∧ wx.cell? ⟨b, 1, none⟩ = some (.string s) ∧ wx.cell? ⟨b, 2, none⟩ = some (.int .i64 e) := h.2.2.cells.1
theorem DX.put {w wx : World} {b : Nat} {neg : Bool} {s : ByteArray} {e : Int} (h : DX w wx b neg s e) (neg' : Bool) (s' : ByteArray) (e' : Int) : DX w (((wx.setCell ⟨b, 0, none⟩ (.bool neg')).setCell ⟨b, 1, none⟩ (.string s')).setCell ⟨b, 2, none⟩ (.int .i64 e')) b neg' s' e' := ⟨set3_below h.1 h.2.1, h.2.1, h.2.2.put _ _ _⟩

def RL (q : Bool) (w : World) (b : Nat) : Prop := b < w.heap.size ∧ (if q = true then RQ w b else RX w b)
def ln (q : Bool) : Nat := if q = true then 2 else 1
theorem RL.below {q : Bool} {w w' : World} {b : Nat} (h : RL q w b) (k : Below w.heap.size w w') : RL q w' b := by
  refine ⟨Nat.lt_of_lt_of_le h.1 k.size, ?_⟩
  have h2 := h.2
  cases q with
  | true =>
    have h3 : RQ w b := h2
    have h4 : RQ w' b := ⟨by rw [k.cell (p := ⟨b, 0, none⟩) h.1]; exact h3.1, by rw [k.cell (p := ⟨b, 1, none⟩) h.1]; exact h3.2⟩
    exact h4
  | false =>
    have h3 : RX w b := h2
    have h4 : RX w' b := by unfold RX; rw [k.cell (p := ⟨b, 0, none⟩) h.1]; exact h3
    exact h4

/-- What travel tells: the double, and which road told it. -/
def TravTold (q neg : Bool) (xs : List Int) (e y : Int) (w : World) (r : Ending) (w' : World) : Prop :=
  ∃ k : Int, (q = true → ∃ su x, TellIs xs e x su ∧ k = if su = true then 1 else 2) ∧ r = .returned (.tuple #[.int .u64 (Ie.sg neg y), .int .i64 k]) ∧ Below w.heap.size w w'

def TS (w : World) (b : Nat) (neg : Bool) (s : ByteArray) (xs : List Int) (e : Int) (j : Nat) (wr : World) : Prop := DX w wr w.heap.size neg s e ∧ RL true wr b ∧ (j = 0 ∨ (j = 1 ∧ ∃ x, TellIs xs e x false))

set_option maxRecDepth 100000 in
set_option maxHeartbeats 1000000 in
theorem travel2_any10 (neg : Bool) (s : ByteArray) (xs : List Int) (e y : Int) (b : Nat) (w : World) (hT : Tab w) (hX : Tens w) (hb : RL true w b) (hs : Str s xs) (hn : xs.length ≤ 281474976710655) (hm : Nml xs e) (hy : Dr xs e y) :
    Calls Tryz.prog 35 #[decV neg s e, .slice (some ⟨b, 0, none⟩) 2 2] w fun r w' => TravTold true neg xs e y w r w' := by
  have XD := hid (fun wx (b : Below w.heap.size w wx) => xdouble_any10 neg s xs e y wx (hT.below b) hs hn hm hy)
  have QD := hid (fun wx (b : Below w.heap.size w wx) => qdouble_any10 neg s xs e y wx (hT.below b) (hX.below b) hs hn hm hy)
  have ST : Hid (TS w b neg s xs e 0 (w.alloc (.cells #[.bool neg, .string s, .int .i64 e] 25))) := ⟨DX.new _ _ _ _, hb.below (alloc_b _ _), .inl rfl⟩
  have FF : Hid (∀ su x w', TellIs xs e x su → Below w.heap.size w w' → TravTold true neg xs e y w (.returned (.tuple #[.int .u64 (Ie.sg neg y), .int .i64 (if su = true then 1 else 2)])) w') := fun su x w' h k => ⟨_, fun _ => ⟨su, x, h, rfl⟩, rfl, k⟩
  unfold decV at *
  have mx := meth_x
  have mq := meth_q
  clear hs hn hm hy hT hX hb
  go_enter Tryz.func35, Tryz.ntmps35
  go_wp2_with fail
  generalize hW : w.alloc (.cells #[.bool neg, .string s, .int .i64 e] 25) = W at *
  clear hW
  go_loopw [12] (fun i wr => ∃ j : Nat, i = .int .i64 j ∧ Hid (TS w b neg s xs e j wr)) (fun i _ => 2 - (intOf i).toNat)
  case atStart => exact ⟨0, rfl, ST.out⟩
  case round =>
    clear ST
    obtain ⟨j, rfl, I⟩ := hrel
    obtain ⟨i1, i2, i3⟩ := I.out
    have b1 := i1.1
    obtain ⟨c0, c1, c2⟩ := i1.three
    obtain ⟨c3, c4⟩ : RQ wr b := i2.2
    have HD := hid i1
    have HL := hid i2
    clear i1 i2 I
    rcases i3 with rfl | ⟨rfl, hsu⟩
    · go_wp2_with fail
      with_reducible refine (QD.out _ b1).mono ?_
      rintro r w1 ⟨su, ⟨x, hx⟩, rfl, hB⟩
      have B1 := hid (below_on b1 hB)
      cases su with
      | true =>
        have F := hid (FF.out true x w1 hx B1.out)
        clear hB b1 hx XD QD c0 c1 c2 c3 c4 HD HL FF
        go_wp2_with fail
        go_ret2
        exact F.out
      | false =>
        have S2 : Hid (TS w b neg s xs e 1 w1) := ⟨HD.out.on hB, HL.out.below hB, .inr ⟨rfl, x, hx⟩⟩
        clear hB b1 hx XD QD c0 c1 c2 c3 c4 HD HL FF
        go_wp2_with fail
        go_roundw
        case rel => exact ⟨1, rfl, S2.out⟩
        case measure => simp [intOf]
    · obtain ⟨x, hx⟩ := hsu
      have HX := hid hx
      clear hx
      go_wp2_with fail
      with_reducible refine (XD.out _ b1).mono ?_
      rintro r w1 ⟨rfl, hB⟩
      have F := hid (FF.out false x w1 HX.out (below_on b1 hB))
      clear hB b1 XD QD c0 c1 c2 c3 c4 HD HL FF HX
      go_wp2_with fail
      go_ret2
      exact F.out

theorem travel_any10 (q neg : Bool) (s : ByteArray) (xs : List Int) (e y : Int) (b : Nat) (w : World) (hT : Tab w) (hX : q = true → Tens w) (hb : RL q w b) (hs : Str s xs) (hn : xs.length ≤ 281474976710655) (hm : Nml xs e) (hy : Dr xs e y) :
    Calls Tryz.prog 35 #[decV neg s e, .slice (some ⟨b, 0, none⟩) (ln q) (ln q)] w fun r w' => TravTold q neg xs e y w r w' := by
  cases q with
  | true => exact travel2_any10 neg s xs e y b w hT (hX rfl) hb hs hn hm hy
  | false =>
    refine (travel1_any10 neg s xs e y b w hT hb.2 hs hn hm hy).mono ?_
    rintro r w' ⟨rfl, hB⟩
    exact ⟨1, fun h => absurd h (by simp), rfl, hB⟩

set_option maxRecDepth 100000 in
theorem roads_any10 (w : World) : Calls Tryz.prog 33 #[] w fun r w' => (∃ b, r = .returned (.slice (some ⟨b, 0, none⟩) 2 2) ∧ RL true w' b) ∧ Below w.heap.size w w' := by
  have F : Hid (∀ t, (∃ b, Ending.returned (.slice (some ⟨w.heap.size, 0, none⟩) 2 2) = .returned (.slice (some ⟨b, 0, none⟩) 2 2) ∧ RL true (w.alloc (.cells #[.iface 85 (.agg #[]), .iface 61 (.agg #[])] t)) b) ∧ Below w.heap.size w (w.alloc (.cells #[.iface 85 (.agg #[]), .iface 61 (.agg #[])] t))) := fun t => ⟨⟨_, rfl, by simp, by
    have h : RQ (w.alloc (.cells #[.iface 85 (.agg #[]), .iface 61 (.agg #[])] t)) w.heap.size := ⟨by simp, by simp⟩
    exact h⟩, alloc_b _ _⟩
  go_enter Tryz.func33, Tryz.ntmps33
  go_wp2_with fail
  go_ret
  exact F.out _
end Go.Proofs.YtjkefcikepnbpaaGreatDoor

namespace Go.Proofs.YtjkefcikepnbpaaGreatDoor
open Go Go.RowKit Go.Deep

/-- What Exact and Double tell. -/
def ConvTold (neg : Bool) (xs : List Int) (e y : Int) (w : World) (r : Ending) (w' : World) : Prop :=
  r = .returned (.tuple #[.int .u64 (if Sc.IsDec xs e then Ie.sg neg y else 0), .int .i64 (errOf xs e)]) ∧ Below w.heap.size w w'

theorem nmd_pos10 {neg : Bool} {xs : List Int} {e : Int} (h : Sc.IsDec xs e) : nmd neg xs e = Sc.nrm neg xs e := by unfold nmd; rw [if_pos h]

set_option maxRecDepth 100000 in
set_option maxHeartbeats 1000000 in
theorem convert_any10 (q neg : Bool) (s : ByteArray) (xs : List Int) (e y : Int) (b : Nat) (w : World) (hT : Tab w) (hX : q = true → Tens w) (hb : RL q w b) (hs : Str s xs) (hn : xs.length ≤ 281474976710654) (hy : Dr xs e y) :
    Calls Tryz.prog 32 #[decV neg s e, .slice (some ⟨b, 0, none⟩) (ln q) (ln q)] w fun r w' => ConvTold neg xs e y w r w' := by
  have NM := hid (fun wx => norm_any neg s xs e wx hs (by omega))
  have Z := hid (DX.new w neg s e)
  have TV : Hid (Sc.IsDec xs e → ∀ t wx, Str t (nmd neg xs e).ds → Below w.heap.size w wx → Calls Tryz.prog 35 #[.agg #[.bool (nmd neg xs e).neg, .string t, .int .i64 (nmd neg xs e).e], .slice (some ⟨b, 0, none⟩) (ln q) (ln q)] wx fun r w' => TravTold q neg (nmd neg xs e).ds (nmd neg xs e).e y wx r w') := fun hd t wx ht hB => by
    have e0 := nmd_pos10 (neg := neg) hd
    have ln := Sc.nrm_len neg xs e
    have := travel_any10 q (nmd neg xs e).neg t (nmd neg xs e).ds (nmd neg xs e).e y b wx (hT.below hB) (fun h => (hX h).below hB) (hb.below hB) ht (by rw [e0]; omega) (by rw [e0]; exact nml_nrm neg hd) (by rw [e0]; exact hy.nrm')
    rw [show (nmd neg xs e).neg = neg by rw [e0]; exact Sc.nrm_neg neg xs e] at this ⊢
    exact this
  have F0 : Hid (¬ Sc.IsDec xs e → ∀ w', Below w.heap.size w w' → ConvTold neg xs e y w (.returned (.tuple #[.int .u64 0, .int .i64 80])) w') := fun h w' k => ⟨by unfold errOf; rw [if_neg h, if_neg h], k⟩
  have F1 : Hid (Sc.IsDec xs e → ∀ w', Below w.heap.size w w' → ConvTold neg xs e y w (.returned (.tuple #[.int .u64 (Ie.sg neg y), .int .i64 0])) w') := fun h w' k => ⟨by unfold errOf; rw [if_pos h, if_pos h], k⟩
  unfold decV at *
  clear hs hn hy hT hX hb
  generalize ln q = L at *
  go_enter Tryz.func32, Tryz.ntmps32
  go_upto_region 1 with fail
  generalize hW : w.alloc (.cells #[.bool neg, .string s, .int .i64 e] 25) = W at *
  clear hW
  obtain ⟨c0, c1, c2⟩ := Z.out.three
  go_wp2_with fail
  with_reducible refine (NM.out _).mono ?_
  rintro r w1 ⟨v, rfl, ⟨t, rfl, ht⟩, hB⟩
  unfold decV
  have Z1 := hid (Z.out.on hB)
  have S1 := hid (Z1.out.put (nmd neg xs e).neg t (nmd neg xs e).e)
  clear c0 c1 c2 hB
  obtain ⟨⟨c0, c1, c2⟩, f0, f1, f2⟩ := Z1.out.2.2.cells
  by_cases hd : Sc.IsDec xs e
  · have E0 : errOf xs e = 0 := by unfold errOf; rw [if_pos hd]
    rw [E0]
    have T1 := hid (fun wx => TV.out hd t wx ht)
    have F := hid (F1.out hd)
    clear E0 ht hd TV F0 F1 NM Z Z1
    generalize nmd neg xs e = N at *
    go_upto_region 4 with fail
    generalize hW : ((w1.setCell ⟨w.heap.size, 0, none⟩ (.bool N.neg)).setCell ⟨w.heap.size, 1, none⟩ (.string t)).setCell ⟨w.heap.size, 2, none⟩ (.int .i64 N.e) = W1 at *
    clear hW c0 c1 c2 f0 f1 f2
    obtain ⟨c0, c1, c2⟩ := S1.out.three
    have b1 := S1.out.1
    go_wp2_with fail
    with_reducible refine (T1.out _ b1).mono ?_
    rintro r w2 ⟨k, _, rfl, hB⟩
    have B2 := hid (below_on b1 hB)
    clear hB b1 c0 c1 c2 S1 T1
    go_wp2_with fail
    go_ret2
    exact F.out _ B2.out
  · have E0 : errOf xs e = 80 := by unfold errOf; rw [if_neg hd]
    rw [E0]
    have F := hid (F0.out hd)
    clear E0 ht hd TV F0 F1 NM Z Z1
    generalize nmd neg xs e = N at *
    go_wp2_with fail
    go_ret2
    exact F.out _ S1.out.1

set_option maxRecDepth 100000 in
set_option maxHeartbeats 1000000 in
theorem exact_bare10 (neg : Bool) (s : ByteArray) (xs : List Int) (e y : Int) (w : World) (hT : Tab w) (hs : Str s xs) (hn : xs.length ≤ 281474976710654) (hy : Dr xs e y) :
    Calls Tryz.prog 10 #[decV neg s e] w fun r w' => ConvTold neg xs e y w r w' := by
  have CV : Hid (∀ b wx, Below w.heap.size w wx → RL false wx b → Calls Tryz.prog 32 #[decV neg s e, .slice (some ⟨b, 0, none⟩) 1 1] wx fun r w' => ConvTold neg xs e y wx r w') := fun b wx k h => convert_any10 false neg s xs e y b wx (hT.below k) (fun h => absurd h (by simp)) h hs hn hy
  have Z := hid (DX.new w neg s e)
  have RN : Hid (∀ wx t, Below w.heap.size w wx → Below w.heap.size w (wx.alloc (.cells #[.iface 61 (.agg #[])] t)) ∧ RL false (wx.alloc (.cells #[.iface 61 (.agg #[])] t)) wx.heap.size) := fun wx t k => ⟨below_on k (alloc_b _ _), by simp, by
    have h : RX (wx.alloc (.cells #[.iface 61 (.agg #[])] t)) wx.heap.size := by unfold RX; simp
    exact h⟩
  have FF : Hid (∀ w1 w' X E, Below w.heap.size w w1 → ConvTold neg xs e y w1 (.returned (.tuple #[.int .u64 X, .int .i64 E])) w' → ConvTold neg xs e y w (.returned (.tuple #[.int .u64 X, .int .i64 E])) w') := fun w1 w' X E k h => ⟨h.1, below_on k h.2⟩
  unfold decV at *
  clear hs hn hy hT
  go_enter Tryz.func10, Tryz.ntmps10
  go_upto_region 1 with fail
  generalize hW : w.alloc (.cells #[.bool neg, .string s, .int .i64 e] 25) = W at *
  clear hW
  obtain ⟨c0, c1, c2⟩ := Z.out.three
  have R1 := hid (fun t => RN.out W t Z.out.1)
  clear RN Z
  go_wp2_with fail
  with_reducible refine (CV.out _ _ (R1.out _).1 (R1.out _).2).mono ?_
  rintro r w1 ⟨rfl, hB⟩
  have F := hid (FF.out _ w1 _ _ (R1.out _).1 ⟨rfl, hB⟩)
  clear hB FF R1 CV c0 c1 c2
  generalize (if Sc.IsDec xs e then Ie.sg neg y else 0) = X at *
  generalize errOf xs e = E at *
  go_wp2_with fail
  go_ret2
  exact F.out

theorem exact_any10 (neg : Bool) (s : ByteArray) (xs : List Int) (e y : Int) (w : World) (hT : Tab w) (_hX : Tens w) (hs : Str s xs) (hn : xs.length ≤ 281474976710654) (hy : Dr xs e y) :
    Calls Tryz.prog 10 #[decV neg s e] w fun r w' => ConvTold neg xs e y w r w' := exact_bare10 neg s xs e y w hT hs hn hy

set_option maxRecDepth 100000 in
set_option maxHeartbeats 1000000 in
theorem double_any10 (neg : Bool) (s : ByteArray) (xs : List Int) (e y : Int) (w : World) (hT : Tab w) (hX : Tens w) (hs : Str s xs) (hn : xs.length ≤ 281474976710654) (hy : Dr xs e y) :
    Calls Tryz.prog 11 #[decV neg s e] w fun r w' => ConvTold neg xs e y w r w' := by
  have CV : Hid (∀ b wx, Below w.heap.size w wx → RL true wx b → Calls Tryz.prog 32 #[decV neg s e, .slice (some ⟨b, 0, none⟩) 2 2] wx fun r w' => ConvTold neg xs e y wx r w') := fun b wx k h => convert_any10 true neg s xs e y b wx (hT.below k) (fun _ => hX.below k) h hs hn hy
  have RO := hid roads_any10
  have Z := hid (DX.new w neg s e)
  have FF : Hid (∀ w1 w' X E, Below w.heap.size w w1 → ConvTold neg xs e y w1 (.returned (.tuple #[.int .u64 X, .int .i64 E])) w' → ConvTold neg xs e y w (.returned (.tuple #[.int .u64 X, .int .i64 E])) w') := fun w1 w' X E k h => ⟨h.1, below_on k h.2⟩
  unfold decV at *
  clear hs hn hy hT hX
  go_enter Tryz.func11, Tryz.ntmps11
  go_upto_region 1 with fail
  generalize hW : w.alloc (.cells #[.bool neg, .string s, .int .i64 e] 25) = W at *
  clear hW
  have SD := hid Z.out.drew
  obtain ⟨X, hXX⟩ : ∃ X, (if Sc.IsDec xs e then Ie.sg neg y else 0) = X := ⟨_, rfl⟩
  obtain ⟨E, hEE⟩ : ∃ E, errOf xs e = E := ⟨_, rfl⟩
  have CT : Hid (∀ wx r w', ConvTold neg xs e y wx r w' → r = .returned (.tuple #[.int .u64 X, .int .i64 E]) ∧ Below wx.heap.size wx w') := fun wx r w' h => by rw [← hXX, ← hEE]; exact h
  have CT' : Hid (∀ wx w', Below wx.heap.size wx w' → ConvTold neg xs e y wx (.returned (.tuple #[.int .u64 X, .int .i64 E])) w') := fun wx w' h => ⟨by rw [hXX, hEE], h⟩
  clear hXX hEE
  go_region_held3 (fun w' => w'.cell? ⟨w.heap.size, 0, none⟩ = some (.bool neg) ∧ w'.cell? ⟨w.heap.size, 1, none⟩ = some (.string s) ∧ w'.cell? ⟨w.heap.size, 2, none⟩ = some (.int .i64 e)) (first | (with_reducible exact T2.out.three) | (with_reducible exact T1.out.three) | (with_reducible exact SD.out.three)) (first
    | (go_at_call 33; refine (RO.out _).mono ?_; rintro r w2 ⟨⟨b, rfl, hl⟩, hB⟩; have T1 := hid (SD.out.on hB); have HL := hid hl; have b2 := T1.out.1; clear hB hl)
    | (go_at_call 32; refine (CV.out _ _ b2 HL.out).mono ?_; intro r w3 h; obtain ⟨rfl, hB⟩ := CT.out _ _ _ h; have F := hid (FF.out _ w3 _ _ b2 (CT'.out _ _ hB)); have T2 := hid (T1.out.on hB); clear h hB b2))
  all_goals go_wp2_with fail
  all_goals go_ret2
  all_goals exact F.out
end Go.Proofs.YtjkefcikepnbpaaGreatDoor

namespace Go.Proofs.YtjkefcikepnbpaaGreatDoor
open Go Go.RowKit Go.Deep

namespace Sh
theorem zD01 : zD 4591870180066957722 = ⟨false, [49], -1⟩ ∧ zR 4591870180066957722 = 0 := by
  have f : Ie.fnt 4591870180066957722 = true := by decide
  refine ⟨?_, by rw [zR, if_pos f]⟩
  rw [zD, if_pos f, show (4591870180066957722 : Int) % 9223372036854775808 = 4591870180066957722 by decide, dgt01, ddt01]
  rfl
theorem zD25 : zD 4612811918334230528 = ⟨false, [50, 53], -1⟩ ∧ zR 4612811918334230528 = 0 := by
  have f : Ie.fnt 4612811918334230528 = true := by decide
  refine ⟨?_, by rw [zR, if_pos f]⟩
  rw [zD, if_pos f, show (4612811918334230528 : Int) % 9223372036854775808 = 4612811918334230528 by decide, dgt25, dd25]
  rfl
theorem wD13 : wD 4599676419421066581 16 = ⟨false, threes, -16⟩ ∧ wB 4599676419421066581 16 = true := by
  rw [wD, wB, wn13]
  exact ⟨ddt13, rfl⟩
theorem hD01 : hD (dd (A 4591870180066957722)) (dd (B 4591870180066957722)) ⟨false, [49], -1⟩ (decide ((4591870180066957722 : Int) % 2 = 0)) = true := by
  have h := hD_in (a := 4591870180066957722) (U := 10 ^ 1074) (by decide) (Int.le_of_lt (Fx.p_pos 1074))
  rw [ddt01, in01] at h
  exact h
theorem nm01 : Nm ⟨false, [49], -1⟩ := by
  have h := bd_room (U := 10 ^ 1074) (Int.le_of_lt (Fx.p_pos 1074)) (by
    refine Int.lt_of_lt_of_le (b := 10 ^ 1075) ?_ (Fx.p_le (by omega))
    rw [Int.pow_succ 10 1074]
    have := Fx.p_pos 1074
    generalize (10 : Int) ^ 1074 = z at *
    omega)
  rw [ddt01] at h
  exact h
end Sh

set_option maxRecDepth 100000 in
theorem zlaid25 (w : World) : Calls Tryz.prog 31 #[.string ⟨#[50, 53]⟩, .int .i64 1] w fun e w' => e = .returned (.string ⟨#[50, 46, 53]⟩) ∧ Below w.heap.size w w' := by
  have e1 : (⟨#[50, 53]⟩ : ByteArray).size = 2 := rfl
  have e2 : (⟨#[50, 53]⟩ : ByteArray).extract 0 1 ++ ⟨#[46]⟩ ++ (⟨#[50, 53]⟩ : ByteArray).extract 1 2 = ⟨#[50, 46, 53]⟩ := by decide +kernel
  generalize (⟨#[50, 53]⟩ : ByteArray) = s at *
  go_enter Tryz.func31, Tryz.ntmps31
  go_upto_region 5 with fail
  go_quiet (fail)
  go_wp2_with fail
  go_ret
  exact ⟨rfl, below_drewN (Below.refl _ _) _⟩

set_option maxRecDepth 100000 in
theorem ztext25 (w : World) (htab : Tab10 w) : Calls Tryz.prog 8 #[.int .u64 4612811918334230528] w fun e w' => e = .returned (.string ⟨#[50, 46, 53]⟩) ∧ Below w.heap.size w w' := by
  have NG := hid (fun wx : World => znegative_any 4612811918334230528 wx (by decide) (by decide))
  rw [show Sh.ng 4612811918334230528 = false from by decide] at NG
  have CL := hid (fun wx : World => class_any 4612811918334230528 wx (by decide) (by decide))
  rw [show Ie.cls 4612811918334230528 = 2 from by decide] at CL
  have DG := hid (zdig_any 4612811918334230528 w (by decide) (by decide) htab)
  unfold DigTold at DG
  rw [Sh.zD25.1, Sh.zD25.2] at DG
  have LD := hid (fun wx : World => zlaid25 wx)
  clear htab
  go_enter Tryz.func8, Tryz.ntmps8
  go_wp2_with fail
  refine (NG.out _).mono ?_
  rintro e wz ⟨rfl, hz⟩
  subst hz
  go_wp2_with fail
  refine (CL.out _).mono ?_
  rintro e wz ⟨rfl, hz⟩
  subst hz
  go_wp2_with fail
  refine DG.out.mono ?_
  rintro e w1 ⟨t, rfl, ht, hB⟩
  have ht2 : t = ⟨#[50, 53]⟩ := ht.out.inj rfl
  subst ht2
  have e1 : (⟨#[50, 53]⟩ : ByteArray).size = 2 := rfl
  have HB := hid (hB.trans ((alloc_b w1 (.cells #[.bool false, .string ⟨#[50, 53]⟩, .int .i64 (-1)] 25)).mono hB.size))
  clear hB DG ht
  go_wp2_with fail
  refine (LD.out _).mono ?_
  rintro e w2 ⟨rfl, hB⟩
  have K := hid (HB.out.trans (hB.mono HB.out.size))
  clear hB HB
  go_wp2_with fail
  go_ret
  exact ⟨rfl, K.out⟩

set_option maxRecDepth 100000 in
set_option maxHeartbeats 2000000 in
theorem lawake_any (w : World) (htab : Tab10 w) : Calls Tryz.prog 6 #[] w fun e w' => e = .returned (.bool true) ∧ Below w.heap.size w w' := by
  have DG := hid (zdig_any 4591870180066957722 w (by decide) (by decide) htab)
  unfold DigTold at DG
  rw [Sh.zD01.1, Sh.zD01.2] at DG
  have WI : Hid (∀ wx : World, Tab10 wx → Calls Tryz.prog 13 #[.int .u64 4599676419421066581, .int .i64 16] wx fun e w' => ∃ t, e = .returned (.tuple #[.agg #[.bool false, .string t, .int .i64 (-16)], .bool true, .int .i64 0]) ∧ Hid (Str t Sh.threes) ∧ Below wx.heap.size wx w') := by
    intro wx hx
    have h := zwi_any 4599676419421066581 16 wx (by decide) (by decide) (by decide) (by decide) (by decide) hx
    unfold WiTold at h
    rw [show (4599676419421066581 : Int) % 9223372036854775808 = 4599676419421066581 by decide, Sh.wD13.1, Sh.wD13.2, show Sh.ng 4599676419421066581 = false from by decide] at h
    exact h
  have HO := hid (fun wx : World => zhold_pos 4591870180066957722 ⟨#[49]⟩ ⟨false, [49], -1⟩ wx (by decide) (by decide) rfl Sh.nm01 rfl (by decide))
  rw [Sh.hD01] at HO
  have TX := hid (fun (wx : World) (h : Tab10 wx) => ztext25 wx h)
  have Q1 : ∀ wx : World, (Op.equalIn 10000 25 (.agg #[.bool false, .string ⟨#[49]⟩, .int .i64 (-1)]) (.agg #[.bool false, .string ⟨#[49]⟩, .int .i64 (-1)])).run Tryz.prog wx = .ok true wx := fun wx => leq_dec _ _ _ wx
  have Q2 : ∀ wx : World, (Op.equalIn 10000 25 (.agg #[.bool false, .string ⟨#[51, 51, 51, 51, 51, 51, 51, 51, 51, 51, 51, 51, 51, 51, 51, 51]⟩, .int .i64 (-16)]) (.agg #[.bool false, .string ⟨#[51, 51, 51, 51, 51, 51, 51, 51, 51, 51, 51, 51, 51, 51, 51, 51]⟩, .int .i64 (-16)])).run Tryz.prog wx = .ok true wx := fun wx => leq_dec _ _ _ wx
  have TB := hid htab
  clear htab
  go_enter Tryz.func6, Tryz.ntmps6
  go_wp2_with fail
  refine DG.out.mono ?_
  rintro e w1 ⟨t, rfl, ht, hB⟩
  have ht2 : t = ⟨#[49]⟩ := ht.out.inj rfl
  subst ht2
  have HB := hid (hB.trans ((alloc_b w1 (.cells #[.bool false, .string ⟨#[49]⟩, .int .i64 (-1)] 25)).mono hB.size))
  have rX := FR3.new w1 (.bool false) (.string ⟨#[49]⟩) (.int .i64 (-1))
  have W1 := hid (WI.out _ (tab10_below TB.out HB.out))
  have RX := hid rX
  clear hB DG ht WI rX
  go_wp2_with fail
  refine W1.out.mono ?_
  rintro e w2 ⟨t, rfl, ht, hB⟩
  have ht2 : t = ⟨#[51, 51, 51, 51, 51, 51, 51, 51, 51, 51, 51, 51, 51, 51, 51, 51]⟩ := ht.out.inj rfl
  subst ht2
  have aY := alloc_b w2 (.cells #[.bool false, .string ⟨#[51, 51, 51, 51, 51, 51, 51, 51, 51, 51, 51, 51, 51, 51, 51, 51]⟩, .int .i64 (-16)] 25)
  have HB2 := hid (HB.out.trans ((hB.trans (aY.mono hB.size)).mono HB.out.size))
  have RX2 := (RX.out.below (hB.trans (aY.mono hB.size)) RX.out.lt)
  obtain ⟨⟨c0, c1, c2⟩, -⟩ := RX2.cells
  clear hB W1 ht HB aY RX RX2
  go_wp2_with fail
  refine (HO.out _).mono ?_
  rintro e w3 ⟨rfl, hB⟩
  have HB3 := hid (HB2.out.trans (hB.mono HB2.out.size))
  have T3 := hid (TX.out _ (tab10_below TB.out HB3.out))
  clear hB HO HB2 TX c0 c1 c2
  go_wp2_with fail
  refine T3.out.mono ?_
  rintro e w4 ⟨rfl, hB⟩
  have K := hid (HB3.out.trans (hB.mono HB3.out.size))
  clear hB T3 HB3
  go_wp2_with fail
  go_ret
  exact ⟨rfl, K.out⟩
end Go.Proofs.YtjkefcikepnbpaaGreatDoor

namespace Go.Proofs.YtjkefcikepnbpaaGreatDoor
open Go.RowKit Go.Deep
namespace Sh

/-- Nearest, by a number in units of 10^-K. -/
theorem dr_of {xs : List Int} {e y U TZ : Int} {K : Nat} (hK : 1075 ≤ K) (he : 0 ≤ e + K) (hU : dv xs * 10 ^ (e + K).toNat = U) (hZ : T5 * 10 ^ (K - 1075) = TZ) (y0 : 0 ≤ y) (y1 : y ≤ 9218868437227405312)
    (lo : 0 < y → Ie.md (y - 1) * TZ < U ∨ (Ie.md (y - 1) * TZ = U ∧ y % 2 = 0)) (hi : y < 9218868437227405312 → U < Ie.md y * TZ ∨ (U = Ie.md y * TZ ∧ y % 2 = 0)) : Dr xs e y := by
  have tz : 0 < TZ := by rw [← hZ]; exact Int.mul_pos T5_pos (Fx.p_pos _)
  obtain ⟨P, hP⟩ : ∃ P, dw xs * 10 ^ e.toNat * 2 ^ 1075 = P := ⟨_, rfl⟩
  obtain ⟨Q, hQ⟩ : ∃ Q : Int, (10 : Int) ^ (-e).toNat = Q := ⟨_, rfl⟩
  have qp : 0 < Q := by rw [← hQ]; exact Fx.p_pos _
  have key : U * Q = P * TZ := by
    rw [← hU, ← hQ, ← hP, ← hZ]
    unfold T5
    rw [dw_dv, Int.mul_assoc, ← Int.pow_add, show (e + K).toNat + (-e).toNat = e.toNat + (1075 + (K - 1075)) by omega, Int.pow_add, Int.pow_add]
    generalize K - 1075 = z2
    generalize 1075 = z
    rw [ten25 z]
    simp only [Int.mul_comm, Int.mul_left_comm, Int.mul_assoc]
  have swap : ∀ m : Int, m * TZ * Q = m * Q * TZ := fun m => by rw [Int.mul_assoc, Int.mul_comm TZ, Int.mul_assoc]
  have lt : ∀ m : Int, m * TZ < U → m * Q < P := fun m h => by
    have a := Int.mul_lt_mul_of_pos_right h qp
    rw [key, swap] at a
    exact Int.lt_of_mul_lt_mul_right a (Int.le_of_lt tz)
  have gt : ∀ m : Int, U < m * TZ → P < m * Q := fun m h => by
    have a := Int.mul_lt_mul_of_pos_right h qp
    rw [key, swap] at a
    exact Int.lt_of_mul_lt_mul_right a (Int.le_of_lt tz)
  have eq : ∀ m : Int, m * TZ = U → m * Q = P := fun m h => by
    have a : m * TZ * Q = U * Q := by rw [h]
    rw [key, swap] at a
    exact Int.eq_of_mul_eq_mul_right (Int.ne_of_gt tz) a
  rw [Dr, hQ]
  refine Ie.Rnd.of (a := 1075) (b := 0) (by decide) ?_
  rw [hP, Int.pow_zero, Int.mul_one]
  refine ⟨⟨y0, y1⟩, fun h => ?_, fun h => ?_⟩
  · rcases lo h with c | ⟨c, d⟩
    · exact .inl (lt _ c)
    · exact .inr ⟨eq _ c, .inl d⟩
  · rcases hi h with c | ⟨c, d⟩
    · exact .inl (gt _ c)
    · exact .inr ⟨(eq _ c.symm).symm, d, rfl⟩

theorem five_odd : ∀ n : Nat, (5 : Int) ^ n % 2 = 1
  | 0 => rfl
  | n + 1 => by
    have := five_odd n
    rw [Int.pow_succ]
    omega
/-- The last place of a bound lies no higher than its power of two. -/
theorem edge_low {a D : Int} {m : Nat} (h : D * 10 ^ m = B a) : m ≤ Ie.ex a := by
  rcases Nat.lt_or_ge (Ie.ex a) m with c | c
  · exfalso
    obtain ⟨k, hk⟩ : ∃ k, m = Ie.ex a + (k + 1) := ⟨m - Ie.ex a - 1, by omega⟩
    rw [B, Ie.md, T5, ten25, hk] at h
    have e2 : (2 : Int) ^ (Ie.ex a + (k + 1)) = 2 ^ Ie.ex a * (2 ^ k * 2) := by rw [Int.pow_add, Int.pow_succ]
    rw [e2] at h
    obtain ⟨F, hF⟩ : ∃ F : Int, (5 : Int) ^ 1075 = F := ⟨_, rfl⟩
    have fo : F % 2 = 1 := by rw [← hF]; exact five_odd 1075
    rw [hF] at h
    have tp : (0 : Int) < 2 ^ Ie.ex a := Int.pow_pos (by omega)
    have h3 : (D * 2 ^ k * 5 ^ (Ie.ex a + (k + 1)) * 2) * 2 ^ Ie.ex a = ((2 * Ie.man a + 1) * F) * 2 ^ Ie.ex a := by
      calc (D * 2 ^ k * 5 ^ (Ie.ex a + (k + 1)) * 2) * 2 ^ Ie.ex a = D * (2 ^ Ie.ex a * (2 ^ k * 2) * 5 ^ (Ie.ex a + (k + 1))) := by simp only [Int.mul_comm, Int.mul_left_comm, Int.mul_assoc]
        _ = (2 * Ie.man a + 1) * 2 ^ Ie.ex a * F := h
        _ = ((2 * Ie.man a + 1) * F) * 2 ^ Ie.ex a := by rw [Int.mul_assoc, Int.mul_assoc, Int.mul_comm F]
    have h4 := Int.eq_of_mul_eq_mul_right (Int.ne_of_gt tp) h3
    rw [Int.add_mul, Int.one_mul, Int.mul_assoc 2] at h4
    generalize D * 2 ^ k * 5 ^ (Ie.ex a + (k + 1)) = X at h4
    generalize Ie.man a * F = Y at h4
    omega
  · exact c
/-- A step is less than the way to the next bound. -/
theorem edge_room {a s : Int} {K : Nat} (hK : 1075 ≤ K) (s0 : s ≤ 0) (h : s + 1075 ≤ (Ie.ex a : Int)) (hs : 0 ≤ s + K) : (10 : Int) ^ (s + K).toNat ≤ 2 ^ Ie.ex a * (T5 * 10 ^ (K - 1075)) := by
  have mono : ∀ {b i j : Nat}, 0 < b → i ≤ j → ((b : Int)) ^ i ≤ (b : Int) ^ j := fun {b i j} hb hij => by
    have := Nat.pow_le_pow_right hb hij
    have := Int.ofNat_le.2 this
    rwa [Int.natCast_pow, Int.natCast_pow] at this
  have tp : (0 : Int) < 2 ^ Ie.ex a := Int.pow_pos (by omega)
  have zp := Fx.p_pos (K - 1075)
  have fp : (0 : Int) < 5 ^ 1075 := p5_pos 1075
  rcases Nat.lt_or_ge 1075 (Ie.ex a) with c | c
  · have e1 : (10 : Int) ^ (s + K).toNat ≤ 10 ^ (1075 + (K - 1075)) := Fx.p_le (by omega)
    have e2 : (2 : Int) ^ 1075 ≤ 2 ^ Ie.ex a := mono (b := 2) (by omega) (by omega)
    rw [Int.pow_add, ten25 1075, Int.mul_assoc] at e1
    unfold T5
    generalize (2 : Int) ^ 1075 = A at *
    generalize (5 : Int) ^ 1075 = F at *
    exact Int.le_trans e1 (Int.mul_le_mul_of_nonneg_right e2 (Int.le_of_lt (Int.mul_pos fp zp)))
  · have e1 : (10 : Int) ^ (s + K).toNat ≤ 10 ^ (Ie.ex a + (K - 1075)) := Fx.p_le (by omega)
    have e2 : (5 : Int) ^ Ie.ex a ≤ 5 ^ 1075 := mono (b := 5) (by omega) c
    rw [Int.pow_add, ten25 (Ie.ex a), Int.mul_assoc] at e1
    unfold T5
    generalize (5 : Int) ^ 1075 = F at *
    exact Int.le_trans e1 (Int.mul_le_mul_of_nonneg_left (Int.mul_le_mul_of_nonneg_right e2 (Int.le_of_lt zp)) (Int.le_of_lt tp))

/-- The upper bound itself reads as the even one of its two doubles. -/
theorem edge_at {a e : Int} {xs : List Int} (h0 : 0 ≤ a) (h1 : a < 9218868437227405312) (he : -1075 ≤ e) (h : dv xs * 10 ^ (e + 1075).toNat = B a) : Dr xs e (if a % 2 = 0 then a else a + 1) := by
  have tp := T5_pos
  have Z : T5 * 10 ^ (1075 - 1075) = T5 := by rw [Nat.sub_self, Int.pow_zero, Int.mul_one]
  have st : ∀ {x y : Int}, 0 ≤ x → x < y → Ie.md x * T5 < Ie.md y * T5 := fun hx hxy => Int.mul_lt_mul_of_pos_right (Ie.md_lt hx hxy) tp
  split
  · rename_i c
    refine dr_of (K := 1075) (Nat.le_refl _) (by omega) h Z h0 (by omega) (fun p => .inl ?_) (fun _ => .inr ⟨rfl, c⟩)
    exact st (by omega) (by omega)
  · rename_i c
    refine dr_of (K := 1075) (Nat.le_refl _) (by omega) h Z (by omega) (by omega) (fun p => .inr ⟨?_, by omega⟩) (fun _ => .inl ?_)
    · rw [show a + 1 - 1 = a by omega]; rfl
    · exact st h0 (by omega)

/-- A step inside reads as the double, a step outside as the next one. -/
theorem edge_step {a e s q : Int} {xs rs : List Int} (h0 : 0 ≤ a) (h1 : a < 9218868437227405312) (he : -1075 ≤ e) (h : dv xs * 10 ^ (e + 1075).toNat = B a) (s0 : s ≤ 0) (s1 : s ≤ e)
    (hq : q = 1 ∨ q = -1) (hr : dv rs = dv xs * 10 ^ (e - s).toNat + q) : Dr rs s (if q = 1 then a + 1 else a) := by
  obtain ⟨K, hK⟩ : ∃ K : Nat, K = 1075 + (-s).toNat := ⟨_, rfl⟩
  have low := edge_low h
  have room := edge_room (a := a) (s := s) (K := K) (by omega) s0 (by omega) (by omega)
  obtain ⟨TZ, hZ⟩ : ∃ TZ, T5 * 10 ^ (K - 1075) = TZ := ⟨_, rfl⟩
  have tz : 0 < TZ := by rw [← hZ]; exact Int.mul_pos T5_pos (Fx.p_pos _)
  rw [hZ] at room
  have hU : dv rs * 10 ^ (s + K).toNat = Ie.md a * TZ + q * 10 ^ (s + K).toNat := by
    have e1 : dv xs * 10 ^ (e - s).toNat * 10 ^ (s + K).toNat = Ie.md a * TZ := by
      rw [Int.mul_assoc, ← Int.pow_add, show (e - s).toNat + (s + K).toNat = (e + 1075).toNat + (K - 1075) by omega, Int.pow_add, ← Int.mul_assoc, h, B, ← hZ, Int.mul_assoc]
    rw [hr, Int.add_mul, e1]
  have sp := Fx.p_pos (s + K).toNat
  have up : Ie.md a * TZ + 2 ^ Ie.ex a * TZ < Ie.md (a + 1) * TZ := by
    rw [← Int.add_mul]
    refine Int.mul_lt_mul_of_pos_right ?_ tz
    have := Ie.vl_lt_md (a + 1)
    have := Ie.vl_succ a h0
    have := Ie.md_eq a
    omega
  rcases hq with c | c
  · rw [if_pos c]
    rw [c, Int.one_mul] at hU
    refine dr_of (K := K) (by omega) (by omega) hU hZ (by omega) (by omega) (fun _ => .inl ?_) (fun _ => .inl ?_)
    · rw [show a + 1 - 1 = a by omega]; omega
    · omega
  · rw [if_neg (by omega)]
    rw [c] at hU
    refine dr_of (K := K) (by omega) (by omega) hU hZ h0 (by omega) (fun p => .inl ?_) (fun _ => .inl ?_)
    · have dn : Ie.md (a - 1) * TZ + 2 ^ Ie.ex a * TZ < Ie.md a * TZ := by
        rw [← Int.add_mul]
        refine Int.mul_lt_mul_of_pos_right ?_ tz
        have := Ie.md_lt_vl (a - 1) (by omega)
        rw [show a - 1 + 1 = a by omega] at this
        have := Ie.md_eq a
        omega
      omega
    · omega
end Sh
end Go.Proofs.YtjkefcikepnbpaaGreatDoor

namespace Go.Proofs.YtjkefcikepnbpaaGreatDoor
open Go Go.RowKit Go.Deep

set_option maxRecDepth 100000 in
set_option maxHeartbeats 2000000 in
theorem edges_inf (d k : Int) (w : World)
    (AW : Calls Tryz.prog 6 #[] w fun r w' => r = .returned (.bool true) ∧ Below w.heap.size w w')
    (BD : ∀ W, Calls Tryz.prog 18 #[.int .u64 d] W fun r w' => r = .returned (.tuple #[.agg #[.bool false, .string ⟨#[]⟩, .int .i64 0], .agg #[.bool false, .string ⟨#[]⟩, .int .i64 0], .bool false, .int .i64 5]) ∧ Below W.heap.size W w')
    (FN : ∀ W, Calls Tryz.prog 9 #[.int .u64 d] W fun r w' => r = .returned (.bool false) ∧ w' = W) :
    Calls Tryz.prog 5 #[.int .u64 d, .int .i64 k] w fun r w' => r = .returned (.bool true) ∧ Below w.heap.size w w' := by
  have AW := hid AW
  have BD := hid BD
  have FN := hid FN
  have EQ := fun W => leq_dec false ⟨#[]⟩ 0 W
  go_enter Tryz.func5, Tryz.ntmps5
  go_wp2_with fail
  refine AW.out.mono ?_
  rintro r w1 ⟨rfl, b1⟩
  have B1 := hid b1
  clear b1 AW
  go_wp2_with fail
  refine (BD.out _).mono ?_
  rintro r w2 ⟨rfl, b2⟩
  have B2 := hid (bel_on B1.out b2)
  clear b2 B1 BD
  go_upto_region 5 with fail
  have c1 := alloc_b w2 (.cells #[.bool false, .string ⟨#[]⟩, .int .i64 0] 25)
  have c2 := alloc_b (w2.alloc (.cells #[.bool false, .string ⟨#[]⟩, .int .i64 0] 25)) (.cells #[.bool false, .string ⟨#[]⟩, .int .i64 0] 25)
  have s1 : (w2.alloc (.cells #[.bool false, .string ⟨#[]⟩, .int .i64 0] 25)).heap.size = w2.heap.size + 1 := Array.size_push ..
  have F2 := FR3.new (w2.alloc (.cells #[.bool false, .string ⟨#[]⟩, .int .i64 0] 25)) (.bool false) (.string ⟨#[]⟩) (.int .i64 0)
  rw [s1] at F2
  have S0 : Hid (EdS w w2.heap.size (w2.heap.size + 1) ⟨#[]⟩ 0 ⟨#[]⟩ 0 ((w2.alloc (.cells #[.bool false, .string ⟨#[]⟩, .int .i64 0] 25)).alloc (.cells #[.bool false, .string ⟨#[]⟩, .int .i64 0] 25))) := ⟨fr3_on (FR3.new w2 (.bool false) (.string ⟨#[]⟩) (.int .i64 0)) c2, F2, bel_on (bel_on B2.out c1) c2⟩
  clear c1 c2 s1 F2 B2
  generalize (w2.alloc (.cells #[.bool false, .string ⟨#[]⟩, .int .i64 0] 25)).alloc (.cells #[.bool false, .string ⟨#[]⟩, .int .i64 0] 25) = w3 at *
  generalize w2.heap.size + 1 = bh at *
  generalize w2.heap.size = bl at *
  go_wp2_with fail
  refine (FN.out _).mono ?_
  rintro r wz ⟨rfl, hwz⟩
  rw [hwz]
  clear hwz wz FN
  obtain ⟨⟨x0, x1, x2⟩, _⟩ := S0.out.l.cells
  obtain ⟨⟨y0, y1, y2⟩, _⟩ := S0.out.h.cells
  go_wp2_with fail
  go_ret
  exact ⟨rfl, S0.out.b⟩

namespace Sh
theorem md_room : Ie.md 9218868437227405311 * T5 < 10 ^ 1385 := by
  rw [Ie.md_last, T5]
  decide +kernel
/-- Where a bound lies. -/
theorem B_room {a : Int} (h0 : 0 ≤ a) (h1 : a < 9218868437227405312) : Fx.Nml (dd (B a)).ds ∧ (dd (B a)).neg = false ∧ -1075 ≤ (dd (B a)).e ∧ (dd (B a)).e ≤ 400 ∧ (dd (B a)).ds.length ≤ 1500 ∧ dv (dd (B a)).ds * 10 ^ ((dd (B a)).e + 1075).toNat = B a := by
  have bp : 0 < B a := Int.lt_of_le_of_lt (V_nn h0) V_B
  have o := dd_is (Int.le_of_lt bp)
  have nm := o.1.nml (by rw [o.2]; exact bp)
  obtain ⟨q1, _, q3⟩ := place bp
  have b10 : B a < 10 ^ 1385 := by
    have m : Ie.md a ≤ Ie.md 9218868437227405311 := by
      rcases (show a = 9218868437227405311 ∨ a < 9218868437227405311 by omega) with c | c
      · rw [c]; exact Int.le_refl _
      · exact Int.le_of_lt (Ie.md_lt h0 c)
    exact Int.lt_of_le_of_lt (Int.mul_le_mul_of_nonneg_right m (Int.le_of_lt T5_pos)) md_room
  have lp := List.length_pos_iff.2 nm.ne
  have plt : pl (B a) + 1074 ≤ 1384 := by
    rcases (show pl (B a) + 1074 ≤ 1384 ∨ 1384 < pl (B a) + 1074 by omega) with c | c
    · exact c
    · exfalso
      have z : (10 : Int) ^ 1385 ≤ 10 ^ (pl (B a) + 1074).toNat := Fx.p_le (by omega)
      exact absurd (Int.lt_of_le_of_lt (Int.le_trans z q1) b10) (Int.lt_irrefl _)
  have lo := o.1.lo
  unfold pl ln at plt
  exact ⟨nm, o.1.neg, lo, by omega, by omega, o.2⟩
theorem isdec5 {xs : List Int} {q : Int} (hd : Digs xs) (hn : xs ≠ []) (h0 : -5000 ≤ q) (h1 : q ≤ 5000) (hl : xs.length ≤ 100000) : Sc.IsDec xs q := ⟨hn, by omega, by omega, dg_of hd, fun _ => by have := Sc.tz_le xs; omega⟩
theorem dnQ {a : Int} (h0 : 0 ≤ a) (h1 : a < 9218868437227405312) : Ie.dnd (a + 1) = a := by
  have k : ∀ x : Int, x = a + 1 ∨ x = a + 1 + 9223372036854775808 → Ie.okd x = true := by
    intro x hx
    unfold Ie.okd
    apply decide_eq_true
    omega
  have n1 : Ie.ng (a + 1) = a + 1 + 9223372036854775808 := by unfold Ie.ng; rw [if_pos (by omega)]
  unfold Ie.dnd
  rw [if_neg (by rw [k _ (.inl rfl)]; decide), n1]
  unfold Ie.upd
  rw [if_neg (by rw [k _ (.inr rfl)]; decide), if_neg (by omega), if_neg (by omega), if_pos (by omega)]
  unfold Ie.ng
  rw [if_neg (by omega)]
  omega
theorem upQ {a : Int} (h0 : 0 < a) (h1 : a < 9218868437227405312) : Ie.upd (a - 1) = a := by
  have k : Ie.okd (a - 1) = true := by
    unfold Ie.okd
    apply decide_eq_true
    omega
  unfold Ie.upd
  rw [if_neg (by rw [k]; decide), if_neg (by omega), if_neg (by omega), if_neg (by omega)]
  omega
end Sh

/-- A bound, read. -/
theorem edge_exact (b y : Int) (w : World) (hT : Tab w) (h0 : 0 ≤ b) (h1 : b < 9218868437227405312) (hy : y = if b % 2 = 0 then b else b + 1) (W : World) (hW : Below w.heap.size w W) :
    Calls Tryz.prog 10 #[.agg #[.bool false, .string (strOfNums (Sh.dd (Sh.B b)).ds), .int .i64 (Sh.dd (Sh.B b)).e]] W fun r w' => r = .returned (.tuple #[.int .u64 y, .int .i64 0]) ∧ Below W.heap.size W w' := by
  obtain ⟨nm, _, e0, e1, ln, hv⟩ := Sh.B_room h0 h1
  have hs : Str (strOfNums (Sh.dd (Sh.B b)).ds) (Sh.dd (Sh.B b)).ds := Str.of_nums (fun x hx => by have := nm.digs x hx; omega)
  have D := Sh.edge_at h0 h1 e0 hv
  have I := Sh.isdec5 (q := (Sh.dd (Sh.B b)).e) nm.digs nm.ne (by omega) (by omega) (by omega)
  rw [← hy] at D
  refine (exact_bare10 false _ _ _ y W (hT.below hW) hs (by omega) D).mono (fun r w' h => ?_)
  rw [ConvTold, if_pos I, errOf, if_pos I] at h
  exact h

/-- A neighbour of a bound, read. -/
theorem edge_near (b kk : Int) (up : Bool) (y : Int) (w : World) (hT : Tab w) (h0 : 0 ≤ b) (h1 : b < 9218868437227405312) (k0 : 0 ≤ kk) (k1 : kk ≤ 15) (hy : y = if up = true then b + 1 else b) (W : World) (_hW : Below w.heap.size w W) :
    Calls Tryz.prog 20 #[.agg #[.bool false, .string (strOfNums (Sh.dd (Sh.B b)).ds), .int .i64 (Sh.dd (Sh.B b)).e], .int .i64 (min (Sh.dd (Sh.B b)).e 0 - kk), .bool up] W fun r w' => NrTold w (min (Sh.dd (Sh.B b)).e 0 - kk) y W r w' := by
  obtain ⟨nm, _, e0, e1, ln, hv⟩ := Sh.B_room h0 h1
  have hs : Str (strOfNums (Sh.dd (Sh.B b)).ds) (Sh.dd (Sh.B b)).ds := Str.of_nums (fun x hx => by have := nm.digs x hx; omega)
  obtain ⟨z, hz⟩ : ∃ z : Nat, (Sh.dd (Sh.B b)).e - (min (Sh.dd (Sh.B b)).e 0 - kk) = (z : Int) := ⟨((Sh.dd (Sh.B b)).e - (min (Sh.dd (Sh.B b)).e 0 - kk)).toNat, by omega⟩
  refine (near_gen false _ _ _ (min (Sh.dd (Sh.B b)).e 0 - kk) z up W hs nm (by omega) hz (by omega) (by omega) (by omega)).mono (fun r w' h => ?_)
  obtain ⟨t, rs, h1', h2, h3, h4, h5, h6⟩ := h
  refine ⟨t, h1', fun X hX => ?_, h6⟩
  have rn : rs ≠ [] := by intro c; rw [c, List.length_nil] at h4; omega
  have I := Sh.isdec5 (q := min (Sh.dd (Sh.B b)).e 0 - kk) h3 rn (by omega) (by omega) (by omega)
  have D := Sh.edge_step (s := min (Sh.dd (Sh.B b)).e 0 - kk) (q := if up = true then 1 else -1) (rs := rs) h0 h1 e0 hv (by omega) (by omega) (by cases up <;> simp) (by rw [h5, show ((Sh.dd (Sh.B b)).e - (min (Sh.dd (Sh.B b)).e 0 - kk)).toNat = z by omega])
  have ey : (if (if up = true then (1 : Int) else -1) = 1 then b + 1 else b) = y := by rw [hy]; cases up <;> simp
  rw [ey] at D
  refine (exact_bare10 false _ _ _ y X (hT.below hX) h2 (by omega) D).mono (fun r w' h => ?_)
  rw [ConvTold, if_pos I, errOf, if_pos I] at h
  exact h

theorem edges_main (d k : Int) (w : World) (hT : Tab w) (ht : Tab10 w) (d0 : 0 ≤ d) (d1 : d < 18446744073709551616) (hfin : d % 9223372036854775808 < 9218868437227405312) :
    Calls Tryz.prog 5 #[.int .u64 d, .int .i64 k] w fun r w' => r = .returned (.bool true) ∧ Below w.heap.size w w' := by
  have hM : d.tmod 9223372036854775808 = d % 9223372036854775808 := Int.tmod_eq_emod_of_nonneg d0
  have BD0 := fun W => zbnd_any d W d0 d1 hfin
  have FN : ∀ W, Calls Tryz.prog 9 #[.int .u64 d] W fun r w' => r = .returned (.bool true) ∧ w' = W := fun W => (lfinite_any d W d0).mono (fun r w' h => by rw [decide_eq_true hfin] at h; exact h)
  obtain ⟨a, ha⟩ : ∃ a, d % 9223372036854775808 = a := ⟨_, rfl⟩
  rw [ha] at BD0 hM
  have a0 : 0 ≤ a := by omega
  have a1 : a < 9218868437227405312 := by omega
  obtain ⟨nm, ng, e0, e1, ln, hv⟩ := Sh.B_room a0 a1
  have hsB : Str (strOfNums (Sh.dd (Sh.B a)).ds) (Sh.dd (Sh.B a)).ds := Str.of_nums (fun x hx => by have := nm.digs x hx; omega)
  have LH := fun W => ldigits_yes _ _ W hsB nm (by omega)
  have kb := i64_and15 k
  have IH := fun W hW => edge_near a (k % 16) false a w hT a0 a1 (by omega) (by omega) rfl W hW
  have OH := fun W hW => edge_near a (k % 16) true (a + 1) w hT a0 a1 (by omega) (by omega) rfl W hW
  have DN : ∀ W, Calls Tryz.prog 21 #[.int .u64 (a + 1)] W fun r w' => r = .returned (.int .u64 a) ∧ w' = W := fun W => (down_any (a + 1) W (by omega) (by omega)).mono (fun r w' h => by rw [Sh.dnQ a0 a1] at h; exact h)
  rcases (show a = 0 ∨ 0 < a by omega) with c | c
  · subst c
    have A0 : Sh.dd (Sh.A 0) = ⟨false, [48], 0⟩ := by rw [Sh.A, if_pos rfl, Sh.dd_zero]
    have BD : ∀ W, Below w.heap.size w W → Calls Tryz.prog 18 #[.int .u64 d] W fun r w' => r = .returned (.tuple #[.agg #[.bool false, .string ⟨#[48]⟩, .int .i64 0], .agg #[.bool false, .string (strOfNums (Sh.dd (Sh.B 0)).ds), .int .i64 (Sh.dd (Sh.B 0)).e], .bool true, .int .i64 0]) ∧ Below W.heap.size W w' := fun W _ =>
      (BD0 W).mono (fun r w' h => by
        obtain ⟨s2, s3, h1, h2, h3⟩ := h
        have q := h2.out
        rw [A0] at h1 q
        rw [ng, show s2 = ⟨#[48]⟩ from q.1.inj (t := ⟨#[48]⟩) rfl, q.2.inj hsB] at h1
        exact ⟨h1, h3⟩)
    exact edges_Z d k (k % 16) _ _ _ _ _ w hM kb (by omega) (by omega) (by omega) (by omega) rfl ⟨rfl, rfl⟩ (lawake_any w ht) BD FN LH (fun W hW => edge_exact 0 0 w hT a0 a1 rfl W hW) IH OH DN
  · have eA : Sh.A a = Sh.B (a - 1) := by rw [Sh.A, if_neg (by omega)]
    rw [eA] at BD0
    obtain ⟨nmL, ngL, e0L, e1L, lnL, _⟩ := Sh.B_room (a := a - 1) (by omega) (by omega)
    have hsL : Str (strOfNums (Sh.dd (Sh.B (a - 1))).ds) (Sh.dd (Sh.B (a - 1))).ds := Str.of_nums (fun x hx => by have := nmL.digs x hx; omega)
    have LL := fun W => ldigits_yes _ _ W hsL nmL (by omega)
    have IL := fun W hW => edge_near (a - 1) (k % 16) true a w hT (by omega) (by omega) (by omega) (by omega) (by simp) W hW
    have OL := fun W hW => edge_near (a - 1) (k % 16) false (a - 1) w hT (by omega) (by omega) (by omega) (by omega) rfl W hW
    have UP : ∀ W, Calls Tryz.prog 22 #[.int .u64 (a - 1)] W fun r w' => r = .returned (.int .u64 a) ∧ w' = W := fun W => (up_any (a - 1) W (by omega) (by omega)).mono (fun r w' h => by rw [Sh.upQ c a1] at h; exact h)
    have BD : ∀ (cc : Bool), decide (a % 2 = 0) = cc → ∀ W, Below w.heap.size w W → Calls Tryz.prog 18 #[.int .u64 d] W fun r w' => r = .returned (.tuple #[.agg #[.bool false, .string (strOfNums (Sh.dd (Sh.B (a - 1))).ds), .int .i64 (Sh.dd (Sh.B (a - 1))).e], .agg #[.bool false, .string (strOfNums (Sh.dd (Sh.B a)).ds), .int .i64 (Sh.dd (Sh.B a)).e], .bool cc, .int .i64 0]) ∧ Below W.heap.size W w' := fun cc hcc W _ =>
      (BD0 W).mono (fun r w' h => by
        obtain ⟨s2, s3, h1, h2, h3⟩ := h
        have q := h2.out
        rw [ng, ngL, q.1.inj hsL, q.2.inj hsB, hcc] at h1
        exact ⟨h1, h3⟩)
    have tm : a.tmod 2 = a % 2 := Int.tmod_eq_emod_of_nonneg a0
    rcases (show a % 2 = 0 ∨ a % 2 = 1 by omega) with m | m
    · exact edges_T d a k (k % 16) _ _ _ _ _ _ w hM kb (by omega) (by omega) (by omega) (by omega) rfl (tm.trans m) c (by omega) (by omega) rfl (lawake_any w ht) (BD true (decide_eq_true m)) FN LH
        (fun W hW => edge_exact a a w hT a0 a1 (by rw [if_pos m]) W hW) IH OH DN LL (fun W hW => edge_exact (a - 1) a w hT (by omega) (by omega) (by rw [if_neg (by omega)]; omega) W hW) IL OL UP
    · exact edges_F d a k (k % 16) _ _ _ _ _ _ w hM kb (by omega) (by omega) (by omega) (by omega) rfl (tm.trans m) c (by omega) (by omega) rfl (lawake_any w ht) (BD false (decide_eq_false (by omega))) FN LH
        (fun W hW => edge_exact a (a + 1) w hT a0 a1 (by rw [if_neg (by omega)]) W hW) IH OH DN LL (fun W hW => edge_exact (a - 1) (a - 1) w hT (by omega) (by omega) (by rw [if_pos (by omega)]) W hW) IL OL UP

theorem edges_law (d k : Int) (w : World) (hT : Tab w) (ht : Tab10 w) (d0 : 0 ≤ d) (d1 : d < 18446744073709551616) :
    Calls Tryz.prog 5 #[.int .u64 d, .int .i64 k] w fun r w' => r = .returned (.bool true) ∧ Below w.heap.size w w' := by
  by_cases hf : d % 9223372036854775808 < 9218868437227405312
  · exact edges_main d k w hT ht d0 d1 hf
  · exact edges_inf d k w (lawake_any w ht) (fun W => zbnd_inf d W d0 d1 hf) (fun W => (lfinite_any d W d0).mono (fun r w' h => by rw [decide_eq_false hf] at h; exact h))
end Go.Proofs.YtjkefcikepnbpaaGreatDoor

namespace Go.Proofs.YtjkefcikepnbpaaGreatDoor
open Go Go.RowKit Go.Deep

theorem tab_laid : (Rows.laid_math_bits_deBruijn64tab : DataW Unit) = Lib.tabData .u8 (List.map Int.ofNat Lib.deBruijn64tab) := by kernel_rfl

theorem tab_of {W : World} {rest : List (String × DataW Unit)} (h : laidMet Tryz.prog (("math/bits.deBruijn64tab", Rows.laid_math_bits_deBruijn64tab) :: rest) W) : Tab W := by
  rw [tab_laid] at h
  have ht := Lib.tabIs_of_head (g := 0) (t := 112) (e := 5) (n := 64) (k := .u8) (zs := List.map Int.ofNat Lib.deBruijn64tab) (by kernel_rfl) (by kernel_rfl) Tryz.underlying112 Tryz.underlying5 (by kernel_rfl) (by kernel_rfl) h
  intro j hj
  have hl : (List.map Int.ofNat Lib.deBruijn64tab).length = Lib.deBruijn64tab.length := by simp
  rw [ht.cell (g := 0) (by kernel_rfl) j (by omega)]
  simp [List.getD, hj]

end Go.Proofs.YtjkefcikepnbpaaGreatDoor

namespace Go.Proofs.YtjkefcikepnbpaaGreatDoor
open Go Go.RowKit Go.Deep

theorem laid_tail12 {P : Program} {W : World} {x : String × DataW Unit} {rest : List (String × DataW Unit)} (h : laidMet P (x :: rest) W) : laidMet P rest W := by
  obtain ⟨ps, ⟨g, t, cs, fuel, p, q, _, _, _, _, hr, rfl⟩, hn, hc⟩ := h
  exact ⟨q, hr, (List.nodup_append.1 hn).2.1, fun b off hm => hc b off (List.mem_append_right _ hm)⟩

theorem pow_laid12 : (Rows.laid_internal_strconv_uint64pow10 : DataW Unit) = Lib.tabData .u64 Lib.pow10Tab := by kernel_rfl

theorem tables12 {W : World} {a : String × DataW Unit} {rest : List (String × DataW Unit)} (h : laidMet Tryz.prog (a :: ("math/bits.deBruijn64tab", Rows.laid_math_bits_deBruijn64tab) :: ("internal/strconv.uint64pow10", Rows.laid_internal_strconv_uint64pow10) :: rest) W) : Tab W ∧ Tab10 W := by
  have h1 := laid_tail12 h
  have h2 := laid_tail12 h1
  rw [pow_laid12] at h2
  exact ⟨tab_of h1, Lib.tabIs_of_head (g := 3) (t := 165) (e := 22) (n := 20) (by kernel_rfl) (by kernel_rfl) Tryz.underlying165 Tryz.underlying22 (by kernel_rfl) (by kernel_rfl) h2⟩
end Go.Proofs.YtjkefcikepnbpaaGreatDoor
