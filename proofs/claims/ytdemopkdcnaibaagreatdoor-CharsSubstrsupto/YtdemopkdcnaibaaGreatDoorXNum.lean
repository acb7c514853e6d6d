import Derived.Test.YtdemopkdcnaibaaGreatDoorINum2
/-
  Doubles as numbers, for the arithmetic on them: units of 2^-1074, signs, what is nearest.
-/
namespace Go.Proofs.YtdemopkdcnaibaaGreatDoor
namespace Ie

/-- The value of the double x (no sign), in units of 2^-1074. -/
def un (x : Int) : Int := man x * 2 ^ ex x

theorem vl_un (x : Int) : vl x = 2 * un x := by rw [vl, un, Int.mul_assoc]

theorem un_succ (x : Int) (h : 0 ≤ x) : un (x + 1) = un x + 2 ^ ex x := by
  have := vl_succ x h
  rw [vl_un, vl_un] at this
  omega

theorem md_un (x : Int) (h : 0 ≤ x) : md x = un x + un (x + 1) := by
  have h1 := md_eq x
  rw [vl_un] at h1
  have := un_succ x h
  omega

theorem un_nn {x : Int} (h : 0 ≤ x) : 0 ≤ un x := by
  have := vl_nn h
  rw [vl_un] at this
  omega

theorem un_zero : un 0 = 0 := by decide

theorem un_lt {x y : Int} (hx : 0 ≤ x) (h : x < y) : un x < un y := by
  have := (vl_lt_iff hx (by omega)).2 h
  rw [vl_un, vl_un] at this
  omega

theorem un_le {x y : Int} (hx : 0 ≤ x) (h : x ≤ y) : un x ≤ un y := by
  have := vl_le hx h
  rw [vl_un, vl_un] at this
  omega

theorem un_inj {x y : Int} (hx : 0 ≤ x) (hy : 0 ≤ y) (h : un x = un y) : x = y :=
  vl_inj hx hy (by rw [vl_un, vl_un, h])

theorem un_pos {x : Int} (hx : 0 < x) : 0 < un x := by
  have := un_lt (x := 0) (y := x) (by omega) hx
  rw [un_zero] at this
  exact this

/-- A number with its sign. -/
def sn (neg : Bool) (V : Int) : Int := if neg = true then -V else V

theorem sn_zero (neg : Bool) : sn neg 0 = 0 := by cases neg <;> rfl
theorem sn_false (V : Int) : sn false V = V := rfl
theorem sn_true (V : Int) : sn true V = -V := rfl
theorem sn_mul (a b : Bool) (V W : Int) : sn a V * sn b W = sn (a != b) (V * W) := by
  cases a <;> cases b <;> simp [sn, Int.neg_mul, Int.mul_neg]
theorem sn_mul_right (a : Bool) (V W : Int) : sn a V * W = sn a (V * W) := by
  cases a <;> simp [sn, Int.neg_mul]
theorem sn_not (a : Bool) (V : Int) : sn (!a) V = -sn a V := by cases a <;> simp [sn]

/-- A double's bits: sign and the rest. -/
def sb (neg : Bool) (x : Int) : Int := if neg = true then x + 9223372036854775808 else x

/-- S / Q, in units of 2^-1074, is rounded to the bits r; z is the sign of an exact zero. -/
def RS (S Q : Int) (z : Bool) (r : Int) : Prop :=
  ∃ (neg : Bool) (V x : Int), r = sb neg x ∧ S = sn neg V ∧ 0 ≤ V ∧ Near (2 * V) Q false x ∧ (S = 0 → neg = z)

theorem RS.one {S Q S' Q' : Int} {z : Bool} {r r' : Int} (hQ : 0 < Q) (hQ' : 0 < Q') (h : RS S Q z r) (h' : RS S' Q' z r') (e : S * Q' = S' * Q) : r = r' := by
  obtain ⟨n, V, x, rfl, hS, hV, hN, hz⟩ := h
  obtain ⟨n', V', x', rfl, hS', hV', hN', hz'⟩ := h'
  have hn : n = n' ∧ V * Q' = V' * Q := by
    rcases (show S = 0 ∨ S ≠ 0 by omega) with h0 | h0
    · have h1 : S' = 0 := by
        rw [h0, Int.zero_mul] at e
        rcases Int.mul_eq_zero.1 e.symm with h | h
        · exact h
        · omega
      refine ⟨(hz h0).trans (hz' h1).symm, ?_⟩
      have v0 : V = 0 := by rw [h0] at hS; simp only [sn] at hS; split at hS <;> omega
      have v1 : V' = 0 := by rw [h1] at hS'; simp only [sn] at hS'; split at hS' <;> omega
      rw [v0, v1, Int.zero_mul, Int.zero_mul]
    · rw [hS, hS', sn_mul_right, sn_mul_right] at e
      have vp : 0 < V := by
        rcases (show V = 0 ∨ 0 < V by omega) with h | h
        · rw [h, sn_zero] at hS; omega
        · exact h
      have p1 := Int.mul_pos vp hQ'
      have p2 : 0 ≤ V' * Q := Int.mul_nonneg hV' (by omega)
      cases n <;> cases n' <;> simp only [sn, if_true, Bool.false_eq_true, if_false] at e
      · exact ⟨rfl, e⟩
      · omega
      · omega
      · exact ⟨rfl, by omega⟩
  obtain ⟨rfl, hv⟩ := hn
  have : x = x' := hN.one hQ hQ' hN' (by rw [Int.mul_assoc, Int.mul_assoc, hv])
  rw [this]

/-- How far it is from nothing. -/
def az (z : Int) : Int := if z < 0 then -z else z

theorem az_sn (neg : Bool) (V : Int) (h : 0 ≤ V) : az (sn neg V) = V := by
  cases neg <;> simp only [az, sn, if_true, Bool.false_eq_true, if_false] <;> split <;> omega
theorem az_neg (z : Int) : az (-z) = az z := by simp only [az]; split <;> split <;> omega
theorem az_nn (z : Int) : 0 ≤ az z := by simp only [az]; split <;> omega

/-- What is rounded to is as near as its neighbours; of two equally near ones it is the even one. -/
theorem near_up {V m x : Int} (m0 : 0 < m) (h : Near (2 * V) m false x) (hx : x < 9218868437227405312) : az (V - un x * m) < az (V - un (x + 1) * m) ∨ (az (V - un x * m) = az (V - un (x + 1) * m) ∧ x % 2 = 0) := by
  have x0 := h.1.1
  have g := h.2.2 hx
  rw [md_un x x0, Int.add_mul] at g
  have lt := Int.mul_lt_mul_of_pos_right (un_lt x0 (show x < x + 1 by omega)) m0
  generalize un x * m = A at *
  generalize un (x + 1) * m = B at *
  simp only [az]
  rcases g with g | ⟨g, g', _⟩
  · left; split <;> split <;> omega
  · right; refine ⟨?_, g'⟩; split <;> split <;> omega

theorem near_down {V m x : Int} (m0 : 0 < m) (h : Near (2 * V) m false x) (hx : 0 < x) : az (V - un x * m) < az (V - un (x - 1) * m) ∨ (az (V - un x * m) = az (V - un (x - 1) * m) ∧ x % 2 = 0) := by
  have g := h.2.1 hx
  rw [md_un (x - 1) (by omega), show x - 1 + 1 = x by omega, Int.add_mul] at g
  have lt := Int.mul_lt_mul_of_pos_right (un_lt (show 0 ≤ x - 1 by omega) (show x - 1 < x by omega)) m0
  generalize un x * m = A at *
  generalize un (x - 1) * m = B at *
  simp only [az]
  rcases g with g | ⟨g, g'⟩
  · left; split <;> split <;> omega
  · right
    refine ⟨?_, ?_⟩
    · split <;> split <;> omega
    · rcases g' with g' | g'
      · exact g'
      · cases g'

theorem near_cross {V m : Int} (m0 : 0 < m) (v0 : 0 ≤ V) : az (V - un 0 * m) < az (V - -un 1 * m) := by
  have h1 := Int.mul_pos (un_pos (x := 1) (by omega)) m0
  rw [un_zero, Int.zero_mul, Int.neg_mul]
  simp only [az]
  split <;> split <;> omega

/-- No double is nearer. -/
theorem near_all {V m x y : Int} (m0 : 0 < m) (h : Near (2 * V) m false x) (y0 : 0 ≤ y) (y1 : y ≤ 9218868437227405312) : az (V - un x * m) ≤ az (V - un y * m) := by
  have x0 := h.1.1
  rcases (show x = y ∨ x < y ∨ y < x by omega) with e | e | e
  · rw [e]; exact Int.le_refl _
  · have g := near_up m0 h (by omega)
    have l1 := Int.mul_lt_mul_of_pos_right (un_lt x0 (show x < x + 1 by omega)) m0
    have l2 := Int.mul_le_mul_of_nonneg_right (un_le (show 0 ≤ x + 1 by omega) (show x + 1 ≤ y by omega)) (show 0 ≤ m by omega)
    generalize un x * m = A at *
    generalize un (x + 1) * m = B at *
    generalize un y * m = C at *
    simp only [az] at *
    rcases g with g | ⟨g, _⟩ <;> split at g <;> split at g <;> split <;> split <;> omega
  · have g := near_down m0 h (by omega)
    have l1 := Int.mul_lt_mul_of_pos_right (un_lt (show 0 ≤ x - 1 by omega) (show x - 1 < x by omega)) m0
    have l2 := Int.mul_le_mul_of_nonneg_right (un_le y0 (show y ≤ x - 1 by omega)) (show 0 ≤ m by omega)
    generalize un x * m = A at *
    generalize un (x - 1) * m = B at *
    generalize un y * m = C at *
    simp only [az] at *
    rcases g with g | ⟨g, _⟩ <;> split at g <;> split at g <;> split <;> split <;> omega

/-- A double is rounded to itself. -/
theorem near_self (y Q : Int) (more : Bool) (hQ : 0 < Q) (h0 : 0 ≤ y) (h1 : y < 9218868437227405312) : Near (2 * (un y * Q)) Q more y := by
  rw [← Int.mul_assoc, ← vl_un]
  refine ⟨⟨h0, by omega⟩, fun hx => .inl ?_, fun _ => .inl ?_⟩
  · have := md_lt_vl (y - 1) (by omega)
    rw [show y - 1 + 1 = y by omega] at this
    exact Int.mul_lt_mul_of_pos_right this hQ
  · exact Int.mul_lt_mul_of_pos_right (vl_lt_md y) hQ

/-- What is a whole number of 53 bits times a power of two is a double. -/
theorem un_rep : ∀ (E : Nat) (k : Int), 0 ≤ k → k < 9007199254740992 → E ≤ 2045 → ∃ y, 0 ≤ y ∧ y < 9218868437227405312 ∧ un y = k * 2 ^ E
  | 0, k, h0, h1, _ => by
    refine ⟨k, h0, by omega, ?_⟩
    have e1 : man k = k := by simp only [man]; split <;> omega
    have e2 : ex k = 0 := by simp only [ex]; omega
    rw [un, e1, e2]
  | E + 1, k, h0, h1, hE => by
    rcases (show k < 4503599627370496 ∨ 4503599627370496 ≤ k by omega) with h | h
    · obtain ⟨y, y0, y1, hy⟩ := un_rep E (2 * k) (by omega) (by omega) (by omega)
      exact ⟨y, y0, y1, by rw [hy, Nm.two_succ, Int.mul_comm 2 k, Int.mul_assoc]⟩
    · obtain ⟨y, hy⟩ : ∃ y : Int, y = ((E + 1 : Nat) : Int) * 4503599627370496 + k := ⟨_, rfl⟩
      have e1 : man y = k := by simp only [man]; split <;> omega
      have e2 : ex y = E + 1 := by simp only [ex]; omega
      exact ⟨y, by omega, by omega, by rw [un, e1, e2]⟩

/-- .. one of 2^53 too, and it may be the infinity. -/
theorem un_rep' (E : Nat) (k : Int) (h0 : 0 ≤ k) (h1 : k ≤ 9007199254740992) (hE : E ≤ 2045) : ∃ y, 0 ≤ y ∧ y ≤ 9218868437227405312 ∧ un y = k * 2 ^ E := by
  rcases (show k < 9007199254740992 ∨ k = 9007199254740992 by omega) with h | h
  · obtain ⟨y, y0, y1, hy⟩ := un_rep E k h0 h hE
    exact ⟨y, y0, by omega, hy⟩
  · obtain ⟨y, hy⟩ : ∃ y : Int, y = ((E + 2 : Nat) : Int) * 4503599627370496 := ⟨_, rfl⟩
    have e1 : man y = 4503599627370496 := by simp only [man]; split <;> omega
    have e2 : ex y = E + 1 := by simp only [ex]; omega
    refine ⟨y, by omega, by omega, ?_⟩
    rw [un, e1, e2, h, Nm.two_succ, ← Int.mul_assoc]
    rfl

/-- Where the exact result is a double, it is the answer. -/
theorem RS.exact {S Q : Int} {z : Bool} {r : Int} (hQ : 0 < Q) (h : RS S Q z r) (y : Int) (y0 : 0 ≤ y) (y1 : y < 9218868437227405312) (e : az S = un y * Q) :
    ∃ neg, r = sb neg y ∧ S = sn neg (un y * Q) ∧ (S = 0 → neg = z) := by
  obtain ⟨n, V, x, rfl, hS, hV, hN, hz⟩ := h
  have hv : V = un y * Q := by rw [← e, hS, az_sn n V hV]
  have hx : x = y := hN.one hQ hQ (near_self y Q false hQ y0 y1) (by rw [hv])
  subst hx
  exact ⟨n, rfl, by rw [hS, hv], hz⟩
end Ie
end Go.Proofs.YtdemopkdcnaibaaGreatDoor
