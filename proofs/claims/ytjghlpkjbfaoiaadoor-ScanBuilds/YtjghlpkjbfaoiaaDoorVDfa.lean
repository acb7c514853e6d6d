/-
  THE DOCUMENT'S TABLE OF STATES, and the literal that it finds.
-/
import Derived.Test.YtjghlpkjbfaoiaaDoorVNum2
namespace Go.Proofs.YtjghlpkjbfaoiaaDoor
namespace Sc

def srt (x : Int) : Nat := if dg x = true then 0 else if x = 43 ∨ x = 45 then 1 else if x = 46 then 2 else if x = 101 ∨ x = 69 then 3 else 4
theorem srt_lt (x : Int) : srt x < 5 := by unfold srt; repeat' split
                                           all_goals omega
/-- The table, flat. -/
def tabl : List Nat := [2, 1, 4, 9, 9, 2, 9, 4, 9, 9, 2, 9, 3, 6, 9, 5, 9, 9, 6, 9, 5, 9, 9, 9, 9, 5, 9, 9, 6, 9, 8, 7, 9, 9, 9, 8, 9, 9, 9, 9, 8, 9, 9, 9, 9]
def nx (s k : Nat) : Nat := tabl.getD (s * 5 + k) 9
def fin (s : Nat) : Bool := decide (s = 2) || decide (s = 3) || decide (s = 5) || decide (s = 8)

theorem srt_c (x : Int) : (dg x = true ∧ srt x = 0) ∨ (dg x = false ∧ (x = 43 ∨ x = 45) ∧ srt x = 1) ∨ (dg x = false ∧ x = 46 ∧ srt x = 2) ∨ (dg x = false ∧ isE x = true ∧ srt x = 3) ∨ (dg x = false ∧ ¬ (x = 43 ∨ x = 45) ∧ x ≠ 46 ∧ isE x = false ∧ srt x = 4) := by
  unfold srt
  cases hd : dg x with
  | true => exact .inl ⟨rfl, by rw [if_pos rfl]⟩
  | false =>
    rw [if_neg (by simp)]
    by_cases h1 : x = 43 ∨ x = 45
    · exact .inr (.inl ⟨rfl, h1, by rw [if_pos h1]⟩)
    · by_cases h2 : x = 46
      · exact .inr (.inr (.inl ⟨rfl, h2, by rw [if_neg h1, if_pos h2]⟩))
      · by_cases h3 : x = 101 ∨ x = 69
        · exact .inr (.inr (.inr (.inl ⟨rfl, by simpa [isE] using h3, by rw [if_neg h1, if_neg h2, if_pos h3]⟩)))
        · exact .inr (.inr (.inr (.inr ⟨rfl, h1, h2, by simpa [isE] using h3, by rw [if_neg h1, if_neg h2, if_neg h3]⟩)))

/-- What Longest answers. -/
def res (xs : List Int) (k : Nat) : Nat := if some? xs k then (lit xs k).en else k

/-- Where the reading stands at place i: the state, the last place where a literal may end. -/
inductive LI (xs : List Int) (k : Nat) : Nat → Nat → Nat → Prop
  | s0 : LI xs k k 0 k
  | s1 (h : sg xs k = 1) : LI xs k (k + 1) 1 k
  | s2 (i : Nat) (h1 : p1 xs k < i) (h2 : i ≤ p2 xs k) : LI xs k i 2 i
  | s3 (h : pk xs (p2 xs k) = 46) (h1 : p1 xs k < p2 xs k) : LI xs k (p2 xs k + 1) 3 (p2 xs k + 1)
  | s4 (h : pk xs (p2 xs k) = 46) (h1 : p1 xs k = p2 xs k) : LI xs k (p2 xs k + 1) 4 k
  | s5 (i : Nat) (h : pk xs (p2 xs k) = 46) (h1 : p2 xs k + 1 < i) (h2 : i ≤ p3 xs k) : LI xs k i 5 i
  | s6 (hs : some? xs k) (he : isE (pk xs (p3 xs k)) = true) : LI xs k (p3 xs k + 1) 6 (p3 xs k)
  | s7 (hs : some? xs k) (he : isE (pk xs (p3 xs k)) = true) (h : sg xs (p3 xs k + 1) = 1) : LI xs k (p3 xs k + 2) 7 (p3 xs k)
  | s8 (i : Nat) (hs : some? xs k) (he : hasE xs (p3 xs k) = true) (h1 : p4 xs (p3 xs k) < i) (h2 : i ≤ p4 xs (p3 xs k) + run dg xs (p4 xs (p3 xs k))) : LI xs k i 8 i

theorem sg_one {xs : List Int} {i : Nat} : sg xs i = 1 ↔ (pk xs i = 43 ∨ pk xs i = 45) := by unfold sg; split <;> simp_all
theorem sg_zero {xs : List Int} {i : Nat} (h : ¬ (pk xs i = 43 ∨ pk xs i = 45)) : sg xs i = 0 := by unfold sg; rw [if_neg h]
theorem run_mid {p : Int → Bool} (hp : p 0 = false) {xs : List Int} {a i : Nat} (h1 : a ≤ i) (h2 : i ≤ a + run p xs a) : (p (pk xs i) = true ↔ i < a + run p xs a) := by
  constructor
  · intro h
    rcases Nat.lt_or_ge i (a + run p xs a) with c | c
    · exact c
    · have e := run_end hp _ a rfl (xs := xs)
      rw [show a + run p xs a = i by omega, h] at e
      simp at e
  · intro h
    have := run_all (p := p) (xs := xs) (i := a) (i - a) (by omega)
    rw [show a + (i - a) = i by omega] at this; exact this
theorem dg_sg {x : Int} (h : dg x = true) : ¬ (x = 43 ∨ x = 45) ∧ x ≠ 46 ∧ isE x = false := by
  have := dg_iff.1 h
  refine ⟨by omega, by omega, ?_⟩
  simp [isE]; omega
theorem res_en {xs : List Int} {k : Nat} (hs : some? xs k) (he : hasE xs (p3 xs k) = false) : res xs k = p3 xs k := by
  unfold res; rw [if_pos hs, en_eq, he]; simp
theorem res_ex {xs : List Int} {k : Nat} (hs : some? xs k) (he : hasE xs (p3 xs k) = true) : res xs k = p4 xs (p3 xs k) + run dg xs (p4 xs (p3 xs k)) := by
  unfold res; rw [if_pos hs, en_eq, he]; simp
theorem hasE_not {xs : List Int} {t : Nat} (h : isE (pk xs t) = false) : hasE xs t = false := by unfold hasE; rw [h]; rfl
theorem some_a {xs : List Int} {k : Nat} (h : p1 xs k < p2 xs k) : some? xs k := by unfold some?; unfold p2 at h; omega

/-- One byte more. -/
theorem LI.step {xs : List Int} {k i s last : Nat} (h : LI xs k i s last) :
    s < 9 ∧ k ≤ last ∧ last ≤ i ∧ (nx s (srt (pk xs i)) = 9 → last = res xs k) ∧ (nx s (srt (pk xs i)) ≠ 9 → LI xs k (i + 1) (nx s (srt (pk xs i))) (if fin (nx s (srt (pk xs i))) = true then i + 1 else last)) := by
  have q12 : p1 xs k ≤ p2 xs k := by unfold p2; omega
  have qk : k ≤ p1 xs k := by unfold p1; omega
  have q23 := p2_p3 xs k
  cases h with
  | s0 =>
    refine ⟨by omega, Nat.le_refl _, Nat.le_refl _, ?_⟩
    rcases srt_c (pk xs k) with ⟨hd, e⟩ | ⟨hd, hx, e⟩ | ⟨hd, hx, e⟩ | ⟨hd, hx, e⟩ | ⟨hd, h1, h2, hx, e⟩ <;> rw [e]
    · refine ⟨fun c => by simp [nx, tabl] at c, fun _ => ?_⟩
      have p : p1 xs k = k := by unfold p1; rw [sg_zero (dg_sg hd).1]; rfl
      have : run dg xs k = run dg xs (k + 1) + 1 := run_succ dg0 hd
      exact LI.s2 (k + 1) (by omega) (by unfold p2; rw [p]; omega)
    · exact ⟨fun c => by simp [nx, tabl] at c, fun _ => LI.s1 (sg_one.2 hx)⟩
    · refine ⟨fun c => by simp [nx, tabl] at c, fun _ => ?_⟩
      have p : p1 xs k = k := by unfold p1; rw [sg_zero (by omega)]; rfl
      have p' : p2 xs k = k := by unfold p2; rw [p, run_zero dg0 hd]; rfl
      have := LI.s4 (xs := xs) (k := k) (by rw [p']; exact hx) (by omega)
      rw [p'] at this; exact this
    · have ns : ¬ some? xs k := by
        have hx' : pk xs k = 101 ∨ pk xs k = 69 := by simpa [isE] using hx
        have p : p1 xs k = k := by unfold p1; rw [sg_zero (by omega)]; rfl
        have p' : p2 xs k = k := by unfold p2; rw [p, run_zero dg0 hd]; rfl
        unfold some? bn; rw [p, run_zero dg0 hd, p', if_neg (by omega)]; simp
      exact ⟨fun _ => by unfold res; rw [if_neg ns], fun c => absurd rfl c⟩
    · have ns : ¬ some? xs k := by
        have p : p1 xs k = k := by unfold p1; rw [sg_zero h1]; rfl
        have p' : p2 xs k = k := by unfold p2; rw [p, run_zero dg0 hd]; rfl
        unfold some? bn; rw [p, run_zero dg0 hd, p', if_neg h2]; simp
      exact ⟨fun _ => by unfold res; rw [if_neg ns], fun c => absurd rfl c⟩
  | s1 h =>
    refine ⟨by omega, Nat.le_refl _, by omega, ?_⟩
    have p : p1 xs k = k + 1 := by unfold p1; rw [h]
    rcases srt_c (pk xs (k + 1)) with ⟨hd, e⟩ | ⟨hd, hx, e⟩ | ⟨hd, hx, e⟩ | ⟨hd, hx, e⟩ | ⟨hd, h1, h2, hx, e⟩ <;> rw [e]
    · refine ⟨fun c => by simp [nx, tabl] at c, fun _ => ?_⟩
      have : run dg xs (k + 1) = run dg xs (k + 1 + 1) + 1 := run_succ dg0 hd
      exact LI.s2 (k + 1 + 1) (by omega) (by unfold p2; rw [p]; omega)
    · have ns : ¬ some? xs k := by
        have p' : p2 xs k = k + 1 := by unfold p2; rw [p, run_zero dg0 hd]
        unfold some? bn; rw [p, run_zero dg0 hd, p', if_neg (by omega)]; simp
      exact ⟨fun _ => by unfold res; rw [if_neg ns], fun c => absurd rfl c⟩
    · refine ⟨fun c => by simp [nx, tabl] at c, fun _ => ?_⟩
      have p' : p2 xs k = k + 1 := by unfold p2; rw [p, run_zero dg0 hd]
      have := LI.s4 (xs := xs) (k := k) (by rw [p']; exact hx) (by omega)
      rw [p'] at this; exact this
    · have ns : ¬ some? xs k := by
        have hx' : pk xs (k + 1) = 101 ∨ pk xs (k + 1) = 69 := by simpa [isE] using hx
        have p' : p2 xs k = k + 1 := by unfold p2; rw [p, run_zero dg0 hd]
        unfold some? bn; rw [p, run_zero dg0 hd, p', if_neg (by omega)]; simp
      exact ⟨fun _ => by unfold res; rw [if_neg ns], fun c => absurd rfl c⟩
    · have ns : ¬ some? xs k := by
        have p' : p2 xs k = k + 1 := by unfold p2; rw [p, run_zero dg0 hd]
        unfold some? bn; rw [p, run_zero dg0 hd, p', if_neg h2]; simp
      exact ⟨fun _ => by unfold res; rw [if_neg ns], fun c => absurd rfl c⟩
  | s2 i h1 h2 =>
    refine ⟨by omega, by omega, Nat.le_refl _, ?_⟩
    have hs : some? xs k := some_a (by omega)
    have hm := run_mid dg0 (xs := xs) (a := p1 xs k) (i := i) (by omega) h2
    have hp2 : p1 xs k + run dg xs (p1 xs k) = p2 xs k := rfl
    rcases srt_c (pk xs i) with ⟨hd, e⟩ | ⟨hd, hx, e⟩ | ⟨hd, hx, e⟩ | ⟨hd, hx, e⟩ | ⟨hd, h3, h4, hx, e⟩ <;> rw [e]
    · exact ⟨fun c => by simp [nx, tabl] at c, fun _ => LI.s2 (i + 1) (by omega) (by have := hm.1 hd; omega)⟩
    all_goals have hi : i = p2 xs k := by rcases Nat.lt_or_ge i (p2 xs k) with c | c; (rw [hm.2 (by omega)] at hd; simp at hd); omega
    · subst hi
      refine ⟨fun _ => ?_, fun c => absurd rfl c⟩
      have hp3 : p3 xs k = p2 xs k := by unfold p3; rw [if_neg (by omega)]
      rw [res_en hs (by rw [hp3]; exact hasE_not (by simp [isE]; omega)), hp3]
    · subst hi
      exact ⟨fun c => by simp [nx, tabl] at c, fun _ => LI.s3 hx (by omega)⟩
    · subst hi
      have hp3 : p3 xs k = p2 xs k := by unfold p3; rw [if_neg (by intro c; rw [c] at hx; simp [isE] at hx)]
      refine ⟨fun c => by simp [nx, tabl] at c, fun _ => ?_⟩
      have := LI.s6 (xs := xs) (k := k) hs (by rw [hp3]; exact hx)
      rw [hp3] at this; exact this
    · subst hi
      refine ⟨fun _ => ?_, fun c => absurd rfl c⟩
      have hp3 : p3 xs k = p2 xs k := by unfold p3; rw [if_neg h4]
      rw [res_en hs (by rw [hp3]; exact hasE_not hx), hp3]
  | s3 h h1 =>
    refine ⟨by omega, by omega, Nat.le_refl _, ?_⟩
    have hs : some? xs k := some_a h1
    have hp3 : p3 xs k = p2 xs k + 1 + run dg xs (p2 xs k + 1) := by unfold p3; rw [if_pos h]
    rcases srt_c (pk xs (p2 xs k + 1)) with ⟨hd, e⟩ | ⟨hd, hx, e⟩ | ⟨hd, hx, e⟩ | ⟨hd, hx, e⟩ | ⟨hd, h3, h4, hx, e⟩ <;> rw [e]
    · have := run_succ dg0 hd
      exact ⟨fun c => by simp [nx, tabl] at c, fun _ => LI.s5 _ h (by omega) (by omega)⟩
    all_goals rw [run_zero dg0 hd, Nat.add_zero] at hp3
    · exact ⟨fun _ => by rw [res_en hs (by rw [hp3]; exact hasE_not (by simp [isE]; omega)), hp3], fun c => absurd rfl c⟩
    · exact ⟨fun _ => by rw [res_en hs (by rw [hp3]; exact hasE_not (by simp [isE]; omega)), hp3], fun c => absurd rfl c⟩
    · refine ⟨fun c => by simp [nx, tabl] at c, fun _ => ?_⟩
      have := LI.s6 (xs := xs) (k := k) hs (by rw [hp3]; exact hx)
      rw [hp3] at this; exact this
    · exact ⟨fun _ => by rw [res_en hs (by rw [hp3]; exact hasE_not hx), hp3], fun c => absurd rfl c⟩
  | s4 h h1 =>
    refine ⟨by omega, Nat.le_refl _, by omega, ?_⟩
    have hp3 : p3 xs k = p2 xs k + 1 + run dg xs (p2 xs k + 1) := by unfold p3; rw [if_pos h]
    have ha : run dg xs (p1 xs k) = 0 := by unfold p2 at h1; omega
    rcases srt_c (pk xs (p2 xs k + 1)) with ⟨hd, e⟩ | ⟨hd, hx, e⟩ | ⟨hd, hx, e⟩ | ⟨hd, hx, e⟩ | ⟨hd, h3, h4, hx, e⟩ <;> rw [e]
    · have := run_succ dg0 hd
      exact ⟨fun c => by simp [nx, tabl] at c, fun _ => LI.s5 _ h (by omega) (by omega)⟩
    all_goals
      have ns : ¬ some? xs k := by unfold some? bn; rw [ha, if_pos h, run_zero dg0 hd]; simp
      exact ⟨fun _ => by unfold res; rw [if_neg ns], fun c => absurd rfl c⟩
  | s5 i h h1 h2 =>
    refine ⟨by omega, by omega, Nat.le_refl _, ?_⟩
    have hp3 : p3 xs k = p2 xs k + 1 + run dg xs (p2 xs k + 1) := by unfold p3; rw [if_pos h]
    have hs : some? xs k := by unfold some? bn; rw [if_pos h]; omega
    have hm := run_mid dg0 (xs := xs) (a := p2 xs k + 1) (i := i) (by omega) (by omega)
    rcases srt_c (pk xs i) with ⟨hd, e⟩ | ⟨hd, hx, e⟩ | ⟨hd, hx, e⟩ | ⟨hd, hx, e⟩ | ⟨hd, h3, h4, hx, e⟩ <;> rw [e]
    · exact ⟨fun c => by simp [nx, tabl] at c, fun _ => LI.s5 (i + 1) h (by omega) (by have := hm.1 hd; omega)⟩
    all_goals have hi : i = p3 xs k := by rcases Nat.lt_or_ge i (p3 xs k) with c | c; (rw [hm.2 (by omega)] at hd; simp at hd); omega
    · subst hi
      exact ⟨fun _ => by rw [res_en hs (hasE_not (by simp [isE]; omega))], fun c => absurd rfl c⟩
    · subst hi
      exact ⟨fun _ => by rw [res_en hs (hasE_not (by simp [isE]; omega))], fun c => absurd rfl c⟩
    · subst hi
      exact ⟨fun c => by simp [nx, tabl] at c, fun _ => LI.s6 hs hx⟩
    · subst hi
      exact ⟨fun _ => by rw [res_en hs (hasE_not hx)], fun c => absurd rfl c⟩
  | s6 hs he =>
    refine ⟨by omega, by omega, by omega, ?_⟩
    rcases srt_c (pk xs (p3 xs k + 1)) with ⟨hd, e⟩ | ⟨hd, hx, e⟩ | ⟨hd, hx, e⟩ | ⟨hd, hx, e⟩ | ⟨hd, h3, h4, hx, e⟩ <;> rw [e]
    · have hp4 : p4 xs (p3 xs k) = p3 xs k + 1 := by unfold p4; rw [sg_zero (dg_sg hd).1]
      have hE : hasE xs (p3 xs k) = true := by unfold hasE; rw [he, hp4, hd]; rfl
      have := run_succ dg0 hd
      exact ⟨fun c => by simp [nx, tabl] at c, fun _ => LI.s8 _ hs hE (by omega) (by rw [hp4]; omega)⟩
    · exact ⟨fun c => by simp [nx, tabl] at c, fun _ => LI.s7 hs he (sg_one.2 hx)⟩
    all_goals
      have hp4 : p4 xs (p3 xs k) = p3 xs k + 1 := by unfold p4; rw [sg_zero (by first | exact h3 | omega | (intro c; rcases c with c | c <;> (rw [c] at hx; simp [isE] at hx)))]
      have hE : hasE xs (p3 xs k) = false := by unfold hasE; rw [hp4, hd, Bool.and_false]
      exact ⟨fun _ => (res_en hs hE).symm, fun c => absurd rfl c⟩
  | s7 hs he h =>
    refine ⟨by omega, by omega, by omega, ?_⟩
    have hp4 : p4 xs (p3 xs k) = p3 xs k + 2 := by unfold p4; rw [h]
    rcases srt_c (pk xs (p3 xs k + 2)) with ⟨hd, e⟩ | ⟨hd, hx, e⟩ | ⟨hd, hx, e⟩ | ⟨hd, hx, e⟩ | ⟨hd, h3, h4, hx, e⟩ <;> rw [e]
    · have hE : hasE xs (p3 xs k) = true := by unfold hasE; rw [he, hp4, hd]; rfl
      have := run_succ dg0 hd
      exact ⟨fun c => by simp [nx, tabl] at c, fun _ => LI.s8 _ hs hE (by omega) (by rw [hp4]; omega)⟩
    all_goals
      have hE : hasE xs (p3 xs k) = false := by unfold hasE; rw [hp4, hd, Bool.and_false]
      exact ⟨fun _ => (res_en hs hE).symm, fun c => absurd rfl c⟩
  | s8 i hs he h1 h2 =>
    have h5 : p3 xs k < p4 xs (p3 xs k) := by unfold p4; omega
    refine ⟨by omega, by omega, Nat.le_refl _, ?_⟩
    have hm := run_mid dg0 (xs := xs) (a := p4 xs (p3 xs k)) (i := i) (by omega) h2
    rcases srt_c (pk xs i) with ⟨hd, e⟩ | ⟨hd, hx, e⟩ | ⟨hd, hx, e⟩ | ⟨hd, hx, e⟩ | ⟨hd, h3, h4, hx, e⟩ <;> rw [e]
    · exact ⟨fun c => by simp [nx, tabl] at c, fun _ => LI.s8 (i + 1) hs he (by omega) (by have := hm.1 hd; omega)⟩
    all_goals
      have hi : i = p4 xs (p3 xs k) + run dg xs (p4 xs (p3 xs k)) := by
        rcases Nat.lt_or_ge i (p4 xs (p3 xs k) + run dg xs (p4 xs (p3 xs k))) with c | c
        · rw [hm.2 c] at hd; simp at hd
        · omega
      exact ⟨fun _ => by rw [res_ex hs he]; exact hi, fun c => absurd rfl c⟩
/-- At the text's end. -/
theorem LI.done {xs : List Int} {k i s last : Nat} (h : LI xs k i s last) (hi : xs.length ≤ i) : last = res xs k := by
  obtain ⟨h1, -, -, h2, -⟩ := h.step
  apply h2
  rw [pk_ge hi]
  rcases (show s = 0 ∨ s = 1 ∨ s = 2 ∨ s = 3 ∨ s = 4 ∨ s = 5 ∨ s = 6 ∨ s = 7 ∨ s = 8 by omega) with rfl | rfl | rfl | rfl | rfl | rfl | rfl | rfl | rfl <;> decide
end Sc
end Go.Proofs.YtjghlpkjbfaoiaaDoor
