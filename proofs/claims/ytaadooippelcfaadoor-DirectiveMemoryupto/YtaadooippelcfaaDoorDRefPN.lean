/-
  A DIRECTIVE's PARTS by their places, as the document reads them: they are the program's. Mathematics.
-/
import Derived.Test.YtaadooippelcfaaDoorGD
namespace Go.Proofs.YtaadooippelcfaaDoor
namespace Dr

def wK (xs : List Int) (j : Nat) : Int := if mF xs j < mW xs j then (if nx xs (mF xs j) = 42 then 2 else 1) else 0
def wV (xs : List Int) (j : Nat) : Int := if mF xs j < mW xs j ∧ nx xs (mF xs j) ≠ 42 then dN 0 (xs.drop (mF xs j)) else 0
def pK (xs : List Int) (j : Nat) : Int := if mW xs j < mP xs j then (if mP xs j = mW xs j + 1 ∨ nx xs (mW xs j + 1) ≠ 42 then 1 else 2) else 0
def pV (xs : List Int) (j : Nat) : Int := if mW xs j < mP xs j ∧ (mP xs j = mW xs j + 1 ∨ nx xs (mW xs j + 1) ≠ 42) then dN 0 (xs.drop (mW xs j + 1)) else 0

theorem dN_none {l : List Int} (h : ct isD l = 0) : dN 0 l = 0 := by rw [← dN_take, h]; rfl
/-- A number at a place, against where it ends. -/
theorem num_at (xs : List Int) (k : Nat) :
    (nx xs k = 42 ∧ wl xs k = k + 1 ∧ ne (xs.drop k) = 0 ∧ nk (xs.drop k) = 2 ∧ nv (xs.drop k) = 0 ∧ nu (xs.drop k) = 1) ∨
    (nx xs k ≠ 42 ∧ wl xs k = k ∧ dN 0 (xs.drop k) = 0 ∧ ne (xs.drop k) = 0 ∧ nk (xs.drop k) = 0 ∧ nv (xs.drop k) = 0 ∧ nu (xs.drop k) = 0) ∨
    (nx xs k ≠ 42 ∧ k < wl xs k ∧ 4096 < dN 0 (xs.drop k) ∧ ne (xs.drop k) = 6 ∧ nu (xs.drop k) = 0) ∨
    (nx xs k ≠ 42 ∧ k < wl xs k ∧ dN 0 (xs.drop k) ≤ 4096 ∧ ne (xs.drop k) = 0 ∧ nk (xs.drop k) = 1 ∧ nv (xs.drop k) = dN 0 (xs.drop k) ∧ k + nu (xs.drop k) = wl xs k) := by
  unfold ne nk nv nu wl
  rw [head_nx]
  by_cases h : nx xs k = 42
  · left; simp [h]
  · right
    by_cases c : ct isD (xs.drop k) = 0
    · left; simp [h, c, dN_none c]
    · right
      by_cases d : 4096 < dN 0 (xs.drop k)
      · left; simp [h, c, d]; omega
      · right; simp [h, c, d]; omega

theorem l1_at (xs : List Int) (j : Nat) : l1 (xs.drop (j + 1)) = xs.drop (mF xs j) := by rw [l1, List.drop_drop]; rfl
theorem width_at (xs : List Int) (j : Nat) : (wV xs j ≤ 4096 → ne (xs.drop (mF xs j)) = 0 ∧ nk (xs.drop (mF xs j)) = wK xs j ∧ nv (xs.drop (mF xs j)) = wV xs j ∧ mF xs j + nu (xs.drop (mF xs j)) = mW xs j) ∧ (4096 < wV xs j → ne (xs.drop (mF xs j)) = 6) := by
  have e : mW xs j = wl xs (mF xs j) := rfl
  unfold wV wK
  rw [e]
  generalize mF xs j = k
  rcases num_at xs k with ⟨a, b, c, d, f, g⟩ | ⟨a, b, z, c, d, f, g⟩ | ⟨a, b, c, d, f⟩ | ⟨a, b, c, d, f, g, i⟩
  · refine ⟨fun _ => ⟨c, ?_, ?_, by omega⟩, fun h => ?_⟩
    · rw [if_pos (by omega), if_pos a, d]
    · rw [if_neg (fun q => q.2 a), f]
    · rw [if_neg (fun q => q.2 a)] at h; omega
  · refine ⟨fun _ => ⟨c, ?_, ?_, by omega⟩, fun h => ?_⟩
    · rw [if_neg (by omega), d]
    · rw [if_neg (fun q => by omega), f]
    · rw [if_neg (fun q => by omega)] at h; omega
  · refine ⟨fun h => ?_, fun h => d⟩
    rw [if_pos ⟨b, a⟩] at h; omega
  · refine ⟨fun _ => ⟨d, ?_, ?_, i⟩, fun h => ?_⟩
    · rw [if_pos b, if_neg a, f]
    · rw [if_pos ⟨b, a⟩, g]
    · rw [if_pos ⟨b, a⟩] at h; omega
theorem prec_at (xs : List Int) (j : Nat) : (pV xs j ≤ 4096 → pe (xs.drop (mW xs j)) = 0 ∧ pk (xs.drop (mW xs j)) = pK xs j ∧ pv (xs.drop (mW xs j)) = pV xs j ∧ mW xs j + pu (xs.drop (mW xs j)) = mP xs j) ∧ (4096 < pV xs j → pe (xs.drop (mW xs j)) = 6 ∧ pu (xs.drop (mW xs j)) = 1) := by
  have e : mP xs j = if nx xs (mW xs j) = 46 then wl xs (mW xs j + 1) else mW xs j := rfl
  unfold pV pK pe pk pv pu
  rw [e, head_nx, List.tail_drop]
  generalize mW xs j = k
  by_cases h : nx xs k = 46
  · simp only [h, if_true]
    rcases num_at xs (k + 1) with ⟨a, b, c, d, f, g⟩ | ⟨a, b, z, c, d, f, g⟩ | ⟨a, b, c, d, f⟩ | ⟨a, b, c, d, f, g, i⟩
    · have n1 : ¬ (k < k + 1 + 1 ∧ (k + 1 + 1 = k + 1 ∨ (42 : Int) ≠ 42)) := by omega
      have n2 : k < k + 1 + 1 := by omega
      have n3 : ¬ (k + 1 + 1 = k + 1 ∨ (42 : Int) ≠ 42) := by omega
      rw [a, b, c, d, f, g, if_neg n1, if_pos n2, if_neg n3]
      refine ⟨fun _ => ⟨rfl, by simp, rfl, by omega⟩, fun q => ?_⟩
      omega
    · have n2 : k < k + 1 := by omega
      have n3 : k + 1 = k + 1 ∨ nx xs (k + 1) ≠ 42 := .inl rfl
      have n1 : k < k + 1 ∧ (k + 1 = k + 1 ∨ nx xs (k + 1) ≠ 42) := ⟨n2, n3⟩
      rw [b, c, d, f, g, z, if_pos n1, if_pos n2, if_pos n3]
      refine ⟨fun _ => ⟨rfl, by simp, rfl, by omega⟩, fun q => ?_⟩
      omega
    · have n2 : k < wl xs (k + 1) := by omega
      rw [d, f, if_pos (⟨n2, .inr a⟩ : k < wl xs (k + 1) ∧ (wl xs (k + 1) = k + 1 ∨ nx xs (k + 1) ≠ 42))]
      exact ⟨fun q => by omega, fun _ => ⟨rfl, rfl⟩⟩
    · have n2 : k < wl xs (k + 1) := by omega
      rw [d, f, g, if_pos (⟨n2, .inr a⟩ : k < wl xs (k + 1) ∧ (wl xs (k + 1) = k + 1 ∨ nx xs (k + 1) ≠ 42)), if_pos n2, if_pos (.inr a : wl xs (k + 1) = k + 1 ∨ nx xs (k + 1) ≠ 42)]
      refine ⟨fun _ => ⟨rfl, by simp, rfl, by omega⟩, fun q => by omega⟩
  · simp [h]

/-- What the document answers of a directive at the percent in place j. -/
theorem dir_wide {xs : List Int} {j : Nat} (h : 4096 < wV xs j) : de (xs.drop (j + 1)) = 6 ∧ j + (1 + du (xs.drop (j + 1))) = mF xs j := by
  have a := (width_at xs j).2 h
  unfold de du
  rw [l1_at, a]
  refine ⟨by simp, ?_⟩
  rw [if_pos (by decide)]
  unfold mF; omega
theorem l2_at {xs : List Int} {j : Nat} (h : wV xs j ≤ 4096) : l2 (xs.drop (j + 1)) = xs.drop (mW xs j) := by
  have a := (width_at xs j).1 h
  rw [l2, l1_at, List.drop_drop, a.2.2.2]
theorem dir_prec {xs : List Int} {j : Nat} (h : wV xs j ≤ 4096) (k : 4096 < pV xs j) : de (xs.drop (j + 1)) = 6 ∧ j + (1 + du (xs.drop (j + 1))) = mW xs j + 1 := by
  have a := (width_at xs j).1 h
  have b := (prec_at xs j).2 k
  have c : mF xs j = j + 1 + ct isF (xs.drop (j + 1)) := rfl
  unfold de du
  rw [l2_at h, l1_at, a.1, b.1]
  refine ⟨by simp, ?_⟩
  rw [if_neg (by simp), if_pos (by decide), b.2]
  omega
theorem l3_at {xs : List Int} {j : Nat} (h : wV xs j ≤ 4096) (k : pV xs j ≤ 4096) : l3 (xs.drop (j + 1)) = xs.drop (mP xs j) := by
  have b := (prec_at xs j).1 k
  rw [l3, l2_at h, List.drop_drop, b.2.2.2]
theorem dir_rest {xs : List Int} {j : Nat} (h : wV xs j ≤ 4096) (k : pV xs j ≤ 4096) : de (xs.drop (j + 1)) = ve (xs.drop (mP xs j)) ∧ j + (1 + du (xs.drop (j + 1))) = mP xs j + vu (xs.drop (mP xs j)) := by
  have a := (width_at xs j).1 h
  have b := (prec_at xs j).1 k
  have c : mF xs j = j + 1 + ct isF (xs.drop (j + 1)) := rfl
  unfold de du
  rw [l3_at h k, l2_at h, l1_at, a.1, b.1]
  refine ⟨by simp, ?_⟩
  rw [if_neg (by simp), if_neg (by simp)]
  omega
theorem dir_ends {xs : List Int} {j : Nat} (h : wV xs j ≤ 4096) (k : pV xs j ≤ 4096) (e : mP xs j = xs.length) : de (xs.drop (j + 1)) = 131 ∧ j + (1 + du (xs.drop (j + 1))) = xs.length := by
  obtain ⟨a, b⟩ := dir_rest h k
  rw [a, b, e, List.drop_length]
  exact ⟨rfl, rfl⟩
theorem drop_ne {xs : List Int} {k : Nat} (h : k < xs.length) : xs.drop k ≠ [] := fun q => by have := List.drop_eq_nil_iff.1 q; omega
theorem dir_verb {xs : List Int} {j : Nat} (h : wV xs j ≤ 4096) (k : pV xs j ≤ 4096) (e : mP xs j < xs.length) (v : idx verbs (nx xs (mP xs j)) < 0) : de (xs.drop (j + 1)) = 130 ∧ j + (1 + du (xs.drop (j + 1))) = mP xs j := by
  obtain ⟨a, b⟩ := dir_rest h k
  have c : ve (xs.drop (mP xs j)) = 130 := by rw [ve, if_neg (drop_ne e), head_nx, if_pos v]
  rw [a, b, vu, c]
  exact ⟨rfl, rfl⟩
theorem dir_ok {xs : List Int} {j : Nat} (h : wV xs j ≤ 4096) (k : pV xs j ≤ 4096) (e : mP xs j < xs.length) (v : ¬ idx verbs (nx xs (mP xs j)) < 0) : de (xs.drop (j + 1)) = 0 ∧ dp (xs.drop (j + 1)) = ⟨[], nx xs (mP xs j), fS 0 (xs.drop (j + 1)), wK xs j, wV xs j, pK xs j, pV xs j⟩ ∧ j + (1 + du (xs.drop (j + 1))) = mP xs j + 1 := by
  obtain ⟨a, b⟩ := dir_rest h k
  have c : ve (xs.drop (mP xs j)) = 0 := by rw [ve, if_neg (drop_ne e), head_nx, if_neg v]
  have d0 : de (xs.drop (j + 1)) = 0 := by rw [a, c]
  refine ⟨d0, ?_, by rw [b, vu, if_pos c]⟩
  have w := (width_at xs j).1 h
  have p := (prec_at xs j).1 k
  rw [dp, if_pos d0, l3_at h k, l2_at h, l1_at, vv, if_pos c, head_nx, w.2.1, w.2.2.1, p.2.1, p.2.2.1]

/-- A piece at a place: a text, a percent, a directive. -/
theorem piece_text {xs : List Int} {j : Nat} (h : nx xs j ≠ 37) : qe (xs.drop j) = 0 ∧ qp (xs.drop j) = ⟨(xs.drop j).take (ct isX (xs.drop j)), 0, 0, 0, 0, 0, 0⟩ ∧ qu (xs.drop j) = ct isX (xs.drop j) := by
  unfold qe qp qu
  rw [head_nx]
  simp [h]
theorem piece_pct {xs : List Int} {j : Nat} (h : nx xs j = 37) (k : nx xs (j + 1) = 37) : qe (xs.drop j) = 0 ∧ qp (xs.drop j) = ⟨[], 37, 0, 0, 0, 0, 0⟩ ∧ qu (xs.drop j) = 2 := by
  unfold qe qp qu
  rw [head_nx, List.tail_drop, head_nx]
  simp [h, k]
theorem piece_dir {xs : List Int} {j : Nat} (h : nx xs j = 37) (k : nx xs (j + 1) ≠ 37) : qe (xs.drop j) = de (xs.drop (j + 1)) ∧ qp (xs.drop j) = dp (xs.drop (j + 1)) ∧ j + qu (xs.drop j) = j + (1 + du (xs.drop (j + 1))) := by
  unfold qe qp qu
  rw [head_nx, List.tail_drop, head_nx]
  simp [h, k]

/-- The flags, summed up by the document's way. -/
def Fl (xs : List Int) (j k : Nat) (f : Nat) : Prop := f < 32 ∧ fS f (xs.drop k) = fS 0 (xs.drop (j + 1))
theorem Fl.start (xs : List Int) (j : Nat) : Fl xs j (j + 1) 0 := ⟨by omega, rfl⟩
theorem Fl.step {xs : List Int} {j k f : Nat} (h : Fl xs j k f) (hk : isF (nx xs k) = true) : Fl xs j (k + 1) (if f / 2 ^ (idx marks (nx xs k)).toNat % 2 = 0 then f + 2 ^ (idx marks (nx xs k)).toNat else f) := by
  obtain ⟨a, b⟩ := h
  have h1 : isF ((xs.drop k).headD 0) = true := by rw [head_nx]; exact hk
  have l := idx_lt marks (nx xs k)
  have g : 0 ≤ idx marks (nx xs k) := by simpa [isF] using hk
  rw [show ((marks.length : Nat) : Int) = 5 from rfl] at l
  have o := or_bit ⟨f, a⟩ ⟨(idx marks (nx xs k)).toNat, by omega⟩
  simp only at o
  rw [fS_step h1, head_nx, List.tail_drop, o] at b
  refine ⟨?_, b⟩
  rw [← o]
  have p : 2 ^ (idx marks (nx xs k)).toNat < 2 ^ 5 := Nat.pow_lt_pow_right (by omega) (by omega)
  exact Nat.or_lt_two_pow (n := 5) a p
theorem Fl.done {xs : List Int} {j f : Nat} (h : Fl xs j (mF xs j) f) : f = fS 0 (xs.drop (j + 1)) := by
  rw [← h.2, fS_stop]
  rw [head_nx]
  have q := ct_next (p := isF) rfl (xs.drop (j + 1))
  rw [List.drop_drop, head_nx] at q
  exact q
theorem flag_at {xs : List Int} {j k : Nat} (h1 : j + 1 ≤ k) (h2 : k < mF xs j) : isF (nx xs k) = true := by
  have q := ct_all isF (xs.drop (j + 1)) (k - (j + 1)) (by unfold mF at h2; omega)
  rw [nx_drop, show j + 1 + (k - (j + 1)) = k by omega] at q
  exact q

/-- The digits of a width, of a precision. -/
theorem digits_at {xs : List Int} {k m : Nat} (h : nx xs k ≠ 42) (e : m = wl xs k) : (∀ t, t < ((xs.drop k).take (m - k)).length → isD (((xs.drop k).take (m - k)).getD t 0) = true) ∧ dN 0 ((xs.drop k).take (m - k)) = dN 0 (xs.drop k) := by
  have q : m - k = ct isD (xs.drop k) := by rw [e, wl, if_neg h]; omega
  rw [q]
  refine ⟨fun t ht => ?_, dN_take _ _⟩
  rw [List.length_take] at ht
  have := ct_all isD (xs.drop k) t (by omega)
  rw [← nx_take (n := ct isD (xs.drop k)) (by omega)] at this
  exact this
end Dr
end Go.Proofs.YtaadooippelcfaaDoor
