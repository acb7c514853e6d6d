/-
  What the document's reading has gathered on the way.
-/
import Derived.Test.YtjghlpkjbfaoiaaDoorVDfa
namespace Go.Proofs.YtjghlpkjbfaoiaaDoor
namespace Sc

/-- Gathered so far: the digits, how many stand behind the point, the exponent, whether it has a minus. -/
def WD (xs : List Int) (k : Nat) : Nat → Nat → List Int → Nat → Int → Bool → Prop
  | 0, _, al, sc, ex, dn => al = [] ∧ sc = 0 ∧ ex = 0 ∧ dn = false
  | 1, _, al, sc, ex, dn => al = [] ∧ sc = 0 ∧ ex = 0 ∧ dn = false
  | 2, i, al, sc, ex, dn => al = (xs.drop (p1 xs k)).take (i - p1 xs k) ∧ sc = 0 ∧ ex = 0 ∧ dn = false
  | 3, _, al, sc, ex, dn => al = (lit xs k).ah ∧ sc = 0 ∧ ex = 0 ∧ dn = false
  | 4, _, al, sc, ex, dn => al = (lit xs k).ah ∧ sc = 0 ∧ ex = 0 ∧ dn = false
  | 5, i, al, sc, ex, dn => al = (lit xs k).ah ++ (xs.drop (p2 xs k + 1)).take (i - (p2 xs k + 1)) ∧ sc = i - (p2 xs k + 1) ∧ ex = 0 ∧ dn = false
  | 6, _, al, sc, ex, dn => al = (lit xs k).ah ++ (lit xs k).bh ∧ sc = bn xs k ∧ ex = 0 ∧ dn = false
  | 7, _, al, sc, ex, dn => al = (lit xs k).ah ++ (lit xs k).bh ∧ sc = bn xs k ∧ ex = 0 ∧ dn = decide (pk xs (p3 xs k + 1) = 45)
  | 8, i, al, sc, ex, dn => al = (lit xs k).ah ++ (lit xs k).bh ∧ sc = bn xs k ∧ ex = cap ((xs.drop (p4 xs (p3 xs k))).take (i - p4 xs (p3 xs k))) ∧ dn = decide (pk xs (p3 xs k + 1) = 45)
  | _, _, _, _, _, _ => False

theorem ah_at {xs : List Int} {k : Nat} : (lit xs k).ah = (xs.drop (p1 xs k)).take (run dg xs (p1 xs k)) := rfl
theorem bh_at {xs : List Int} {k : Nat} : (lit xs k).bh = (xs.drop (p2 xs k + 1)).take (bn xs k) := rfl
theorem take_more {xs : List Int} {v i : Nat} (h : v ≤ i) (hi : i < xs.length) : (xs.drop v).take (i + 1 - v) = (xs.drop v).take (i - v) ++ [pk xs i] := by
  have := take_snoc (xs := xs) (v := v) (c := i - v) (by omega)
  rw [show i + 1 - v = i - v + 1 by omega, this, show v + (i - v) = i by omega]

/-- What is gathered behind one more byte x. -/
theorem LI.more {xs : List Int} {k i s last : Nat} (h : LI xs k i s last) (hi : i < xs.length) {al : List Int} {sc : Nat} {ex : Int} {dn : Bool} (d : WD xs k s i al sc ex dn) (h9 : nx s (srt (pk xs i)) ≠ 9) :
    WD xs k (nx s (srt (pk xs i))) (i + 1) (if nx s (srt (pk xs i)) = 2 ∨ nx s (srt (pk xs i)) = 5 then al ++ [pk xs i] else al) (if nx s (srt (pk xs i)) = 5 then sc + 1 else sc) (if nx s (srt (pk xs i)) = 8 then min (10 * ex + (pk xs i - 48)) 1000000000000000 else ex) (if nx s (srt (pk xs i)) = 7 then decide (pk xs i = 45) else dn) ∧ (nx s (srt (pk xs i)) = 2 → srt (pk xs i) = 0) := by
  have q12 : p1 xs k ≤ p2 xs k := by unfold p2; omega
  have hp2 : p1 xs k + run dg xs (p1 xs k) = p2 xs k := rfl
  cases h with
  | s0 =>
    obtain ⟨rfl, rfl, rfl, rfl⟩ := d
    rcases srt_c (pk xs k) with ⟨hd, e⟩ | ⟨hd, hx, e⟩ | ⟨hd, hx, e⟩ | ⟨hd, hx, e⟩ | ⟨hd, h1, h2, hx, e⟩ <;> rw [e] at h9 ⊢
    · have p : p1 xs k = k := by unfold p1; rw [sg_zero (dg_sg hd).1]; rfl
      refine ⟨⟨?_, rfl, rfl, rfl⟩, fun _ => rfl⟩
      have := take_more (xs := xs) (v := k) (i := k) (Nat.le_refl _) hi
      rw [p, this]; simp [nx, tabl]
    · exact ⟨⟨rfl, rfl, rfl, rfl⟩, fun c => by simp [nx, tabl] at c⟩
    · have p : p1 xs k = k := by unfold p1; rw [sg_zero (by omega)]; rfl
      refine ⟨⟨?_, rfl, rfl, rfl⟩, fun c => by simp [nx, tabl] at c⟩
      rw [ah_at, p, run_zero dg0 hd]; rfl
    · exact absurd rfl h9
    · exact absurd rfl h9
  | s1 h =>
    obtain ⟨rfl, rfl, rfl, rfl⟩ := d
    have p : p1 xs k = k + 1 := by unfold p1; rw [h]
    rcases srt_c (pk xs (k + 1)) with ⟨hd, e⟩ | ⟨hd, hx, e⟩ | ⟨hd, hx, e⟩ | ⟨hd, hx, e⟩ | ⟨hd, h1, h2, hx, e⟩ <;> rw [e] at h9 ⊢
    · refine ⟨⟨?_, rfl, rfl, rfl⟩, fun _ => rfl⟩
      have := take_more (xs := xs) (v := k + 1) (i := k + 1) (Nat.le_refl _) hi
      rw [p, this]; simp [nx, tabl]
    · exact absurd rfl h9
    · refine ⟨⟨?_, rfl, rfl, rfl⟩, fun c => by simp [nx, tabl] at c⟩
      rw [ah_at, p, run_zero dg0 hd]; rfl
    · exact absurd rfl h9
    · exact absurd rfl h9
  | s2 i h1 h2 =>
    obtain ⟨rfl, rfl, rfl, rfl⟩ := d
    have hm := run_mid dg0 (xs := xs) (a := p1 xs k) (i := i) (by omega) h2
    rcases srt_c (pk xs i) with ⟨hd, e⟩ | ⟨hd, hx, e⟩ | ⟨hd, hx, e⟩ | ⟨hd, hx, e⟩ | ⟨hd, h3, h4, hx, e⟩ <;> rw [e] at h9 ⊢
    · refine ⟨⟨?_, rfl, rfl, rfl⟩, fun _ => rfl⟩
      rw [take_more (by omega) hi]; simp [nx, tabl]
    · exact absurd rfl h9
    all_goals have hii : i = p2 xs k := by rcases Nat.lt_or_ge i (p2 xs k) with c | c; (rw [hm.2 (by omega)] at hd; simp at hd); omega
    · refine ⟨⟨?_, rfl, rfl, rfl⟩, fun c => by simp [nx, tabl] at c⟩
      rw [ah_at, hii, ← hp2, Nat.add_sub_cancel_left]; rfl
    · refine ⟨⟨?_, ?_, rfl, rfl⟩, fun c => by simp [nx, tabl] at c⟩
      · have hb : bn xs k = 0 := by unfold bn; rw [if_neg (by rw [← hii]; intro c; rw [c] at hx; simp [isE] at hx)]
        rw [ah_at, bh_at, hb, List.take_zero, List.append_nil, hii, ← hp2, Nat.add_sub_cancel_left]; rfl
      · have hb : bn xs k = 0 := by unfold bn; rw [if_neg (by rw [← hii]; intro c; rw [c] at hx; simp [isE] at hx)]
        rw [hb]; rfl
    · exact absurd rfl h9
  | s3 h h1 =>
    obtain ⟨rfl, rfl, rfl, rfl⟩ := d
    rcases srt_c (pk xs (p2 xs k + 1)) with ⟨hd, e⟩ | ⟨hd, hx, e⟩ | ⟨hd, hx, e⟩ | ⟨hd, hx, e⟩ | ⟨hd, h3, h4, hx, e⟩ <;> rw [e] at h9 ⊢
    · refine ⟨⟨?_, ?_, rfl, rfl⟩, fun c => by simp [nx, tabl] at c⟩
      · rw [take_more (Nat.le_refl _) hi]; simp [nx, tabl]
      · simp [nx, tabl]
    · exact absurd rfl h9
    · exact absurd rfl h9
    · have hb : bn xs k = 0 := by unfold bn; rw [if_pos h, run_zero dg0 hd]
      refine ⟨⟨?_, ?_, rfl, rfl⟩, fun c => by simp [nx, tabl] at c⟩
      · rw [bh_at, hb, List.take_zero, List.append_nil]; rfl
      · rw [hb]; rfl
    · exact absurd rfl h9
  | s4 h h1 =>
    obtain ⟨rfl, rfl, rfl, rfl⟩ := d
    rcases srt_c (pk xs (p2 xs k + 1)) with ⟨hd, e⟩ | ⟨hd, hx, e⟩ | ⟨hd, hx, e⟩ | ⟨hd, hx, e⟩ | ⟨hd, h3, h4, hx, e⟩ <;> rw [e] at h9 ⊢
    · refine ⟨⟨?_, ?_, rfl, rfl⟩, fun c => by simp [nx, tabl] at c⟩
      · rw [take_more (Nat.le_refl _) hi]; simp [nx, tabl]
      · simp [nx, tabl]
    all_goals exact absurd rfl h9
  | s5 i h h1 h2 =>
    obtain ⟨rfl, rfl, rfl, rfl⟩ := d
    have hp3 : p3 xs k = p2 xs k + 1 + run dg xs (p2 xs k + 1) := by unfold p3; rw [if_pos h]
    have hm := run_mid dg0 (xs := xs) (a := p2 xs k + 1) (i := i) (by omega) (by omega)
    rcases srt_c (pk xs i) with ⟨hd, e⟩ | ⟨hd, hx, e⟩ | ⟨hd, hx, e⟩ | ⟨hd, hx, e⟩ | ⟨hd, h3, h4, hx, e⟩ <;> rw [e] at h9 ⊢
    · refine ⟨⟨?_, ?_, rfl, rfl⟩, fun c => by simp [nx, tabl] at c⟩
      · rw [take_more (by omega) hi]; simp [nx, tabl]
      · simp [nx, tabl]; omega
    · exact absurd rfl h9
    · exact absurd rfl h9
    · have hii : i = p3 xs k := by rcases Nat.lt_or_ge i (p3 xs k) with c | c; (rw [hm.2 (by omega)] at hd; simp at hd); omega
      have hb : bn xs k = i - (p2 xs k + 1) := by unfold bn; rw [if_pos h]; omega
      refine ⟨⟨?_, ?_, rfl, rfl⟩, fun c => by simp [nx, tabl] at c⟩
      · rw [bh_at, hb]; rfl
      · rw [hb]; rfl
    · exact absurd rfl h9
  | s6 hs he =>
    obtain ⟨rfl, rfl, rfl, rfl⟩ := d
    rcases srt_c (pk xs (p3 xs k + 1)) with ⟨hd, e⟩ | ⟨hd, hx, e⟩ | ⟨hd, hx, e⟩ | ⟨hd, hx, e⟩ | ⟨hd, h3, h4, hx, e⟩ <;> rw [e] at h9 ⊢
    · have hp4 : p4 xs (p3 xs k) = p3 xs k + 1 := by unfold p4; rw [sg_zero (dg_sg hd).1]
      refine ⟨⟨rfl, rfl, ?_, ?_⟩, fun c => by simp [nx, tabl] at c⟩
      · rw [hp4, take_more (Nat.le_refl _) hi, cap_snoc]; simp [nx, tabl, cap_nil]
      · have := (dg_sg hd).1
        simp [nx, tabl]; omega
    · exact ⟨⟨rfl, rfl, rfl, rfl⟩, fun c => by simp [nx, tabl] at c⟩
    all_goals exact absurd rfl h9
  | s7 hs he h =>
    obtain ⟨rfl, rfl, rfl, rfl⟩ := d
    have hp4 : p4 xs (p3 xs k) = p3 xs k + 2 := by unfold p4; rw [h]
    rcases srt_c (pk xs (p3 xs k + 2)) with ⟨hd, e⟩ | ⟨hd, hx, e⟩ | ⟨hd, hx, e⟩ | ⟨hd, hx, e⟩ | ⟨hd, h3, h4, hx, e⟩ <;> rw [e] at h9 ⊢
    · refine ⟨⟨rfl, rfl, ?_, rfl⟩, fun c => by simp [nx, tabl] at c⟩
      rw [hp4, take_more (Nat.le_refl _) hi, cap_snoc]; simp [nx, tabl, cap_nil]
    all_goals exact absurd rfl h9
  | s8 i hs he h1 h2 =>
    obtain ⟨rfl, rfl, rfl, rfl⟩ := d
    rcases srt_c (pk xs i) with ⟨hd, e⟩ | ⟨hd, hx, e⟩ | ⟨hd, hx, e⟩ | ⟨hd, hx, e⟩ | ⟨hd, h3, h4, hx, e⟩ <;> rw [e] at h9 ⊢
    · refine ⟨⟨rfl, rfl, ?_, rfl⟩, fun c => by simp [nx, tabl] at c⟩
      rw [take_more (by omega) hi, cap_snoc]; simp [nx, tabl]
    all_goals exact absurd rfl h9

/-- At the end of a text that is a literal. -/
theorem LI.all {xs : List Int} {k s last : Nat} (h : LI xs k xs.length s last) (hs : some? xs k) (hk : k ≤ xs.length) (he : (lit xs k).en = xs.length) {al : List Int} {sc : Nat} {ex : Int} {dn : Bool} (d : WD xs k s xs.length al sc ex dn) :
    al = (lit xs k).ah ++ (lit xs k).bh ∧ sc = (lit xs k).bh.length ∧ (if dn = true then - ex else ex) = (lit xs k).sc := by
  have hr : res xs k = xs.length := by unfold res; rw [if_pos hs, he]
  have hl := h.done (Nat.le_refl _)
  rw [hr] at hl
  have hlt := (lit_last hs).1
  have e3 := p3_en xs k
  have l2 := p2_le xs k hk
  have l3 := p3_le xs k hk
  have hp2 : p1 xs k + run dg xs (p1 xs k) = p2 xs k := rfl
  have scl : (lit xs k).sc = if hasE xs (p3 xs k) = true then (if pk xs (p3 xs k + 1) = 45 then - cap ((xs.drop (p4 xs (p3 xs k))).take (run dg xs (p4 xs (p3 xs k)))) else cap ((xs.drop (p4 xs (p3 xs k))).take (run dg xs (p4 xs (p3 xs k))))) else 0 := rfl
  have bl : (lit xs k).bh.length = bn xs k := by
    have h1 : bn xs k ≤ xs.length - (p2 xs k + 1) := by unfold bn; split; (exact run_le _ _ _); omega
    rw [bh_at, List.length_take, List.length_drop]; omega
  generalize hn : xs.length = n at *
  cases h with
  | s0 => omega
  | s1 h => omega
  | s2 i h1 h2 =>
    obtain ⟨rfl, rfl, rfl, rfl⟩ := d
    have ei : last = p2 xs k := by omega
    have z : pk xs (p2 xs k) = 0 := pk_ge (by omega)
    have hb : bn xs k = 0 := by unfold bn; rw [if_neg (by omega)]
    have hp3 : p3 xs k = p2 xs k := by unfold p3; rw [if_neg (by omega)]
    refine ⟨?_, by rw [bl, hb], ?_⟩
    · rw [bh_at, hb, List.take_zero, List.append_nil, ah_at, ei, ← hp2, Nat.add_sub_cancel_left]
    · rw [scl, hasE_not (by rw [hp3, z]; rfl)]; rfl
  | s3 h h1 =>
    obtain ⟨rfl, rfl, rfl, rfl⟩ := d
    have hb : bn xs k = 0 := by unfold bn; rw [if_pos h, run_zero dg0 (by rw [pk_ge (by omega)]; rfl)]
    have hp3 : p3 xs k = p2 xs k + 1 := by unfold p3; rw [if_pos h, run_zero dg0 (by rw [pk_ge (by omega)]; rfl)]
    refine ⟨by rw [bh_at, hb, List.take_zero, List.append_nil], by rw [bl, hb], ?_⟩
    rw [scl, hasE_not (by rw [hp3, pk_ge (by omega)]; rfl)]; rfl
  | s4 h h1 => omega
  | s5 i h h1 h2 =>
    obtain ⟨rfl, rfl, rfl, rfl⟩ := d
    have hp3 : p3 xs k = p2 xs k + 1 + run dg xs (p2 xs k + 1) := by unfold p3; rw [if_pos h]
    have hb : bn xs k = last - (p2 xs k + 1) := by unfold bn; rw [if_pos h]; omega
    refine ⟨by rw [bh_at, hb], by rw [bl, hb], ?_⟩
    rw [scl, hasE_not (by rw [pk_ge (by omega)]; rfl)]; rfl
  | s6 hs he' => omega
  | s7 hs he' h => omega
  | s8 i hs' he' h1 h2 =>
    obtain ⟨rfl, rfl, rfl, rfl⟩ := d
    have e4 : last - p4 xs (p3 xs k) = run dg xs (p4 xs (p3 xs k)) := by
      have : (lit xs k).en = p4 xs (p3 xs k) + run dg xs (p4 xs (p3 xs k)) := by rw [en_eq, if_pos he']
      omega
    refine ⟨rfl, bl.symm, ?_⟩
    rw [scl, if_pos he', e4]
    by_cases c : pk xs (p3 xs k + 1) = 45
    · rw [if_pos c, if_pos (by simpa using c)]
    · rw [if_neg c, if_neg (by simpa using c)]

/-- The literal at place k, in the text that is left. -/
theorem run_drop (p : Int → Bool) (xs : List Int) (k i : Nat) : run p (xs.drop k) i = run p xs (k + i) := by unfold run; rw [List.drop_drop]
theorem sg_drop (xs : List Int) (k i : Nat) : sg (xs.drop k) i = sg xs (k + i) := by unfold sg; rw [pk_drop]
theorem lit_drop (xs : List Int) (k : Nat) : (some? (xs.drop k) 0 ↔ some? xs k) ∧ (lit (xs.drop k) 0).neg = (lit xs k).neg ∧ (lit (xs.drop k) 0).ah = (lit xs k).ah ∧ (lit (xs.drop k) 0).bh = (lit xs k).bh ∧ (lit (xs.drop k) 0).sc = (lit xs k).sc ∧ k + (lit (xs.drop k) 0).en = (lit xs k).en := by
  have e1 : k + p1 (xs.drop k) 0 = p1 xs k := by unfold p1; rw [sg_drop]; simp
  have r1 : run dg (xs.drop k) (p1 (xs.drop k) 0) = run dg xs (p1 xs k) := by rw [run_drop, e1]
  have e2 : k + p2 (xs.drop k) 0 = p2 xs k := by unfold p2; rw [r1]; omega
  have k2 : pk (xs.drop k) (p2 (xs.drop k) 0) = pk xs (p2 xs k) := by rw [pk_drop, e2]
  have r2 : run dg (xs.drop k) (p2 (xs.drop k) 0 + 1) = run dg xs (p2 xs k + 1) := by rw [run_drop, ← Nat.add_assoc, e2]
  have e3 : bn (xs.drop k) 0 = bn xs k := by unfold bn; rw [k2, r2]
  have e4 : k + p3 (xs.drop k) 0 = p3 xs k := by unfold p3; rw [k2, r2]; split <;> omega
  have e5 : k + p4 (xs.drop k) (p3 (xs.drop k) 0) = p4 xs (p3 xs k) := by
    have e41 : k + (p3 (xs.drop k) 0 + 1) = p3 xs k + 1 := by omega
    unfold p4; rw [sg_drop, e41]; omega
  have k3 : pk (xs.drop k) (p3 (xs.drop k) 0) = pk xs (p3 xs k) := by rw [pk_drop, e4]
  have k31 : pk (xs.drop k) (p3 (xs.drop k) 0 + 1) = pk xs (p3 xs k + 1) := by rw [pk_drop, ← Nat.add_assoc, e4]
  have k4 : pk (xs.drop k) (p4 (xs.drop k) (p3 (xs.drop k) 0)) = pk xs (p4 xs (p3 xs k)) := by rw [pk_drop, e5]
  have r4 : run dg (xs.drop k) (p4 (xs.drop k) (p3 (xs.drop k) 0)) = run dg xs (p4 xs (p3 xs k)) := by rw [run_drop, e5]
  have hE : hasE (xs.drop k) (p3 (xs.drop k) 0) = hasE xs (p3 xs k) := by unfold hasE; rw [k3, k4]
  refine ⟨by unfold some?; rw [r1, e3], ?_, ?_, ?_, ?_, ?_⟩
  · show decide _ = decide _; rw [pk_drop]; rfl
  · rw [ah_at, ah_at, r1, List.drop_drop, e1]
  · rw [bh_at, bh_at, e3, List.drop_drop, ← Nat.add_assoc, e2]
  · unfold lit; simp only; rw [hE, k31, r4, List.drop_drop, e5]
  · rw [en_eq, en_eq, hE, r4]; split <;> omega
end Sc
end Go.Proofs.YtjghlpkjbfaoiaaDoor
