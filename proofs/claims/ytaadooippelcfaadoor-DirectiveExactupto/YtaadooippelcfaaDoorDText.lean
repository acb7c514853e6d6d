/-
  directive's reader: text.
-/
import Derived.Test.YtaadooippelcfaaDoorDBox
namespace Go.Proofs.YtaadooippelcfaaDoor
open Go Go.RowKit Go.Deep Go.Shelf

namespace Dr
theorem ct_idx (l : List Int) : ct isX l = if idx l 37 < 0 then l.length else (idx l 37).toNat := by
  induction l with
  | nil => rfl
  | cons c l ih =>
    have := idx_ge l 37
    rw [ct, idx, ih]
    by_cases h : c = 37
    · subst h; rfl
    · rw [if_pos (by simp [isX, h]), if_neg h]
      by_cases k : idx l 37 < 0
      · rw [if_pos k, if_pos k, if_pos (by decide), List.length_cons]
      · rw [if_neg k, if_neg k, if_neg (by omega)]; omega
end Dr

theorem str_of {s : ByteArray} {xs : List Int} (h : Str s xs) : s = strOfNums xs := h.inj (Str.of_nums (fun _ hx => h.mem hx))

/-- What text tells. -/
def TTold (b : Nat) (s : ByteArray) (l : List Int) (k : Nat) (w : World) (r : Ending) (w' : World) : Prop := r = .returned (.string (strOfNums (l.take (Dr.ct Dr.isX l)))) ∧ RB w' b s (k + Dr.ct Dr.isX l) ∧ Oth b w w'

set_option maxRecDepth 100000 in
theorem dtext_any (b k : Nat) (s : ByteArray) (xs : List Int) (w : World) (hs : Str s xs) (hk : k ≤ xs.length) (hl : xs.length ≤ 281474976710656) (h : RB w b s k) :
    Calls Tryd.prog 43 #[.pointer (some ⟨b, 0, none⟩)] w fun r w' => TTold b s (xs.drop k) k w r w' := by
  have hsz := hs.size
  obtain ⟨⟨c0, c1⟩, fz⟩ := h.cells
  have h1 := hs.extract k xs.length
  rw [List.take_of_length_le (by simp)] at h1
  have h1s := h1.size
  rw [List.length_drop] at h1s
  have IX := hid (fun W => idx_any (s.extract k xs.length) (xs.drop k) 37 W h1 (by omega) (by omega))
  have CT := Dr.ct_idx (xs.drop k)
  have IG := Dr.idx_ge (xs.drop k) 37
  have IL := Dr.idx_lt (xs.drop k) 37
  rw [List.length_drop] at IL CT
  have TK : Hid (∀ (m : Nat) W, m = Dr.ct Dr.isX (xs.drop k) → RB W b s (k + m) → Oth b w W → TTold b s (xs.drop k) k w (.returned (.string (strOfNums ((xs.drop k).take m)))) W) := by
    intro m W e a1 a2
    subst e
    exact ⟨rfl, a1, a2⟩
  have kl : (k : Int) ≤ (xs.length : Int) := by omega
  have xl : (xs.length : Int) ≤ 281474976710656 := by omega
  have R0 : Hid (∀ n, RB (w.drewN n) b s k) := fun n => h
  have O0 : Hid (∀ n, Oth b w (w.drewN n)) := fun n => (Oth.refl b w).drew n
  have bl := h.lt
  by_cases hi : Dr.idx (xs.drop k) 37 < 0
  · rw [if_pos hi] at CT
    have TK2 := hid (fun W => TK.out (xs.length - k) W CT.symm)
    have e1 : strOfNums ((xs.drop k).take (xs.length - k)) = s.extract k xs.length := by
      rw [List.take_of_length_le (by simp)]; exact (str_of h1).symm
    rw [e1] at TK2
    have CL := hid (fun W => vclone_any (s.extract k xs.length) W (by omega))
    clear hs h h1 TK CT IG IL e1 hk hl
    generalize Dr.idx (xs.drop k) 37 = i at *
    go_enter Tryd.func43, Tryd.ntmps43
    go_wp2_with fail
    go_quiet (fail)
    have R1 := hid (R0.out nq)
    have O1 := hid (O0.out nq)
    generalize w.drewN nq = w1 at *
    clear R0 O0 c0 c1 fz
    go_wp2_with fail
    refine (IX.out w1).mono ?_
    rintro e w2 ⟨rfl, e2⟩
    rw [e2]
    clear e2 w2
    obtain ⟨⟨c0, c1⟩, fz⟩ := R1.out.cells
    generalize s.extract k xs.length = t at *
    have ts : (k : Int) + ((xs.length - k : Nat) : Int) ≤ 281474976710656 := by omega
    generalize xs.length - k = m at *
    have R2 := hid (R1.out.set (j := k + m) (v := (k : Int) + (m : Int)) (by omega))
    have O2 : Hid (Oth b w (w1.setCell ⟨b, 1, none⟩ (.int .i64 ((k : Int) + (m : Int))))) := O1.out.trans (Oth.set _ _)
    go_wp2_with fail
    refine (CL.out _).mono ?_
    rintro e w3 ⟨rfl, hB⟩
    have R3 := hid (R2.out.below hB)
    have O3 : Hid (Oth b w w3) := O2.out.trans (Oth.of_below hB)
    clear hB
    go_wp2_with fail
    go_ret
    exact TK2.out _ R3.out O3.out
  · rw [if_neg hi] at CT
    obtain ⟨m, hm⟩ : ∃ m : Nat, Dr.idx (xs.drop k) 37 = (m : Int) := ⟨_, (Int.toNat_of_nonneg (by omega)).symm⟩
    rw [hm] at CT IL IX
    rw [Int.toNat_natCast] at CT
    have TK2 := hid (fun W => TK.out m W CT.symm)
    have h2 := h1.extract 0 m
    rw [List.drop_zero, Nat.sub_zero] at h2
    have h2s := h2.size
    rw [List.length_take, List.length_drop] at h2s
    rw [← str_of h2] at TK2
    have CL := hid (fun W => vclone_any ((s.extract k xs.length).extract 0 m) W (by omega))
    have h2t : ((s.extract k xs.length).extract 0 m).size = m := by omega
    have ml : (m : Int) ≤ ((s.extract k xs.length).size : Int) := by omega
    have mk : (k : Int) + (m : Int) ≤ 281474976710656 := by omega
    clear hs h h1 TK CT IG IL hk hl hi hm h2 h2s h1s
    go_enter Tryd.func43, Tryd.ntmps43
    go_wp2_with fail
    go_quiet (fail)
    have R1 := hid (R0.out nq)
    have O1 := hid (O0.out nq)
    generalize w.drewN nq = w1 at *
    clear R0 O0 c0 c1 fz
    go_wp2_with fail
    refine (IX.out w1).mono ?_
    rintro e w2 ⟨rfl, e2⟩
    rw [e2]
    clear e2 w2
    obtain ⟨⟨c0, c1⟩, fz⟩ := R1.out.cells
    generalize s.extract k xs.length = t at *
    have R2 := hid (R1.out.set (j := k + m) (v := (k : Int) + (m : Int)) (by omega))
    have O2 : Hid (Oth b w (w1.setCell ⟨b, 1, none⟩ (.int .i64 ((k : Int) + (m : Int))))) := O1.out.trans (Oth.set _ _)
    go_wp2_with fail
    refine (CL.out _).mono ?_
    rintro e w3 ⟨rfl, hB⟩
    have R3 := hid (R2.out.below hB)
    have O3 : Hid (Oth b w w3) := O2.out.trans (Oth.of_below hB)
    clear hB
    go_wp2_with fail
    go_ret
    exact TK2.out _ R3.out O3.out
end Go.Proofs.YtaadooippelcfaaDoor
