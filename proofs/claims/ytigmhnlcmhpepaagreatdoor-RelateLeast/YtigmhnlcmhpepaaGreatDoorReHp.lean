/-
  The heap's order: push and pop keep it, nothing is lost, the first is the least.
-/
import Derived.Test.YtigmhnlcmhpepaaGreatDoorReD
namespace Go.Proofs.YtigmhnlcmhpepaaGreatDoor
open Go Go.RowKit Go.Deep Go.Shelf

namespace Re
/-- a stands at b's place or ahead of it. -/
def le (a b : En) : Prop := ct a.x b.x ≤ 0
theorem le_rfl' (a : En) : le a a := by have := ct_anti a.x a.x; unfold le; omega
theorem le_tr {a b c : En} (h : le a b) (k : le b c) : le a c := ct_trans h k
theorem le_lt {a b : En} (h : ct a.x b.x < 0) : le a b := by unfold le; omega
theorem le_not {a b : En} (h : ¬ ct a.x b.x < 0) : le b a := by have := ct_anti a.x b.x; unfold le; omega
/-- The entry at a place. -/
def gt (E : List En) (i : Nat) : En := E.getD i default
theorem gt_sw {E : List En} {i j : Nat} (hi : i < E.length) (hj : j < E.length) (k : Nat) : gt (sw E i j) k = if k = j then gt E i else if k = i then gt E j else gt E k := by
  unfold gt sw
  rw [List.getD_eq_getElem?_getD, List.getElem?_set, List.getElem?_set]
  by_cases e : k = j
  · subst e
    rw [if_pos rfl, if_pos rfl, List.length_set, if_pos hj]
    rfl
  · rw [if_neg (fun z => e z.symm), if_neg e]
    by_cases e2 : k = i
    · subst e2
      rw [if_pos rfl, if_pos rfl, if_pos hi]
      rfl
    · rw [if_neg (fun z => e2 z.symm), if_neg e2, ← List.getD_eq_getElem?_getD]
theorem sw_perm {E : List En} {i j : Nat} (hi : i < E.length) (hj : j < E.length) : (sw E i j).Perm E := by
  unfold sw
  have e1 : E.getD j default = E[j] := by rw [List.getD_eq_getElem?_getD, List.getElem?_eq_getElem hj]; rfl
  have e2 : E.getD i default = E[i] := by rw [List.getD_eq_getElem?_getD, List.getElem?_eq_getElem hi]; rfl
  rw [e1, e2]
  exact List.set_set_perm hi hj
/-- None is ahead of the one above it. -/
def Hp (E : List En) : Prop := ∀ j, 0 < j → j < E.length → le (gt E ((j - 1) / 2)) (gt E j)
theorem Hp.least {E : List En} (h : Hp E) : ∀ j, j < E.length → le (gt E 0) (gt E j) := by
  intro j
  induction j using Nat.strongRecOn with
  | ind j ih =>
    intro hj
    rcases Nat.eq_zero_or_pos j with z | z
    · subst z; exact le_rfl' _
    · exact le_tr (ih ((j - 1) / 2) (by omega) (by omega)) (h j z hj)
/-- All but the one at i stand well below the one above. -/
structure HU (E : List En) (i : Nat) : Prop where
  ok : ∀ j, 0 < j → j < E.length → j ≠ i → le (gt E ((j - 1) / 2)) (gt E j)
  gr : ∀ j, 0 < j → j < E.length → (j - 1) / 2 = i → 0 < i → le (gt E ((i - 1) / 2)) (gt E j)
theorem HU.up {E : List En} : ∀ {i : Nat}, i < E.length → HU E i → Hp (upF E i) ∧ (upF E i).Perm E := by
  intro i
  induction i using Nat.strongRecOn generalizing E with
  | ind i ih =>
    intro hi h
    by_cases i0 : i = 0
    · subst i0
      rw [upF_zero]
      exact ⟨fun j j0 jl => h.ok j j0 jl (by omega), List.Perm.refl _⟩
    · by_cases c : ct (E.getD i default).x (E.getD ((i - 1) / 2) default).x < 0
      · rw [upF_go i0 c]
        obtain ⟨a, ha⟩ : ∃ a, (i - 1) / 2 = a := ⟨_, rfl⟩
        rw [ha] at c ⊢
        have ai : a < i := by omega
        have al : a < E.length := by omega
        have xy : le (gt E i) (gt E a) := le_lt c
        have key : HU (sw E i a) a := by
          constructor
          · intro j j0 jl ja
            rw [sw_len] at jl
            rw [gt_sw hi al, gt_sw hi al, if_neg ja]
            by_cases ji : j = i
            · subst ji
              rw [ha, if_pos rfl, if_pos rfl]
              exact xy
            · rw [if_neg ji]
              by_cases pa : (j - 1) / 2 = a
              · rw [if_pos pa]
                have := h.ok j j0 jl ji
                rw [pa] at this
                exact le_tr xy this
              · rw [if_neg pa]
                by_cases pi : (j - 1) / 2 = i
                · rw [if_pos pi]
                  have := h.gr j j0 jl pi (by omega)
                  rwa [ha] at this
                · rw [if_neg pi]
                  exact h.ok j j0 jl ji
          · intro j j0 jl pa a0
            rw [sw_len] at jl
            rw [gt_sw hi al, gt_sw hi al, if_neg (by omega), if_neg (by omega), if_neg (show j ≠ a by omega)]
            have e := h.ok a a0 al (by omega)
            by_cases ji : j = i
            · rw [if_pos ji]; exact e
            · rw [if_neg ji]
              have := h.ok j j0 jl ji
              rw [pa] at this
              exact le_tr e this
        obtain ⟨r1, r2⟩ := ih a ai (by rw [sw_len]; exact al) key
        exact ⟨r1, r2.trans (sw_perm hi al)⟩
      · rw [upF_stop c]
        refine ⟨fun j j0 jl => ?_, List.Perm.refl _⟩
        by_cases ji : j = i
        · subst ji; exact le_not c
        · exact h.ok j j0 jl ji
/-- push. -/
theorem Hp.push {E : List En} (h : Hp E) (x : En) : Hp (upF (E ++ [x]) E.length) ∧ (upF (E ++ [x]) E.length).Perm (E ++ [x]) := by
  have g : ∀ k, k < E.length → gt (E ++ [x]) k = gt E k := fun k hk => by
    unfold gt
    rw [List.getD_eq_getElem?_getD, List.getElem?_append_left hk, ← List.getD_eq_getElem?_getD]
  refine HU.up (by rw [List.length_append]; simp) ⟨fun j j0 jl jn => ?_, fun j j0 jl pj _ => ?_⟩
  · rw [List.length_append] at jl
    simp at jl
    rw [g _ (by omega), g _ (by omega)]
    exact h j j0 (by omega)
  · rw [List.length_append] at jl
    simp at jl
    omega
theorem restF_least (E : List En) (m : Nat) : ∀ q f b, b + q = 2 * m + 3 → le (gt E (restF E m f b)) (gt E f) ∧ (∀ c, b ≤ c → c ≤ 2 * m + 2 → c < E.length → le (gt E (restF E m f b)) (gt E c)) ∧ (restF E m f b = f ∨ (b ≤ restF E m f b ∧ restF E m f b ≤ 2 * m + 2)) := by
  intro q
  induction q with
  | zero =>
    intro f b hb
    rw [restF_end (by omega)]
    exact ⟨le_rfl' _, fun c h1 h2 _ => absurd h1 (by omega), .inl rfl⟩
  | succ q ih =>
    intro f b hb
    by_cases c : b ≤ 2 * m + 2 ∧ b < E.length
    · rw [restF_go c]
      split
      · rename_i lt
        obtain ⟨h1, h2, h3⟩ := ih b (b + 1) (by omega)
        refine ⟨le_tr h1 (le_lt lt), fun d d1 d2 d3 => ?_, ?_⟩
        · rcases Nat.eq_or_lt_of_le d1 with e | e
          · rw [← e]; exact h1
          · exact h2 d (by omega) d2 d3
        · rcases h3 with z | z
          · rw [z]; exact .inr ⟨Nat.le_refl _, c.1⟩
          · exact .inr ⟨by omega, z.2⟩
      · rename_i lt
        obtain ⟨h1, h2, h3⟩ := ih f (b + 1) (by omega)
        refine ⟨h1, fun d d1 d2 d3 => ?_, ?_⟩
        · rcases Nat.eq_or_lt_of_le d1 with e | e
          · rw [← e]; exact le_tr h1 (le_not lt)
          · exact h2 d (by omega) d2 d3
        · rcases h3 with z | z
          · exact .inl z
          · exact .inr ⟨by omega, z.2⟩
    · rw [restF_end c]
      exact ⟨le_rfl' _, fun d d1 d2 d3 => absurd d3 (by omega), .inl rfl⟩
/-- All but those below i stand well below the one above. -/
structure HD (E : List En) (i : Nat) : Prop where
  ok : ∀ j, 0 < j → j < E.length → (j - 1) / 2 ≠ i → le (gt E ((j - 1) / 2)) (gt E j)
  gr : ∀ j, 0 < j → j < E.length → (j - 1) / 2 = i → 0 < i → le (gt E ((i - 1) / 2)) (gt E j)
theorem HD.down : ∀ (q : Nat) {E : List En} {i : Nat}, E.length - i ≤ q → i < E.length → HD E i → Hp (downF E i) ∧ (downF E i).Perm E := by
  intro q
  induction q with
  | zero => intro E i hq hi; omega
  | succ q ih =>
    intro E i hq hi h
    obtain ⟨l1, l2, l3⟩ := restF_least E i 2 i (2 * i + 1) (by omega)
    have db := dnI_b hi
    rw [← dnI] at l1 l2 l3
    rcases db.1 with e | e
    · rw [downF_stop e]
      rw [e] at l2
      refine ⟨fun j j0 jl => ?_, List.Perm.refl _⟩
      by_cases pj : (j - 1) / 2 = i
      · rw [pj]; exact l2 j (by omega) (by omega) jl
      · exact h.ok j j0 jl pj
    · rw [downF_go e db.2]
      have fl := db.2
      have fp : (dnI E i - 1) / 2 = i := by omega
      generalize dnI E i = f at *
      have key : HD (sw E i f) f := by
        constructor
        · intro j j0 jl pj
          rw [sw_len] at jl
          rw [gt_sw hi fl, gt_sw hi fl, if_neg pj]
          by_cases pi : (j - 1) / 2 = i
          · rw [if_pos pi]
            by_cases jf : j = f
            · rw [if_pos jf]; exact l1
            · rw [if_neg jf, if_neg (show j ≠ i by omega)]
              exact l2 j (by omega) (by omega) jl
          · rw [if_neg pi]
            have jf : j ≠ f := fun z => pi (by rw [z]; exact fp)
            rw [if_neg jf]
            by_cases ji : j = i
            · subst ji
              rw [if_pos rfl]
              exact h.gr f (by omega) fl fp j0
            · rw [if_neg ji]
              exact h.ok j j0 jl pi
        · intro j j0 jl pj f0
          rw [sw_len] at jl
          rw [fp, gt_sw hi fl, gt_sw hi fl, if_neg (by omega), if_pos rfl, if_neg (show j ≠ f by omega), if_neg (show j ≠ i by omega)]
          have := h.ok j j0 jl (by omega)
          rwa [pj] at this
      obtain ⟨r1, r2⟩ := ih (E := sw E i f) (i := f) (by rw [sw_len]; omega) (by rw [sw_len]; exact fl) key
      exact ⟨r1, r2.trans (sw_perm hi fl)⟩
/-- pop: the last is put first, and lowered. -/
theorem Hp.pop {E : List En} (h : Hp E) {l : Nat} (hl : E.length = l + 1) (l0 : 0 < l) : Hp (downF ((E.set 0 (gt E l)).take l) 0) ∧ (gt E 0 :: downF ((E.set 0 (gt E l)).take l) 0).Perm E := by
  have len : ((E.set 0 (gt E l)).take l).length = l := by rw [List.length_take, List.length_set]; omega
  have g : ∀ k, 0 < k → k < l → gt ((E.set 0 (gt E l)).take l) k = gt E k := fun k k0 kl => by
    unfold gt
    rw [List.getD_eq_getElem?_getD, List.getElem?_take, if_pos kl, List.getElem?_set, if_neg (by omega), ← List.getD_eq_getElem?_getD]
  obtain ⟨r1, r2⟩ := HD.down (E := (E.set 0 (gt E l)).take l) (i := 0) l (by omega) (by omega) ⟨fun j j0 jl pj => by
      rw [len] at jl
      rw [g _ (by omega) (by omega), g j j0 jl]
      exact h j j0 (by omega), fun j _ _ _ z => absurd z (by omega)⟩
  refine ⟨r1, (r2.cons (gt E 0)).trans ?_⟩
  match E, hl with
  | x :: T, hl =>
    have tl : T.length = l := by simpa using hl
    have e0 : gt (x :: T) 0 = x := rfl
    have e1 : (x :: T).set 0 (gt (x :: T) l) = gt (x :: T) l :: T := rfl
    rw [e0, e1]
    obtain ⟨k, rfl⟩ : ∃ k, l = k + 1 := ⟨l - 1, by omega⟩
    rw [List.take_succ_cons]
    refine List.Perm.cons x ?_
    have e2 : gt (x :: T) (k + 1) = T[k]'(by omega) := by
      unfold gt
      rw [List.getD_eq_getElem?_getD, List.getElem?_cons_succ, List.getElem?_eq_getElem (by omega)]
      rfl
    rw [e2]
    have e3 : T = T.take k ++ [T[k]'(by omega)] := by
      rw [← List.take_succ_eq_append_getElem (by omega), List.take_of_length_le (by omega)]
    refine (List.perm_append_comm (l₁ := [T[k]'(by omega)]) (l₂ := T.take k)).trans ?_
    rw [← e3]
end Re
end Go.Proofs.YtigmhnlcmhpepaaGreatDoor
