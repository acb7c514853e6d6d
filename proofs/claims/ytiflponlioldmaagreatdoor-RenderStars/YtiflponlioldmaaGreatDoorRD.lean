/-
  Texts put together: DBackN, NGood, SOne2, JNum, PoN, INum, INum2, IKinds, DSetN, DLoc, DTk, RnRun, RnForm, RnN, Shr, BitW.
-/
import Derived.Test.YtiflponlioldmaaGreatDoorRC
import Derived.Test.YtiflponlioldmaaGreatDoorRB
import Derived.Test.YtiflponlioldmaaGreatDoorNums
import Derived.WalkKit
import Derived.Test.YtiflponlioldmaaGreatDoorShl
import Derived.Test.YtiflponlioldmaaGreatDoorBlenIs
namespace Go.Proofs.YtiflponlioldmaaGreatDoor
namespace Dr

/-- The flags' marks. -/
def ms (f : Int) : List Int := (if f.toNat % 2 = 1 then [45] else []) ++ (if f.toNat / 2 % 2 = 1 then [43] else []) ++ (if f.toNat / 4 % 2 = 1 then [32] else []) ++ (if f.toNat / 8 % 2 = 1 then [35] else []) ++ (if f.toNat / 16 % 2 = 1 then [48] else [])
def wn (k n : Int) : List Int := if k = 1 then Sc.dl n.toNat else if k = 2 then [42] else []
/-- A piece as a format has it. -/
def wr (p : Pc) : List Int := if p.v = 0 then p.t else if p.v = 37 then [37, 37] else 37 :: (ms p.fl ++ wn p.wk p.wd ++ (if p.pk ≠ 0 then 46 :: wn p.pk p.pr else []) ++ [p.v])

/-- In form. -/
def num (k n l : Int) : Prop := ((k = 0 ∨ k = 2) ∧ n = 0) ∨ (k = 1 ∧ l ≤ n ∧ n ≤ 4096)
def isT (p : Pc) : Prop := p.t ≠ [] ∧ p.v = 0 ∧ p.fl = 0 ∧ p.wk = 0 ∧ p.wd = 0 ∧ p.pk = 0 ∧ p.pr = 0 ∧ idx p.t 37 < 0
def isP (p : Pc) : Prop := p.t = [] ∧ p.v = 37 ∧ p.fl = 0 ∧ p.wk = 0 ∧ p.wd = 0 ∧ p.pk = 0 ∧ p.pr = 0
def isR (p : Pc) : Prop := 0 ≤ idx verbs p.v ∧ p.t = [] ∧ 0 ≤ p.fl ∧ p.fl ≤ 31 ∧ num p.wk p.wd 1 ∧ num p.pk p.pr 0
def ok (p : Pc) : Prop := isT p ∨ isP p ∨ isR p
instance (k n l : Int) : Decidable (num k n l) := inferInstanceAs (Decidable (_ ∨ _))
instance (p : Pc) : Decidable (isT p) := inferInstanceAs (Decidable (_ ∧ _))
instance (p : Pc) : Decidable (isP p) := inferInstanceAs (Decidable (_ ∧ _))
instance (p : Pc) : Decidable (isR p) := inferInstanceAs (Decidable (_ ∧ _))
instance (p : Pc) : Decidable (ok p) := inferInstanceAs (Decidable (_ ∨ _))

theorem Pc.eq {p q : Pc} (h1 : p.t = q.t) (h2 : p.v = q.v) (h3 : p.fl = q.fl) (h4 : p.wk = q.wk) (h5 : p.wd = q.wd) (h6 : p.pk = q.pk) (h7 : p.pr = q.pr) : p = q := by
  cases p; cases q; simp_all

theorem idx_cons {x c : Int} {l : List Int} (h : 0 ≤ idx (x :: l) c) : c = x ∨ 0 ≤ idx l c := by
  rw [idx] at h
  split at h
  · rename_i e; exact .inl e.symm
  · split at h
    · omega
    · exact .inr (by omega)
theorem verb_cases {c : Int} (h : 0 ≤ idx verbs c) : c = 100 ∨ c = 105 ∨ c = 111 ∨ c = 117 ∨ c = 120 ∨ c = 88 ∨ c = 99 ∨ c = 115 ∨ c = 101 ∨ c = 69 ∨ c = 102 ∨ c = 70 ∨ c = 103 ∨ c = 71 := by
  unfold verbs at h
  iterate 13 (rcases idx_cons h with h | h; · omega)
  rcases idx_cons h with h | h
  · omega
  · simp [idx] at h
theorem verb_ne {c : Int} (h : 0 ≤ idx verbs c) : c ≠ 0 ∧ c ≠ 37 ∧ c ≠ 42 ∧ c ≠ 46 ∧ isD c = false ∧ isF c = false ∧ 0 ≤ c ∧ c < 256 := by
  rcases verb_cases h with h | h | h | h | h | h | h | h | h | h | h | h | h | h <;> subst h <;> decide

theorem isF_cases {c : Int} : isF c = true ↔ c = 45 ∨ c = 43 ∨ c = 32 ∨ c = 35 ∨ c = 48 := by
  constructor
  · intro h
    simp only [isF, decide_eq_true_eq] at h
    unfold marks at h
    iterate 4 (rcases idx_cons h with h | h; · omega)
    rcases idx_cons h with h | h
    · omega
    · simp [idx] at h
  · rintro (h | h | h | h | h) <;> subst h <;> decide
theorem isF_no {c : Int} (h1 : c ≠ 45) (h2 : c ≠ 43) (h3 : c ≠ 32) (h4 : c ≠ 35) (h5 : c ≠ 48) : isF c = false := by
  cases h : isF c
  · rfl
  · rcases isF_cases.1 h with h | h | h | h | h <;> contradiction

theorem fS_stop {s : Nat} {r : List Int} (h : isF (r.headD 0) = false) : fS s r = s := by
  cases r with
  | nil => rfl
  | cons c l => rw [fS, if_neg (by simp only [List.headD_cons] at h; rw [h]; simp)]
theorem ms_read {f : Int} {r : List Int} (h0 : 0 ≤ f) (h1 : f ≤ 31) (h : isF (r.headD 0) = false) : ct isF (ms f ++ r) = (ms f).length ∧ (fS 0 (ms f ++ r) : Int) = f ∧ (ms f ++ r).drop (ms f).length = r := by
  refine ⟨?_, ?_, List.drop_left⟩
  · rw [ct_app, ct_zero h]
    · rfl
    · intro x hx
      have : x = 45 ∨ x = 43 ∨ x = 32 ∨ x = 35 ∨ x = 48 := by
        unfold ms at hx
        simp only [List.mem_append] at hx
        rcases hx with (((hx | hx) | hx) | hx) | hx <;> (split at hx <;> simp at hx) <;> omega
      exact isF_cases.2 this
  · have e : ∀ f : Fin 32, fS 0 (ms (f.val : Int) ++ r) = f.val := by
      intro f
      have key : ∀ (g : Fin 32) (c : Nat), (∀ s, fS s r = s) → fS 0 (ms (g.val : Int) ++ r) = g.val ∨ c = 1 := by
        intro g c hs
        left
        rcases g with ⟨g, hg⟩
        have : g = 0 ∨ g = 1 ∨ g = 2 ∨ g = 3 ∨ g = 4 ∨ g = 5 ∨ g = 6 ∨ g = 7 ∨ g = 8 ∨ g = 9 ∨ g = 10 ∨ g = 11 ∨ g = 12 ∨ g = 13 ∨ g = 14 ∨ g = 15 ∨ g = 16 ∨ g = 17 ∨ g = 18 ∨ g = 19 ∨ g = 20 ∨ g = 21 ∨ g = 22 ∨ g = 23 ∨ g = 24 ∨ g = 25 ∨ g = 26 ∨ g = 27 ∨ g = 28 ∨ g = 29 ∨ g = 30 ∨ g = 31 := by omega
        rcases this with h | h | h | h | h | h | h | h | h | h | h | h | h | h | h | h | h | h | h | h | h | h | h | h | h | h | h | h | h | h | h | h <;> subst h <;> simp [ms, fS, isF, marks, idx, hs]
      rcases key f 0 (fun s => fS_stop h) with h | h
      · exact h
      · omega
    have := e ⟨f.toNat, by omega⟩
    simp only at this
    rw [show ((f.toNat : Nat) : Int) = f by omega] at this
    rw [this]; omega

/-- Digits' value, uncapped. -/
def dw (n : Int) : List Int → Int
  | [] => n
  | c :: l => dw (10 * n + (c - 48)) l
theorem dw_ge {n : Int} {l : List Int} (h0 : 0 ≤ n) (h : ∀ x ∈ l, isD x = true) : n ≤ dw n l := by
  induction l generalizing n with
  | nil => simp [dw]
  | cons c l ih =>
    have := isD_iff.1 (h c (by simp))
    have := ih (n := 10 * n + (c - 48)) (by omega) (fun x hx => h x (by simp [hx]))
    rw [dw]; omega
theorem dN_dw {n : Int} {l r : List Int} (h0 : 0 ≤ n) (h : ∀ x ∈ l, isD x = true) (hr : isD (r.headD 0) = false) (hb : dw n l ≤ 4096) : dN n (l ++ r) = dw n l := by
  induction l generalizing n with
  | nil =>
    cases r with
    | nil => rfl
    | cons c r => rw [List.nil_append, dN, if_neg (by simp only [List.headD_cons] at hr; rw [hr]; simp), dw]
  | cons c l ih =>
    have hc := h c (by simp)
    have := isD_iff.1 hc
    have k : ∀ x ∈ l, isD x = true := fun x hx => h x (by simp [hx])
    rw [dw] at hb
    have := dw_ge (n := 10 * n + (c - 48)) (by omega) k
    rw [List.cons_append, dN, if_pos hc, Int.min_eq_left (by omega), ih (by omega) k hb, dw]
theorem dw_app {n : Int} {a b : List Int} : dw n (a ++ b) = dw (dw n a) b := by
  induction a generalizing n with
  | nil => rfl
  | cons c l ih => rw [List.cons_append, dw, dw, ih]
theorem dl_D (u : Nat) : ∀ x ∈ Sc.dl u, isD x = true := fun x hx => by
  have := Sc.dg_iff.1 ((Sc.dl_is u).1 x hx)
  exact isD_iff.2 this
theorem dl_dw (u : Nat) : dw 0 (Sc.dl u) = u := by
  induction u using Nat.strongRecOn with
  | _ u ih =>
    by_cases h : u < 10
    · rw [Sc.dl_small h]; simp only [dw]; omega
    · rw [Sc.dl_big h, dw_app, ih (u / 10) (by omega)]; simp only [dw]; omega
theorem dl_head (u : Nat) (h1 : 1 ≤ u) : ∃ c l, Sc.dl u = c :: l ∧ 49 ≤ c ∧ c ≤ 57 := by
  induction u using Nat.strongRecOn with
  | _ u ih =>
    by_cases h : u < 10
    · exact ⟨_, _, Sc.dl_small h, by omega, by omega⟩
    · obtain ⟨c, l, e, h2, h3⟩ := ih (u / 10) (by omega) (by omega)
      exact ⟨c, l ++ [48 + ((u % 10 : Nat) : Int)], by rw [Sc.dl_big h, e]; rfl, h2, h3⟩
theorem dl_cons (u : Nat) : ∃ c l, Sc.dl u = c :: l ∧ 48 ≤ c ∧ c ≤ 57 := by
  cases h : Sc.dl u with
  | nil => exact absurd h (Sc.dl_is u).2.1
  | cons c l =>
    have := isD_iff.1 (dl_D u c (by rw [h]; simp))
    exact ⟨c, l, rfl, this⟩

/-- A number as it is written, read back. -/
theorem wn_read {k n l : Int} {r : List Int} (h : num k n l) (hl : 0 ≤ l) (hr : isD (r.headD 0) = false) (hs : k = 0 → r.headD 0 ≠ 42) : ne (wn k n ++ r) = 0 ∧ nk (wn k n ++ r) = k ∧ nv (wn k n ++ r) = n ∧ nu (wn k n ++ r) = (wn k n).length := by
  rcases h with ⟨hk | hk, hn⟩ | ⟨hk, h1, h2⟩
  · subst hk; subst hn
    have c0 := ct_zero (p := isD) hr
    have hs := hs rfl
    have e : wn 0 0 = [] := rfl
    rw [e, List.nil_append]
    unfold ne nk nv nu
    rw [if_neg hs, if_neg hs, if_neg hs, if_neg hs, if_pos c0, if_pos c0, if_pos c0, if_pos c0]
    simp
  · subst hk; subst hn
    simp [wn, ne, nk, nv, nu]
  · subst hk
    have e : wn 1 n = Sc.dl n.toNat := rfl
    obtain ⟨c, m, ec, c1, c2⟩ := dl_cons n.toNat
    have a1 : ct isD (wn 1 n ++ r) = (wn 1 n).length := by
      rw [e, ct_app (dl_D _), ct_zero hr]; rfl
    have a2 : dN 0 (wn 1 n ++ r) = n := by
      have := dl_dw n.toNat
      rw [e, dN_dw (by omega) (dl_D _) hr (by omega), this]; omega
    have a3 : ¬ (wn 1 n ++ r).headD 0 = 42 := by rw [e, ec]; simp; omega
    have a4 : ¬ (wn 1 n).length = 0 := by rw [e, ec]; simp
    unfold ne nk nv nu
    rw [a1, a2]
    simp only [if_neg a3, if_neg a4, if_neg (show ¬ 4096 < n by omega)]
    exact ⟨trivial, trivial, trivial, trivial⟩
theorem wn_head {k n l : Int} {r : List Int} (h : num k n l) (hl : l = 1) (hk : k = 0 → isF (r.headD 0) = false) : isF ((wn k n ++ r).headD 0) = false := by
  rcases h with ⟨c | c, hn⟩ | ⟨c, h1, h2⟩
  · subst c; subst hn; exact hk rfl
  · subst c; subst hn; simp [wn]; decide
  · subst c
    obtain ⟨c, m, ec, c1, c2⟩ := dl_head n.toNat (by omega)
    have : wn 1 n = c :: m := ec
    rw [this]
    simp only [List.cons_append, List.headD_cons]
    exact isF_no (by omega) (by omega) (by omega) (by omega) (by omega)

/-- A precision as it is written, read back. -/
theorem wp_read {k n : Int} {r : List Int} (h : num k n 0) (hr : isD (r.headD 0) = false) (h6 : r.headD 0 ≠ 46) : pe ((if k ≠ 0 then 46 :: wn k n else []) ++ r) = 0 ∧ pk ((if k ≠ 0 then 46 :: wn k n else []) ++ r) = k ∧ pv ((if k ≠ 0 then 46 :: wn k n else []) ++ r) = n ∧ pu ((if k ≠ 0 then 46 :: wn k n else []) ++ r) = (if k ≠ 0 then 46 :: wn k n else []).length := by
  by_cases hk : k = 0
  · have hn : n = 0 := by rcases h with ⟨_, h⟩ | ⟨h, _⟩ <;> omega
    subst hk; subst hn
    rw [if_neg (by simp), List.nil_append]
    unfold pe pk pv pu
    rw [if_neg h6, if_neg h6, if_neg h6, if_neg h6]
    simp
  · obtain ⟨a, b, c, d⟩ := wn_read (r := r) h (by omega) hr (fun e => absurd e hk)
    rw [if_pos hk, List.cons_append]
    have z : (46 :: (wn k n ++ r)).headD 0 = 46 := rfl
    have y : (46 :: (wn k n ++ r)).tail = wn k n ++ r := rfl
    unfold pe pk pv pu
    rw [if_pos z, if_pos z, if_pos z, if_pos z, y, if_neg (by rw [b]; exact fun e => hk e.2)]
    refine ⟨a, b, c, ?_⟩
    rw [d, List.length_cons]; omega
/-- A directive, read back, whatever stands behind it. -/
theorem dir_read {p : Pc} (h : isR p) (r : List Int) : qe (wr p ++ r) = 0 ∧ qp (wr p ++ r) = p ∧ qu (wr p ++ r) = (wr p).length := by
  obtain ⟨hv, ht, f0, f1, hw, hp⟩ := h
  obtain ⟨v0, v37, v42, v46, vd, vf, _, _⟩ := verb_ne hv
  let D := p.v :: r
  let C := (if p.pk ≠ 0 then 46 :: wn p.pk p.pr else []) ++ D
  let B := wn p.wk p.wd ++ C
  let A := ms p.fl ++ B
  have eA : wr p ++ r = 37 :: A := by
    show wr p ++ r = 37 :: (ms p.fl ++ (wn p.wk p.wd ++ ((if p.pk ≠ 0 then 46 :: wn p.pk p.pr else []) ++ p.v :: r)))
    rw [wr, if_neg v0, if_neg v37]; simp
  have len : (wr p).length = 1 + ((ms p.fl).length + ((wn p.wk p.wd).length + ((if p.pk ≠ 0 then 46 :: wn p.pk p.pr else []).length + 1))) := by
    rw [wr, if_neg v0, if_neg v37]; simp; omega
  have hD : D.headD 0 = p.v := rfl
  have hC : isD (C.headD 0) = false ∧ C.headD 0 ≠ 42 ∧ isF (C.headD 0) = false ∧ C.headD 0 ≠ 37 := by
    show isD (((if p.pk ≠ 0 then 46 :: wn p.pk p.pr else []) ++ D).headD 0) = false ∧ ((if p.pk ≠ 0 then 46 :: wn p.pk p.pr else []) ++ D).headD 0 ≠ 42 ∧ isF (((if p.pk ≠ 0 then 46 :: wn p.pk p.pr else []) ++ D).headD 0) = false ∧ ((if p.pk ≠ 0 then 46 :: wn p.pk p.pr else []) ++ D).headD 0 ≠ 37
    by_cases hk : p.pk = 0
    · rw [if_neg (by simp [hk]), List.nil_append, hD]; exact ⟨vd, v42, vf, v37⟩
    · rw [if_pos hk]; simp only [List.cons_append, List.headD_cons]; decide
  obtain ⟨n1, n2, n3, n4⟩ := wn_read (r := C) hw (by omega) hC.1 (fun _ => hC.2.1)
  have hB : isF (B.headD 0) = false := wn_head hw rfl (fun _ => hC.2.2.1)
  obtain ⟨m1, m2, m3⟩ := ms_read (r := B) f0 f1 hB
  obtain ⟨q1, q2, q3, q4⟩ := wp_read (r := D) hp (by rw [hD]; exact vd) (by rw [hD]; exact v46)
  have e1 : l1 A = B := by rw [l1, m1]; exact m3
  have e2 : l2 A = C := by rw [l2, e1, n4]; exact List.drop_left
  have e3 : l3 A = D := by rw [l3, e2, q4]; exact List.drop_left
  have ev : ve D = 0 := by rw [ve, if_neg (by simp [D]), hD, if_neg (by omega)]
  have ed : de A = 0 := by rw [de, e1, e2, e3, n1, q1, ev]; simp
  have eu : du A = (ms p.fl).length + (wn p.wk p.wd).length + (if p.pk ≠ 0 then 46 :: wn p.pk p.pr else []).length + 1 := by
    rw [du, e1, e2, e3, n1, q1, vu, ev, n4, q4, m1]; simp
  have ep : dp A = p := by
    rw [dp, if_pos ed, e1, e2, e3]
    exact Pc.eq ht.symm (by rw [vv, if_pos ev, hD]) m2 n2 n3 q2 q3
  have hA : A.headD 0 ≠ 37 := by
    show (ms p.fl ++ B).headD 0 ≠ 37
    cases hm : ms p.fl with
    | cons c l =>
      have : isF c = true := by
        have : ct isF (c :: l ++ B) = (c :: l).length := by rw [← hm]; exact m1
        by_cases hf : isF c = true
        · exact hf
        · rw [List.cons_append, ct, if_neg hf] at this; simp at this
      simp only [List.cons_append, List.headD_cons]
      rcases isF_cases.1 this with h | h | h | h | h <;> omega
    | nil =>
      rw [List.nil_append]
      show (wn p.wk p.wd ++ C).headD 0 ≠ 37
      rcases hw with ⟨c | c, hn⟩ | ⟨c, h1, h2⟩
      · rw [c, hn]; exact hC.2.2.2
      · rw [c, hn]; simp [wn]
      · rw [c]
        obtain ⟨x, m, ec, c1, c2⟩ := dl_head p.wd.toNat (by omega)
        have : wn 1 p.wd = x :: m := ec
        rw [this]
        simp only [List.cons_append, List.headD_cons]; omega
  rw [eA]
  have z : ¬ (37 :: A).headD 0 ≠ 37 := by simp
  have y : ¬ (37 :: A).tail.headD 0 = 37 := hA
  unfold qe qp qu
  rw [if_neg z, if_neg z, if_neg z, if_neg y, if_neg y, if_neg y]
  exact ⟨ed, ep, by rw [List.tail_cons, eu, len]; omega⟩

theorem pct_read {p : Pc} (h : isP p) (r : List Int) : qe (wr p ++ r) = 0 ∧ qp (wr p ++ r) = p ∧ qu (wr p ++ r) = (wr p).length := by
  obtain ⟨h1, h2, h3, h4, h5, h6, h7⟩ := h
  have e : wr p = [37, 37] := by rw [wr, h2]; simp
  rw [e]
  refine ⟨by simp [qe], ?_, by simp [qu]⟩
  rw [qp]
  simp only [List.cons_append, List.headD_cons, List.tail_cons, ne_eq, not_true_eq_false, if_false, if_true]
  exact Pc.eq h1.symm h2.symm h3.symm h4.symm h5.symm h6.symm h7.symm

theorem isX_of {t : List Int} (h : idx t 37 < 0) : ∀ x ∈ t, isX x = true := by
  induction t with
  | nil => simp
  | cons c l ih =>
    rw [idx] at h
    split at h
    · omega
    · rename_i hc
      have : idx l 37 < 0 := by split at h <;> omega
      intro x hx
      rcases List.mem_cons.1 hx with rfl | hx
      · simp [isX, hc]
      · exact ih this x hx
theorem txt_read {p : Pc} (h : isT p) (r : List Int) (hr : r = [] ∨ r.headD 0 = 37) : qe (wr p ++ r) = 0 ∧ qp (wr p ++ r) = p ∧ qu (wr p ++ r) = (wr p).length := by
  obtain ⟨h1, h2, h3, h4, h5, h6, h7, h8⟩ := h
  have e : wr p = p.t := by rw [wr, if_pos h2]
  have hx := isX_of h8
  have hc : ct isX (p.t ++ r) = p.t.length := by
    rw [ct_app hx]
    rcases hr with hr | hr
    · rw [hr]; rfl
    · rw [ct_zero (by rw [hr]; decide)]; rfl
  have hd : (p.t ++ r).headD 0 ≠ 37 := by
    cases ht : p.t with
    | nil => exact absurd ht h1
    | cons c l =>
      have := hx c (by rw [ht]; simp)
      simpa [isX] using this
  rw [e]
  unfold qe qp qu
  rw [if_pos hd, if_pos hd, if_pos hd, hc]
  exact ⟨rfl, Pc.eq (by simp) h2.symm h3.symm h4.symm h5.symm h6.symm h7.symm, rfl⟩
end Dr
end Go.Proofs.YtiflponlioldmaaGreatDoor

namespace Go.Proofs.YtiflponlioldmaaGreatDoor
open Go.RowKit Go.Deep

theorem cap_facts : ∀ k : Fin 36, wv (capL.getD k.val 0) = (k.val : Int) ∧ ¬ (97 ≤ capL.getD k.val 0 ∧ capL.getD k.val 0 ≤ 122) ∧ (capL.getD k.val 0 = 48 → k.val = 0) := by decide
theorem small_facts : ∀ k : Fin 36, wv (smallL.getD k.val 0) = (k.val : Int) ∧ ¬ (65 ≤ smallL.getD k.val 0 ∧ smallL.getD k.val 0 ≤ 90) ∧ (smallL.getD k.val 0 = 48 → k.val = 0) := by decide

/-- A letter, by the digit. -/
theorem letter_facts (up : Bool) (d : Int) (h0 : 0 ≤ d) (h1 : d < 36) : wv ((lettersOf up).getD d.toNat 0) = d ∧ (up = true → ¬ (97 ≤ (lettersOf up).getD d.toNat 0 ∧ (lettersOf up).getD d.toNat 0 ≤ 122)) ∧ (up = false → ¬ (65 ≤ (lettersOf up).getD d.toNat 0 ∧ (lettersOf up).getD d.toNat 0 ≤ 90)) ∧ ((lettersOf up).getD d.toNat 0 = 48 → d = 0) := by
  cases up with
  | true =>
    have k := cap_facts ⟨d.toNat, by omega⟩
    simp only at k
    rw [show lettersOf true = capL from rfl]
    exact ⟨by rw [k.1]; omega, fun _ => k.2.1, fun h => absurd h (by decide), fun h => by have := k.2.2 h; omega⟩
  | false =>
    have k := small_facts ⟨d.toNat, by omega⟩
    simp only at k
    rw [show lettersOf false = smallL from rfl]
    exact ⟨by rw [k.1]; omega, fun h => absurd h (by decide), fun _ => k.2.1, fun h => by have := k.2.2 h; omega⟩

/-- What a text that InBase wrote is like. -/
structure Good (zs : List Int) (B : Int) (up : Bool) (xs : List Int) : Prop where
  ne : xs ≠ []
  len : xs.length ≤ 262144
  case_ : ∀ i, i < xs.length → (up = true → ¬ (97 ≤ xs.getD i 0 ∧ xs.getD i 0 ≤ 122)) ∧ (up = false → ¬ (65 ≤ xs.getD i 0 ∧ xs.getD i 0 ≤ 90))
  dig : ∀ i, i < xs.length → wv (xs.getD i 0) < B
  val : Dn.tv B 0 (xs.map wv) = Nm.val zs
  head : 0 < Nm.tsize zs → xs.getD 0 0 ≠ 48
  zero : Nm.tsize zs = 0 → xs = [48]

theorem map_wv_lets {up : Bool} {B : Int} (h36 : B ≤ 36) (ds : List Int) (hd : ∀ d ∈ ds, 0 ≤ d ∧ d < B) : (lets (lettersOf up) ds).map wv = ds := by
  unfold lets
  rw [List.map_map]
  conv => rhs; rw [← List.map_id ds]
  apply List.map_congr_left
  intro d h
  have := hd d h
  exact (letter_facts up d this.1 (by omega)).1

theorem good_ok {zs : List Int} {B : Int} {up : Bool} {L : Nat} (hz : Nm.Limbs zs) (h0 : 0 < Nm.tsize zs) (h1 : Nm.tsize zs ≤ 4096) (h2 : 2 ≤ B) (h36 : B ≤ 36) (hL : Nm.val zs < B ^ L) : Good zs B up (lets (lettersOf up) (Dn.strip (Dn.dg B L (Nm.val zs)))) := by
  have hB : 0 < B := by omega
  have hv0 := (Nm.val_bd zs hz).1
  have hvz : Nm.val zs ≠ 0 := fun c => by have := (Nm.tsize_zero_iff hz).2 c; omega
  have hL2 : Nm.val zs < B ^ 262144 := by
    have e1 := (Nm.tsize_le_iff hz 4096).1 h1
    rw [Nm.pw_two 4096, show 64 * 4096 = 262144 from rfl] at e1
    exact Int.lt_of_lt_of_le e1 (Pn.pow_base (by omega) h2 262144)
  rw [Dn.strip_dg hB hv0 hL hL2]
  obtain ⟨ds, hds⟩ : ∃ ds, Dn.strip (Dn.dg B 262144 (Nm.val zs)) = ds := ⟨_, rfl⟩
  have hm : ∀ d ∈ ds, 0 ≤ d ∧ d < B := fun d hd => by
    rw [← hds] at hd
    exact Dn.dg_mem hB _ _ d (Dn.strip_mem hd)
  have htv : Dn.tv B 0 ds = Nm.val zs := by rw [← hds, Dn.tv_strip, Dn.tv_dg hB _ _ hv0 hL2]
  have hlen : ds.length ≤ 262144 := by
    have := (List.dropWhile_sublist (fun d : Int => decide (d = 0)) (l := Dn.dg B 262144 (Nm.val zs))).length_le
    rw [Dn.dg_length] at this
    rw [← hds]
    exact this
  have hne : ds ≠ [] := fun c => by rw [c] at htv; exact hvz htv.symm
  rw [hds]
  have hg : ∀ i, i < ds.length → (lets (lettersOf up) ds).getD i 0 = (lettersOf up).getD (ds.getD i 0).toNat 0 := fun i hi => by simp [lets, List.getD, hi]
  have hl : (lets (lettersOf up) ds).length = ds.length := by simp [lets]
  have hat : ∀ i, i < ds.length → 0 ≤ ds.getD i 0 ∧ ds.getD i 0 < B := fun i hi => by
    have e : ds.getD i 0 = ds[i] := by simp [List.getD, hi]
    rw [e]
    exact hm _ (List.getElem_mem hi)
  refine ⟨fun c => hne (by simpa [lets] using c), by rw [hl]; exact hlen, fun i hi => ?_, fun i hi => ?_, by rw [map_wv_lets h36 ds hm, htv], fun _ => ?_, fun c => by omega⟩
  · rw [hl] at hi
    rw [hg i hi]
    have := hat i hi
    have f := letter_facts up (ds.getD i 0) this.1 (by omega)
    exact ⟨f.2.1, f.2.2.1⟩
  · rw [hl] at hi
    rw [hg i hi]
    have := hat i hi
    rw [(letter_facts up (ds.getD i 0) this.1 (by omega)).1]
    exact this.2
  · have hi : 0 < ds.length := by
      rcases Nat.eq_zero_or_pos ds.length with c | c
      · exact absurd (List.eq_nil_of_length_eq_zero c) hne
      · exact c
    rw [hg 0 hi]
    have hb := hat 0 hi
    intro c
    have := (letter_facts up (ds.getD 0 0) hb.1 (by omega)).2.2.2 c
    obtain ⟨d, rest, hdr⟩ : ∃ d rest, ds = d :: rest := List.exists_cons_of_ne_nil hne
    have k := Dn.strip_head (ds := Dn.dg B 262144 (Nm.val zs)) (by rw [hds]; exact hdr)
    rw [hdr] at this
    exact k (by simpa using this)
end Go.Proofs.YtiflponlioldmaaGreatDoor

namespace Go.Proofs.YtiflponlioldmaaGreatDoor

theorem InIs.one {zs : List Int} {B : Int} {up : Bool} {xs ys : List Int} {E F : Int} (hz : Nm.Limbs zs) (h : InIs zs B up xs E) (k : InIs zs B up ys F) : xs = ys ∧ E = F := by
  cases h with
  | big h1 => cases k <;> first | exact ⟨rfl, rfl⟩ | (exfalso; omega)
  | base h1 h2 => cases k <;> first | exact ⟨rfl, rfl⟩ | (exfalso; omega)
  | zero h1 h2 h3 => cases k <;> first | exact ⟨rfl, rfl⟩ | (exfalso; omega)
  | ok L h1 h2 h3 h4 h5 =>
    cases k with
    | big k1 => exfalso; omega
    | base k1 k2 => exfalso; omega
    | zero k1 k2 k3 => exfalso; omega
    | ok M k1 k2 k3 k4 k5 => exact ⟨by rw [Dn.strip_dg (by omega) (Nm.val_bd zs hz).1 h5 k5], rfl⟩
end Go.Proofs.YtiflponlioldmaaGreatDoor

namespace Go.Proofs.YtiflponlioldmaaGreatDoor
open Go.RowKit Go.Deep
namespace Wh
/-- The digits of a number, none of nothing. -/
def dig (B : Int) (up : Bool) (v : Int) : List Int := if v = 0 then [] else lets (lettersOf up) (Dn.strip (Dn.dg B v.toNat v))
theorem lt_pow {B : Int} (hB : 2 ≤ B) (n : Nat) : (n : Int) < B ^ n := by
  induction n with
  | zero => simp
  | succ n ih =>
    rw [Int.pow_succ]
    have p : (1 : Int) ≤ B ^ n := Pn.pow_pos' (by omega) n
    have : B ^ n * 2 ≤ B ^ n * B := Int.mul_le_mul_of_nonneg_left hB (by omega)
    omega
theorem dig_is {zs : List Int} {B : Int} {up : Bool} {xs : List Int} {E : Int} (hz : Nm.Limbs zs) (h0 : 0 < Nm.val zs) (h1 : Nm.tsize zs ≤ 4096) (hB : 2 ≤ B) (h36 : B ≤ 36) (h : InIs zs B up xs E) : xs = dig B up (Nm.val zs) ∧ E = 0 := by
  have t0 : 0 < Nm.tsize zs := by have := Nm.tsize_zero_iff hz; omega
  have hl : Nm.val zs < B ^ (Nm.val zs).toNat := by have := lt_pow hB (Nm.val zs).toNat; omega
  have q := h.one hz (.ok (Nm.val zs).toNat t0 h1 hB h36 hl)
  rw [dig, if_neg (by omega)]
  exact q

/-- What the digits of a number are like. -/
structure Dg (B : Int) (up : Bool) (v : Int) (xs : List Int) : Prop where
  ne : xs ≠ []
  len : xs.length ≤ 262144
  case_ : ∀ i, i < xs.length → (up = true → ¬ (97 ≤ xs.getD i 0 ∧ xs.getD i 0 ≤ 122)) ∧ (up = false → ¬ (65 ≤ xs.getD i 0 ∧ xs.getD i 0 ≤ 90))
  dig : ∀ i, i < xs.length → wv (xs.getD i 0) < B
  val : Dn.tv B 0 (xs.map wv) = v
  head : xs.getD 0 0 ≠ 48
theorem dig_good {zs : List Int} {B : Int} {up : Bool} (hz : Nm.Limbs zs) (h0 : 0 < Nm.val zs) (h1 : Nm.tsize zs ≤ 4096) (hB : 2 ≤ B) (h36 : B ≤ 36) : Dg B up (Nm.val zs) (dig B up (Nm.val zs)) := by
  have t0 : 0 < Nm.tsize zs := by have := Nm.tsize_zero_iff hz; omega
  have hl : Nm.val zs < B ^ (Nm.val zs).toNat := by have := lt_pow hB (Nm.val zs).toNat; omega
  have g := good_ok (up := up) hz t0 h1 hB h36 hl
  rw [dig, if_neg (by omega)]
  exact ⟨g.ne, g.len, g.case_, g.dig, g.val, g.head t0⟩
theorem lets_by (up : Bool) (ds : List Int) : By (lets (lettersOf up) ds) := by
  intro x hx
  obtain ⟨d, _, rfl⟩ := List.mem_map.1 hx
  have k : ∀ (l : List Int), (∀ y ∈ l, 0 ≤ y ∧ y < 256) → 0 ≤ l.getD d.toNat 0 ∧ l.getD d.toNat 0 < 256 := by
    intro l hl
    rw [List.getD_eq_getElem?_getD]
    cases h : l[d.toNat]? with
    | none => simp
    | some y => exact hl y (List.mem_of_getElem? h)
  apply k
  cases up
  · show ∀ y ∈ smallL, _
    decide
  · show ∀ y ∈ capL, _
    decide
theorem dig_by (B : Int) (up : Bool) (v : Int) : By (dig B up v) := by
  unfold dig
  split
  · exact By.nil
  · exact lets_by _ _

/-- Digits brought to the precision. -/
def fil (P : Int) (d : List Int) : List Int := rep 48 ((if P = -1 then 1 else P) - d.length) ++ d
theorem fil_by {P : Int} {d : List Int} (h : By d) : By (fil P d) := (By.rep (by omega)).app h
theorem fil_len (P : Int) (d : List Int) : (fil P d).length = ((if P = -1 then 1 else P) - d.length).toNat + d.length := by
  rw [fil, List.length_append, rep_len]

/-- The sign. -/
def sgn (F : Int) (below : Bool) : List Int := if below = true then [45] else if bit F 2 = true then [43] else if bit F 4 = true then [32] else []
theorem sgn_by (F : Int) (b : Bool) : By (sgn F b) := by
  unfold sgn
  split
  · intro x hx; simp at hx; omega
  · split
    · intro x hx; simp at hx; omega
    · split
      · intro x hx; simp at hx; omega
      · exact By.nil
theorem sgn_len (F : Int) (b : Bool) : (sgn F b).length ≤ 1 := by
  unfold sgn
  split
  · simp
  · split
    · simp
    · split <;> simp

/-- Signed. -/
def sigE (V F W P : Int) (t : Nat) : Int := if V = 100 ∨ V = 105 then (if chk F W P = 0 then (if 4096 < t then 2 else 0) else chk F W P) else 140
def sigT (F W P : Int) (neg : Bool) (v : Int) : List Int := padT F W (decide (P = -1)) (sgn F (neg && decide (v ≠ 0))) (fil P (dig 10 false v))
def sig (V F W P : Int) (neg : Bool) (zs : List Int) : List Int := if sigE V F W P (Nm.tsize zs) = 0 then sigT F W P neg (Nm.val zs) else []

/-- Unsigned. -/
def base (V : Int) : Int := if V = 111 then 8 else if V = 120 ∨ V = 88 then 16 else 10
def ubody (V P u : Int) : List Int := fil P (dig (base V) (decide (V = 88)) u)
def umark (V F P u : Int) : Bool := bit F 8 && decide (V = 111) && decide ((ubody V P u).getD 0 0 ≠ 48)
def uhead (V F u : Int) : List Int := if bit F 8 = true ∧ u ≠ 0 ∧ V = 120 then [48, 120] else if bit F 8 = true ∧ u ≠ 0 ∧ V = 88 then [48, 88] else []
def utext (V F P u : Int) : List Int := if umark V F P u = true then 48 :: ubody V P u else ubody V P u
def unsE (V F W P : Int) : Int := if V = 111 ∨ V = 117 ∨ V = 120 ∨ V = 88 then chk F W P else 140
def unsT (V F W P u : Int) : List Int := padT F W (decide (P = -1)) (uhead V F u) (utext V F P u)
def uns (V F W P u : Int) : List Int := if unsE V F W P = 0 then unsT V F W P u else []

end Wh
end Go.Proofs.YtiflponlioldmaaGreatDoor

namespace Go.Proofs.YtiflponlioldmaaGreatDoor
open Go Go.RowKit Go.Deep
namespace Po

/-- The verbs of capitals; those that Render renders. -/
def cap (V : Int) : Bool := decide (V = 69 ∨ V = 70 ∨ V = 71 ∨ V = 88)
def okV (V : Int) : Bool := decide (V = 101 ∨ V = 69 ∨ V = 102 ∨ V = 70 ∨ V = 103 ∨ V = 71)
def ng (d : Int) : Bool := decide (9223372036854775808 ≤ d)
/-- The body of an infinity or a NaN. -/
def nm (c : Bool) (k : Int) : List Int := if k = 3 then (if c = true then [73, 78, 70] else [105, 110, 102]) else if k = 4 then (if c = true then [78, 65, 78] else [110, 97, 110]) else []
/-- An exponent as it is written. -/
def xd (k : Int) : List Int := (if k < 0 then 45 else 43) :: Wh.fil 2 (Wh.dig 10 false (max k (-k)))
def ex (V k : Int) : List Int := (if cap V = true then 69 else 101) :: xd k
/-- Digits ahead and behind, and an exponent. -/
def wrt (a b p : List Int) (h : Bool) : List Int := if b = [] ∧ h = false then a ++ p else a ++ 46 :: (b ++ p)
/-- Without the zeros at the end. -/
def sp : List Int → List Int
  | [] => []
  | x :: xs => if x = 48 ∧ sp xs = [] then [] else x :: sp xs
def st (h : Bool) (xs : List Int) : List Int := if h = true then xs else sp xs

noncomputable def bdF (h : Bool) (d n : Int) : List Int := wrt (Fx.pA d n) (Fx.pB d n) [] h
noncomputable def bdE (V : Int) (h : Bool) (d n : Int) : List Int := wrt ((Fx.gS d (n + 1)).take 1) ((Fx.gS d (n + 1)).drop 1) (ex V (Fx.gK d (n + 1))) h
noncomputable def bdG (V : Int) (h : Bool) (d n : Int) : List Int :=
  if -4 ≤ Fx.gK d n ∧ Fx.gK d n < n then wrt (Fx.pA d (n - 1 - Fx.gK d n)) (st h (Fx.pB d (n - 1 - Fx.gK d n))) [] h
  else wrt ((Fx.gS d n).take 1) (st h ((Fx.gS d n).drop 1)) (ex V (Fx.gK d n)) h
def pr (P : Int) : Int := if P = -1 then 6 else P
noncomputable def bd (V : Int) (h : Bool) (P d : Int) : List Int :=
  if V = 102 ∨ V = 70 then bdF h d (pr P) else if V = 101 ∨ V = 69 then bdE V h d (pr P) else bdG V h d (max (pr P) 1)

/-- Special, Render. -/
def spc (V F W P d : Int) : List Int := if Wh.chk F W P = 0 ∧ Ie.fnt d = false then Wh.padT F W false (Wh.sgn F (ng d)) (nm (cap V) (Ie.cls d)) else []
def spb (F W P d : Int) : Bool := decide (Wh.chk F W P = 0) && !Ie.fnt d
def renE (V F W P : Int) : Int := if okV V = true then Wh.chk F W P else 140
noncomputable def ren (V F W P d : Int) : List Int :=
  if renE V F W P = 0 then (if Ie.fnt d = true then Wh.padT F W true (Wh.sgn F (ng d)) (bd V (Wh.bit F 8) P d) else Wh.padT F W false (Wh.sgn F (ng d)) (nm (cap V) (Ie.cls d))) else []

theorem pr_bd {P : Int} (h0 : -1 ≤ P) (h1 : P ≤ 4096) : 0 ≤ pr P ∧ pr P ≤ 4096 := by unfold pr; split <;> omega

/-- What is left of a row when the zeros at its end are gone. -/
theorem sp_of : ∀ {xs : List Int} {k : Nat}, k ≤ xs.length → (∀ i, k ≤ i → i < xs.length → xs.getD i 0 = 48) → (0 < k → xs.getD (k - 1) 0 ≠ 48) → xs.take k = sp xs
  | [], k, _, _, _ => by simp [sp]
  | x :: xs, 0, _, h2, _ => by
    have e := sp_of (xs := xs) (k := 0) (by omega) (fun i h1 hi => by have := h2 (i + 1) (by omega) (by simp; omega); simpa using this) (fun h => by omega)
    have e0 : x = 48 := by simpa using h2 0 (by omega) (by simp)
    rw [List.take_zero] at e
    rw [sp, if_pos ⟨e0, e.symm⟩]; rfl
  | x :: xs, k + 1, h1, h2, h3 => by
    have e := sp_of (xs := xs) (k := k) (by simpa using h1) (fun i h4 hi => by have := h2 (i + 1) (by omega) (by simp; omega); simpa using this) (fun h => by
      have := h3 (by omega)
      obtain ⟨j, rfl⟩ : ∃ j, k = j + 1 := ⟨k - 1, by omega⟩
      simpa using this)
    rw [List.take_succ_cons, sp]
    rw [if_neg, e]
    rintro ⟨c1, c2⟩
    rw [← e] at c2
    have k0 : k = 0 := by
      rcases Nat.eq_zero_or_pos k with c | c
      · exact c
      · have : (xs.take k).length = 0 := by rw [c2]; rfl
        rw [List.length_take] at this
        simp at h1
        omega
    subst k0
    have := h3 (by omega)
    simp at this
    exact this c1
theorem sp_take : ∀ (xs : List Int), ∃ k, k ≤ xs.length ∧ sp xs = xs.take k ∧ (∀ i, k ≤ i → i < xs.length → xs.getD i 0 = 48) ∧ (0 < k → xs.getD (k - 1) 0 ≠ 48)
  | [] => ⟨0, by simp, by simp [sp], fun i _ h => by simp at h, fun h => by omega⟩
  | x :: xs => by
    obtain ⟨k, a, b, c, e⟩ := sp_take xs
    by_cases h : x = 48 ∧ sp xs = []
    · refine ⟨0, by omega, by rw [sp, if_pos h]; rfl, fun i _ hi => ?_, fun h => by omega⟩
      have k0 : k = 0 := by
        rcases Nat.eq_zero_or_pos k with q | q
        · exact q
        · have : (xs.take k).length = 0 := by rw [← b, h.2]; rfl
          rw [List.length_take] at this
          omega
      cases i with
      | zero => simpa using h.1
      | succ i => have := c i (by omega) (by simpa using hi); simpa using this
    · refine ⟨k + 1, by simp; omega, by rw [sp, if_neg h, b, List.take_succ_cons], fun i h1 hi => ?_, fun _ => ?_⟩
      · cases i with
        | zero => omega
        | succ i => have := c i (by omega) (by simpa using hi); simpa using this
      · cases k with
        | zero =>
          rw [List.take_zero] at b
          simp
          intro q
          exact h ⟨q, b⟩
        | succ k => have := e (by omega); simpa using this
theorem sp_len (xs : List Int) : (sp xs).length ≤ xs.length := by
  obtain ⟨k, a, b, _⟩ := sp_take xs
  rw [b, List.length_take]; omega
theorem sp_mem {xs : List Int} {x : Int} (h : x ∈ sp xs) : x ∈ xs := by
  obtain ⟨k, a, b, _⟩ := sp_take xs
  rw [b] at h
  exact List.mem_of_mem_take h
theorem st_len (h : Bool) (xs : List Int) : (st h xs).length ≤ xs.length := by unfold st; split; exact Nat.le_refl _; exact sp_len xs
theorem st_mem {h : Bool} {xs : List Int} {x : Int} (k : x ∈ st h xs) : x ∈ xs := by
  unfold st at k; split at k
  · exact k
  · exact sp_mem k

/-- Digits as bytes. -/
theorem digs_by {xs : List Int} (h : Digs xs) : Wh.By xs := fun x hx => by have := h x hx; omega
theorem digs_take {xs : List Int} (h : Digs xs) (k : Nat) : Digs (xs.take k) := fun x hx => h x (List.mem_of_mem_take hx)
theorem digs_drop {xs : List Int} (h : Digs xs) (k : Nat) : Digs (xs.drop k) := fun x hx => h x (List.mem_of_mem_drop hx)
theorem digs_st {xs : List Int} (b : Bool) (h : Digs xs) : Digs (st b xs) := fun x hx => h x (st_mem hx)

/-- What Places and Figures tell of a finite double. -/
structure PlF (d n : Int) : Prop where
  ok : Fx.rf d n 0 = 0
  a : Digs (Fx.pA d n)
  b : Digs (Fx.pB d n)
  ane : Fx.pA d n ≠ []
  la : (Fx.pA d n).length ≤ 6000
  lb : ((Fx.pB d n).length : Int) = n
theorem plF {d n : Int} (hf : Ie.fnt d = true) (h0 : 0 ≤ n) (h1 : n ≤ 4200) : PlF d n := by
  have r : Fx.rf d n 0 = 0 := Fx.rf_zero.2 ⟨hf, h0, h1⟩
  have wl := Fx.W_len d n.toNat
  have wd := Fx.W_digs hf n.toNat
  have wr := Fx.dv_W_room hf (n := n.toNat) (by omega)
  refine ⟨r, ?_, ?_, ?_, ?_, ?_⟩
  · rw [Fx.pA, if_pos r]; exact digs_take wd _
  · rw [Fx.pB, if_pos r]; exact digs_drop wd _
  · rw [Fx.pA, if_pos r]
    intro c
    have : ((Fx.W d n.toNat).take ((Fx.W d n.toNat).length - n.toNat)).length = 0 := by rw [c]; rfl
    rw [List.length_take] at this
    omega
  · rw [Fx.pA, if_pos r, List.length_take]; omega
  · rw [Fx.pB, if_pos r, List.length_drop]; omega

structure FgF (d n : Int) : Prop where
  ok : Fx.rf d n 1 = 0
  s : Digs (Fx.gS d n)
  len : ((Fx.gS d n).length : Int) = n
  lo : -324 ≤ Fx.gK d n
  hi : Fx.gK d n ≤ 308
theorem fgF {d n : Int} (hf : Ie.fnt d = true) (h0 : 1 ≤ n) (h1 : n ≤ 4200) : FgF d n := by
  obtain ⟨k, rfl⟩ := Int.eq_ofNat_of_zero_le (show 0 ≤ n by omega)
  have r : Fx.rf d k 1 = 0 := Fx.rf_zero.2 ⟨hf, h0, h1⟩
  rcases (show Ie.dm d = 0 ∨ 0 < Ie.dm d by have := (Ie.fdec d (of_decide_eq_true hf)).1; omega) with c | c
  · obtain ⟨a, b⟩ := Fx.fig_zero hf c (k := k) (by omega) (by omega)
    refine ⟨r, ?_, by rw [a]; simp, by omega, by omega⟩
    rw [a]
    intro x hx
    have := List.eq_of_mem_replicate hx
    omega
  · obtain ⟨a, b, _, e, f, _⟩ := Fx.fig_facts hf c (k := k) (by omega) (by omega)
    exact ⟨r, b, by rw [a], e, f⟩

/-- An exponent's digits. -/
theorem dig3 {v : Int} (h0 : 0 < v) (h1 : v < 1000) : Wh.dig 10 false v = lets (lettersOf false) (Dn.strip (Dn.dg 10 3 v)) := by
  have hz : Nm.Limbs [v] := by intro x hx; simp at hx; omega
  have hv : Nm.val [v] = v := by simp [Nm.val]
  have ts : Nm.tsize [v] ≤ 1 := by have := Nm.tsize_le [v]; simpa using this
  have tp : 0 < Nm.tsize [v] := by have := Nm.tsize_zero_iff hz; omega
  have q := Wh.dig_is (up := false) (B := 10) hz (by rw [hv]; exact h0) (by omega) (by omega) (by omega) (InIs.ok (up := false) 3 tp (by omega) (by omega) (by omega) (by rw [hv]; exact h1))
  rw [hv] at q
  exact q.1.symm
set_option maxRecDepth 100000 in
theorem xdig {v : Int} (h0 : 0 ≤ v) (h1 : v ≤ 400) : Wh.fil 2 (Wh.dig 10 false v) = Fx.tx (if v < 100 then 2 else 3) v := by
  rcases (show v = 0 ∨ 0 < v by omega) with c | c
  · subst c; decide
  · rw [dig3 c (by omega)]
    have key : ∀ t : Fin 401, 0 < t.val → Wh.fil 2 (lets (lettersOf false) (Dn.strip (Dn.dg 10 3 (t.val : Int)))) = Fx.tx (if (t.val : Int) < 100 then 2 else 3) (t.val : Int) := by decide +kernel
    have := key ⟨v.toNat, by omega⟩ (by simp; omega)
    simp only at this
    rw [show ((v.toNat : Nat) : Int) = v by omega] at this
    exact this
theorem xd_is {k : Int} (h0 : -400 ≤ k) (h1 : k ≤ 400) : xd k = (if k < 0 then 45 else 43) :: Fx.tx (if max k (-k) < 100 then 2 else 3) (max k (-k)) := by
  rw [xd, xdig (by omega) (by omega)]
theorem xd_len {k : Int} (h0 : -400 ≤ k) (h1 : k ≤ 400) : (xd k).length ≤ 4 := by
  rw [xd_is h0 h1, List.length_cons, Fx.tx_len]; split <;> omega
theorem xd_by (k : Int) : Wh.By (xd k) := by
  unfold xd
  exact Wh.By.cons (by split <;> omega) (Wh.fil_by (Wh.dig_by _ _ _))
theorem ex_by (V k : Int) : Wh.By (ex V k) := by
  unfold ex
  exact Wh.By.cons (by split <;> omega) (xd_by k)
theorem ex_len {V k : Int} (h0 : -400 ≤ k) (h1 : k ≤ 400) : (ex V k).length ≤ 5 := by
  rw [ex, List.length_cons]; have := xd_len h0 h1; omega
theorem wrt_by {a b p : List Int} {h : Bool} (ha : Wh.By a) (hb : Wh.By b) (hp : Wh.By p) : Wh.By (wrt a b p h) := by
  unfold wrt
  split
  · exact ha.app hp
  · exact ha.app (Wh.By.cons (by omega) (hb.app hp))
theorem wrt_len (a b p : List Int) (h : Bool) : (wrt a b p h).length ≤ a.length + b.length + p.length + 1 := by
  unfold wrt
  split <;> simp <;> omega

/-- The body of a finite double is short, and made of bytes. -/
theorem bd_ok {V P d : Int} (h : Bool) (hf : Ie.fnt d = true) (p0 : -1 ≤ P) (p1 : P ≤ 4096) : Wh.By (bd V h P d) ∧ (bd V h P d).length ≤ 20000 := by
  obtain ⟨q0, q1⟩ := pr_bd p0 p1
  unfold bd
  split
  · have k := plF hf q0 (by omega)
    refine ⟨wrt_by (digs_by k.a) (digs_by k.b) Wh.By.nil, ?_⟩
    have := wrt_len (Fx.pA d (pr P)) (Fx.pB d (pr P)) [] h
    have := k.la
    have := k.lb
    simp only [List.length_nil, bdF] at *
    omega
  · split
    · have k := fgF hf (n := pr P + 1) (by omega) (by omega)
      refine ⟨wrt_by (digs_by (digs_take k.s _)) (digs_by (digs_drop k.s _)) (ex_by _ _), ?_⟩
      have := wrt_len ((Fx.gS d (pr P + 1)).take 1) ((Fx.gS d (pr P + 1)).drop 1) (ex V (Fx.gK d (pr P + 1))) h
      have := k.len
      have := ex_len (V := V) (k := Fx.gK d (pr P + 1)) (by have := k.lo; omega) (by have := k.hi; omega)
      simp only [bdE, List.length_take, List.length_drop] at *
      omega
    · have k := fgF hf (n := max (pr P) 1) (by omega) (by omega)
      unfold bdG
      split
      · rename_i g
        have j := plF hf (n := max (pr P) 1 - 1 - Fx.gK d (max (pr P) 1)) (by omega) (by omega)
        refine ⟨wrt_by (digs_by j.a) (digs_by (digs_st h j.b)) Wh.By.nil, ?_⟩
        have := wrt_len (Fx.pA d (max (pr P) 1 - 1 - Fx.gK d (max (pr P) 1))) (st h (Fx.pB d (max (pr P) 1 - 1 - Fx.gK d (max (pr P) 1)))) [] h
        have := j.la
        have := j.lb
        have := st_len h (Fx.pB d (max (pr P) 1 - 1 - Fx.gK d (max (pr P) 1)))
        simp only [List.length_nil] at *
        omega
      · refine ⟨wrt_by (digs_by (digs_take k.s _)) (digs_by (digs_st h (digs_drop k.s _))) (ex_by _ _), ?_⟩
        have := wrt_len ((Fx.gS d (max (pr P) 1)).take 1) (st h ((Fx.gS d (max (pr P) 1)).drop 1)) (ex V (Fx.gK d (max (pr P) 1))) h
        have := st_len h ((Fx.gS d (max (pr P) 1)).drop 1)
        have := k.len
        have := ex_len (V := V) (k := Fx.gK d (max (pr P) 1)) (by have := k.lo; omega) (by have := k.hi; omega)
        simp only [List.length_take, List.length_drop] at *
        omega
theorem nm_by (c : Bool) (k : Int) : Wh.By (nm c k) := by
  unfold nm
  cases c <;> (split <;> first | (intro x hx; simp at hx; omega) | (split <;> first | (intro x hx; simp at hx; omega) | exact Wh.By.nil))
theorem nm_len (c : Bool) (k : Int) : (nm c k).length ≤ 3 := by
  unfold nm
  split
  · split <;> simp
  · split
    · split <;> simp
    · simp
end Po
end Go.Proofs.YtiflponlioldmaaGreatDoor

/-
  Doubles as numbers: mantissa, exponent, middles; what it is to be rounded.
-/
namespace Go.Proofs.YtiflponlioldmaaGreatDoor
namespace Ie

/-- The mantissa of the double x (its bits, no sign). -/
def man (x : Int) : Int := if x < 4503599627370496 then x else 4503599627370496 + x % 4503599627370496

/-- Its exponent and 1074. -/
def ex (x : Int) : Nat := (x / 4503599627370496 - 1).toNat

/-- Its value, in units of 2^-1075. -/
def vl (x : Int) : Int := 2 * man x * 2 ^ ex x

/-- The middle between it and the next one. -/
def md (x : Int) : Int := (2 * man x + 1) * 2 ^ ex x

theorem md_eq (x : Int) : md x = vl x + 2 ^ ex x := by rw [md, vl, Int.add_mul, Int.one_mul]

theorem vl_lt_md (x : Int) : vl x < md x := by have := md_eq x; have := Nm.two_pos (ex x); omega

theorem vl_succ (x : Int) (h : 0 ≤ x) : vl (x + 1) = vl x + 2 * 2 ^ ex x := by
  have hp := Nm.two_pos (ex x)
  by_cases h1 : x + 1 < 4503599627370496
  · have e : ex (x + 1) = ex x := by simp only [ex]; omega
    rw [vl, e, vl, man, man, if_pos h1, if_pos (by omega), Int.mul_add, Int.add_mul]
    omega
  · by_cases h2 : x < 4503599627370496
    · have hx : x = 4503599627370495 := by omega
      subst hx
      decide
    · by_cases h3 : x % 4503599627370496 = 4503599627370495
      · have e : ex (x + 1) = ex x + 1 := by simp only [ex]; omega
        have m : (x + 1) % 4503599627370496 = 0 := by omega
        rw [vl, e, vl, man, man, if_neg h1, if_neg h2, m, h3, Nm.two_succ]
        omega
      · have e : ex (x + 1) = ex x := by simp only [ex]; omega
        have m : (x + 1) % 4503599627370496 = x % 4503599627370496 + 1 := by omega
        rw [vl, e, vl, man, man, if_neg h1, if_neg h2, m, Int.mul_add, Int.mul_add, Int.mul_add, Int.add_mul, Int.add_mul, Int.add_mul]
        omega

theorem md_lt_vl (x : Int) (h : 0 ≤ x) : md x < vl (x + 1) := by
  have := md_eq x; have := vl_succ x h; have := Nm.two_pos (ex x); omega

theorem vl_mono (x : Int) (h : 0 ≤ x) : ∀ k : Nat, vl x ≤ vl (x + k)
  | 0 => by simp
  | k + 1 => by
    have := vl_mono x h k
    have h1 := vl_succ (x + k) (by omega)
    have := Nm.two_pos (ex (x + k))
    have e : x + ((k + 1 : Nat) : Int) = x + (k : Int) + 1 := by omega
    rw [e]
    omega

theorem vl_le {x y : Int} (h : 0 ≤ x) (hxy : x ≤ y) : vl x ≤ vl y := by
  have := vl_mono x h (y - x).toNat
  rwa [show x + ((y - x).toNat : Int) = y by omega] at this

theorem md_lt {x y : Int} (h : 0 ≤ x) (hxy : x < y) : md x < md y := by
  have := md_lt_vl x h
  have := vl_le (x := x + 1) (y := y) (by omega) (by omega)
  have := vl_lt_md y
  omega

theorem man_nn (x : Int) (h : 0 ≤ x) : 0 ≤ man x ∧ man x < 9007199254740992 := by
  simp only [man]; split <;> omega

theorem vl_zero : vl 0 = 0 := by decide
theorem md_zero : md 0 = 1 := by decide
/-- The double x is what the number P / Q (in units of 2^-1075) is rounded to; more: a trifle above. -/
def Near (P Q : Int) (more : Bool) (x : Int) : Prop :=
  (0 ≤ x ∧ x ≤ 9218868437227405312) ∧ (0 < x → md (x - 1) * Q < P ∨ (md (x - 1) * Q = P ∧ (x % 2 = 0 ∨ more = true))) ∧
    (x < 9218868437227405312 → P < md x * Q ∨ (P = md x * Q ∧ x % 2 = 0 ∧ more = false))

theorem Near.mono {P Q P' Q' : Int} {m m' : Bool} {x y : Int} (hQ : 0 < Q) (hQ' : 0 < Q') (h : Near P Q m x) (h' : Near P' Q' m' y) (hv : P * Q' < P' * Q ∨ (P * Q' = P' * Q ∧ (m = true → m' = true))) : x ≤ y := by
  rcases (show y < x ∨ x ≤ y by omega) with hl | hl
  · exfalso
    have h1 := h.2.1 (by have := h'.1.1; omega)
    have h2 := h'.2.2 (by have := h.1.2; omega)
    have a1 : md (x - 1) * Q ≤ P := by rcases h1 with h | h <;> omega
    have a2 : P' ≤ md y * Q' := by rcases h2 with h | h <;> omega
    have b1 : md (x - 1) * Q * Q' ≤ P * Q' := Int.mul_le_mul_of_nonneg_right a1 (by omega)
    have b2 : P' * Q ≤ md y * Q' * Q := Int.mul_le_mul_of_nonneg_right a2 (by omega)
    have c1 : md (x - 1) * Q * Q' = md (x - 1) * (Q * Q') := Int.mul_assoc _ _ _
    have c2 : md y * Q' * Q = md y * (Q * Q') := by rw [Int.mul_assoc, Int.mul_comm Q' Q]
    have hq := Int.mul_pos hQ hQ'
    by_cases hxy : x - 1 = y
    · rw [hxy] at a1 b1 c1 h1
      have e1 : P * Q' = P' * Q := by rcases hv with h | h <;> omega
      have e2 : md y * (Q * Q') = P * Q' := by omega
      have e3 : md y * Q = P := by
        rcases h1 with h | h
        · have := Int.mul_lt_mul_of_pos_right h hQ'
          omega
        · exact h.1
      have e4 : P' = md y * Q' := by
        rcases h2 with h | h
        · have := Int.mul_lt_mul_of_pos_right h hQ
          omega
        · exact h.1
      rcases h1 with h | ⟨_, h⟩
      · omega
      · rcases h2 with h2 | ⟨_, h2, h3⟩
        · omega
        · rcases h with h | h
          · omega
          · rcases hv with hv | ⟨_, hv⟩
            · omega
            · rw [hv h] at h3; cases h3
    · have := md_lt h'.1.1 (show y < x - 1 by omega)
      have := Int.mul_lt_mul_of_pos_right this hq
      rcases hv with h | h <;> omega
  · exact hl

theorem Near.one {P Q P' Q' : Int} {m : Bool} {x y : Int} (hQ : 0 < Q) (hQ' : 0 < Q') (h : Near P Q m x) (h' : Near P' Q' m y) (hv : P * Q' = P' * Q) : x = y := by
  have h1 := h.mono hQ hQ' h' (.inr ⟨hv, id⟩)
  have h2 := h'.mono hQ' hQ h (.inr ⟨hv.symm, id⟩)
  omega

/-- How the mantissa m at the exponent U - 1074, and what the bits below say, make a double. -/
theorem near_of (P Q : Int) (more : Bool) (m : Int) (U : Nat) (hQ : 0 < Q) (h0 : 0 ≤ m) (h1 : m < 9007199254740992) (hU : 0 < U → 4503599627370496 ≤ m) (hU2 : U ≤ 2045)
    (lo : 2 * m * 2 ^ U * Q ≤ P) (hi : P < (2 * m + 2) * 2 ^ U * Q) (up : Bool)
    (hup : up = true → (2 * m + 1) * 2 ^ U * Q < P ∨ ((2 * m + 1) * 2 ^ U * Q = P ∧ (m % 2 = 1 ∨ more = true)))
    (hno : up = false → P < (2 * m + 1) * 2 ^ U * Q ∨ (P = (2 * m + 1) * 2 ^ U * Q ∧ m % 2 = 0 ∧ more = false)) :
    Near P Q more ((U : Int) * 4503599627370496 + m + if up = true then 1 else 0) := by
  obtain ⟨x, hx⟩ : ∃ x : Int, x = (U : Int) * 4503599627370496 + m := ⟨_, rfl⟩
  rw [← hx]
  have hm : man x = m := by
    simp only [man]
    split
    · rcases Nat.eq_zero_or_pos U with h | h
      · subst h; omega
      · have := hU h; omega
    · rcases Nat.eq_zero_or_pos U with h | h
      · subst h; omega
      · have := hU h; omega
  have he : ex x = U := by
    simp only [ex]
    rcases Nat.eq_zero_or_pos U with h | h
    · subst h; omega
    · have := hU h; omega
  have x0 : 0 ≤ x := by omega
  have hmd : md x = (2 * m + 1) * 2 ^ U := by rw [md, hm, he]
  have hvl : vl x = 2 * m * 2 ^ U := by rw [vl, hm, he]
  have hvs : vl (x + 1) = (2 * m + 2) * 2 ^ U := by rw [vl_succ x x0, hvl, he, Int.add_mul]
  cases up
  · have := hno rfl
    simp only [Bool.false_eq_true, if_false, Int.add_zero]
    refine ⟨⟨x0, by omega⟩, fun hp => .inl ?_, fun _ => ?_⟩
    · have h2 := md_lt_vl (x - 1) (by omega)
      rw [show x - 1 + 1 = x by omega] at h2
      have := Int.mul_lt_mul_of_pos_right h2 hQ
      rw [hvl] at this
      omega
    · rw [hmd]
      rcases this with h | ⟨h, h', h''⟩
      · exact .inl h
      · exact .inr ⟨h, by omega, h''⟩
  · have := hup rfl
    simp only [if_true]
    refine ⟨⟨by omega, by omega⟩, fun hp => ?_, fun _ => .inl ?_⟩
    · rw [show x + 1 - 1 = x by omega, hmd]
      rcases this with h | ⟨h, h'⟩
      · exact .inl h
      · refine .inr ⟨h, ?_⟩
        rcases h' with h' | h'
        · left; omega
        · exact .inr h'
    · have h2 := vl_lt_md (x + 1)
      have := Int.mul_lt_mul_of_pos_right h2 hQ
      rw [hvs] at this
      omega

/-- n * 2^e rounds to x. -/
def Rnd (n d e : Int) (more : Bool) (x : Int) : Prop := ∀ a b : Nat, (a : Int) - b = e + 1075 → Near (n * 2 ^ a) (d * 2 ^ b) more x

theorem md_last : md 9218868437227405311 = 18014398509481983 * 2 ^ 2045 := by
  have h1 : man 9218868437227405311 = 9007199254740991 := by decide
  have h2 : ex 9218868437227405311 = 2045 := by decide
  rw [md, h1, h2]
  rfl

theorem rnd_zero (d e : Int) (more : Bool) (hd : 0 < d) : Rnd 0 d e more 0 := by
  intro a b h
  refine ⟨⟨by omega, by omega⟩, fun h => absurd h (by omega), fun _ => .inl ?_⟩
  rw [Int.zero_mul, md_zero, Int.one_mul]
  exact Int.mul_pos hd (Nm.two_pos b)

/-- So great that it is infinity. -/
theorem rnd_inf (n d e : Int) (L M : Nat) (more : Bool) (hn : 2 ^ L ≤ n) (hd : d ≤ 2 ^ M) (he : 1024 ≤ (L : Int) - M + e) : Rnd n d e more 9218868437227405312 := by
  intro a b h
  refine ⟨⟨by omega, by omega⟩, fun _ => .inl ?_, fun h => absurd h (by omega)⟩
  rw [show (9218868437227405312 : Int) - 1 = 9218868437227405311 by omega, md_last]
  have h1 : (2 : Int) ^ (L + a) ≤ n * 2 ^ a := by rw [Nm.two_add]; exact Int.mul_le_mul_of_nonneg_right hn (by have := Nm.two_pos a; omega)
  have h2 : d * 2 ^ b ≤ 2 ^ (M + b) := by rw [Nm.two_add]; exact Int.mul_le_mul_of_nonneg_right hd (by have := Nm.two_pos b; omega)
  have h3 : (18014398509481983 : Int) * 2 ^ 2045 * (d * 2 ^ b) ≤ 18014398509481983 * 2 ^ 2045 * 2 ^ (M + b) :=
    Int.mul_le_mul_of_nonneg_left h2 (Int.mul_nonneg (by omega) (by have := Nm.two_pos 2045; omega))
  have h4 : (2 : Int) ^ (54 + (2045 + (M + b))) ≤ 2 ^ (L + a) := Nm.two_mono (by omega)
  rw [Nm.two_add 54, Nm.two_add 2045] at h4
  rw [Int.mul_assoc 18014398509481983 (2 ^ 2045) (2 ^ (M + b))] at h3
  have h5 := Int.mul_pos (Nm.two_pos 2045) (Nm.two_pos (M + b))
  have h6 : (2 : Int) ^ 54 = 18014398509481984 := by decide
  rw [h6] at h4
  generalize (2 : Int) ^ 2045 * 2 ^ (M + b) = z at h3 h4 h5
  omega

theorem Rnd.at {n d e : Int} {more : Bool} {x : Int} (h : Rnd n d e more x) : ∃ a b : Nat, (a : Int) - b = e + 1075 ∧ Near (n * 2 ^ a) (d * 2 ^ b) more x := by
  refine ⟨(e + 1075).toNat, (-(e + 1075)).toNat, by omega, h _ _ (by omega)⟩

theorem Rnd.bd {n d e : Int} {more : Bool} {x : Int} (h : Rnd n d e more x) : 0 ≤ x ∧ x ≤ 9218868437227405312 := by
  obtain ⟨a, b, _, h⟩ := h.at
  exact h.1

theorem Rnd.of {n d e : Int} {more : Bool} {x : Int} {a b : Nat} (h : (a : Int) - b = e + 1075) (hn : Near (n * 2 ^ a) (d * 2 ^ b) more x) : Rnd n d e more x := by
  intro a' b' h'
  have e1 : (2 : Int) ^ a * 2 ^ b' = 2 ^ a' * 2 ^ b := by rw [← Nm.two_add, ← Nm.two_add]; congr 1; omega
  have hb := Nm.two_pos b
  have hb' := Nm.two_pos b'
  have key : ∀ y : Int, (y * (d * 2 ^ b') < n * 2 ^ a' ↔ y * (d * 2 ^ b) < n * 2 ^ a) ∧ (y * (d * 2 ^ b') = n * 2 ^ a' ↔ y * (d * 2 ^ b) = n * 2 ^ a) ∧ (n * 2 ^ a' < y * (d * 2 ^ b') ↔ n * 2 ^ a < y * (d * 2 ^ b)) := by
    intro y
    have f1 : y * (d * 2 ^ b') * 2 ^ b = y * d * (2 ^ b' * 2 ^ b) := by simp only [Int.mul_assoc]
    have f2 : y * (d * 2 ^ b) * 2 ^ b' = y * d * (2 ^ b' * 2 ^ b) := by rw [Int.mul_comm (2 ^ b') (2 ^ b)]; simp only [Int.mul_assoc]
    have f3 : n * 2 ^ a' * 2 ^ b = n * (2 ^ a' * 2 ^ b) := Int.mul_assoc _ _ _
    have f4 : n * 2 ^ a * 2 ^ b' = n * (2 ^ a' * 2 ^ b) := by rw [← e1, Int.mul_assoc]
    refine ⟨⟨fun g => ?_, fun g => ?_⟩, ⟨fun g => ?_, fun g => ?_⟩, ⟨fun g => ?_, fun g => ?_⟩⟩
    · have := Int.mul_lt_mul_of_pos_right g hb
      exact Int.lt_of_mul_lt_mul_right (a := 2 ^ b') (by omega) (by omega)
    · have := Int.mul_lt_mul_of_pos_right g hb'
      exact Int.lt_of_mul_lt_mul_right (a := 2 ^ b) (by omega) (by omega)
    · rw [g] at f1
      exact Int.eq_of_mul_eq_mul_right (a := 2 ^ b') (by omega) (by omega)
    · rw [g] at f2
      exact Int.eq_of_mul_eq_mul_right (a := 2 ^ b) (by omega) (by omega)
    · have := Int.mul_lt_mul_of_pos_right g hb
      exact Int.lt_of_mul_lt_mul_right (a := 2 ^ b') (by omega) (by omega)
    · have := Int.mul_lt_mul_of_pos_right g hb'
      exact Int.lt_of_mul_lt_mul_right (a := 2 ^ b) (by omega) (by omega)
  refine ⟨hn.1, fun hx => ?_, fun hx => ?_⟩
  · rcases hn.2.1 hx with g | ⟨g, g'⟩
    · exact .inl ((key _).1.2 g)
    · exact .inr ⟨(key _).2.1.2 g, g'⟩
  · rcases hn.2.2 hx with g | ⟨g, g'⟩
    · exact .inl ((key _).2.2.2 g)
    · exact .inr ⟨((key _).2.1.2 g.symm).symm, g'⟩

theorem Rnd.mono {n d e n' d' e' : Int} {m m' : Bool} {x y : Int} (hd : 0 < d) (hd' : 0 < d') (h : Rnd n d e m x) (h' : Rnd n' d' e' m' y) {a a' : Nat} (haa : (a : Int) - a' = e - e')
    (hv : n * d' * 2 ^ a < n' * d * 2 ^ a' ∨ (n * d' * 2 ^ a = n' * d * 2 ^ a' ∧ (m = true → m' = true))) : x ≤ y := by
  obtain ⟨p, q, hpq, hN⟩ := h'.at
  -- e' + 1075 = p - q; e + 1075 = p - q + a - a'
  have hN2 := h (p + a) (q + a') (by omega)
  have hp := Nm.two_pos p
  have hq := Nm.two_pos q
  have ha' := Nm.two_pos a'
  refine hN2.mono (Int.mul_pos hd (Nm.two_pos _)) (Int.mul_pos hd' hq) hN ?_
  have e1 : n * 2 ^ (p + a) * (d' * 2 ^ q) = n * d' * 2 ^ a * (2 ^ p * 2 ^ q) := by
    rw [Nm.two_add]; ac_rfl
  have e2 : n' * 2 ^ p * (d * 2 ^ (q + a')) = n' * d * 2 ^ a' * (2 ^ p * 2 ^ q) := by
    rw [Nm.two_add]; ac_rfl
  rw [e1, e2]
  rcases hv with g | ⟨g, g'⟩
  · exact .inl (Int.mul_lt_mul_of_pos_right g (Int.mul_pos hp hq))
  · exact .inr ⟨by rw [g], g'⟩

theorem Rnd.one {n d e n' d' e' : Int} {m : Bool} {x y : Int} (hd : 0 < d) (hd' : 0 < d') (h : Rnd n d e m x) (h' : Rnd n' d' e' m y) {a a' : Nat} (haa : (a : Int) - a' = e - e')
    (hv : n * d' * 2 ^ a = n' * d * 2 ^ a') : x = y := by
  have h1 := h.mono hd hd' h' haa (.inr ⟨hv, id⟩)
  have h2 := h'.mono hd' hd h (a := a') (a' := a) (by omega) (.inr ⟨hv.symm, id⟩)
  omega

/-- A number that is exact at its mantissa. -/
theorem rnd_exact (n e : Int) (L j U : Nat) (more : Bool) (hn : 0 < n) (h1 : 2 ^ (L - 1) ≤ n) (hl : 1 ≤ L) (h2 : n < 2 ^ L) (hj : L + j ≤ 53) (hU : 0 < U → L + j = 53) (hU2 : U ≤ 2045) (he : (j : Int) + U = e + 1074) :
    Rnd n 1 e more ((U : Int) * 4503599627370496 + n * 2 ^ j) := by
  intro a b hab
  have e53 : (2 : Int) ^ 53 = 9007199254740992 := by decide
  have e52 : (2 : Int) ^ 52 = 4503599627370496 := by decide
  have hp := Nm.two_pos j
  have hb := Nm.two_pos b
  have m0 : 0 < n * 2 ^ j := Int.mul_pos hn hp
  have m1 : n * 2 ^ j < 9007199254740992 := by
    have g1 : n * 2 ^ j < 2 ^ (L + j) := by rw [Nm.two_add]; exact Int.mul_lt_mul_of_pos_right h2 hp
    have g2 := Nm.two_mono hj
    omega
  have m2 : 0 < U → 4503599627370496 ≤ n * 2 ^ j := by
    intro h
    have g1 : (2 : Int) ^ (L - 1 + j) ≤ n * 2 ^ j := by rw [Nm.two_add]; exact Int.mul_le_mul_of_nonneg_right h1 (by omega)
    rw [show L - 1 + j = 52 by have := hU h; omega] at g1
    omega
  have key : n * 2 ^ a = 2 * (n * 2 ^ j) * 2 ^ U * (1 * 2 ^ b) := by
    rw [show a = 1 + (j + (U + b)) by omega, Nm.two_add, Nm.two_add, Nm.two_add, Int.one_mul, show (2 : Int) ^ 1 = 2 by rfl]
    ac_rfl
  have hw := Int.mul_pos (Nm.two_pos U) hb
  have := near_of (n * 2 ^ a) (1 * 2 ^ b) more (n * 2 ^ j) U (by omega) (by omega) m1 m2 hU2 (by omega)
    (by
      rw [key, Int.one_mul, Int.mul_assoc, Int.mul_assoc (2 * (n * 2 ^ j) + 2)]
      exact Int.mul_lt_mul_of_pos_right (by omega) hw) false (fun h => by cases h)
    (fun _ => .inl (by
      rw [key, Int.one_mul, Int.mul_assoc, Int.mul_assoc (2 * (n * 2 ^ j) + 1)]
      exact Int.mul_lt_mul_of_pos_right (by omega) hw))
  simpa using this

/-- A number whose k lowest bits are cut off. -/
theorem rnd_cut (n e : Int) (L k U : Nat) (more up : Bool) (hn : 0 < n) (h1 : 2 ^ (L - 1) ≤ n) (_hl : 1 ≤ L) (h2 : n < 2 ^ L) (hk : L ≤ k + 53) (hU : 0 < U → L = k + 53) (hU2 : U ≤ 2045) (he : (U : Int) = e + 1074 + k)
    (hup : up = true ↔ (1 ≤ k ∧ n / 2 ^ (k - 1) % 2 = 1 ∧ (more = true ∨ n / 2 ^ k % 2 = 1 ∨ n % 2 ^ (k - 1) ≠ 0))) :
    Rnd n 1 e more ((U : Int) * 4503599627370496 + n / 2 ^ k + if up = true then 1 else 0) := by
  intro a b hab
  have e53 : (2 : Int) ^ 53 = 9007199254740992 := by decide
  have e52 : (2 : Int) ^ 52 = 4503599627370496 := by decide
  have hp := Nm.two_pos k
  have hb := Nm.two_pos b
  have ha := Nm.two_pos a
  have dm := Int.mul_ediv_add_emod n (2 ^ k)
  have r0 := Int.emod_nonneg n (show (2 : Int) ^ k ≠ 0 by omega)
  have r1 := Int.emod_lt_of_pos n hp
  obtain ⟨m, hm⟩ : ∃ m, n / 2 ^ k = m := ⟨_, rfl⟩
  obtain ⟨r, hr⟩ : ∃ r, n % 2 ^ k = r := ⟨_, rfl⟩
  rw [hm, hr] at dm
  rw [hr] at r0 r1
  rw [hm]
  have m0 : 0 ≤ m := by rw [← hm]; exact Int.ediv_nonneg (by omega) (by omega)
  have m1 : m < 9007199254740992 := by
    rw [← hm, Int.ediv_lt_iff_lt_mul hp]
    have g := Nm.two_mono hk
    rw [Nm.two_add, e53] at g
    rw [Int.mul_comm]
    omega
  have m2 : 0 < U → 4503599627370496 ≤ m := by
    intro h
    rw [← hm, Int.le_ediv_iff_mul_le hp]
    rw [show L - 1 = 52 + k by have := hU h; omega, Nm.two_add, e52] at h1
    exact h1
  have hw := Int.mul_pos (Nm.two_pos U) hb
  have ka : (2 : Int) ^ k * 2 ^ a = 2 * (2 ^ U * 2 ^ b) := by
    rw [← Nm.two_add, ← Nm.two_add, ← Nm.two_succ]; congr 1; omega
  have fl : n * 2 ^ a = m * (2 * (2 ^ U * 2 ^ b)) + r * 2 ^ a := by
    rw [← ka, ← dm, Int.add_mul, Int.mul_comm (2 ^ k) m, Int.mul_assoc]
  have rr : 0 ≤ r * 2 ^ a := Int.mul_nonneg r0 (by omega)
  have rl : r * 2 ^ a < 2 * (2 ^ U * 2 ^ b) := by rw [← ka]; exact Int.mul_lt_mul_of_pos_right r1 ha
  have x1 : ∀ c : Int, (2 * m + c) * 2 ^ U * (1 * 2 ^ b) = m * (2 * (2 ^ U * 2 ^ b)) + c * (2 ^ U * 2 ^ b) := by
    intro c
    rw [Int.one_mul, Int.mul_assoc, Int.add_mul, Int.mul_comm 2 m, Int.mul_assoc]
  have half : (1 ≤ k ∧ ∃ s t : Int, n / 2 ^ (k - 1) % 2 = s ∧ n % 2 ^ (k - 1) = t ∧ (s = 0 ∨ s = 1) ∧ 0 ≤ t ∧ r * 2 ^ a = s * (2 ^ U * 2 ^ b) + t * 2 ^ a ∧ t * 2 ^ a < 2 ^ U * 2 ^ b) ∨ (k = 0 ∧ r = 0) := by
    rcases Nat.eq_zero_or_pos k with h | h
    · right
      refine ⟨h, ?_⟩
      subst h
      have : (2 : Int) ^ 0 = 1 := rfl
      omega
    · left
      have hq := Nm.two_pos (k - 1)
      have dq := Int.mul_ediv_add_emod n (2 ^ (k - 1))
      have ds : n / 2 ^ (k - 1) / 2 = m := by
        rw [Int.ediv_ediv_of_nonneg (by omega), ← hm]
        congr 1
        rw [Int.mul_comm, ← Nm.two_succ]; congr 1; omega
      have kk : (2 : Int) ^ (k - 1) * 2 ^ a = 2 ^ U * 2 ^ b := by
        rw [← Nm.two_add, ← Nm.two_add]; congr 1; omega
      have t0 := Int.emod_nonneg n (show (2 : Int) ^ (k - 1) ≠ 0 by omega)
      have t1 := Int.emod_lt_of_pos n hq
      refine ⟨h, _, _, rfl, rfl, by omega, t0, ?_, ?_⟩
      · generalize n % 2 ^ (k - 1) = t at *
        obtain ⟨y, hy⟩ : ∃ y, n / 2 ^ (k - 1) = y := ⟨_, rfl⟩
        rw [hy] at dq ds ⊢
        have hy2 : y = 2 * m + y % 2 := by omega
        have : n * 2 ^ a = (2 * m + y % 2) * (2 ^ U * 2 ^ b) + t * 2 ^ a := by
          rw [← hy2, ← kk, ← dq, Int.add_mul, Int.mul_comm (2 ^ (k - 1)) y, Int.mul_assoc]
        rw [fl, Int.add_mul, Int.mul_comm 2 m, Int.mul_assoc] at this
        omega
      · rw [← kk]; exact Int.mul_lt_mul_of_pos_right t1 ha
  have hx0 := x1 0
  rw [Int.add_zero, Int.zero_mul, Int.add_zero] at hx0
  refine near_of (n * 2 ^ a) (1 * 2 ^ b) more m U (by omega) m0 m1 m2 hU2 (by rw [hx0, fl]; omega) (by rw [x1, fl]; omega) up ?_ ?_
  · intro h
    obtain ⟨g0, g1, g2⟩ := hup.1 h
    rcases half with ⟨_, s, t, hs, ht, _, t0, ht2, _⟩ | ⟨h, _⟩
    · rw [hs] at g1
      rw [ht, hm] at g2
      rw [x1, fl, ht2, g1]
      rcases (show t = 0 ∨ 0 < t by omega) with h0 | h0
      · refine .inr ⟨by rw [h0]; omega, ?_⟩
        rcases g2 with g | g | g
        · exact .inr g
        · exact .inl g
        · exact absurd h0 g
      · have := Int.mul_pos h0 ha
        left; omega
    · omega
  · intro h
    have hn' : ¬ _ := fun g => by rw [hup.2 g] at h; cases h
    rcases half with ⟨hk1, s, t, hs, ht, hs2, t0, ht2, ht3⟩ | ⟨h, h'⟩
    · rw [hs, ht, hm] at hn'
      rw [x1, fl, ht2]
      rcases hs2 with rfl | rfl
      · left; omega
      · right
        have : ¬ (more = true ∨ m % 2 = 1 ∨ t ≠ 0) := fun g => hn' ⟨hk1, rfl, g⟩
        have f1 : t = 0 := by
          rcases (show t = 0 ∨ t ≠ 0 by omega) with h | h
          · exact h
          · exact absurd (.inr (.inr h)) this
        have f2 : m % 2 = 0 := by
          rcases (show m % 2 = 0 ∨ m % 2 = 1 by omega) with h | h
          · exact h
          · exact absurd (.inr (.inl h)) this
        refine ⟨by rw [f1]; omega, f2, ?_⟩
        cases more
        · rfl
        · exact absurd (.inl rfl) this
    · left
      rw [x1, fl, h']
      omega

theorem Rnd.num {n d e x : Int} {more : Bool} (s : Nat) (h : Rnd (n * 2 ^ s) d (e - s) more x) : Rnd n d e more x := by
  obtain ⟨a, b, hab, hN⟩ := h.at
  rw [Int.mul_assoc, ← Nm.two_add] at hN
  exact Rnd.of (a := s + a) (b := b) (by omega) hN

end Ie
end Go.Proofs.YtiflponlioldmaaGreatDoor

/-
  Doubles as numbers: what the laws need.
-/
namespace Go.Proofs.YtiflponlioldmaaGreatDoor
namespace Ie

theorem Rnd.next {n d e x u : Int} (hd : 0 < d) (h : Rnd n d e false x) (h' : Rnd n d e true u) : u = x ∨ u = x + 1 := by
  have h1 : x ≤ u := h.mono hd hd h' (a := 0) (a' := 0) (by omega) (.inr ⟨rfl, fun h => by cases h⟩)
  rcases (show u ≤ x + 1 ∨ x + 1 < u by omega) with h2 | h2
  · omega
  · exfalso
    obtain ⟨a, b, hab, hN⟩ := h.at
    have hN' := h' a b hab
    have g1 := hN.2.2 (by have := hN'.1.2; omega)
    have g2 := hN'.2.1 (by have := hN.1.1; omega)
    have g3 := Int.mul_lt_mul_of_pos_right (md_lt hN.1.1 (show x < u - 1 by omega)) (Int.mul_pos hd (Nm.two_pos b))
    rcases g1 with g | g <;> rcases g2 with g' | g' <;> omega

/-- A number that is a double is rounded to it. -/
theorem rnd_vl (n e x : Int) (more : Bool) (a b : Nat) (hab : (a : Int) - b = e + 1075) (h0 : 0 ≤ x) (h1 : x < 9218868437227405312) (h : n * 2 ^ a = vl x * 2 ^ b) : Rnd n 1 e more x := by
  refine Rnd.of hab ?_
  have hb := Nm.two_pos b
  rw [h, Int.one_mul]
  refine ⟨⟨h0, by omega⟩, fun hx => .inl ?_, fun _ => .inl ?_⟩
  · have := md_lt_vl (x - 1) (by omega)
    rw [show x - 1 + 1 = x by omega] at this
    exact Int.mul_lt_mul_of_pos_right this hb
  · exact Int.mul_lt_mul_of_pos_right (vl_lt_md x) hb

theorem vl_nn {x : Int} (hx : 0 ≤ x) : 0 ≤ vl x := by
  have := vl_le (x := 0) (y := x) (by omega) hx
  rw [vl_zero] at this
  exact this

/-- Whole numbers up to 2^53 are doubles. -/
theorem whole_ex (W : Int) (L : Nat) (h0 : 0 ≤ W) (hL : (0 < W → 1 ≤ L ∧ 2 ^ (L - 1) ≤ W) ∧ W < 2 ^ L) (h1 : W ≤ 9007199254740992) : ∃ x, 0 ≤ x ∧ x < 9218868437227405312 ∧ vl x = W * 2 ^ 1075 := by
  rcases (show W = 0 ∨ 0 < W by omega) with h | h
  · exact ⟨0, by omega, by omega, by rw [h, vl_zero, Int.zero_mul]⟩
  · rcases (show W = 9007199254740992 ∨ W < 9007199254740992 by omega) with hw | hw
    · refine ⟨4845873199050653696, by omega, by omega, ?_⟩
      have e1 : man 4845873199050653696 = 4503599627370496 := by decide
      have e2 : ex 4845873199050653696 = 1075 := by decide
      rw [vl, e1, e2, hw]
      rfl
    · have g := hL.1 h
      have e53 : (2 : Int) ^ 53 = 9007199254740992 := by decide
      have hl : L ≤ 53 := by
        rcases Nat.lt_or_ge 53 L with h' | h'
        · have := Nm.two_mono (show 53 ≤ L - 1 by omega)
          omega
        · exact h'
      obtain ⟨m, hm⟩ : ∃ m, W * 2 ^ (53 - L) = m := ⟨_, rfl⟩
      have hp := Nm.two_pos (53 - L)
      have m1 : m < 9007199254740992 := by
        have : W * 2 ^ (53 - L) < 2 ^ L * 2 ^ (53 - L) := Int.mul_lt_mul_of_pos_right hL.2 hp
        rw [← Nm.two_add, show L + (53 - L) = 53 by omega] at this
        omega
      have m2 : 4503599627370496 ≤ m := by
        have : 2 ^ (L - 1) * 2 ^ (53 - L) ≤ W * 2 ^ (53 - L) := Int.mul_le_mul_of_nonneg_right g.2 (by omega)
        rw [← Nm.two_add, show L - 1 + (53 - L) = 52 by omega] at this
        have : (2 : Int) ^ 52 = 4503599627370496 := by decide
        omega
      obtain ⟨x, hx⟩ : ∃ x : Int, x = ((1021 + L : Nat) : Int) * 4503599627370496 + m := ⟨_, rfl⟩
      have e1 : man x = m := by simp only [man]; split <;> omega
      have e2 : ex x = 1021 + L := by simp only [ex]; omega
      refine ⟨x, by omega, by omega, ?_⟩
      rw [vl, e1, e2, ← hm, Int.mul_comm 2, Int.mul_assoc, Int.mul_assoc, ← Nm.two_succ, ← Nm.two_add]
      congr 2
      omega

/-- Below the middle above it. -/
theorem Rnd.hi {n d e x : Int} (h : Rnd n d e false x) (hx : x < 9218868437227405312) {M : Int} {E s t : Nat} (hM : md x = M * 2 ^ E) (hst : (s : Int) - t = E - 1075 - e) :
    n * 2 ^ t < M * d * 2 ^ s ∨ (n * 2 ^ t = M * d * 2 ^ s ∧ x % 2 = 0) := by
  have hN := h (t + E) s (by omega)
  have hE := Nm.two_pos E
  have e1 : n * 2 ^ (t + E) = n * 2 ^ t * 2 ^ E := by rw [Nm.two_add, Int.mul_assoc]
  have e2 : md x * (d * 2 ^ s) = M * d * 2 ^ s * 2 ^ E := by rw [hM]; ac_rfl
  rcases hN.2.2 hx with g | ⟨g, g', _⟩
  · rw [e1, e2] at g
    exact .inl (Int.lt_of_mul_lt_mul_right g (by omega))
  · rw [e1, e2] at g
    exact .inr ⟨Int.eq_of_mul_eq_mul_right (by omega) g, g'⟩

/-- Above the middle below it. -/
theorem Rnd.lo {n d e x : Int} (h : Rnd n d e false x) (hx : 0 < x) {M : Int} {E s t : Nat} (hM : md (x - 1) = M * 2 ^ E) (hst : (s : Int) - t = E - 1075 - e) :
    M * d * 2 ^ s < n * 2 ^ t ∨ (M * d * 2 ^ s = n * 2 ^ t ∧ x % 2 = 0) := by
  have hN := h (t + E) s (by omega)
  have hE := Nm.two_pos E
  have e1 : n * 2 ^ (t + E) = n * 2 ^ t * 2 ^ E := by rw [Nm.two_add, Int.mul_assoc]
  have e2 : md (x - 1) * (d * 2 ^ s) = M * d * 2 ^ s * 2 ^ E := by rw [hM]; ac_rfl
  rcases hN.2.1 hx with g | ⟨g, g'⟩
  · rw [e1, e2] at g
    exact .inl (Int.lt_of_mul_lt_mul_right g (by omega))
  · rw [e1, e2] at g
    refine .inr ⟨Int.eq_of_mul_eq_mul_right (by omega) g, ?_⟩
    rcases g' with g' | g'
    · exact g'
    · cases g'

end Ie
end Go.Proofs.YtiflponlioldmaaGreatDoor

/-
  What Decode tells, by the bits without the sign.
-/
namespace Go.Proofs.YtiflponlioldmaaGreatDoor
open Go Go.RowKit Go.Deep

namespace Ie
theorem dec_kinds (d : Int) : ∀ r, d % 9223372036854775808 = r →
    (cls d = 0 ∧ dm d = 0 ∧ de d = 0 ∧ r = 0) ∨ (cls d = 1 ∧ dm d = r ∧ de d = -1074 ∧ 0 < r ∧ r < 4503599627370496) ∨ (cls d = 2 ∧ dm d = man r ∧ de d = (ex r : Int) - 1074 ∧ 4503599627370496 ≤ r ∧ r < 9218868437227405312) ∨
    (cls d = 3 ∧ dm d = 0 ∧ de d = 0 ∧ r = 9218868437227405312) ∨ (cls d = 4 ∧ dm d = r - 9218868437227405312 ∧ de d = 0 ∧ 9218868437227405312 < r ∧ r < 9223372036854775808) := by
  intro r hr
  have hf : fld d = r / 4503599627370496 := by simp only [fld]; omega
  have hy : d % 4503599627370496 = r % 4503599627370496 := by omega
  have hm : dm d = if cls d = 2 then 4503599627370496 + r % 4503599627370496 else if cls d = 1 ∨ cls d = 4 then r % 4503599627370496 else 0 := by rw [dm, hy]
  have he : de d = if cls d = 2 then r / 4503599627370496 - 1075 else if cls d = 1 then -1074 else 0 := by rw [de, hf]
  have hc : cls d = if r / 4503599627370496 = 0 then (if r % 4503599627370496 = 0 then 0 else 1) else if r / 4503599627370496 = 2047 then (if r % 4503599627370496 = 0 then 3 else 4) else 2 := by rw [cls, hf, hy]
  by_cases a : r / 4503599627370496 = 0
  · by_cases b : r % 4503599627370496 = 0
    · rw [if_pos a, if_pos b] at hc
      left; rw [hm, he, hc]; exact ⟨rfl, rfl, rfl, by omega⟩
    · rw [if_pos a, if_neg b] at hc
      right; left; rw [hm, he, hc]; exact ⟨rfl, show r % 4503599627370496 = r by omega, rfl, by omega, by omega⟩
  · by_cases a2 : r / 4503599627370496 = 2047
    · by_cases b : r % 4503599627370496 = 0
      · rw [if_neg a, if_pos a2, if_pos b] at hc
        right; right; right; left; rw [hm, he, hc]; exact ⟨rfl, rfl, rfl, by omega⟩
      · rw [if_neg a, if_pos a2, if_neg b] at hc
        right; right; right; right; rw [hm, he, hc]; exact ⟨rfl, show r % 4503599627370496 = _ by omega, rfl, by omega, by omega⟩
    · rw [if_neg a, if_neg a2] at hc
      right; right; left; rw [hm, he, hc]
      refine ⟨rfl, ?_, ?_, by omega, by omega⟩
      · show 4503599627370496 + r % 4503599627370496 = man r
        rw [man, if_neg (by omega)]
      · show r / 4503599627370496 - 1075 = (ex r : Int) - 1074
        rw [ex]; omega
end Ie

namespace Ie
/-- The whole part of a finite double's value. -/
def whp (r : Int) : Int := vl r / 2 ^ 1075

theorem whp_low (r : Int) (k : Nat) (h : (ex r : Int) + k = 1074) : whp r = man r / 2 ^ k := by
  have e1 : vl r = man r * 2 ^ (ex r + 1) := by rw [vl, Nm.two_succ]; ac_rfl
  have e2 : (2 : Int) ^ 1075 = 2 ^ k * 2 ^ (ex r + 1) := by rw [← Nm.two_add]; congr 1; omega
  rw [whp, e1, e2, Int.mul_ediv_mul_of_pos_left _ _ (Nm.two_pos _)]

theorem whp_high (r : Int) (k : Nat) (h : (ex r : Int) = 1074 + k) : whp r = man r * 2 ^ k ∧ vl r = whp r * 2 ^ 1075 := by
  have e1 : vl r = man r * 2 ^ k * 2 ^ 1075 := by
    have e0 : (2 : Int) ^ 1075 = 2 * 2 ^ 1074 := Nm.two_succ 1074
    rw [vl, show ex r = k + 1074 by omega, Nm.two_add, e0]
    generalize (2 : Int) ^ 1074 = P
    generalize (2 : Int) ^ k = Q
    ac_rfl
  have e2 : whp r = man r * 2 ^ k := by rw [whp, e1, Int.mul_ediv_cancel _ (by have := Nm.two_pos 1075; omega)]
  exact ⟨e2, by rw [e2]; exact e1⟩

theorem whp_zero : whp 0 = 0 := by rw [whp, vl_zero, Int.zero_ediv]

theorem shr_min (m : Int) (k : Nat) (h0 : 0 ≤ m) (h1 : m < 9007199254740992) : m / 2 ^ min k 64 = m / 2 ^ k := by
  rcases Nat.le_total k 64 with h | h
  · rw [Nat.min_eq_left h]
  · rw [Nat.min_eq_right h]
    have e53 : (2 : Int) ^ 53 = 9007199254740992 := by decide
    have g1 := Nm.two_mono (show 53 ≤ k by omega)
    have g2 := Nm.two_mono (show 53 ≤ 64 by omega)
    rw [Int.ediv_eq_zero_of_lt h0 (by omega), Int.ediv_eq_zero_of_lt h0 (by omega)]
end Ie
end Go.Proofs.YtiflponlioldmaaGreatDoor

namespace Go.Proofs.YtiflponlioldmaaGreatDoor
open Go

def sW (p : Dr.Pc) (x : Int) : Int := if p.wk = 2 then x else p.wd
def sP (p : Dr.Pc) (y : Int) : Int := if p.pk = 0 then -1 else if p.pk = 2 then max y (-1) else p.pr
def ste (p : Dr.Pc) (x y : Int) : Int := if Dr.isR p then (if sW p x < -4096 ∨ 4096 < sW p x ∨ 4096 < sP p y then 6 else 0) else 132
def spv (p : Dr.Pc) (x y : Int) : Array Value := if ste p x y = 0 then #[.int .u8 p.v, .int .i64 (if sW p x < 0 then bits .or .i64 p.fl 1 else p.fl), .int .i64 (if sW p x < 0 then - sW p x else sW p x), .int .i64 (sP p y)] else #[.int .u8 0, .int .i64 0, .int .i64 0, .int .i64 0]
end Go.Proofs.YtiflponlioldmaaGreatDoor

namespace Go.Proofs.YtiflponlioldmaaGreatDoor
namespace Dr

/-- Two lists of pieces, one behind the other: two texts that meet are one. -/
def mrg : List Pc → List Pc → List Pc
  | [], m => m
  | [p], [] => [p]
  | [p], q :: m => if p.v = 0 ∧ q.v = 0 then ⟨p.t ++ q.t, 0, 0, 0, 0, 0, 0⟩ :: m else p :: q :: m
  | p :: p' :: l, m => p :: mrg (p' :: l) m

end Dr
end Go.Proofs.YtiflponlioldmaaGreatDoor

namespace Go.Proofs.YtiflponlioldmaaGreatDoor
namespace Dr
/-- How many arguments a piece takes. -/
def tk (p : Pc) : Int := if p.v = 0 ∨ p.v = 37 then 0 else 1 + (if p.wk = 2 then 1 else 0) + (if p.pk = 2 then 1 else 0)
def wants : List Pc → Int
  | [] => 0
  | p :: l => tk p + wants l
theorem tk_bd (p : Pc) : 0 ≤ tk p ∧ tk p ≤ 3 := by
  unfold tk
  split
  · omega
  · split <;> split <;> omega
theorem wants_app (a b : List Pc) : wants (a ++ b) = wants a + wants b := by
  induction a with
  | nil => simp [wants]
  | cons p l ih => rw [List.cons_append, wants, wants, ih]; omega
theorem wants_bd (l : List Pc) : 0 ≤ wants l ∧ wants l ≤ 3 * l.length := by
  induction l with
  | nil => simp [wants]
  | cons p l ih => have := tk_bd p; rw [wants, List.length_cons]; omega
theorem wants_take {l : List Pc} {i : Nat} (h : i < l.length) : wants (l.take (i + 1)) = wants (l.take i) + tk (l.getD i Pc.no) := by
  rw [List.take_add_one, List.getElem?_eq_getElem h, wants_app, List.getD_eq_getElem?_getD, List.getElem?_eq_getElem h]
  simp [wants]
end Dr
end Go.Proofs.YtiflponlioldmaaGreatDoor

namespace Go.Proofs.YtiflponlioldmaaGreatDoor
namespace Rn
open Dr (Pc tk wants mrg)

/-- An argument: a text or a number. -/
structure Ag where
  x : Bool
  n : Int
  s : List Int
def Ag.no : Ag := ⟨false, 0, []⟩

/-- The pieces from the left: the error, what has been written. -/
def run (E : Pc → List Ag → Int) (T : Pc → List Ag → List Int) : List Pc → List Ag → List Int → Int × List Int
  | [], _, o => (0, o)
  | p :: ps, A, o => if E p A ≠ 0 then (E p A, []) else if 16777216 < o.length + (T p A).length then (3, []) else run E T ps (A.drop (tk p).toNat) (o ++ T p A)

/-- What a piece's meaning keeps to. -/
structure Loc (E : Pc → List Ag → Int) (T : Pc → List Ag → List Int) : Prop where
  few : ∀ p A, (A.length : Int) < tk p → E p A ≠ 0
  loc : ∀ p A (k : Nat), tk p ≤ A.length → tk p ≤ k → E p (A.take k) = E p A ∧ T p (A.take k) = T p A
  txt : ∀ p A, p.v = 0 → E p A = 0 ∧ T p A = p.t

variable {E : Pc → List Ag → Int} {T : Pc → List Ag → List Int}

/-- What is taken. -/
theorem run_take (L : Loc E T) : ∀ (l : List Pc) (A : List Ag) (o : List Int), (run E T l A o).1 = 0 → wants l ≤ A.length ∧ ∀ k : Nat, wants l ≤ k → run E T l (A.take k) o = run E T l A o
  | [], A, o, _ => ⟨by show (0 : Int) ≤ _; omega, fun _ _ => rfl⟩
  | p :: l, A, o, h => by
    have a := Dr.tk_bd p
    have b := Dr.wants_bd l
    rw [run] at h
    by_cases e : E p A ≠ 0
    · rw [if_pos e] at h; exact absurd h e
    · rw [if_neg e] at h
      by_cases k : 16777216 < o.length + (T p A).length
      · rw [if_pos k] at h; exact absurd h (by decide)
      · rw [if_neg k] at h
        have tl : tk p ≤ A.length := by
          rcases Int.lt_or_le (A.length : Int) (tk p) with q | q
          · exact absurd (L.few p A q) e
          · exact q
        obtain ⟨i1, i2⟩ := run_take L l _ _ h
        rw [List.length_drop] at i1
        refine ⟨by rw [wants]; omega, fun n hn => ?_⟩
        rw [wants] at hn
        obtain ⟨e1, e2⟩ := L.loc p A n tl (by omega)
        rw [run, run, e1, e2, if_neg e, if_neg e, if_neg k, if_neg k, List.drop_take]
        exact i2 _ (by omega)
/-- What a format answers. -/
def fE (E : Pc → List Ag → Int) (T : Pc → List Ag → List Int) (xs : List Int) (A : List Ag) : Int := if (Dr.prs xs).2.2 ≠ 0 then (Dr.prs xs).2.2 else (run E T (Dr.prs xs).1 A []).1
def fT (E : Pc → List Ag → Int) (T : Pc → List Ag → List Int) (xs : List Int) (A : List Ag) : List Int := if (Dr.prs xs).2.2 ≠ 0 then [] else (run E T (Dr.prs xs).1 A []).2
theorem f_bad {xs : List Int} {A : List Ag} (h : (Dr.prs xs).2.2 ≠ 0) : fE E T xs A = (Dr.prs xs).2.2 ∧ fT E T xs A = [] := ⟨if_pos h, if_pos h⟩
theorem f_good {xs : List Int} {A : List Ag} (h : (Dr.prs xs).2.2 = 0) : fE E T xs A = (run E T (Dr.prs xs).1 A []).1 ∧ fT E T xs A = (run E T (Dr.prs xs).1 A []).2 := ⟨if_neg (fun q => q h), if_neg (fun q => q h)⟩
end Rn
end Go.Proofs.YtiflponlioldmaaGreatDoor

namespace Go.Proofs.YtiflponlioldmaaGreatDoor
namespace Dr

theorem fS_le {s : Nat} (l : List Int) (h : s < 2 ^ 5) : fS s l < 2 ^ 5 := by
  induction l generalizing s with
  | nil => exact h
  | cons c l ih =>
    rw [fS]
    split
    · refine ih (Nat.or_lt_two_pow h ?_)
      have a := idx_lt marks c
      have b : marks.length = 5 := rfl
      rename_i k
      have k' : 0 ≤ idx marks c := by simpa [isF] using k
      exact Nat.pow_lt_pow_right (by omega) (by omega)
    · exact h
theorem dN_ge {n : Int} (l : List Int) (h0 : 0 ≤ n) (h : n ≤ 4097) : n ≤ dN n l := by
  induction l generalizing n with
  | nil => exact Int.le_refl _
  | cons c l ih =>
    rw [dN]
    split
    · rename_i k
      have k' := isD_iff.1 k
      have := ih (n := min (10 * n + (c - 48)) 4097) (by omega) (by omega)
      omega
    · exact Int.le_refl _
theorem dN_one {l : List Int} (h : isD (l.headD 0) = true) (h2 : l.headD 0 ≠ 48) : 1 ≤ dN 0 l := by
  cases l with
  | nil => simp [isD] at h
  | cons c l =>
    simp only [List.headD_cons] at h h2
    have k' := isD_iff.1 h
    rw [dN, if_pos h]
    have := dN_ge (n := min (10 * 0 + (c - 48)) 4097) l (by omega) (by omega)
    omega
theorem ct_head {p : Int → Bool} {l : List Int} (h : ct p l ≠ 0) : p (l.headD 0) = true := by
  cases e : p (l.headD 0) with
  | true => rfl
  | false => exact absurd (ct_zero e) h
theorem ct_next {p : Int → Bool} (hp : p 0 = false) (l : List Int) : p ((l.drop (ct p l)).headD 0) = false := by
  induction l with
  | nil => simpa [ct] using hp
  | cons c l ih =>
    rw [ct]
    split
    · rw [List.drop_succ_cons]; exact ih
    · rename_i k
      simpa using k
theorem num_in {l : List Int} (h : ne l = 0) : num (nk l) (nv l) 0 ∧ (l.headD 0 ≠ 48 → num (nk l) (nv l) 1) := by
  unfold ne at h
  unfold nk nv
  by_cases h1 : l.headD 0 = 42
  · simp only [if_pos h1]; exact ⟨.inl ⟨.inr rfl, rfl⟩, fun _ => .inl ⟨.inr rfl, rfl⟩⟩
  · simp only [if_neg h1] at h ⊢
    by_cases h2 : ct isD l = 0
    · simp only [if_pos h2]; exact ⟨.inl ⟨.inl rfl, rfl⟩, fun _ => .inl ⟨.inl rfl, rfl⟩⟩
    · simp only [if_neg h2] at h ⊢
      by_cases h3 : 4096 < dN 0 l
      · simp [if_pos h3] at h
      · simp only [if_neg h3]
        have a := dN_ge (n := 0) l (by omega) (by omega)
        exact ⟨.inr ⟨rfl, a, by omega⟩, fun k => .inr ⟨rfl, dN_one (ct_head h2) k, by omega⟩⟩
theorem take_ct {p : Int → Bool} (l : List Int) : ∀ x ∈ l.take (ct p l), p x = true := by
  induction l with
  | nil => simp [ct]
  | cons c l ih =>
    rw [ct]
    split
    · rename_i k
      intro x hx
      rw [List.take_succ_cons] at hx
      rcases List.mem_cons.1 hx with rfl | hx
      · exact k
      · exact ih x hx
    · simp
theorem idx_none {l : List Int} {c : Int} (h : ∀ x ∈ l, x ≠ c) : idx l c < 0 := by
  induction l with
  | nil => simp [idx]
  | cons x l ih =>
    have a := ih (fun y hy => h y (by simp [hy]))
    rw [idx, if_neg (h x (by simp)), if_pos a]; decide
theorem dp_ok {l : List Int} (h : de l = 0) : isR (dp l) := by
  have h0 : ne (l1 l) = 0 ∧ pe (l2 l) = 0 ∧ ve (l3 l) = 0 := by
    rw [de] at h
    split at h
    · contradiction
    · rename_i a
      split at h
      · contradiction
      · rename_i b
        exact ⟨by simpa using a, by simpa using b, h⟩
  obtain ⟨e1, e2, e3⟩ := h0
  rw [dp, if_pos h]
  have vb : 0 ≤ idx verbs ((l3 l).headD 0) := by
    rw [ve] at e3
    split at e3
    · simp at e3
    · split at e3
      · simp at e3
      · omega
  have fb := fS_le (s := 0) l (by decide)
  have hd : (l1 l).headD 0 ≠ 48 := by
    have := ct_next (p := isF) (by decide) l
    intro q
    rw [← l1, q] at this
    exact absurd this (by decide)
  refine ⟨by show 0 ≤ idx verbs (vv (l3 l)); rw [vv, if_pos e3]; exact vb, rfl, by show (0 : Int) ≤ (fS 0 l : Int); omega, by show (fS 0 l : Int) ≤ 31; omega, (num_in e1).2 hd, ?_⟩
  show num (pk (l2 l)) (pv (l2 l)) 0
  unfold pk pv
  rw [pe] at e2
  by_cases q : (l2 l).headD 0 = 46
  · rw [if_pos q] at e2
    rw [if_pos q, if_pos q]
    have n := (num_in e2).1
    split
    · rename_i z
      have : nv (l2 l).tail = 0 := by
        rcases n with ⟨_, n⟩ | ⟨n, _⟩
        · exact n
        · rw [z.2] at n; exact absurd n (by decide)
      rw [this]; exact .inr ⟨rfl, by omega, by omega⟩
    · exact n
  · rw [if_neg q, if_neg q]; exact .inl ⟨.inl rfl, rfl⟩
theorem qp_ok {l : List Int} (hl : l ≠ []) (h : qe l = 0) : ok (qp l) := by
  unfold qp
  unfold qe at h
  by_cases h1 : l.headD 0 ≠ 37
  · rw [if_pos h1]
    left
    refine ⟨?_, rfl, rfl, rfl, rfl, rfl, rfl, ?_⟩
    · intro q
      have q' := congrArg List.length q
      rw [List.length_take] at q'
      have a : l.length ≠ 0 := by simpa using hl
      have b : ct isX l ≠ 0 := by
        cases l with
        | nil => exact absurd rfl hl
        | cons c l =>
          rw [ct, if_pos (by simp only [List.headD_cons] at h1; simpa [isX] using h1)]; omega
      simp only [List.length_nil] at q'
      omega
    · exact idx_none (fun x hx => by simpa [isX] using take_ct (p := isX) l x hx)
  · rw [if_neg h1] at h ⊢
    by_cases h2 : l.tail.headD 0 = 37
    · rw [if_pos h2]; right; left; exact ⟨rfl, rfl, rfl, rfl, rfl, rfl, rfl⟩
    · rw [if_neg h2] at h ⊢
      right; right
      exact dp_ok h
theorem prs_form : ∀ (n : Nat) (l : List Int), l.length ≤ n → ∀ p ∈ (prs l).1, ok p := by
  intro n
  induction n with
  | zero =>
    intro l hl p hp
    have : l = [] := List.eq_nil_of_length_eq_zero (by omega)
    subst this
    rw [prs_nil] at hp; simp at hp
  | succ n ih =>
    intro l hl p hp
    by_cases h0 : l = []
    · subst h0; rw [prs_nil] at hp; simp at hp
    · by_cases he : qe l = 0
      · rw [prs_cons h0 he] at hp
        split at hp
        · rcases List.mem_cons.1 hp with rfl | hp
          · exact qp_ok h0 he
          · have := qu_pos h0
            exact ih (l.drop (qu l)) (by rw [List.length_drop]; omega) p hp
        · simp at hp
      · rw [prs_err h0 he] at hp; simp at hp
theorem prs_sub : ∀ (n : Nat) (l : List Int), l.length ≤ n → ∀ p ∈ (prs l).1, ∀ x ∈ p.t, x ∈ l := by
  intro n
  induction n with
  | zero =>
    intro l hl p hp
    have : l = [] := List.eq_nil_of_length_eq_zero (by omega)
    subst this
    rw [prs_nil] at hp; simp at hp
  | succ n ih =>
    intro l hl p hp
    by_cases h0 : l = []
    · subst h0; rw [prs_nil] at hp; simp at hp
    · by_cases he : qe l = 0
      · rw [prs_cons h0 he] at hp
        split at hp
        · rcases List.mem_cons.1 hp with rfl | hp
          · intro x hx
            rw [qp] at hx
            split at hx
            · exact List.mem_of_mem_take hx
            · split at hx
              · simp at hx
              · rw [dp] at hx
                split at hx <;> simp [Pc.no] at hx
          · have := qu_pos h0
            intro x hx
            exact List.mem_of_mem_drop (ih (l.drop (qu l)) (by rw [List.length_drop]; omega) p hp x hx)
        · simp at hp
      · rw [prs_err h0 he] at hp; simp at hp
theorem prs_lng : ∀ (n : Nat) (l : List Int), l.length ≤ n → (prs l).1.length ≤ l.length := by
  intro n
  induction n with
  | zero =>
    intro l hl
    have : l = [] := List.eq_nil_of_length_eq_zero (by omega)
    subst this
    rw [prs_nil]; simp
  | succ n ih =>
    intro l hl
    by_cases h0 : l = []
    · subst h0; rw [prs_nil]; simp
    · by_cases he : qe l = 0
      · rw [prs_cons h0 he]
        split
        · have := qu_pos h0
          have := qu_le h0
          have := ih (l.drop (qu l)) (by rw [List.length_drop]; omega)
          rw [List.length_drop] at this
          rw [List.length_cons]
          omega
        · simp
      · rw [prs_err h0 he]; simp
end Dr
end Go.Proofs.YtiflponlioldmaaGreatDoor

namespace Go.Proofs.YtiflponlioldmaaGreatDoor
open Go
namespace Rn
open Dr (Pc tk wants)

/-- The whole part of a double, without its sign; modulo 2^64, with it. -/
def wpt (d : Int) : Int := Ie.whp (d % 9223372036854775808)
def low (d : Int) : Int := if 9223372036854775808 ≤ d then (-(wpt d)) % 18446744073709551616 else wpt d % 18446744073709551616
theorem low_bd (d : Int) : 0 ≤ low d ∧ low d < 18446744073709551616 := by unfold low; split <;> omega

/-- One directive: its error, its text. -/
def oneE (V F W P : Int) (a : Ag) : Int :=
  if Dr.idx Dr.verbs V < 0 then 140 else if Wh.chk F W P ≠ 0 then Wh.chk F W P else if V ≠ 99 ∧ a.x ≠ decide (V = 115) then 161 else
  if V = 115 then Wh.texE V F W P a.s else if V = 99 ∧ a.x = false ∧ Ie.fnt a.n = false then 5 else 0
noncomputable def oneT (V F W P : Int) (a : Ag) : List Int :=
  if oneE V F W P a ≠ 0 then [] else if V = 115 then Wh.tex V F W P a.s else
  if V = 99 then (if a.x = true then Wh.chr V F W P a.s else Wh.chr V F W P [low a.n % 256]) else
  if V = 100 ∨ V = 105 then (if Ie.fnt a.n = true then Wh.sigT F W P (Po.ng a.n) (wpt a.n) else Po.spc V F W P a.n) else
  if V = 111 ∨ V = 117 ∨ V = 120 ∨ V = 88 then (if Ie.fnt a.n = true then Wh.unsT V F W P (low a.n) else Po.spc V F W P a.n) else
  Po.ren V F W P a.n

/-- A star's number, cut and capped. -/
def cutI (d : Int) : Int := min (max (if 9223372036854775808 ≤ d then -(wpt d) else wpt d) (-4097)) 4097
/-- A piece's arguments: its width's, its precision's, its own. -/
def aW (A : List Ag) : Ag := A.getD 0 Ag.no
def aP (p : Pc) (A : List Ag) : Ag := A.getD (if p.wk = 2 then 1 else 0) Ag.no
def aA (p : Pc) (A : List Ag) : Ag := A.getD ((if p.wk = 2 then 1 else 0) + (if p.pk = 2 then 1 else 0)) Ag.no
def cW (p : Pc) (A : List Ag) : Int := if p.wk = 2 then cutI (aW A).n else 0
def cP (p : Pc) (A : List Ag) : Int := if p.pk = 2 then cutI (aP p A).n else 0
/-- The Spec's flags, width, precision. -/
def sF (p : Pc) (x : Int) : Int := if sW p x < 0 then bits .or .i64 p.fl 1 else p.fl
def sV (p : Pc) (x : Int) : Int := if sW p x < 0 then - sW p x else sW p x
/-- A directive with its arguments. -/
def dirE (p : Pc) (A : List Ag) : Int :=
  if (A.length : Int) < tk p then 160 else
  if (p.wk = 2 ∧ (aW A).x = true) ∨ (p.pk = 2 ∧ (aP p A).x = true) then 161 else
  if (p.wk = 2 ∧ Ie.fnt (aW A).n = false) ∨ (p.pk = 2 ∧ Ie.fnt (aP p A).n = false) then 6 else
  if ste p (cW p A) (cP p A) ≠ 0 then ste p (cW p A) (cP p A) else
  oneE p.v (sF p (cW p A)) (sV p (cW p A)) (sP p (cP p A)) (aA p A)
noncomputable def dirT (p : Pc) (A : List Ag) : List Int := oneT p.v (sF p (cW p A)) (sV p (cW p A)) (sP p (cP p A)) (aA p A)
def stE (p : Pc) (A : List Ag) : Int := if p.v = 0 ∨ p.v = 37 then 0 else dirE p A
noncomputable def stT (p : Pc) (A : List Ag) : List Int := if p.v = 0 then p.t else if p.v = 37 then [37] else dirT p A

theorem get_take {A : List Ag} {i k : Nat} (h : i < k) : (A.take k).getD i Ag.no = A.getD i Ag.no := by
  rw [List.getD_eq_getElem?_getD, List.getD_eq_getElem?_getD, List.getElem?_take_of_lt h]
theorem loc : Loc stE stT := by
  refine ⟨fun p A h => ?_, fun p A k h1 h2 => ?_, fun p A h => ?_⟩
  · have n : ¬ (p.v = 0 ∨ p.v = 37) := fun q => by rw [tk, if_pos q] at h; omega
    rw [stE, if_neg n, dirE, if_pos h]; decide
  · by_cases n : p.v = 0 ∨ p.v = 37
    · refine ⟨by rw [stE, stE, if_pos n, if_pos n], ?_⟩
      rw [stT, stT]
      rcases n with n | n
      · rw [if_pos n, if_pos n]
      · rw [if_neg (by omega), if_pos n, if_neg (by omega), if_pos n]
    · have t : tk p = 1 + (if p.wk = 2 then 1 else 0) + (if p.pk = 2 then 1 else 0) := by rw [tk, if_neg n]
      have w1 : p.wk = 2 → aW (A.take k) = aW A := fun q => by rw [if_pos q] at t; exact get_take (by split at t <;> omega)
      have w2 : p.pk = 2 → aP p (A.take k) = aP p A := fun q => by
        rw [if_pos q] at t
        unfold aP
        by_cases z : p.wk = 2
        · rw [if_pos z] at t ⊢; exact get_take (by omega)
        · rw [if_neg z] at t ⊢; exact get_take (by omega)
      have w3 : aA p (A.take k) = aA p A := by
        unfold aA
        by_cases z : p.wk = 2
        · rw [if_pos z] at t ⊢
          by_cases y : p.pk = 2
          · rw [if_pos y] at t ⊢; exact get_take (by omega)
          · rw [if_neg y] at t ⊢; exact get_take (by omega)
        · rw [if_neg z] at t ⊢
          by_cases y : p.pk = 2
          · rw [if_pos y] at t ⊢; exact get_take (by omega)
          · rw [if_neg y] at t ⊢; exact get_take (by omega)
      have c1 : cW p (A.take k) = cW p A := by
        unfold cW
        by_cases z : p.wk = 2
        · rw [if_pos z, if_pos z, w1 z]
        · rw [if_neg z, if_neg z]
      have c2 : cP p (A.take k) = cP p A := by
        unfold cP
        by_cases z : p.pk = 2
        · rw [if_pos z, if_pos z, w2 z]
        · rw [if_neg z, if_neg z]
      have g1 : ∀ f : Ag → Prop, (p.wk = 2 ∧ f (aW (A.take k))) = (p.wk = 2 ∧ f (aW A)) := fun f => by
        by_cases z : p.wk = 2
        · rw [w1 z]
        · simp [z]
      have g2 : ∀ f : Ag → Prop, (p.pk = 2 ∧ f (aP p (A.take k))) = (p.pk = 2 ∧ f (aP p A)) := fun f => by
        by_cases z : p.pk = 2
        · rw [w2 z]
        · simp [z]
      refine ⟨?_, ?_⟩
      · rw [stE, stE, if_neg n, if_neg n, dirE, dirE, c1, c2, w3]
        have l1 : ¬ ((A.take k).length : Int) < tk p := by rw [List.length_take]; omega
        rw [if_neg l1, if_neg (show ¬ (A.length : Int) < tk p by omega)]
        have e1 := g1 (fun a => a.x = true)
        have e2 := g2 (fun a => a.x = true)
        have e3 := g1 (fun a => Ie.fnt a.n = false)
        have e4 := g2 (fun a => Ie.fnt a.n = false)
        simp only [e1, e2, e3, e4]
      · rw [stT, stT, if_neg (fun q => n (.inl q)), if_neg (fun q => n (.inr q)), if_neg (fun q => n (.inl q)), if_neg (fun q => n (.inr q)), dirT, dirT, c1, c2, w3]
  · exact ⟨by rw [stE, if_pos (.inl h)], by rw [stT, if_pos h]⟩

/-- What Pieces answers. -/
noncomputable def pE (ps : List Pc) (A : List Ag) : Int := if ∀ p ∈ ps, Dr.ok p then (run stE stT ps A []).1 else 132
noncomputable def pT (ps : List Pc) (A : List Ag) : List Int := if ∀ p ∈ ps, Dr.ok p then (run stE stT ps A []).2 else []
/-- What Sprintf answers. -/
noncomputable def spE (xs : List Int) (A : List Ag) : Int := fE stE stT xs A
noncomputable def spT (xs : List Int) (A : List Ag) : List Int := fT stE stT xs A
theorem sp_good {xs : List Int} {A : List Ag} (h : (Dr.prs xs).2.2 = 0) : spE xs A = pE (Dr.prs xs).1 A ∧ spT xs A = pT (Dr.prs xs).1 A := by
  obtain ⟨a, b⟩ := f_good (E := stE) (T := stT) (A := A) h
  have f := Dr.prs_form _ xs (Nat.le_refl _)
  exact ⟨by rw [spE, a, pE, if_pos f], by rw [spT, b, pT, if_pos f]⟩
end Rn
end Go.Proofs.YtiflponlioldmaaGreatDoor

namespace Go.Proofs.YtiflponlioldmaaGreatDoor
open Go.RowKit Go.Deep

namespace Sh
theorem val_at (zs : List Int) (i : Nat) (hi : i < zs.length) : Nm.val (zs.drop i) = zs.getD i 0 + 18446744073709551616 * Nm.val (zs.drop (i + 1)) := by
  rw [List.drop_eq_getElem_cons hi, Nm.val]
  simp [List.getD, hi]

/-- One limb moved down by r binary digits, with what came down from above: the limb s, and what goes on. -/
theorem down (x V sp : Int) (r : Nat) (hr : r ≤ 63) (x0 : 0 ≤ x) (x1 : x < 18446744073709551616) (hsp : sp = V % 2 ^ r * 2 ^ (64 - r)) :
    ∃ q s sp', x / 2 ^ r = q ∧ bits .or .u64 q sp = s ∧ IntKind.u64.wrap (x * 2 ^ (64 - r)) = sp' ∧ (0 ≤ s ∧ s < 18446744073709551616) ∧ (0 ≤ sp' ∧ sp' < 18446744073709551616) ∧
      Hid (s + 18446744073709551616 * (V / 2 ^ r) = (x + 18446744073709551616 * V) / 2 ^ r) ∧ Hid (sp' = (x + 18446744073709551616 * V) % 2 ^ r * 2 ^ (64 - r)) := by
  have hP := Nm.two_pos r
  have hQ := Nm.two_pos (64 - r)
  have hPQ := split64 r hr
  have hpe : (2 : Int) ^ (64 - r) = 2 ^ (64 - r) := rfl
  have d2 := Int.emod_nonneg V (show (2 : Int) ^ r ≠ 0 by omega)
  have d3 := Int.emod_lt_of_pos V hP
  have q0 : 0 ≤ x / 2 ^ r := Int.ediv_nonneg x0 (by omega)
  have q1 : x / 2 ^ r < 2 ^ (64 - r) := by
    rw [Int.ediv_lt_iff_lt_mul hP, Int.mul_comm, hPQ]
    exact x1
  have e1 : (V % 2 ^ r + 1) * 2 ^ (64 - r) ≤ 2 ^ r * 2 ^ (64 - r) := Int.mul_le_mul_of_nonneg_right (by omega) (by omega)
  rw [Int.add_mul, Int.one_mul, hPQ] at e1
  have e2 : 0 ≤ V % 2 ^ r * 2 ^ (64 - r) := Int.mul_nonneg d2 (by omega)
  -- 'or' with the summands the other way round
  have hO : bits .or .u64 (x / 2 ^ r) sp = x / 2 ^ r + sp := by
    have h := or_sum (V % 2 ^ r) (x / 2 ^ r) (64 - r) d2 q0 q1 (by omega) (by omega)
    rw [← hsp] at h
    obtain ⟨a, ha⟩ := Int.eq_ofNat_of_zero_le q0
    obtain ⟨c, hc⟩ := Int.eq_ofNat_of_zero_le (show 0 ≤ sp by omega)
    rw [ha, hc] at h ⊢
    rw [bits_or_u64_nat c a (by omega) (by omega)] at h
    rw [bits_or_u64_nat a c (by omega) (by omega), Nat.or_comm, h]
    omega
  refine ⟨_, _, _, rfl, hO, rfl, by omega, ?_, ?_, ?_⟩
  · rw [wrap_mod]; omega
  · show _ = _
    have a1 : (x + 18446744073709551616 * V) / 2 ^ r = x / 2 ^ r + 2 ^ (64 - r) * V := by
      rw [← hPQ, Int.mul_assoc, Int.add_mul_ediv_left _ _ (by omega)]
    have a2 := Int.emod_add_mul_ediv V (2 ^ r)
    have a3 : 2 ^ (64 - r) * V = V % 2 ^ r * 2 ^ (64 - r) + 18446744073709551616 * (V / 2 ^ r) := by
      have : 2 ^ (64 - r) * (V % 2 ^ r + 2 ^ r * (V / 2 ^ r)) = 2 ^ (64 - r) * V := by rw [a2]
      rw [Int.mul_add, ← Int.mul_assoc, Int.mul_comm (2 ^ (64 - r)) (2 ^ r), hPQ, Int.mul_comm (2 ^ (64 - r)) (V % 2 ^ r)] at this
      omega
    rw [a1, a3, hsp]
    omega
  · show _ = _
    have b1 : (x + 18446744073709551616 * V) % 2 ^ r = x % 2 ^ r := by
      rw [← hPQ, Int.mul_assoc, Int.add_mul_emod_self_left]
    rw [b1, wrap_mod]
    have c1 := Int.emod_add_mul_ediv x (2 ^ r)
    have c2 := Int.emod_nonneg x (show (2 : Int) ^ r ≠ 0 by omega)
    have c3 := Int.emod_lt_of_pos x hP
    have c4 : (x % 2 ^ r + 1) * 2 ^ (64 - r) ≤ 2 ^ r * 2 ^ (64 - r) := Int.mul_le_mul_of_nonneg_right (by omega) (by omega)
    rw [Int.add_mul, Int.one_mul, hPQ] at c4
    have c5 : 0 ≤ x % 2 ^ r * 2 ^ (64 - r) := Int.mul_nonneg c2 (by omega)
    have c6 : x * 2 ^ (64 - r) = x % 2 ^ r * 2 ^ (64 - r) + 18446744073709551616 * (x / 2 ^ r) := by
      have : (x % 2 ^ r + 2 ^ r * (x / 2 ^ r)) * 2 ^ (64 - r) = x * 2 ^ (64 - r) := by rw [c1]
      rw [Int.add_mul, Int.mul_right_comm, hPQ] at this
      omega
    omega

/-- Whether anything is lost: by the lowest digit 1. -/
theorem lost_iff {v : Int} {t n : Nat} (h : Nm.Trl v t) (hv : 0 < v) : decide ((t : Int) < (n : Int)) = decide (v % 2 ^ n ≠ 0) := by
  rcases h with ⟨h, _⟩ | ⟨m, hm⟩
  · omega
  · rw [Bool.eq_iff_iff]
    simp only [decide_eq_true_eq]
    constructor
    · intro hlt h0
      obtain ⟨c, hc⟩ := Nat.exists_eq_add_of_lt (show t < n by omega)
      obtain ⟨k, hk⟩ := Int.dvd_of_emod_eq_zero h0
      rw [hm, hc, Nat.add_assoc, Nm.two_add, Int.mul_assoc] at hk
      exact Nm.odd_unique (Int.eq_of_mul_eq_mul_left (by have := Nm.two_pos t; omega) hk)
    · intro h0
      rcases Nat.lt_or_ge t n with hlt | hge
      · omega
      · exfalso
        obtain ⟨c, hc⟩ := Nat.exists_eq_add_of_le hge
        apply h0
        rw [hm, hc, Nm.two_add, Int.mul_assoc]
        exact Int.mul_emod_right _ _
end Sh

/-- Behind the limbs from j on: they are moved down; below j the limbs are as they were. -/
def DownInv (g M : Nat) (w : World) (ys : List Int) (r j : Nat) (sp : Int) (os : List Int) (wr : World) : Prop :=
  Own wr g os ∧ os.length = M ∧ Nm.Limbs os ∧ (∀ t, t < j → os.getD t 0 = ys.getD t 0) ∧ Nm.val (os.drop j) = Nm.val (ys.drop j) / 2 ^ r ∧ sp = Nm.val (ys.drop j) % 2 ^ r * 2 ^ (64 - r) ∧ Below g w wr

theorem DownInv.step {g M : Nat} {w : World} {ys : List Int} {r t : Nat} {sp : Int} {os : List Int} {wr : World} (h : DownInv g M w ys r (t + 1) sp os wr) (hM : ys.length = M) (ht : t < M) {x s sp' : Int} (hx : x = ys.getD t 0) (hs0 : 0 ≤ s ∧ s < 18446744073709551616)
    (e1 : s + 18446744073709551616 * (Nm.val (ys.drop (t + 1)) / 2 ^ r) = (x + 18446744073709551616 * Nm.val (ys.drop (t + 1))) / 2 ^ r) (e2 : sp' = (x + 18446744073709551616 * Nm.val (ys.drop (t + 1))) % 2 ^ r * 2 ^ (64 - r)) :
    DownInv g M w ys r t sp' (os.set t s) (wr.setCell ⟨g, t, none⟩ (.int .u64 s)) := by
  obtain ⟨h1, h2, h3, h4, h5, h6, h7⟩ := h
  have hv := Sh.val_at ys t (by omega)
  rw [← hx] at hv
  refine ⟨h1.set t s, by simpa using h2, h3.set t hs0.1 hs0.2, ?_, ?_, by rw [hv]; exact e2, h7.setCell (p := ⟨g, t, none⟩) (Nat.le_refl _) _⟩
  · intro i hi
    rw [Nm.getD_set _ _ _ _ (by omega), if_neg (by omega)]
    exact h4 i (by omega)
  · rw [Sh.val_at (os.set t s) t (by simpa using (show t < os.length by omega)), Nm.getD_set _ _ _ _ (by omega), if_pos rfl, hv, ← e1]
    rw [List.drop_set_of_lt (by omega), h5]

theorem ret_shr {p : Option Addr} {a b : Nat} {l l' : Bool} (h : a = b) (hl : l = l') : Ending.returned (.tuple #[.slice p a a, .bool l, .int .i64 0]) = .returned (.tuple #[.slice p b b, .bool l', .int .i64 0]) := by rw [h, hl]

set_option maxRecDepth 100000 in
set_option maxHeartbeats 1000000 in
/-- From the number of its digits on nothing is left. -/
theorem shr_all (p : Option Addr) (n cap : Nat) (zs : List Int) (k : Int) (L : Nat) (w : World) (ha : Arg w p n cap zs) (tz : Nm.tsize zs ≤ 4096) (hk : 0 ≤ k) (hL : blen (Nm.trim zs) = (L : Int)) (hb : (L : Int) ≤ k) :
    Calls Tryz.prog 198 #[.slice p n cap, .int .i64 k] w fun e w' => e = .returned (.tuple #[.slice none 0 0, .bool (decide (0 < Nm.tsize zs)), .int .i64 0]) ∧ w' = w := by
  have HT := hid (lshift_ok p n cap zs k w ha tz hk)
  have HB := hid (bitLen_n L p _ _ (Nm.trim zs) w ha.trim' hL)
  clear hL ha
  go_enter Tryz.func198, Tryz.ntmps198
  go_wp2_with fail
  refine HT.out.mono ?_
  rintro e w' ⟨rfl, rfl⟩
  go_wp2_with fail
  refine HB.out.mono ?_
  rintro e w' ⟨rfl, rfl⟩
  go_wp2_with fail
  go_ret3
  exact ⟨by first | rfl | simp, rfl⟩

set_option maxRecDepth 100000 in
set_option maxHeartbeats 1000000 in
theorem shr_ok (p : Option Addr) (n cap : Nat) (zs : List Int) (kk : Int) (k L : Nat) (w : World) (ha : Arg w p n cap zs) (hT : Tab w) (tz : Nm.tsize zs ≤ 4096) (hkk : kk = (k : Int)) (hL : blen (Nm.trim zs) = (L : Int)) (hLt : L ≤ 64 * Nm.tsize zs) (hb : k < L) :
    Calls Tryz.prog 198 #[.slice p n cap, .int .i64 kk] w fun e w' => ∃ r os, e = .returned (.tuple #[.slice r (List.length os) (List.length os), .bool (decide (Nm.val zs % 2 ^ k ≠ 0)), .int .i64 0]) ∧ Ans w.heap.size w' r os (Nm.val zs / 2 ^ k) ∧ Below w.heap.size w w' := by
  have hk0 : 0 ≤ kk := by omega
  have T1 := lshift_ok p n cap zs kk w ha tz hk0
  have B1 := bitLen_n L p _ _ (Nm.trim zs) w ha.trim' hL
  have hvpos : 0 < Nm.val zs := by
    have h1 := (Nm.val_bd zs ha.2.2.2.2).1
    rcases (show Nm.val zs = 0 ∨ 0 < Nm.val zs by omega) with h | h
    · have := (Nm.tsize_zero_iff ha.2.2.2.2).2 h
      omega
    · exact h
  obtain ⟨N, HN⟩ : ∃ N, Hid (Nm.tsize zs = N) := ⟨_, rfl⟩
  rw [HN.out] at T1 B1 hLt
  have HT := hid T1
  have HB := hid B1
  have hN1 : N ≤ 4096 := by rw [← HN.out]; exact tz
  have hb1 : ¬ (L : Int) ≤ kk := by omega
  obtain ⟨sk, hsk⟩ : ∃ sk, k / 64 = sk := ⟨_, rfl⟩
  obtain ⟨r, hr⟩ : ∃ r, k % 64 = r := ⟨_, rfl⟩
  have r1 : kk / 64 = (sk : Int) := by omega
  have r2 : kk % 64 = (r : Int) := by omega
  have hr63 : r ≤ 63 := by omega
  have hskN : sk < N := by omega
  have hskN' : (sk : Int) < (N : Int) := by omega
  have hkb : kk ≤ 262144 := by omega
  have KE : Hid (k = 64 * sk + r) := by show _ = _; omega
  have KK := hid hkk
  have L1 := hid ((Nm.trim_length zs).trans HN.out)
  have A5 := hid ha.2.2.2.2.trim
  have AT := ha.trim'
  rw [HN.out] at AT
  have HAT := hid AT
  obtain ⟨b, off, rfl, hbw, HC⟩ := ha.2.2.2.1.trim.at (by rw [L1.out]; omega)
  have V := hid (Nm.val_trim zs)
  have LD : Hid (Lies w (some ⟨b, off + sk, none⟩) ((Nm.trim zs).drop sk)) := .inr ⟨b, off + sk, rfl, fun i hi => by
    rw [List.length_drop] at hi
    rw [show off + sk + i = off + (sk + i) by omega, HC.out (sk + i) (by omega)]
    simp [List.getD]⟩
  have YL : Hid (((Nm.trim zs).drop sk).length = N - sk) := by rw [Hid, List.length_drop, L1.out]
  have YY := hid (A5.out.drop sk)
  have HTAB := hid hT
  have HV := hid hvpos
  have QE : Hid (Nm.val zs / 2 ^ k = Nm.val ((Nm.trim zs).drop sk) / 2 ^ r) := by
    have h1 := Nm.val_drop (Nm.trim zs) sk (by rw [L1.out]; omega)
    have h2 := Nm.val_bd _ (A5.out.take sk)
    rw [List.length_take, L1.out, Nat.min_eq_left (by omega)] at h2
    have hp := Nm.pw_pos sk
    show _ = _
    rw [KE.out, Nm.two_add, ← Nm.pw_two, ← Int.ediv_ediv_of_nonneg (by omega), ← V.out, h1, Int.add_mul_ediv_left _ _ (by omega), Int.ediv_eq_zero_of_lt h2.1 h2.2, Int.zero_add]
  clear T1 B1 ha tz hL hkk hsk hr hT hvpos hLt hb AT
  go_enter Tryz.func198, Tryz.ntmps198
  go_wp2_with fail
  refine HT.out.mono ?_
  rintro e w' ⟨rfl, rfl⟩
  go_wp2_with fail
  refine HB.out.mono ?_
  rintro e w' ⟨rfl, rfl⟩
  go_wp2_with fail
  refine (widened_any _ (N - sk) _ 0 0 ((Nm.trim zs).drop sk) _ rfl YL.out (by omega) LD.out).mono ?_
  rintro e w1 ⟨rfl, ho, hb2, hz2⟩
  rw [List.replicate_zero, List.append_nil] at ho
  have I0 : DownInv w'.heap.size (N - sk) w' ((Nm.trim zs).drop sk) r (N - sk) 0 ((Nm.trim zs).drop sk) w1 := by
    have e : ((Nm.trim zs).drop sk).drop (N - sk) = [] := List.drop_eq_nil_of_le (by rw [YL.out]; omega)
    exact ⟨ho, YL.out, YY.out, fun _ _ => rfl, by rw [e]; simp [Nm.val], by rw [e]; simp [Nm.val], hb2⟩
  have HI0 := hid I0
  clear ho hb2 hz2 I0
  go_wp2_with fail
  go_loopw [11, 12] (fun a i wr => ∃ (j : Nat) (sp : Int) (os : List Int), j ≤ N - sk ∧ i = .int .i64 ((j : Int) - 1) ∧ a = .int .u64 sp ∧ DownInv w'.heap.size (N - sk) w' ((Nm.trim zs).drop sk) r j sp os wr) (fun _ i _ => (intOf i + 1).toNat)
  case atStart => exact ⟨N - sk, 0, _, Nat.le_refl _, by go_num, rfl, HI0.out⟩
  case round =>
    clear HI0
    obtain ⟨j, sp, os, hj, rfl, rfl, I⟩ := hrel
    by_cases hj0 : j = 0
    · subst hj0
      obtain ⟨i1, i2, i3, i4, i5, i6, i7⟩ := I
      rw [List.drop_zero, List.drop_zero] at i5
      have O1 := hid i1
      have O3 := hid i3
      have O5 : Hid (Nm.val os = Nm.val zs / 2 ^ k) := by rw [Hid, QE.out]; exact i5
      have O7 := hid i7
      have TR := hid (trimmed_any (some ⟨w'.heap.size, 0, none⟩) (N - sk) (N - sk) os wr i2 (Nat.le_refl _) (by omega) i1.lies)
      have TL := hid (trail_any _ N N (Nm.trim zs) wr (HAT.out.below i7 (Nat.le_refl _)) (HTAB.out.below i7))
      clear i1 i2 i3 i4 i5 i6 i7
      go_wp2_with fail
      refine TR.out.mono ?_
      rintro e w3 ⟨rfl, rfl⟩
      go_wp2_with fail
      refine TL.out.mono ?_
      rintro e w3 ⟨t, rfl, htr, rfl⟩
      rw [V.out] at htr
      have LO := hid (Sh.lost_iff (n := k) htr HV.out)
      clear htr
      go_wp2_with fail
      go_ret3
      refine ⟨some ⟨w'.heap.size, 0, none⟩, Nm.trim os, ret_shr (Nm.trim_length os).symm (by rw [KK.out]; exact LO.out), ⟨O1.out.lies.trim, O3.out.trim, ?_, ?_, ?_⟩, O7.out⟩
      · rw [Nm.trim_trim, Nm.trim_length]
      · rw [Nm.val_trim, O5.out]
      · intro a h
        cases h
        exact Nat.le_refl _
    · obtain ⟨t, rfl⟩ : ∃ t, j = t + 1 := ⟨j - 1, by omega⟩
      have hxo := I.2.2.2.1 t (by omega)
      obtain ⟨x, hxc, X⟩ : ∃ x, wr.cell? ⟨w'.heap.size, t, none⟩ = some (.int .u64 x) ∧ Hid (x = ((Nm.trim zs).drop sk).getD t 0) := ⟨_, I.1.cell t (by have := I.2.1; omega), hxo⟩
      have hfr := I.1.free t
      have hx0 := YY.out.at t
      rw [← X.out] at hx0
      obtain ⟨hx0, hx1⟩ := hx0
      obtain ⟨q, s, sp', u1, u2, u3, us, usp, E1, E2⟩ := Sh.down x (Nm.val (((Nm.trim zs).drop sk).drop (t + 1))) sp r hr63 hx0 hx1 I.2.2.2.2.2.1
      have I2 := I.step YL.out (by omega) X.out us E1.out E2.out
      have htN : (t : Int) < ((N - sk : Nat) : Int) := by omega
      clear I hxo E1 E2 us usp
      go_wp2
      go_roundw
      case rel => exact ⟨t, sp', _, by omega, by go_num, rfl, I2⟩
      case measure => simp [intOf]
end Go.Proofs.YtiflponlioldmaaGreatDoor

namespace Go.Proofs.YtiflponlioldmaaGreatDoor
open Go.RowKit Go.Deep

theorem one_bit (x : Int) (h0 : 0 ≤ x) (h1 : x < 18446744073709551616) : bits .and .u64 x 1 = x % 2 := by
  obtain ⟨n, rfl⟩ := Int.eq_ofNat_of_zero_le h0
  have h := bits_and_u64_nat n 1 (by omega) (by omega)
  have e : n &&& 1 = n % 2 := Nat.and_two_pow_sub_one_eq_mod n 1
  rw [e] at h
  rw [show (1 : Int) = ((1 : Nat) : Int) from rfl, h]
  omega

set_option maxRecDepth 100000 in
set_option maxHeartbeats 1000000 in
/-- One binary digit. -/
theorem bit_any (p : Option Addr) (n cap : Nat) (zs : List Int) (i : Nat) (ii : Int) (w : World) (ha : Arg w p n cap zs) (hi : ii ≤ 9223372036854775807) (hii : ii = (i : Int)) :
    Calls Tryz.prog 199 #[.slice p n cap, .int .i64 ii] w fun e w' => e = .returned (.int .i64 (Nm.val zs / 2 ^ i % 2)) ∧ w' = w := by
  obtain ⟨a1, a2, a3, a4, a5⟩ := ha
  have hi0 : 0 ≤ ii := by omega
  by_cases hk : n ≤ i / 64
  · have E : Hid (Nm.val zs / 2 ^ i % 2 = 0) := by
      have h1 := Nm.val_bd zs a5
      have h2 : Nm.pw zs.length ≤ 2 ^ i := by rw [Nm.pw_two]; exact Nm.two_mono (by omega)
      show _ = _
      rw [Int.ediv_eq_zero_of_lt h1.1 (by omega)]
      rfl
    have hk' : (n : Int) ≤ ii / 64 := by omega
    clear a1 a4 a5 hii hk
    go_enter Tryz.func199, Tryz.ntmps199
    go_wp2
    go_ret
    exact ⟨retI E.out.symm, rfl⟩
  · obtain ⟨k, hke⟩ : ∃ k, i / 64 = k := ⟨_, rfl⟩
    obtain ⟨r, hre⟩ : ∃ r, i % 64 = r := ⟨_, rfl⟩
    have hir : i = 64 * k + r := by omega
    have E := hid (Nm.bit_at zs i k r hir (by omega) a5 (by omega))
    obtain ⟨b, off, rfl, hc⟩ : ∃ b off, p = some ⟨b, off, none⟩ ∧ w.cell? ⟨b, off + k, none⟩ = some (.int .u64 (zs.getD k 0)) := by
      rcases a4 with h | ⟨b, off, hp, h⟩
      · rw [h] at a1
        simp at a1
        omega
      · exact ⟨b, off, hp, h k (by omega)⟩
    obtain ⟨x, X⟩ : ∃ x, Hid (x = zs.getD k 0) := ⟨_, rfl⟩
    rw [← X.out] at hc E
    have hx := a5.at k
    rw [← X.out] at hx
    obtain ⟨hx0, hx1⟩ := hx
    have q0 : 0 ≤ x / 2 ^ r := Int.ediv_nonneg hx0 (by have := Nm.two_pos r; omega)
    have q1 : x / 2 ^ r < 18446744073709551616 := by
      have : x / 2 ^ r ≤ x := Int.ediv_le_self _ hx0
      omega
    obtain ⟨y, hy⟩ : ∃ y, x / 2 ^ r = y := ⟨_, rfl⟩
    rw [hy] at q0 q1 E
    have hb := one_bit y q0 q1
    have h64 : ii / 64 = (k : Int) := by omega
    have h65 : ii % 64 = (r : Int) := by omega
    have hkn : (k : Int) < (n : Int) := by omega
    have hr63 : r ≤ 63 := by omega
    have y2 : 0 ≤ y % 2 := by omega
    have y3 : y % 2 ≤ 1 := by omega
    clear hir hke hre hk a1 a4 a5 X hii
    go_enter Tryz.func199, Tryz.ntmps199
    go_wp2
    go_ret
    exact ⟨retI E.out.symm, rfl⟩

theorem bit_neg (p : Option Addr) (n cap : Nat) (i : Int) (w : World) (hi : i < 0) :
    Calls Tryz.prog 199 #[.slice p n cap, .int .i64 i] w fun e w' => e = .returned (.int .i64 0) ∧ w' = w := by
  go_enter Tryz.func199, Tryz.ntmps199
  go_wp2
  go_ret
  exact ⟨rfl, rfl⟩
end Go.Proofs.YtiflponlioldmaaGreatDoor
