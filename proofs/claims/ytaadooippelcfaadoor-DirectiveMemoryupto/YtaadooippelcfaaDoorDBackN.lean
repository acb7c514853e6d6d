/-
  PIECES IN FORM, written and read back.
-/
import Derived.Test.YtaadooippelcfaaDoorDNum
namespace Go.Proofs.YtaadooippelcfaaDoor
namespace Dr

/-- The flags' marks. -/
def ms (f : Int) : List Int := (if f.toNat % 2 = 1 then [45] else []) ++ (if f.toNat / 2 % 2 = 1 then [43] else []) ++ (if f.toNat / 4 % 2 = 1 then [32] else []) ++ (if f.toNat / 8 % 2 = 1 then [35] else []) ++ (if f.toNat / 16 % 2 = 1 then [48] else [])
def wn (k n : Int) : List Int := if k = 1 then Sc.dl n.toNat else if k = 2 then [42] else []
/-- A piece as a format has it. -/
def wr (p : Pc) : List Int := if p.v = 0 then p.t else if p.v = 37 then [37, 37] else 37 :: (ms p.fl ++ wn p.wk p.wd ++ (if p.pk ≠ 0 then 46 :: wn p.pk p.pr else []) ++ [p.v])

/-- In form. -/
def num (k n l : Int) : Prop := ((k = 0 ∨ k = 2) ∧ n = 0) ∨ (k = 1 ∧ l ≤ n ∧ n ≤ 4096)
def isT (p : Pc) : Prop := p.t ≠ [] ∧ p.v = 0 ∧ p.fl = 0 ∧ p.wk = 0 ∧ p.wd = 0 ∧ p.pk = 0 ∧ p.pr = 0 ∧ idx p.t 37 < 0
def isP (p : Pc) : Prop := p.t = [] ∧ p.v = 37 ∧ p.fl = 0 ∧ p.wk = 0 ∧ p.wd = 0 ∧ p.pk = 0 ∧ p.pr = 0
def isR (p : Pc) : Prop := 0 ≤ idx verbs p.v ∧ p.t = [] ∧ 0 ≤ p.fl ∧ p.fl ≤ 31 ∧ num p.wk p.wd 1 ∧ num p.pk p.pr 0
def ok (p : Pc) : Prop := isT p ∨ isP p ∨ isR p
instance (k n l : Int) : Decidable (num k n l) := inferInstanceAs (Decidable (_ ∨ _))
instance (p : Pc) : Decidable (isT p) := inferInstanceAs (Decidable (_ ∧ _))
instance (p : Pc) : Decidable (isP p) := inferInstanceAs (Decidable (_ ∧ _))
instance (p : Pc) : Decidable (isR p) := inferInstanceAs (Decidable (_ ∧ _))
instance (p : Pc) : Decidable (ok p) := inferInstanceAs (Decidable (_ ∨ _))

theorem Pc.eq {p q : Pc} (h1 : p.t = q.t) (h2 : p.v = q.v) (h3 : p.fl = q.fl) (h4 : p.wk = q.wk) (h5 : p.wd = q.wd) (h6 : p.pk = q.pk) (h7 : p.pr = q.pr) : p = q := by
  cases p; cases q; simp_all

theorem idx_cons {x c : Int} {l : List Int} (h : 0 ≤ idx (x :: l) c) : c = x ∨ 0 ≤ idx l c := by
  rw [idx] at h
  split at h
  · rename_i e; exact .inl e.symm
  · split at h
    · omega
    · exact .inr (by omega)
theorem verb_cases {c : Int} (h : 0 ≤ idx verbs c) : c = 100 ∨ c = 105 ∨ c = 111 ∨ c = 117 ∨ c = 120 ∨ c = 88 ∨ c = 99 ∨ c = 115 ∨ c = 101 ∨ c = 69 ∨ c = 102 ∨ c = 70 ∨ c = 103 ∨ c = 71 := by
  unfold verbs at h
  iterate 13 (rcases idx_cons h with h | h; · omega)
  rcases idx_cons h with h | h
  · omega
  · simp [idx] at h
theorem verb_ne {c : Int} (h : 0 ≤ idx verbs c) : c ≠ 0 ∧ c ≠ 37 ∧ c ≠ 42 ∧ c ≠ 46 ∧ isD c = false ∧ isF c = false ∧ 0 ≤ c ∧ c < 256 := by
  rcases verb_cases h with h | h | h | h | h | h | h | h | h | h | h | h | h | h <;> subst h <;> decide

theorem isF_cases {c : Int} : isF c = true ↔ c = 45 ∨ c = 43 ∨ c = 32 ∨ c = 35 ∨ c = 48 := by
  constructor
  · intro h
    simp only [isF, decide_eq_true_eq] at h
    unfold marks at h
    iterate 4 (rcases idx_cons h with h | h; · omega)
    rcases idx_cons h with h | h
    · omega
    · simp [idx] at h
  · rintro (h | h | h | h | h) <;> subst h <;> decide
theorem isF_no {c : Int} (h1 : c ≠ 45) (h2 : c ≠ 43) (h3 : c ≠ 32) (h4 : c ≠ 35) (h5 : c ≠ 48) : isF c = false := by
  cases h : isF c
  · rfl
  · rcases isF_cases.1 h with h | h | h | h | h <;> contradiction

theorem fS_stop {s : Nat} {r : List Int} (h : isF (r.headD 0) = false) : fS s r = s := by
  cases r with
  | nil => rfl
  | cons c l => rw [fS, if_neg (by simp only [List.headD_cons] at h; rw [h]; simp)]
theorem ms_read {f : Int} {r : List Int} (h0 : 0 ≤ f) (h1 : f ≤ 31) (h : isF (r.headD 0) = false) : ct isF (ms f ++ r) = (ms f).length ∧ (fS 0 (ms f ++ r) : Int) = f ∧ (ms f ++ r).drop (ms f).length = r := by
  refine ⟨?_, ?_, List.drop_left⟩
  · rw [ct_app, ct_zero h]
    · rfl
    · intro x hx
      have : x = 45 ∨ x = 43 ∨ x = 32 ∨ x = 35 ∨ x = 48 := by
        unfold ms at hx
        simp only [List.mem_append] at hx
        rcases hx with (((hx | hx) | hx) | hx) | hx <;> (split at hx <;> simp at hx) <;> omega
      exact isF_cases.2 this
  · have e : ∀ f : Fin 32, fS 0 (ms (f.val : Int) ++ r) = f.val := by
      intro f
      have key : ∀ (g : Fin 32) (c : Nat), (∀ s, fS s r = s) → fS 0 (ms (g.val : Int) ++ r) = g.val ∨ c = 1 := by
        intro g c hs
        left
        rcases g with ⟨g, hg⟩
        have : g = 0 ∨ g = 1 ∨ g = 2 ∨ g = 3 ∨ g = 4 ∨ g = 5 ∨ g = 6 ∨ g = 7 ∨ g = 8 ∨ g = 9 ∨ g = 10 ∨ g = 11 ∨ g = 12 ∨ g = 13 ∨ g = 14 ∨ g = 15 ∨ g = 16 ∨ g = 17 ∨ g = 18 ∨ g = 19 ∨ g = 20 ∨ g = 21 ∨ g = 22 ∨ g = 23 ∨ g = 24 ∨ g = 25 ∨ g = 26 ∨ g = 27 ∨ g = 28 ∨ g = 29 ∨ g = 30 ∨ g = 31 := by omega
        rcases this with h | h | h | h | h | h | h | h | h | h | h | h | h | h | h | h | h | h | h | h | h | h | h | h | h | h | h | h | h | h | h | h <;> subst h <;> simp [ms, fS, isF, marks, idx, hs]
      rcases key f 0 (fun s => fS_stop h) with h | h
      · exact h
      · omega
    have := e ⟨f.toNat, by omega⟩
    simp only at this
    rw [show ((f.toNat : Nat) : Int) = f by omega] at this
    rw [this]; omega

/-- Digits' value, uncapped. -/
def dw (n : Int) : List Int → Int
  | [] => n
  | c :: l => dw (10 * n + (c - 48)) l
theorem dw_ge {n : Int} {l : List Int} (h0 : 0 ≤ n) (h : ∀ x ∈ l, isD x = true) : n ≤ dw n l := by
  induction l generalizing n with
  | nil => simp [dw]
  | cons c l ih =>
    have := isD_iff.1 (h c (by simp))
    have := ih (n := 10 * n + (c - 48)) (by omega) (fun x hx => h x (by simp [hx]))
    rw [dw]; omega
theorem dN_dw {n : Int} {l r : List Int} (h0 : 0 ≤ n) (h : ∀ x ∈ l, isD x = true) (hr : isD (r.headD 0) = false) (hb : dw n l ≤ 4096) : dN n (l ++ r) = dw n l := by
  induction l generalizing n with
  | nil =>
    cases r with
    | nil => rfl
    | cons c r => rw [List.nil_append, dN, if_neg (by simp only [List.headD_cons] at hr; rw [hr]; simp), dw]
  | cons c l ih =>
    have hc := h c (by simp)
    have := isD_iff.1 hc
    have k : ∀ x ∈ l, isD x = true := fun x hx => h x (by simp [hx])
    rw [dw] at hb
    have := dw_ge (n := 10 * n + (c - 48)) (by omega) k
    rw [List.cons_append, dN, if_pos hc, Int.min_eq_left (by omega), ih (by omega) k hb, dw]
theorem dw_app {n : Int} {a b : List Int} : dw n (a ++ b) = dw (dw n a) b := by
  induction a generalizing n with
  | nil => rfl
  | cons c l ih => rw [List.cons_append, dw, dw, ih]
theorem dl_D (u : Nat) : ∀ x ∈ Sc.dl u, isD x = true := fun x hx => by
  have := Sc.dg_iff.1 ((Sc.dl_is u).1 x hx)
  exact isD_iff.2 this
theorem dl_dw (u : Nat) : dw 0 (Sc.dl u) = u := by
  induction u using Nat.strongRecOn with
  | _ u ih =>
    by_cases h : u < 10
    · rw [Sc.dl_small h]; simp only [dw]; omega
    · rw [Sc.dl_big h, dw_app, ih (u / 10) (by omega)]; simp only [dw]; omega
theorem dl_head (u : Nat) (h1 : 1 ≤ u) : ∃ c l, Sc.dl u = c :: l ∧ 49 ≤ c ∧ c ≤ 57 := by
  induction u using Nat.strongRecOn with
  | _ u ih =>
    by_cases h : u < 10
    · exact ⟨_, _, Sc.dl_small h, by omega, by omega⟩
    · obtain ⟨c, l, e, h2, h3⟩ := ih (u / 10) (by omega) (by omega)
      exact ⟨c, l ++ [48 + ((u % 10 : Nat) : Int)], by rw [Sc.dl_big h, e]; rfl, h2, h3⟩
theorem dl_cons (u : Nat) : ∃ c l, Sc.dl u = c :: l ∧ 48 ≤ c ∧ c ≤ 57 := by
  cases h : Sc.dl u with
  | nil => exact absurd h (Sc.dl_is u).2.1
  | cons c l =>
    have := isD_iff.1 (dl_D u c (by rw [h]; simp))
    exact ⟨c, l, rfl, this⟩

/-- A number as it is written, read back. -/
theorem wn_read {k n l : Int} {r : List Int} (h : num k n l) (hl : 0 ≤ l) (hr : isD (r.headD 0) = false) (hs : k = 0 → r.headD 0 ≠ 42) : ne (wn k n ++ r) = 0 ∧ nk (wn k n ++ r) = k ∧ nv (wn k n ++ r) = n ∧ nu (wn k n ++ r) = (wn k n).length := by
  rcases h with ⟨hk | hk, hn⟩ | ⟨hk, h1, h2⟩
  · subst hk; subst hn
    have c0 := ct_zero (p := isD) hr
    have hs := hs rfl
    have e : wn 0 0 = [] := rfl
    rw [e, List.nil_append]
    unfold ne nk nv nu
    rw [if_neg hs, if_neg hs, if_neg hs, if_neg hs, if_pos c0, if_pos c0, if_pos c0, if_pos c0]
    simp
  · subst hk; subst hn
    simp [wn, ne, nk, nv, nu]
  · subst hk
    have e : wn 1 n = Sc.dl n.toNat := rfl
    obtain ⟨c, m, ec, c1, c2⟩ := dl_cons n.toNat
    have a1 : ct isD (wn 1 n ++ r) = (wn 1 n).length := by
      rw [e, ct_app (dl_D _), ct_zero hr]; rfl
    have a2 : dN 0 (wn 1 n ++ r) = n := by
      have := dl_dw n.toNat
      rw [e, dN_dw (by omega) (dl_D _) hr (by omega), this]; omega
    have a3 : ¬ (wn 1 n ++ r).headD 0 = 42 := by rw [e, ec]; simp; omega
    have a4 : ¬ (wn 1 n).length = 0 := by rw [e, ec]; simp
    unfold ne nk nv nu
    rw [a1, a2]
    simp only [if_neg a3, if_neg a4, if_neg (show ¬ 4096 < n by omega)]
    exact ⟨trivial, trivial, trivial, trivial⟩
theorem wn_head {k n l : Int} {r : List Int} (h : num k n l) (hl : l = 1) (hk : k = 0 → isF (r.headD 0) = false) : isF ((wn k n ++ r).headD 0) = false := by
  rcases h with ⟨c | c, hn⟩ | ⟨c, h1, h2⟩
  · subst c; subst hn; exact hk rfl
  · subst c; subst hn; simp [wn]; decide
  · subst c
    obtain ⟨c, m, ec, c1, c2⟩ := dl_head n.toNat (by omega)
    have : wn 1 n = c :: m := ec
    rw [this]
    simp only [List.cons_append, List.headD_cons]
    exact isF_no (by omega) (by omega) (by omega) (by omega) (by omega)

/-- A precision as it is written, read back. -/
theorem wp_read {k n : Int} {r : List Int} (h : num k n 0) (hr : isD (r.headD 0) = false) (h6 : r.headD 0 ≠ 46) : pe ((if k ≠ 0 then 46 :: wn k n else []) ++ r) = 0 ∧ pk ((if k ≠ 0 then 46 :: wn k n else []) ++ r) = k ∧ pv ((if k ≠ 0 then 46 :: wn k n else []) ++ r) = n ∧ pu ((if k ≠ 0 then 46 :: wn k n else []) ++ r) = (if k ≠ 0 then 46 :: wn k n else []).length := by
  by_cases hk : k = 0
  · have hn : n = 0 := by rcases h with ⟨_, h⟩ | ⟨h, _⟩ <;> omega
    subst hk; subst hn
    rw [if_neg (by simp), List.nil_append]
    unfold pe pk pv pu
    rw [if_neg h6, if_neg h6, if_neg h6, if_neg h6]
    simp
  · obtain ⟨a, b, c, d⟩ := wn_read (r := r) h (by omega) hr (fun e => absurd e hk)
    rw [if_pos hk, List.cons_append]
    have z : (46 :: (wn k n ++ r)).headD 0 = 46 := rfl
    have y : (46 :: (wn k n ++ r)).tail = wn k n ++ r := rfl
    unfold pe pk pv pu
    rw [if_pos z, if_pos z, if_pos z, if_pos z, y, if_neg (by rw [b]; exact fun e => hk e.2)]
    refine ⟨a, b, c, ?_⟩
    rw [d, List.length_cons]; omega
/-- A directive, read back, whatever stands behind it. -/
theorem dir_read {p : Pc} (h : isR p) (r : List Int) : qe (wr p ++ r) = 0 ∧ qp (wr p ++ r) = p ∧ qu (wr p ++ r) = (wr p).length := by
  obtain ⟨hv, ht, f0, f1, hw, hp⟩ := h
  obtain ⟨v0, v37, v42, v46, vd, vf, _, _⟩ := verb_ne hv
  let D := p.v :: r
  let C := (if p.pk ≠ 0 then 46 :: wn p.pk p.pr else []) ++ D
  let B := wn p.wk p.wd ++ C
  let A := ms p.fl ++ B
  have eA : wr p ++ r = 37 :: A := by
    show wr p ++ r = 37 :: (ms p.fl ++ (wn p.wk p.wd ++ ((if p.pk ≠ 0 then 46 :: wn p.pk p.pr else []) ++ p.v :: r)))
    rw [wr, if_neg v0, if_neg v37]; simp
  have len : (wr p).length = 1 + ((ms p.fl).length + ((wn p.wk p.wd).length + ((if p.pk ≠ 0 then 46 :: wn p.pk p.pr else []).length + 1))) := by
    rw [wr, if_neg v0, if_neg v37]; simp; omega
  have hD : D.headD 0 = p.v := rfl
  have hC : isD (C.headD 0) = false ∧ C.headD 0 ≠ 42 ∧ isF (C.headD 0) = false ∧ C.headD 0 ≠ 37 := by
    show isD (((if p.pk ≠ 0 then 46 :: wn p.pk p.pr else []) ++ D).headD 0) = false ∧ ((if p.pk ≠ 0 then 46 :: wn p.pk p.pr else []) ++ D).headD 0 ≠ 42 ∧ isF (((if p.pk ≠ 0 then 46 :: wn p.pk p.pr else []) ++ D).headD 0) = false ∧ ((if p.pk ≠ 0 then 46 :: wn p.pk p.pr else []) ++ D).headD 0 ≠ 37
    by_cases hk : p.pk = 0
    · rw [if_neg (by simp [hk]), List.nil_append, hD]; exact ⟨vd, v42, vf, v37⟩
    · rw [if_pos hk]; simp only [List.cons_append, List.headD_cons]; decide
  obtain ⟨n1, n2, n3, n4⟩ := wn_read (r := C) hw (by omega) hC.1 (fun _ => hC.2.1)
  have hB : isF (B.headD 0) = false := wn_head hw rfl (fun _ => hC.2.2.1)
  obtain ⟨m1, m2, m3⟩ := ms_read (r := B) f0 f1 hB
  obtain ⟨q1, q2, q3, q4⟩ := wp_read (r := D) hp (by rw [hD]; exact vd) (by rw [hD]; exact v46)
  have e1 : l1 A = B := by rw [l1, m1]; exact m3
  have e2 : l2 A = C := by rw [l2, e1, n4]; exact List.drop_left
  have e3 : l3 A = D := by rw [l3, e2, q4]; exact List.drop_left
  have ev : ve D = 0 := by rw [ve, if_neg (by simp [D]), hD, if_neg (by omega)]
  have ed : de A = 0 := by rw [de, e1, e2, e3, n1, q1, ev]; simp
  have eu : du A = (ms p.fl).length + (wn p.wk p.wd).length + (if p.pk ≠ 0 then 46 :: wn p.pk p.pr else []).length + 1 := by
    rw [du, e1, e2, e3, n1, q1, vu, ev, n4, q4, m1]; simp
  have ep : dp A = p := by
    rw [dp, if_pos ed, e1, e2, e3]
    exact Pc.eq ht.symm (by rw [vv, if_pos ev, hD]) m2 n2 n3 q2 q3
  have hA : A.headD 0 ≠ 37 := by
    show (ms p.fl ++ B).headD 0 ≠ 37
    cases hm : ms p.fl with
    | cons c l =>
      have : isF c = true := by
        have : ct isF (c :: l ++ B) = (c :: l).length := by rw [← hm]; exact m1
        by_cases hf : isF c = true
        · exact hf
        · rw [List.cons_append, ct, if_neg hf] at this; simp at this
      simp only [List.cons_append, List.headD_cons]
      rcases isF_cases.1 this with h | h | h | h | h <;> omega
    | nil =>
      rw [List.nil_append]
      show (wn p.wk p.wd ++ C).headD 0 ≠ 37
      rcases hw with ⟨c | c, hn⟩ | ⟨c, h1, h2⟩
      · rw [c, hn]; exact hC.2.2.2
      · rw [c, hn]; simp [wn]
      · rw [c]
        obtain ⟨x, m, ec, c1, c2⟩ := dl_head p.wd.toNat (by omega)
        have : wn 1 p.wd = x :: m := ec
        rw [this]
        simp only [List.cons_append, List.headD_cons]; omega
  rw [eA]
  have z : ¬ (37 :: A).headD 0 ≠ 37 := by simp
  have y : ¬ (37 :: A).tail.headD 0 = 37 := hA
  unfold qe qp qu
  rw [if_neg z, if_neg z, if_neg z, if_neg y, if_neg y, if_neg y]
  exact ⟨ed, ep, by rw [List.tail_cons, eu, len]; omega⟩

theorem pct_read {p : Pc} (h : isP p) (r : List Int) : qe (wr p ++ r) = 0 ∧ qp (wr p ++ r) = p ∧ qu (wr p ++ r) = (wr p).length := by
  obtain ⟨h1, h2, h3, h4, h5, h6, h7⟩ := h
  have e : wr p = [37, 37] := by rw [wr, h2]; simp
  rw [e]
  refine ⟨by simp [qe], ?_, by simp [qu]⟩
  rw [qp]
  simp only [List.cons_append, List.headD_cons, List.tail_cons, ne_eq, not_true_eq_false, if_false, if_true]
  exact Pc.eq h1.symm h2.symm h3.symm h4.symm h5.symm h6.symm h7.symm

theorem isX_of {t : List Int} (h : idx t 37 < 0) : ∀ x ∈ t, isX x = true := by
  induction t with
  | nil => simp
  | cons c l ih =>
    rw [idx] at h
    split at h
    · omega
    · rename_i hc
      have : idx l 37 < 0 := by split at h <;> omega
      intro x hx
      rcases List.mem_cons.1 hx with rfl | hx
      · simp [isX, hc]
      · exact ih this x hx
theorem txt_read {p : Pc} (h : isT p) (r : List Int) (hr : r = [] ∨ r.headD 0 = 37) : qe (wr p ++ r) = 0 ∧ qp (wr p ++ r) = p ∧ qu (wr p ++ r) = (wr p).length := by
  obtain ⟨h1, h2, h3, h4, h5, h6, h7, h8⟩ := h
  have e : wr p = p.t := by rw [wr, if_pos h2]
  have hx := isX_of h8
  have hc : ct isX (p.t ++ r) = p.t.length := by
    rw [ct_app hx]
    rcases hr with hr | hr
    · rw [hr]; rfl
    · rw [ct_zero (by rw [hr]; decide)]; rfl
  have hd : (p.t ++ r).headD 0 ≠ 37 := by
    cases ht : p.t with
    | nil => exact absurd ht h1
    | cons c l =>
      have := hx c (by rw [ht]; simp)
      simpa [isX] using this
  rw [e]
  unfold qe qp qu
  rw [if_pos hd, if_pos hd, if_pos hd, hc]
  exact ⟨rfl, Pc.eq (by simp) h2.symm h3.symm h4.symm h5.symm h6.symm h7.symm, rfl⟩
end Dr
end Go.Proofs.YtaadooippelcfaaDoor
