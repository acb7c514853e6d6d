/-
  Texts put together: DBackN, DMem, DFlags.
-/
import Derived.Test.YtpmmbaahoegmlaaGreatDoorRA
import Derived.Test.YtpmmbaahoegmlaaGreatDoorV0
import Derived.Test.YtpmmbaahoegmlaaGreatDoorVStr
import Derived.Deep.LoopGhost
import Derived.Deep.RegionHeld3
import Derived.Deep.CutBlock
import Derived.OwnWalk
import Derived.Deep.CutRange
namespace Go.Proofs.YtpmmbaahoegmlaaGreatDoor
namespace Dr

/-- The flags' marks. -/
def ms (f : Int) : List Int := (if f.toNat % 2 = 1 then [45] else []) ++ (if f.toNat / 2 % 2 = 1 then [43] else []) ++ (if f.toNat / 4 % 2 = 1 then [32] else []) ++ (if f.toNat / 8 % 2 = 1 then [35] else []) ++ (if f.toNat / 16 % 2 = 1 then [48] else [])
def wn (k n : Int) : List Int := if k = 1 then Sc.dl n.toNat else if k = 2 then [42] else []
/-- A piece as a format has it. -/
def wr (p : Pc) : List Int := if p.v = 0 then p.t else if p.v = 37 then [37, 37] else 37 :: (ms p.fl ++ wn p.wk p.wd ++ (if p.pk ≠ 0 then 46 :: wn p.pk p.pr else []) ++ [p.v])

/-- In form. -/
def num (k n l : Int) : Prop := ((k = 0 ∨ k = 2) ∧ n = 0) ∨ (k = 1 ∧ l ≤ n ∧ n ≤ 4096)
def isT (p : Pc) : Prop := p.t ≠ [] ∧ p.v = 0 ∧ p.fl = 0 ∧ p.wk = 0 ∧ p.wd = 0 ∧ p.pk = 0 ∧ p.pr = 0 ∧ idx p.t 37 < 0
def isP (p : Pc) : Prop := p.t = [] ∧ p.v = 37 ∧ p.fl = 0 ∧ p.wk = 0 ∧ p.wd = 0 ∧ p.pk = 0 ∧ p.pr = 0
def isR (p : Pc) : Prop := 0 ≤ idx verbs p.v ∧ p.t = [] ∧ 0 ≤ p.fl ∧ p.fl ≤ 31 ∧ num p.wk p.wd 1 ∧ num p.pk p.pr 0
def ok (p : Pc) : Prop := isT p ∨ isP p ∨ isR p
instance (k n l : Int) : Decidable (num k n l) := inferInstanceAs (Decidable (_ ∨ _))
instance (p : Pc) : Decidable (isT p) := inferInstanceAs (Decidable (_ ∧ _))
instance (p : Pc) : Decidable (isP p) := inferInstanceAs (Decidable (_ ∧ _))
instance (p : Pc) : Decidable (isR p) := inferInstanceAs (Decidable (_ ∧ _))
instance (p : Pc) : Decidable (ok p) := inferInstanceAs (Decidable (_ ∨ _))

theorem Pc.eq {p q : Pc} (h1 : p.t = q.t) (h2 : p.v = q.v) (h3 : p.fl = q.fl) (h4 : p.wk = q.wk) (h5 : p.wd = q.wd) (h6 : p.pk = q.pk) (h7 : p.pr = q.pr) : p = q := by
  cases p; cases q; simp_all

theorem idx_cons {x c : Int} {l : List Int} (h : 0 ≤ idx (x :: l) c) : c = x ∨ 0 ≤ idx l c := by
  rw [idx] at h
  split at h
  · rename_i e; exact .inl e.symm
  · split at h
    · omega
    · exact .inr (by omega)
theorem verb_cases {c : Int} (h : 0 ≤ idx verbs c) : c = 100 ∨ c = 105 ∨ c = 111 ∨ c = 117 ∨ c = 120 ∨ c = 88 ∨ c = 99 ∨ c = 115 ∨ c = 101 ∨ c = 69 ∨ c = 102 ∨ c = 70 ∨ c = 103 ∨ c = 71 := by
  unfold verbs at h
  iterate 13 (rcases idx_cons h with h | h; · omega)
  rcases idx_cons h with h | h
  · omega
  · simp [idx] at h
theorem verb_ne {c : Int} (h : 0 ≤ idx verbs c) : c ≠ 0 ∧ c ≠ 37 ∧ c ≠ 42 ∧ c ≠ 46 ∧ isD c = false ∧ isF c = false ∧ 0 ≤ c ∧ c < 256 := by
  rcases verb_cases h with h | h | h | h | h | h | h | h | h | h | h | h | h | h <;> subst h <;> decide

theorem isF_cases {c : Int} : isF c = true ↔ c = 45 ∨ c = 43 ∨ c = 32 ∨ c = 35 ∨ c = 48 := by
  constructor
  · intro h
    simp only [isF, decide_eq_true_eq] at h
    unfold marks at h
    iterate 4 (rcases idx_cons h with h | h; · omega)
    rcases idx_cons h with h | h
    · omega
    · simp [idx] at h
  · rintro (h | h | h | h | h) <;> subst h <;> decide
theorem isF_no {c : Int} (h1 : c ≠ 45) (h2 : c ≠ 43) (h3 : c ≠ 32) (h4 : c ≠ 35) (h5 : c ≠ 48) : isF c = false := by
  cases h : isF c
  · rfl
  · rcases isF_cases.1 h with h | h | h | h | h <;> contradiction

theorem fS_stop {s : Nat} {r : List Int} (h : isF (r.headD 0) = false) : fS s r = s := by
  cases r with
  | nil => rfl
  | cons c l => rw [fS, if_neg (by simp only [List.headD_cons] at h; rw [h]; simp)]
theorem ms_read {f : Int} {r : List Int} (h0 : 0 ≤ f) (h1 : f ≤ 31) (h : isF (r.headD 0) = false) : ct isF (ms f ++ r) = (ms f).length ∧ (fS 0 (ms f ++ r) : Int) = f ∧ (ms f ++ r).drop (ms f).length = r := by
  refine ⟨?_, ?_, List.drop_left⟩
  · rw [ct_app, ct_zero h]
    · rfl
    · intro x hx
      have : x = 45 ∨ x = 43 ∨ x = 32 ∨ x = 35 ∨ x = 48 := by
        unfold ms at hx
        simp only [List.mem_append] at hx
        rcases hx with (((hx | hx) | hx) | hx) | hx <;> (split at hx <;> simp at hx) <;> omega
      exact isF_cases.2 this
  · have e : ∀ f : Fin 32, fS 0 (ms (f.val : Int) ++ r) = f.val := by
      intro f
      have key : ∀ (g : Fin 32) (c : Nat), (∀ s, fS s r = s) → fS 0 (ms (g.val : Int) ++ r) = g.val ∨ c = 1 := by
        intro g c hs
        left
        rcases g with ⟨g, hg⟩
        have : g = 0 ∨ g = 1 ∨ g = 2 ∨ g = 3 ∨ g = 4 ∨ g = 5 ∨ g = 6 ∨ g = 7 ∨ g = 8 ∨ g = 9 ∨ g = 10 ∨ g = 11 ∨ g = 12 ∨ g = 13 ∨ g = 14 ∨ g = 15 ∨ g = 16 ∨ g = 17 ∨ g = 18 ∨ g = 19 ∨ g = 20 ∨ g = 21 ∨ g = 22 ∨ g = 23 ∨ g = 24 ∨ g = 25 ∨ g = 26 ∨ g = 27 ∨ g = 28 ∨ g = 29 ∨ g = 30 ∨ g = 31 := by omega
        rcases this with h | h | h | h | h | h | h | h | h | h | h | h | h | h | h | h | h | h | h | h | h | h | h | h | h | h | h | h | h | h | h | h <;> subst h <;> simp [ms, fS, isF, marks, idx, hs]
      rcases key f 0 (fun s => fS_stop h) with h | h
      · exact h
      · omega
    have := e ⟨f.toNat, by omega⟩
    simp only at this
    rw [show ((f.toNat : Nat) : Int) = f by omega] at this
    rw [this]; omega

/-- Digits' value, uncapped. -/
def dw (n : Int) : List Int → Int
  | [] => n
  | c :: l => dw (10 * n + (c - 48)) l
theorem dw_ge {n : Int} {l : List Int} (h0 : 0 ≤ n) (h : ∀ x ∈ l, isD x = true) : n ≤ dw n l := by
  induction l generalizing n with
  | nil => simp [dw]
  | cons c l ih =>
    have := isD_iff.1 (h c (by simp))
    have := ih (n := 10 * n + (c - 48)) (by omega) (fun x hx => h x (by simp [hx]))
    rw [dw]; omega
theorem dN_dw {n : Int} {l r : List Int} (h0 : 0 ≤ n) (h : ∀ x ∈ l, isD x = true) (hr : isD (r.headD 0) = false) (hb : dw n l ≤ 4096) : dN n (l ++ r) = dw n l := by
  induction l generalizing n with
  | nil =>
    cases r with
    | nil => rfl
    | cons c r => rw [List.nil_append, dN, if_neg (by simp only [List.headD_cons] at hr; rw [hr]; simp), dw]
  | cons c l ih =>
    have hc := h c (by simp)
    have := isD_iff.1 hc
    have k : ∀ x ∈ l, isD x = true := fun x hx => h x (by simp [hx])
    rw [dw] at hb
    have := dw_ge (n := 10 * n + (c - 48)) (by omega) k
    rw [List.cons_append, dN, if_pos hc, Int.min_eq_left (by omega), ih (by omega) k hb, dw]
theorem dw_app {n : Int} {a b : List Int} : dw n (a ++ b) = dw (dw n a) b := by
  induction a generalizing n with
  | nil => rfl
  | cons c l ih => rw [List.cons_append, dw, dw, ih]
theorem dl_D (u : Nat) : ∀ x ∈ Sc.dl u, isD x = true := fun x hx => by
  have := Sc.dg_iff.1 ((Sc.dl_is u).1 x hx)
  exact isD_iff.2 this
theorem dl_dw (u : Nat) : dw 0 (Sc.dl u) = u := by
  induction u using Nat.strongRecOn with
  | _ u ih =>
    by_cases h : u < 10
    · rw [Sc.dl_small h]; simp only [dw]; omega
    · rw [Sc.dl_big h, dw_app, ih (u / 10) (by omega)]; simp only [dw]; omega
theorem dl_head (u : Nat) (h1 : 1 ≤ u) : ∃ c l, Sc.dl u = c :: l ∧ 49 ≤ c ∧ c ≤ 57 := by
  induction u using Nat.strongRecOn with
  | _ u ih =>
    by_cases h : u < 10
    · exact ⟨_, _, Sc.dl_small h, by omega, by omega⟩
    · obtain ⟨c, l, e, h2, h3⟩ := ih (u / 10) (by omega) (by omega)
      exact ⟨c, l ++ [48 + ((u % 10 : Nat) : Int)], by rw [Sc.dl_big h, e]; rfl, h2, h3⟩
theorem dl_cons (u : Nat) : ∃ c l, Sc.dl u = c :: l ∧ 48 ≤ c ∧ c ≤ 57 := by
  cases h : Sc.dl u with
  | nil => exact absurd h (Sc.dl_is u).2.1
  | cons c l =>
    have := isD_iff.1 (dl_D u c (by rw [h]; simp))
    exact ⟨c, l, rfl, this⟩

/-- A number as it is written, read back. -/
theorem wn_read {k n l : Int} {r : List Int} (h : num k n l) (hl : 0 ≤ l) (hr : isD (r.headD 0) = false) (hs : k = 0 → r.headD 0 ≠ 42) : ne (wn k n ++ r) = 0 ∧ nk (wn k n ++ r) = k ∧ nv (wn k n ++ r) = n ∧ nu (wn k n ++ r) = (wn k n).length := by
  rcases h with ⟨hk | hk, hn⟩ | ⟨hk, h1, h2⟩
  · subst hk; subst hn
    have c0 := ct_zero (p := isD) hr
    have hs := hs rfl
    have e : wn 0 0 = [] := rfl
    rw [e, List.nil_append]
    unfold ne nk nv nu
    rw [if_neg hs, if_neg hs, if_neg hs, if_neg hs, if_pos c0, if_pos c0, if_pos c0, if_pos c0]
    simp
  · subst hk; subst hn
    simp [wn, ne, nk, nv, nu]
  · subst hk
    have e : wn 1 n = Sc.dl n.toNat := rfl
    obtain ⟨c, m, ec, c1, c2⟩ := dl_cons n.toNat
    have a1 : ct isD (wn 1 n ++ r) = (wn 1 n).length := by
      rw [e, ct_app (dl_D _), ct_zero hr]; rfl
    have a2 : dN 0 (wn 1 n ++ r) = n := by
      have := dl_dw n.toNat
      rw [e, dN_dw (by omega) (dl_D _) hr (by omega), this]; omega
    have a3 : ¬ (wn 1 n ++ r).headD 0 = 42 := by rw [e, ec]; simp; omega
    have a4 : ¬ (wn 1 n).length = 0 := by rw [e, ec]; simp
    unfold ne nk nv nu
    rw [a1, a2]
    simp only [if_neg a3, if_neg a4, if_neg (show ¬ 4096 < n by omega)]
    exact ⟨trivial, trivial, trivial, trivial⟩
theorem wn_head {k n l : Int} {r : List Int} (h : num k n l) (hl : l = 1) (hk : k = 0 → isF (r.headD 0) = false) : isF ((wn k n ++ r).headD 0) = false := by
  rcases h with ⟨c | c, hn⟩ | ⟨c, h1, h2⟩
  · subst c; subst hn; exact hk rfl
  · subst c; subst hn; simp [wn]; decide
  · subst c
    obtain ⟨c, m, ec, c1, c2⟩ := dl_head n.toNat (by omega)
    have : wn 1 n = c :: m := ec
    rw [this]
    simp only [List.cons_append, List.headD_cons]
    exact isF_no (by omega) (by omega) (by omega) (by omega) (by omega)

/-- A precision as it is written, read back. -/
theorem wp_read {k n : Int} {r : List Int} (h : num k n 0) (hr : isD (r.headD 0) = false) (h6 : r.headD 0 ≠ 46) : pe ((if k ≠ 0 then 46 :: wn k n else []) ++ r) = 0 ∧ pk ((if k ≠ 0 then 46 :: wn k n else []) ++ r) = k ∧ pv ((if k ≠ 0 then 46 :: wn k n else []) ++ r) = n ∧ pu ((if k ≠ 0 then 46 :: wn k n else []) ++ r) = (if k ≠ 0 then 46 :: wn k n else []).length := by
  by_cases hk : k = 0
  · have hn : n = 0 := by rcases h with ⟨_, h⟩ | ⟨h, _⟩ <;> omega
    subst hk; subst hn
    rw [if_neg (by simp), List.nil_append]
    unfold pe pk pv pu
    rw [if_neg h6, if_neg h6, if_neg h6, if_neg h6]
    simp
  · obtain ⟨a, b, c, d⟩ := wn_read (r := r) h (by omega) hr (fun e => absurd e hk)
    rw [if_pos hk, List.cons_append]
    have z : (46 :: (wn k n ++ r)).headD 0 = 46 := rfl
    have y : (46 :: (wn k n ++ r)).tail = wn k n ++ r := rfl
    unfold pe pk pv pu
    rw [if_pos z, if_pos z, if_pos z, if_pos z, y, if_neg (by rw [b]; exact fun e => hk e.2)]
    refine ⟨a, b, c, ?_⟩
    rw [d, List.length_cons]; omega
/-- A directive, read back, whatever stands behind it. -/
theorem dir_read {p : Pc} (h : isR p) (r : List Int) : qe (wr p ++ r) = 0 ∧ qp (wr p ++ r) = p ∧ qu (wr p ++ r) = (wr p).length := by
  obtain ⟨hv, ht, f0, f1, hw, hp⟩ := h
  obtain ⟨v0, v37, v42, v46, vd, vf, _, _⟩ := verb_ne hv
  let D := p.v :: r
  let C := (if p.pk ≠ 0 then 46 :: wn p.pk p.pr else []) ++ D
  let B := wn p.wk p.wd ++ C
  let A := ms p.fl ++ B
  have eA : wr p ++ r = 37 :: A := by
    show wr p ++ r = 37 :: (ms p.fl ++ (wn p.wk p.wd ++ ((if p.pk ≠ 0 then 46 :: wn p.pk p.pr else []) ++ p.v :: r)))
    rw [wr, if_neg v0, if_neg v37]; simp
  have len : (wr p).length = 1 + ((ms p.fl).length + ((wn p.wk p.wd).length + ((if p.pk ≠ 0 then 46 :: wn p.pk p.pr else []).length + 1))) := by
    rw [wr, if_neg v0, if_neg v37]; simp; omega
  have hD : D.headD 0 = p.v := rfl
  have hC : isD (C.headD 0) = false ∧ C.headD 0 ≠ 42 ∧ isF (C.headD 0) = false ∧ C.headD 0 ≠ 37 := by
    show isD (((if p.pk ≠ 0 then 46 :: wn p.pk p.pr else []) ++ D).headD 0) = false ∧ ((if p.pk ≠ 0 then 46 :: wn p.pk p.pr else []) ++ D).headD 0 ≠ 42 ∧ isF (((if p.pk ≠ 0 then 46 :: wn p.pk p.pr else []) ++ D).headD 0) = false ∧ ((if p.pk ≠ 0 then 46 :: wn p.pk p.pr else []) ++ D).headD 0 ≠ 37
    by_cases hk : p.pk = 0
    · rw [if_neg (by simp [hk]), List.nil_append, hD]; exact ⟨vd, v42, vf, v37⟩
    · rw [if_pos hk]; simp only [List.cons_append, List.headD_cons]; decide
  obtain ⟨n1, n2, n3, n4⟩ := wn_read (r := C) hw (by omega) hC.1 (fun _ => hC.2.1)
  have hB : isF (B.headD 0) = false := wn_head hw rfl (fun _ => hC.2.2.1)
  obtain ⟨m1, m2, m3⟩ := ms_read (r := B) f0 f1 hB
  obtain ⟨q1, q2, q3, q4⟩ := wp_read (r := D) hp (by rw [hD]; exact vd) (by rw [hD]; exact v46)
  have e1 : l1 A = B := by rw [l1, m1]; exact m3
  have e2 : l2 A = C := by rw [l2, e1, n4]; exact List.drop_left
  have e3 : l3 A = D := by rw [l3, e2, q4]; exact List.drop_left
  have ev : ve D = 0 := by rw [ve, if_neg (by simp [D]), hD, if_neg (by omega)]
  have ed : de A = 0 := by rw [de, e1, e2, e3, n1, q1, ev]; simp
  have eu : du A = (ms p.fl).length + (wn p.wk p.wd).length + (if p.pk ≠ 0 then 46 :: wn p.pk p.pr else []).length + 1 := by
    rw [du, e1, e2, e3, n1, q1, vu, ev, n4, q4, m1]; simp
  have ep : dp A = p := by
    rw [dp, if_pos ed, e1, e2, e3]
    exact Pc.eq ht.symm (by rw [vv, if_pos ev, hD]) m2 n2 n3 q2 q3
  have hA : A.headD 0 ≠ 37 := by
    show (ms p.fl ++ B).headD 0 ≠ 37
    cases hm : ms p.fl with
    | cons c l =>
      have : isF c = true := by
        have : ct isF (c :: l ++ B) = (c :: l).length := by rw [← hm]; exact m1
        by_cases hf : isF c = true
        · exact hf
        · rw [List.cons_append, ct, if_neg hf] at this; simp at this
      simp only [List.cons_append, List.headD_cons]
      rcases isF_cases.1 this with h | h | h | h | h <;> omega
    | nil =>
      rw [List.nil_append]
      show (wn p.wk p.wd ++ C).headD 0 ≠ 37
      rcases hw with ⟨c | c, hn⟩ | ⟨c, h1, h2⟩
      · rw [c, hn]; exact hC.2.2.2
      · rw [c, hn]; simp [wn]
      · rw [c]
        obtain ⟨x, m, ec, c1, c2⟩ := dl_head p.wd.toNat (by omega)
        have : wn 1 p.wd = x :: m := ec
        rw [this]
        simp only [List.cons_append, List.headD_cons]; omega
  rw [eA]
  have z : ¬ (37 :: A).headD 0 ≠ 37 := by simp
  have y : ¬ (37 :: A).tail.headD 0 = 37 := hA
  unfold qe qp qu
  rw [if_neg z, if_neg z, if_neg z, if_neg y, if_neg y, if_neg y]
  exact ⟨ed, ep, by rw [List.tail_cons, eu, len]; omega⟩

theorem pct_read {p : Pc} (h : isP p) (r : List Int) : qe (wr p ++ r) = 0 ∧ qp (wr p ++ r) = p ∧ qu (wr p ++ r) = (wr p).length := by
  obtain ⟨h1, h2, h3, h4, h5, h6, h7⟩ := h
  have e : wr p = [37, 37] := by rw [wr, h2]; simp
  rw [e]
  refine ⟨by simp [qe], ?_, by simp [qu]⟩
  rw [qp]
  simp only [List.cons_append, List.headD_cons, List.tail_cons, ne_eq, not_true_eq_false, if_false, if_true]
  exact Pc.eq h1.symm h2.symm h3.symm h4.symm h5.symm h6.symm h7.symm

theorem isX_of {t : List Int} (h : idx t 37 < 0) : ∀ x ∈ t, isX x = true := by
  induction t with
  | nil => simp
  | cons c l ih =>
    rw [idx] at h
    split at h
    · omega
    · rename_i hc
      have : idx l 37 < 0 := by split at h <;> omega
      intro x hx
      rcases List.mem_cons.1 hx with rfl | hx
      · simp [isX, hc]
      · exact ih this x hx
theorem txt_read {p : Pc} (h : isT p) (r : List Int) (hr : r = [] ∨ r.headD 0 = 37) : qe (wr p ++ r) = 0 ∧ qp (wr p ++ r) = p ∧ qu (wr p ++ r) = (wr p).length := by
  obtain ⟨h1, h2, h3, h4, h5, h6, h7, h8⟩ := h
  have e : wr p = p.t := by rw [wr, if_pos h2]
  have hx := isX_of h8
  have hc : ct isX (p.t ++ r) = p.t.length := by
    rw [ct_app hx]
    rcases hr with hr | hr
    · rw [hr]; rfl
    · rw [ct_zero (by rw [hr]; decide)]; rfl
  have hd : (p.t ++ r).headD 0 ≠ 37 := by
    cases ht : p.t with
    | nil => exact absurd ht h1
    | cons c l =>
      have := hx c (by rw [ht]; simp)
      simpa [isX] using this
  rw [e]
  unfold qe qp qu
  rw [if_pos hd, if_pos hd, if_pos hd, hc]
  exact ⟨rfl, Pc.eq (by simp) h2.symm h3.symm h4.symm h5.symm h6.symm h7.symm, rfl⟩
end Dr
end Go.Proofs.YtpmmbaahoegmlaaGreatDoor

namespace Go.Proofs.YtpmmbaahoegmlaaGreatDoor
open Go Go.RowKit Go.Deep Go.Shelf

/-- Only the block g, and new ones, have changed. -/
structure Oth (g : Nat) (w w' : World) : Prop where
  os : w'.os = w.os
  tape : w'.tape = w.tape
  output : w'.output = w.output
  size : w.heap.size ≤ w'.heap.size
  block : ∀ j, j < w.heap.size → j ≠ g → w'.heap[j]? = w.heap[j]?

theorem Oth.refl (g : Nat) (w : World) : Oth g w w := ⟨rfl, rfl, rfl, Nat.le_refl _, fun _ _ _ => rfl⟩
theorem Oth.trans {g : Nat} {a b c : World} (h : Oth g a b) (k : Oth g b c) : Oth g a c :=
  ⟨k.os.trans h.os, k.tape.trans h.tape, k.output.trans h.output, Nat.le_trans h.size k.size, fun i hi hs => (k.block i (Nat.lt_of_lt_of_le hi h.size) hs).trans (h.block i hi hs)⟩
theorem Oth.of_below {g : Nat} {a b : World} (h : Below a.heap.size a b) : Oth g a b := ⟨h.os, h.tape, h.output, h.size, fun i hi _ => h.block i hi⟩
theorem Oth.below {g B : Nat} {a b : World} (h : Oth g a b) (hg : B ≤ g) (hB : B ≤ a.heap.size) : Below B a b := ⟨h.os, h.tape, h.output, h.size, fun i hi => h.block i (by omega) (by omega)⟩
theorem Oth.set {w : World} {g : Nat} (i : Nat) (v : Value) : Oth g w (w.setCell ⟨g, i, none⟩ v) := by
  refine ⟨rfl, rfl, rfl, by simp [World.setCell], fun j _ hne => ?_⟩
  simp only [World.setCell, Array.getElem?_modify]
  rw [if_neg (fun h => hne h.symm)]

/-- A reader: its format and the place where it stands. -/
def RB (w : World) (b : Nat) (s : ByteArray) (k : Nat) : Prop := w.heap[b]? = some (.cells #[.string s, .int .i64 (k : Int)] 180 (0, 0))
theorem RB.cells {w : World} {b k : Nat} {s : ByteArray} (h : RB w b s k) :
    (w.cell? ⟨b, 0, none⟩ = some (.string s) ∧ w.cell? ⟨b, 1, none⟩ = some (.int .i64 (k : Int))) ∧ w.frozen? ⟨b, 1, none⟩ = false := by
  simp only [RB] at h
  refine ⟨⟨?_, ?_⟩, ?_⟩ <;> simp [World.cell?, World.frozen?, h]
theorem RB.lt {w : World} {b k : Nat} {s : ByteArray} (h : RB w b s k) : b < w.heap.size := by
  rcases Nat.lt_or_ge b w.heap.size with hl | hl
  · exact hl
  · simp [RB, Array.getElem?_eq_none hl] at h
theorem RB.below {w w' : World} {b k : Nat} {s : ByteArray} (h : RB w b s k) (hB : Below w.heap.size w w') : RB w' b s k := by
  rw [RB, hB.block b h.lt]; exact h
theorem RB.set {w : World} {b k : Nat} {s : ByteArray} (h : RB w b s k) {j : Nat} {v : Int} (e : v = (j : Int)) : RB (w.setCell ⟨b, 1, none⟩ (.int .i64 v)) b s j := by
  subst e
  simp only [RB] at *
  simp [World.setCell, Array.getElem?_modify, h]
theorem RB.new (w : World) (s : ByteArray) : RB (w.alloc (.cells #[.string s, .int .i64 0] 180)) w.heap.size s 0 := heap_alloc_new w _

theorem idx_lib (l : List UInt8) (c : UInt8) : Lib.indexByte l c = Dr.idx (l.map fun b => (b.toNat : Int)) (c.toNat : Int) := by
  induction l with
  | nil => rfl
  | cons b l ih =>
    rw [Lib.indexByte, List.map_cons, Dr.idx, ← ih]
    have h := Lib.indexByte_ge l c
    by_cases e : b = c
    · subst e; simp
    · have e1 : ¬ (b == c) = true := by simpa using e
      have e2 : ¬ (b.toNat : Int) = (c.toNat : Int) := fun h => e (UInt8.toNat_inj.1 (by omega))
      rw [if_neg e1, if_neg e2]
      by_cases k : Lib.indexByte l c = -1
      · have k1 : (Lib.indexByte l c == -1) = true := by simpa using k
        rw [if_pos k1, if_pos (show Lib.indexByte l c < 0 by omega)]
      · have k1 : ¬ (Lib.indexByte l c == -1) = true := by simpa using k
        rw [if_neg k1, if_neg (show ¬ Lib.indexByte l c < 0 by omega)]

theorem idx_any (s : ByteArray) (xs : List Int) (c : Int) (w : World) (hs : Str s xs) (h0 : 0 ≤ c) (h1 : c < 256) :
    Calls Tryz.prog 94 #[.string s, .int .u8 c] w fun e w' => e = .returned (.int .i64 (Dr.idx xs c)) ∧ w' = w := by
  have h := Any.strings_IndexByte dixLays s c w
  change Calls Tryz.prog 94 _ _ _ at h
  rw [idx_lib, show ((c.toNat.toUInt8).toNat : Int) = c by
    rw [Nat.toUInt8, UInt8.toNat_ofNat_of_lt' (by show c.toNat < 256; omega)]; omega] at h
  rw [show s.data.toList.map (fun b => (b.toNat : Int)) = xs from hs] at h
  exact h

set_option maxRecDepth 100000 in
theorem next_any (b k : Nat) (s : ByteArray) (xs : List Int) (w : World) (hs : Str s xs) (hk : k ≤ xs.length) (h : RB w b s k) :
    Calls Tryz.prog 135 #[.pointer (some ⟨b, 0, none⟩)] w fun e w' => e = .returned (.int .u8 (Dr.nx xs k)) ∧ Below w.heap.size w w' := by
  have hsz := hs.size
  obtain ⟨⟨c0, c1⟩, -⟩ := h.cells
  have D := hid (below_drewN (Below.refl w.heap.size w))
  by_cases he : k = xs.length
  · have hx : Hid (Dr.nx xs k = 0) := by rw [Hid, he]; simp [Dr.nx, List.getD]
    have he2 : (k : Int) = (xs.length : Int) := by omega
    clear h hs hk he
    go_enter Tryz.func135, Tryz.ntmps135
    go_upto_region 1 with fail
    go_quiet (fail)
    go_wp2_with fail
    go_ret
    exact ⟨by rw [hx.out]; rfl, D.out _⟩
  · have he2 : ¬ (k : Int) = (xs.length : Int) := by omega
    have hlt : (k : Int) < (xs.length : Int) := by omega
    have hx : ∀ h : k < s.size, ((s[k]'h).toNat : Int) = Dr.nx xs k := fun h => hs.at k h
    generalize Dr.nx xs k = x at *
    clear h hs hk he
    go_enter Tryz.func135, Tryz.ntmps135
    go_upto_region 1 with fail
    go_quiet (fail)
    go_wp2_with fail
    go_quiet (fail)
    go_wp2_with fail
    go_ret
    exact ⟨rfl, below_drewN (D.out _) _⟩
end Go.Proofs.YtpmmbaahoegmlaaGreatDoor

namespace Go.Proofs.YtpmmbaahoegmlaaGreatDoor
open Go Go.RowKit Go.Deep Go.Shelf

namespace Dr
theorem ct_drop {p : Int → Bool} {xs : List Int} {k : Nat} (hk : k < xs.length) : ct p (xs.drop k) = if p (nx xs k) = true then ct p (xs.drop (k + 1)) + 1 else 0 := by
  rw [List.drop_eq_getElem_cons hk, ct, nx, List.getD_eq_getElem?_getD, List.getElem?_eq_getElem hk]; rfl
theorem fS_drop {s : Nat} {xs : List Int} {k : Nat} (hk : k < xs.length) : fS s (xs.drop k) = if isF (nx xs k) = true then fS (s ||| 2 ^ (idx marks (nx xs k)).toNat) (xs.drop (k + 1)) else s := by
  rw [List.drop_eq_getElem_cons hk, fS, nx, List.getD_eq_getElem?_getD, List.getElem?_eq_getElem hk]; rfl
theorem dN_drop {n : Int} {xs : List Int} {k : Nat} (hk : k < xs.length) : dN n (xs.drop k) = if isD (nx xs k) = true then dN (min (10 * n + (nx xs k - 48)) 4097) (xs.drop (k + 1)) else n := by
  rw [List.drop_eq_getElem_cons hk, dN, nx, List.getD_eq_getElem?_getD, List.getElem?_eq_getElem hk]; rfl
theorem head_drop (xs : List Int) (k : Nat) : (xs.drop k).headD 0 = nx xs k := by
  rcases Nat.lt_or_ge k xs.length with h | h
  · rw [List.drop_eq_getElem_cons h, nx, List.getD_eq_getElem?_getD, List.getElem?_eq_getElem h]; rfl
  · rw [List.drop_of_length_le h, nx, List.getD_eq_getElem?_getD, List.getElem?_eq_none h]; rfl
theorem getD_pos {xs : List Int} {k : Nat} (h : nx xs k ≠ 0) : k < xs.length := by
  rcases Nat.lt_or_ge k xs.length with c | c
  · exact c
  · exact absurd (by rw [nx, List.getD_eq_getElem?_getD, List.getElem?_eq_none c]; rfl) h
theorem or_lt {s i : Nat} (hs : s < 32) (hi : i < 5) : s ||| 2 ^ i < 32 :=
  Nat.or_lt_two_pow (n := 5) hs (Nat.pow_lt_pow_right (by omega) hi)
theorem fS_lt {s : Nat} (l : List Int) (hs : s < 32) : fS s l < 32 := by
  induction l generalizing s with
  | nil => exact hs
  | cons c l ih =>
    rw [fS]
    split
    · have := idx_lt marks c
      have := idx_ge marks c
      exact ih (or_lt hs (by simp [marks] at *; omega))
    · exact hs
end Dr

/-- What flags tells. -/
def FTold (b : Nat) (s : ByteArray) (l : List Int) (k : Nat) (w : World) (r : Ending) (w' : World) : Prop := r = .returned (.int .i64 (Dr.fS 0 l : Nat)) ∧ RB w' b s (k + Dr.ct Dr.isF l) ∧ Oth b w w'

theorem or_is (t i : Nat) (ht : t < 32) (hi : i < 5) : bits .or .i64 (t : Int) (wrap64 (2 ^ i)) = ((t ||| 2 ^ i : Nat) : Int) := by
  have key : ∀ (t : Fin 32) (i : Fin 5), bits .or .i64 (t.val : Int) (IntKind.i64.wrap (1 * 2 ^ i.val)) = ((t.val ||| 2 ^ i.val : Nat) : Int) := by decide
  have e : wrap64 (2 ^ i) = IntKind.i64.wrap (1 * 2 ^ i) := by
    rw [IntKind.wrap_i64, Int.one_mul, wrap64]
  rw [e]
  exact key ⟨t, ht⟩ ⟨i, hi⟩

set_option maxRecDepth 100000 in
theorem flags_any (b k : Nat) (s : ByteArray) (xs : List Int) (w : World) (hs : Str s xs) (hk : k ≤ xs.length) (hl : xs.length ≤ 4611686018427387904) (h : RB w b s k) :
    Calls Tryz.prog 168 #[.pointer (some ⟨b, 0, none⟩)] w fun r w' => FTold b s (xs.drop k) k w r w' := by
  have NX : Hid (∀ (j : Nat) (W : World), j ≤ xs.length → RB W b s j → Calls Tryz.prog 135 #[.pointer (some ⟨b, 0, none⟩)] W fun e w' => e = .returned (.int .u8 (Dr.nx xs j)) ∧ Below W.heap.size W w') := fun j W hj hb => next_any b j s xs W hs hj hb
  have IX : Hid (∀ (c : Int) (W : World), 0 ≤ c → c < 256 → Calls Tryz.prog 94 #[.string ⟨#[45, 43, 32, 35, 48]⟩, .int .u8 c] W fun e w' => e = .returned (.int .i64 (Dr.idx Dr.marks c)) ∧ w' = W) := fun c W h0 h1 => idx_any ⟨#[45, 43, 32, 35, 48]⟩ Dr.marks c W rfl h0 h1
  have HS := hid hs
  have HL := hid hl
  have HK := hid hk
  have H := hid h
  have S0 : Hid (Dr.fS 0 (xs.drop k) < 32) := Dr.fS_lt _ (by omega)
  clear hs h hl hk
  go_enter Tryz.func168, Tryz.ntmps168
  go_wp2_with fail
  go_loopg [3] (xs.length - k) (fun m i wr => ∃ (j t : Nat), j + m = xs.length ∧ i = .int .i64 (t : Int) ∧ Hid (RB wr b s j ∧ Oth b w wr ∧ k ≤ j ∧ t < 32 ∧ j + Dr.ct Dr.isF (xs.drop j) = k + Dr.ct Dr.isF (xs.drop k) ∧ Dr.fS t (xs.drop j) = Dr.fS 0 (xs.drop k)))
  case atStart => exact ⟨k, 0, by have := HK.out; omega, rfl, H.out, Oth.refl _ _, by omega, by omega, rfl, rfl⟩
  case round =>
    obtain ⟨j, t, hj, rfl, I⟩ := hrel
    have hx : 0 ≤ Dr.nx xs j ∧ Dr.nx xs j < 256 := HS.out.atb j
    have hjl : (j : Int) ≤ 4611686018427387904 := by have := HL.out; omega
    go_wp2_with fail
    refine (NX.out j wr (by omega) I.out.1).mono ?_
    rintro e w1 ⟨rfl, hB⟩
    have R1 := hid (I.out.1.below hB)
    have O1 := hid (I.out.2.1.trans (Oth.of_below hB))
    clear hB
    go_wp2_with fail
    refine (IX.out _ w1 hx.1 hx.2).mono ?_
    rintro e w2 ⟨rfl, e2⟩
    rw [e2]
    clear e2 w2
    by_cases hf : Dr.isF (Dr.nx xs j) = true
    · have hlt : j < xs.length := Dr.getD_pos (by rcases Dr.isF_cases.1 hf with h | h | h | h | h <;> rw [h] <;> decide)
      obtain ⟨i, hi⟩ : ∃ i : Nat, Dr.idx Dr.marks (Dr.nx xs j) = (i : Int) := ⟨_, (Int.toNat_of_nonneg (by simpa [Dr.isF] using hf)).symm⟩
      have i5 : i < 5 := by have := Dr.idx_lt Dr.marks (Dr.nx xs j); rw [hi] at this; simp [Dr.marks] at this; omega
      have J : Hid (∀ W, RB W b s (j + 1) → Oth b w W → RB W b s (j + 1) ∧ Oth b w W ∧ k ≤ j + 1 ∧ t ||| 2 ^ i < 32 ∧ j + 1 + Dr.ct Dr.isF (xs.drop (j + 1)) = k + Dr.ct Dr.isF (xs.drop k) ∧ Dr.fS (t ||| 2 ^ i) (xs.drop (j + 1)) = Dr.fS 0 (xs.drop k)) := by
        intro W a1 a2
        obtain ⟨_, _, q1, q2, q3, q4⟩ := I.out
        rw [Dr.ct_drop hlt, if_pos hf] at q3
        rw [Dr.fS_drop hlt, if_pos hf, hi] at q4
        exact ⟨a1, a2, by omega, Dr.or_lt q2 i5, by omega, q4⟩
      have T32 := hid I.out.2.2.2.1
      rw [hi]
      have ii : ¬ (i : Int) < 0 := by omega
      clear I hx
      obtain ⟨⟨c0, c1⟩, fz⟩ := R1.out.cells
      have i64 : (i : Int) ≤ 64 := by omega
      go_wp2_with fail
      go_roundg (xs.length - (j + 1))
      case measure => omega
      case rel =>
        refine ⟨j + 1, t ||| 2 ^ i, by omega, ?_, J.out _ (R1.out.set (by go_num)) (O1.out.trans (Oth.set _ _))⟩
        rw [← or_is t i T32.out i5]
    · have K : Hid (FTold b s (xs.drop k) k w (.returned (.int .i64 (t : Int))) w1) := by
        obtain ⟨_, _, q1, q2, q3, q4⟩ := I.out
        have c0 : Dr.ct Dr.isF (xs.drop j) = 0 := Dr.ct_zero (by rw [Dr.head_drop]; simpa using hf)
        have f0 : Dr.fS t (xs.drop j) = t := Dr.fS_stop (by rw [Dr.head_drop]; simpa using hf)
        rw [c0] at q3
        rw [f0] at q4
        exact ⟨by rw [q4], by rw [← q3]; exact R1.out, O1.out⟩
      have ii : Dr.idx Dr.marks (Dr.nx xs j) < 0 := by simpa [Dr.isF] using hf
      generalize Dr.idx Dr.marks (Dr.nx xs j) = i at *
      clear I hx
      go_wp2_with fail
      go_ret
      exact K.out

/-- What number tells. -/
def NTold (b : Nat) (s : ByteArray) (l : List Int) (k : Nat) (w : World) (r : Ending) (w' : World) : Prop := r = .returned (.tuple #[.int .i64 (Dr.nk l), .int .i64 (Dr.nv l), .int .i64 (Dr.ne l)]) ∧ RB w' b s (k + Dr.nu l) ∧ Oth b w w'

theorem Dr.dN_stop {n : Int} {r : List Int} (h : Dr.isD (r.headD 0) = false) : Dr.dN n r = n := by
  cases r with
  | nil => rfl
  | cons c l => rw [Dr.dN, if_neg (by simp only [List.headD_cons] at h; rw [h]; simp)]
theorem dN_bd {n : Int} (l : List Int) (h0 : 0 ≤ n) (h1 : n ≤ 4097) : 0 ≤ Dr.dN n l ∧ Dr.dN n l ≤ 4097 := by
  induction l generalizing n with
  | nil => exact ⟨h0, h1⟩
  | cons c l ih =>
    rw [Dr.dN]
    split
    · rename_i h
      have := Dr.isD_iff.1 h
      exact ih (by omega) (by omega)
    · exact ⟨h0, h1⟩

set_option maxRecDepth 100000 in
theorem number_any (b k : Nat) (s : ByteArray) (xs : List Int) (w : World) (hs : Str s xs) (hk : k ≤ xs.length) (hl : xs.length ≤ 4611686018427387904) (h : RB w b s k) :
    Calls Tryz.prog 169 #[.pointer (some ⟨b, 0, none⟩)] w fun r w' => NTold b s (xs.drop k) k w r w' := by
  have NX : Hid (∀ (j : Nat) (W : World), j ≤ xs.length → RB W b s j → Calls Tryz.prog 135 #[.pointer (some ⟨b, 0, none⟩)] W fun e w' => e = .returned (.int .u8 (Dr.nx xs j)) ∧ Below W.heap.size W w') := fun j W hj hb => next_any b j s xs W hs hj hb
  have HS := hid hs
  have HL := hid hl
  have HK := hid hk
  have H := hid h
  have hkl : (k : Int) ≤ 4611686018427387904 := by omega
  have HH := Dr.head_drop xs k
  clear hs h hl hk
  go_enter Tryz.func169, Tryz.ntmps169
  go_wp2_with fail
  refine (NX.out k w HK.out H.out).mono ?_
  rintro e w1 ⟨rfl, hB⟩
  have R1 := hid (H.out.below hB)
  have O1 : Hid (Oth b w w1) := Oth.of_below hB
  clear hB
  by_cases h42 : Dr.nx xs k = 42
  · have K : Hid (∀ W, RB W b s (k + 1) → Oth b w W → NTold b s (xs.drop k) k w (.returned (.tuple #[.int .i64 2, .int .i64 0, .int .i64 0])) W) := by
      intro W a1 a2
      rw [h42] at HH
      refine ⟨?_, ?_, a2⟩
      · rw [Dr.nk, Dr.nv, Dr.ne, if_pos HH, if_pos HH, if_pos HH]
      · rw [Dr.nu, if_pos HH]; exact a1
    obtain ⟨⟨c0, c1⟩, fz⟩ := R1.out.cells
    clear HH
    go_wp2_with fail
    go_ret3
    exact K.out _ (R1.out.set (by go_num)) (O1.out.trans (Oth.set _ _))
  · rw [← HH] at h42
    have H42 := hid h42
    rw [HH] at h42
    obtain ⟨⟨c0, c1⟩, fz⟩ := R1.out.cells
    clear HH
    go_wp2_with fail
    clear c0 c1 fz h42
    generalize (Dr.nx xs k == 42) = q9
    go_loopg [6] (xs.length - k) (fun m i wr => ∃ (j : Nat) (v : Int), j + m = xs.length ∧ i = .int .i64 v ∧ Hid (RB wr b s j ∧ Oth b w wr ∧ k ≤ j ∧ 0 ≤ v ∧ v ≤ 4097 ∧ j + Dr.ct Dr.isD (xs.drop j) = k + Dr.ct Dr.isD (xs.drop k) ∧ Dr.dN v (xs.drop j) = Dr.dN 0 (xs.drop k)))
    case atStart => exact ⟨k, 0, by have := HK.out; omega, rfl, R1.out, O1.out, by omega, by omega, by omega, rfl, rfl⟩
    case round =>
      obtain ⟨j, v, hj, rfl, I⟩ := hrel
      have hx : 0 ≤ Dr.nx xs j ∧ Dr.nx xs j < 256 := HS.out.atb j
      have hjl : (j : Int) ≤ 4611686018427387904 := by have := HL.out; omega
      have v0 := I.out.2.2.2.1
      have v1 := I.out.2.2.2.2.1
      go_wp2_with fail
      refine (NX.out j wr (by omega) I.out.1).mono ?_
      rintro e w2 ⟨rfl, hB⟩
      have R2 := hid (I.out.1.below hB)
      have O2 := hid (I.out.2.1.trans (Oth.of_below hB))
      clear hB
      by_cases hd : Dr.isD (Dr.nx xs j) = true
      · have hlt : j < xs.length := Dr.getD_pos (by have := Dr.isD_iff.1 hd; omega)
        have J : Hid (∀ W, RB W b s (j + 1) → Oth b w W → RB W b s (j + 1) ∧ Oth b w W ∧ k ≤ j + 1 ∧ 0 ≤ min (10 * v + (Dr.nx xs j - 48)) 4097 ∧ min (10 * v + (Dr.nx xs j - 48)) 4097 ≤ 4097 ∧ j + 1 + Dr.ct Dr.isD (xs.drop (j + 1)) = k + Dr.ct Dr.isD (xs.drop k) ∧ Dr.dN (min (10 * v + (Dr.nx xs j - 48)) 4097) (xs.drop (j + 1)) = Dr.dN 0 (xs.drop k)) := by
          intro W a1 a2
          obtain ⟨_, _, q1, _, _, q3, q4⟩ := I.out
          have := Dr.isD_iff.1 hd
          rw [Dr.ct_drop hlt, if_pos hd] at q3
          rw [Dr.dN_drop hlt, if_pos hd] at q4
          exact ⟨a1, a2, by omega, by omega, by omega, by omega, q4⟩
        have N2 : Hid (∀ W, RB W b s j → Calls Tryz.prog 135 #[.pointer (some ⟨b, 0, none⟩)] W fun e w' => e = .returned (.int .u8 (Dr.nx xs j)) ∧ Below W.heap.size W w') := fun W hb => NX.out j W (by omega) hb
        obtain ⟨d0, d1⟩ := Dr.isD_iff.1 hd
        clear I hd
        generalize Dr.nx xs j = x at *
        have W8 : IntKind.u8.wrap (x - 48) = x - 48 := by rw [IntKind.wrap_u8]; omega
        go_wp2_with fail
        refine (N2.out w2 R2.out).mono ?_
        rintro e w3 ⟨rfl, hB⟩
        have R3 := hid (R2.out.below hB)
        have O3 := hid (O2.out.trans (Oth.of_below hB))
        clear hB
        go_wp2_with fail
        refine (N2.out w3 R3.out).mono ?_
        rintro e w4 ⟨rfl, hB⟩
        have R4 := hid (R3.out.below hB)
        have O4 := hid (O3.out.trans (Oth.of_below hB))
        clear hB
        obtain ⟨⟨c0, c1⟩, fz⟩ := R4.out.cells
        have vb : (-9223372036854775808 : Int) ≤ 10 * v + (x - 48) := by omega
        have vc : 10 * v + (x - 48) ≤ (9223372036854775807 : Int) := by omega
        go_wp2_with fail
        go_roundg (xs.length - (j + 1))
        case measure => omega
        case rel =>
          exact ⟨j + 1, min (10 * v + (x - 48)) 4097, by omega, rfl, J.out _ (R4.out.set (by go_num)) (O4.out.trans (Oth.set _ _))⟩
      · have C0 : Hid (j = k + Dr.ct Dr.isD (xs.drop k) ∧ v = Dr.dN 0 (xs.drop k) ∧ k ≤ j) := by
          obtain ⟨_, _, q1, _, _, q3, q4⟩ := I.out
          have c0 : Dr.ct Dr.isD (xs.drop j) = 0 := Dr.ct_zero (by rw [Dr.head_drop]; simpa using hd)
          have f0 : Dr.dN v (xs.drop j) = v := by
            have := Dr.dN_stop (n := v) (r := xs.drop j) (by rw [Dr.head_drop]; simpa using hd)
            exact this
          rw [c0] at q3
          rw [f0] at q4
          exact ⟨by omega, q4, q1⟩
        have K0 : Hid (j = k → ∀ W, RB W b s j → Oth b w W → NTold b s (xs.drop k) k w (.returned (.tuple #[.int .i64 0, .int .i64 0, .int .i64 0])) W) := by
          intro e W a1 a2
          have c0 : Dr.ct Dr.isD (xs.drop k) = 0 := by have := C0.out.1; omega
          refine ⟨?_, ?_, a2⟩
          · rw [Dr.nk, Dr.nv, Dr.ne, if_neg H42.out, if_neg H42.out, if_neg H42.out, if_pos c0, if_pos c0, if_pos c0]
          · rw [Dr.nu, if_neg H42.out, if_pos c0]; rw [e] at a1; exact a1
        have K1 : Hid (¬ j = k → 4096 < v → ∀ W, RB W b s k → Oth b w W → NTold b s (xs.drop k) k w (.returned (.tuple #[.int .i64 0, .int .i64 0, .int .i64 6])) W) := by
          intro e e2 W a1 a2
          have c0 : ¬ Dr.ct Dr.isD (xs.drop k) = 0 := by have := C0.out.1; omega
          rw [C0.out.2.1] at e2
          refine ⟨?_, ?_, a2⟩
          · rw [Dr.nk, Dr.nv, Dr.ne, if_neg H42.out, if_neg H42.out, if_neg H42.out, if_neg c0, if_neg c0, if_neg c0, if_pos e2, if_pos e2, if_pos e2]
          · rw [Dr.nu, if_neg H42.out, if_neg c0, if_pos e2]; exact a1
        have K2 : Hid (¬ j = k → ¬ 4096 < v → ∀ W, RB W b s j → Oth b w W → NTold b s (xs.drop k) k w (.returned (.tuple #[.int .i64 1, .int .i64 v, .int .i64 0])) W) := by
          intro e e2 W a1 a2
          have c0 : ¬ Dr.ct Dr.isD (xs.drop k) = 0 := by have := C0.out.1; omega
          have hv := C0.out.2.1
          rw [hv] at e2 ⊢
          refine ⟨?_, ?_, a2⟩
          · rw [Dr.nk, Dr.nv, Dr.ne, if_neg H42.out, if_neg H42.out, if_neg H42.out, if_neg c0, if_neg c0, if_neg c0, if_neg e2, if_neg e2, if_neg e2]
          · rw [Dr.nu, if_neg H42.out, if_neg c0, if_neg e2, ← C0.out.1]; exact a1
        have N2 : Hid (∀ W, RB W b s j → Calls Tryz.prog 135 #[.pointer (some ⟨b, 0, none⟩)] W fun e w' => e = .returned (.int .u8 (Dr.nx xs j)) ∧ Below W.heap.size W w') := fun W hb => NX.out j W (by omega) hb
        have hd2 : ¬ (48 ≤ Dr.nx xs j ∧ Dr.nx xs j ≤ 57) := fun q => hd (Dr.isD_iff.2 q)
        have kj := C0.out.2.2
        clear I hd C0
        generalize Dr.nx xs j = x at *
        by_cases d0 : 48 ≤ x
        · have d1 : ¬ x ≤ 57 := fun q => hd2 ⟨d0, q⟩
          clear hd2
          go_wp2_with fail
          refine (N2.out w2 R2.out).mono ?_
          rintro e w3 ⟨rfl, hB⟩
          have R3 := hid (R2.out.below hB)
          have O3 := hid (O2.out.trans (Oth.of_below hB))
          clear hB
          obtain ⟨⟨c0, c1⟩, fz⟩ := R3.out.cells
          by_cases hjk : j = k
          · have hjk2 : (j : Int) = (k : Int) := by omega
            go_wp2_with fail
            go_ret3
            exact K0.out hjk _ R3.out O3.out
          · have hjk2 : ¬ (j : Int) = (k : Int) := by omega
            by_cases hv : 4096 < v
            · go_wp2_with fail
              go_ret3
              exact K1.out hjk hv _ (R3.out.set rfl) (O3.out.trans (Oth.set _ _))
            · go_wp2_with fail
              go_ret3
              exact K2.out hjk hv _ R3.out O3.out
        · clear hd2
          obtain ⟨⟨c0, c1⟩, fz⟩ := R2.out.cells
          by_cases hjk : j = k
          · have hjk2 : (j : Int) = (k : Int) := by omega
            go_wp2_with fail
            go_ret3
            exact K0.out hjk _ R2.out O2.out
          · have hjk2 : ¬ (j : Int) = (k : Int) := by omega
            by_cases hv : 4096 < v
            · go_wp2_with fail
              go_ret3
              exact K1.out hjk hv _ (R2.out.set rfl) (O2.out.trans (Oth.set _ _))
            · go_wp2_with fail
              go_ret3
              exact K2.out hjk hv _ R2.out O2.out
end Go.Proofs.YtpmmbaahoegmlaaGreatDoor
