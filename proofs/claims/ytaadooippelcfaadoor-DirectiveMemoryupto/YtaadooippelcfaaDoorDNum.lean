/-
  FORMATS, as lists of bytes: what the program's reader tells of them.
-/
import Derived.Test.YtaadooippelcfaaDoorVDl
namespace Go.Proofs.YtaadooippelcfaaDoor
namespace Dr

/-- A piece of a format. -/
structure Pc where
  t : List Int
  v : Int
  fl : Int
  wk : Int
  wd : Int
  pk : Int
  pr : Int

def Pc.no : Pc := ⟨[], 0, 0, 0, 0, 0, 0⟩

/-- The byte at a place, 0 behind the end. -/
def nx (xs : List Int) (j : Nat) : Int := xs.getD j 0

/-- The place of c in l, or -1. -/
def idx : List Int → Int → Int
  | [], _ => -1
  | x :: l, c => if x = c then 0 else if idx l c < 0 then -1 else idx l c + 1

theorem idx_ge (l : List Int) (c : Int) : -1 ≤ idx l c := by
  induction l with
  | nil => simp [idx]
  | cons x l ih => rw [idx]; split <;> (try split) <;> omega
theorem idx_lt (l : List Int) (c : Int) : idx l c < l.length := by
  induction l with
  | nil => simp [idx]
  | cons x l ih => rw [idx, List.length_cons]; split <;> (try split) <;> omega

def marks : List Int := [45, 43, 32, 35, 48]
def verbs : List Int := [100, 105, 111, 117, 120, 88, 99, 115, 101, 69, 102, 70, 103, 71]

/-- c is a flag. -/
def isF (c : Int) : Bool := decide (0 ≤ idx marks c)
def isD (c : Int) : Bool := decide (48 ≤ c) && decide (c ≤ 57)

theorem isD_iff {c : Int} : isD c = true ↔ 48 ≤ c ∧ c ≤ 57 := by simp [isD]
theorem isD_not {c : Int} : isD c = false ↔ ¬ (48 ≤ c ∧ c ≤ 57) := by
  rw [← isD_iff]; simp

/-- How many of the first elements have p. -/
def ct (p : Int → Bool) : List Int → Nat
  | [] => 0
  | c :: l => if p c = true then ct p l + 1 else 0

theorem ct_le (p : Int → Bool) (l : List Int) : ct p l ≤ l.length := by
  induction l with
  | nil => simp [ct]
  | cons c l ih => rw [ct, List.length_cons]; split <;> omega

theorem ct_app {p : Int → Bool} {a b : List Int} (h : ∀ x ∈ a, p x = true) : ct p (a ++ b) = a.length + ct p b := by
  induction a with
  | nil => simp
  | cons c l ih =>
    rw [List.cons_append, ct, if_pos (h c (by simp)), ih (fun x hx => h x (by simp [hx])), List.length_cons]
    omega
theorem ct_zero {p : Int → Bool} {l : List Int} (h : p (l.headD 0) = false) : ct p l = 0 := by
  cases l with
  | nil => rfl
  | cons c l => rw [ct, if_neg (by simp only [List.headD_cons] at h; rw [h]; simp)]

/-- The sum of the flags at the head. -/
def fS (s : Nat) : List Int → Nat
  | [] => s
  | c :: l => if isF c = true then fS (s ||| 2 ^ (idx marks c).toNat) l else s

/-- What the digits at the head write, capped. -/
def dN (n : Int) : List Int → Int
  | [] => n
  | c :: l => if isD c = true then dN (min (10 * n + (c - 48)) 4097) l else n

/-- A number: its kind, its value, its bytes, its error. -/
def nk (l : List Int) : Int := if l.headD 0 = 42 then 2 else if ct isD l = 0 then 0 else if 4096 < dN 0 l then 0 else 1
def nv (l : List Int) : Int := if l.headD 0 = 42 then 0 else if ct isD l = 0 then 0 else if 4096 < dN 0 l then 0 else dN 0 l
def nu (l : List Int) : Nat := if l.headD 0 = 42 then 1 else if ct isD l = 0 then 0 else if 4096 < dN 0 l then 0 else ct isD l
def ne (l : List Int) : Int := if l.headD 0 = 42 then 0 else if ct isD l = 0 then 0 else if 4096 < dN 0 l then 6 else 0

/-- A precision: likewise. -/
def pk (l : List Int) : Int := if l.headD 0 = 46 then (if ne l.tail = 0 ∧ nk l.tail = 0 then 1 else nk l.tail) else 0
def pv (l : List Int) : Int := if l.headD 0 = 46 then nv l.tail else 0
def pu (l : List Int) : Nat := if l.headD 0 = 46 then 1 + nu l.tail else 0
def pe (l : List Int) : Int := if l.headD 0 = 46 then ne l.tail else 0

/-- A verb. -/
def ve (l : List Int) : Int := if l = [] then 131 else if idx verbs (l.headD 0) < 0 then 130 else 0
def vv (l : List Int) : Int := if ve l = 0 then l.headD 0 else 0
def vu (l : List Int) : Nat := if ve l = 0 then 1 else 0

/-- The rest behind flags, width, precision. -/
def l1 (l : List Int) : List Int := l.drop (ct isF l)
def l2 (l : List Int) : List Int := (l1 l).drop (nu (l1 l))
def l3 (l : List Int) : List Int := (l2 l).drop (pu (l2 l))

/-- A directive behind its percent. -/
def de (l : List Int) : Int := if ne (l1 l) ≠ 0 then ne (l1 l) else if pe (l2 l) ≠ 0 then pe (l2 l) else ve (l3 l)
def dp (l : List Int) : Pc := if de l = 0 then ⟨[], vv (l3 l), fS 0 l, nk (l1 l), nv (l1 l), pk (l2 l), pv (l2 l)⟩ else Pc.no
def du (l : List Int) : Nat := if ne (l1 l) ≠ 0 then ct isF l else if pe (l2 l) ≠ 0 then ct isF l + nu (l1 l) + pu (l2 l) else ct isF l + nu (l1 l) + pu (l2 l) + vu (l3 l)

def isX (c : Int) : Bool := decide (c ≠ 37)

/-- A piece. -/
def qe (l : List Int) : Int := if l.headD 0 ≠ 37 then 0 else if l.tail.headD 0 = 37 then 0 else de l.tail
def qp (l : List Int) : Pc := if l.headD 0 ≠ 37 then ⟨l.take (ct isX l), 0, 0, 0, 0, 0, 0⟩ else if l.tail.headD 0 = 37 then ⟨[], 37, 0, 0, 0, 0, 0⟩ else dp l.tail
def qu (l : List Int) : Nat := if l.headD 0 ≠ 37 then ct isX l else if l.tail.headD 0 = 37 then 2 else 1 + du l.tail

/-- The pieces of a format, the place of its fault, the fault. -/
def pr : Nat → List Int → List Pc × Nat × Int
  | 0, _ => ([], 0, 0)
  | n + 1, l => if l = [] then ([], 0, 0) else if qe l ≠ 0 then ([], qu l, qe l) else if (pr n (l.drop (qu l))).2.2 = 0 then (qp l :: (pr n (l.drop (qu l))).1, 0, 0) else ([], qu l + (pr n (l.drop (qu l))).2.1, (pr n (l.drop (qu l))).2.2)

def prs (l : List Int) : List Pc × Nat × Int := pr (l.length + 1) l

theorem ve_len {l : List Int} (h : ve l = 0) : 1 ≤ l.length := by
  cases l with
  | nil => simp [ve] at h
  | cons c l => simp
theorem headD_len {l : List Int} {c : Int} (hc : c ≠ 0) (h : l.headD 0 = c) : 1 ≤ l.length := by
  cases l with
  | nil => simp at h; omega
  | cons c l => simp
theorem nu_le (l : List Int) : nu l ≤ l.length := by
  unfold nu
  have := ct_le isD l
  split
  · rename_i h; exact headD_len (by decide) h
  · split
    · omega
    · split <;> omega
theorem pu_le (l : List Int) : pu l ≤ l.length := by
  unfold pu
  split
  · rename_i h
    have := headD_len (by decide) h
    have := nu_le l.tail
    rw [List.length_tail] at this
    omega
  · omega
theorem vu_le (l : List Int) : vu l ≤ l.length := by
  unfold vu; split
  · rename_i h; exact ve_len h
  · omega
theorem du_le (l : List Int) : du l ≤ l.length := by
  have a := ct_le isF l
  have b := nu_le (l1 l)
  have c := pu_le (l2 l)
  have d := vu_le (l3 l)
  unfold du
  unfold l3 l2 l1 at *
  simp only [List.length_drop] at *
  split
  · omega
  · split <;> omega
theorem qu_le {l : List Int} (hl : l ≠ []) : qu l ≤ l.length := by
  unfold qu
  have := List.length_pos_iff.2 hl
  split
  · exact ct_le _ _
  · split
    · rename_i h
      have := headD_len (by decide) h
      rw [List.length_tail] at this
      omega
    · have := du_le l.tail
      rw [List.length_tail] at this
      omega
theorem qu_pos {l : List Int} (hl : l ≠ []) : 1 ≤ qu l := by
  unfold qu
  split
  · rename_i h
    cases l with
    | nil => exact absurd rfl hl
    | cons c l => simp only [List.headD_cons] at h; rw [ct, if_pos (by simp [isX, h])]; omega
  · split <;> omega

theorem pr_fuel (n m : Nat) (l : List Int) (hn : l.length < n) (hm : l.length < m) : pr n l = pr m l := by
  induction n generalizing m l with
  | zero => omega
  | succ n ih =>
    cases m with
    | zero => omega
    | succ m =>
      by_cases hl : l = []
      · simp [pr, hl]
      · have p := qu_pos hl
        have q := qu_le hl
        have e := ih m (l.drop (qu l)) (by rw [List.length_drop]; omega) (by rw [List.length_drop]; omega)
        simp only [pr, e]
theorem prs_nil : prs [] = ([], 0, 0) := by simp [prs, pr]
theorem prs_err {l : List Int} (hl : l ≠ []) (h : qe l ≠ 0) : prs l = ([], qu l, qe l) := by
  rw [prs, pr, if_neg hl, if_pos h]
theorem prs_cons {l : List Int} (hl : l ≠ []) (h : qe l = 0) : prs l = if (prs (l.drop (qu l))).2.2 = 0 then (qp l :: (prs (l.drop (qu l))).1, 0, 0) else ([], qu l + (prs (l.drop (qu l))).2.1, (prs (l.drop (qu l))).2.2) := by
  have p := qu_pos hl
  have q := qu_le hl
  have e : pr l.length (l.drop (qu l)) = prs (l.drop (qu l)) := pr_fuel _ _ _ (by rw [List.length_drop]; omega) (by omega)
  rw [prs, pr, if_neg hl, if_neg (by simp [h]), e]
end Dr
end Go.Proofs.YtaadooippelcfaaDoor
