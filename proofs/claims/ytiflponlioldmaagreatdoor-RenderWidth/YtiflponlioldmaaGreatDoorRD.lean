/-
  Texts put together: PoN, INum, INum2, IKinds, DSetN, DLoc, DTk, RnRun, RnForm, RnN, Shr, BitW, IShiftA, INear1.
-/
import Derived.Test.YtiflponlioldmaaGreatDoorRC
import Derived.Test.YtiflponlioldmaaGreatDoorNums
import Derived.Test.YtiflponlioldmaaGreatDoorRB
import Derived.WalkKit
import Derived.Test.YtiflponlioldmaaGreatDoorShl
import Derived.Test.YtiflponlioldmaaGreatDoorBlenIs
import Derived.Test.YtiflponlioldmaaGreatDoorIWalk1C
import Derived.Test.YtiflponlioldmaaGreatDoorNToU
namespace Go.Proofs.YtiflponlioldmaaGreatDoor
open Go Go.RowKit Go.Deep
namespace Po

/-- The verbs of capitals; those that Render renders. -/
def cap (V : Int) : Bool := decide (V = 69 ∨ V = 70 ∨ V = 71 ∨ V = 88)
def okV (V : Int) : Bool := decide (V = 101 ∨ V = 69 ∨ V = 102 ∨ V = 70 ∨ V = 103 ∨ V = 71)
def ng (d : Int) : Bool := decide (9223372036854775808 ≤ d)
/-- The body of an infinity or a NaN. -/
def nm (c : Bool) (k : Int) : List Int := if k = 3 then (if c = true then [73, 78, 70] else [105, 110, 102]) else if k = 4 then (if c = true then [78, 65, 78] else [110, 97, 110]) else []
/-- An exponent as it is written. -/
def xd (k : Int) : List Int := (if k < 0 then 45 else 43) :: Wh.fil 2 (Wh.dig 10 false (max k (-k)))
def ex (V k : Int) : List Int := (if cap V = true then 69 else 101) :: xd k
/-- Digits ahead and behind, and an exponent. -/
def wrt (a b p : List Int) (h : Bool) : List Int := if b = [] ∧ h = false then a ++ p else a ++ 46 :: (b ++ p)
/-- Without the zeros at the end. -/
def sp : List Int → List Int
  | [] => []
  | x :: xs => if x = 48 ∧ sp xs = [] then [] else x :: sp xs
def st (h : Bool) (xs : List Int) : List Int := if h = true then xs else sp xs

noncomputable def bdF (h : Bool) (d n : Int) : List Int := wrt (Fx.pA d n) (Fx.pB d n) [] h
noncomputable def bdE (V : Int) (h : Bool) (d n : Int) : List Int := wrt ((Fx.gS d (n + 1)).take 1) ((Fx.gS d (n + 1)).drop 1) (ex V (Fx.gK d (n + 1))) h
noncomputable def bdG (V : Int) (h : Bool) (d n : Int) : List Int :=
  if -4 ≤ Fx.gK d n ∧ Fx.gK d n < n then wrt (Fx.pA d (n - 1 - Fx.gK d n)) (st h (Fx.pB d (n - 1 - Fx.gK d n))) [] h
  else wrt ((Fx.gS d n).take 1) (st h ((Fx.gS d n).drop 1)) (ex V (Fx.gK d n)) h
def pr (P : Int) : Int := if P = -1 then 6 else P
noncomputable def bd (V : Int) (h : Bool) (P d : Int) : List Int :=
  if V = 102 ∨ V = 70 then bdF h d (pr P) else if V = 101 ∨ V = 69 then bdE V h d (pr P) else bdG V h d (max (pr P) 1)

/-- Special, Render. -/
def spc (V F W P d : Int) : List Int := if Wh.chk F W P = 0 ∧ Ie.fnt d = false then Wh.padT F W false (Wh.sgn F (ng d)) (nm (cap V) (Ie.cls d)) else []
def spb (F W P d : Int) : Bool := decide (Wh.chk F W P = 0) && !Ie.fnt d
def renE (V F W P : Int) : Int := if okV V = true then Wh.chk F W P else 140
noncomputable def ren (V F W P d : Int) : List Int :=
  if renE V F W P = 0 then (if Ie.fnt d = true then Wh.padT F W true (Wh.sgn F (ng d)) (bd V (Wh.bit F 8) P d) else Wh.padT F W false (Wh.sgn F (ng d)) (nm (cap V) (Ie.cls d))) else []

theorem pr_bd {P : Int} (h0 : -1 ≤ P) (h1 : P ≤ 4096) : 0 ≤ pr P ∧ pr P ≤ 4096 := by unfold pr; split <;> omega

/-- What is left of a row when the zeros at its end are gone. -/
theorem sp_of : ∀ {xs : List Int} {k : Nat}, k ≤ xs.length → (∀ i, k ≤ i → i < xs.length → xs.getD i 0 = 48) → (0 < k → xs.getD (k - 1) 0 ≠ 48) → xs.take k = sp xs
  | [], k, _, _, _ => by simp [sp]
  | x :: xs, 0, _, h2, _ => by
    have e := sp_of (xs := xs) (k := 0) (by omega) (fun i h1 hi => by have := h2 (i + 1) (by omega) (by simp; omega); simpa using this) (fun h => by omega)
    have e0 : x = 48 := by simpa using h2 0 (by omega) (by simp)
    rw [List.take_zero] at e
    rw [sp, if_pos ⟨e0, e.symm⟩]; rfl
  | x :: xs, k + 1, h1, h2, h3 => by
    have e := sp_of (xs := xs) (k := k) (by simpa using h1) (fun i h4 hi => by have := h2 (i + 1) (by omega) (by simp; omega); simpa using this) (fun h => by
      have := h3 (by omega)
      obtain ⟨j, rfl⟩ : ∃ j, k = j + 1 := ⟨k - 1, by omega⟩
      simpa using this)
    rw [List.take_succ_cons, sp]
    rw [if_neg, e]
    rintro ⟨c1, c2⟩
    rw [← e] at c2
    have k0 : k = 0 := by
      rcases Nat.eq_zero_or_pos k with c | c
      · exact c
      · have : (xs.take k).length = 0 := by rw [c2]; rfl
        rw [List.length_take] at this
        simp at h1
        omega
    subst k0
    have := h3 (by omega)
    simp at this
    exact this c1
theorem sp_take : ∀ (xs : List Int), ∃ k, k ≤ xs.length ∧ sp xs = xs.take k ∧ (∀ i, k ≤ i → i < xs.length → xs.getD i 0 = 48) ∧ (0 < k → xs.getD (k - 1) 0 ≠ 48)
  | [] => ⟨0, by simp, by simp [sp], fun i _ h => by simp at h, fun h => by omega⟩
  | x :: xs => by
    obtain ⟨k, a, b, c, e⟩ := sp_take xs
    by_cases h : x = 48 ∧ sp xs = []
    · refine ⟨0, by omega, by rw [sp, if_pos h]; rfl, fun i _ hi => ?_, fun h => by omega⟩
      have k0 : k = 0 := by
        rcases Nat.eq_zero_or_pos k with q | q
        · exact q
        · have : (xs.take k).length = 0 := by rw [← b, h.2]; rfl
          rw [List.length_take] at this
          omega
      cases i with
      | zero => simpa using h.1
      | succ i => have := c i (by omega) (by simpa using hi); simpa using this
    · refine ⟨k + 1, by simp; omega, by rw [sp, if_neg h, b, List.take_succ_cons], fun i h1 hi => ?_, fun _ => ?_⟩
      · cases i with
        | zero => omega
        | succ i => have := c i (by omega) (by simpa using hi); simpa using this
      · cases k with
        | zero =>
          rw [List.take_zero] at b
          simp
          intro q
          exact h ⟨q, b⟩
        | succ k => have := e (by omega); simpa using this
theorem sp_len (xs : List Int) : (sp xs).length ≤ xs.length := by
  obtain ⟨k, a, b, _⟩ := sp_take xs
  rw [b, List.length_take]; omega
theorem sp_mem {xs : List Int} {x : Int} (h : x ∈ sp xs) : x ∈ xs := by
  obtain ⟨k, a, b, _⟩ := sp_take xs
  rw [b] at h
  exact List.mem_of_mem_take h
theorem st_len (h : Bool) (xs : List Int) : (st h xs).length ≤ xs.length := by unfold st; split; exact Nat.le_refl _; exact sp_len xs
theorem st_mem {h : Bool} {xs : List Int} {x : Int} (k : x ∈ st h xs) : x ∈ xs := by
  unfold st at k; split at k
  · exact k
  · exact sp_mem k

/-- Digits as bytes. -/
theorem digs_by {xs : List Int} (h : Digs xs) : Wh.By xs := fun x hx => by have := h x hx; omega
theorem digs_take {xs : List Int} (h : Digs xs) (k : Nat) : Digs (xs.take k) := fun x hx => h x (List.mem_of_mem_take hx)
theorem digs_drop {xs : List Int} (h : Digs xs) (k : Nat) : Digs (xs.drop k) := fun x hx => h x (List.mem_of_mem_drop hx)
theorem digs_st {xs : List Int} (b : Bool) (h : Digs xs) : Digs (st b xs) := fun x hx => h x (st_mem hx)

/-- What Places and Figures tell of a finite double. -/
structure PlF (d n : Int) : Prop where
  ok : Fx.rf d n 0 = 0
  a : Digs (Fx.pA d n)
  b : Digs (Fx.pB d n)
  ane : Fx.pA d n ≠ []
  la : (Fx.pA d n).length ≤ 6000
  lb : ((Fx.pB d n).length : Int) = n
theorem plF {d n : Int} (hf : Ie.fnt d = true) (h0 : 0 ≤ n) (h1 : n ≤ 4200) : PlF d n := by
  have r : Fx.rf d n 0 = 0 := Fx.rf_zero.2 ⟨hf, h0, h1⟩
  have wl := Fx.W_len d n.toNat
  have wd := Fx.W_digs hf n.toNat
  have wr := Fx.dv_W_room hf (n := n.toNat) (by omega)
  refine ⟨r, ?_, ?_, ?_, ?_, ?_⟩
  · rw [Fx.pA, if_pos r]; exact digs_take wd _
  · rw [Fx.pB, if_pos r]; exact digs_drop wd _
  · rw [Fx.pA, if_pos r]
    intro c
    have : ((Fx.W d n.toNat).take ((Fx.W d n.toNat).length - n.toNat)).length = 0 := by rw [c]; rfl
    rw [List.length_take] at this
    omega
  · rw [Fx.pA, if_pos r, List.length_take]; omega
  · rw [Fx.pB, if_pos r, List.length_drop]; omega

structure FgF (d n : Int) : Prop where
  ok : Fx.rf d n 1 = 0
  s : Digs (Fx.gS d n)
  len : ((Fx.gS d n).length : Int) = n
  lo : -324 ≤ Fx.gK d n
  hi : Fx.gK d n ≤ 308
theorem fgF {d n : Int} (hf : Ie.fnt d = true) (h0 : 1 ≤ n) (h1 : n ≤ 4200) : FgF d n := by
  obtain ⟨k, rfl⟩ := Int.eq_ofNat_of_zero_le (show 0 ≤ n by omega)
  have r : Fx.rf d k 1 = 0 := Fx.rf_zero.2 ⟨hf, h0, h1⟩
  rcases (show Ie.dm d = 0 ∨ 0 < Ie.dm d by have := (Ie.fdec d (of_decide_eq_true hf)).1; omega) with c | c
  · obtain ⟨a, b⟩ := Fx.fig_zero hf c (k := k) (by omega) (by omega)
    refine ⟨r, ?_, by rw [a]; simp, by omega, by omega⟩
    rw [a]
    intro x hx
    have := List.eq_of_mem_replicate hx
    omega
  · obtain ⟨a, b, _, e, f, _⟩ := Fx.fig_facts hf c (k := k) (by omega) (by omega)
    exact ⟨r, b, by rw [a], e, f⟩

/-- An exponent's digits. -/
theorem dig3 {v : Int} (h0 : 0 < v) (h1 : v < 1000) : Wh.dig 10 false v = lets (lettersOf false) (Dn.strip (Dn.dg 10 3 v)) := by
  have hz : Nm.Limbs [v] := by intro x hx; simp at hx; omega
  have hv : Nm.val [v] = v := by simp [Nm.val]
  have ts : Nm.tsize [v] ≤ 1 := by have := Nm.tsize_le [v]; simpa using this
  have tp : 0 < Nm.tsize [v] := by have := Nm.tsize_zero_iff hz; omega
  have q := Wh.dig_is (up := false) (B := 10) hz (by rw [hv]; exact h0) (by omega) (by omega) (by omega) (InIs.ok (up := false) 3 tp (by omega) (by omega) (by omega) (by rw [hv]; exact h1))
  rw [hv] at q
  exact q.1.symm
set_option maxRecDepth 100000 in
theorem xdig {v : Int} (h0 : 0 ≤ v) (h1 : v ≤ 400) : Wh.fil 2 (Wh.dig 10 false v) = Fx.tx (if v < 100 then 2 else 3) v := by
  rcases (show v = 0 ∨ 0 < v by omega) with c | c
  · subst c; decide
  · rw [dig3 c (by omega)]
    have key : ∀ t : Fin 401, 0 < t.val → Wh.fil 2 (lets (lettersOf false) (Dn.strip (Dn.dg 10 3 (t.val : Int)))) = Fx.tx (if (t.val : Int) < 100 then 2 else 3) (t.val : Int) := by decide +kernel
    have := key ⟨v.toNat, by omega⟩ (by simp; omega)
    simp only at this
    rw [show ((v.toNat : Nat) : Int) = v by omega] at this
    exact this
theorem xd_is {k : Int} (h0 : -400 ≤ k) (h1 : k ≤ 400) : xd k = (if k < 0 then 45 else 43) :: Fx.tx (if max k (-k) < 100 then 2 else 3) (max k (-k)) := by
  rw [xd, xdig (by omega) (by omega)]
theorem xd_len {k : Int} (h0 : -400 ≤ k) (h1 : k ≤ 400) : (xd k).length ≤ 4 := by
  rw [xd_is h0 h1, List.length_cons, Fx.tx_len]; split <;> omega
theorem xd_by (k : Int) : Wh.By (xd k) := by
  unfold xd
  exact Wh.By.cons (by split <;> omega) (Wh.fil_by (Wh.dig_by _ _ _))
theorem ex_by (V k : Int) : Wh.By (ex V k) := by
  unfold ex
  exact Wh.By.cons (by split <;> omega) (xd_by k)
theorem ex_len {V k : Int} (h0 : -400 ≤ k) (h1 : k ≤ 400) : (ex V k).length ≤ 5 := by
  rw [ex, List.length_cons]; have := xd_len h0 h1; omega
theorem wrt_by {a b p : List Int} {h : Bool} (ha : Wh.By a) (hb : Wh.By b) (hp : Wh.By p) : Wh.By (wrt a b p h) := by
  unfold wrt
  split
  · exact ha.app hp
  · exact ha.app (Wh.By.cons (by omega) (hb.app hp))
theorem wrt_len (a b p : List Int) (h : Bool) : (wrt a b p h).length ≤ a.length + b.length + p.length + 1 := by
  unfold wrt
  split <;> simp <;> omega

/-- The body of a finite double is short, and made of bytes. -/
theorem bd_ok {V P d : Int} (h : Bool) (hf : Ie.fnt d = true) (p0 : -1 ≤ P) (p1 : P ≤ 4096) : Wh.By (bd V h P d) ∧ (bd V h P d).length ≤ 20000 := by
  obtain ⟨q0, q1⟩ := pr_bd p0 p1
  unfold bd
  split
  · have k := plF hf q0 (by omega)
    refine ⟨wrt_by (digs_by k.a) (digs_by k.b) Wh.By.nil, ?_⟩
    have := wrt_len (Fx.pA d (pr P)) (Fx.pB d (pr P)) [] h
    have := k.la
    have := k.lb
    simp only [List.length_nil, bdF] at *
    omega
  · split
    · have k := fgF hf (n := pr P + 1) (by omega) (by omega)
      refine ⟨wrt_by (digs_by (digs_take k.s _)) (digs_by (digs_drop k.s _)) (ex_by _ _), ?_⟩
      have := wrt_len ((Fx.gS d (pr P + 1)).take 1) ((Fx.gS d (pr P + 1)).drop 1) (ex V (Fx.gK d (pr P + 1))) h
      have := k.len
      have := ex_len (V := V) (k := Fx.gK d (pr P + 1)) (by have := k.lo; omega) (by have := k.hi; omega)
      simp only [bdE, List.length_take, List.length_drop] at *
      omega
    · have k := fgF hf (n := max (pr P) 1) (by omega) (by omega)
      unfold bdG
      split
      · rename_i g
        have j := plF hf (n := max (pr P) 1 - 1 - Fx.gK d (max (pr P) 1)) (by omega) (by omega)
        refine ⟨wrt_by (digs_by j.a) (digs_by (digs_st h j.b)) Wh.By.nil, ?_⟩
        have := wrt_len (Fx.pA d (max (pr P) 1 - 1 - Fx.gK d (max (pr P) 1))) (st h (Fx.pB d (max (pr P) 1 - 1 - Fx.gK d (max (pr P) 1)))) [] h
        have := j.la
        have := j.lb
        have := st_len h (Fx.pB d (max (pr P) 1 - 1 - Fx.gK d (max (pr P) 1)))
        simp only [List.length_nil] at *
        omega
      · refine ⟨wrt_by (digs_by (digs_take k.s _)) (digs_by (digs_st h (digs_drop k.s _))) (ex_by _ _), ?_⟩
        have := wrt_len ((Fx.gS d (max (pr P) 1)).take 1) (st h ((Fx.gS d (max (pr P) 1)).drop 1)) (ex V (Fx.gK d (max (pr P) 1))) h
        have := st_len h ((Fx.gS d (max (pr P) 1)).drop 1)
        have := k.len
        have := ex_len (V := V) (k := Fx.gK d (max (pr P) 1)) (by have := k.lo; omega) (by have := k.hi; omega)
        simp only [List.length_take, List.length_drop] at *
        omega
theorem nm_by (c : Bool) (k : Int) : Wh.By (nm c k) := by
  unfold nm
  cases c <;> (split <;> first | (intro x hx; simp at hx; omega) | (split <;> first | (intro x hx; simp at hx; omega) | exact Wh.By.nil))
theorem nm_len (c : Bool) (k : Int) : (nm c k).length ≤ 3 := by
  unfold nm
  split
  · split <;> simp
  · split
    · split <;> simp
    · simp
theorem nm_fin {c : Bool} {k : Int} (h : k < 3) : nm c k = [] := by
  unfold nm
  rw [if_neg (by omega), if_neg (by omega)]
end Po
end Go.Proofs.YtiflponlioldmaaGreatDoor

/-
  Doubles as numbers: mantissa, exponent, middles; what it is to be rounded.
-/
namespace Go.Proofs.YtiflponlioldmaaGreatDoor
namespace Ie

/-- The mantissa of the double x (its bits, no sign). -/
def man (x : Int) : Int := if x < 4503599627370496 then x else 4503599627370496 + x % 4503599627370496

/-- Its exponent and 1074. -/
def ex (x : Int) : Nat := (x / 4503599627370496 - 1).toNat

/-- Its value, in units of 2^-1075. -/
def vl (x : Int) : Int := 2 * man x * 2 ^ ex x

/-- The middle between it and the next one. -/
def md (x : Int) : Int := (2 * man x + 1) * 2 ^ ex x

theorem md_eq (x : Int) : md x = vl x + 2 ^ ex x := by rw [md, vl, Int.add_mul, Int.one_mul]

theorem vl_lt_md (x : Int) : vl x < md x := by have := md_eq x; have := Nm.two_pos (ex x); omega

theorem vl_succ (x : Int) (h : 0 ≤ x) : vl (x + 1) = vl x + 2 * 2 ^ ex x := by
  have hp := Nm.two_pos (ex x)
  by_cases h1 : x + 1 < 4503599627370496
  · have e : ex (x + 1) = ex x := by simp only [ex]; omega
    rw [vl, e, vl, man, man, if_pos h1, if_pos (by omega), Int.mul_add, Int.add_mul]
    omega
  · by_cases h2 : x < 4503599627370496
    · have hx : x = 4503599627370495 := by omega
      subst hx
      decide
    · by_cases h3 : x % 4503599627370496 = 4503599627370495
      · have e : ex (x + 1) = ex x + 1 := by simp only [ex]; omega
        have m : (x + 1) % 4503599627370496 = 0 := by omega
        rw [vl, e, vl, man, man, if_neg h1, if_neg h2, m, h3, Nm.two_succ]
        omega
      · have e : ex (x + 1) = ex x := by simp only [ex]; omega
        have m : (x + 1) % 4503599627370496 = x % 4503599627370496 + 1 := by omega
        rw [vl, e, vl, man, man, if_neg h1, if_neg h2, m, Int.mul_add, Int.mul_add, Int.mul_add, Int.add_mul, Int.add_mul, Int.add_mul]
        omega

theorem md_lt_vl (x : Int) (h : 0 ≤ x) : md x < vl (x + 1) := by
  have := md_eq x; have := vl_succ x h; have := Nm.two_pos (ex x); omega

theorem vl_mono (x : Int) (h : 0 ≤ x) : ∀ k : Nat, vl x ≤ vl (x + k)
  | 0 => by simp
  | k + 1 => by
    have := vl_mono x h k
    have h1 := vl_succ (x + k) (by omega)
    have := Nm.two_pos (ex (x + k))
    have e : x + ((k + 1 : Nat) : Int) = x + (k : Int) + 1 := by omega
    rw [e]
    omega

theorem vl_le {x y : Int} (h : 0 ≤ x) (hxy : x ≤ y) : vl x ≤ vl y := by
  have := vl_mono x h (y - x).toNat
  rwa [show x + ((y - x).toNat : Int) = y by omega] at this

theorem md_lt {x y : Int} (h : 0 ≤ x) (hxy : x < y) : md x < md y := by
  have := md_lt_vl x h
  have := vl_le (x := x + 1) (y := y) (by omega) (by omega)
  have := vl_lt_md y
  omega

theorem man_nn (x : Int) (h : 0 ≤ x) : 0 ≤ man x ∧ man x < 9007199254740992 := by
  simp only [man]; split <;> omega

theorem vl_zero : vl 0 = 0 := by decide
theorem md_zero : md 0 = 1 := by decide
theorem md_nn (x : Int) (h : 0 ≤ x) : 0 < md x := by
  have h1 := man_nn x h
  exact Int.mul_pos (by omega) (Nm.two_pos _)

/-- The double x is what the number P / Q (in units of 2^-1075) is rounded to; more: a trifle above. -/
def Near (P Q : Int) (more : Bool) (x : Int) : Prop :=
  (0 ≤ x ∧ x ≤ 9218868437227405312) ∧ (0 < x → md (x - 1) * Q < P ∨ (md (x - 1) * Q = P ∧ (x % 2 = 0 ∨ more = true))) ∧
    (x < 9218868437227405312 → P < md x * Q ∨ (P = md x * Q ∧ x % 2 = 0 ∧ more = false))

theorem Near.mono {P Q P' Q' : Int} {m m' : Bool} {x y : Int} (hQ : 0 < Q) (hQ' : 0 < Q') (h : Near P Q m x) (h' : Near P' Q' m' y) (hv : P * Q' < P' * Q ∨ (P * Q' = P' * Q ∧ (m = true → m' = true))) : x ≤ y := by
  rcases (show y < x ∨ x ≤ y by omega) with hl | hl
  · exfalso
    have h1 := h.2.1 (by have := h'.1.1; omega)
    have h2 := h'.2.2 (by have := h.1.2; omega)
    have a1 : md (x - 1) * Q ≤ P := by rcases h1 with h | h <;> omega
    have a2 : P' ≤ md y * Q' := by rcases h2 with h | h <;> omega
    have b1 : md (x - 1) * Q * Q' ≤ P * Q' := Int.mul_le_mul_of_nonneg_right a1 (by omega)
    have b2 : P' * Q ≤ md y * Q' * Q := Int.mul_le_mul_of_nonneg_right a2 (by omega)
    have c1 : md (x - 1) * Q * Q' = md (x - 1) * (Q * Q') := Int.mul_assoc _ _ _
    have c2 : md y * Q' * Q = md y * (Q * Q') := by rw [Int.mul_assoc, Int.mul_comm Q' Q]
    have hq := Int.mul_pos hQ hQ'
    by_cases hxy : x - 1 = y
    · rw [hxy] at a1 b1 c1 h1
      have e1 : P * Q' = P' * Q := by rcases hv with h | h <;> omega
      have e2 : md y * (Q * Q') = P * Q' := by omega
      have e3 : md y * Q = P := by
        rcases h1 with h | h
        · have := Int.mul_lt_mul_of_pos_right h hQ'
          omega
        · exact h.1
      have e4 : P' = md y * Q' := by
        rcases h2 with h | h
        · have := Int.mul_lt_mul_of_pos_right h hQ
          omega
        · exact h.1
      rcases h1 with h | ⟨_, h⟩
      · omega
      · rcases h2 with h2 | ⟨_, h2, h3⟩
        · omega
        · rcases h with h | h
          · omega
          · rcases hv with hv | ⟨_, hv⟩
            · omega
            · rw [hv h] at h3; cases h3
    · have := md_lt h'.1.1 (show y < x - 1 by omega)
      have := Int.mul_lt_mul_of_pos_right this hq
      rcases hv with h | h <;> omega
  · exact hl

theorem Near.one {P Q P' Q' : Int} {m : Bool} {x y : Int} (hQ : 0 < Q) (hQ' : 0 < Q') (h : Near P Q m x) (h' : Near P' Q' m y) (hv : P * Q' = P' * Q) : x = y := by
  have h1 := h.mono hQ hQ' h' (.inr ⟨hv, id⟩)
  have h2 := h'.mono hQ' hQ h (.inr ⟨hv.symm, id⟩)
  omega

/-- How the mantissa m at the exponent U - 1074, and what the bits below say, make a double. -/
theorem near_of (P Q : Int) (more : Bool) (m : Int) (U : Nat) (hQ : 0 < Q) (h0 : 0 ≤ m) (h1 : m < 9007199254740992) (hU : 0 < U → 4503599627370496 ≤ m) (hU2 : U ≤ 2045)
    (lo : 2 * m * 2 ^ U * Q ≤ P) (hi : P < (2 * m + 2) * 2 ^ U * Q) (up : Bool)
    (hup : up = true → (2 * m + 1) * 2 ^ U * Q < P ∨ ((2 * m + 1) * 2 ^ U * Q = P ∧ (m % 2 = 1 ∨ more = true)))
    (hno : up = false → P < (2 * m + 1) * 2 ^ U * Q ∨ (P = (2 * m + 1) * 2 ^ U * Q ∧ m % 2 = 0 ∧ more = false)) :
    Near P Q more ((U : Int) * 4503599627370496 + m + if up = true then 1 else 0) := by
  obtain ⟨x, hx⟩ : ∃ x : Int, x = (U : Int) * 4503599627370496 + m := ⟨_, rfl⟩
  rw [← hx]
  have hm : man x = m := by
    simp only [man]
    split
    · rcases Nat.eq_zero_or_pos U with h | h
      · subst h; omega
      · have := hU h; omega
    · rcases Nat.eq_zero_or_pos U with h | h
      · subst h; omega
      · have := hU h; omega
  have he : ex x = U := by
    simp only [ex]
    rcases Nat.eq_zero_or_pos U with h | h
    · subst h; omega
    · have := hU h; omega
  have x0 : 0 ≤ x := by omega
  have hmd : md x = (2 * m + 1) * 2 ^ U := by rw [md, hm, he]
  have hvl : vl x = 2 * m * 2 ^ U := by rw [vl, hm, he]
  have hvs : vl (x + 1) = (2 * m + 2) * 2 ^ U := by rw [vl_succ x x0, hvl, he, Int.add_mul]
  cases up
  · have := hno rfl
    simp only [Bool.false_eq_true, if_false, Int.add_zero]
    refine ⟨⟨x0, by omega⟩, fun hp => .inl ?_, fun _ => ?_⟩
    · have h2 := md_lt_vl (x - 1) (by omega)
      rw [show x - 1 + 1 = x by omega] at h2
      have := Int.mul_lt_mul_of_pos_right h2 hQ
      rw [hvl] at this
      omega
    · rw [hmd]
      rcases this with h | ⟨h, h', h''⟩
      · exact .inl h
      · exact .inr ⟨h, by omega, h''⟩
  · have := hup rfl
    simp only [if_true]
    refine ⟨⟨by omega, by omega⟩, fun hp => ?_, fun _ => .inl ?_⟩
    · rw [show x + 1 - 1 = x by omega, hmd]
      rcases this with h | ⟨h, h'⟩
      · exact .inl h
      · refine .inr ⟨h, ?_⟩
        rcases h' with h' | h'
        · left; omega
        · exact .inr h'
    · have h2 := vl_lt_md (x + 1)
      have := Int.mul_lt_mul_of_pos_right h2 hQ
      rw [hvs] at this
      omega

/-- n * 2^e rounds to x. -/
def Rnd (n d e : Int) (more : Bool) (x : Int) : Prop := ∀ a b : Nat, (a : Int) - b = e + 1075 → Near (n * 2 ^ a) (d * 2 ^ b) more x

theorem md_last : md 9218868437227405311 = 18014398509481983 * 2 ^ 2045 := by
  have h1 : man 9218868437227405311 = 9007199254740991 := by decide
  have h2 : ex 9218868437227405311 = 2045 := by decide
  rw [md, h1, h2]
  rfl

theorem rnd_zero (d e : Int) (more : Bool) (hd : 0 < d) : Rnd 0 d e more 0 := by
  intro a b h
  refine ⟨⟨by omega, by omega⟩, fun h => absurd h (by omega), fun _ => .inl ?_⟩
  rw [Int.zero_mul, md_zero, Int.one_mul]
  exact Int.mul_pos hd (Nm.two_pos b)

/-- So great that it is infinity. -/
theorem rnd_inf (n d e : Int) (L M : Nat) (more : Bool) (hn : 2 ^ L ≤ n) (hd : d ≤ 2 ^ M) (he : 1024 ≤ (L : Int) - M + e) : Rnd n d e more 9218868437227405312 := by
  intro a b h
  refine ⟨⟨by omega, by omega⟩, fun _ => .inl ?_, fun h => absurd h (by omega)⟩
  rw [show (9218868437227405312 : Int) - 1 = 9218868437227405311 by omega, md_last]
  have h1 : (2 : Int) ^ (L + a) ≤ n * 2 ^ a := by rw [Nm.two_add]; exact Int.mul_le_mul_of_nonneg_right hn (by have := Nm.two_pos a; omega)
  have h2 : d * 2 ^ b ≤ 2 ^ (M + b) := by rw [Nm.two_add]; exact Int.mul_le_mul_of_nonneg_right hd (by have := Nm.two_pos b; omega)
  have h3 : (18014398509481983 : Int) * 2 ^ 2045 * (d * 2 ^ b) ≤ 18014398509481983 * 2 ^ 2045 * 2 ^ (M + b) :=
    Int.mul_le_mul_of_nonneg_left h2 (Int.mul_nonneg (by omega) (by have := Nm.two_pos 2045; omega))
  have h4 : (2 : Int) ^ (54 + (2045 + (M + b))) ≤ 2 ^ (L + a) := Nm.two_mono (by omega)
  rw [Nm.two_add 54, Nm.two_add 2045] at h4
  rw [Int.mul_assoc 18014398509481983 (2 ^ 2045) (2 ^ (M + b))] at h3
  have h5 := Int.mul_pos (Nm.two_pos 2045) (Nm.two_pos (M + b))
  have h6 : (2 : Int) ^ 54 = 18014398509481984 := by decide
  rw [h6] at h4
  generalize (2 : Int) ^ 2045 * 2 ^ (M + b) = z at h3 h4 h5
  omega

/-- So small that it is zero. -/
theorem rnd_small (n d e : Int) (L M : Nat) (more : Bool) (hn : n < 2 ^ L) (hd : 2 ^ M ≤ d) (he : (L : Int) - M + e ≤ -1075) : Rnd n d e more 0 := by
  intro a b h
  refine ⟨⟨by omega, by omega⟩, fun h => absurd h (by omega), fun _ => .inl ?_⟩
  rw [md_zero, Int.one_mul]
  have h1 : n * 2 ^ a < 2 ^ (L + a) := by rw [Nm.two_add]; exact Int.mul_lt_mul_of_pos_right hn (Nm.two_pos a)
  have h2 : (2 : Int) ^ (M + b) ≤ d * 2 ^ b := by rw [Nm.two_add]; exact Int.mul_le_mul_of_nonneg_right hd (by have := Nm.two_pos b; omega)
  have h3 : (2 : Int) ^ (L + a) ≤ 2 ^ (M + b) := Nm.two_mono (by omega)
  omega

theorem Rnd.at {n d e : Int} {more : Bool} {x : Int} (h : Rnd n d e more x) : ∃ a b : Nat, (a : Int) - b = e + 1075 ∧ Near (n * 2 ^ a) (d * 2 ^ b) more x := by
  refine ⟨(e + 1075).toNat, (-(e + 1075)).toNat, by omega, h _ _ (by omega)⟩

theorem Rnd.bd {n d e : Int} {more : Bool} {x : Int} (h : Rnd n d e more x) : 0 ≤ x ∧ x ≤ 9218868437227405312 := by
  obtain ⟨a, b, _, h⟩ := h.at
  exact h.1

theorem Rnd.of {n d e : Int} {more : Bool} {x : Int} {a b : Nat} (h : (a : Int) - b = e + 1075) (hn : Near (n * 2 ^ a) (d * 2 ^ b) more x) : Rnd n d e more x := by
  intro a' b' h'
  have e1 : (2 : Int) ^ a * 2 ^ b' = 2 ^ a' * 2 ^ b := by rw [← Nm.two_add, ← Nm.two_add]; congr 1; omega
  have hb := Nm.two_pos b
  have hb' := Nm.two_pos b'
  have key : ∀ y : Int, (y * (d * 2 ^ b') < n * 2 ^ a' ↔ y * (d * 2 ^ b) < n * 2 ^ a) ∧ (y * (d * 2 ^ b') = n * 2 ^ a' ↔ y * (d * 2 ^ b) = n * 2 ^ a) ∧ (n * 2 ^ a' < y * (d * 2 ^ b') ↔ n * 2 ^ a < y * (d * 2 ^ b)) := by
    intro y
    have f1 : y * (d * 2 ^ b') * 2 ^ b = y * d * (2 ^ b' * 2 ^ b) := by simp only [Int.mul_assoc]
    have f2 : y * (d * 2 ^ b) * 2 ^ b' = y * d * (2 ^ b' * 2 ^ b) := by rw [Int.mul_comm (2 ^ b') (2 ^ b)]; simp only [Int.mul_assoc]
    have f3 : n * 2 ^ a' * 2 ^ b = n * (2 ^ a' * 2 ^ b) := Int.mul_assoc _ _ _
    have f4 : n * 2 ^ a * 2 ^ b' = n * (2 ^ a' * 2 ^ b) := by rw [← e1, Int.mul_assoc]
    refine ⟨⟨fun g => ?_, fun g => ?_⟩, ⟨fun g => ?_, fun g => ?_⟩, ⟨fun g => ?_, fun g => ?_⟩⟩
    · have := Int.mul_lt_mul_of_pos_right g hb
      exact Int.lt_of_mul_lt_mul_right (a := 2 ^ b') (by omega) (by omega)
    · have := Int.mul_lt_mul_of_pos_right g hb'
      exact Int.lt_of_mul_lt_mul_right (a := 2 ^ b) (by omega) (by omega)
    · rw [g] at f1
      exact Int.eq_of_mul_eq_mul_right (a := 2 ^ b') (by omega) (by omega)
    · rw [g] at f2
      exact Int.eq_of_mul_eq_mul_right (a := 2 ^ b) (by omega) (by omega)
    · have := Int.mul_lt_mul_of_pos_right g hb
      exact Int.lt_of_mul_lt_mul_right (a := 2 ^ b') (by omega) (by omega)
    · have := Int.mul_lt_mul_of_pos_right g hb'
      exact Int.lt_of_mul_lt_mul_right (a := 2 ^ b) (by omega) (by omega)
  refine ⟨hn.1, fun hx => ?_, fun hx => ?_⟩
  · rcases hn.2.1 hx with g | ⟨g, g'⟩
    · exact .inl ((key _).1.2 g)
    · exact .inr ⟨(key _).2.1.2 g, g'⟩
  · rcases hn.2.2 hx with g | ⟨g, g'⟩
    · exact .inl ((key _).2.2.2 g)
    · exact .inr ⟨((key _).2.1.2 g.symm).symm, g'⟩

theorem Rnd.mono {n d e n' d' e' : Int} {m m' : Bool} {x y : Int} (hd : 0 < d) (hd' : 0 < d') (h : Rnd n d e m x) (h' : Rnd n' d' e' m' y) {a a' : Nat} (haa : (a : Int) - a' = e - e')
    (hv : n * d' * 2 ^ a < n' * d * 2 ^ a' ∨ (n * d' * 2 ^ a = n' * d * 2 ^ a' ∧ (m = true → m' = true))) : x ≤ y := by
  obtain ⟨p, q, hpq, hN⟩ := h'.at
  -- e' + 1075 = p - q; e + 1075 = p - q + a - a'
  have hN2 := h (p + a) (q + a') (by omega)
  have hp := Nm.two_pos p
  have hq := Nm.two_pos q
  have ha' := Nm.two_pos a'
  refine hN2.mono (Int.mul_pos hd (Nm.two_pos _)) (Int.mul_pos hd' hq) hN ?_
  have e1 : n * 2 ^ (p + a) * (d' * 2 ^ q) = n * d' * 2 ^ a * (2 ^ p * 2 ^ q) := by
    rw [Nm.two_add]; ac_rfl
  have e2 : n' * 2 ^ p * (d * 2 ^ (q + a')) = n' * d * 2 ^ a' * (2 ^ p * 2 ^ q) := by
    rw [Nm.two_add]; ac_rfl
  rw [e1, e2]
  rcases hv with g | ⟨g, g'⟩
  · exact .inl (Int.mul_lt_mul_of_pos_right g (Int.mul_pos hp hq))
  · exact .inr ⟨by rw [g], g'⟩

theorem Rnd.one {n d e n' d' e' : Int} {m : Bool} {x y : Int} (hd : 0 < d) (hd' : 0 < d') (h : Rnd n d e m x) (h' : Rnd n' d' e' m y) {a a' : Nat} (haa : (a : Int) - a' = e - e')
    (hv : n * d' * 2 ^ a = n' * d * 2 ^ a') : x = y := by
  have h1 := h.mono hd hd' h' haa (.inr ⟨hv, id⟩)
  have h2 := h'.mono hd' hd h (a := a') (a' := a) (by omega) (.inr ⟨hv.symm, id⟩)
  omega

/-- A number that is exact at its mantissa. -/
theorem rnd_exact (n e : Int) (L j U : Nat) (more : Bool) (hn : 0 < n) (h1 : 2 ^ (L - 1) ≤ n) (hl : 1 ≤ L) (h2 : n < 2 ^ L) (hj : L + j ≤ 53) (hU : 0 < U → L + j = 53) (hU2 : U ≤ 2045) (he : (j : Int) + U = e + 1074) :
    Rnd n 1 e more ((U : Int) * 4503599627370496 + n * 2 ^ j) := by
  intro a b hab
  have e53 : (2 : Int) ^ 53 = 9007199254740992 := by decide
  have e52 : (2 : Int) ^ 52 = 4503599627370496 := by decide
  have hp := Nm.two_pos j
  have hb := Nm.two_pos b
  have m0 : 0 < n * 2 ^ j := Int.mul_pos hn hp
  have m1 : n * 2 ^ j < 9007199254740992 := by
    have g1 : n * 2 ^ j < 2 ^ (L + j) := by rw [Nm.two_add]; exact Int.mul_lt_mul_of_pos_right h2 hp
    have g2 := Nm.two_mono hj
    omega
  have m2 : 0 < U → 4503599627370496 ≤ n * 2 ^ j := by
    intro h
    have g1 : (2 : Int) ^ (L - 1 + j) ≤ n * 2 ^ j := by rw [Nm.two_add]; exact Int.mul_le_mul_of_nonneg_right h1 (by omega)
    rw [show L - 1 + j = 52 by have := hU h; omega] at g1
    omega
  have key : n * 2 ^ a = 2 * (n * 2 ^ j) * 2 ^ U * (1 * 2 ^ b) := by
    rw [show a = 1 + (j + (U + b)) by omega, Nm.two_add, Nm.two_add, Nm.two_add, Int.one_mul, show (2 : Int) ^ 1 = 2 by rfl]
    ac_rfl
  have hw := Int.mul_pos (Nm.two_pos U) hb
  have := near_of (n * 2 ^ a) (1 * 2 ^ b) more (n * 2 ^ j) U (by omega) (by omega) m1 m2 hU2 (by omega)
    (by
      rw [key, Int.one_mul, Int.mul_assoc, Int.mul_assoc (2 * (n * 2 ^ j) + 2)]
      exact Int.mul_lt_mul_of_pos_right (by omega) hw) false (fun h => by cases h)
    (fun _ => .inl (by
      rw [key, Int.one_mul, Int.mul_assoc, Int.mul_assoc (2 * (n * 2 ^ j) + 1)]
      exact Int.mul_lt_mul_of_pos_right (by omega) hw))
  simpa using this

/-- A number whose k lowest bits are cut off. -/
theorem rnd_cut (n e : Int) (L k U : Nat) (more up : Bool) (hn : 0 < n) (h1 : 2 ^ (L - 1) ≤ n) (_hl : 1 ≤ L) (h2 : n < 2 ^ L) (hk : L ≤ k + 53) (hU : 0 < U → L = k + 53) (hU2 : U ≤ 2045) (he : (U : Int) = e + 1074 + k)
    (hup : up = true ↔ (1 ≤ k ∧ n / 2 ^ (k - 1) % 2 = 1 ∧ (more = true ∨ n / 2 ^ k % 2 = 1 ∨ n % 2 ^ (k - 1) ≠ 0))) :
    Rnd n 1 e more ((U : Int) * 4503599627370496 + n / 2 ^ k + if up = true then 1 else 0) := by
  intro a b hab
  have e53 : (2 : Int) ^ 53 = 9007199254740992 := by decide
  have e52 : (2 : Int) ^ 52 = 4503599627370496 := by decide
  have hp := Nm.two_pos k
  have hb := Nm.two_pos b
  have ha := Nm.two_pos a
  have dm := Int.mul_ediv_add_emod n (2 ^ k)
  have r0 := Int.emod_nonneg n (show (2 : Int) ^ k ≠ 0 by omega)
  have r1 := Int.emod_lt_of_pos n hp
  obtain ⟨m, hm⟩ : ∃ m, n / 2 ^ k = m := ⟨_, rfl⟩
  obtain ⟨r, hr⟩ : ∃ r, n % 2 ^ k = r := ⟨_, rfl⟩
  rw [hm, hr] at dm
  rw [hr] at r0 r1
  rw [hm]
  have m0 : 0 ≤ m := by rw [← hm]; exact Int.ediv_nonneg (by omega) (by omega)
  have m1 : m < 9007199254740992 := by
    rw [← hm, Int.ediv_lt_iff_lt_mul hp]
    have g := Nm.two_mono hk
    rw [Nm.two_add, e53] at g
    rw [Int.mul_comm]
    omega
  have m2 : 0 < U → 4503599627370496 ≤ m := by
    intro h
    rw [← hm, Int.le_ediv_iff_mul_le hp]
    rw [show L - 1 = 52 + k by have := hU h; omega, Nm.two_add, e52] at h1
    exact h1
  have hw := Int.mul_pos (Nm.two_pos U) hb
  have ka : (2 : Int) ^ k * 2 ^ a = 2 * (2 ^ U * 2 ^ b) := by
    rw [← Nm.two_add, ← Nm.two_add, ← Nm.two_succ]; congr 1; omega
  have fl : n * 2 ^ a = m * (2 * (2 ^ U * 2 ^ b)) + r * 2 ^ a := by
    rw [← ka, ← dm, Int.add_mul, Int.mul_comm (2 ^ k) m, Int.mul_assoc]
  have rr : 0 ≤ r * 2 ^ a := Int.mul_nonneg r0 (by omega)
  have rl : r * 2 ^ a < 2 * (2 ^ U * 2 ^ b) := by rw [← ka]; exact Int.mul_lt_mul_of_pos_right r1 ha
  have x1 : ∀ c : Int, (2 * m + c) * 2 ^ U * (1 * 2 ^ b) = m * (2 * (2 ^ U * 2 ^ b)) + c * (2 ^ U * 2 ^ b) := by
    intro c
    rw [Int.one_mul, Int.mul_assoc, Int.add_mul, Int.mul_comm 2 m, Int.mul_assoc]
  have half : (1 ≤ k ∧ ∃ s t : Int, n / 2 ^ (k - 1) % 2 = s ∧ n % 2 ^ (k - 1) = t ∧ (s = 0 ∨ s = 1) ∧ 0 ≤ t ∧ r * 2 ^ a = s * (2 ^ U * 2 ^ b) + t * 2 ^ a ∧ t * 2 ^ a < 2 ^ U * 2 ^ b) ∨ (k = 0 ∧ r = 0) := by
    rcases Nat.eq_zero_or_pos k with h | h
    · right
      refine ⟨h, ?_⟩
      subst h
      have : (2 : Int) ^ 0 = 1 := rfl
      omega
    · left
      have hq := Nm.two_pos (k - 1)
      have dq := Int.mul_ediv_add_emod n (2 ^ (k - 1))
      have ds : n / 2 ^ (k - 1) / 2 = m := by
        rw [Int.ediv_ediv_of_nonneg (by omega), ← hm]
        congr 1
        rw [Int.mul_comm, ← Nm.two_succ]; congr 1; omega
      have kk : (2 : Int) ^ (k - 1) * 2 ^ a = 2 ^ U * 2 ^ b := by
        rw [← Nm.two_add, ← Nm.two_add]; congr 1; omega
      have t0 := Int.emod_nonneg n (show (2 : Int) ^ (k - 1) ≠ 0 by omega)
      have t1 := Int.emod_lt_of_pos n hq
      refine ⟨h, _, _, rfl, rfl, by omega, t0, ?_, ?_⟩
      · generalize n % 2 ^ (k - 1) = t at *
        obtain ⟨y, hy⟩ : ∃ y, n / 2 ^ (k - 1) = y := ⟨_, rfl⟩
        rw [hy] at dq ds ⊢
        have hy2 : y = 2 * m + y % 2 := by omega
        have : n * 2 ^ a = (2 * m + y % 2) * (2 ^ U * 2 ^ b) + t * 2 ^ a := by
          rw [← hy2, ← kk, ← dq, Int.add_mul, Int.mul_comm (2 ^ (k - 1)) y, Int.mul_assoc]
        rw [fl, Int.add_mul, Int.mul_comm 2 m, Int.mul_assoc] at this
        omega
      · rw [← kk]; exact Int.mul_lt_mul_of_pos_right t1 ha
  have hx0 := x1 0
  rw [Int.add_zero, Int.zero_mul, Int.add_zero] at hx0
  refine near_of (n * 2 ^ a) (1 * 2 ^ b) more m U (by omega) m0 m1 m2 hU2 (by rw [hx0, fl]; omega) (by rw [x1, fl]; omega) up ?_ ?_
  · intro h
    obtain ⟨g0, g1, g2⟩ := hup.1 h
    rcases half with ⟨_, s, t, hs, ht, _, t0, ht2, _⟩ | ⟨h, _⟩
    · rw [hs] at g1
      rw [ht, hm] at g2
      rw [x1, fl, ht2, g1]
      rcases (show t = 0 ∨ 0 < t by omega) with h0 | h0
      · refine .inr ⟨by rw [h0]; omega, ?_⟩
        rcases g2 with g | g | g
        · exact .inr g
        · exact .inl g
        · exact absurd h0 g
      · have := Int.mul_pos h0 ha
        left; omega
    · omega
  · intro h
    have hn' : ¬ _ := fun g => by rw [hup.2 g] at h; cases h
    rcases half with ⟨hk1, s, t, hs, ht, hs2, t0, ht2, ht3⟩ | ⟨h, h'⟩
    · rw [hs, ht, hm] at hn'
      rw [x1, fl, ht2]
      rcases hs2 with rfl | rfl
      · left; omega
      · right
        have : ¬ (more = true ∨ m % 2 = 1 ∨ t ≠ 0) := fun g => hn' ⟨hk1, rfl, g⟩
        have f1 : t = 0 := by
          rcases (show t = 0 ∨ t ≠ 0 by omega) with h | h
          · exact h
          · exact absurd (.inr (.inr h)) this
        have f2 : m % 2 = 0 := by
          rcases (show m % 2 = 0 ∨ m % 2 = 1 by omega) with h | h
          · exact h
          · exact absurd (.inr (.inl h)) this
        refine ⟨by rw [f1]; omega, f2, ?_⟩
        cases more
        · rfl
        · exact absurd (.inl rfl) this
    · left
      rw [x1, fl, h']
      omega

theorem md_form (x : Int) (h : 0 ≤ x) : ∃ (M : Int) (E : Nat), md x = M * 2 ^ E ∧ 0 < M ∧ M < 18014398509481984 := by
  have := man_nn x h
  exact ⟨_, _, rfl, by omega, by omega⟩

/-- What is known of a fraction by its whole part, which has 55 bits at least, and whether there is a rest. -/
theorem rnd_floor (N D e x : Int) (hD : 0 < D) (hq : 18014398509481984 ≤ N / D) (h : Rnd (N / D) 1 e (decide (N % D ≠ 0)) x) : Rnd N D e false x := by
  obtain ⟨a, b, hab, hN⟩ := h.at
  refine Rnd.of hab ?_
  have dm := Int.mul_ediv_add_emod N D
  have r0 := Int.emod_nonneg N (show D ≠ 0 by omega)
  have r1 := Int.emod_lt_of_pos N hD
  generalize N / D = q at *
  generalize N % D = r at *
  have ha := Nm.two_pos a
  have hb := Nm.two_pos b
  rw [Int.one_mul] at hN
  have fl : N * 2 ^ a = q * 2 ^ a * D + r * 2 ^ a := by rw [← dm, Int.add_mul, Int.mul_comm D q, Int.mul_right_comm]
  have rr := Int.mul_nonneg r0 (show (0 : Int) ≤ 2 ^ a by omega)
  have cm : ∀ y : Int, y * (D * 2 ^ b) = y * 2 ^ b * D := by intro y; rw [Int.mul_comm D, Int.mul_assoc]
  refine ⟨hN.1, fun hx => ?_, fun hx => ?_⟩
  · rw [cm, fl]
    rcases hN.2.1 hx with g | ⟨g, g'⟩
    · have := Int.mul_lt_mul_of_pos_right g hD
      left; omega
    · rw [g]
      rcases (show r = 0 ∨ 0 < r by omega) with h0 | h0
      · refine .inr ⟨by rw [h0]; omega, .inl ?_⟩
        rcases g' with g' | g'
        · exact g'
        · simp [h0] at g'
      · have := Int.mul_pos h0 ha
        left; omega
  · rw [cm, fl]
    rcases hN.2.2 hx with g | ⟨g, g', g''⟩
    · left
      obtain ⟨M, E, hM, M0, M1⟩ := md_form x hN.1.1
      have e54 : (2 : Int) ^ 54 = 18014398509481984 := by decide
      have hEb := Nm.two_pos (E + b)
      rw [hM, Int.mul_assoc, ← Nm.two_add] at g
      have lt : a < E + b := by
        rcases Nat.lt_or_ge a (E + b) with h | h
        · exact h
        · exfalso
          have g1 := Nm.two_mono h
          have g2 : M * 2 ^ (E + b) ≤ 18014398509481984 * 2 ^ (E + b) := Int.mul_le_mul_of_nonneg_right (by omega) (by omega)
          have g3 : 18014398509481984 * 2 ^ a ≤ q * 2 ^ a := Int.mul_le_mul_of_nonneg_right hq (by omega)
          omega
      rw [show E + b = (E + b - a) + a by omega, Nm.two_add, ← Int.mul_assoc] at g
      have g1 := Int.lt_of_mul_lt_mul_right g (by omega)
      have g2 : q * 2 ^ a * D + r * 2 ^ a < (q + 1) * (2 ^ a * D) := by
        have := Int.mul_lt_mul_of_pos_right r1 ha
        rw [Int.add_mul, Int.one_mul, Int.mul_assoc, Int.mul_comm (2 ^ a) D]
        omega
      have g3 : (q + 1) * (2 ^ a * D) ≤ M * 2 ^ (E + b - a) * (2 ^ a * D) := Int.mul_le_mul_of_nonneg_right (by omega) (by have := Int.mul_pos ha hD; omega)
      have g4 : M * 2 ^ (E + b - a) * (2 ^ a * D) = md x * 2 ^ b * D := by
        rw [hM, ← Int.mul_assoc, Int.mul_assoc M, ← Nm.two_add, show E + b - a + a = E + b by omega, Nm.two_add]
        ac_rfl
      omega
    · have h0 : r = 0 := by
        rcases (show r = 0 ∨ r ≠ 0 by omega) with h | h
        · exact h
        · simp [h] at g''
      refine .inr ⟨by rw [h0, g]; omega, g', rfl⟩

theorem Rnd.num {n d e x : Int} {more : Bool} (s : Nat) (h : Rnd (n * 2 ^ s) d (e - s) more x) : Rnd n d e more x := by
  obtain ⟨a, b, hab, hN⟩ := h.at
  rw [Int.mul_assoc, ← Nm.two_add] at hN
  exact Rnd.of (a := s + a) (b := b) (by omega) hN

theorem Rnd.den {n d e x : Int} {more : Bool} (s : Nat) (h : Rnd n (d * 2 ^ s) (e + s) more x) : Rnd n d e more x := by
  obtain ⟨a, b, hab, hN⟩ := h.at
  rw [Int.mul_assoc, ← Nm.two_add] at hN
  exact Rnd.of (a := a) (b := s + b) (by omega) hN

/-- A double is rounded to itself. -/
theorem rnd_self (x e : Int) (more : Bool) (h0 : 0 ≤ x) (h1 : x < 9218868437227405312) (he : e = (ex x : Int) - 1074) : Rnd (man x) 1 e more x := by
  have hQ := Nm.two_pos 0
  refine Rnd.of (a := ex x + 1) (b := 0) (by omega) ?_
  have e1 : man x * 2 ^ (ex x + 1) = vl x := by rw [Nm.two_succ, vl]; ac_rfl
  rw [e1, show (1 : Int) * 2 ^ 0 = 1 by rfl]
  refine ⟨⟨h0, by omega⟩, fun hx => .inl ?_, fun _ => .inl ?_⟩
  · have := md_lt_vl (x - 1) (by omega)
    rw [show x - 1 + 1 = x by omega] at this
    omega
  · have := vl_lt_md x
    omega
end Ie
end Go.Proofs.YtiflponlioldmaaGreatDoor

/-
  Doubles as numbers: what the laws need.
-/
namespace Go.Proofs.YtiflponlioldmaaGreatDoor
namespace Ie

/-- A trifle above is a digit far below. -/
theorem rnd_far (n e v : Int) (hn : 0 < n) (h : Rnd (n * 2 ^ 64 + 1) 1 (e - 64) false v) : Rnd n 1 e true v := by
  obtain ⟨a', b, hab, hN⟩ := h.at
  refine Rnd.of (a := 64 + a') (b := b) (by omega) ?_
  rw [Int.one_mul] at hN ⊢
  have ha := Nm.two_pos a'
  have hb := Nm.two_pos b
  have fl : (n * 2 ^ 64 + 1) * 2 ^ a' = n * 2 ^ (64 + a') + 2 ^ a' := by rw [Int.add_mul, Int.one_mul, Int.mul_assoc, ← Nm.two_add]
  rw [fl] at hN
  refine ⟨hN.1, fun hx => ?_, fun hx => .inl ?_⟩
  · have g : md (v - 1) * 2 ^ b ≤ n * 2 ^ (64 + a') + 2 ^ a' := by rcases hN.2.1 hx with g | g <;> omega
    rcases (show md (v - 1) * 2 ^ b < n * 2 ^ (64 + a') ∨ md (v - 1) * 2 ^ b = n * 2 ^ (64 + a') ∨ n * 2 ^ (64 + a') < md (v - 1) * 2 ^ b by omega) with h | h | h
    · exact .inl h
    · exact .inr ⟨h, .inr rfl⟩
    · exfalso
      obtain ⟨M, E, hM, M0, M1⟩ := md_form (v - 1) (by omega)
      rw [hM, Int.mul_assoc, ← Nm.two_add] at g h
      have e54 : (2 : Int) ^ 54 = 18014398509481984 := by decide
      have lt : a' + 10 < E + b := by
        rcases Nat.lt_or_ge (a' + 10) (E + b) with h' | h'
        · exact h'
        · exfalso
          have hEb := Nm.two_pos (E + b)
          have g1 : M * 2 ^ (E + b) < 2 ^ 54 * 2 ^ (E + b) := Int.mul_lt_mul_of_pos_right (by omega) hEb
          rw [← Nm.two_add] at g1
          have g2 := Nm.two_mono (show 54 + (E + b) ≤ 64 + a' by omega)
          have g3 : 1 * 2 ^ (64 + a') ≤ n * 2 ^ (64 + a') := Int.mul_le_mul_of_nonneg_right (by omega) (by have := Nm.two_pos (64 + a'); omega)
          omega
      rw [show E + b = (E + b - (a' + 10)) + (a' + 10) by omega, Nm.two_add (E + b - (a' + 10)), ← Int.mul_assoc] at g h
      rw [show 64 + a' = 54 + (a' + 10) by omega, Nm.two_add 54, ← Int.mul_assoc] at g h
      have g1 := Int.lt_of_mul_lt_mul_right h (by have := Nm.two_pos (a' + 10); omega)
      have g2 : (n * 2 ^ 54 + 1) * 2 ^ (a' + 10) ≤ M * 2 ^ (E + b - (a' + 10)) * 2 ^ (a' + 10) := Int.mul_le_mul_of_nonneg_right (by omega) (by have := Nm.two_pos (a' + 10); omega)
      rw [Int.add_mul, Int.one_mul] at g2
      have g3 : (2 : Int) ^ (a' + 10) = 2 ^ a' * 1024 := by rw [Nm.two_add]; rfl
      omega
  · rcases hN.2.2 hx with g | g <;> omega

theorem Rnd.next {n d e x u : Int} (hd : 0 < d) (h : Rnd n d e false x) (h' : Rnd n d e true u) : u = x ∨ u = x + 1 := by
  have h1 : x ≤ u := h.mono hd hd h' (a := 0) (a' := 0) (by omega) (.inr ⟨rfl, fun h => by cases h⟩)
  rcases (show u ≤ x + 1 ∨ x + 1 < u by omega) with h2 | h2
  · omega
  · exfalso
    obtain ⟨a, b, hab, hN⟩ := h.at
    have hN' := h' a b hab
    have g1 := hN.2.2 (by have := hN'.1.2; omega)
    have g2 := hN'.2.1 (by have := hN.1.1; omega)
    have g3 := Int.mul_lt_mul_of_pos_right (md_lt hN.1.1 (show x < u - 1 by omega)) (Int.mul_pos hd (Nm.two_pos b))
    rcases g1 with g | g <;> rcases g2 with g' | g' <;> omega

/-- A number that is a double is rounded to it. -/
theorem rnd_vl (n e x : Int) (more : Bool) (a b : Nat) (hab : (a : Int) - b = e + 1075) (h0 : 0 ≤ x) (h1 : x < 9218868437227405312) (h : n * 2 ^ a = vl x * 2 ^ b) : Rnd n 1 e more x := by
  refine Rnd.of hab ?_
  have hb := Nm.two_pos b
  rw [h, Int.one_mul]
  refine ⟨⟨h0, by omega⟩, fun hx => .inl ?_, fun _ => .inl ?_⟩
  · have := md_lt_vl (x - 1) (by omega)
    rw [show x - 1 + 1 = x by omega] at this
    exact Int.mul_lt_mul_of_pos_right this hb
  · exact Int.mul_lt_mul_of_pos_right (vl_lt_md x) hb

theorem vl_lt_iff {x y : Int} (hx : 0 ≤ x) (hy : 0 ≤ y) : vl x < vl y ↔ x < y := by
  constructor
  · intro h
    rcases (show x < y ∨ y ≤ x by omega) with g | g
    · exact g
    · have := vl_le hy g; omega
  · intro h
    have h1 := vl_succ x hx
    have h2 := vl_le (x := x + 1) (y := y) (by omega) (by omega)
    have := Nm.two_pos (ex x)
    omega

theorem vl_inj {x y : Int} (hx : 0 ≤ x) (hy : 0 ≤ y) (h : vl x = vl y) : x = y := by
  rcases (show x < y ∨ x = y ∨ y < x by omega) with g | g | g
  · have := (vl_lt_iff hx hy).2 g; omega
  · exact g
  · have := (vl_lt_iff hy hx).2 g; omega

theorem vl_nn {x : Int} (hx : 0 ≤ x) : 0 ≤ vl x := by
  have := vl_le (x := 0) (y := x) (by omega) hx
  rw [vl_zero] at this
  exact this

/-- Whole numbers up to 2^53 are doubles. -/
theorem whole_ex (W : Int) (L : Nat) (h0 : 0 ≤ W) (hL : (0 < W → 1 ≤ L ∧ 2 ^ (L - 1) ≤ W) ∧ W < 2 ^ L) (h1 : W ≤ 9007199254740992) : ∃ x, 0 ≤ x ∧ x < 9218868437227405312 ∧ vl x = W * 2 ^ 1075 := by
  rcases (show W = 0 ∨ 0 < W by omega) with h | h
  · exact ⟨0, by omega, by omega, by rw [h, vl_zero, Int.zero_mul]⟩
  · rcases (show W = 9007199254740992 ∨ W < 9007199254740992 by omega) with hw | hw
    · refine ⟨4845873199050653696, by omega, by omega, ?_⟩
      have e1 : man 4845873199050653696 = 4503599627370496 := by decide
      have e2 : ex 4845873199050653696 = 1075 := by decide
      rw [vl, e1, e2, hw]
      rfl
    · have g := hL.1 h
      have e53 : (2 : Int) ^ 53 = 9007199254740992 := by decide
      have hl : L ≤ 53 := by
        rcases Nat.lt_or_ge 53 L with h' | h'
        · have := Nm.two_mono (show 53 ≤ L - 1 by omega)
          omega
        · exact h'
      obtain ⟨m, hm⟩ : ∃ m, W * 2 ^ (53 - L) = m := ⟨_, rfl⟩
      have hp := Nm.two_pos (53 - L)
      have m1 : m < 9007199254740992 := by
        have : W * 2 ^ (53 - L) < 2 ^ L * 2 ^ (53 - L) := Int.mul_lt_mul_of_pos_right hL.2 hp
        rw [← Nm.two_add, show L + (53 - L) = 53 by omega] at this
        omega
      have m2 : 4503599627370496 ≤ m := by
        have : 2 ^ (L - 1) * 2 ^ (53 - L) ≤ W * 2 ^ (53 - L) := Int.mul_le_mul_of_nonneg_right g.2 (by omega)
        rw [← Nm.two_add, show L - 1 + (53 - L) = 52 by omega] at this
        have : (2 : Int) ^ 52 = 4503599627370496 := by decide
        omega
      obtain ⟨x, hx⟩ : ∃ x : Int, x = ((1021 + L : Nat) : Int) * 4503599627370496 + m := ⟨_, rfl⟩
      have e1 : man x = m := by simp only [man]; split <;> omega
      have e2 : ex x = 1021 + L := by simp only [ex]; omega
      refine ⟨x, by omega, by omega, ?_⟩
      rw [vl, e1, e2, ← hm, Int.mul_comm 2, Int.mul_assoc, Int.mul_assoc, ← Nm.two_succ, ← Nm.two_add]
      congr 2
      omega

/-- Below the middle above it. -/
theorem Rnd.hi {n d e x : Int} (h : Rnd n d e false x) (hx : x < 9218868437227405312) {M : Int} {E s t : Nat} (hM : md x = M * 2 ^ E) (hst : (s : Int) - t = E - 1075 - e) :
    n * 2 ^ t < M * d * 2 ^ s ∨ (n * 2 ^ t = M * d * 2 ^ s ∧ x % 2 = 0) := by
  have hN := h (t + E) s (by omega)
  have hE := Nm.two_pos E
  have e1 : n * 2 ^ (t + E) = n * 2 ^ t * 2 ^ E := by rw [Nm.two_add, Int.mul_assoc]
  have e2 : md x * (d * 2 ^ s) = M * d * 2 ^ s * 2 ^ E := by rw [hM]; ac_rfl
  rcases hN.2.2 hx with g | ⟨g, g', _⟩
  · rw [e1, e2] at g
    exact .inl (Int.lt_of_mul_lt_mul_right g (by omega))
  · rw [e1, e2] at g
    exact .inr ⟨Int.eq_of_mul_eq_mul_right (by omega) g, g'⟩

/-- Above the middle below it. -/
theorem Rnd.lo {n d e x : Int} (h : Rnd n d e false x) (hx : 0 < x) {M : Int} {E s t : Nat} (hM : md (x - 1) = M * 2 ^ E) (hst : (s : Int) - t = E - 1075 - e) :
    M * d * 2 ^ s < n * 2 ^ t ∨ (M * d * 2 ^ s = n * 2 ^ t ∧ x % 2 = 0) := by
  have hN := h (t + E) s (by omega)
  have hE := Nm.two_pos E
  have e1 : n * 2 ^ (t + E) = n * 2 ^ t * 2 ^ E := by rw [Nm.two_add, Int.mul_assoc]
  have e2 : md (x - 1) * (d * 2 ^ s) = M * d * 2 ^ s * 2 ^ E := by rw [hM]; ac_rfl
  rcases hN.2.1 hx with g | ⟨g, g'⟩
  · rw [e1, e2] at g
    exact .inl (Int.lt_of_mul_lt_mul_right g (by omega))
  · rw [e1, e2] at g
    refine .inr ⟨Int.eq_of_mul_eq_mul_right (by omega) g, ?_⟩
    rcases g' with g' | g'
    · exact g'
    · cases g'

/-- The middle below, as the gap below a power of two is half as wide. -/
theorem md_pred (x : Int) (hx : 0 < x) (h : ¬ (man x = 4503599627370496 ∧ 0 < ex x)) : md (x - 1) = (2 * man x - 1) * 2 ^ ex x := by
  have h1 := vl_succ (x - 1) (by omega)
  rw [show x - 1 + 1 = x by omega] at h1
  have h2 := md_eq (x - 1)
  have e : ex (x - 1) = ex x := by
    simp only [ex, man] at h ⊢
    split at h <;> omega
  rw [e] at h1 h2
  rw [Int.sub_mul, Int.one_mul]
  have : vl x = 2 * man x * 2 ^ ex x := rfl
  omega

theorem md_pred' (x : Int) (hx : 0 < x) (h : man x = 4503599627370496 ∧ 0 < ex x) : md (x - 1) = 18014398509481983 * 2 ^ (ex x - 1) := by
  have e : ex (x - 1) = ex x - 1 := by
    simp only [ex, man] at h ⊢
    split at h <;> omega
  have m : man (x - 1) = 9007199254740991 := by
    simp only [ex, man] at h ⊢
    split at h <;> split <;> omega
  rw [md, m, e]
  rfl
end Ie
end Go.Proofs.YtiflponlioldmaaGreatDoor

/-
  What Decode tells, by the bits without the sign.
-/
namespace Go.Proofs.YtiflponlioldmaaGreatDoor
open Go Go.RowKit Go.Deep

namespace Ie
theorem dec_kinds (d : Int) : ∀ r, d % 9223372036854775808 = r →
    (cls d = 0 ∧ dm d = 0 ∧ de d = 0 ∧ r = 0) ∨ (cls d = 1 ∧ dm d = r ∧ de d = -1074 ∧ 0 < r ∧ r < 4503599627370496) ∨ (cls d = 2 ∧ dm d = man r ∧ de d = (ex r : Int) - 1074 ∧ 4503599627370496 ≤ r ∧ r < 9218868437227405312) ∨
    (cls d = 3 ∧ dm d = 0 ∧ de d = 0 ∧ r = 9218868437227405312) ∨ (cls d = 4 ∧ dm d = r - 9218868437227405312 ∧ de d = 0 ∧ 9218868437227405312 < r ∧ r < 9223372036854775808) := by
  intro r hr
  have hf : fld d = r / 4503599627370496 := by simp only [fld]; omega
  have hy : d % 4503599627370496 = r % 4503599627370496 := by omega
  have hm : dm d = if cls d = 2 then 4503599627370496 + r % 4503599627370496 else if cls d = 1 ∨ cls d = 4 then r % 4503599627370496 else 0 := by rw [dm, hy]
  have he : de d = if cls d = 2 then r / 4503599627370496 - 1075 else if cls d = 1 then -1074 else 0 := by rw [de, hf]
  have hc : cls d = if r / 4503599627370496 = 0 then (if r % 4503599627370496 = 0 then 0 else 1) else if r / 4503599627370496 = 2047 then (if r % 4503599627370496 = 0 then 3 else 4) else 2 := by rw [cls, hf, hy]
  by_cases a : r / 4503599627370496 = 0
  · by_cases b : r % 4503599627370496 = 0
    · rw [if_pos a, if_pos b] at hc
      left; rw [hm, he, hc]; exact ⟨rfl, rfl, rfl, by omega⟩
    · rw [if_pos a, if_neg b] at hc
      right; left; rw [hm, he, hc]; exact ⟨rfl, show r % 4503599627370496 = r by omega, rfl, by omega, by omega⟩
  · by_cases a2 : r / 4503599627370496 = 2047
    · by_cases b : r % 4503599627370496 = 0
      · rw [if_neg a, if_pos a2, if_pos b] at hc
        right; right; right; left; rw [hm, he, hc]; exact ⟨rfl, rfl, rfl, by omega⟩
      · rw [if_neg a, if_pos a2, if_neg b] at hc
        right; right; right; right; rw [hm, he, hc]; exact ⟨rfl, show r % 4503599627370496 = _ by omega, rfl, by omega, by omega⟩
    · rw [if_neg a, if_neg a2] at hc
      right; right; left; rw [hm, he, hc]
      refine ⟨rfl, ?_, ?_, by omega, by omega⟩
      · show 4503599627370496 + r % 4503599627370496 = man r
        rw [man, if_neg (by omega)]
      · show r / 4503599627370496 - 1075 = (ex r : Int) - 1074
        rw [ex]; omega
end Ie

namespace Ie
/-- The whole part of a finite double's value. -/
def whp (r : Int) : Int := vl r / 2 ^ 1075

theorem whp_low (r : Int) (k : Nat) (h : (ex r : Int) + k = 1074) : whp r = man r / 2 ^ k := by
  have e1 : vl r = man r * 2 ^ (ex r + 1) := by rw [vl, Nm.two_succ]; ac_rfl
  have e2 : (2 : Int) ^ 1075 = 2 ^ k * 2 ^ (ex r + 1) := by rw [← Nm.two_add]; congr 1; omega
  rw [whp, e1, e2, Int.mul_ediv_mul_of_pos_left _ _ (Nm.two_pos _)]

theorem whp_high (r : Int) (k : Nat) (h : (ex r : Int) = 1074 + k) : whp r = man r * 2 ^ k ∧ vl r = whp r * 2 ^ 1075 := by
  have e1 : vl r = man r * 2 ^ k * 2 ^ 1075 := by
    have e0 : (2 : Int) ^ 1075 = 2 * 2 ^ 1074 := Nm.two_succ 1074
    rw [vl, show ex r = k + 1074 by omega, Nm.two_add, e0]
    generalize (2 : Int) ^ 1074 = P
    generalize (2 : Int) ^ k = Q
    ac_rfl
  have e2 : whp r = man r * 2 ^ k := by rw [whp, e1, Int.mul_ediv_cancel _ (by have := Nm.two_pos 1075; omega)]
  exact ⟨e2, by rw [e2]; exact e1⟩

theorem whp_zero : whp 0 = 0 := by rw [whp, vl_zero, Int.zero_ediv]

theorem shr_min (m : Int) (k : Nat) (h0 : 0 ≤ m) (h1 : m < 9007199254740992) : m / 2 ^ min k 64 = m / 2 ^ k := by
  rcases Nat.le_total k 64 with h | h
  · rw [Nat.min_eq_left h]
  · rw [Nat.min_eq_right h]
    have e53 : (2 : Int) ^ 53 = 9007199254740992 := by decide
    have g1 := Nm.two_mono (show 53 ≤ k by omega)
    have g2 := Nm.two_mono (show 53 ≤ 64 by omega)
    rw [Int.ediv_eq_zero_of_lt h0 (by omega), Int.ediv_eq_zero_of_lt h0 (by omega)]
end Ie
end Go.Proofs.YtiflponlioldmaaGreatDoor

namespace Go.Proofs.YtiflponlioldmaaGreatDoor
open Go

def sW (p : Dr.Pc) (x : Int) : Int := if p.wk = 2 then x else p.wd
def sP (p : Dr.Pc) (y : Int) : Int := if p.pk = 0 then -1 else if p.pk = 2 then max y (-1) else p.pr
def ste (p : Dr.Pc) (x y : Int) : Int := if Dr.isR p then (if sW p x < -4096 ∨ 4096 < sW p x ∨ 4096 < sP p y then 6 else 0) else 132
def spv (p : Dr.Pc) (x y : Int) : Array Value := if ste p x y = 0 then #[.int .u8 p.v, .int .i64 (if sW p x < 0 then bits .or .i64 p.fl 1 else p.fl), .int .i64 (if sW p x < 0 then - sW p x else sW p x), .int .i64 (sP p y)] else #[.int .u8 0, .int .i64 0, .int .i64 0, .int .i64 0]
end Go.Proofs.YtiflponlioldmaaGreatDoor

namespace Go.Proofs.YtiflponlioldmaaGreatDoor
namespace Dr

theorem ct_loc {p : Int → Bool} {l : List Int} (r : List Int) (h : ct p l < l.length) : ct p (l ++ r) = ct p l := by
  induction l with
  | nil => simp [ct] at h
  | cons c l ih =>
    rw [List.cons_append, ct, ct]
    rw [ct, List.length_cons] at h
    by_cases hc : p c = true
    · rw [if_pos hc] at h ⊢
      rw [if_pos hc, ih (by omega)]
    · rw [if_neg hc, if_neg hc]
theorem fS_loc {s : Nat} {l : List Int} (r : List Int) (h : ct isF l < l.length) : fS s (l ++ r) = fS s l := by
  induction l generalizing s with
  | nil => simp [ct] at h
  | cons c l ih =>
    rw [List.cons_append, fS, fS]
    rw [ct, List.length_cons] at h
    by_cases hc : isF c = true
    · rw [if_pos hc] at h ⊢
      rw [if_pos hc, ih (by omega)]
    · rw [if_neg hc, if_neg hc]
theorem dN_loc {n : Int} {l : List Int} (r : List Int) (h : ct isD l < l.length) : dN n (l ++ r) = dN n l := by
  induction l generalizing n with
  | nil => simp [ct] at h
  | cons c l ih =>
    rw [List.cons_append, dN, dN]
    rw [ct, List.length_cons] at h
    by_cases hc : isD c = true
    · rw [if_pos hc] at h ⊢
      rw [if_pos hc, ih (by omega)]
    · rw [if_neg hc, if_neg hc]
theorem dN_cap (r : List Int) : dN 4097 r = 4097 := by
  induction r with
  | nil => rfl
  | cons c l ih =>
    rw [dN]
    by_cases hc : isD c = true
    · have := isD_iff.1 hc
      rw [if_pos hc, Int.min_eq_right (by omega), ih]
    · rw [if_neg hc]
theorem dN_big {n : Int} {l : List Int} (r : List Int) (hn : n ≤ 4097) (h : 4096 < dN n l) : 4096 < dN n (l ++ r) := by
  induction l generalizing n with
  | nil =>
    have e : n = 4097 := by simp [dN] at h; omega
    rw [List.nil_append, e, dN_cap]; omega
  | cons c l ih =>
    rw [List.cons_append, dN]
    rw [dN] at h
    by_cases hc : isD c = true
    · rw [if_pos hc] at h ⊢
      exact ih (by omega) h
    · rw [if_neg hc] at h ⊢
      exact h
theorem head_loc {l : List Int} (r : List Int) (h : l ≠ []) : (l ++ r).headD 0 = l.headD 0 := by
  cases l with
  | nil => exact absurd rfl h
  | cons c l => rfl
theorem ct_nz {l : List Int} (r : List Int) {p : Int → Bool} (h : l ≠ []) : ct p (l ++ r) = 0 ↔ ct p l = 0 := by
  cases l with
  | nil => exact absurd rfl h
  | cons c l =>
    rw [List.cons_append, ct, ct]
    by_cases hc : p c = true
    · rw [if_pos hc, if_pos hc]; omega
    · rw [if_neg hc, if_neg hc]
theorem num_loc {l : List Int} (r : List Int) (h : l ≠ []) (k : ne l ≠ 0 ∨ nu l < l.length) : ne (l ++ r) = ne l ∧ nk (l ++ r) = nk l ∧ nv (l ++ r) = nv l ∧ nu (l ++ r) = nu l := by
  have hh := head_loc r h
  unfold ne nk nv nu at *
  rw [hh]
  by_cases h1 : l.headD 0 = 42
  · simp only [if_pos h1]; exact ⟨trivial, trivial, trivial, trivial⟩
  · simp only [if_neg h1] at k ⊢
    by_cases h2 : ct isD l = 0
    · have h3 := (ct_nz r h).2 h2
      simp only [if_pos h2, if_pos h3]; exact ⟨trivial, trivial, trivial, trivial⟩
    · have h3 : ¬ ct isD (l ++ r) = 0 := fun q => h2 ((ct_nz r h).1 q)
      simp only [if_neg h2, if_neg h3] at k ⊢
      by_cases h4 : 4096 < dN 0 l
      · have h5 := dN_big r (by omega) h4
        simp only [if_pos h4, if_pos h5]; exact ⟨trivial, trivial, trivial, trivial⟩
      · simp only [if_neg h4] at k ⊢
        have h6 : ct isD l < l.length := by
          rcases k with k | k
          · simp at k
          · exact k
        rw [dN_loc r h6, ct_loc r h6]
        simp only [if_neg h4]
        exact ⟨trivial, trivial, trivial, trivial⟩
theorem tail_loc {l : List Int} (r : List Int) (h : l ≠ []) : (l ++ r).tail = l.tail ++ r := by
  cases l with
  | nil => exact absurd rfl h
  | cons c l => rfl
theorem prec_loc {l : List Int} (r : List Int) (h : l ≠ []) (k : pe l ≠ 0 ∨ pu l < l.length) : pe (l ++ r) = pe l ∧ pk (l ++ r) = pk l ∧ pv (l ++ r) = pv l ∧ pu (l ++ r) = pu l := by
  have hh := head_loc r h
  have ht := tail_loc r h
  have hl := List.length_pos_iff.2 h
  unfold pe pk pv pu at *
  rw [hh, ht]
  by_cases h1 : l.headD 0 = 46
  · simp only [if_pos h1] at k ⊢
    have h2 : l.tail ≠ [] := by
      intro q
      rw [q] at k
      have e : l.length = 1 := by
        have := congrArg List.length q
        rw [List.length_tail] at this
        simp at this
        omega
      rcases k with k | k
      · exact k (by decide)
      · omega
    obtain ⟨a, b, c, d⟩ := num_loc (l := l.tail) r h2 (by
      rcases k with k | k
      · exact .inl k
      · right; rw [List.length_tail]; omega)
    rw [a, b, c, d]
    exact ⟨rfl, rfl, rfl, rfl⟩
  · simp only [if_neg h1]; exact ⟨trivial, trivial, trivial, trivial⟩
theorem verb_loc {l : List Int} (r : List Int) (h : l ≠ []) : ve (l ++ r) = ve l ∧ vv (l ++ r) = vv l ∧ vu (l ++ r) = vu l := by
  have hh := head_loc r h
  have hn : ¬ l ++ r = [] := fun q => h (List.append_eq_nil_iff.1 q).1
  have e : ve (l ++ r) = ve l := by rw [ve, ve, if_neg hn, if_neg h, hh]
  exact ⟨e, by rw [vv, vv, e, hh], by rw [vu, vu, e]⟩
theorem drop_loc {l : List Int} (r : List Int) {k : Nat} (h : k ≤ l.length) : (l ++ r).drop k = l.drop k ++ r := by
  rw [List.drop_append_of_le_length h]
theorem ends_nil {l : List Int} (h : l = []) : ne l = 0 ∧ pe l = 0 ∧ ve l = 131 ∧ nu l = 0 ∧ pu l = 0 := by
  subst h; decide
/-- A directive that does not end too early hangs on nothing behind it. -/
theorem dir_loc {l : List Int} (r : List Int) (h : de l ≠ 131) : de (l ++ r) = de l ∧ dp (l ++ r) = dp l ∧ du (l ++ r) = du l := by
  have hA : ct isF l < l.length := by
    rcases Nat.lt_or_ge (ct isF l) l.length with q | q
    · exact q
    · exfalso
      apply h
      have e1 : l1 l = [] := by rw [l1]; exact List.drop_of_length_le q
      have e2 : l2 l = [] := by rw [l2, e1]; rfl
      have e3 : l3 l = [] := by rw [l3, e2]; rfl
      rw [de, e1, e2, e3]; decide
  have a1 : l1 (l ++ r) = l1 l ++ r := by rw [l1, l1, ct_loc r hA, drop_loc r (by omega)]
  have a2 := ct_loc r hA
  have a3 := fS_loc (s := 0) r hA
  have n1 : l1 l ≠ [] := by rw [l1]; intro q; have := List.drop_eq_nil_iff.1 q; omega
  by_cases hB : ne (l1 l) = 0
  · have hN : nu (l1 l) < (l1 l).length := by
      rcases Nat.lt_or_ge (nu (l1 l)) (l1 l).length with q | q
      · exact q
      · exfalso
        apply h
        have e2 : l2 l = [] := by rw [l2]; exact List.drop_of_length_le q
        have e3 : l3 l = [] := by rw [l3, e2]; rfl
        rw [de, hB, e2, e3]; decide
    obtain ⟨b1, b2, b3, b4⟩ := num_loc r n1 (.inr hN)
    have a4 : l2 (l ++ r) = l2 l ++ r := by rw [l2, l2, a1, b4, drop_loc r (by omega)]
    have n2 : l2 l ≠ [] := by rw [l2]; intro q; have := List.drop_eq_nil_iff.1 q; omega
    by_cases hC : pe (l2 l) = 0
    · have hP : pu (l2 l) < (l2 l).length := by
        rcases Nat.lt_or_ge (pu (l2 l)) (l2 l).length with q | q
        · exact q
        · exfalso
          apply h
          have e3 : l3 l = [] := by rw [l3]; exact List.drop_of_length_le q
          rw [de, hB, hC, e3]; decide
      obtain ⟨c1, c2, c3, c4⟩ := prec_loc r n2 (.inr hP)
      have a5 : l3 (l ++ r) = l3 l ++ r := by rw [l3, l3, a4, c4, drop_loc r (by omega)]
      have n3 : l3 l ≠ [] := by rw [l3]; intro q; have := List.drop_eq_nil_iff.1 q; omega
      obtain ⟨d1, d2, d3⟩ := verb_loc r n3
      have e : de (l ++ r) = de l := by rw [de, de, a1, a4, a5, b1, c1, d1]
      exact ⟨e, by rw [dp, dp, e, a1, a4, a5, b2, b3, c2, c3, d2, a3], by rw [du, du, a1, a4, a5, b1, b4, c1, c4, d3, a2]⟩
    · obtain ⟨c1, c2, c3, c4⟩ := prec_loc r n2 (.inl hC)
      have e : de (l ++ r) = de l := by
        rw [de, de, a1, a4, b1, c1]; simp [hB, hC]
      have e0 : de l ≠ 0 := by rw [de, if_neg (by simp [hB]), if_pos hC]; exact hC
      refine ⟨e, by rw [dp, dp, e, if_neg e0, if_neg e0], ?_⟩
      rw [du, du, a1, a4, b1, b4, c1, c4, a2]; simp [hB, hC]
  · obtain ⟨b1, b2, b3, b4⟩ := num_loc r n1 (.inl hB)
    have e : de (l ++ r) = de l := by rw [de, de, a1, b1, if_pos hB, if_pos hB]
    have e0 : de l ≠ 0 := by rw [de, if_pos hB]; exact hB
    refine ⟨e, by rw [dp, dp, e, if_neg e0, if_neg e0], ?_⟩
    rw [du, du, a1, b1, a2, if_pos hB, if_pos hB]

/-- Likewise a piece, if it is no text that goes to the end. -/
theorem piece_loc {l : List Int} (r : List Int) (h : l ≠ []) (k : qe l ≠ 131) (t : l.headD 0 ≠ 37 → ct isX l < l.length) : qe (l ++ r) = qe l ∧ qp (l ++ r) = qp l ∧ qu (l ++ r) = qu l := by
  have hh := head_loc r h
  have ht := tail_loc r h
  unfold qe qp qu at *
  rw [hh, ht]
  by_cases h1 : l.headD 0 ≠ 37
  · have c := ct_loc r (t h1)
    simp only [if_pos h1, c]
    refine ⟨trivial, ?_, trivial⟩
    rw [List.take_append_of_le_length (by have := t h1; omega)]
  · simp only [if_neg h1] at k ⊢
    have h2 : l.tail ≠ [] ∨ l.tail = [] := by by_cases q : l.tail = [] <;> simp [q]
    rcases h2 with h2 | h2
    · rw [head_loc r h2]
      by_cases h3 : l.tail.headD 0 = 37
      · simp only [if_pos h3]; exact ⟨trivial, trivial, trivial⟩
      · simp only [if_neg h3] at k ⊢
        obtain ⟨a, b, c⟩ := dir_loc r k
        rw [a, b, c]
        exact ⟨rfl, rfl, rfl⟩
    · exfalso
      rw [h2] at k
      exact k (by decide)

theorem prs_ok' {l : List Int} (h : (prs l).2.2 = 0) : prs l = ((prs l).1, 0, 0) := by
  by_cases hl : l = []
  · rw [hl, prs_nil]
  · by_cases he : qe l = 0
    · rw [prs_cons hl he] at h ⊢
      split at h <;> rename_i k
      · rw [if_pos k]
      · exact absurd h k
    · rw [prs_err hl he] at h
      exact absurd h he

/-- Two lists of pieces, one behind the other: two texts that meet are one. -/
def mrg : List Pc → List Pc → List Pc
  | [], m => m
  | [p], [] => [p]
  | [p], q :: m => if p.v = 0 ∧ q.v = 0 then ⟨p.t ++ q.t, 0, 0, 0, 0, 0, 0⟩ :: m else p :: q :: m
  | p :: p' :: l, m => p :: mrg (p' :: l) m

theorem qp_v {l : List Int} (k : qe l = 0) : (qp l).v = 0 ↔ l.headD 0 ≠ 37 := by
  unfold qp
  by_cases h1 : l.headD 0 ≠ 37
  · rw [if_pos h1]; exact ⟨fun _ => h1, fun _ => rfl⟩
  · rw [if_neg h1]
    by_cases h2 : l.tail.headD 0 = 37
    · rw [if_pos h2]; exact ⟨fun q => absurd (show (37 : Int) = 0 from q) (by decide), fun q => absurd q h1⟩
    · rw [if_neg h2]
      rw [qe, if_neg h1, if_neg h2] at k
      rw [dp, if_pos k]
      have e3 : ve (l3 l.tail) = 0 := by
        rw [de] at k
        split at k
        · contradiction
        · split at k
          · contradiction
          · exact k
      have : 0 ≤ idx verbs ((l3 l.tail).headD 0) := by
        rw [ve] at e3
        split at e3
        · simp at e3
        · split at e3
          · simp at e3
          · omega
      have v := (verb_ne this).1
      have z : vv (l3 l.tail) = (l3 l.tail).headD 0 := by rw [vv, if_pos e3]
      exact ⟨fun q => absurd ((z.symm.trans q)) v, fun q => absurd q h1⟩

theorem txt_all {a : List Int} (h : ct isX a = a.length) (b : List Int) : ct isX (a ++ b) = a.length + ct isX b := by
  refine ct_app ?_
  induction a with
  | nil => simp
  | cons c l ih =>
    rw [ct, List.length_cons] at h
    by_cases hc : isX c = true
    · rw [if_pos hc] at h
      intro x hx
      rcases List.mem_cons.1 hx with rfl | hx
      · exact hc
      · exact ih (by omega) x hx
    · rw [if_neg hc] at h
      omega

theorem prs_bad' {l : List Int} (h : (prs l).2.2 ≠ 0) : prs l = ([], (prs l).2.1, (prs l).2.2) := by
  by_cases hl : l = []
  · rw [hl, prs_nil] at h; exact absurd rfl h
  · by_cases he : qe l = 0
    · rw [prs_cons hl he] at h ⊢
      split at h <;> rename_i k
      · exact absurd rfl h
      · rw [if_neg k]
    · rw [prs_err hl he]
theorem mrg_one {p : Pc} (h : p.v ≠ 0) (m : List Pc) : mrg [p] m = p :: m := by
  cases m with
  | nil => rfl
  | cons q m => rw [mrg, if_neg (fun z => h z.1)]
theorem mrg_one' {p q : Pc} (h : q.v ≠ 0) (m : List Pc) : mrg [p] (q :: m) = p :: q :: m := by
  rw [mrg, if_neg (fun z => h z.2)]

/-- A format that is taken, and another one behind it. -/
theorem prs_app : ∀ (n : Nat) (a b : List Int), a.length ≤ n → (prs a).2.2 = 0 →
    ((prs b).2.2 = 0 → prs (a ++ b) = (mrg (prs a).1 (prs b).1, 0, 0)) ∧ ((prs b).2.2 ≠ 0 → prs (a ++ b) = ([], a.length + (prs b).2.1, (prs b).2.2)) := by
  intro n
  induction n with
  | zero =>
    intro a b hl _
    have : a = [] := List.eq_nil_of_length_eq_zero (by omega)
    subst this
    rw [List.nil_append, prs_nil]
    refine ⟨fun h => ?_, fun h => ?_⟩
    · rw [show mrg ([] : List Pc) (prs b).1 = (prs b).1 by rw [mrg]]; exact prs_ok' h
    · rw [List.length_nil, Nat.zero_add]; exact prs_bad' h
  | succ n ih =>
    intro a b hl ha
    by_cases h0 : a = []
    · subst h0
      rw [List.nil_append, prs_nil]
      refine ⟨fun h => ?_, fun h => ?_⟩
      · rw [show mrg ([] : List Pc) (prs b).1 = (prs b).1 by rw [mrg]]; exact prs_ok' h
      · rw [List.length_nil, Nat.zero_add]; exact prs_bad' h
    · have he : qe a = 0 := by
        by_cases q : qe a = 0
        · exact q
        · rw [prs_err h0 q] at ha; exact ha
      have hab : a ++ b ≠ [] := fun q => h0 (List.append_eq_nil_iff.1 q).1
      have up := qu_pos h0
      have ul := qu_le h0
      have hr : (prs (a.drop (qu a))).2.2 = 0 := by
        rw [prs_cons h0 he] at ha
        split at ha <;> rename_i k
        · exact k
        · exact ha
      have pa : prs a = (qp a :: (prs (a.drop (qu a))).1, 0, 0) := by rw [prs_cons h0 he, if_pos hr]
      by_cases ht : a.headD 0 ≠ 37 ∧ ct isX a = a.length
      · obtain ⟨h1, h2⟩ := ht
        have eu : qu a = a.length := by rw [qu, if_pos h1, h2]
        have ep : qp a = ⟨a, 0, 0, 0, 0, 0, 0⟩ := by rw [qp, if_pos h1, h2, List.take_length]
        rw [eu, List.drop_length, prs_nil, ep] at pa
        have hh : (a ++ b).headD 0 ≠ 37 := by rw [head_loc b h0]; exact h1
        have ca := txt_all h2 b
        have e2 : qe (a ++ b) = 0 := by rw [qe, if_pos hh]
        have u2 : qu (a ++ b) = a.length + ct isX b := by rw [qu, if_pos hh, ca]
        have p2 : qp (a ++ b) = ⟨a ++ b.take (ct isX b), 0, 0, 0, 0, 0, 0⟩ := by rw [qp, if_pos hh, ca, List.take_length_add_append]
        rw [prs_cons hab e2, u2, p2, List.drop_length_add_append, pa]
        by_cases hb : b = []
        · subst hb
          rw [show ct isX ([] : List Int) = 0 from rfl, List.drop_zero, prs_nil]
          refine ⟨fun _ => ?_, fun q => absurd rfl q⟩
          simp [mrg]
        · by_cases h3 : b.headD 0 ≠ 37
          · have eb : qe b = 0 := by rw [qe, if_pos h3]
            have ub : qu b = ct isX b := by rw [qu, if_pos h3]
            have pb : qp b = ⟨b.take (ct isX b), 0, 0, 0, 0, 0, 0⟩ := by rw [qp, if_pos h3]
            rw [prs_cons hb eb, ub, pb]
            by_cases k : (prs (b.drop (ct isX b))).2.2 = 0
            · rw [if_pos k, if_pos k]
              refine ⟨fun _ => ?_, fun q => absurd rfl q⟩
              simp [mrg]
            · rw [if_neg k, if_neg k]
              refine ⟨fun q => absurd q k, fun _ => ?_⟩
              rw [Nat.add_assoc]
          · have c0 : ct isX b = 0 := ct_zero (by
              have : b.headD 0 = 37 := by omega
              rw [this]; decide)
            rw [c0, List.drop_zero, List.take_zero, List.append_nil, Nat.add_zero]
            refine ⟨fun q => ?_, fun q => ?_⟩
            · rw [if_pos q]
              have eb : qe b = 0 := by
                by_cases z : qe b = 0
                · exact z
                · rw [prs_err hb z] at q; exact absurd q z
              have vb : (qp b).v ≠ 0 := fun z => h3 ((qp_v eb).1 z)
              have hq : (prs (b.drop (qu b))).2.2 = 0 := by
                rw [prs_cons hb eb] at q
                split at q <;> rename_i k
                · exact k
                · exact q
              rw [prs_cons hb eb, if_pos hq, mrg_one' vb]
            · rw [if_neg q]
      · have tx : a.headD 0 ≠ 37 → ct isX a < a.length := fun q => by
          have := ct_le isX a
          rcases Nat.lt_or_ge (ct isX a) a.length with z | z
          · exact z
          · exact absurd ⟨q, by omega⟩ ht
        obtain ⟨l1', l2', l3'⟩ := piece_loc b h0 (by rw [he]; decide) tx
        have i1 := ih (a.drop (qu a)) b (by rw [List.length_drop]; omega) hr
        rw [prs_cons hab (by rw [l1']; exact he), l2', l3', drop_loc b ul, pa]
        refine ⟨fun q => ?_, fun q => ?_⟩
        · rw [i1.1 q, if_pos rfl]
          congr 1
          cases hm : (prs (a.drop (qu a))).1 with
          | nil =>
            have ad : a.drop (qu a) = [] := by
              by_cases z : a.drop (qu a) = []
              · exact z
              · have ez : qe (a.drop (qu a)) = 0 := by
                  by_cases y : qe (a.drop (qu a)) = 0
                  · exact y
                  · rw [prs_err z y] at hr; exact hr
                rw [prs_cons z ez] at hm hr
                split at hm <;> rename_i k
                · simp at hm
                · rw [if_neg k] at hr; exact absurd hr k
            have pv : (qp a).v ≠ 0 := by
              intro z
              have z1 := (qp_v he).1 z
              have z2 := tx z1
              have z3 : qu a = ct isX a := by rw [qu, if_pos z1]
              have := List.drop_eq_nil_iff.1 ad
              omega
            rw [mrg_one pv]; rfl
          | cons p' l' => rfl
        · rw [i1.2 q, if_neg q, List.length_drop]
          simp only
          rw [show qu a + (a.length - qu a + (prs b).2.1) = a.length + (prs b).2.1 by omega]
end Dr
end Go.Proofs.YtiflponlioldmaaGreatDoor

namespace Go.Proofs.YtiflponlioldmaaGreatDoor
namespace Dr
/-- How many arguments a piece takes. -/
def tk (p : Pc) : Int := if p.v = 0 ∨ p.v = 37 then 0 else 1 + (if p.wk = 2 then 1 else 0) + (if p.pk = 2 then 1 else 0)
def wants : List Pc → Int
  | [] => 0
  | p :: l => tk p + wants l
theorem tk_bd (p : Pc) : 0 ≤ tk p ∧ tk p ≤ 3 := by
  unfold tk
  split
  · omega
  · split <;> split <;> omega
theorem wants_app (a b : List Pc) : wants (a ++ b) = wants a + wants b := by
  induction a with
  | nil => simp [wants]
  | cons p l ih => rw [List.cons_append, wants, wants, ih]; omega
theorem wants_bd (l : List Pc) : 0 ≤ wants l ∧ wants l ≤ 3 * l.length := by
  induction l with
  | nil => simp [wants]
  | cons p l ih => have := tk_bd p; rw [wants, List.length_cons]; omega
theorem wants_take {l : List Pc} {i : Nat} (h : i < l.length) : wants (l.take (i + 1)) = wants (l.take i) + tk (l.getD i Pc.no) := by
  rw [List.take_add_one, List.getElem?_eq_getElem h, wants_app, List.getD_eq_getElem?_getD, List.getElem?_eq_getElem h]
  simp [wants]
end Dr
end Go.Proofs.YtiflponlioldmaaGreatDoor

namespace Go.Proofs.YtiflponlioldmaaGreatDoor
namespace Rn
open Dr (Pc tk wants mrg)

/-- An argument: a text or a number. -/
structure Ag where
  x : Bool
  n : Int
  s : List Int
def Ag.no : Ag := ⟨false, 0, []⟩

/-- The pieces from the left: the error, what has been written. -/
def run (E : Pc → List Ag → Int) (T : Pc → List Ag → List Int) : List Pc → List Ag → List Int → Int × List Int
  | [], _, o => (0, o)
  | p :: ps, A, o => if E p A ≠ 0 then (E p A, []) else if 16777216 < o.length + (T p A).length then (3, []) else run E T ps (A.drop (tk p).toNat) (o ++ T p A)

/-- What a piece's meaning keeps to. -/
structure Loc (E : Pc → List Ag → Int) (T : Pc → List Ag → List Int) : Prop where
  few : ∀ p A, (A.length : Int) < tk p → E p A ≠ 0
  loc : ∀ p A (k : Nat), tk p ≤ A.length → tk p ≤ k → E p (A.take k) = E p A ∧ T p (A.take k) = T p A
  txt : ∀ p A, p.v = 0 → E p A = 0 ∧ T p A = p.t

variable {E : Pc → List Ag → Int} {T : Pc → List Ag → List Int}

theorem run_err : ∀ (l : List Pc) (A : List Ag) (o : List Int), (run E T l A o).1 ≠ 0 → (run E T l A o).2 = []
  | [], _, _, h => absurd rfl h
  | p :: l, A, o, h => by
    rw [run] at h ⊢
    split
    · rfl
    · rename_i a
      split
      · rfl
      · rename_i b
        rw [if_neg a, if_neg b] at h
        exact run_err l _ _ h
theorem run_len : ∀ (l : List Pc) (A : List Ag) (o : List Int), o.length ≤ 16777216 → (run E T l A o).2.length ≤ 16777216
  | [], _, _, h => h
  | p :: l, A, o, h => by
    rw [run]
    split
    · simp
    · split
      · simp
      · exact run_len l _ _ (by rw [List.length_append]; omega)
theorem run_app : ∀ (l m : List Pc) (A : List Ag) (o : List Int), run E T (l ++ m) A o = if (run E T l A o).1 = 0 then run E T m (A.drop (wants l).toNat) (run E T l A o).2 else run E T l A o
  | [], m, A, o => by rw [List.nil_append, run, if_pos rfl]; rfl
  | p :: l, m, A, o => by
    rw [List.cons_append, run, run]
    by_cases h : E p A ≠ 0
    · rw [if_pos h, if_pos h, if_neg h]
    · rw [if_neg h, if_neg h]
      by_cases k : 16777216 < o.length + (T p A).length
      · rw [if_pos k, if_pos k, if_neg (show ¬ (3 : Int) = 0 by decide)]
      · rw [if_neg k, if_neg k, run_app l m, List.drop_drop]
        have a := Dr.tk_bd p
        have b := Dr.wants_bd l
        have e : (wants (p :: l)).toNat = (tk p).toNat + (wants l).toNat := by rw [wants]; omega
        rw [e]
/-- What stood ahead of it. -/
theorem run_on : ∀ (l : List Pc) (A : List Ag) (o x : List Int), o.length + x.length ≤ 16777216 →
    ((run E T l A x).1 = 0 → run E T l A (o ++ x) = if 16777216 < o.length + (run E T l A x).2.length then (3, []) else (0, o ++ (run E T l A x).2)) ∧
    ((run E T l A x).1 ≠ 0 → ((run E T l A (o ++ x)).1 = (run E T l A x).1 ∨ ((run E T l A (o ++ x)).1 = 3 ∧ o ≠ [])))
  | [], A, o, x, h => by
    refine ⟨fun _ => ?_, fun k => absurd rfl k⟩
    rw [run, run, if_neg (by show ¬ 16777216 < o.length + x.length; omega)]
  | p :: l, A, o, x, h => by
    rw [run, run]
    by_cases e : E p A ≠ 0
    · rw [if_pos e, if_pos e]
      exact ⟨fun k => absurd k e, fun _ => .inl rfl⟩
    · rw [if_neg e, if_neg e]
      by_cases k : 16777216 < x.length + (T p A).length
      · rw [if_pos k, if_pos (by rw [List.length_append]; omega)]
        exact ⟨fun q => absurd q (by decide), fun _ => .inl rfl⟩
      · rw [if_neg k]
        by_cases k2 : 16777216 < (o ++ x).length + (T p A).length
        · rw [if_pos k2]
          rw [List.length_append] at k2
          refine ⟨fun q => ?_, fun q => .inr ⟨rfl, fun z => ?_⟩⟩
          · have g := run_grow l (A.drop (tk p).toNat) (x ++ T p A) q
            rw [List.length_append] at g
            rw [if_pos (by omega)]
          · rw [z] at k2; simp at k2; omega
        · rw [if_neg k2, List.append_assoc]
          rw [List.length_append] at k2
          exact run_on l _ o (x ++ T p A) (by rw [List.length_append]; omega)
where
  run_grow : ∀ (l : List Pc) (A : List Ag) (o : List Int), (run E T l A o).1 = 0 → o.length ≤ (run E T l A o).2.length
  | [], _, _, _ => Nat.le_refl _
  | p :: l, A, o, h => by
    rw [run] at h ⊢
    split
    · rename_i a; rw [if_pos a] at h; exact absurd h a
    · rename_i a
      rw [if_neg a] at h
      split
      · rename_i b; rw [if_pos b] at h; exact absurd h (by decide)
      · rename_i b
        rw [if_neg b] at h
        have := run_grow l _ _ h
        rw [List.length_append] at this
        omega
/-- What is taken. -/
theorem run_take (L : Loc E T) : ∀ (l : List Pc) (A : List Ag) (o : List Int), (run E T l A o).1 = 0 → wants l ≤ A.length ∧ ∀ k : Nat, wants l ≤ k → run E T l (A.take k) o = run E T l A o
  | [], A, o, _ => ⟨by show (0 : Int) ≤ _; omega, fun _ _ => rfl⟩
  | p :: l, A, o, h => by
    have a := Dr.tk_bd p
    have b := Dr.wants_bd l
    rw [run] at h
    by_cases e : E p A ≠ 0
    · rw [if_pos e] at h; exact absurd h e
    · rw [if_neg e] at h
      by_cases k : 16777216 < o.length + (T p A).length
      · rw [if_pos k] at h; exact absurd h (by decide)
      · rw [if_neg k] at h
        have tl : tk p ≤ A.length := by
          rcases Int.lt_or_le (A.length : Int) (tk p) with q | q
          · exact absurd (L.few p A q) e
          · exact q
        obtain ⟨i1, i2⟩ := run_take L l _ _ h
        rw [List.length_drop] at i1
        refine ⟨by rw [wants]; omega, fun n hn => ?_⟩
        rw [wants] at hn
        obtain ⟨e1, e2⟩ := L.loc p A n tl (by omega)
        rw [run, run, e1, e2, if_neg e, if_neg e, if_neg k, if_neg k, List.drop_take]
        exact i2 _ (by omega)
/-- Two texts that meet. -/
theorem run_text (L : Loc E T) (p q : Pc) (l : List Pc) (A : List Ag) (o : List Int) (hp : p.v = 0) (hq : q.v = 0) :
    run E T (⟨p.t ++ q.t, 0, 0, 0, 0, 0, 0⟩ :: l) A o = run E T (p :: q :: l) A o := by
  have t0 : ∀ r : Pc, r.v = 0 → (tk r).toNat = 0 := fun r h => by rw [tk, if_pos (.inl h)]; rfl
  obtain ⟨a1, a2⟩ := L.txt ⟨p.t ++ q.t, 0, 0, 0, 0, 0, 0⟩ A rfl
  obtain ⟨b1, b2⟩ := L.txt p A hp
  obtain ⟨c1, c2⟩ := L.txt q A hq
  rw [run, run, run, a1, a2, b1, b2, t0 _ rfl, t0 p hp, t0 q hq, List.drop_zero, c1, c2]
  simp only [ne_eq, not_true_eq_false, if_false, List.length_append]
  by_cases k : 16777216 < o.length + p.t.length
  · rw [if_pos k, if_pos (by omega)]
  · rw [if_neg k]
    by_cases k2 : 16777216 < o.length + (p.t.length + q.t.length)
    · rw [if_pos k2, if_pos (by omega)]
    · rw [if_neg k2, if_neg (by omega), List.append_assoc, List.drop_zero]
theorem run_mrg (L : Loc E T) : ∀ (l m : List Pc) (A : List Ag) (o : List Int), run E T (mrg l m) A o = run E T (l ++ m) A o
  | [], m, A, o => by rw [mrg]; rfl
  | [p], [], A, o => by rw [mrg]; rfl
  | [p], q :: m, A, o => by
    rw [mrg]
    split
    · rename_i h; exact run_text L p q m A o h.1 h.2
    · rfl
  | p :: p' :: l, m, A, o => by
    rw [mrg, List.cons_append, run, run]
    split
    · rfl
    · split
      · rfl
      · exact run_mrg L (p' :: l) m _ _
/-- What a format answers. -/
def fE (E : Pc → List Ag → Int) (T : Pc → List Ag → List Int) (xs : List Int) (A : List Ag) : Int := if (Dr.prs xs).2.2 ≠ 0 then (Dr.prs xs).2.2 else (run E T (Dr.prs xs).1 A []).1
def fT (E : Pc → List Ag → Int) (T : Pc → List Ag → List Int) (xs : List Int) (A : List Ag) : List Int := if (Dr.prs xs).2.2 ≠ 0 then [] else (run E T (Dr.prs xs).1 A []).2
theorem f_bad {xs : List Int} {A : List Ag} (h : (Dr.prs xs).2.2 ≠ 0) : fE E T xs A = (Dr.prs xs).2.2 ∧ fT E T xs A = [] := ⟨if_pos h, if_pos h⟩
theorem f_good {xs : List Int} {A : List Ag} (h : (Dr.prs xs).2.2 = 0) : fE E T xs A = (run E T (Dr.prs xs).1 A []).1 ∧ fT E T xs A = (run E T (Dr.prs xs).1 A []).2 := ⟨if_neg (fun q => q h), if_neg (fun q => q h)⟩
/-- A format behind another one that is taken. -/
theorem chain_bad {xs ys : List Int} (A : List Ag) (hx : (Dr.prs xs).2.2 = 0) (hy : (Dr.prs ys).2.2 ≠ 0) : fE E T (xs ++ ys) A = (Dr.prs ys).2.2 ∧ fT E T (xs ++ ys) A = [] := by
  have e := (Dr.prs_app _ xs ys (Nat.le_refl _) hx).2 hy
  have h : (Dr.prs (xs ++ ys)).2.2 = (Dr.prs ys).2.2 := by rw [e]
  have := f_bad (E := E) (T := T) (A := A) (xs := xs ++ ys) (by rw [h]; exact hy)
  rw [h] at this
  exact this
theorem chain_run (L : Loc E T) {xs ys : List Int} (A : List Ag) (hx : (Dr.prs xs).2.2 = 0) (hy : (Dr.prs ys).2.2 = 0) : (fE E T (xs ++ ys) A, fT E T (xs ++ ys) A) = if (run E T (Dr.prs xs).1 A []).1 = 0 then run E T (Dr.prs ys).1 (A.drop (wants (Dr.prs xs).1).toNat) (run E T (Dr.prs xs).1 A []).2 else run E T (Dr.prs xs).1 A [] := by
  have e := (Dr.prs_app _ xs ys (Nat.le_refl _) hx).1 hy
  have h : (Dr.prs (xs ++ ys)).2.2 = 0 := by rw [e]
  obtain ⟨a, b⟩ := f_good (E := E) (T := T) (A := A) h
  rw [a, b, e]
  show run E T (mrg (Dr.prs xs).1 (Dr.prs ys).1) A [] = _
  rw [run_mrg L, run_app]
theorem chain_err (L : Loc E T) {xs ys : List Int} (A : List Ag) (hx : (Dr.prs xs).2.2 = 0) (hy : (Dr.prs ys).2.2 = 0) (h : fE E T xs A ≠ 0) : fE E T (xs ++ ys) A = fE E T xs A ∧ fT E T (xs ++ ys) A = [] ∧ fT E T xs A = [] := by
  have c := chain_run L A hx hy
  obtain ⟨a, b⟩ := f_good (E := E) (T := T) (A := A) hx
  rw [a] at h
  rw [if_neg h] at c
  have e := run_err _ _ _ h
  rw [a, b, e]
  exact ⟨congrArg Prod.fst c, by have := congrArg Prod.snd c; rw [e] at this; exact this, rfl⟩
theorem chain_ok (L : Loc E T) {xs ys : List Int} (A : List Ag) (hx : (Dr.prs xs).2.2 = 0) (hy : (Dr.prs ys).2.2 = 0) (h : fE E T xs A = 0) :
    0 ≤ wants (Dr.prs xs).1 ∧ wants (Dr.prs xs).1 ≤ A.length ∧ fE E T xs (A.take (wants (Dr.prs xs).1).toNat) = 0 ∧ fT E T xs (A.take (wants (Dr.prs xs).1).toNat) = fT E T xs A ∧
    (fE E T ys (A.drop (wants (Dr.prs xs).1).toNat) ≠ 0 → fT E T (xs ++ ys) A = [] ∧ (fE E T (xs ++ ys) A = fE E T ys (A.drop (wants (Dr.prs xs).1).toNat) ∨ (fE E T (xs ++ ys) A = 3 ∧ fT E T xs A ≠ []))) ∧
    (fE E T ys (A.drop (wants (Dr.prs xs).1).toNat) = 0 → (16777216 < (fT E T xs A).length + (fT E T ys (A.drop (wants (Dr.prs xs).1).toNat)).length → fE E T (xs ++ ys) A = 3 ∧ fT E T (xs ++ ys) A = []) ∧ (¬ 16777216 < (fT E T xs A).length + (fT E T ys (A.drop (wants (Dr.prs xs).1).toNat)).length → fE E T (xs ++ ys) A = 0 ∧ fT E T (xs ++ ys) A = fT E T xs A ++ fT E T ys (A.drop (wants (Dr.prs xs).1).toNat))) := by
  have c := chain_run L A hx hy
  obtain ⟨a, b⟩ := f_good (E := E) (T := T) (A := A) hx
  obtain ⟨a1, b1⟩ := f_good (E := E) (T := T) (A := A.take (wants (Dr.prs xs).1).toNat) hx
  obtain ⟨a2, b2⟩ := f_good (E := E) (T := T) (A := A.drop (wants (Dr.prs xs).1).toNat) hy
  rw [a] at h
  obtain ⟨t1, t2⟩ := run_take L _ _ _ h
  have w0 := (Dr.wants_bd (Dr.prs xs).1).1
  have t3 := t2 (wants (Dr.prs xs).1).toNat (by omega)
  rw [t3] at a1 b1
  rw [if_pos h] at c
  have ln := run_len (E := E) (T := T) (Dr.prs xs).1 A [] (by simp)
  obtain ⟨o1, o2⟩ := run_on (E := E) (T := T) (Dr.prs ys).1 (A.drop (wants (Dr.prs xs).1).toNat) (run E T (Dr.prs xs).1 A []).2 [] (by simpa using ln)
  rw [List.append_nil] at o1 o2
  rw [← c] at o1 o2
  rw [a1, b1, a2, b2, b]
  refine ⟨w0, t1, h, rfl, fun q => ?_, fun q => ?_⟩
  · have e := o2 q
    refine ⟨?_, e⟩
    have z : (run E T (Dr.prs ys).1 (A.drop (wants (Dr.prs xs).1).toNat) (run E T (Dr.prs xs).1 A []).2).1 ≠ 0 := by
      rw [← c]
      rcases e with e | e
      · intro z; exact q (e.symm.trans z)
      · intro z; have := e.1.symm.trans z; exact absurd this (by decide)
    have := run_err _ _ _ z
    rw [← c] at this
    exact this
  · have e := o1 q
    refine ⟨fun k => ?_, fun k => ?_⟩
    · rw [if_pos k] at e
      exact ⟨congrArg Prod.fst e, congrArg Prod.snd e⟩
    · rw [if_neg k] at e
      exact ⟨congrArg Prod.fst e, congrArg Prod.snd e⟩
end Rn
end Go.Proofs.YtiflponlioldmaaGreatDoor

namespace Go.Proofs.YtiflponlioldmaaGreatDoor
namespace Dr

theorem fS_le {s : Nat} (l : List Int) (h : s < 2 ^ 5) : fS s l < 2 ^ 5 := by
  induction l generalizing s with
  | nil => exact h
  | cons c l ih =>
    rw [fS]
    split
    · refine ih (Nat.or_lt_two_pow h ?_)
      have a := idx_lt marks c
      have b : marks.length = 5 := rfl
      rename_i k
      have k' : 0 ≤ idx marks c := by simpa [isF] using k
      exact Nat.pow_lt_pow_right (by omega) (by omega)
    · exact h
theorem dN_ge {n : Int} (l : List Int) (h0 : 0 ≤ n) (h : n ≤ 4097) : n ≤ dN n l := by
  induction l generalizing n with
  | nil => exact Int.le_refl _
  | cons c l ih =>
    rw [dN]
    split
    · rename_i k
      have k' := isD_iff.1 k
      have := ih (n := min (10 * n + (c - 48)) 4097) (by omega) (by omega)
      omega
    · exact Int.le_refl _
theorem dN_one {l : List Int} (h : isD (l.headD 0) = true) (h2 : l.headD 0 ≠ 48) : 1 ≤ dN 0 l := by
  cases l with
  | nil => simp [isD] at h
  | cons c l =>
    simp only [List.headD_cons] at h h2
    have k' := isD_iff.1 h
    rw [dN, if_pos h]
    have := dN_ge (n := min (10 * 0 + (c - 48)) 4097) l (by omega) (by omega)
    omega
theorem ct_head {p : Int → Bool} {l : List Int} (h : ct p l ≠ 0) : p (l.headD 0) = true := by
  cases e : p (l.headD 0) with
  | true => rfl
  | false => exact absurd (ct_zero e) h
theorem ct_next {p : Int → Bool} (hp : p 0 = false) (l : List Int) : p ((l.drop (ct p l)).headD 0) = false := by
  induction l with
  | nil => simpa [ct] using hp
  | cons c l ih =>
    rw [ct]
    split
    · rw [List.drop_succ_cons]; exact ih
    · rename_i k
      simpa using k
theorem num_in {l : List Int} (h : ne l = 0) : num (nk l) (nv l) 0 ∧ (l.headD 0 ≠ 48 → num (nk l) (nv l) 1) := by
  unfold ne at h
  unfold nk nv
  by_cases h1 : l.headD 0 = 42
  · simp only [if_pos h1]; exact ⟨.inl ⟨.inr rfl, rfl⟩, fun _ => .inl ⟨.inr rfl, rfl⟩⟩
  · simp only [if_neg h1] at h ⊢
    by_cases h2 : ct isD l = 0
    · simp only [if_pos h2]; exact ⟨.inl ⟨.inl rfl, rfl⟩, fun _ => .inl ⟨.inl rfl, rfl⟩⟩
    · simp only [if_neg h2] at h ⊢
      by_cases h3 : 4096 < dN 0 l
      · simp [if_pos h3] at h
      · simp only [if_neg h3]
        have a := dN_ge (n := 0) l (by omega) (by omega)
        exact ⟨.inr ⟨rfl, a, by omega⟩, fun k => .inr ⟨rfl, dN_one (ct_head h2) k, by omega⟩⟩
theorem take_ct {p : Int → Bool} (l : List Int) : ∀ x ∈ l.take (ct p l), p x = true := by
  induction l with
  | nil => simp [ct]
  | cons c l ih =>
    rw [ct]
    split
    · rename_i k
      intro x hx
      rw [List.take_succ_cons] at hx
      rcases List.mem_cons.1 hx with rfl | hx
      · exact k
      · exact ih x hx
    · simp
theorem idx_none {l : List Int} {c : Int} (h : ∀ x ∈ l, x ≠ c) : idx l c < 0 := by
  induction l with
  | nil => simp [idx]
  | cons x l ih =>
    have a := ih (fun y hy => h y (by simp [hy]))
    rw [idx, if_neg (h x (by simp)), if_pos a]; decide
theorem dp_ok {l : List Int} (h : de l = 0) : isR (dp l) := by
  have h0 : ne (l1 l) = 0 ∧ pe (l2 l) = 0 ∧ ve (l3 l) = 0 := by
    rw [de] at h
    split at h
    · contradiction
    · rename_i a
      split at h
      · contradiction
      · rename_i b
        exact ⟨by simpa using a, by simpa using b, h⟩
  obtain ⟨e1, e2, e3⟩ := h0
  rw [dp, if_pos h]
  have vb : 0 ≤ idx verbs ((l3 l).headD 0) := by
    rw [ve] at e3
    split at e3
    · simp at e3
    · split at e3
      · simp at e3
      · omega
  have fb := fS_le (s := 0) l (by decide)
  have hd : (l1 l).headD 0 ≠ 48 := by
    have := ct_next (p := isF) (by decide) l
    intro q
    rw [← l1, q] at this
    exact absurd this (by decide)
  refine ⟨by show 0 ≤ idx verbs (vv (l3 l)); rw [vv, if_pos e3]; exact vb, rfl, by show (0 : Int) ≤ (fS 0 l : Int); omega, by show (fS 0 l : Int) ≤ 31; omega, (num_in e1).2 hd, ?_⟩
  show num (pk (l2 l)) (pv (l2 l)) 0
  unfold pk pv
  rw [pe] at e2
  by_cases q : (l2 l).headD 0 = 46
  · rw [if_pos q] at e2
    rw [if_pos q, if_pos q]
    have n := (num_in e2).1
    split
    · rename_i z
      have : nv (l2 l).tail = 0 := by
        rcases n with ⟨_, n⟩ | ⟨n, _⟩
        · exact n
        · rw [z.2] at n; exact absurd n (by decide)
      rw [this]; exact .inr ⟨rfl, by omega, by omega⟩
    · exact n
  · rw [if_neg q, if_neg q]; exact .inl ⟨.inl rfl, rfl⟩
theorem qp_ok {l : List Int} (hl : l ≠ []) (h : qe l = 0) : ok (qp l) := by
  unfold qp
  unfold qe at h
  by_cases h1 : l.headD 0 ≠ 37
  · rw [if_pos h1]
    left
    refine ⟨?_, rfl, rfl, rfl, rfl, rfl, rfl, ?_⟩
    · intro q
      have q' := congrArg List.length q
      rw [List.length_take] at q'
      have a : l.length ≠ 0 := by simpa using hl
      have b : ct isX l ≠ 0 := by
        cases l with
        | nil => exact absurd rfl hl
        | cons c l =>
          rw [ct, if_pos (by simp only [List.headD_cons] at h1; simpa [isX] using h1)]; omega
      simp only [List.length_nil] at q'
      omega
    · exact idx_none (fun x hx => by simpa [isX] using take_ct (p := isX) l x hx)
  · rw [if_neg h1] at h ⊢
    by_cases h2 : l.tail.headD 0 = 37
    · rw [if_pos h2]; right; left; exact ⟨rfl, rfl, rfl, rfl, rfl, rfl, rfl⟩
    · rw [if_neg h2] at h ⊢
      right; right
      exact dp_ok h
theorem prs_form : ∀ (n : Nat) (l : List Int), l.length ≤ n → ∀ p ∈ (prs l).1, ok p := by
  intro n
  induction n with
  | zero =>
    intro l hl p hp
    have : l = [] := List.eq_nil_of_length_eq_zero (by omega)
    subst this
    rw [prs_nil] at hp; simp at hp
  | succ n ih =>
    intro l hl p hp
    by_cases h0 : l = []
    · subst h0; rw [prs_nil] at hp; simp at hp
    · by_cases he : qe l = 0
      · rw [prs_cons h0 he] at hp
        split at hp
        · rcases List.mem_cons.1 hp with rfl | hp
          · exact qp_ok h0 he
          · have := qu_pos h0
            exact ih (l.drop (qu l)) (by rw [List.length_drop]; omega) p hp
        · simp at hp
      · rw [prs_err h0 he] at hp; simp at hp
theorem prs_sub : ∀ (n : Nat) (l : List Int), l.length ≤ n → ∀ p ∈ (prs l).1, ∀ x ∈ p.t, x ∈ l := by
  intro n
  induction n with
  | zero =>
    intro l hl p hp
    have : l = [] := List.eq_nil_of_length_eq_zero (by omega)
    subst this
    rw [prs_nil] at hp; simp at hp
  | succ n ih =>
    intro l hl p hp
    by_cases h0 : l = []
    · subst h0; rw [prs_nil] at hp; simp at hp
    · by_cases he : qe l = 0
      · rw [prs_cons h0 he] at hp
        split at hp
        · rcases List.mem_cons.1 hp with rfl | hp
          · intro x hx
            rw [qp] at hx
            split at hx
            · exact List.mem_of_mem_take hx
            · split at hx
              · simp at hx
              · rw [dp] at hx
                split at hx <;> simp [Pc.no] at hx
          · have := qu_pos h0
            intro x hx
            exact List.mem_of_mem_drop (ih (l.drop (qu l)) (by rw [List.length_drop]; omega) p hp x hx)
        · simp at hp
      · rw [prs_err h0 he] at hp; simp at hp
theorem prs_lng : ∀ (n : Nat) (l : List Int), l.length ≤ n → (prs l).1.length ≤ l.length := by
  intro n
  induction n with
  | zero =>
    intro l hl
    have : l = [] := List.eq_nil_of_length_eq_zero (by omega)
    subst this
    rw [prs_nil]; simp
  | succ n ih =>
    intro l hl
    by_cases h0 : l = []
    · subst h0; rw [prs_nil]; simp
    · by_cases he : qe l = 0
      · rw [prs_cons h0 he]
        split
        · have := qu_pos h0
          have := qu_le h0
          have := ih (l.drop (qu l)) (by rw [List.length_drop]; omega)
          rw [List.length_drop] at this
          rw [List.length_cons]
          omega
        · simp
      · rw [prs_err h0 he]; simp
end Dr
end Go.Proofs.YtiflponlioldmaaGreatDoor

namespace Go.Proofs.YtiflponlioldmaaGreatDoor
open Go
namespace Rn
open Dr (Pc tk wants)

/-- The whole part of a double, without its sign; modulo 2^64, with it. -/
def wpt (d : Int) : Int := Ie.whp (d % 9223372036854775808)
def low (d : Int) : Int := if 9223372036854775808 ≤ d then (-(wpt d)) % 18446744073709551616 else wpt d % 18446744073709551616
theorem low_bd (d : Int) : 0 ≤ low d ∧ low d < 18446744073709551616 := by unfold low; split <;> omega

/-- One directive: its error, its text. -/
def oneE (V F W P : Int) (a : Ag) : Int :=
  if Dr.idx Dr.verbs V < 0 then 140 else if Wh.chk F W P ≠ 0 then Wh.chk F W P else if V ≠ 99 ∧ a.x ≠ decide (V = 115) then 161 else
  if V = 115 then Wh.texE V F W P a.s else if V = 99 ∧ a.x = false ∧ Ie.fnt a.n = false then 5 else 0
noncomputable def oneT (V F W P : Int) (a : Ag) : List Int :=
  if oneE V F W P a ≠ 0 then [] else if V = 115 then Wh.tex V F W P a.s else
  if V = 99 then (if a.x = true then Wh.chr V F W P a.s else Wh.chr V F W P [low a.n % 256]) else
  if V = 100 ∨ V = 105 then (if Ie.fnt a.n = true then Wh.sigT F W P (Po.ng a.n) (wpt a.n) else Po.spc V F W P a.n) else
  if V = 111 ∨ V = 117 ∨ V = 120 ∨ V = 88 then (if Ie.fnt a.n = true then Wh.unsT V F W P (low a.n) else Po.spc V F W P a.n) else
  Po.ren V F W P a.n

/-- A star's number, cut and capped. -/
def cutI (d : Int) : Int := min (max (if 9223372036854775808 ≤ d then -(wpt d) else wpt d) (-4097)) 4097
/-- A piece's arguments: its width's, its precision's, its own. -/
def aW (A : List Ag) : Ag := A.getD 0 Ag.no
def aP (p : Pc) (A : List Ag) : Ag := A.getD (if p.wk = 2 then 1 else 0) Ag.no
def aA (p : Pc) (A : List Ag) : Ag := A.getD ((if p.wk = 2 then 1 else 0) + (if p.pk = 2 then 1 else 0)) Ag.no
def cW (p : Pc) (A : List Ag) : Int := if p.wk = 2 then cutI (aW A).n else 0
def cP (p : Pc) (A : List Ag) : Int := if p.pk = 2 then cutI (aP p A).n else 0
/-- The Spec's flags, width, precision. -/
def sF (p : Pc) (x : Int) : Int := if sW p x < 0 then bits .or .i64 p.fl 1 else p.fl
def sV (p : Pc) (x : Int) : Int := if sW p x < 0 then - sW p x else sW p x
/-- A directive with its arguments. -/
def dirE (p : Pc) (A : List Ag) : Int :=
  if (A.length : Int) < tk p then 160 else
  if (p.wk = 2 ∧ (aW A).x = true) ∨ (p.pk = 2 ∧ (aP p A).x = true) then 161 else
  if (p.wk = 2 ∧ Ie.fnt (aW A).n = false) ∨ (p.pk = 2 ∧ Ie.fnt (aP p A).n = false) then 6 else
  if ste p (cW p A) (cP p A) ≠ 0 then ste p (cW p A) (cP p A) else
  oneE p.v (sF p (cW p A)) (sV p (cW p A)) (sP p (cP p A)) (aA p A)
noncomputable def dirT (p : Pc) (A : List Ag) : List Int := oneT p.v (sF p (cW p A)) (sV p (cW p A)) (sP p (cP p A)) (aA p A)
def stE (p : Pc) (A : List Ag) : Int := if p.v = 0 ∨ p.v = 37 then 0 else dirE p A
noncomputable def stT (p : Pc) (A : List Ag) : List Int := if p.v = 0 then p.t else if p.v = 37 then [37] else dirT p A

theorem get_take {A : List Ag} {i k : Nat} (h : i < k) : (A.take k).getD i Ag.no = A.getD i Ag.no := by
  rw [List.getD_eq_getElem?_getD, List.getD_eq_getElem?_getD, List.getElem?_take_of_lt h]
theorem loc : Loc stE stT := by
  refine ⟨fun p A h => ?_, fun p A k h1 h2 => ?_, fun p A h => ?_⟩
  · have n : ¬ (p.v = 0 ∨ p.v = 37) := fun q => by rw [tk, if_pos q] at h; omega
    rw [stE, if_neg n, dirE, if_pos h]; decide
  · by_cases n : p.v = 0 ∨ p.v = 37
    · refine ⟨by rw [stE, stE, if_pos n, if_pos n], ?_⟩
      rw [stT, stT]
      rcases n with n | n
      · rw [if_pos n, if_pos n]
      · rw [if_neg (by omega), if_pos n, if_neg (by omega), if_pos n]
    · have t : tk p = 1 + (if p.wk = 2 then 1 else 0) + (if p.pk = 2 then 1 else 0) := by rw [tk, if_neg n]
      have w1 : p.wk = 2 → aW (A.take k) = aW A := fun q => by rw [if_pos q] at t; exact get_take (by split at t <;> omega)
      have w2 : p.pk = 2 → aP p (A.take k) = aP p A := fun q => by
        rw [if_pos q] at t
        unfold aP
        by_cases z : p.wk = 2
        · rw [if_pos z] at t ⊢; exact get_take (by omega)
        · rw [if_neg z] at t ⊢; exact get_take (by omega)
      have w3 : aA p (A.take k) = aA p A := by
        unfold aA
        by_cases z : p.wk = 2
        · rw [if_pos z] at t ⊢
          by_cases y : p.pk = 2
          · rw [if_pos y] at t ⊢; exact get_take (by omega)
          · rw [if_neg y] at t ⊢; exact get_take (by omega)
        · rw [if_neg z] at t ⊢
          by_cases y : p.pk = 2
          · rw [if_pos y] at t ⊢; exact get_take (by omega)
          · rw [if_neg y] at t ⊢; exact get_take (by omega)
      have c1 : cW p (A.take k) = cW p A := by
        unfold cW
        by_cases z : p.wk = 2
        · rw [if_pos z, if_pos z, w1 z]
        · rw [if_neg z, if_neg z]
      have c2 : cP p (A.take k) = cP p A := by
        unfold cP
        by_cases z : p.pk = 2
        · rw [if_pos z, if_pos z, w2 z]
        · rw [if_neg z, if_neg z]
      have g1 : ∀ f : Ag → Prop, (p.wk = 2 ∧ f (aW (A.take k))) = (p.wk = 2 ∧ f (aW A)) := fun f => by
        by_cases z : p.wk = 2
        · rw [w1 z]
        · simp [z]
      have g2 : ∀ f : Ag → Prop, (p.pk = 2 ∧ f (aP p (A.take k))) = (p.pk = 2 ∧ f (aP p A)) := fun f => by
        by_cases z : p.pk = 2
        · rw [w2 z]
        · simp [z]
      refine ⟨?_, ?_⟩
      · rw [stE, stE, if_neg n, if_neg n, dirE, dirE, c1, c2, w3]
        have l1 : ¬ ((A.take k).length : Int) < tk p := by rw [List.length_take]; omega
        rw [if_neg l1, if_neg (show ¬ (A.length : Int) < tk p by omega)]
        have e1 := g1 (fun a => a.x = true)
        have e2 := g2 (fun a => a.x = true)
        have e3 := g1 (fun a => Ie.fnt a.n = false)
        have e4 := g2 (fun a => Ie.fnt a.n = false)
        simp only [e1, e2, e3, e4]
      · rw [stT, stT, if_neg (fun q => n (.inl q)), if_neg (fun q => n (.inr q)), if_neg (fun q => n (.inl q)), if_neg (fun q => n (.inr q)), dirT, dirT, c1, c2, w3]
  · exact ⟨by rw [stE, if_pos (.inl h)], by rw [stT, if_pos h]⟩

/-- What Pieces answers. -/
noncomputable def pE (ps : List Pc) (A : List Ag) : Int := if ∀ p ∈ ps, Dr.ok p then (run stE stT ps A []).1 else 132
noncomputable def pT (ps : List Pc) (A : List Ag) : List Int := if ∀ p ∈ ps, Dr.ok p then (run stE stT ps A []).2 else []
/-- What Sprintf answers. -/
noncomputable def spE (xs : List Int) (A : List Ag) : Int := fE stE stT xs A
noncomputable def spT (xs : List Int) (A : List Ag) : List Int := fT stE stT xs A
theorem sp_good {xs : List Int} {A : List Ag} (h : (Dr.prs xs).2.2 = 0) : spE xs A = pE (Dr.prs xs).1 A ∧ spT xs A = pT (Dr.prs xs).1 A := by
  obtain ⟨a, b⟩ := f_good (E := stE) (T := stT) (A := A) h
  have f := Dr.prs_form _ xs (Nat.le_refl _)
  exact ⟨by rw [spE, a, pE, if_pos f], by rw [spT, b, pT, if_pos f]⟩
end Rn
end Go.Proofs.YtiflponlioldmaaGreatDoor

namespace Go.Proofs.YtiflponlioldmaaGreatDoor
open Go.RowKit Go.Deep

namespace Sh
theorem val_at (zs : List Int) (i : Nat) (hi : i < zs.length) : Nm.val (zs.drop i) = zs.getD i 0 + 18446744073709551616 * Nm.val (zs.drop (i + 1)) := by
  rw [List.drop_eq_getElem_cons hi, Nm.val]
  simp [List.getD, hi]

/-- One limb moved down by r binary digits, with what came down from above: the limb s, and what goes on. -/
theorem down (x V sp : Int) (r : Nat) (hr : r ≤ 63) (x0 : 0 ≤ x) (x1 : x < 18446744073709551616) (hsp : sp = V % 2 ^ r * 2 ^ (64 - r)) :
    ∃ q s sp', x / 2 ^ r = q ∧ bits .or .u64 q sp = s ∧ IntKind.u64.wrap (x * 2 ^ (64 - r)) = sp' ∧ (0 ≤ s ∧ s < 18446744073709551616) ∧ (0 ≤ sp' ∧ sp' < 18446744073709551616) ∧
      Hid (s + 18446744073709551616 * (V / 2 ^ r) = (x + 18446744073709551616 * V) / 2 ^ r) ∧ Hid (sp' = (x + 18446744073709551616 * V) % 2 ^ r * 2 ^ (64 - r)) := by
  have hP := Nm.two_pos r
  have hQ := Nm.two_pos (64 - r)
  have hPQ := split64 r hr
  have hpe : (2 : Int) ^ (64 - r) = 2 ^ (64 - r) := rfl
  have d2 := Int.emod_nonneg V (show (2 : Int) ^ r ≠ 0 by omega)
  have d3 := Int.emod_lt_of_pos V hP
  have q0 : 0 ≤ x / 2 ^ r := Int.ediv_nonneg x0 (by omega)
  have q1 : x / 2 ^ r < 2 ^ (64 - r) := by
    rw [Int.ediv_lt_iff_lt_mul hP, Int.mul_comm, hPQ]
    exact x1
  have e1 : (V % 2 ^ r + 1) * 2 ^ (64 - r) ≤ 2 ^ r * 2 ^ (64 - r) := Int.mul_le_mul_of_nonneg_right (by omega) (by omega)
  rw [Int.add_mul, Int.one_mul, hPQ] at e1
  have e2 : 0 ≤ V % 2 ^ r * 2 ^ (64 - r) := Int.mul_nonneg d2 (by omega)
  -- 'or' with the summands the other way round
  have hO : bits .or .u64 (x / 2 ^ r) sp = x / 2 ^ r + sp := by
    have h := or_sum (V % 2 ^ r) (x / 2 ^ r) (64 - r) d2 q0 q1 (by omega) (by omega)
    rw [← hsp] at h
    obtain ⟨a, ha⟩ := Int.eq_ofNat_of_zero_le q0
    obtain ⟨c, hc⟩ := Int.eq_ofNat_of_zero_le (show 0 ≤ sp by omega)
    rw [ha, hc] at h ⊢
    rw [bits_or_u64_nat c a (by omega) (by omega)] at h
    rw [bits_or_u64_nat a c (by omega) (by omega), Nat.or_comm, h]
    omega
  refine ⟨_, _, _, rfl, hO, rfl, by omega, ?_, ?_, ?_⟩
  · rw [wrap_mod]; omega
  · show _ = _
    have a1 : (x + 18446744073709551616 * V) / 2 ^ r = x / 2 ^ r + 2 ^ (64 - r) * V := by
      rw [← hPQ, Int.mul_assoc, Int.add_mul_ediv_left _ _ (by omega)]
    have a2 := Int.emod_add_mul_ediv V (2 ^ r)
    have a3 : 2 ^ (64 - r) * V = V % 2 ^ r * 2 ^ (64 - r) + 18446744073709551616 * (V / 2 ^ r) := by
      have : 2 ^ (64 - r) * (V % 2 ^ r + 2 ^ r * (V / 2 ^ r)) = 2 ^ (64 - r) * V := by rw [a2]
      rw [Int.mul_add, ← Int.mul_assoc, Int.mul_comm (2 ^ (64 - r)) (2 ^ r), hPQ, Int.mul_comm (2 ^ (64 - r)) (V % 2 ^ r)] at this
      omega
    rw [a1, a3, hsp]
    omega
  · show _ = _
    have b1 : (x + 18446744073709551616 * V) % 2 ^ r = x % 2 ^ r := by
      rw [← hPQ, Int.mul_assoc, Int.add_mul_emod_self_left]
    rw [b1, wrap_mod]
    have c1 := Int.emod_add_mul_ediv x (2 ^ r)
    have c2 := Int.emod_nonneg x (show (2 : Int) ^ r ≠ 0 by omega)
    have c3 := Int.emod_lt_of_pos x hP
    have c4 : (x % 2 ^ r + 1) * 2 ^ (64 - r) ≤ 2 ^ r * 2 ^ (64 - r) := Int.mul_le_mul_of_nonneg_right (by omega) (by omega)
    rw [Int.add_mul, Int.one_mul, hPQ] at c4
    have c5 : 0 ≤ x % 2 ^ r * 2 ^ (64 - r) := Int.mul_nonneg c2 (by omega)
    have c6 : x * 2 ^ (64 - r) = x % 2 ^ r * 2 ^ (64 - r) + 18446744073709551616 * (x / 2 ^ r) := by
      have : (x % 2 ^ r + 2 ^ r * (x / 2 ^ r)) * 2 ^ (64 - r) = x * 2 ^ (64 - r) := by rw [c1]
      rw [Int.add_mul, Int.mul_right_comm, hPQ] at this
      omega
    omega

/-- Whether anything is lost: by the lowest digit 1. -/
theorem lost_iff {v : Int} {t n : Nat} (h : Nm.Trl v t) (hv : 0 < v) : decide ((t : Int) < (n : Int)) = decide (v % 2 ^ n ≠ 0) := by
  rcases h with ⟨h, _⟩ | ⟨m, hm⟩
  · omega
  · rw [Bool.eq_iff_iff]
    simp only [decide_eq_true_eq]
    constructor
    · intro hlt h0
      obtain ⟨c, hc⟩ := Nat.exists_eq_add_of_lt (show t < n by omega)
      obtain ⟨k, hk⟩ := Int.dvd_of_emod_eq_zero h0
      rw [hm, hc, Nat.add_assoc, Nm.two_add, Int.mul_assoc] at hk
      exact Nm.odd_unique (Int.eq_of_mul_eq_mul_left (by have := Nm.two_pos t; omega) hk)
    · intro h0
      rcases Nat.lt_or_ge t n with hlt | hge
      · omega
      · exfalso
        obtain ⟨c, hc⟩ := Nat.exists_eq_add_of_le hge
        apply h0
        rw [hm, hc, Nm.two_add, Int.mul_assoc]
        exact Int.mul_emod_right _ _
end Sh

/-- Behind the limbs from j on: they are moved down; below j the limbs are as they were. -/
def DownInv (g M : Nat) (w : World) (ys : List Int) (r j : Nat) (sp : Int) (os : List Int) (wr : World) : Prop :=
  Own wr g os ∧ os.length = M ∧ Nm.Limbs os ∧ (∀ t, t < j → os.getD t 0 = ys.getD t 0) ∧ Nm.val (os.drop j) = Nm.val (ys.drop j) / 2 ^ r ∧ sp = Nm.val (ys.drop j) % 2 ^ r * 2 ^ (64 - r) ∧ Below g w wr

theorem DownInv.step {g M : Nat} {w : World} {ys : List Int} {r t : Nat} {sp : Int} {os : List Int} {wr : World} (h : DownInv g M w ys r (t + 1) sp os wr) (hM : ys.length = M) (ht : t < M) {x s sp' : Int} (hx : x = ys.getD t 0) (hs0 : 0 ≤ s ∧ s < 18446744073709551616)
    (e1 : s + 18446744073709551616 * (Nm.val (ys.drop (t + 1)) / 2 ^ r) = (x + 18446744073709551616 * Nm.val (ys.drop (t + 1))) / 2 ^ r) (e2 : sp' = (x + 18446744073709551616 * Nm.val (ys.drop (t + 1))) % 2 ^ r * 2 ^ (64 - r)) :
    DownInv g M w ys r t sp' (os.set t s) (wr.setCell ⟨g, t, none⟩ (.int .u64 s)) := by
  obtain ⟨h1, h2, h3, h4, h5, h6, h7⟩ := h
  have hv := Sh.val_at ys t (by omega)
  rw [← hx] at hv
  refine ⟨h1.set t s, by simpa using h2, h3.set t hs0.1 hs0.2, ?_, ?_, by rw [hv]; exact e2, h7.setCell (p := ⟨g, t, none⟩) (Nat.le_refl _) _⟩
  · intro i hi
    rw [Nm.getD_set _ _ _ _ (by omega), if_neg (by omega)]
    exact h4 i (by omega)
  · rw [Sh.val_at (os.set t s) t (by simpa using (show t < os.length by omega)), Nm.getD_set _ _ _ _ (by omega), if_pos rfl, hv, ← e1]
    rw [List.drop_set_of_lt (by omega), h5]

theorem ret_shr {p : Option Addr} {a b : Nat} {l l' : Bool} (h : a = b) (hl : l = l') : Ending.returned (.tuple #[.slice p a a, .bool l, .int .i64 0]) = .returned (.tuple #[.slice p b b, .bool l', .int .i64 0]) := by rw [h, hl]

set_option maxRecDepth 100000 in
set_option maxHeartbeats 1000000 in
/-- From the number of its digits on nothing is left. -/
theorem shr_all (p : Option Addr) (n cap : Nat) (zs : List Int) (k : Int) (L : Nat) (w : World) (ha : Arg w p n cap zs) (tz : Nm.tsize zs ≤ 4096) (hk : 0 ≤ k) (hL : blen (Nm.trim zs) = (L : Int)) (hb : (L : Int) ≤ k) :
    Calls Tryz.prog 198 #[.slice p n cap, .int .i64 k] w fun e w' => e = .returned (.tuple #[.slice none 0 0, .bool (decide (0 < Nm.tsize zs)), .int .i64 0]) ∧ w' = w := by
  have HT := hid (lshift_ok p n cap zs k w ha tz hk)
  have HB := hid (bitLen_n L p _ _ (Nm.trim zs) w ha.trim' hL)
  clear hL ha
  go_enter Tryz.func198, Tryz.ntmps198
  go_wp2_with fail
  refine HT.out.mono ?_
  rintro e w' ⟨rfl, rfl⟩
  go_wp2_with fail
  refine HB.out.mono ?_
  rintro e w' ⟨rfl, rfl⟩
  go_wp2_with fail
  go_ret3
  exact ⟨by first | rfl | simp, rfl⟩

set_option maxRecDepth 100000 in
set_option maxHeartbeats 1000000 in
theorem shr_ok (p : Option Addr) (n cap : Nat) (zs : List Int) (kk : Int) (k L : Nat) (w : World) (ha : Arg w p n cap zs) (hT : Tab w) (tz : Nm.tsize zs ≤ 4096) (hkk : kk = (k : Int)) (hL : blen (Nm.trim zs) = (L : Int)) (hLt : L ≤ 64 * Nm.tsize zs) (hb : k < L) :
    Calls Tryz.prog 198 #[.slice p n cap, .int .i64 kk] w fun e w' => ∃ r os, e = .returned (.tuple #[.slice r (List.length os) (List.length os), .bool (decide (Nm.val zs % 2 ^ k ≠ 0)), .int .i64 0]) ∧ Ans w.heap.size w' r os (Nm.val zs / 2 ^ k) ∧ Below w.heap.size w w' := by
  have hk0 : 0 ≤ kk := by omega
  have T1 := lshift_ok p n cap zs kk w ha tz hk0
  have B1 := bitLen_n L p _ _ (Nm.trim zs) w ha.trim' hL
  have hvpos : 0 < Nm.val zs := by
    have h1 := (Nm.val_bd zs ha.2.2.2.2).1
    rcases (show Nm.val zs = 0 ∨ 0 < Nm.val zs by omega) with h | h
    · have := (Nm.tsize_zero_iff ha.2.2.2.2).2 h
      omega
    · exact h
  obtain ⟨N, HN⟩ : ∃ N, Hid (Nm.tsize zs = N) := ⟨_, rfl⟩
  rw [HN.out] at T1 B1 hLt
  have HT := hid T1
  have HB := hid B1
  have hN1 : N ≤ 4096 := by rw [← HN.out]; exact tz
  have hb1 : ¬ (L : Int) ≤ kk := by omega
  obtain ⟨sk, hsk⟩ : ∃ sk, k / 64 = sk := ⟨_, rfl⟩
  obtain ⟨r, hr⟩ : ∃ r, k % 64 = r := ⟨_, rfl⟩
  have r1 : kk / 64 = (sk : Int) := by omega
  have r2 : kk % 64 = (r : Int) := by omega
  have hr63 : r ≤ 63 := by omega
  have hskN : sk < N := by omega
  have hskN' : (sk : Int) < (N : Int) := by omega
  have hkb : kk ≤ 262144 := by omega
  have KE : Hid (k = 64 * sk + r) := by show _ = _; omega
  have KK := hid hkk
  have L1 := hid ((Nm.trim_length zs).trans HN.out)
  have A5 := hid ha.2.2.2.2.trim
  have AT := ha.trim'
  rw [HN.out] at AT
  have HAT := hid AT
  obtain ⟨b, off, rfl, hbw, HC⟩ := ha.2.2.2.1.trim.at (by rw [L1.out]; omega)
  have V := hid (Nm.val_trim zs)
  have LD : Hid (Lies w (some ⟨b, off + sk, none⟩) ((Nm.trim zs).drop sk)) := .inr ⟨b, off + sk, rfl, fun i hi => by
    rw [List.length_drop] at hi
    rw [show off + sk + i = off + (sk + i) by omega, HC.out (sk + i) (by omega)]
    simp [List.getD]⟩
  have YL : Hid (((Nm.trim zs).drop sk).length = N - sk) := by rw [Hid, List.length_drop, L1.out]
  have YY := hid (A5.out.drop sk)
  have HTAB := hid hT
  have HV := hid hvpos
  have QE : Hid (Nm.val zs / 2 ^ k = Nm.val ((Nm.trim zs).drop sk) / 2 ^ r) := by
    have h1 := Nm.val_drop (Nm.trim zs) sk (by rw [L1.out]; omega)
    have h2 := Nm.val_bd _ (A5.out.take sk)
    rw [List.length_take, L1.out, Nat.min_eq_left (by omega)] at h2
    have hp := Nm.pw_pos sk
    show _ = _
    rw [KE.out, Nm.two_add, ← Nm.pw_two, ← Int.ediv_ediv_of_nonneg (by omega), ← V.out, h1, Int.add_mul_ediv_left _ _ (by omega), Int.ediv_eq_zero_of_lt h2.1 h2.2, Int.zero_add]
  clear T1 B1 ha tz hL hkk hsk hr hT hvpos hLt hb AT
  go_enter Tryz.func198, Tryz.ntmps198
  go_wp2_with fail
  refine HT.out.mono ?_
  rintro e w' ⟨rfl, rfl⟩
  go_wp2_with fail
  refine HB.out.mono ?_
  rintro e w' ⟨rfl, rfl⟩
  go_wp2_with fail
  refine (widened_any _ (N - sk) _ 0 0 ((Nm.trim zs).drop sk) _ rfl YL.out (by omega) LD.out).mono ?_
  rintro e w1 ⟨rfl, ho, hb2, hz2⟩
  rw [List.replicate_zero, List.append_nil] at ho
  have I0 : DownInv w'.heap.size (N - sk) w' ((Nm.trim zs).drop sk) r (N - sk) 0 ((Nm.trim zs).drop sk) w1 := by
    have e : ((Nm.trim zs).drop sk).drop (N - sk) = [] := List.drop_eq_nil_of_le (by rw [YL.out]; omega)
    exact ⟨ho, YL.out, YY.out, fun _ _ => rfl, by rw [e]; simp [Nm.val], by rw [e]; simp [Nm.val], hb2⟩
  have HI0 := hid I0
  clear ho hb2 hz2 I0
  go_wp2_with fail
  go_loopw [11, 12] (fun a i wr => ∃ (j : Nat) (sp : Int) (os : List Int), j ≤ N - sk ∧ i = .int .i64 ((j : Int) - 1) ∧ a = .int .u64 sp ∧ DownInv w'.heap.size (N - sk) w' ((Nm.trim zs).drop sk) r j sp os wr) (fun _ i _ => (intOf i + 1).toNat)
  case atStart => exact ⟨N - sk, 0, _, Nat.le_refl _, by go_num, rfl, HI0.out⟩
  case round =>
    clear HI0
    obtain ⟨j, sp, os, hj, rfl, rfl, I⟩ := hrel
    by_cases hj0 : j = 0
    · subst hj0
      obtain ⟨i1, i2, i3, i4, i5, i6, i7⟩ := I
      rw [List.drop_zero, List.drop_zero] at i5
      have O1 := hid i1
      have O3 := hid i3
      have O5 : Hid (Nm.val os = Nm.val zs / 2 ^ k) := by rw [Hid, QE.out]; exact i5
      have O7 := hid i7
      have TR := hid (trimmed_any (some ⟨w'.heap.size, 0, none⟩) (N - sk) (N - sk) os wr i2 (Nat.le_refl _) (by omega) i1.lies)
      have TL := hid (trail_any _ N N (Nm.trim zs) wr (HAT.out.below i7 (Nat.le_refl _)) (HTAB.out.below i7))
      clear i1 i2 i3 i4 i5 i6 i7
      go_wp2_with fail
      refine TR.out.mono ?_
      rintro e w3 ⟨rfl, rfl⟩
      go_wp2_with fail
      refine TL.out.mono ?_
      rintro e w3 ⟨t, rfl, htr, rfl⟩
      rw [V.out] at htr
      have LO := hid (Sh.lost_iff (n := k) htr HV.out)
      clear htr
      go_wp2_with fail
      go_ret3
      refine ⟨some ⟨w'.heap.size, 0, none⟩, Nm.trim os, ret_shr (Nm.trim_length os).symm (by rw [KK.out]; exact LO.out), ⟨O1.out.lies.trim, O3.out.trim, ?_, ?_, ?_⟩, O7.out⟩
      · rw [Nm.trim_trim, Nm.trim_length]
      · rw [Nm.val_trim, O5.out]
      · intro a h
        cases h
        exact Nat.le_refl _
    · obtain ⟨t, rfl⟩ : ∃ t, j = t + 1 := ⟨j - 1, by omega⟩
      have hxo := I.2.2.2.1 t (by omega)
      obtain ⟨x, hxc, X⟩ : ∃ x, wr.cell? ⟨w'.heap.size, t, none⟩ = some (.int .u64 x) ∧ Hid (x = ((Nm.trim zs).drop sk).getD t 0) := ⟨_, I.1.cell t (by have := I.2.1; omega), hxo⟩
      have hfr := I.1.free t
      have hx0 := YY.out.at t
      rw [← X.out] at hx0
      obtain ⟨hx0, hx1⟩ := hx0
      obtain ⟨q, s, sp', u1, u2, u3, us, usp, E1, E2⟩ := Sh.down x (Nm.val (((Nm.trim zs).drop sk).drop (t + 1))) sp r hr63 hx0 hx1 I.2.2.2.2.2.1
      have I2 := I.step YL.out (by omega) X.out us E1.out E2.out
      have htN : (t : Int) < ((N - sk : Nat) : Int) := by omega
      clear I hxo E1 E2 us usp
      go_wp2
      go_roundw
      case rel => exact ⟨t, sp', _, by omega, by go_num, rfl, I2⟩
      case measure => simp [intOf]
end Go.Proofs.YtiflponlioldmaaGreatDoor

namespace Go.Proofs.YtiflponlioldmaaGreatDoor
open Go.RowKit Go.Deep

theorem one_bit (x : Int) (h0 : 0 ≤ x) (h1 : x < 18446744073709551616) : bits .and .u64 x 1 = x % 2 := by
  obtain ⟨n, rfl⟩ := Int.eq_ofNat_of_zero_le h0
  have h := bits_and_u64_nat n 1 (by omega) (by omega)
  have e : n &&& 1 = n % 2 := Nat.and_two_pow_sub_one_eq_mod n 1
  rw [e] at h
  rw [show (1 : Int) = ((1 : Nat) : Int) from rfl, h]
  omega

set_option maxRecDepth 100000 in
set_option maxHeartbeats 1000000 in
/-- One binary digit. -/
theorem bit_any (p : Option Addr) (n cap : Nat) (zs : List Int) (i : Nat) (ii : Int) (w : World) (ha : Arg w p n cap zs) (hi : ii ≤ 9223372036854775807) (hii : ii = (i : Int)) :
    Calls Tryz.prog 199 #[.slice p n cap, .int .i64 ii] w fun e w' => e = .returned (.int .i64 (Nm.val zs / 2 ^ i % 2)) ∧ w' = w := by
  obtain ⟨a1, a2, a3, a4, a5⟩ := ha
  have hi0 : 0 ≤ ii := by omega
  by_cases hk : n ≤ i / 64
  · have E : Hid (Nm.val zs / 2 ^ i % 2 = 0) := by
      have h1 := Nm.val_bd zs a5
      have h2 : Nm.pw zs.length ≤ 2 ^ i := by rw [Nm.pw_two]; exact Nm.two_mono (by omega)
      show _ = _
      rw [Int.ediv_eq_zero_of_lt h1.1 (by omega)]
      rfl
    have hk' : (n : Int) ≤ ii / 64 := by omega
    clear a1 a4 a5 hii hk
    go_enter Tryz.func199, Tryz.ntmps199
    go_wp2
    go_ret
    exact ⟨retI E.out.symm, rfl⟩
  · obtain ⟨k, hke⟩ : ∃ k, i / 64 = k := ⟨_, rfl⟩
    obtain ⟨r, hre⟩ : ∃ r, i % 64 = r := ⟨_, rfl⟩
    have hir : i = 64 * k + r := by omega
    have E := hid (Nm.bit_at zs i k r hir (by omega) a5 (by omega))
    obtain ⟨b, off, rfl, hc⟩ : ∃ b off, p = some ⟨b, off, none⟩ ∧ w.cell? ⟨b, off + k, none⟩ = some (.int .u64 (zs.getD k 0)) := by
      rcases a4 with h | ⟨b, off, hp, h⟩
      · rw [h] at a1
        simp at a1
        omega
      · exact ⟨b, off, hp, h k (by omega)⟩
    obtain ⟨x, X⟩ : ∃ x, Hid (x = zs.getD k 0) := ⟨_, rfl⟩
    rw [← X.out] at hc E
    have hx := a5.at k
    rw [← X.out] at hx
    obtain ⟨hx0, hx1⟩ := hx
    have q0 : 0 ≤ x / 2 ^ r := Int.ediv_nonneg hx0 (by have := Nm.two_pos r; omega)
    have q1 : x / 2 ^ r < 18446744073709551616 := by
      have : x / 2 ^ r ≤ x := Int.ediv_le_self _ hx0
      omega
    obtain ⟨y, hy⟩ : ∃ y, x / 2 ^ r = y := ⟨_, rfl⟩
    rw [hy] at q0 q1 E
    have hb := one_bit y q0 q1
    have h64 : ii / 64 = (k : Int) := by omega
    have h65 : ii % 64 = (r : Int) := by omega
    have hkn : (k : Int) < (n : Int) := by omega
    have hr63 : r ≤ 63 := by omega
    have y2 : 0 ≤ y % 2 := by omega
    have y3 : y % 2 ≤ 1 := by omega
    clear hir hke hre hk a1 a4 a5 X hii
    go_enter Tryz.func199, Tryz.ntmps199
    go_wp2
    go_ret
    exact ⟨retI E.out.symm, rfl⟩

theorem bit_neg (p : Option Addr) (n cap : Nat) (i : Int) (w : World) (hi : i < 0) :
    Calls Tryz.prog 199 #[.slice p n cap, .int .i64 i] w fun e w' => e = .returned (.int .i64 0) ∧ w' = w := by
  go_enter Tryz.func199, Tryz.ntmps199
  go_wp2
  go_ret
  exact ⟨rfl, rfl⟩
end Go.Proofs.YtiflponlioldmaaGreatDoor

namespace Go.Proofs.YtiflponlioldmaaGreatDoor
open Go.RowKit Go.Deep

theorem blen_trim_eq (zs : List Int) : blen (Nm.trim zs) = blen zs := by
  unfold blen
  rw [Nm.trim_trim]
  by_cases h : Nm.tsize zs = 0
  · rw [if_pos h, if_pos h]
  · rw [if_neg h, if_neg h]
    have e : (Nm.trim zs).getD (Nm.tsize zs - 1) 0 = zs.getD (Nm.tsize zs - 1) 0 := by rw [Nm.trim, Nm.getD_take, if_pos (by omega)]
    rw [e]

theorem pw_4096 : Nm.pw 4096 = 2 ^ 262144 := Nm.pw_two 4096

theorem two_lt {a b : Nat} (h : (2 : Int) ^ a < 2 ^ b) : a < b := by
  rcases Nat.lt_or_ge a b with h1 | h1
  · exact h1
  · have := Nm.two_mono h1
    omega

/-- So many digits as the number times 2^k. -/
theorem BLen.up {v : Int} {L : Nat} (k : Nat) (h : Nm.BLen v L) (hv : 0 < v) : Nm.BLen (v * 2 ^ k) (L + k) := by
  have hp := Nm.two_pos k
  have h1 := h.2.2 hv
  refine ⟨?_, fun h0 => ?_, fun _ => ⟨by omega, ?_⟩⟩
  · rw [Nm.two_add]
    exact Int.mul_lt_mul_of_pos_right h.1 hp
  · rcases Int.mul_eq_zero.1 h0 with h2 | h2 <;> omega
  · rw [show L + k - 1 = L - 1 + k by omega, Nm.two_add]
    exact Int.mul_le_mul_of_nonneg_right h1.2 (by omega)

theorem Trl.up {v : Int} {t : Nat} (k : Nat) (h : Nm.Trl v t) (hv : 0 < v) : Nm.Trl (v * 2 ^ k) (t + k) := by
  rcases h with ⟨h, _⟩ | ⟨m, hm⟩
  · omega
  · right
    exact ⟨m, by rw [hm, Nm.two_add, Int.mul_right_comm]⟩

theorem tsize_pos {zs : List Int} (hz : Nm.Limbs zs) (hv : 0 < Nm.val zs) : 0 < Nm.tsize zs := by
  rcases Nat.eq_zero_or_pos (Nm.tsize zs) with h | h
  · have := (Nm.tsize_zero_iff hz).1 h
    omega
  · exact h

theorem shl_any (p : Option Addr) (n cap : Nat) (zs : List Int) (kk : Int) (k : Nat) (w : World) (ha : Arg w p n cap zs) (tz : Nm.tsize zs ≤ 4096) (hkk : kk = (k : Int)) (hb : Nm.val zs * 2 ^ k < Nm.pw 4096) :
    Calls Tryz.prog 60 #[.slice p n cap, .int .i64 kk] w fun e w' => ∃ r os, e = .returned (.tuple #[.slice r (List.length os) (List.length os), .int .i64 0]) ∧ Ans w.heap.size w' r os (Nm.val zs * 2 ^ k) ∧ Below w.heap.size w w' := by
  have hv0 := (Nm.val_bd zs ha.2.2.2.2).1
  by_cases hz : Nm.tsize zs = 0
  · have hv := (Nm.tsize_zero_iff ha.2.2.2.2).1 hz
    refine (shl_zero p n cap zs kk w ha (by omega) hz).mono ?_
    rintro e w' ⟨rfl, rfl⟩
    exact ⟨none, [], rfl, ⟨Lies.nil _ _, Nm.Limbs.nil, rfl, by rw [hv, Int.zero_mul]; rfl, fun a h => by cases h⟩, Below.refl _ _⟩
  · obtain ⟨L, hL, BL, _, _⟩ := blen_is zs ha.2.2.2.2
    rw [← blen_trim_eq] at hL
    have hv : 0 < Nm.val zs := by
      rcases (show Nm.val zs = 0 ∨ 0 < Nm.val zs by omega) with h | h
      · exact absurd ((Nm.tsize_zero_iff ha.2.2.2.2).2 h) hz
      · exact h
    have hu := (BLen.up k BL hv).2.2 (Int.mul_pos hv (Nm.two_pos k))
    rw [pw_4096] at hb
    have hlt := two_lt (show (2 : Int) ^ (L + k - 1) < 2 ^ 262144 by omega)
    exact shl_ok p n cap zs kk k L w ha tz hkk (by omega) hL (by omega)

theorem shl_over (p : Option Addr) (n cap : Nat) (zs : List Int) (kk : Int) (k : Nat) (w : World) (ha : Arg w p n cap zs) (tz : Nm.tsize zs ≤ 4096) (hkk : kk = (k : Int)) (hk1 : kk ≤ 9223372036854775807) (hb : Nm.pw 4096 ≤ Nm.val zs * 2 ^ k) :
    Calls Tryz.prog 60 #[.slice p n cap, .int .i64 kk] w fun e w' => e = .returned (.tuple #[.slice none 0 0, .int .i64 2]) ∧ w' = w := by
  have hv0 := (Nm.val_bd zs ha.2.2.2.2).1
  have hp := Nm.pw_pos 4096
  have hv : 0 < Nm.val zs := by
    rcases (show Nm.val zs = 0 ∨ 0 < Nm.val zs by omega) with h | h
    · rw [h, Int.zero_mul] at hb; omega
    · exact h
  obtain ⟨L, hL, BL, _, _⟩ := blen_is zs ha.2.2.2.2
  rw [← blen_trim_eq] at hL
  have hu := (BLen.up k BL hv).1
  rw [pw_4096] at hb
  have hlt := two_lt (show (2 : Int) ^ 262144 < 2 ^ (L + k) by omega)
  exact shl_big p n cap zs kk L w ha tz (by omega) hk1 (tsize_pos ha.2.2.2.2 hv) hL (by omega)

theorem shr_any (p : Option Addr) (n cap : Nat) (zs : List Int) (kk : Int) (k : Nat) (w : World) (ha : Arg w p n cap zs) (hT : Tab w) (tz : Nm.tsize zs ≤ 4096) (hkk : kk = (k : Int)) :
    Calls Tryz.prog 198 #[.slice p n cap, .int .i64 kk] w fun e w' => ∃ r os, e = .returned (.tuple #[.slice r (List.length os) (List.length os), .bool (decide (Nm.val zs % 2 ^ k ≠ 0)), .int .i64 0]) ∧ Ans w.heap.size w' r os (Nm.val zs / 2 ^ k) ∧ Below w.heap.size w w' := by
  obtain ⟨L, hL, BL, hl, _⟩ := blen_is zs ha.2.2.2.2
  have hv0 := (Nm.val_bd zs ha.2.2.2.2).1
  rw [← blen_trim_eq] at hL
  by_cases hb : k < L
  · exact shr_ok p n cap zs kk k L w ha hT tz hkk hL hl hb
  · have hlt : Nm.val zs < 2 ^ k := by
      have := BL.1
      have := Nm.two_mono (show L ≤ k by omega)
      omega
    refine (shr_all p n cap zs kk L w ha tz (by omega) hL (by omega)).mono ?_
    rintro e w' ⟨rfl, rfl⟩
    refine ⟨none, [], ?_, ⟨Lies.nil _ _, Nm.Limbs.nil, rfl, by rw [Int.ediv_eq_zero_of_lt hv0 hlt]; rfl, fun a h => by cases h⟩, Below.refl _ _⟩
    have e : decide (0 < Nm.tsize zs) = decide (Nm.val zs % 2 ^ k ≠ 0) := by
      rw [Int.emod_eq_of_lt hv0 hlt, Bool.eq_iff_iff]
      simp only [decide_eq_true_eq]
      have := Nm.tsize_zero_iff ha.2.2.2.2
      omega
    rw [e]
    rfl
end Go.Proofs.YtiflponlioldmaaGreatDoor

/-
  ieee: scaled, roundsUp.
-/
namespace Go.Proofs.YtiflponlioldmaaGreatDoor
open Go Go.RowKit Go.Deep

theorem toU_is (p : Option Addr) (n cap : Nat) (zs : List Int) (w : World) (ha : Arg w p n cap zs) (V : Int) (hV : Nm.val zs = V) (h : V < 18446744073709551616) :
    Calls Tryz.prog 171 #[.slice p n cap] w fun e w' => e = .returned (.tuple #[.int .u64 V, .bool true]) ∧ w' = w := by
  have h1 := toUint_any p n cap zs w ha
  rw [toU_val ha.2.2.2.2 (by rw [hV]; exact h), hV] at h1
  have h2 : Nm.tsize zs ≤ 1 := (Nm.tsize_le_iff ha.2.2.2.2 1).2 (by rw [hV]; exact h)
  simpa [h2] using h1

set_option maxRecDepth 100000 in
set_option maxHeartbeats 1000000 in
theorem scaled_up (p : Option Addr) (n cap : Nat) (zs : List Int) (w : World) (ha : Arg w p n cap zs) (V s : Int) (j : Nat) (hV : Nm.val zs = V) (hs : s = (j : Int)) (hj : 0 < j) (hj2 : j ≤ 64) (h : V * 2 ^ j < 18446744073709551616) :
    Calls Tryz.prog 139 #[.slice p n cap, .int .i64 s] w fun e w' => e = .returned (.int .u64 (V * 2 ^ j)) ∧ w' = w := by
  subst hs
  have v0 : 0 ≤ V := by rw [← hV]; exact (Nm.val_bd zs ha.2.2.2.2).1
  have hp := Nm.two_pos j
  have v1 : V < 18446744073709551616 := by
    have : V * 1 ≤ V * 2 ^ j := Int.mul_le_mul_of_nonneg_left (by omega) v0
    omega
  have T := hid (toU_is p n cap zs w ha V hV v1)
  have m0 : 0 ≤ V * 2 ^ j := Int.mul_nonneg v0 (by omega)
  have W : IntKind.u64.wrap (V * 2 ^ j) = V * 2 ^ j := by rw [IntKind.wrap_u64]; omega
  have hj' : (0 : Int) < (j : Int) := by omega
  have hj3 : (j : Int) ≤ 64 := by omega
  clear ha hV hp v1 h m0 hj
  go_enter Tryz.func139, Tryz.ntmps139
  go_wp2_with fail
  refine T.out.mono ?_
  rintro e w' ⟨rfl, rfl⟩
  go_wp2_with fail
  go_ret
  exact ⟨rfl, rfl⟩

set_option maxRecDepth 100000 in
set_option maxHeartbeats 1000000 in
theorem scaled_down (p : Option Addr) (n cap : Nat) (zs : List Int) (w : World) (ha : Arg w p n cap zs) (hT : Tab w) (tz : Nm.tsize zs ≤ 4096) (V s : Int) (k : Nat) (hV : Nm.val zs = V) (hs : s = -(k : Int)) (hk : k ≤ 8000000) (h : V / 2 ^ k < 18446744073709551616) :
    Calls Tryz.prog 139 #[.slice p n cap, .int .i64 s] w fun e w' => e = .returned (.int .u64 (V / 2 ^ k)) ∧ Below w.heap.size w w' := by
  subst hs
  have H := hid (fun (kk : Int) (hkk : kk = (k : Int)) => shr_any p n cap zs kk k w ha hT tz hkk)
  have hk0 : ¬ (0 : Int) < -(k : Int) := by omega
  have hk1 : (k : Int) ≤ 8000000 := by omega
  have HV := hid hV
  have HH := hid h
  clear ha hT tz hV h hk
  go_enter Tryz.func139, Tryz.ntmps139
  go_wp2_with fail
  refine (H.out _ (by omega)).mono ?_
  rintro e w' ⟨r, os, rfl, A, hB⟩
  rw [HV.out] at A
  have A1 : os.length ≤ 17592186044416 := by
    have := (Nm.tsize_le_iff A.2.1 1).2 (by rw [A.2.2.2.1]; exact HH.out)
    rw [A.2.2.1] at this
    omega
  have T := hid (toU_is r _ _ os w' (A.arg A1) _ A.2.2.2.1 HH.out)
  have HB := hid hB
  clear A A1 hB H
  go_wp2_with fail
  refine T.out.mono ?_
  rintro e w'' ⟨rfl, rfl⟩
  go_wp2_with fail
  go_ret
  exact ⟨rfl, HB.out⟩

theorem up_none (p : Option Addr) (n cap : Nat) (w : World) (s : Int) (half : Bool) (hs : s ≤ 0) (hs2 : -8000000 ≤ s) :
    Calls Tryz.prog 140 #[.slice p n cap, .int .i64 s, .bool half] w fun e w' => e = .returned (.bool false) ∧ w' = w := by
  have H := hid (fun (i : Int) (hi : i < 0) => bit_neg p n cap i w hi)
  go_enter Tryz.func140, Tryz.ntmps140
  go_wp2_with fail
  refine (H.out _ (by omega)).mono ?_
  rintro e w' ⟨rfl, rfl⟩
  go_wp2_with fail
  go_ret
  exact ⟨rfl, rfl⟩

set_option maxRecDepth 100000 in
set_option maxHeartbeats 1000000 in
theorem up_some (p : Option Addr) (n cap : Nat) (zs : List Int) (w : World) (ha : Arg w p n cap zs) (hT : Tab w) (V s : Int) (k : Nat) (half : Bool) (hV : Nm.val zs = V) (hv : 0 < V) (hs : s = (k : Int) + 1) (hk : k ≤ 8000000) :
    Calls Tryz.prog 140 #[.slice p n cap, .int .i64 s, .bool half] w fun e w' => ∃ up, e = .returned (.bool up) ∧ (up = true ↔ (V / 2 ^ k % 2 = 1 ∧ (half = true ∨ V % 2 ^ k ≠ 0))) ∧ w' = w := by
  subst hs
  obtain ⟨b, hb⟩ : ∃ b, V / 2 ^ k % 2 = b := ⟨_, rfl⟩
  have H : Hid (∀ i : Int, i = (k : Int) → Calls Tryz.prog 199 #[.slice p n cap, .int .i64 i] w fun e w' => e = .returned (.int .i64 b) ∧ w' = w) := by
    intro i hi
    have := bit_any p n cap zs k i w ha (by omega) hi
    rw [hV, hb] at this
    exact this
  have T := hid (trail_any p n cap zs w ha hT)
  have HV := hid hV
  have hb2 : b = 0 ∨ b = 1 := by omega
  have HB := hid hb
  have hvv := hid hv
  have hk1 : (k : Int) ≤ 8000000 := by omega
  clear ha hT hV hb hv hk
  rcases hb2 with rfl | rfl
  · go_enter Tryz.func140, Tryz.ntmps140
    go_wp2_with fail
    refine (H.out _ (by omega)).mono ?_
    rintro e w' ⟨rfl, rfl⟩
    go_wp2_with fail
    go_ret
    exact ⟨false, rfl, ⟨fun h => (by cases h), fun h => (by have := HB.out; omega)⟩, rfl⟩
  · cases half
    · go_enter Tryz.func140, Tryz.ntmps140
      go_wp2_with fail
      refine (H.out _ (by omega)).mono ?_
      rintro e w' ⟨rfl, rfl⟩
      go_wp2_with fail
      refine T.out.mono ?_
      rintro e w' ⟨t, rfl, ht, rfl⟩
      rw [HV.out] at ht
      have E := hid (Sh.lost_iff (n := k) ht hvv.out)
      clear ht
      go_wp2_with fail
      go_ret
      refine ⟨_, rfl, ?_, rfl⟩
      have E1 : (t : Int) < (k : Int) ↔ V % 2 ^ k ≠ 0 := by simpa only [decide_eq_decide] using E.out
      rw [decide_eq_true_iff]
      constructor
      · intro h
        exact ⟨HB.out, .inr (E1.1 (by omega))⟩
      · rintro ⟨_, h | h⟩
        · cases h
        · have := E1.2 h
          omega
    · go_enter Tryz.func140, Tryz.ntmps140
      go_wp2_with fail
      refine (H.out _ (by omega)).mono ?_
      rintro e w' ⟨rfl, rfl⟩
      go_wp2_with fail
      go_ret
      refine ⟨true, rfl, ?_, rfl⟩
      have := HB.out
      simp [this]
end Go.Proofs.YtiflponlioldmaaGreatDoor
