/-
  Texts put together: PoN, PoPadN, VDl, VMade, VMade2, PoMade, PoPlN, PoLay.
-/
import Derived.Test.YtaoaniigbooihaaGreatDoorRD
import Derived.Test.YtaoaniigbooihaaGreatDoorVOrd
import Derived.Lib.ItoaNum
import Derived.Test.YtaoaniigbooihaaGreatDoorRC
import Derived.Shelf.Strings.OnBuilder
namespace Go.Proofs.YtaoaniigbooihaaGreatDoor
open Go Go.RowKit Go.Deep
namespace Po

/-- The verbs of capitals; those that Render renders. -/
def cap (V : Int) : Bool := decide (V = 69 ∨ V = 70 ∨ V = 71 ∨ V = 88)
def okV (V : Int) : Bool := decide (V = 101 ∨ V = 69 ∨ V = 102 ∨ V = 70 ∨ V = 103 ∨ V = 71)
def ng (d : Int) : Bool := decide (9223372036854775808 ≤ d)
/-- The body of an infinity or a NaN. -/
def nm (c : Bool) (k : Int) : List Int := if k = 3 then (if c = true then [73, 78, 70] else [105, 110, 102]) else if k = 4 then (if c = true then [78, 65, 78] else [110, 97, 110]) else []
/-- An exponent as it is written. -/
def xd (k : Int) : List Int := (if k < 0 then 45 else 43) :: Wh.fil 2 (Wh.dig 10 false (max k (-k)))
def ex (V k : Int) : List Int := (if cap V = true then 69 else 101) :: xd k
/-- Digits ahead and behind, and an exponent. -/
def wrt (a b p : List Int) (h : Bool) : List Int := if b = [] ∧ h = false then a ++ p else a ++ 46 :: (b ++ p)
/-- Without the zeros at the end. -/
def sp : List Int → List Int
  | [] => []
  | x :: xs => if x = 48 ∧ sp xs = [] then [] else x :: sp xs
def st (h : Bool) (xs : List Int) : List Int := if h = true then xs else sp xs

noncomputable def bdF (h : Bool) (d n : Int) : List Int := wrt (Fx.pA d n) (Fx.pB d n) [] h
noncomputable def bdE (V : Int) (h : Bool) (d n : Int) : List Int := wrt ((Fx.gS d (n + 1)).take 1) ((Fx.gS d (n + 1)).drop 1) (ex V (Fx.gK d (n + 1))) h
noncomputable def bdG (V : Int) (h : Bool) (d n : Int) : List Int :=
  if -4 ≤ Fx.gK d n ∧ Fx.gK d n < n then wrt (Fx.pA d (n - 1 - Fx.gK d n)) (st h (Fx.pB d (n - 1 - Fx.gK d n))) [] h
  else wrt ((Fx.gS d n).take 1) (st h ((Fx.gS d n).drop 1)) (ex V (Fx.gK d n)) h
def pr (P : Int) : Int := if P = -1 then 6 else P
noncomputable def bd (V : Int) (h : Bool) (P d : Int) : List Int :=
  if V = 102 ∨ V = 70 then bdF h d (pr P) else if V = 101 ∨ V = 69 then bdE V h d (pr P) else bdG V h d (max (pr P) 1)

/-- Special, Render. -/
def spc (V F W P d : Int) : List Int := if Wh.chk F W P = 0 ∧ Ie.fnt d = false then Wh.padT F W false (Wh.sgn F (ng d)) (nm (cap V) (Ie.cls d)) else []
def spb (F W P d : Int) : Bool := decide (Wh.chk F W P = 0) && !Ie.fnt d
def renE (V F W P : Int) : Int := if okV V = true then Wh.chk F W P else 140
noncomputable def ren (V F W P d : Int) : List Int :=
  if renE V F W P = 0 then (if Ie.fnt d = true then Wh.padT F W true (Wh.sgn F (ng d)) (bd V (Wh.bit F 8) P d) else Wh.padT F W false (Wh.sgn F (ng d)) (nm (cap V) (Ie.cls d))) else []

theorem pr_bd {P : Int} (h0 : -1 ≤ P) (h1 : P ≤ 4096) : 0 ≤ pr P ∧ pr P ≤ 4096 := by unfold pr; split <;> omega

/-- What is left of a row when the zeros at its end are gone. -/
theorem sp_of : ∀ {xs : List Int} {k : Nat}, k ≤ xs.length → (∀ i, k ≤ i → i < xs.length → xs.getD i 0 = 48) → (0 < k → xs.getD (k - 1) 0 ≠ 48) → xs.take k = sp xs
  | [], k, _, _, _ => by simp [sp]
  | x :: xs, 0, _, h2, _ => by
    have e := sp_of (xs := xs) (k := 0) (by omega) (fun i h1 hi => by have := h2 (i + 1) (by omega) (by simp; omega); simpa using this) (fun h => by omega)
    have e0 : x = 48 := by simpa using h2 0 (by omega) (by simp)
    rw [List.take_zero] at e
    rw [sp, if_pos ⟨e0, e.symm⟩]; rfl
  | x :: xs, k + 1, h1, h2, h3 => by
    have e := sp_of (xs := xs) (k := k) (by simpa using h1) (fun i h4 hi => by have := h2 (i + 1) (by omega) (by simp; omega); simpa using this) (fun h => by
      have := h3 (by omega)
      obtain ⟨j, rfl⟩ : ∃ j, k = j + 1 := ⟨k - 1, by omega⟩
      simpa using this)
    rw [List.take_succ_cons, sp]
    rw [if_neg, e]
    rintro ⟨c1, c2⟩
    rw [← e] at c2
    have k0 : k = 0 := by
      rcases Nat.eq_zero_or_pos k with c | c
      · exact c
      · have : (xs.take k).length = 0 := by rw [c2]; rfl
        rw [List.length_take] at this
        simp at h1
        omega
    subst k0
    have := h3 (by omega)
    simp at this
    exact this c1
theorem sp_take : ∀ (xs : List Int), ∃ k, k ≤ xs.length ∧ sp xs = xs.take k ∧ (∀ i, k ≤ i → i < xs.length → xs.getD i 0 = 48) ∧ (0 < k → xs.getD (k - 1) 0 ≠ 48)
  | [] => ⟨0, by simp, by simp [sp], fun i _ h => by simp at h, fun h => by omega⟩
  | x :: xs => by
    obtain ⟨k, a, b, c, e⟩ := sp_take xs
    by_cases h : x = 48 ∧ sp xs = []
    · refine ⟨0, by omega, by rw [sp, if_pos h]; rfl, fun i _ hi => ?_, fun h => by omega⟩
      have k0 : k = 0 := by
        rcases Nat.eq_zero_or_pos k with q | q
        · exact q
        · have : (xs.take k).length = 0 := by rw [← b, h.2]; rfl
          rw [List.length_take] at this
          omega
      cases i with
      | zero => simpa using h.1
      | succ i => have := c i (by omega) (by simpa using hi); simpa using this
    · refine ⟨k + 1, by simp; omega, by rw [sp, if_neg h, b, List.take_succ_cons], fun i h1 hi => ?_, fun _ => ?_⟩
      · cases i with
        | zero => omega
        | succ i => have := c i (by omega) (by simpa using hi); simpa using this
      · cases k with
        | zero =>
          rw [List.take_zero] at b
          simp
          intro q
          exact h ⟨q, b⟩
        | succ k => have := e (by omega); simpa using this
theorem sp_len (xs : List Int) : (sp xs).length ≤ xs.length := by
  obtain ⟨k, a, b, _⟩ := sp_take xs
  rw [b, List.length_take]; omega
theorem sp_mem {xs : List Int} {x : Int} (h : x ∈ sp xs) : x ∈ xs := by
  obtain ⟨k, a, b, _⟩ := sp_take xs
  rw [b] at h
  exact List.mem_of_mem_take h
theorem st_len (h : Bool) (xs : List Int) : (st h xs).length ≤ xs.length := by unfold st; split; exact Nat.le_refl _; exact sp_len xs
theorem st_mem {h : Bool} {xs : List Int} {x : Int} (k : x ∈ st h xs) : x ∈ xs := by
  unfold st at k; split at k
  · exact k
  · exact sp_mem k

/-- Digits as bytes. -/
theorem digs_by {xs : List Int} (h : Digs xs) : Wh.By xs := fun x hx => by have := h x hx; omega
theorem digs_take {xs : List Int} (h : Digs xs) (k : Nat) : Digs (xs.take k) := fun x hx => h x (List.mem_of_mem_take hx)
theorem digs_drop {xs : List Int} (h : Digs xs) (k : Nat) : Digs (xs.drop k) := fun x hx => h x (List.mem_of_mem_drop hx)
theorem digs_st {xs : List Int} (b : Bool) (h : Digs xs) : Digs (st b xs) := fun x hx => h x (st_mem hx)

/-- What Places and Figures tell of a finite double. -/
structure PlF (d n : Int) : Prop where
  ok : Fx.rf d n 0 = 0
  a : Digs (Fx.pA d n)
  b : Digs (Fx.pB d n)
  ane : Fx.pA d n ≠ []
  la : (Fx.pA d n).length ≤ 6000
  lb : ((Fx.pB d n).length : Int) = n
theorem plF {d n : Int} (hf : Ie.fnt d = true) (h0 : 0 ≤ n) (h1 : n ≤ 4200) : PlF d n := by
  have r : Fx.rf d n 0 = 0 := Fx.rf_zero.2 ⟨hf, h0, h1⟩
  have wl := Fx.W_len d n.toNat
  have wd := Fx.W_digs hf n.toNat
  have wr := Fx.dv_W_room hf (n := n.toNat) (by omega)
  refine ⟨r, ?_, ?_, ?_, ?_, ?_⟩
  · rw [Fx.pA, if_pos r]; exact digs_take wd _
  · rw [Fx.pB, if_pos r]; exact digs_drop wd _
  · rw [Fx.pA, if_pos r]
    intro c
    have : ((Fx.W d n.toNat).take ((Fx.W d n.toNat).length - n.toNat)).length = 0 := by rw [c]; rfl
    rw [List.length_take] at this
    omega
  · rw [Fx.pA, if_pos r, List.length_take]; omega
  · rw [Fx.pB, if_pos r, List.length_drop]; omega

structure FgF (d n : Int) : Prop where
  ok : Fx.rf d n 1 = 0
  s : Digs (Fx.gS d n)
  len : ((Fx.gS d n).length : Int) = n
  lo : -324 ≤ Fx.gK d n
  hi : Fx.gK d n ≤ 308
theorem fgF {d n : Int} (hf : Ie.fnt d = true) (h0 : 1 ≤ n) (h1 : n ≤ 4200) : FgF d n := by
  obtain ⟨k, rfl⟩ := Int.eq_ofNat_of_zero_le (show 0 ≤ n by omega)
  have r : Fx.rf d k 1 = 0 := Fx.rf_zero.2 ⟨hf, h0, h1⟩
  rcases (show Ie.dm d = 0 ∨ 0 < Ie.dm d by have := (Ie.fdec d (of_decide_eq_true hf)).1; omega) with c | c
  · obtain ⟨a, b⟩ := Fx.fig_zero hf c (k := k) (by omega) (by omega)
    refine ⟨r, ?_, by rw [a]; simp, by omega, by omega⟩
    rw [a]
    intro x hx
    have := List.eq_of_mem_replicate hx
    omega
  · obtain ⟨a, b, _, e, f, _⟩ := Fx.fig_facts hf c (k := k) (by omega) (by omega)
    exact ⟨r, b, by rw [a], e, f⟩

/-- An exponent's digits. -/
theorem dig3 {v : Int} (h0 : 0 < v) (h1 : v < 1000) : Wh.dig 10 false v = lets (lettersOf false) (Dn.strip (Dn.dg 10 3 v)) := by
  have hz : Nm.Limbs [v] := by intro x hx; simp at hx; omega
  have hv : Nm.val [v] = v := by simp [Nm.val]
  have ts : Nm.tsize [v] ≤ 1 := by have := Nm.tsize_le [v]; simpa using this
  have tp : 0 < Nm.tsize [v] := by have := Nm.tsize_zero_iff hz; omega
  have q := Wh.dig_is (up := false) (B := 10) hz (by rw [hv]; exact h0) (by omega) (by omega) (by omega) (InIs.ok (up := false) 3 tp (by omega) (by omega) (by omega) (by rw [hv]; exact h1))
  rw [hv] at q
  exact q.1.symm
set_option maxRecDepth 100000 in
theorem xdig {v : Int} (h0 : 0 ≤ v) (h1 : v ≤ 400) : Wh.fil 2 (Wh.dig 10 false v) = Fx.tx (if v < 100 then 2 else 3) v := by
  rcases (show v = 0 ∨ 0 < v by omega) with c | c
  · subst c; decide
  · rw [dig3 c (by omega)]
    have key : ∀ t : Fin 401, 0 < t.val → Wh.fil 2 (lets (lettersOf false) (Dn.strip (Dn.dg 10 3 (t.val : Int)))) = Fx.tx (if (t.val : Int) < 100 then 2 else 3) (t.val : Int) := by decide +kernel
    have := key ⟨v.toNat, by omega⟩ (by simp; omega)
    simp only at this
    rw [show ((v.toNat : Nat) : Int) = v by omega] at this
    exact this
theorem xd_is {k : Int} (h0 : -400 ≤ k) (h1 : k ≤ 400) : xd k = (if k < 0 then 45 else 43) :: Fx.tx (if max k (-k) < 100 then 2 else 3) (max k (-k)) := by
  rw [xd, xdig (by omega) (by omega)]
theorem xd_len {k : Int} (h0 : -400 ≤ k) (h1 : k ≤ 400) : (xd k).length ≤ 4 := by
  rw [xd_is h0 h1, List.length_cons, Fx.tx_len]; split <;> omega
theorem xd_by (k : Int) : Wh.By (xd k) := by
  unfold xd
  exact Wh.By.cons (by split <;> omega) (Wh.fil_by (Wh.dig_by _ _ _))
theorem ex_by (V k : Int) : Wh.By (ex V k) := by
  unfold ex
  exact Wh.By.cons (by split <;> omega) (xd_by k)
theorem ex_len {V k : Int} (h0 : -400 ≤ k) (h1 : k ≤ 400) : (ex V k).length ≤ 5 := by
  rw [ex, List.length_cons]; have := xd_len h0 h1; omega
theorem wrt_by {a b p : List Int} {h : Bool} (ha : Wh.By a) (hb : Wh.By b) (hp : Wh.By p) : Wh.By (wrt a b p h) := by
  unfold wrt
  split
  · exact ha.app hp
  · exact ha.app (Wh.By.cons (by omega) (hb.app hp))
theorem wrt_len (a b p : List Int) (h : Bool) : (wrt a b p h).length ≤ a.length + b.length + p.length + 1 := by
  unfold wrt
  split <;> simp <;> omega

/-- The body of a finite double is short, and made of bytes. -/
theorem bd_ok {V P d : Int} (h : Bool) (hf : Ie.fnt d = true) (p0 : -1 ≤ P) (p1 : P ≤ 4096) : Wh.By (bd V h P d) ∧ (bd V h P d).length ≤ 20000 := by
  obtain ⟨q0, q1⟩ := pr_bd p0 p1
  unfold bd
  split
  · have k := plF hf q0 (by omega)
    refine ⟨wrt_by (digs_by k.a) (digs_by k.b) Wh.By.nil, ?_⟩
    have := wrt_len (Fx.pA d (pr P)) (Fx.pB d (pr P)) [] h
    have := k.la
    have := k.lb
    simp only [List.length_nil, bdF] at *
    omega
  · split
    · have k := fgF hf (n := pr P + 1) (by omega) (by omega)
      refine ⟨wrt_by (digs_by (digs_take k.s _)) (digs_by (digs_drop k.s _)) (ex_by _ _), ?_⟩
      have := wrt_len ((Fx.gS d (pr P + 1)).take 1) ((Fx.gS d (pr P + 1)).drop 1) (ex V (Fx.gK d (pr P + 1))) h
      have := k.len
      have := ex_len (V := V) (k := Fx.gK d (pr P + 1)) (by have := k.lo; omega) (by have := k.hi; omega)
      simp only [bdE, List.length_take, List.length_drop] at *
      omega
    · have k := fgF hf (n := max (pr P) 1) (by omega) (by omega)
      unfold bdG
      split
      · rename_i g
        have j := plF hf (n := max (pr P) 1 - 1 - Fx.gK d (max (pr P) 1)) (by omega) (by omega)
        refine ⟨wrt_by (digs_by j.a) (digs_by (digs_st h j.b)) Wh.By.nil, ?_⟩
        have := wrt_len (Fx.pA d (max (pr P) 1 - 1 - Fx.gK d (max (pr P) 1))) (st h (Fx.pB d (max (pr P) 1 - 1 - Fx.gK d (max (pr P) 1)))) [] h
        have := j.la
        have := j.lb
        have := st_len h (Fx.pB d (max (pr P) 1 - 1 - Fx.gK d (max (pr P) 1)))
        simp only [List.length_nil] at *
        omega
      · refine ⟨wrt_by (digs_by (digs_take k.s _)) (digs_by (digs_st h (digs_drop k.s _))) (ex_by _ _), ?_⟩
        have := wrt_len ((Fx.gS d (max (pr P) 1)).take 1) (st h ((Fx.gS d (max (pr P) 1)).drop 1)) (ex V (Fx.gK d (max (pr P) 1))) h
        have := st_len h ((Fx.gS d (max (pr P) 1)).drop 1)
        have := k.len
        have := ex_len (V := V) (k := Fx.gK d (max (pr P) 1)) (by have := k.lo; omega) (by have := k.hi; omega)
        simp only [List.length_take, List.length_drop] at *
        omega
theorem nm_by (c : Bool) (k : Int) : Wh.By (nm c k) := by
  unfold nm
  cases c <;> (split <;> first | (intro x hx; simp at hx; omega) | (split <;> first | (intro x hx; simp at hx; omega) | exact Wh.By.nil))
theorem nm_len (c : Bool) (k : Int) : (nm c k).length ≤ 3 := by
  unfold nm
  split
  · split <;> simp
  · split
    · split <;> simp
    · simp
theorem nm_fin {c : Bool} {k : Int} (h : k < 3) : nm c k = [] := by
  unfold nm
  rw [if_neg (by omega), if_neg (by omega)]
end Po
end Go.Proofs.YtaoaniigbooihaaGreatDoor

namespace Go.Proofs.YtaoaniigbooihaaGreatDoor
open Go Go.RowKit Go.Deep
namespace Po

/-- What is padded. -/
noncomputable def tb (V F P d : Int) : List Int := if Ie.fnt d = true then bd V (Wh.bit F 8) P d else nm (cap V) (Ie.cls d)
theorem ren_pad {V F W P d : Int} (h : renE V F W P = 0) : ren V F W P d = Wh.padT F W (Ie.fnt d) (Wh.sgn F (ng d)) (tb V F P d) := by
  unfold ren tb
  rw [if_pos h]
  by_cases c : Ie.fnt d = true
  · rw [if_pos c, if_pos c, c]
  · rw [if_neg c, if_neg c, show Ie.fnt d = false by simpa using c]
theorem renE_ok {V F W P : Int} (h : renE V F W P = 0) : okV V = true ∧ Wh.chk F W P = 0 := by
  unfold renE at h
  split at h
  · next c => exact ⟨c, h⟩
  · omega
theorem renE_zero {V F W P : Int} (h : renE V F W P = 0) : renE V F 0 P = 0 := by
  obtain ⟨a, b⟩ := renE_ok h
  obtain ⟨f, w, p⟩ := Wh.chk_ok b
  unfold renE
  rw [if_pos a]
  exact Wh.chk_of ⟨f, by omega, p⟩
theorem cls_of {d : Int} (h : Ie.fnt d = false) : Ie.cls d = 3 ∨ Ie.cls d = 4 := by
  unfold Ie.fnt at h
  rw [decide_eq_false_iff_not] at h
  unfold Ie.cls at *
  split at h
  · split at h <;> omega
  · split at h
    · rename_i a b
      rw [if_neg a, if_pos b]
      split <;> omega
    · omega
theorem sgn_bit {F G : Int} (b : Bool) (h2 : Wh.bit F 2 = Wh.bit G 2) (h4 : Wh.bit F 4 = Wh.bit G 4) : Wh.sgn F b = Wh.sgn G b := by unfold Wh.sgn; rw [h2, h4]
theorem tb_bit {V F G P d : Int} (h : Wh.bit F 8 = Wh.bit G 8) : tb V F P d = tb V G P d := by unfold tb; rw [h]

/-- Digits ahead, whatever follows. -/
theorem wrt_head {a b p : List Int} {h : Bool} (ha : Digs a) (hne : a ≠ []) : ∃ x ys, wrt a b p h = x :: ys ∧ 48 ≤ x ∧ x ≤ 57 := by
  match a, hne with
  | x :: l, _ =>
    unfold wrt
    have := ha x (by simp)
    split
    · exact ⟨x, l ++ p, rfl, this⟩
    · exact ⟨x, l ++ 46 :: (b ++ p), rfl, this⟩
theorem take1 {xs : List Int} (h : 1 ≤ xs.length) : xs.take 1 ≠ [] := by
  intro c
  have : (xs.take 1).length = 0 := by rw [c]; rfl
  rw [List.length_take] at this
  omega
theorem bd_head {V P d : Int} (h : Bool) (hf : Ie.fnt d = true) (p0 : -1 ≤ P) (p1 : P ≤ 4096) : ∃ x ys, bd V h P d = x :: ys ∧ 48 ≤ x ∧ x ≤ 57 := by
  obtain ⟨q0, q1⟩ := pr_bd p0 p1
  unfold bd
  split
  · have k := plF hf q0 (by omega)
    exact wrt_head k.a k.ane
  · split
    · have k := fgF hf (n := pr P + 1) (by omega) (by omega)
      exact wrt_head (digs_take k.s _) (take1 (by have := k.len; omega))
    · have k := fgF hf (n := max (pr P) 1) (by omega) (by omega)
      unfold bdG
      split
      · rename_i g
        have j := plF hf (n := max (pr P) 1 - 1 - Fx.gK d (max (pr P) 1)) (by omega) (by omega)
        exact wrt_head j.a j.ane
      · exact wrt_head (digs_take k.s _) (take1 (by have := k.len; omega))
theorem nm_head {c : Bool} {k : Int} (h : k = 3 ∨ k = 4) : ∃ x ys, nm c k = x :: ys ∧ 48 ≤ x ∧ x ≤ 122 := by
  unfold nm
  rcases h with rfl | rfl
  · rw [if_pos rfl]; cases c
    · exact ⟨_, _, if_neg Bool.false_ne_true, by omega, by omega⟩
    · exact ⟨_, _, if_pos rfl, by omega, by omega⟩
  · rw [if_neg (by decide), if_pos rfl]; cases c
    · exact ⟨_, _, if_neg Bool.false_ne_true, by omega, by omega⟩
    · exact ⟨_, _, if_pos rfl, by omega, by omega⟩
theorem tb_head {V F P d : Int} (p0 : -1 ≤ P) (p1 : P ≤ 4096) : ∃ x ys, tb V F P d = x :: ys ∧ 48 ≤ x ∧ x ≤ 122 := by
  unfold tb
  split
  · next c =>
    obtain ⟨x, ys, e, a, b⟩ := bd_head (V := V) (Wh.bit F 8) c p0 p1
    exact ⟨x, ys, e, a, by omega⟩
  · next c => exact nm_head (cls_of (by simpa using c))
theorem tb_ok {V F P d : Int} (p0 : -1 ≤ P) (p1 : P ≤ 4096) : Wh.By (tb V F P d) ∧ (tb V F P d).length ≤ 20000 := by
  unfold tb
  split
  · next c => exact bd_ok _ c p0 p1
  · exact ⟨nm_by _ _, by have := nm_len (cap V) (Ie.cls d); omega⟩
theorem ren_len {V F W P d : Int} : (ren V F W P d).length ≤ 30000 ∧ Wh.By (ren V F W P d) := by
  by_cases h : renE V F W P = 0
  · obtain ⟨-, b⟩ := renE_ok h
    obtain ⟨f, w, p⟩ := Wh.chk_ok b
    have k := tb_ok (V := V) (F := F) (d := d) p.1 p.2
    have s := Wh.sgn_len F (ng d)
    rw [ren_pad h]
    refine ⟨?_, Wh.padT_by (Wh.sgn_by _ _) k.1⟩
    rw [Wh.padT_len]
    omega
  · unfold ren
    rw [if_neg h]
    exact ⟨by simp, Wh.By.nil⟩

/-- Small letters. -/
def low (x : Int) : Int := if 65 ≤ x ∧ x ≤ 90 then x + 32 else x
theorem low_id {x : Int} (h : ¬ (65 ≤ x ∧ x ≤ 90)) : low x = x := if_neg h
theorem map_id {xs : List Int} (h : ∀ x ∈ xs, ¬ (65 ≤ x ∧ x ≤ 90)) : xs.map low = xs := by
  induction xs with
  | nil => rfl
  | cons x l ih => rw [List.map_cons, low_id (h x (by simp)), ih (fun y hy => h y (by simp [hy]))]
theorem map_digs {xs : List Int} (h : Digs xs) : xs.map low = xs := map_id (fun x hx => by have := h x hx; omega)
theorem map_rep {c n : Int} (h : c = 32 ∨ c = 48) : (Wh.rep c n).map low = Wh.rep c n := map_id (fun x hx => by
  rw [Wh.rep, List.mem_replicate] at hx; omega)
theorem map_sgn (F : Int) (b : Bool) : (Wh.sgn F b).map low = Wh.sgn F b := map_id (fun x hx => by
  unfold Wh.sgn at hx
  split at hx
  · simp at hx; omega
  · split at hx
    · simp at hx; omega
    · split at hx
      · simp at hx; omega
      · simp at hx)
theorem xd_small {k : Int} (h0 : -400 ≤ k) (h1 : k ≤ 400) : ∀ x ∈ xd k, 43 ≤ x ∧ x ≤ 57 := by
  rw [xd_is h0 h1]
  intro x hx
  rcases List.mem_cons.1 hx with rfl | q
  · split <;> omega
  · have := Fx.tx_digs _ _ x q; omega
theorem map_ex {V v k : Int} (hV : cap V = true) (hv : cap v = false) (h0 : -400 ≤ k) (h1 : k ≤ 400) : (ex V k).map low = ex v k := by
  unfold ex
  rw [hV, hv, if_pos rfl, if_neg Bool.false_ne_true, List.map_cons, map_id (fun x hx => by have := xd_small h0 h1 x hx; omega)]
  rfl
theorem map_wrt {a b p q : List Int} {h : Bool} (ha : Digs a) (hb : Digs b) (hp : p.map low = q) : (wrt a b p h).map low = wrt a b q h := by
  unfold wrt
  split
  · rw [List.map_append, map_digs ha, hp]
  · rw [List.map_append, List.map_cons, List.map_append, map_digs ha, map_digs hb, hp]
    rfl
theorem map_bd {V P d : Int} (h : Bool) (hf : Ie.fnt d = true) (p0 : -1 ≤ P) (p1 : P ≤ 4096) (hV : V = 69 ∨ V = 70 ∨ V = 71) : (bd V h P d).map low = bd (V + 32) h P d := by
  obtain ⟨q0, q1⟩ := pr_bd p0 p1
  have cV : cap V = true := by unfold cap; rw [decide_eq_true_iff]; omega
  have cv : cap (V + 32) = false := by unfold cap; rw [decide_eq_false_iff_not]; omega
  unfold bd
  by_cases hF : V = 102 ∨ V = 70
  · rw [if_pos hF, if_pos (show V + 32 = 102 ∨ V + 32 = 70 by omega)]
    have k := plF hf q0 (by omega)
    exact map_wrt k.a k.b rfl
  · rw [if_neg hF, if_neg (show ¬ (V + 32 = 102 ∨ V + 32 = 70) by omega)]
    by_cases hE : V = 101 ∨ V = 69
    · rw [if_pos hE, if_pos (show V + 32 = 101 ∨ V + 32 = 69 by omega)]
      have k := fgF hf (n := pr P + 1) (by omega) (by omega)
      exact map_wrt (digs_take k.s _) (digs_drop k.s _) (map_ex cV cv (by have := k.lo; omega) (by have := k.hi; omega))
    · rw [if_neg hE, if_neg (show ¬ (V + 32 = 101 ∨ V + 32 = 69) by omega)]
      have k := fgF hf (n := max (pr P) 1) (by omega) (by omega)
      unfold bdG
      by_cases g : -4 ≤ Fx.gK d (max (pr P) 1) ∧ Fx.gK d (max (pr P) 1) < max (pr P) 1
      · rw [if_pos g, if_pos g]
        have j := plF hf (n := max (pr P) 1 - 1 - Fx.gK d (max (pr P) 1)) (by omega) (by omega)
        exact map_wrt j.a (digs_st h j.b) rfl
      · rw [if_neg g, if_neg g]
        exact map_wrt (digs_take k.s _) (digs_st h (digs_drop k.s _)) (map_ex cV cv (by have := k.lo; omega) (by have := k.hi; omega))
theorem map_tb {V F P d : Int} (p0 : -1 ≤ P) (p1 : P ≤ 4096) (hV : V = 69 ∨ V = 70 ∨ V = 71) : (tb V F P d).map low = tb (V + 32) F P d := by
  have cV : cap V = true := by unfold cap; rw [decide_eq_true_iff]; omega
  have cv : cap (V + 32) = false := by unfold cap; rw [decide_eq_false_iff_not]; omega
  unfold tb
  by_cases c : Ie.fnt d = true
  · rw [if_pos c, if_pos c]; exact map_bd _ c p0 p1 hV
  · rw [if_neg c, if_neg c, cV, cv]
    rcases cls_of (show Ie.fnt d = false by simpa using c) with e | e <;> rw [e] <;> rfl
theorem map_pad {F W : Int} {z : Bool} {h b c : List Int} (hh : h.map low = h) (hb : b.map low = c) : (Wh.padT F W z h b).map low = Wh.padT F W z h c := by
  have l : (b.length : Int) = c.length := by rw [← hb, List.length_map]
  unfold Wh.padT
  rw [l]
  split
  · rw [List.map_append, List.map_append, hh, hb, map_rep (.inl rfl)]
  · split
    · rw [List.map_append, List.map_append, hh, hb, map_rep (.inr rfl)]
    · rw [List.map_append, List.map_append, hh, hb, map_rep (.inl rfl)]
theorem map_ren {V F W P d : Int} (hV : V = 69 ∨ V = 70 ∨ V = 71) : (ren V F W P d).map low = ren (V + 32) F W P d := by
  have oV : okV V = true := by unfold okV; rw [decide_eq_true_iff]; omega
  have ov : okV (V + 32) = true := by unfold okV; rw [decide_eq_true_iff]; omega
  have e : renE V F W P = renE (V + 32) F W P := by unfold renE; rw [if_pos oV, if_pos ov]
  by_cases h : renE V F W P = 0
  · obtain ⟨-, b⟩ := renE_ok h
    obtain ⟨f, w, p⟩ := Wh.chk_ok b
    rw [ren_pad h, ren_pad (by rw [← e]; exact h)]
    exact map_pad (map_sgn _ _) (map_tb p.1 p.2 hV)
  · unfold ren
    rw [if_neg h, if_neg (by rw [← e]; exact h)]
    rfl
/-- No small letter. -/
def NoS (xs : List Int) : Prop := ∀ x ∈ xs, ¬ (97 ≤ x ∧ x ≤ 122)
theorem NoS.app {a b : List Int} (h : NoS a) (k : NoS b) : NoS (a ++ b) := by
  intro x hx
  rcases List.mem_append.1 hx with q | q
  · exact h x q
  · exact k x q
theorem NoS.digs {a : List Int} (h : Digs a) : NoS a := fun x hx => by have := h x hx; omega
theorem NoS.cons {c : Int} {a : List Int} (h0 : ¬ (97 ≤ c ∧ c ≤ 122)) (h : NoS a) : NoS (c :: a) := by
  intro x hx
  rcases List.mem_cons.1 hx with q | q
  · rw [q]; exact h0
  · exact h x q
theorem NoS.nil : NoS [] := by intro x h; simp at h
theorem nos_rep {c n : Int} (h : c = 32 ∨ c = 48) : NoS (Wh.rep c n) := fun x hx => by rw [Wh.rep, List.mem_replicate] at hx; omega
theorem nos_sgn (F : Int) (b : Bool) : NoS (Wh.sgn F b) := fun x hx => by
  unfold Wh.sgn at hx
  split at hx
  · simp at hx; omega
  · split at hx
    · simp at hx; omega
    · split at hx
      · simp at hx; omega
      · simp at hx
theorem nos_ex {V k : Int} (hV : cap V = true) (h0 : -400 ≤ k) (h1 : k ≤ 400) : NoS (ex V k) := by
  unfold ex
  rw [hV, if_pos rfl]
  exact NoS.cons (by omega) (fun x hx => by have := xd_small h0 h1 x hx; omega)
theorem nos_wrt {a b p : List Int} {h : Bool} (ha : Digs a) (hb : Digs b) (hp : NoS p) : NoS (wrt a b p h) := by
  unfold wrt
  split
  · exact (NoS.digs ha).app hp
  · exact (NoS.digs ha).app (NoS.cons (by omega) ((NoS.digs hb).app hp))
theorem nos_bd {V P d : Int} (h : Bool) (hf : Ie.fnt d = true) (p0 : -1 ≤ P) (p1 : P ≤ 4096) (hV : V = 69 ∨ V = 70 ∨ V = 71) : NoS (bd V h P d) := by
  obtain ⟨q0, q1⟩ := pr_bd p0 p1
  have cV : cap V = true := by unfold cap; rw [decide_eq_true_iff]; omega
  unfold bd
  split
  · have k := plF hf q0 (by omega)
    exact nos_wrt k.a k.b NoS.nil
  · split
    · have k := fgF hf (n := pr P + 1) (by omega) (by omega)
      exact nos_wrt (digs_take k.s _) (digs_drop k.s _) (nos_ex cV (by have := k.lo; omega) (by have := k.hi; omega))
    · have k := fgF hf (n := max (pr P) 1) (by omega) (by omega)
      unfold bdG
      split
      · rename_i g
        have j := plF hf (n := max (pr P) 1 - 1 - Fx.gK d (max (pr P) 1)) (by omega) (by omega)
        exact nos_wrt j.a (digs_st h j.b) NoS.nil
      · exact nos_wrt (digs_take k.s _) (digs_st h (digs_drop k.s _)) (nos_ex cV (by have := k.lo; omega) (by have := k.hi; omega))
theorem nos_tb {V F P d : Int} (p0 : -1 ≤ P) (p1 : P ≤ 4096) (hV : V = 69 ∨ V = 70 ∨ V = 71) : NoS (tb V F P d) := by
  have cV : cap V = true := by unfold cap; rw [decide_eq_true_iff]; omega
  unfold tb
  by_cases c : Ie.fnt d = true
  · rw [if_pos c]; exact nos_bd _ c p0 p1 hV
  · rw [if_neg c, cV]
    rcases cls_of (show Ie.fnt d = false by simpa using c) with e | e <;> rw [e] <;> (intro x hx; simp [nm] at hx; omega)
theorem nos_ren {V F W P d : Int} (hV : V = 69 ∨ V = 70 ∨ V = 71) : NoS (ren V F W P d) := by
  by_cases h : renE V F W P = 0
  · obtain ⟨-, b⟩ := renE_ok h
    obtain ⟨f, w, p⟩ := Wh.chk_ok b
    rw [ren_pad h]
    have k := nos_tb (V := V) (F := F) (d := d) p.1 p.2 hV
    unfold Wh.padT
    split
    · exact ((nos_sgn _ _).app k).app (nos_rep (.inl rfl))
    · split
      · exact ((nos_sgn _ _).app (nos_rep (.inr rfl))).app k
      · exact ((nos_rep (.inl rfl)).app (nos_sgn _ _)).app k
  · unfold ren
    rw [if_neg h]
    exact NoS.nil
end Po
end Go.Proofs.YtaoaniigbooihaaGreatDoor

namespace Go.Proofs.YtaoaniigbooihaaGreatDoor
namespace Sc

/-- A number's digits, as bytes. -/
def dl (u : Nat) : List Int := (Lib.decDigits u).map fun b => (b.toNat : Int)
theorem dl_small {u : Nat} (h : u < 10) : dl u = [48 + (u : Int)] := by
  unfold dl
  rw [Lib.decDigits_one h]
  simp only [List.map_cons, List.map_nil]
  rw [UInt8.toNat_ofNat_of_lt' (by show 48 + u < 256; omega)]
  simp
theorem dl_big {u : Nat} (h : ¬ u < 10) : dl u = dl (u / 10) ++ [48 + ((u % 10 : Nat) : Int)] := by
  unfold dl
  rw [Lib.decDigits, dif_neg h, List.map_append]
  simp only [List.map_cons, List.map_nil]
  rw [UInt8.toNat_ofNat_of_lt' (by show 48 + u % 10 < 256; omega)]
  simp
theorem dl_is (u : Nat) : (∀ x ∈ dl u, dg x = true) ∧ dl u ≠ [] ∧ cap (dl u) = min (u : Int) 1000000000000000 := by
  induction u using Nat.strongRecOn with
  | _ u ih =>
    by_cases h : u < 10
    · rw [dl_small h]
      refine ⟨fun x hx => ?_, by simp, ?_⟩
      · rw [List.mem_singleton] at hx; subst hx; rw [dg_iff]; omega
      · have := cap_snoc [] (48 + (u : Int))
        rw [List.nil_append, cap_nil] at this
        rw [this]; omega
    · obtain ⟨h1, h2, h3⟩ := ih (u / 10) (by omega)
      rw [dl_big h]
      refine ⟨fun x hx => ?_, by simp, ?_⟩
      · rw [List.mem_append, List.mem_singleton] at hx
        rcases hx with hx | hx
        · exact h1 x hx
        · subst hx; rw [dg_iff]; omega
      · rw [cap_snoc, h3]; omega

theorem run_app {p : Int → Bool} (hp : p 0 = false) {as' bs cs : List Int} (h1 : ∀ x ∈ bs, p x = true) (h2 : p (pk cs 0) = false) : run p (as' ++ bs ++ cs) as'.length = bs.length := by
  apply run_is hp
  · intro j hj
    rw [pk_append, if_pos (by simp; omega), pk_append, if_neg (by omega), show as'.length + j - as'.length = j by omega]
    apply h1
    simp [pk, List.getD, hj]
  · rw [pk_append, if_neg (by simp), show as'.length + bs.length - (as' ++ bs).length = 0 by simp]
    exact h2
theorem take_app {as' bs cs : List Int} : ((as' ++ bs ++ cs).drop as'.length).take bs.length = bs := by
  rw [List.append_assoc, List.drop_left, List.take_left]

/-- Digits that are there, all digits. -/
def Dig (ds : List Int) : Prop := ds ≠ [] ∧ ∀ x ∈ ds, dg x = true
theorem Dig.pk0 {ds : List Int} (h : Dig ds) : dg (pk ds 0) = true := by
  obtain ⟨h1, h2⟩ := h
  cases ds with
  | nil => exact absurd rfl h1
  | cons x l => exact h2 x (by simp)

end Sc
end Go.Proofs.YtaoaniigbooihaaGreatDoor

namespace Go.Proofs.YtaoaniigbooihaaGreatDoor
namespace Sc

def sgT (n : Int) : List Int := if n = 1 then [43] else if n = 2 then [45] else []
theorem pk_at (U V : List Int) (i : Nat) : pk (U ++ V) (U.length + i) = pk V i := by rw [pk_append, if_neg (by omega), Nat.add_sub_cancel_left]
theorem pk_at0 (U V : List Int) : pk (U ++ V) U.length = pk V 0 := pk_at U V 0
theorem pk_or (A B : List Int) : pk (A ++ B) 0 = if A = [] then pk B 0 else pk A 0 := by
  cases A with
  | nil => rfl
  | cons x l => rfl
theorem pk_dig {A : List Int} (h : ∀ x ∈ A, dg x = true) (h0 : A ≠ []) : dg (pk A 0) = true := Dig.pk0 ⟨h0, h⟩

/-- The sign at the head. -/
theorem sg_made (P V : List Int) (n : Int) (h : ¬ (pk V 0 = 43 ∨ pk V 0 = 45)) : sg (P ++ sgT n ++ V) P.length = (sgT n).length ∧ (pk (P ++ sgT n ++ V) P.length = 45 ↔ n = 2) := by
  rw [List.append_assoc]
  unfold sg
  rw [pk_at0]
  unfold sgT
  by_cases h1 : n = 1
  · subst h1
    exact ⟨rfl, ⟨fun c => by have : (43 : Int) = 45 := c; omega, fun c => by omega⟩⟩
  · rw [if_neg h1]
    by_cases h2 : n = 2
    · subst h2
      exact ⟨rfl, ⟨fun _ => rfl, fun _ => rfl⟩⟩
    · rw [if_neg h2, List.nil_append, if_neg h]
      exact ⟨rfl, ⟨fun c => absurd (.inr c) h, fun c => absurd c h2⟩⟩

/-- The exponent's part, and its worth. -/
def exL (el : Option Int) (m : Int) (E : Nat) : List Int := match el with | some c => c :: (sgT m ++ dl E) | none => []
def exS (el : Option Int) (m : Int) (E : Nat) : Int := match el with | some _ => if m = 2 then - min (E : Int) 1000000000000000 else min (E : Int) 1000000000000000 | none => 0

/-- The parts of a literal behind P, and what follows. -/
theorem made_lit (P A B tail : List Int) (n m : Int) (pt : Bool) (el : Option Int) (E : Nat) (hA : ∀ x ∈ A, dg x = true) (hB : ∀ x ∈ B, dg x = true) (hne : A.length + (if pt = true then B.length else 0) ≠ 0)
    (hel : ∀ c, el = some c → c = 101 ∨ c = 69) (ht : dg (pk tail 0) = false ∧ pk tail 0 ≠ 46 ∧ isE (pk tail 0) = false ∧ pk tail 0 ≠ 43 ∧ pk tail 0 ≠ 45) :
    some? (P ++ sgT n ++ A ++ ((if pt = true then 46 :: B else []) ++ (exL el m E ++ tail))) P.length ∧
    lit (P ++ sgT n ++ A ++ ((if pt = true then 46 :: B else []) ++ (exL el m E ++ tail))) P.length =
      ⟨decide (n = 2), A, if pt = true then B else [], exS el m E,
        (P ++ sgT n ++ A ++ ((if pt = true then 46 :: B else []) ++ exL el m E)).length⟩ := by
  obtain ⟨ex, hex⟩ : ∃ ex : List Int, ex = exL el m E := ⟨_, rfl⟩
  obtain ⟨dot, hdot⟩ : ∃ dot : List Int, dot = (if pt = true then 46 :: B else []) := ⟨_, rfl⟩
  rw [← hex, ← hdot]
  -- the first byte of the exponent's part and what follows
  have x0 : dg (pk (ex ++ tail) 0) = false ∧ pk (ex ++ tail) 0 ≠ 46 ∧ pk (ex ++ tail) 0 ≠ 43 ∧ pk (ex ++ tail) 0 ≠ 45 := by
    cases el with
    | none => rw [hex]; exact ⟨ht.1, ht.2.1, ht.2.2.2.1, ht.2.2.2.2⟩
    | some c =>
      rw [hex]
      have := hel c rfl
      show dg c = false ∧ c ≠ 46 ∧ c ≠ 43 ∧ c ≠ 45
      refine ⟨?_, by omega, by omega, by omega⟩
      rw [dg_not]; omega
  have d0 : dg (pk (dot ++ (ex ++ tail)) 0) = false ∧ pk (dot ++ (ex ++ tail)) 0 ≠ 43 ∧ pk (dot ++ (ex ++ tail)) 0 ≠ 45 ∧ (pk (dot ++ (ex ++ tail)) 0 = 46 ↔ pt = true) := by
    cases pt with
    | false => rw [hdot]; exact ⟨x0.1, x0.2.2.1, x0.2.2.2, ⟨fun c => absurd c x0.2.1, fun c => by simp at c⟩⟩
    | true => rw [hdot]; exact ⟨rfl, by show (46 : Int) ≠ 43; omega, by show (46 : Int) ≠ 45; omega, ⟨fun _ => rfl, fun _ => rfl⟩⟩
  obtain ⟨R, hR⟩ : ∃ R, R = dot ++ (ex ++ tail) := ⟨_, rfl⟩
  rw [← hR] at d0 ⊢
  have a0 : ¬ (pk (A ++ R) 0 = 43 ∨ pk (A ++ R) 0 = 45) := by
    rw [pk_or]
    split
    · intro c; rcases c with c | c; exact d0.2.1 c; exact d0.2.2.1 c
    · next c => have := dg_iff.1 (pk_dig hA c); omega
  obtain ⟨s1, s2⟩ := sg_made P (A ++ R) n a0
  rw [← List.append_assoc] at s1 s2
  obtain ⟨xs, hxs⟩ : ∃ xs, xs = P ++ sgT n ++ A ++ R := ⟨_, rfl⟩
  rw [← hxs] at s1 s2 ⊢
  have e1 : p1 xs P.length = (P ++ sgT n).length := by unfold p1; rw [s1, List.length_append]
  have r1 : run dg xs (P ++ sgT n).length = A.length := by rw [hxs]; exact run_app dg0 hA d0.1
  have e2 : p2 xs P.length = (P ++ sgT n ++ A).length := by unfold p2; rw [e1, r1]; exact List.length_append.symm
  have ah : (xs.drop (p1 xs P.length)).take (run dg xs (p1 xs P.length)) = A := by rw [e1, r1, hxs]; exact take_app
  have k2 : pk xs (p2 xs P.length) = pk R 0 := by rw [e2, hxs, pk_at0]
  -- the point
  have pnt : bn xs P.length = (if pt = true then B.length else 0) ∧ p3 xs P.length = (P ++ sgT n ++ A ++ dot).length ∧ (xs.drop (p2 xs P.length + 1)).take (bn xs P.length) = (if pt = true then B else []) := by
    cases pt with
    | false =>
      have c : ¬ pk xs (p2 xs P.length) = 46 := by rw [k2]; intro c; exact absurd (d0.2.2.2.1 c) (by simp)
      refine ⟨by unfold bn; rw [if_neg c]; rfl, by unfold p3; rw [if_neg c, e2, hdot]; simp, ?_⟩
      have : bn xs P.length = 0 := by unfold bn; rw [if_neg c]
      rw [this]; rfl
    | true =>
      have c : pk xs (p2 xs P.length) = 46 := by rw [k2]; exact d0.2.2.2.2 rfl
      have hd : dot = 46 :: B := by rw [hdot]; rfl
      have hx2 : xs = (P ++ sgT n ++ A ++ [46]) ++ B ++ (ex ++ tail) := by rw [hxs, hR, hd]; simp
      have l2 : p2 xs P.length + 1 = (P ++ sgT n ++ A ++ [46]).length := by rw [e2]; simp; omega
      have r2 : run dg xs (p2 xs P.length + 1) = B.length := by rw [l2, hx2]; exact run_app dg0 hB x0.1
      have b2 : bn xs P.length = B.length := by unfold bn; rw [if_pos c, r2]
      refine ⟨b2, ?_, ?_⟩
      · unfold p3; rw [if_pos c, r2, e2, hd]; simp; omega
      · rw [b2, l2, hx2]; exact take_app
  obtain ⟨b1, b2, b3⟩ := pnt
  have hsome : some? xs P.length := by unfold some?; rw [e1, r1, b1]; exact hne
  refine ⟨hsome, ?_⟩
  have ng : decide (pk xs P.length = 45) = decide (n = 2) := decide_eq_decide.2 s2
  have hx3 : xs = (P ++ sgT n ++ A ++ dot) ++ (ex ++ tail) := by rw [hxs, hR]; simp
  have k3 : ∀ i, pk xs (p3 xs P.length + i) = pk (ex ++ tail) i := fun i => by rw [b2, hx3]; exact pk_at _ _ i
  have k30 : pk xs (p3 xs P.length) = pk (ex ++ tail) 0 := k3 0
  cases el with
  | none =>
    have hE : hasE xs (p3 xs P.length) = false := by
      unfold hasE; rw [k30, hex]; show (isE (pk tail 0) && _) = false; rw [ht.2.2.1, Bool.false_and]
    unfold lit
    rw [ah, ng, b3, hE, b2, hex]
    simp [exL, exS]
  | some c =>
    have hc := hel c rfl
    have hex' : ex = c :: (sgT m ++ dl E) := hex
    obtain ⟨k1, k2', k3'⟩ := dl_is E
    have dp := dg_iff.1 (pk_dig k1 k2')
    have hx4 : xs = (P ++ sgT n ++ A ++ dot ++ [c]) ++ sgT m ++ (dl E ++ tail) := by rw [hx3, hex']; simp
    have l4 : p3 xs P.length + 1 = (P ++ sgT n ++ A ++ dot ++ [c]).length := by rw [b2]; simp; omega
    obtain ⟨t1, t2⟩ := sg_made (P ++ sgT n ++ A ++ dot ++ [c]) (dl E ++ tail) m (by rw [pk_or, if_neg k2']; omega)
    rw [← hx4, ← l4] at t1 t2
    have e4 : p4 xs (p3 xs P.length) = (P ++ sgT n ++ A ++ dot ++ [c] ++ sgT m).length := by unfold p4; rw [t1, l4, ← List.length_append]
    have hx5 : xs = (P ++ sgT n ++ A ++ dot ++ [c] ++ sgT m) ++ dl E ++ tail := by rw [hx4]; simp
    have r4 : run dg xs (p4 xs (p3 xs P.length)) = (dl E).length := by rw [e4, hx5]; exact run_app dg0 k1 ht.1
    have tk : (xs.drop (p4 xs (p3 xs P.length))).take (run dg xs (p4 xs (p3 xs P.length))) = dl E := by rw [r4, e4, hx5]; exact take_app
    have hE : hasE xs (p3 xs P.length) = true := by
      unfold hasE
      rw [k30, hex']
      have h1 : isE (pk (c :: (sgT m ++ dl E) ++ tail) 0) = true := by show isE c = true; simp [isE]; exact hc
      rw [h1, Bool.true_and, e4, hx5, List.append_assoc _ (dl E), pk_at0, pk_or, if_neg k2']
      exact pk_dig k1 k2'
    unfold lit
    rw [ah, ng, b3, hE, tk, k3', if_pos rfl, if_pos rfl, r4, e4]
    congr 1
    · by_cases hm : m = 2
      · rw [if_pos (t2.2 hm)]; simp [exS, hm]
      · rw [if_neg (fun h => hm (t2.1 h))]; simp [exS, hm]
    · rw [hex']; simp; omega
end Sc
end Go.Proofs.YtaoaniigbooihaaGreatDoor

namespace Go.Proofs.YtaoaniigbooihaaGreatDoor
namespace Sc

/-- The literal's own text. -/
def mtx (n : Int) (A B : List Int) (pt : Bool) (el : Option Int) (m : Int) (E : Nat) : List Int := sgT n ++ A ++ ((if pt = true then 46 :: B else []) ++ exL el m E)
def TailOk (tail : List Int) : Prop := dg (pk tail 0) = false ∧ pk tail 0 ≠ 46 ∧ isE (pk tail 0) = false ∧ pk tail 0 ≠ 43 ∧ pk tail 0 ≠ 45

theorem mtx_head (n : Int) (A B : List Int) (pt : Bool) (el : Option Int) (m : Int) (E : Nat) (tail : List Int) (hA : ∀ x ∈ A, dg x = true) (hne : A.length + (if pt = true then B.length else 0) ≠ 0) : bl (pk (mtx n A B pt el m E ++ tail) 0) = false := by
  rw [bl_not]
  unfold mtx
  by_cases h1 : n = 1
  · subst h1; show ¬ ((43 : Int) = 32 ∨ 9 ≤ (43 : Int) ∧ (43 : Int) ≤ 13); decide
  · by_cases h2 : n = 2
    · subst h2; show ¬ ((45 : Int) = 32 ∨ 9 ≤ (45 : Int) ∧ (45 : Int) ≤ 13); decide
    · have s0 : sgT n = [] := by unfold sgT; rw [if_neg h1, if_neg h2]
      rw [s0]
      cases A with
      | nil =>
        cases pt with
        | false => simp at hne
        | true => show ¬ ((46 : Int) = 32 ∨ 9 ≤ (46 : Int) ∧ (46 : Int) ≤ 13); decide
      | cons x l =>
        have := dg_iff.1 (hA x (by simp))
        show ¬ (x = 32 ∨ 9 ≤ x ∧ x ≤ 13)
        omega

theorem made_run (P A B tail : List Int) (n m : Int) (pt : Bool) (el : Option Int) (E : Nat) (hP : ∀ x ∈ P, bl x = true) (hA : ∀ x ∈ A, dg x = true) (hne : A.length + (if pt = true then B.length else 0) ≠ 0) : run bl (P ++ mtx n A B pt el m E ++ tail) 0 = P.length := by
  have := run_app bl0 (as' := []) (bs := P) (cs := mtx n A B pt el m E ++ tail) hP (mtx_head n A B pt el m E tail hA hne)
  rw [List.nil_append, ← List.append_assoc] at this
  exact this

theorem made_at (P A B tail : List Int) (n m : Int) (pt : Bool) (el : Option Int) (E : Nat) (hA : ∀ x ∈ A, dg x = true) (hB : ∀ x ∈ B, dg x = true) (hne : A.length + (if pt = true then B.length else 0) ≠ 0)
    (hel : ∀ c, el = some c → c = 101 ∨ c = 69) (ht : TailOk tail) : some? (P ++ mtx n A B pt el m E ++ tail) P.length ∧
    (lit (P ++ mtx n A B pt el m E ++ tail) P.length).d = nrm (decide (n = 2)) (A ++ (if pt = true then B else [])) (exS el m E - ((if pt = true then B else []).length : Int)) ∧
    (lit (P ++ mtx n A B pt el m E ++ tail) P.length).en = (P ++ mtx n A B pt el m E).length := by
  have e : P ++ mtx n A B pt el m E ++ tail = P ++ sgT n ++ A ++ ((if pt = true then 46 :: B else []) ++ (exL el m E ++ tail)) := by unfold mtx; simp only [List.append_assoc]
  obtain ⟨h1, h2⟩ := made_lit P A B tail n m pt el E hA hB hne hel ht
  rw [e, h2]
  refine ⟨h1, rfl, ?_⟩
  show (P ++ sgT n ++ A ++ ((if pt = true then 46 :: B else []) ++ exL el m E)).length = _
  unfold mtx
  simp only [List.append_assoc]

theorem made_ab (P A B tail : List Int) (n m : Int) (pt : Bool) (el : Option Int) (E : Nat) (hA : ∀ x ∈ A, dg x = true) (hB : ∀ x ∈ B, dg x = true) (hne : A.length + (if pt = true then B.length else 0) ≠ 0)
    (hel : ∀ c, el = some c → c = 101 ∨ c = 69) (ht : TailOk tail) : (lit (P ++ mtx n A B pt el m E ++ tail) P.length).ah.length + (lit (P ++ mtx n A B pt el m E ++ tail) P.length).bh.length ≤ A.length + B.length := by
  have e : P ++ mtx n A B pt el m E ++ tail = P ++ sgT n ++ A ++ ((if pt = true then 46 :: B else []) ++ (exL el m E ++ tail)) := by unfold mtx; simp only [List.append_assoc]
  obtain ⟨h1, h2⟩ := made_lit P A B tail n m pt el E hA hB hne hel ht
  rw [e, h2]
  show A.length + (if pt = true then B else []).length ≤ _
  split <;> simp

theorem mtx_len (n : Int) (A B : List Int) (pt : Bool) (el : Option Int) (m : Int) (E : Nat) (hd : (dl E).length ≤ 20) : (mtx n A B pt el m E).length ≤ A.length + B.length + 30 := by
  have h1 : ∀ k : Int, (sgT k).length ≤ 1 := fun k => by unfold sgT; split; (simp); split <;> simp
  have h2 : (exL el m E).length ≤ 22 := by
    have := h1 m
    cases el with
    | none => simp [exL]
    | some c => simp [exL]; omega
  have h3 : (if pt = true then 46 :: B else [] : List Int).length ≤ B.length + 1 := by split <;> simp
  have := h1 n
  unfold mtx
  simp only [List.length_append]
  omega

theorem made_num (P A B tail : List Int) (n m : Int) (pt : Bool) (el : Option Int) (E : Nat) (hP : ∀ x ∈ P, bl x = true) (hA : ∀ x ∈ A, dg x = true) (hB : ∀ x ∈ B, dg x = true) (hne : A.length + (if pt = true then B.length else 0) ≠ 0)
    (hel : ∀ c, el = some c → c = 101 ∨ c = 69) (ht : TailOk tail) :
    num (P ++ mtx n A B pt el m E ++ tail) = (nrm (decide (n = 2)) (A ++ (if pt = true then B else [])) (exS el m E - ((if pt = true then B else []).length : Int)), (P ++ mtx n A B pt el m E).length) := by
  obtain ⟨h1, h2, h3⟩ := made_at P A B tail n m pt el E hA hB hne hel ht
  unfold num
  rw [made_run P A B tail n m pt el E hP hA hne, if_pos h1, h2, h3]

theorem made_whl (P A B tail : List Int) (n m : Int) (pt : Bool) (el : Option Int) (E : Nat) (hP : ∀ x ∈ P, bl x = true) (hA : ∀ x ∈ A, dg x = true) (hB : ∀ x ∈ B, dg x = true) (hne : A.length + (if pt = true then B.length else 0) ≠ 0)
    (hel : ∀ c, el = some c → c = 101 ∨ c = 69) (ht : TailOk tail) (hb : ∀ x ∈ tail, bl x = true) :
    whl (P ++ mtx n A B pt el m E ++ tail) = (nrm (decide (n = 2)) (A ++ (if pt = true then B else [])) (exS el m E - ((if pt = true then B else []).length : Int)), true) := by
  obtain ⟨h1, h2, h3⟩ := made_at P A B tail n m pt el E hA hB hne hel ht
  have r : run bl (P ++ mtx n A B pt el m E ++ tail) (P ++ mtx n A B pt el m E).length = tail.length := by
    have := run_app bl0 (as' := P ++ mtx n A B pt el m E) (bs := tail) (cs := []) hb rfl
    rw [List.append_nil] at this
    exact this
  unfold whl
  rw [made_run P A B tail n m pt el E hP hA hne, if_pos ⟨h1, by rw [h3, r]; exact List.length_append.symm⟩, h2]

/-- A row of blanks may follow. -/
theorem TailOk.blanks {P : List Int} (h : ∀ x ∈ P, bl x = true) : TailOk P := by
  cases P with
  | nil => exact ⟨rfl, by decide, rfl, by decide, by decide⟩
  | cons x l =>
    have hx : bl x = true := h x (by simp)
    have : x = 32 ∨ (9 ≤ x ∧ x ≤ 13) := by simpa [bl] using hx
    refine ⟨?_, ?_, ?_, ?_, ?_⟩
    · show dg x = false; rw [dg_not]; omega
    · show x ≠ 46; omega
    · show isE x = false; simp [isE]; omega
    · show x ≠ 43; omega
    · show x ≠ 45; omega

/-- What built hands to Norm is a Dec. -/
theorem made_dec (A F : List Int) (e : Int) (hA : ∀ x ∈ A, dg x = true) (hF : ∀ x ∈ F, dg x = true) (h0 : A.length + F.length ≠ 0) (hl : A.length + F.length ≤ 281474976710655) (e0 : -1000000000000000 ≤ e) (e1 : e ≤ 1000000000000000) : IsDec (A ++ F) (e - (F.length : Int)) := by
  refine ⟨fun c => h0 (by rw [← List.length_append, c]; rfl), by omega, by omega, fun x hx => ?_, fun _ => ?_⟩
  · rcases List.mem_append.1 hx with h | h
    · exact hA x h
    · exact hF x h
  · have := tz_le (A ++ F)
    rw [List.length_append] at this
    omega
end Sc
end Go.Proofs.YtaoaniigbooihaaGreatDoor

namespace Go.Proofs.YtaoaniigbooihaaGreatDoor
namespace Sc

def exG (el : Option Int) (m : Int) (G : List Int) : List Int := match el with | some c => c :: (sgT m ++ G) | none => []
def exV (el : Option Int) (m c : Int) : Int := match el with | some _ => if m = 2 then - c else c | none => 0

/-- The parts of a literal behind P, and what follows. -/
theorem gmade_lit (P A B tail : List Int) (n m : Int) (pt : Bool) (el : Option Int) (G : List Int) (hA : ∀ x ∈ A, dg x = true) (hB : ∀ x ∈ B, dg x = true) (hne : A.length + (if pt = true then B.length else 0) ≠ 0)
    (hel : ∀ c, el = some c → c = 101 ∨ c = 69) (hG : (∀ x ∈ G, dg x = true) ∧ G ≠ []) (ht : dg (pk tail 0) = false ∧ pk tail 0 ≠ 46 ∧ isE (pk tail 0) = false ∧ pk tail 0 ≠ 43 ∧ pk tail 0 ≠ 45) :
    some? (P ++ sgT n ++ A ++ ((if pt = true then 46 :: B else []) ++ (exG el m G ++ tail))) P.length ∧
    lit (P ++ sgT n ++ A ++ ((if pt = true then 46 :: B else []) ++ (exG el m G ++ tail))) P.length =
      ⟨decide (n = 2), A, if pt = true then B else [], exV el m (cap G),
        (P ++ sgT n ++ A ++ ((if pt = true then 46 :: B else []) ++ exG el m G)).length⟩ := by
  obtain ⟨ex, hex⟩ : ∃ ex : List Int, ex = exG el m G := ⟨_, rfl⟩
  obtain ⟨dot, hdot⟩ : ∃ dot : List Int, dot = (if pt = true then 46 :: B else []) := ⟨_, rfl⟩
  rw [← hex, ← hdot]
  -- the first byte of the exponent's part and what follows
  have x0 : dg (pk (ex ++ tail) 0) = false ∧ pk (ex ++ tail) 0 ≠ 46 ∧ pk (ex ++ tail) 0 ≠ 43 ∧ pk (ex ++ tail) 0 ≠ 45 := by
    cases el with
    | none => rw [hex]; exact ⟨ht.1, ht.2.1, ht.2.2.2.1, ht.2.2.2.2⟩
    | some c =>
      rw [hex]
      have := hel c rfl
      show dg c = false ∧ c ≠ 46 ∧ c ≠ 43 ∧ c ≠ 45
      refine ⟨?_, by omega, by omega, by omega⟩
      rw [dg_not]; omega
  have d0 : dg (pk (dot ++ (ex ++ tail)) 0) = false ∧ pk (dot ++ (ex ++ tail)) 0 ≠ 43 ∧ pk (dot ++ (ex ++ tail)) 0 ≠ 45 ∧ (pk (dot ++ (ex ++ tail)) 0 = 46 ↔ pt = true) := by
    cases pt with
    | false => rw [hdot]; exact ⟨x0.1, x0.2.2.1, x0.2.2.2, ⟨fun c => absurd c x0.2.1, fun c => by simp at c⟩⟩
    | true => rw [hdot]; exact ⟨rfl, by show (46 : Int) ≠ 43; omega, by show (46 : Int) ≠ 45; omega, ⟨fun _ => rfl, fun _ => rfl⟩⟩
  obtain ⟨R, hR⟩ : ∃ R, R = dot ++ (ex ++ tail) := ⟨_, rfl⟩
  rw [← hR] at d0 ⊢
  have a0 : ¬ (pk (A ++ R) 0 = 43 ∨ pk (A ++ R) 0 = 45) := by
    rw [pk_or]
    split
    · intro c; rcases c with c | c; exact d0.2.1 c; exact d0.2.2.1 c
    · next c => have := dg_iff.1 (pk_dig hA c); omega
  obtain ⟨s1, s2⟩ := sg_made P (A ++ R) n a0
  rw [← List.append_assoc] at s1 s2
  obtain ⟨xs, hxs⟩ : ∃ xs, xs = P ++ sgT n ++ A ++ R := ⟨_, rfl⟩
  rw [← hxs] at s1 s2 ⊢
  have e1 : p1 xs P.length = (P ++ sgT n).length := by unfold p1; rw [s1, List.length_append]
  have r1 : run dg xs (P ++ sgT n).length = A.length := by rw [hxs]; exact run_app dg0 hA d0.1
  have e2 : p2 xs P.length = (P ++ sgT n ++ A).length := by unfold p2; rw [e1, r1]; exact List.length_append.symm
  have ah : (xs.drop (p1 xs P.length)).take (run dg xs (p1 xs P.length)) = A := by rw [e1, r1, hxs]; exact take_app
  have k2 : pk xs (p2 xs P.length) = pk R 0 := by rw [e2, hxs, pk_at0]
  -- the point
  have pnt : bn xs P.length = (if pt = true then B.length else 0) ∧ p3 xs P.length = (P ++ sgT n ++ A ++ dot).length ∧ (xs.drop (p2 xs P.length + 1)).take (bn xs P.length) = (if pt = true then B else []) := by
    cases pt with
    | false =>
      have c : ¬ pk xs (p2 xs P.length) = 46 := by rw [k2]; intro c; exact absurd (d0.2.2.2.1 c) (by simp)
      refine ⟨by unfold bn; rw [if_neg c]; rfl, by unfold p3; rw [if_neg c, e2, hdot]; simp, ?_⟩
      have : bn xs P.length = 0 := by unfold bn; rw [if_neg c]
      rw [this]; rfl
    | true =>
      have c : pk xs (p2 xs P.length) = 46 := by rw [k2]; exact d0.2.2.2.2 rfl
      have hd : dot = 46 :: B := by rw [hdot]; rfl
      have hx2 : xs = (P ++ sgT n ++ A ++ [46]) ++ B ++ (ex ++ tail) := by rw [hxs, hR, hd]; simp
      have l2 : p2 xs P.length + 1 = (P ++ sgT n ++ A ++ [46]).length := by rw [e2]; simp; omega
      have r2 : run dg xs (p2 xs P.length + 1) = B.length := by rw [l2, hx2]; exact run_app dg0 hB x0.1
      have b2 : bn xs P.length = B.length := by unfold bn; rw [if_pos c, r2]
      refine ⟨b2, ?_, ?_⟩
      · unfold p3; rw [if_pos c, r2, e2, hd]; simp; omega
      · rw [b2, l2, hx2]; exact take_app
  obtain ⟨b1, b2, b3⟩ := pnt
  have hsome : some? xs P.length := by unfold some?; rw [e1, r1, b1]; exact hne
  refine ⟨hsome, ?_⟩
  have ng : decide (pk xs P.length = 45) = decide (n = 2) := decide_eq_decide.2 s2
  have hx3 : xs = (P ++ sgT n ++ A ++ dot) ++ (ex ++ tail) := by rw [hxs, hR]; simp
  have k3 : ∀ i, pk xs (p3 xs P.length + i) = pk (ex ++ tail) i := fun i => by rw [b2, hx3]; exact pk_at _ _ i
  have k30 : pk xs (p3 xs P.length) = pk (ex ++ tail) 0 := k3 0
  cases el with
  | none =>
    have hE : hasE xs (p3 xs P.length) = false := by
      unfold hasE; rw [k30, hex]; show (isE (pk tail 0) && _) = false; rw [ht.2.2.1, Bool.false_and]
    unfold lit
    rw [ah, ng, b3, hE, b2, hex]
    simp [exG, exV]
  | some c =>
    have hc := hel c rfl
    have hex' : ex = c :: (sgT m ++ G) := hex
    obtain ⟨k1, k2'⟩ := hG
    have dp := dg_iff.1 (pk_dig k1 k2')
    have hx4 : xs = (P ++ sgT n ++ A ++ dot ++ [c]) ++ sgT m ++ (G ++ tail) := by rw [hx3, hex']; simp
    have l4 : p3 xs P.length + 1 = (P ++ sgT n ++ A ++ dot ++ [c]).length := by rw [b2]; simp; omega
    obtain ⟨t1, t2⟩ := sg_made (P ++ sgT n ++ A ++ dot ++ [c]) (G ++ tail) m (by rw [pk_or, if_neg k2']; omega)
    rw [← hx4, ← l4] at t1 t2
    have e4 : p4 xs (p3 xs P.length) = (P ++ sgT n ++ A ++ dot ++ [c] ++ sgT m).length := by unfold p4; rw [t1, l4, ← List.length_append]
    have hx5 : xs = (P ++ sgT n ++ A ++ dot ++ [c] ++ sgT m) ++ G ++ tail := by rw [hx4]; simp
    have r4 : run dg xs (p4 xs (p3 xs P.length)) = (G).length := by rw [e4, hx5]; exact run_app dg0 k1 ht.1
    have tk : (xs.drop (p4 xs (p3 xs P.length))).take (run dg xs (p4 xs (p3 xs P.length))) = G := by rw [r4, e4, hx5]; exact take_app
    have hE : hasE xs (p3 xs P.length) = true := by
      unfold hasE
      rw [k30, hex']
      have h1 : isE (pk (c :: (sgT m ++ G) ++ tail) 0) = true := by show isE c = true; simp [isE]; exact hc
      rw [h1, Bool.true_and, e4, hx5, List.append_assoc _ (G), pk_at0, pk_or, if_neg k2']
      exact pk_dig k1 k2'
    unfold lit
    rw [ah, ng, b3, hE, tk, if_pos rfl, if_pos rfl, r4, e4]
    congr 1
    · by_cases hm : m = 2
      · rw [if_pos (t2.2 hm)]; simp [exV, hm]
      · rw [if_neg (fun h => hm (t2.1 h))]; simp [exV, hm]
    · rw [hex']; simp; omega

def gtx (n : Int) (A B : List Int) (pt : Bool) (el : Option Int) (m : Int) (G : List Int) : List Int := sgT n ++ A ++ ((if pt = true then 46 :: B else []) ++ exG el m G)
theorem gtx_head (n : Int) (A B : List Int) (pt : Bool) (el : Option Int) (m : Int) (G : List Int) (tail : List Int) (hA : ∀ x ∈ A, dg x = true) (hne : A.length + (if pt = true then B.length else 0) ≠ 0) : bl (pk (gtx n A B pt el m G ++ tail) 0) = false := by
  rw [bl_not]
  unfold gtx
  by_cases h1 : n = 1
  · subst h1; show ¬ ((43 : Int) = 32 ∨ 9 ≤ (43 : Int) ∧ (43 : Int) ≤ 13); decide
  · by_cases h2 : n = 2
    · subst h2; show ¬ ((45 : Int) = 32 ∨ 9 ≤ (45 : Int) ∧ (45 : Int) ≤ 13); decide
    · have s0 : sgT n = [] := by unfold sgT; rw [if_neg h1, if_neg h2]
      rw [s0]
      cases A with
      | nil =>
        cases pt with
        | false => simp at hne
        | true => show ¬ ((46 : Int) = 32 ∨ 9 ≤ (46 : Int) ∧ (46 : Int) ≤ 13); decide
      | cons x l =>
        have := dg_iff.1 (hA x (by simp))
        show ¬ (x = 32 ∨ 9 ≤ x ∧ x ≤ 13)
        omega

theorem gmade_run (P A B tail : List Int) (n m : Int) (pt : Bool) (el : Option Int) (G : List Int) (hP : ∀ x ∈ P, bl x = true) (hA : ∀ x ∈ A, dg x = true) (hne : A.length + (if pt = true then B.length else 0) ≠ 0) : run bl (P ++ gtx n A B pt el m G ++ tail) 0 = P.length := by
  have := run_app bl0 (as' := []) (bs := P) (cs := gtx n A B pt el m G ++ tail) hP (gtx_head n A B pt el m G tail hA hne)
  rw [List.nil_append, ← List.append_assoc] at this
  exact this

theorem gmade_at (P A B tail : List Int) (n m : Int) (pt : Bool) (el : Option Int) (G : List Int) (hA : ∀ x ∈ A, dg x = true) (hB : ∀ x ∈ B, dg x = true) (hne : A.length + (if pt = true then B.length else 0) ≠ 0)
    (hel : ∀ c, el = some c → c = 101 ∨ c = 69) (hG : (∀ x ∈ G, dg x = true) ∧ G ≠ []) (ht : TailOk tail) : some? (P ++ gtx n A B pt el m G ++ tail) P.length ∧
    (lit (P ++ gtx n A B pt el m G ++ tail) P.length).d = nrm (decide (n = 2)) (A ++ (if pt = true then B else [])) (exV el m (cap G) - ((if pt = true then B else []).length : Int)) ∧
    (lit (P ++ gtx n A B pt el m G ++ tail) P.length).en = (P ++ gtx n A B pt el m G).length := by
  have e : P ++ gtx n A B pt el m G ++ tail = P ++ sgT n ++ A ++ ((if pt = true then 46 :: B else []) ++ (exG el m G ++ tail)) := by unfold gtx; simp only [List.append_assoc]
  obtain ⟨h1, h2⟩ := gmade_lit P A B tail n m pt el G hA hB hne hel hG ht
  rw [e, h2]
  refine ⟨h1, rfl, ?_⟩
  show (P ++ sgT n ++ A ++ ((if pt = true then 46 :: B else []) ++ exG el m G)).length = _
  unfold gtx
  simp only [List.append_assoc]

theorem gmade_num (P A B tail : List Int) (n m : Int) (pt : Bool) (el : Option Int) (G : List Int) (hP : ∀ x ∈ P, bl x = true) (hA : ∀ x ∈ A, dg x = true) (hB : ∀ x ∈ B, dg x = true) (hne : A.length + (if pt = true then B.length else 0) ≠ 0)
    (hel : ∀ c, el = some c → c = 101 ∨ c = 69) (hG : (∀ x ∈ G, dg x = true) ∧ G ≠ []) (ht : TailOk tail) :
    num (P ++ gtx n A B pt el m G ++ tail) = (nrm (decide (n = 2)) (A ++ (if pt = true then B else [])) (exV el m (cap G) - ((if pt = true then B else []).length : Int)), (P ++ gtx n A B pt el m G).length) := by
  obtain ⟨h1, h2, h3⟩ := gmade_at P A B tail n m pt el G hA hB hne hel hG ht
  unfold num
  rw [gmade_run P A B tail n m pt el G hP hA hne, if_pos h1, h2, h3]

theorem gmade_whl (P A B tail : List Int) (n m : Int) (pt : Bool) (el : Option Int) (G : List Int) (hP : ∀ x ∈ P, bl x = true) (hA : ∀ x ∈ A, dg x = true) (hB : ∀ x ∈ B, dg x = true) (hne : A.length + (if pt = true then B.length else 0) ≠ 0)
    (hel : ∀ c, el = some c → c = 101 ∨ c = 69) (hG : (∀ x ∈ G, dg x = true) ∧ G ≠ []) (ht : TailOk tail) (hb : ∀ x ∈ tail, bl x = true) :
    whl (P ++ gtx n A B pt el m G ++ tail) = (nrm (decide (n = 2)) (A ++ (if pt = true then B else [])) (exV el m (cap G) - ((if pt = true then B else []).length : Int)), true) := by
  obtain ⟨h1, h2, h3⟩ := gmade_at P A B tail n m pt el G hA hB hne hel hG ht
  have r : run bl (P ++ gtx n A B pt el m G ++ tail) (P ++ gtx n A B pt el m G).length = tail.length := by
    have := run_app bl0 (as' := P ++ gtx n A B pt el m G) (bs := tail) (cs := []) hb rfl
    rw [List.append_nil] at this
    exact this
  unfold whl
  rw [gmade_run P A B tail n m pt el G hP hA hne, if_pos ⟨h1, by rw [h3, r]; exact List.length_append.symm⟩, h2]

end Sc
end Go.Proofs.YtaoaniigbooihaaGreatDoor

namespace Go.Proofs.YtaoaniigbooihaaGreatDoor
open Go Go.RowKit Go.Deep
namespace Po

/-- How many bytes stand behind the last point; -1 where there is none. -/
def nst (xs : List Int) : Int := xs.foldl (fun n x => if x = 46 then 0 else if 0 ≤ n then n + 1 else n) (-1)
theorem nst_snoc (xs : List Int) (x : Int) : nst (xs ++ [x]) = if x = 46 then 0 else if 0 ≤ nst xs then nst xs + 1 else nst xs := by
  unfold nst
  rw [List.foldl_append, List.foldl_cons, List.foldl_nil]
theorem nst_nil : nst [] = -1 := rfl
theorem nst_take {xs : List Int} {i : Nat} (h : i < xs.length) : nst (xs.take (i + 1)) = if xs.getD i 0 = 46 then 0 else if 0 ≤ nst (xs.take i) then nst (xs.take i) + 1 else nst (xs.take i) := by
  rw [List.take_add_one, ← nst_snoc]
  congr 2
  simp [h]
theorem nst_bd : ∀ (xs : List Int), -1 ≤ nst xs ∧ nst xs ≤ xs.length := by
  intro xs
  obtain ⟨n, hn⟩ : ∃ n, xs.length = n := ⟨_, rfl⟩
  induction n generalizing xs with
  | zero =>
    have : xs = [] := List.length_eq_zero_iff.1 hn
    subst this
    rw [nst_nil]; simp
  | succ n ih =>
    have e := Fx.take_last hn
    have k := ih (xs.take n) (by rw [List.length_take]; omega)
    rw [List.length_take] at k
    rw [e, nst_snoc, List.length_append, List.length_take]
    simp only [List.length_singleton]
    split
    · omega
    · split <;> omega
theorem nst_nodot {xs : List Int} (h : ∀ x ∈ xs, x ≠ 46) : nst xs = -1 := by
  have key : ∀ (l : List Int) (c : Int), c < 0 → (∀ x ∈ l, x ≠ 46) → l.foldl (fun n x => if x = 46 then 0 else if 0 ≤ n then n + 1 else n) c = c := by
    intro l
    induction l with
    | nil => intro c _ _; rfl
    | cons y l ih =>
      intro c hc hl
      rw [List.foldl_cons, if_neg (hl y (by simp)), if_neg (by omega)]
      exact ih c hc (fun x hx => hl x (by simp [hx]))
  exact key xs (-1) (by omega) h
theorem nst_dot {a b : List Int} (hb : ∀ x ∈ b, x ≠ 46) : nst (a ++ 46 :: b) = b.length := by
  have key : ∀ (l : List Int) (c : Int), 0 ≤ c → (∀ x ∈ l, x ≠ 46) → l.foldl (fun n x => if x = 46 then 0 else if 0 ≤ n then n + 1 else n) c = c + l.length := by
    intro l
    induction l with
    | nil => intro c _ _; simp
    | cons y l ih =>
      intro c hc hl
      rw [List.foldl_cons, if_neg (hl y (by simp)), if_pos (by omega), ih (c + 1) (by omega) (fun x hx => hl x (by simp [hx]))]
      simp; omega
  unfold nst
  rw [List.foldl_append, List.foldl_cons, if_pos rfl, key b 0 (by omega) hb]
  omega

/-- What stands ahead of an exponent. -/
def hd (a b : List Int) (h : Bool) : List Int := if b = [] ∧ h = false then a else a ++ 46 :: b
theorem wrt_hd (a b p : List Int) (h : Bool) : wrt a b p h = hd a b h ++ p := by
  unfold wrt hd
  split <;> simp
theorem nst_hd {g a b : List Int} {h : Bool} (hg : ∀ x ∈ g, x ≠ 46) (ha : Digs a) (hb : Digs b) : (if nst (g ++ hd a b h) < 0 then 0 else nst (g ++ hd a b h)) = b.length := by
  unfold hd
  split
  · next c =>
    rw [nst_nodot]
    · rw [c.1]; rfl
    · intro x hx
      rcases List.mem_append.1 hx with q | q
      · exact hg x q
      · have := ha x q; omega
  · rw [← List.append_assoc, nst_dot (fun x hx => by have := hb x hx; omega), if_neg (by omega)]
/-- No letter. -/
def noE (xs : List Int) : Prop := ∀ x ∈ xs, x ≠ 101 ∧ x ≠ 69
theorem noE_hd {g a b : List Int} {h : Bool} (hg : noE g) (ha : Digs a) (hb : Digs b) : noE (g ++ hd a b h) := by
  intro x hx
  rcases List.mem_append.1 hx with q | q
  · exact hg x q
  · unfold hd at q
    split at q
    · have := ha x q; omega
    · rcases List.mem_append.1 q with q | q
      · have := ha x q; omega
      · rcases List.mem_cons.1 q with rfl | q
        · omega
        · have := hb x q; omega

/-- The number behind an exponent's letter. -/
theorem cap_tx {v : Int} (h0 : 0 ≤ v) (h1 : v ≤ 400) : Sc.cap (Fx.tx (if v < 100 then 2 else 3) v) = v := by
  have key : ∀ t : Fin 401, Sc.cap (Fx.tx (if (t.val : Int) < 100 then 2 else 3) (t.val : Int)) = (t.val : Int) := by decide +kernel
  have := key ⟨v.toNat, by omega⟩
  simp only at this
  rw [show ((v.toNat : Nat) : Int) = v by omega] at this
  exact this
theorem digs_dg {xs : List Int} (h : Digs xs) : ∀ x ∈ xs, Sc.dg x = true := fun x hx => Sc.dg_iff.2 (h x hx)
theorem tail_nil : Sc.TailOk [] := ⟨rfl, by decide, rfl, by decide, by decide⟩
theorem tx_ne (v : Int) : Fx.tx (if v < 100 then 2 else 3) v ≠ [] := by
  intro c
  have : (Fx.tx (if v < 100 then 2 else 3) v).length = 0 := by rw [c]; rfl
  rw [Fx.tx_len] at this
  split at this <;> omega
theorem sg_xd (k : Int) : (if k < 0 then (45 : Int) else 43) :: [] = Sc.sgT (if k < 0 then 2 else 1) := by
  unfold Sc.sgT
  split <;> rfl
theorem exG_is {V k : Int} (h0 : -400 ≤ k) (h1 : k ≤ 400) : Sc.exG (some (if cap V = true then 69 else 101)) (if k < 0 then 2 else 1) (Fx.tx (if max k (-k) < 100 then 2 else 3) (max k (-k))) = ex V k := by
  unfold Sc.exG ex
  rw [xd_is h0 h1, ← sg_xd]
  rfl
theorem exV_is {k : Int} (c : Int) (h0 : -400 ≤ k) (h1 : k ≤ 400) : Sc.exV (some c) (if k < 0 then 2 else 1) (Sc.cap (Fx.tx (if max k (-k) < 100 then 2 else 3) (max k (-k)))) = k := by
  rw [cap_tx (by omega) (by omega)]
  unfold Sc.exV
  by_cases h : k < 0
  · simp [h]; omega
  · simp [h]; omega
theorem num_ex {V k : Int} (h0 : -400 ≤ k) (h1 : k ≤ 400) : Sc.num (49 :: ex V k) = (⟨false, [49], k⟩, (ex V k).length + 1) := by
  have q := Sc.gmade_num [] [49] [] [] 0 (if k < 0 then 2 else 1) false (some (if cap V = true then 69 else 101)) (Fx.tx (if max k (-k) < 100 then 2 else 3) (max k (-k))) (by simp) (by simp [Sc.dg]) (by simp) (by simp)
    (fun c hc => by have := Option.some.inj hc; split at this <;> omega) ⟨digs_dg (Fx.tx_digs _ _), tx_ne _⟩ tail_nil
  unfold Sc.gtx at q
  rw [exG_is h0 h1, exV_is _ h0 h1] at q
  have n : Sc.nrm false [49] k = ⟨false, [49], k⟩ := by
    rw [Sc.nrm_pos (by decide)]
    show Sc.D.mk false [49] (k + ((0 : Nat) : Int)) = _
    rw [show k + ((0 : Nat) : Int) = k by omega]
  simp [Sc.sgT] at q
  rw [n] at q
  rw [q]
end Po
end Go.Proofs.YtaoaniigbooihaaGreatDoor

namespace Go.Proofs.YtaoaniigbooihaaGreatDoor
open Go Go.RowKit Go.Deep Go.Shelf

set_option maxRecDepth 100000 in
theorem upLays : Go.Proofs.Lays.n158 Tryz.prog jren where
  mixed := by kernel_rfl
  f118 := Tryz.func140.trans (congrArg some (by kernel_rfl))
  f158 := Tryz.func82.trans (congrArg some (by kernel_rfl))
  f165 := Tryz.func55.trans (congrArg some (by kernel_rfl))
  f166 := Tryz.func56.trans (congrArg some (by kernel_rfl))
  f167 := Tryz.func115.trans (congrArg some (by kernel_rfl))
  f168 := Tryz.func141.trans (congrArg some (by kernel_rfl))
  f169 := Tryz.func57.trans (congrArg some (by kernel_rfl))
  f197 := Tryz.func139.trans (congrArg some (by kernel_rfl))
  f203 := Tryz.func117.trans (congrArg some (by kernel_rfl))
  f230 := Tryz.func116.trans (congrArg some (by kernel_rfl))
  f240 := Tryz.func93.trans (congrArg some (by kernel_rfl))
  f241 := Tryz.func94.trans (congrArg some (by kernel_rfl))
  f242 := Tryz.func165.trans (congrArg some (by kernel_rfl))
  f260 := Tryz.func164.trans (congrArg some (by kernel_rfl))
  f262 := Tryz.func143.trans (congrArg some (by kernel_rfl))
  f270 := Tryz.func142.trans (congrArg some (by kernel_rfl))
  f274 := Tryz.func191.trans (congrArg some (by kernel_rfl))
  f275 := Tryz.func192.trans (congrArg some (by kernel_rfl))
  f276 := Tryz.func121.trans (congrArg some (by kernel_rfl))
  f277 := Tryz.func122.trans (congrArg some (by kernel_rfl))
  f278 := Tryz.func190.trans (congrArg some (by kernel_rfl))
  f313 := Tryz.func166.trans (congrArg some (by kernel_rfl))
  t0 := by kernel_rfl
  a0 := fun _ => by kernel_rfl
  z0 := fun _ => by kernel_rfl
  v0 := fun _ => by kernel_rfl
  t3 := by kernel_rfl
  a3 := fun _ => by kernel_rfl
  z3 := fun _ => by kernel_rfl
  v3 := fun _ => by kernel_rfl
  t4 := by kernel_rfl
  a4 := fun _ => by kernel_rfl
  z4 := fun _ => by kernel_rfl
  v4 := fun _ => by kernel_rfl
  t5 := by kernel_rfl
  a5 := fun _ => by kernel_rfl
  z5 := fun _ => by kernel_rfl
  v5 := fun _ => by kernel_rfl
  t9 := by kernel_rfl
  a9 := fun _ => by kernel_rfl
  z9 := fun _ => by kernel_rfl
  v9 := fun _ => by kernel_rfl
  t20 := by kernel_rfl
  a20 := fun _ => by kernel_rfl
  z20 := fun _ => by kernel_rfl
  v20 := fun _ => by kernel_rfl
  t21 := by kernel_rfl
  a21 := fun _ => by kernel_rfl
  z21 := fun _ => by kernel_rfl
  v21 := fun _ => by kernel_rfl
  t37 := by kernel_rfl
  a37 := fun _ => by kernel_rfl
  z37 := fun _ => by kernel_rfl
  v37 := fun _ => by kernel_rfl
  t46 := by kernel_rfl
  a46 := fun _ => by kernel_rfl
  z46 := fun _ => by kernel_rfl
  v46 := fun _ => by kernel_rfl
  t51 := by kernel_rfl
  a51 := fun _ => by kernel_rfl
  z51 := fun _ => by kernel_rfl
  v51 := fun _ => by kernel_rfl
  t70 := by kernel_rfl
  a70 := fun _ => by kernel_rfl
  z70 := fun _ => by kernel_rfl
  v70 := fun _ => by kernel_rfl
  t72 := by kernel_rfl
  a72 := fun _ => by kernel_rfl
  z72 := fun _ => by kernel_rfl
  v72 := fun _ => by kernel_rfl
  t75 := by kernel_rfl
  a75 := fun _ => by kernel_rfl
  z75 := fun _ => by kernel_rfl
  v75 := fun _ => by kernel_rfl
  t76 := by kernel_rfl
  a76 := fun _ => by kernel_rfl
  z76 := fun _ => by kernel_rfl
  v76 := fun _ => by kernel_rfl
  t105 := by kernel_rfl
  a105 := fun _ => by kernel_rfl
  z105 := fun _ => by kernel_rfl
  v105 := fun _ => by kernel_rfl
  t107 := by kernel_rfl
  a107 := fun _ => by kernel_rfl
  z107 := fun _ => by kernel_rfl
  v107 := fun _ => by kernel_rfl
  t119 := by kernel_rfl
  a119 := fun _ => by kernel_rfl
  z119 := fun _ => by kernel_rfl
  t127 := by kernel_rfl
  a127 := fun _ => by kernel_rfl
  z127 := fun _ => by kernel_rfl
  v127 := fun _ => by kernel_rfl
  t138 := by kernel_rfl
  a138 := fun _ => by kernel_rfl
  z138 := fun _ => by kernel_rfl
  v138 := fun _ => by kernel_rfl
  t139 := by kernel_rfl
  a139 := fun _ => by kernel_rfl
  z139 := fun _ => by kernel_rfl
  v139 := fun _ => by kernel_rfl
  t160 := by kernel_rfl
  a160 := fun _ => by kernel_rfl
  z160 := fun _ => by kernel_rfl
  v160 := fun _ => by kernel_rfl
  t162 := by kernel_rfl
  a162 := fun _ => by kernel_rfl
  z162 := fun _ => by kernel_rfl
  v162 := fun _ => by kernel_rfl
  t164 := by kernel_rfl
  a164 := fun _ => by kernel_rfl
  z164 := fun _ => by kernel_rfl
  v164 := fun _ => by kernel_rfl
  t203 := by kernel_rfl
  a203 := fun _ => by kernel_rfl
  z203 := fun _ => by kernel_rfl
  v203 := fun _ => by kernel_rfl
  t206 := by kernel_rfl
  a206 := fun _ => by kernel_rfl
  z206 := fun _ => by kernel_rfl
  v206 := fun _ => by kernel_rfl
  t208 := by kernel_rfl
  a208 := fun _ => by kernel_rfl
  z208 := fun _ => by kernel_rfl
  v208 := fun _ => by kernel_rfl
  g3 := by kernel_rfl
  g4 := by kernel_rfl
  g13 := by kernel_rfl
end Go.Proofs.YtaoaniigbooihaaGreatDoor
