/-
  Texts put together: VDl, VMade, VMade2, PoMade, PoPlN, VTrimR, VClone, VDec, VOwn, VDig, VWalk1, VRead0, VRead, VNumb, PoPl, PoPads, PoDig, FTab, PoCase, OpenSpc.
-/
import Derived.Test.YtaoaniigbooihaaGreatDoorVOrd
import Derived.Lib.ItoaNum
import Derived.Test.YtaoaniigbooihaaGreatDoorRH
import Derived.Test.YtaoaniigbooihaaGreatDoorRD
import Derived.Test.YtaoaniigbooihaaGreatDoorVStr
import Derived.Shelf.Pu.Clone
import Derived.Test.YtaoaniigbooihaaGreatDoorVNum2
import Derived.Laws.ResultCell
import Derived.BigRegion
import Derived.Deep.Cut
import Derived.Deep.RegionHeld3
import Derived.BigQuiet
import Derived.Test.YtaoaniigbooihaaGreatDoorNMem
import Derived.Test.YtaoaniigbooihaaGreatDoorRF
import Derived.Deep.DeepCutAuto
import Derived.Test.YtaoaniigbooihaaGreatDoorRC
import Derived.Lib.LaidTab
import Derived.Test.YtaoaniigbooihaaGreatDoorRows
import Derived.Lib.LaidCaseMet
import Derived.Deep.DeepWitnessRowRef
import Derived.Test.YtaoaniigbooihaaGreatDoorRE
import Derived.SizedLaws
import Derived.ProofKit
namespace Go.Proofs.YtaoaniigbooihaaGreatDoor
namespace Sc

/-- A number's digits, as bytes. -/
def dl (u : Nat) : List Int := (Lib.decDigits u).map fun b => (b.toNat : Int)
theorem dl_small {u : Nat} (h : u < 10) : dl u = [48 + (u : Int)] := by
  unfold dl
  rw [Lib.decDigits_one h]
  simp only [List.map_cons, List.map_nil]
  rw [UInt8.toNat_ofNat_of_lt' (by show 48 + u < 256; omega)]
  simp
theorem dl_big {u : Nat} (h : ¬ u < 10) : dl u = dl (u / 10) ++ [48 + ((u % 10 : Nat) : Int)] := by
  unfold dl
  rw [Lib.decDigits, dif_neg h, List.map_append]
  simp only [List.map_cons, List.map_nil]
  rw [UInt8.toNat_ofNat_of_lt' (by show 48 + u % 10 < 256; omega)]
  simp
theorem dl_is (u : Nat) : (∀ x ∈ dl u, dg x = true) ∧ dl u ≠ [] ∧ cap (dl u) = min (u : Int) 1000000000000000 := by
  induction u using Nat.strongRecOn with
  | _ u ih =>
    by_cases h : u < 10
    · rw [dl_small h]
      refine ⟨fun x hx => ?_, by simp, ?_⟩
      · rw [List.mem_singleton] at hx; subst hx; rw [dg_iff]; omega
      · have := cap_snoc [] (48 + (u : Int))
        rw [List.nil_append, cap_nil] at this
        rw [this]; omega
    · obtain ⟨h1, h2, h3⟩ := ih (u / 10) (by omega)
      rw [dl_big h]
      refine ⟨fun x hx => ?_, by simp, ?_⟩
      · rw [List.mem_append, List.mem_singleton] at hx
        rcases hx with hx | hx
        · exact h1 x hx
        · subst hx; rw [dg_iff]; omega
      · rw [cap_snoc, h3]; omega

theorem run_app {p : Int → Bool} (hp : p 0 = false) {as' bs cs : List Int} (h1 : ∀ x ∈ bs, p x = true) (h2 : p (pk cs 0) = false) : run p (as' ++ bs ++ cs) as'.length = bs.length := by
  apply run_is hp
  · intro j hj
    rw [pk_append, if_pos (by simp; omega), pk_append, if_neg (by omega), show as'.length + j - as'.length = j by omega]
    apply h1
    simp [pk, List.getD, hj]
  · rw [pk_append, if_neg (by simp), show as'.length + bs.length - (as' ++ bs).length = 0 by simp]
    exact h2
theorem take_app {as' bs cs : List Int} : ((as' ++ bs ++ cs).drop as'.length).take bs.length = bs := by
  rw [List.append_assoc, List.drop_left, List.take_left]

/-- Digits that are there, all digits. -/
def Dig (ds : List Int) : Prop := ds ≠ [] ∧ ∀ x ∈ ds, dg x = true
theorem Dig.pk0 {ds : List Int} (h : Dig ds) : dg (pk ds 0) = true := by
  obtain ⟨h1, h2⟩ := h
  cases ds with
  | nil => exact absurd rfl h1
  | cons x l => exact h2 x (by simp)

end Sc
end Go.Proofs.YtaoaniigbooihaaGreatDoor

namespace Go.Proofs.YtaoaniigbooihaaGreatDoor
namespace Sc

def sgT (n : Int) : List Int := if n = 1 then [43] else if n = 2 then [45] else []
theorem pk_at (U V : List Int) (i : Nat) : pk (U ++ V) (U.length + i) = pk V i := by rw [pk_append, if_neg (by omega), Nat.add_sub_cancel_left]
theorem pk_at0 (U V : List Int) : pk (U ++ V) U.length = pk V 0 := pk_at U V 0
theorem pk_or (A B : List Int) : pk (A ++ B) 0 = if A = [] then pk B 0 else pk A 0 := by
  cases A with
  | nil => rfl
  | cons x l => rfl
theorem pk_dig {A : List Int} (h : ∀ x ∈ A, dg x = true) (h0 : A ≠ []) : dg (pk A 0) = true := Dig.pk0 ⟨h0, h⟩

/-- The sign at the head. -/
theorem sg_made (P V : List Int) (n : Int) (h : ¬ (pk V 0 = 43 ∨ pk V 0 = 45)) : sg (P ++ sgT n ++ V) P.length = (sgT n).length ∧ (pk (P ++ sgT n ++ V) P.length = 45 ↔ n = 2) := by
  rw [List.append_assoc]
  unfold sg
  rw [pk_at0]
  unfold sgT
  by_cases h1 : n = 1
  · subst h1
    exact ⟨rfl, ⟨fun c => by have : (43 : Int) = 45 := c; omega, fun c => by omega⟩⟩
  · rw [if_neg h1]
    by_cases h2 : n = 2
    · subst h2
      exact ⟨rfl, ⟨fun _ => rfl, fun _ => rfl⟩⟩
    · rw [if_neg h2, List.nil_append, if_neg h]
      exact ⟨rfl, ⟨fun c => absurd (.inr c) h, fun c => absurd c h2⟩⟩

/-- The exponent's part, and its worth. -/
def exL (el : Option Int) (m : Int) (E : Nat) : List Int := match el with | some c => c :: (sgT m ++ dl E) | none => []
def exS (el : Option Int) (m : Int) (E : Nat) : Int := match el with | some _ => if m = 2 then - min (E : Int) 1000000000000000 else min (E : Int) 1000000000000000 | none => 0

/-- The parts of a literal behind P, and what follows. -/
theorem made_lit (P A B tail : List Int) (n m : Int) (pt : Bool) (el : Option Int) (E : Nat) (hA : ∀ x ∈ A, dg x = true) (hB : ∀ x ∈ B, dg x = true) (hne : A.length + (if pt = true then B.length else 0) ≠ 0)
    (hel : ∀ c, el = some c → c = 101 ∨ c = 69) (ht : dg (pk tail 0) = false ∧ pk tail 0 ≠ 46 ∧ isE (pk tail 0) = false ∧ pk tail 0 ≠ 43 ∧ pk tail 0 ≠ 45) :
    some? (P ++ sgT n ++ A ++ ((if pt = true then 46 :: B else []) ++ (exL el m E ++ tail))) P.length ∧
    lit (P ++ sgT n ++ A ++ ((if pt = true then 46 :: B else []) ++ (exL el m E ++ tail))) P.length =
      ⟨decide (n = 2), A, if pt = true then B else [], exS el m E,
        (P ++ sgT n ++ A ++ ((if pt = true then 46 :: B else []) ++ exL el m E)).length⟩ := by
  obtain ⟨ex, hex⟩ : ∃ ex : List Int, ex = exL el m E := ⟨_, rfl⟩
  obtain ⟨dot, hdot⟩ : ∃ dot : List Int, dot = (if pt = true then 46 :: B else []) := ⟨_, rfl⟩
  rw [← hex, ← hdot]
  -- the first byte of the exponent's part and what follows
  have x0 : dg (pk (ex ++ tail) 0) = false ∧ pk (ex ++ tail) 0 ≠ 46 ∧ pk (ex ++ tail) 0 ≠ 43 ∧ pk (ex ++ tail) 0 ≠ 45 := by
    cases el with
    | none => rw [hex]; exact ⟨ht.1, ht.2.1, ht.2.2.2.1, ht.2.2.2.2⟩
    | some c =>
      rw [hex]
      have := hel c rfl
      show dg c = false ∧ c ≠ 46 ∧ c ≠ 43 ∧ c ≠ 45
      refine ⟨?_, by omega, by omega, by omega⟩
      rw [dg_not]; omega
  have d0 : dg (pk (dot ++ (ex ++ tail)) 0) = false ∧ pk (dot ++ (ex ++ tail)) 0 ≠ 43 ∧ pk (dot ++ (ex ++ tail)) 0 ≠ 45 ∧ (pk (dot ++ (ex ++ tail)) 0 = 46 ↔ pt = true) := by
    cases pt with
    | false => rw [hdot]; exact ⟨x0.1, x0.2.2.1, x0.2.2.2, ⟨fun c => absurd c x0.2.1, fun c => by simp at c⟩⟩
    | true => rw [hdot]; exact ⟨rfl, by show (46 : Int) ≠ 43; omega, by show (46 : Int) ≠ 45; omega, ⟨fun _ => rfl, fun _ => rfl⟩⟩
  obtain ⟨R, hR⟩ : ∃ R, R = dot ++ (ex ++ tail) := ⟨_, rfl⟩
  rw [← hR] at d0 ⊢
  have a0 : ¬ (pk (A ++ R) 0 = 43 ∨ pk (A ++ R) 0 = 45) := by
    rw [pk_or]
    split
    · intro c; rcases c with c | c; exact d0.2.1 c; exact d0.2.2.1 c
    · next c => have := dg_iff.1 (pk_dig hA c); omega
  obtain ⟨s1, s2⟩ := sg_made P (A ++ R) n a0
  rw [← List.append_assoc] at s1 s2
  obtain ⟨xs, hxs⟩ : ∃ xs, xs = P ++ sgT n ++ A ++ R := ⟨_, rfl⟩
  rw [← hxs] at s1 s2 ⊢
  have e1 : p1 xs P.length = (P ++ sgT n).length := by unfold p1; rw [s1, List.length_append]
  have r1 : run dg xs (P ++ sgT n).length = A.length := by rw [hxs]; exact run_app dg0 hA d0.1
  have e2 : p2 xs P.length = (P ++ sgT n ++ A).length := by unfold p2; rw [e1, r1]; exact List.length_append.symm
  have ah : (xs.drop (p1 xs P.length)).take (run dg xs (p1 xs P.length)) = A := by rw [e1, r1, hxs]; exact take_app
  have k2 : pk xs (p2 xs P.length) = pk R 0 := by rw [e2, hxs, pk_at0]
  -- the point
  have pnt : bn xs P.length = (if pt = true then B.length else 0) ∧ p3 xs P.length = (P ++ sgT n ++ A ++ dot).length ∧ (xs.drop (p2 xs P.length + 1)).take (bn xs P.length) = (if pt = true then B else []) := by
    cases pt with
    | false =>
      have c : ¬ pk xs (p2 xs P.length) = 46 := by rw [k2]; intro c; exact absurd (d0.2.2.2.1 c) (by simp)
      refine ⟨by unfold bn; rw [if_neg c]; rfl, by unfold p3; rw [if_neg c, e2, hdot]; simp, ?_⟩
      have : bn xs P.length = 0 := by unfold bn; rw [if_neg c]
      rw [this]; rfl
    | true =>
      have c : pk xs (p2 xs P.length) = 46 := by rw [k2]; exact d0.2.2.2.2 rfl
      have hd : dot = 46 :: B := by rw [hdot]; rfl
      have hx2 : xs = (P ++ sgT n ++ A ++ [46]) ++ B ++ (ex ++ tail) := by rw [hxs, hR, hd]; simp
      have l2 : p2 xs P.length + 1 = (P ++ sgT n ++ A ++ [46]).length := by rw [e2]; simp; omega
      have r2 : run dg xs (p2 xs P.length + 1) = B.length := by rw [l2, hx2]; exact run_app dg0 hB x0.1
      have b2 : bn xs P.length = B.length := by unfold bn; rw [if_pos c, r2]
      refine ⟨b2, ?_, ?_⟩
      · unfold p3; rw [if_pos c, r2, e2, hd]; simp; omega
      · rw [b2, l2, hx2]; exact take_app
  obtain ⟨b1, b2, b3⟩ := pnt
  have hsome : some? xs P.length := by unfold some?; rw [e1, r1, b1]; exact hne
  refine ⟨hsome, ?_⟩
  have ng : decide (pk xs P.length = 45) = decide (n = 2) := decide_eq_decide.2 s2
  have hx3 : xs = (P ++ sgT n ++ A ++ dot) ++ (ex ++ tail) := by rw [hxs, hR]; simp
  have k3 : ∀ i, pk xs (p3 xs P.length + i) = pk (ex ++ tail) i := fun i => by rw [b2, hx3]; exact pk_at _ _ i
  have k30 : pk xs (p3 xs P.length) = pk (ex ++ tail) 0 := k3 0
  cases el with
  | none =>
    have hE : hasE xs (p3 xs P.length) = false := by
      unfold hasE; rw [k30, hex]; show (isE (pk tail 0) && _) = false; rw [ht.2.2.1, Bool.false_and]
    unfold lit
    rw [ah, ng, b3, hE, b2, hex]
    simp [exL, exS]
  | some c =>
    have hc := hel c rfl
    have hex' : ex = c :: (sgT m ++ dl E) := hex
    obtain ⟨k1, k2', k3'⟩ := dl_is E
    have dp := dg_iff.1 (pk_dig k1 k2')
    have hx4 : xs = (P ++ sgT n ++ A ++ dot ++ [c]) ++ sgT m ++ (dl E ++ tail) := by rw [hx3, hex']; simp
    have l4 : p3 xs P.length + 1 = (P ++ sgT n ++ A ++ dot ++ [c]).length := by rw [b2]; simp; omega
    obtain ⟨t1, t2⟩ := sg_made (P ++ sgT n ++ A ++ dot ++ [c]) (dl E ++ tail) m (by rw [pk_or, if_neg k2']; omega)
    rw [← hx4, ← l4] at t1 t2
    have e4 : p4 xs (p3 xs P.length) = (P ++ sgT n ++ A ++ dot ++ [c] ++ sgT m).length := by unfold p4; rw [t1, l4, ← List.length_append]
    have hx5 : xs = (P ++ sgT n ++ A ++ dot ++ [c] ++ sgT m) ++ dl E ++ tail := by rw [hx4]; simp
    have r4 : run dg xs (p4 xs (p3 xs P.length)) = (dl E).length := by rw [e4, hx5]; exact run_app dg0 k1 ht.1
    have tk : (xs.drop (p4 xs (p3 xs P.length))).take (run dg xs (p4 xs (p3 xs P.length))) = dl E := by rw [r4, e4, hx5]; exact take_app
    have hE : hasE xs (p3 xs P.length) = true := by
      unfold hasE
      rw [k30, hex']
      have h1 : isE (pk (c :: (sgT m ++ dl E) ++ tail) 0) = true := by show isE c = true; simp [isE]; exact hc
      rw [h1, Bool.true_and, e4, hx5, List.append_assoc _ (dl E), pk_at0, pk_or, if_neg k2']
      exact pk_dig k1 k2'
    unfold lit
    rw [ah, ng, b3, hE, tk, k3', if_pos rfl, if_pos rfl, r4, e4]
    congr 1
    · by_cases hm : m = 2
      · rw [if_pos (t2.2 hm)]; simp [exS, hm]
      · rw [if_neg (fun h => hm (t2.1 h))]; simp [exS, hm]
    · rw [hex']; simp; omega
end Sc
end Go.Proofs.YtaoaniigbooihaaGreatDoor

namespace Go.Proofs.YtaoaniigbooihaaGreatDoor
namespace Sc

/-- The literal's own text. -/
def mtx (n : Int) (A B : List Int) (pt : Bool) (el : Option Int) (m : Int) (E : Nat) : List Int := sgT n ++ A ++ ((if pt = true then 46 :: B else []) ++ exL el m E)
def TailOk (tail : List Int) : Prop := dg (pk tail 0) = false ∧ pk tail 0 ≠ 46 ∧ isE (pk tail 0) = false ∧ pk tail 0 ≠ 43 ∧ pk tail 0 ≠ 45

theorem mtx_head (n : Int) (A B : List Int) (pt : Bool) (el : Option Int) (m : Int) (E : Nat) (tail : List Int) (hA : ∀ x ∈ A, dg x = true) (hne : A.length + (if pt = true then B.length else 0) ≠ 0) : bl (pk (mtx n A B pt el m E ++ tail) 0) = false := by
  rw [bl_not]
  unfold mtx
  by_cases h1 : n = 1
  · subst h1; show ¬ ((43 : Int) = 32 ∨ 9 ≤ (43 : Int) ∧ (43 : Int) ≤ 13); decide
  · by_cases h2 : n = 2
    · subst h2; show ¬ ((45 : Int) = 32 ∨ 9 ≤ (45 : Int) ∧ (45 : Int) ≤ 13); decide
    · have s0 : sgT n = [] := by unfold sgT; rw [if_neg h1, if_neg h2]
      rw [s0]
      cases A with
      | nil =>
        cases pt with
        | false => simp at hne
        | true => show ¬ ((46 : Int) = 32 ∨ 9 ≤ (46 : Int) ∧ (46 : Int) ≤ 13); decide
      | cons x l =>
        have := dg_iff.1 (hA x (by simp))
        show ¬ (x = 32 ∨ 9 ≤ x ∧ x ≤ 13)
        omega

theorem made_run (P A B tail : List Int) (n m : Int) (pt : Bool) (el : Option Int) (E : Nat) (hP : ∀ x ∈ P, bl x = true) (hA : ∀ x ∈ A, dg x = true) (hne : A.length + (if pt = true then B.length else 0) ≠ 0) : run bl (P ++ mtx n A B pt el m E ++ tail) 0 = P.length := by
  have := run_app bl0 (as' := []) (bs := P) (cs := mtx n A B pt el m E ++ tail) hP (mtx_head n A B pt el m E tail hA hne)
  rw [List.nil_append, ← List.append_assoc] at this
  exact this

theorem made_at (P A B tail : List Int) (n m : Int) (pt : Bool) (el : Option Int) (E : Nat) (hA : ∀ x ∈ A, dg x = true) (hB : ∀ x ∈ B, dg x = true) (hne : A.length + (if pt = true then B.length else 0) ≠ 0)
    (hel : ∀ c, el = some c → c = 101 ∨ c = 69) (ht : TailOk tail) : some? (P ++ mtx n A B pt el m E ++ tail) P.length ∧
    (lit (P ++ mtx n A B pt el m E ++ tail) P.length).d = nrm (decide (n = 2)) (A ++ (if pt = true then B else [])) (exS el m E - ((if pt = true then B else []).length : Int)) ∧
    (lit (P ++ mtx n A B pt el m E ++ tail) P.length).en = (P ++ mtx n A B pt el m E).length := by
  have e : P ++ mtx n A B pt el m E ++ tail = P ++ sgT n ++ A ++ ((if pt = true then 46 :: B else []) ++ (exL el m E ++ tail)) := by unfold mtx; simp only [List.append_assoc]
  obtain ⟨h1, h2⟩ := made_lit P A B tail n m pt el E hA hB hne hel ht
  rw [e, h2]
  refine ⟨h1, rfl, ?_⟩
  show (P ++ sgT n ++ A ++ ((if pt = true then 46 :: B else []) ++ exL el m E)).length = _
  unfold mtx
  simp only [List.append_assoc]

theorem made_ab (P A B tail : List Int) (n m : Int) (pt : Bool) (el : Option Int) (E : Nat) (hA : ∀ x ∈ A, dg x = true) (hB : ∀ x ∈ B, dg x = true) (hne : A.length + (if pt = true then B.length else 0) ≠ 0)
    (hel : ∀ c, el = some c → c = 101 ∨ c = 69) (ht : TailOk tail) : (lit (P ++ mtx n A B pt el m E ++ tail) P.length).ah.length + (lit (P ++ mtx n A B pt el m E ++ tail) P.length).bh.length ≤ A.length + B.length := by
  have e : P ++ mtx n A B pt el m E ++ tail = P ++ sgT n ++ A ++ ((if pt = true then 46 :: B else []) ++ (exL el m E ++ tail)) := by unfold mtx; simp only [List.append_assoc]
  obtain ⟨h1, h2⟩ := made_lit P A B tail n m pt el E hA hB hne hel ht
  rw [e, h2]
  show A.length + (if pt = true then B else []).length ≤ _
  split <;> simp

theorem mtx_len (n : Int) (A B : List Int) (pt : Bool) (el : Option Int) (m : Int) (E : Nat) (hd : (dl E).length ≤ 20) : (mtx n A B pt el m E).length ≤ A.length + B.length + 30 := by
  have h1 : ∀ k : Int, (sgT k).length ≤ 1 := fun k => by unfold sgT; split; (simp); split <;> simp
  have h2 : (exL el m E).length ≤ 22 := by
    have := h1 m
    cases el with
    | none => simp [exL]
    | some c => simp [exL]; omega
  have h3 : (if pt = true then 46 :: B else [] : List Int).length ≤ B.length + 1 := by split <;> simp
  have := h1 n
  unfold mtx
  simp only [List.length_append]
  omega

theorem made_num (P A B tail : List Int) (n m : Int) (pt : Bool) (el : Option Int) (E : Nat) (hP : ∀ x ∈ P, bl x = true) (hA : ∀ x ∈ A, dg x = true) (hB : ∀ x ∈ B, dg x = true) (hne : A.length + (if pt = true then B.length else 0) ≠ 0)
    (hel : ∀ c, el = some c → c = 101 ∨ c = 69) (ht : TailOk tail) :
    num (P ++ mtx n A B pt el m E ++ tail) = (nrm (decide (n = 2)) (A ++ (if pt = true then B else [])) (exS el m E - ((if pt = true then B else []).length : Int)), (P ++ mtx n A B pt el m E).length) := by
  obtain ⟨h1, h2, h3⟩ := made_at P A B tail n m pt el E hA hB hne hel ht
  unfold num
  rw [made_run P A B tail n m pt el E hP hA hne, if_pos h1, h2, h3]

theorem made_whl (P A B tail : List Int) (n m : Int) (pt : Bool) (el : Option Int) (E : Nat) (hP : ∀ x ∈ P, bl x = true) (hA : ∀ x ∈ A, dg x = true) (hB : ∀ x ∈ B, dg x = true) (hne : A.length + (if pt = true then B.length else 0) ≠ 0)
    (hel : ∀ c, el = some c → c = 101 ∨ c = 69) (ht : TailOk tail) (hb : ∀ x ∈ tail, bl x = true) :
    whl (P ++ mtx n A B pt el m E ++ tail) = (nrm (decide (n = 2)) (A ++ (if pt = true then B else [])) (exS el m E - ((if pt = true then B else []).length : Int)), true) := by
  obtain ⟨h1, h2, h3⟩ := made_at P A B tail n m pt el E hA hB hne hel ht
  have r : run bl (P ++ mtx n A B pt el m E ++ tail) (P ++ mtx n A B pt el m E).length = tail.length := by
    have := run_app bl0 (as' := P ++ mtx n A B pt el m E) (bs := tail) (cs := []) hb rfl
    rw [List.append_nil] at this
    exact this
  unfold whl
  rw [made_run P A B tail n m pt el E hP hA hne, if_pos ⟨h1, by rw [h3, r]; exact List.length_append.symm⟩, h2]

/-- A row of blanks may follow. -/
theorem TailOk.blanks {P : List Int} (h : ∀ x ∈ P, bl x = true) : TailOk P := by
  cases P with
  | nil => exact ⟨rfl, by decide, rfl, by decide, by decide⟩
  | cons x l =>
    have hx : bl x = true := h x (by simp)
    have : x = 32 ∨ (9 ≤ x ∧ x ≤ 13) := by simpa [bl] using hx
    refine ⟨?_, ?_, ?_, ?_, ?_⟩
    · show dg x = false; rw [dg_not]; omega
    · show x ≠ 46; omega
    · show isE x = false; simp [isE]; omega
    · show x ≠ 43; omega
    · show x ≠ 45; omega

/-- What built hands to Norm is a Dec. -/
theorem made_dec (A F : List Int) (e : Int) (hA : ∀ x ∈ A, dg x = true) (hF : ∀ x ∈ F, dg x = true) (h0 : A.length + F.length ≠ 0) (hl : A.length + F.length ≤ 281474976710655) (e0 : -1000000000000000 ≤ e) (e1 : e ≤ 1000000000000000) : IsDec (A ++ F) (e - (F.length : Int)) := by
  refine ⟨fun c => h0 (by rw [← List.length_append, c]; rfl), by omega, by omega, fun x hx => ?_, fun _ => ?_⟩
  · rcases List.mem_append.1 hx with h | h
    · exact hA x h
    · exact hF x h
  · have := tz_le (A ++ F)
    rw [List.length_append] at this
    omega
end Sc
end Go.Proofs.YtaoaniigbooihaaGreatDoor

namespace Go.Proofs.YtaoaniigbooihaaGreatDoor
namespace Sc

def exG (el : Option Int) (m : Int) (G : List Int) : List Int := match el with | some c => c :: (sgT m ++ G) | none => []
def exV (el : Option Int) (m c : Int) : Int := match el with | some _ => if m = 2 then - c else c | none => 0

/-- The parts of a literal behind P, and what follows. -/
theorem gmade_lit (P A B tail : List Int) (n m : Int) (pt : Bool) (el : Option Int) (G : List Int) (hA : ∀ x ∈ A, dg x = true) (hB : ∀ x ∈ B, dg x = true) (hne : A.length + (if pt = true then B.length else 0) ≠ 0)
    (hel : ∀ c, el = some c → c = 101 ∨ c = 69) (hG : (∀ x ∈ G, dg x = true) ∧ G ≠ []) (ht : dg (pk tail 0) = false ∧ pk tail 0 ≠ 46 ∧ isE (pk tail 0) = false ∧ pk tail 0 ≠ 43 ∧ pk tail 0 ≠ 45) :
    some? (P ++ sgT n ++ A ++ ((if pt = true then 46 :: B else []) ++ (exG el m G ++ tail))) P.length ∧
    lit (P ++ sgT n ++ A ++ ((if pt = true then 46 :: B else []) ++ (exG el m G ++ tail))) P.length =
      ⟨decide (n = 2), A, if pt = true then B else [], exV el m (cap G),
        (P ++ sgT n ++ A ++ ((if pt = true then 46 :: B else []) ++ exG el m G)).length⟩ := by
  obtain ⟨ex, hex⟩ : ∃ ex : List Int, ex = exG el m G := ⟨_, rfl⟩
  obtain ⟨dot, hdot⟩ : ∃ dot : List Int, dot = (if pt = true then 46 :: B else []) := ⟨_, rfl⟩
  rw [← hex, ← hdot]
  -- the first byte of the exponent's part and what follows
  have x0 : dg (pk (ex ++ tail) 0) = false ∧ pk (ex ++ tail) 0 ≠ 46 ∧ pk (ex ++ tail) 0 ≠ 43 ∧ pk (ex ++ tail) 0 ≠ 45 := by
    cases el with
    | none => rw [hex]; exact ⟨ht.1, ht.2.1, ht.2.2.2.1, ht.2.2.2.2⟩
    | some c =>
      rw [hex]
      have := hel c rfl
      show dg c = false ∧ c ≠ 46 ∧ c ≠ 43 ∧ c ≠ 45
      refine ⟨?_, by omega, by omega, by omega⟩
      rw [dg_not]; omega
  have d0 : dg (pk (dot ++ (ex ++ tail)) 0) = false ∧ pk (dot ++ (ex ++ tail)) 0 ≠ 43 ∧ pk (dot ++ (ex ++ tail)) 0 ≠ 45 ∧ (pk (dot ++ (ex ++ tail)) 0 = 46 ↔ pt = true) := by
    cases pt with
    | false => rw [hdot]; exact ⟨x0.1, x0.2.2.1, x0.2.2.2, ⟨fun c => absurd c x0.2.1, fun c => by simp at c⟩⟩
    | true => rw [hdot]; exact ⟨rfl, by show (46 : Int) ≠ 43; omega, by show (46 : Int) ≠ 45; omega, ⟨fun _ => rfl, fun _ => rfl⟩⟩
  obtain ⟨R, hR⟩ : ∃ R, R = dot ++ (ex ++ tail) := ⟨_, rfl⟩
  rw [← hR] at d0 ⊢
  have a0 : ¬ (pk (A ++ R) 0 = 43 ∨ pk (A ++ R) 0 = 45) := by
    rw [pk_or]
    split
    · intro c; rcases c with c | c; exact d0.2.1 c; exact d0.2.2.1 c
    · next c => have := dg_iff.1 (pk_dig hA c); omega
  obtain ⟨s1, s2⟩ := sg_made P (A ++ R) n a0
  rw [← List.append_assoc] at s1 s2
  obtain ⟨xs, hxs⟩ : ∃ xs, xs = P ++ sgT n ++ A ++ R := ⟨_, rfl⟩
  rw [← hxs] at s1 s2 ⊢
  have e1 : p1 xs P.length = (P ++ sgT n).length := by unfold p1; rw [s1, List.length_append]
  have r1 : run dg xs (P ++ sgT n).length = A.length := by rw [hxs]; exact run_app dg0 hA d0.1
  have e2 : p2 xs P.length = (P ++ sgT n ++ A).length := by unfold p2; rw [e1, r1]; exact List.length_append.symm
  have ah : (xs.drop (p1 xs P.length)).take (run dg xs (p1 xs P.length)) = A := by rw [e1, r1, hxs]; exact take_app
  have k2 : pk xs (p2 xs P.length) = pk R 0 := by rw [e2, hxs, pk_at0]
  -- the point
  have pnt : bn xs P.length = (if pt = true then B.length else 0) ∧ p3 xs P.length = (P ++ sgT n ++ A ++ dot).length ∧ (xs.drop (p2 xs P.length + 1)).take (bn xs P.length) = (if pt = true then B else []) := by
    cases pt with
    | false =>
      have c : ¬ pk xs (p2 xs P.length) = 46 := by rw [k2]; intro c; exact absurd (d0.2.2.2.1 c) (by simp)
      refine ⟨by unfold bn; rw [if_neg c]; rfl, by unfold p3; rw [if_neg c, e2, hdot]; simp, ?_⟩
      have : bn xs P.length = 0 := by unfold bn; rw [if_neg c]
      rw [this]; rfl
    | true =>
      have c : pk xs (p2 xs P.length) = 46 := by rw [k2]; exact d0.2.2.2.2 rfl
      have hd : dot = 46 :: B := by rw [hdot]; rfl
      have hx2 : xs = (P ++ sgT n ++ A ++ [46]) ++ B ++ (ex ++ tail) := by rw [hxs, hR, hd]; simp
      have l2 : p2 xs P.length + 1 = (P ++ sgT n ++ A ++ [46]).length := by rw [e2]; simp; omega
      have r2 : run dg xs (p2 xs P.length + 1) = B.length := by rw [l2, hx2]; exact run_app dg0 hB x0.1
      have b2 : bn xs P.length = B.length := by unfold bn; rw [if_pos c, r2]
      refine ⟨b2, ?_, ?_⟩
      · unfold p3; rw [if_pos c, r2, e2, hd]; simp; omega
      · rw [b2, l2, hx2]; exact take_app
  obtain ⟨b1, b2, b3⟩ := pnt
  have hsome : some? xs P.length := by unfold some?; rw [e1, r1, b1]; exact hne
  refine ⟨hsome, ?_⟩
  have ng : decide (pk xs P.length = 45) = decide (n = 2) := decide_eq_decide.2 s2
  have hx3 : xs = (P ++ sgT n ++ A ++ dot) ++ (ex ++ tail) := by rw [hxs, hR]; simp
  have k3 : ∀ i, pk xs (p3 xs P.length + i) = pk (ex ++ tail) i := fun i => by rw [b2, hx3]; exact pk_at _ _ i
  have k30 : pk xs (p3 xs P.length) = pk (ex ++ tail) 0 := k3 0
  cases el with
  | none =>
    have hE : hasE xs (p3 xs P.length) = false := by
      unfold hasE; rw [k30, hex]; show (isE (pk tail 0) && _) = false; rw [ht.2.2.1, Bool.false_and]
    unfold lit
    rw [ah, ng, b3, hE, b2, hex]
    simp [exG, exV]
  | some c =>
    have hc := hel c rfl
    have hex' : ex = c :: (sgT m ++ G) := hex
    obtain ⟨k1, k2'⟩ := hG
    have dp := dg_iff.1 (pk_dig k1 k2')
    have hx4 : xs = (P ++ sgT n ++ A ++ dot ++ [c]) ++ sgT m ++ (G ++ tail) := by rw [hx3, hex']; simp
    have l4 : p3 xs P.length + 1 = (P ++ sgT n ++ A ++ dot ++ [c]).length := by rw [b2]; simp; omega
    obtain ⟨t1, t2⟩ := sg_made (P ++ sgT n ++ A ++ dot ++ [c]) (G ++ tail) m (by rw [pk_or, if_neg k2']; omega)
    rw [← hx4, ← l4] at t1 t2
    have e4 : p4 xs (p3 xs P.length) = (P ++ sgT n ++ A ++ dot ++ [c] ++ sgT m).length := by unfold p4; rw [t1, l4, ← List.length_append]
    have hx5 : xs = (P ++ sgT n ++ A ++ dot ++ [c] ++ sgT m) ++ G ++ tail := by rw [hx4]; simp
    have r4 : run dg xs (p4 xs (p3 xs P.length)) = (G).length := by rw [e4, hx5]; exact run_app dg0 k1 ht.1
    have tk : (xs.drop (p4 xs (p3 xs P.length))).take (run dg xs (p4 xs (p3 xs P.length))) = G := by rw [r4, e4, hx5]; exact take_app
    have hE : hasE xs (p3 xs P.length) = true := by
      unfold hasE
      rw [k30, hex']
      have h1 : isE (pk (c :: (sgT m ++ G) ++ tail) 0) = true := by show isE c = true; simp [isE]; exact hc
      rw [h1, Bool.true_and, e4, hx5, List.append_assoc _ (G), pk_at0, pk_or, if_neg k2']
      exact pk_dig k1 k2'
    unfold lit
    rw [ah, ng, b3, hE, tk, if_pos rfl, if_pos rfl, r4, e4]
    congr 1
    · by_cases hm : m = 2
      · rw [if_pos (t2.2 hm)]; simp [exV, hm]
      · rw [if_neg (fun h => hm (t2.1 h))]; simp [exV, hm]
    · rw [hex']; simp; omega

def gtx (n : Int) (A B : List Int) (pt : Bool) (el : Option Int) (m : Int) (G : List Int) : List Int := sgT n ++ A ++ ((if pt = true then 46 :: B else []) ++ exG el m G)
theorem gtx_head (n : Int) (A B : List Int) (pt : Bool) (el : Option Int) (m : Int) (G : List Int) (tail : List Int) (hA : ∀ x ∈ A, dg x = true) (hne : A.length + (if pt = true then B.length else 0) ≠ 0) : bl (pk (gtx n A B pt el m G ++ tail) 0) = false := by
  rw [bl_not]
  unfold gtx
  by_cases h1 : n = 1
  · subst h1; show ¬ ((43 : Int) = 32 ∨ 9 ≤ (43 : Int) ∧ (43 : Int) ≤ 13); decide
  · by_cases h2 : n = 2
    · subst h2; show ¬ ((45 : Int) = 32 ∨ 9 ≤ (45 : Int) ∧ (45 : Int) ≤ 13); decide
    · have s0 : sgT n = [] := by unfold sgT; rw [if_neg h1, if_neg h2]
      rw [s0]
      cases A with
      | nil =>
        cases pt with
        | false => simp at hne
        | true => show ¬ ((46 : Int) = 32 ∨ 9 ≤ (46 : Int) ∧ (46 : Int) ≤ 13); decide
      | cons x l =>
        have := dg_iff.1 (hA x (by simp))
        show ¬ (x = 32 ∨ 9 ≤ x ∧ x ≤ 13)
        omega

theorem gmade_run (P A B tail : List Int) (n m : Int) (pt : Bool) (el : Option Int) (G : List Int) (hP : ∀ x ∈ P, bl x = true) (hA : ∀ x ∈ A, dg x = true) (hne : A.length + (if pt = true then B.length else 0) ≠ 0) : run bl (P ++ gtx n A B pt el m G ++ tail) 0 = P.length := by
  have := run_app bl0 (as' := []) (bs := P) (cs := gtx n A B pt el m G ++ tail) hP (gtx_head n A B pt el m G tail hA hne)
  rw [List.nil_append, ← List.append_assoc] at this
  exact this

theorem gmade_at (P A B tail : List Int) (n m : Int) (pt : Bool) (el : Option Int) (G : List Int) (hA : ∀ x ∈ A, dg x = true) (hB : ∀ x ∈ B, dg x = true) (hne : A.length + (if pt = true then B.length else 0) ≠ 0)
    (hel : ∀ c, el = some c → c = 101 ∨ c = 69) (hG : (∀ x ∈ G, dg x = true) ∧ G ≠ []) (ht : TailOk tail) : some? (P ++ gtx n A B pt el m G ++ tail) P.length ∧
    (lit (P ++ gtx n A B pt el m G ++ tail) P.length).d = nrm (decide (n = 2)) (A ++ (if pt = true then B else [])) (exV el m (cap G) - ((if pt = true then B else []).length : Int)) ∧
    (lit (P ++ gtx n A B pt el m G ++ tail) P.length).en = (P ++ gtx n A B pt el m G).length := by
  have e : P ++ gtx n A B pt el m G ++ tail = P ++ sgT n ++ A ++ ((if pt = true then 46 :: B else []) ++ (exG el m G ++ tail)) := by unfold gtx; simp only [List.append_assoc]
  obtain ⟨h1, h2⟩ := gmade_lit P A B tail n m pt el G hA hB hne hel hG ht
  rw [e, h2]
  refine ⟨h1, rfl, ?_⟩
  show (P ++ sgT n ++ A ++ ((if pt = true then 46 :: B else []) ++ exG el m G)).length = _
  unfold gtx
  simp only [List.append_assoc]

theorem gmade_num (P A B tail : List Int) (n m : Int) (pt : Bool) (el : Option Int) (G : List Int) (hP : ∀ x ∈ P, bl x = true) (hA : ∀ x ∈ A, dg x = true) (hB : ∀ x ∈ B, dg x = true) (hne : A.length + (if pt = true then B.length else 0) ≠ 0)
    (hel : ∀ c, el = some c → c = 101 ∨ c = 69) (hG : (∀ x ∈ G, dg x = true) ∧ G ≠ []) (ht : TailOk tail) :
    num (P ++ gtx n A B pt el m G ++ tail) = (nrm (decide (n = 2)) (A ++ (if pt = true then B else [])) (exV el m (cap G) - ((if pt = true then B else []).length : Int)), (P ++ gtx n A B pt el m G).length) := by
  obtain ⟨h1, h2, h3⟩ := gmade_at P A B tail n m pt el G hA hB hne hel hG ht
  unfold num
  rw [gmade_run P A B tail n m pt el G hP hA hne, if_pos h1, h2, h3]

theorem gmade_whl (P A B tail : List Int) (n m : Int) (pt : Bool) (el : Option Int) (G : List Int) (hP : ∀ x ∈ P, bl x = true) (hA : ∀ x ∈ A, dg x = true) (hB : ∀ x ∈ B, dg x = true) (hne : A.length + (if pt = true then B.length else 0) ≠ 0)
    (hel : ∀ c, el = some c → c = 101 ∨ c = 69) (hG : (∀ x ∈ G, dg x = true) ∧ G ≠ []) (ht : TailOk tail) (hb : ∀ x ∈ tail, bl x = true) :
    whl (P ++ gtx n A B pt el m G ++ tail) = (nrm (decide (n = 2)) (A ++ (if pt = true then B else [])) (exV el m (cap G) - ((if pt = true then B else []).length : Int)), true) := by
  obtain ⟨h1, h2, h3⟩ := gmade_at P A B tail n m pt el G hA hB hne hel hG ht
  have r : run bl (P ++ gtx n A B pt el m G ++ tail) (P ++ gtx n A B pt el m G).length = tail.length := by
    have := run_app bl0 (as' := P ++ gtx n A B pt el m G) (bs := tail) (cs := []) hb rfl
    rw [List.append_nil] at this
    exact this
  unfold whl
  rw [gmade_run P A B tail n m pt el G hP hA hne, if_pos ⟨h1, by rw [h3, r]; exact List.length_append.symm⟩, h2]

end Sc
end Go.Proofs.YtaoaniigbooihaaGreatDoor

namespace Go.Proofs.YtaoaniigbooihaaGreatDoor
open Go Go.RowKit Go.Deep
namespace Po

/-- How many bytes stand behind the last point; -1 where there is none. -/
def nst (xs : List Int) : Int := xs.foldl (fun n x => if x = 46 then 0 else if 0 ≤ n then n + 1 else n) (-1)
theorem nst_snoc (xs : List Int) (x : Int) : nst (xs ++ [x]) = if x = 46 then 0 else if 0 ≤ nst xs then nst xs + 1 else nst xs := by
  unfold nst
  rw [List.foldl_append, List.foldl_cons, List.foldl_nil]
theorem nst_nil : nst [] = -1 := rfl
theorem nst_take {xs : List Int} {i : Nat} (h : i < xs.length) : nst (xs.take (i + 1)) = if xs.getD i 0 = 46 then 0 else if 0 ≤ nst (xs.take i) then nst (xs.take i) + 1 else nst (xs.take i) := by
  rw [List.take_add_one, ← nst_snoc]
  congr 2
  simp [h]
theorem nst_bd : ∀ (xs : List Int), -1 ≤ nst xs ∧ nst xs ≤ xs.length := by
  intro xs
  obtain ⟨n, hn⟩ : ∃ n, xs.length = n := ⟨_, rfl⟩
  induction n generalizing xs with
  | zero =>
    have : xs = [] := List.length_eq_zero_iff.1 hn
    subst this
    rw [nst_nil]; simp
  | succ n ih =>
    have e := Fx.take_last hn
    have k := ih (xs.take n) (by rw [List.length_take]; omega)
    rw [List.length_take] at k
    rw [e, nst_snoc, List.length_append, List.length_take]
    simp only [List.length_singleton]
    split
    · omega
    · split <;> omega
theorem nst_nodot {xs : List Int} (h : ∀ x ∈ xs, x ≠ 46) : nst xs = -1 := by
  have key : ∀ (l : List Int) (c : Int), c < 0 → (∀ x ∈ l, x ≠ 46) → l.foldl (fun n x => if x = 46 then 0 else if 0 ≤ n then n + 1 else n) c = c := by
    intro l
    induction l with
    | nil => intro c _ _; rfl
    | cons y l ih =>
      intro c hc hl
      rw [List.foldl_cons, if_neg (hl y (by simp)), if_neg (by omega)]
      exact ih c hc (fun x hx => hl x (by simp [hx]))
  exact key xs (-1) (by omega) h
theorem nst_dot {a b : List Int} (hb : ∀ x ∈ b, x ≠ 46) : nst (a ++ 46 :: b) = b.length := by
  have key : ∀ (l : List Int) (c : Int), 0 ≤ c → (∀ x ∈ l, x ≠ 46) → l.foldl (fun n x => if x = 46 then 0 else if 0 ≤ n then n + 1 else n) c = c + l.length := by
    intro l
    induction l with
    | nil => intro c _ _; simp
    | cons y l ih =>
      intro c hc hl
      rw [List.foldl_cons, if_neg (hl y (by simp)), if_pos (by omega), ih (c + 1) (by omega) (fun x hx => hl x (by simp [hx]))]
      simp; omega
  unfold nst
  rw [List.foldl_append, List.foldl_cons, if_pos rfl, key b 0 (by omega) hb]
  omega

/-- What stands ahead of an exponent. -/
def hd (a b : List Int) (h : Bool) : List Int := if b = [] ∧ h = false then a else a ++ 46 :: b
theorem wrt_hd (a b p : List Int) (h : Bool) : wrt a b p h = hd a b h ++ p := by
  unfold wrt hd
  split <;> simp
theorem nst_hd {g a b : List Int} {h : Bool} (hg : ∀ x ∈ g, x ≠ 46) (ha : Digs a) (hb : Digs b) : (if nst (g ++ hd a b h) < 0 then 0 else nst (g ++ hd a b h)) = b.length := by
  unfold hd
  split
  · next c =>
    rw [nst_nodot]
    · rw [c.1]; rfl
    · intro x hx
      rcases List.mem_append.1 hx with q | q
      · exact hg x q
      · have := ha x q; omega
  · rw [← List.append_assoc, nst_dot (fun x hx => by have := hb x hx; omega), if_neg (by omega)]
/-- No letter. -/
def noE (xs : List Int) : Prop := ∀ x ∈ xs, x ≠ 101 ∧ x ≠ 69
theorem noE_hd {g a b : List Int} {h : Bool} (hg : noE g) (ha : Digs a) (hb : Digs b) : noE (g ++ hd a b h) := by
  intro x hx
  rcases List.mem_append.1 hx with q | q
  · exact hg x q
  · unfold hd at q
    split at q
    · have := ha x q; omega
    · rcases List.mem_append.1 q with q | q
      · have := ha x q; omega
      · rcases List.mem_cons.1 q with rfl | q
        · omega
        · have := hb x q; omega

/-- The number behind an exponent's letter. -/
theorem cap_tx {v : Int} (h0 : 0 ≤ v) (h1 : v ≤ 400) : Sc.cap (Fx.tx (if v < 100 then 2 else 3) v) = v := by
  have key : ∀ t : Fin 401, Sc.cap (Fx.tx (if (t.val : Int) < 100 then 2 else 3) (t.val : Int)) = (t.val : Int) := by decide +kernel
  have := key ⟨v.toNat, by omega⟩
  simp only at this
  rw [show ((v.toNat : Nat) : Int) = v by omega] at this
  exact this
theorem digs_dg {xs : List Int} (h : Digs xs) : ∀ x ∈ xs, Sc.dg x = true := fun x hx => Sc.dg_iff.2 (h x hx)
theorem tail_nil : Sc.TailOk [] := ⟨rfl, by decide, rfl, by decide, by decide⟩
theorem tx_ne (v : Int) : Fx.tx (if v < 100 then 2 else 3) v ≠ [] := by
  intro c
  have : (Fx.tx (if v < 100 then 2 else 3) v).length = 0 := by rw [c]; rfl
  rw [Fx.tx_len] at this
  split at this <;> omega
theorem sg_xd (k : Int) : (if k < 0 then (45 : Int) else 43) :: [] = Sc.sgT (if k < 0 then 2 else 1) := by
  unfold Sc.sgT
  split <;> rfl
theorem exG_is {V k : Int} (h0 : -400 ≤ k) (h1 : k ≤ 400) : Sc.exG (some (if cap V = true then 69 else 101)) (if k < 0 then 2 else 1) (Fx.tx (if max k (-k) < 100 then 2 else 3) (max k (-k))) = ex V k := by
  unfold Sc.exG ex
  rw [xd_is h0 h1, ← sg_xd]
  rfl
theorem exV_is {k : Int} (c : Int) (h0 : -400 ≤ k) (h1 : k ≤ 400) : Sc.exV (some c) (if k < 0 then 2 else 1) (Sc.cap (Fx.tx (if max k (-k) < 100 then 2 else 3) (max k (-k)))) = k := by
  rw [cap_tx (by omega) (by omega)]
  unfold Sc.exV
  by_cases h : k < 0
  · simp [h]; omega
  · simp [h]; omega
theorem num_ex {V k : Int} (h0 : -400 ≤ k) (h1 : k ≤ 400) : Sc.num (49 :: ex V k) = (⟨false, [49], k⟩, (ex V k).length + 1) := by
  have q := Sc.gmade_num [] [49] [] [] 0 (if k < 0 then 2 else 1) false (some (if cap V = true then 69 else 101)) (Fx.tx (if max k (-k) < 100 then 2 else 3) (max k (-k))) (by simp) (by simp [Sc.dg]) (by simp) (by simp)
    (fun c hc => by have := Option.some.inj hc; split at this <;> omega) ⟨digs_dg (Fx.tx_digs _ _), tx_ne _⟩ tail_nil
  unfold Sc.gtx at q
  rw [exG_is h0 h1, exV_is _ h0 h1] at q
  have n : Sc.nrm false [49] k = ⟨false, [49], k⟩ := by
    rw [Sc.nrm_pos (by decide)]
    show Sc.D.mk false [49] (k + ((0 : Nat) : Int)) = _
    rw [show k + ((0 : Nat) : Int) = k by omega]
  simp [Sc.sgT] at q
  rw [n] at q
  rw [q]
end Po
end Go.Proofs.YtaoaniigbooihaaGreatDoor

namespace Go.Proofs.YtaoaniigbooihaaGreatDoor
open Go.RowKit Go.Deep

/-- s' is s without some zeros at its end, and ends with none. -/
def VTail (xs : List Int) (e : Ending) : Prop := ∃ s' k, e = .returned (.string s') ∧ Str s' (xs.take k) ∧ k ≤ xs.length ∧ (∀ i, k ≤ i → i < xs.length → xs.getD i 0 = 48) ∧ (0 < k → xs.getD (k - 1) 0 ≠ 48)

set_option maxRecDepth 100000 in
set_option maxHeartbeats 1000000 in
theorem vrtrim_any (s : ByteArray) (xs : List Int) (w : World) (hs : Str s xs) (hn1 : xs.length ≤ 562949953421312) :
    Calls Tryz.prog 97 #[.string s, .int .u8 48] w fun e w' => VTail xs e ∧ w' = w := by
  have HS := hid hs
  have HN := hid hn1
  clear hs hn1
  go_enter Tryz.func97, Tryz.ntmps97
  go_wp2_with fail
  go_loop [0] (fun c => ∃ s' m, c = .string s' ∧ Hid (Str s' (xs.take m) ∧ m ≤ xs.length ∧ s'.size = m ∧ (∀ i, m ≤ i → i < xs.length → xs.getD i 0 = 48))) (fun c => match c with | .string s' => s'.size | _ => 0)
  case atStart => exact ⟨s, xs.length, rfl, by rw [List.take_length]; exact HS.out, Nat.le_refl _, HS.out.size, fun i h1 h2 => by omega⟩
  case round =>
    obtain ⟨s', m, rfl, I⟩ := hrel
    have hsz : s'.size = m := I.out.2.2.1
    have hmb : (m : Int) ≤ 562949953421312 := by have := HN.out; have := I.out.2.1; omega
    by_cases h0 : m = 0
    · subst h0
      have F : Hid (VTail xs (.returned (.string s'))) := ⟨s', 0, rfl, I.out.1, Nat.zero_le _, I.out.2.2.2, fun h => by omega⟩
      clear I
      go_wp2_with fail
      go_ret
      exact ⟨F.out, rfl⟩
    · obtain ⟨u, hu⟩ : ∃ u, m = u + 1 := ⟨m - 1, by omega⟩
      have hmi : (0 : Int) < (m : Int) := by omega
      have hmu : (m : Int) - 1 = (u : Int) := by omega
      have hum : (u : Int) < (m : Int) := by omega
      obtain ⟨x, X⟩ : ∃ x, Hid (xs.getD u 0 = x) := ⟨_, rfl⟩
      have hx : ∀ h : u < s'.size, ((s'[u]'h).toNat : Int) = x := fun h => by
        rw [I.out.1.at u h, ← X.out]
        simp [List.getD, show u < m by omega]
      have HU := hid hu
      by_cases hd : x = 48
      · subst hd
        have F : Hid (Str (s'.extract 0 u) (xs.take u) ∧ u ≤ xs.length ∧ (s'.extract 0 u).size = u ∧ (∀ i, u ≤ i → i < xs.length → xs.getD i 0 = 48)) := by
          have e := I.out.1.extract 0 u
          rw [List.drop_zero, Nat.sub_zero, List.take_take, show min u m = u by omega] at e
          refine ⟨e, by have := I.out.2.1; omega, by rw [e.size]; have := I.out.2.1; simp; omega, fun i h1 h2 => ?_⟩
          by_cases c : i = u
          · subst c; exact X.out
          · exact I.out.2.2.2 i (by omega) h2
        have SZ : Hid ((s'.extract 0 u).size < s'.size) := by show _ < _; rw [F.out.2.2.1, hsz]; omega
        clear I hu h0
        go_wp2_with fail
        go_round
        case rel => exact ⟨_, _, rfl, F.out⟩
        case measure => exact SZ.out
      · have hd2 : (x == 48) = false := by rw [beq_eq_false_iff_ne]; exact hd
        have F : Hid (VTail xs (.returned (.string s'))) := ⟨s', m, rfl, I.out.1, I.out.2.1, I.out.2.2.2, fun _ => by rw [show m - 1 = u by omega, X.out]; exact hd⟩
        clear I hu h0
        go_wp2_with fail
        go_ret
        exact ⟨F.out, rfl⟩


set_option maxRecDepth 100000 in
theorem vrtrim0_any (s : ByteArray) (xs : List Int) (w : World) (hs : Str s xs) (hn1 : xs.length ≤ 562949953421312) :
    Calls Tryz.prog 63 #[.string s, .string ⟨#[48]⟩] w fun e w' => VTail xs e ∧ w' = w := by
  have T := hid (vrtrim_any s xs w hs hn1)
  by_cases h : xs = []
  · have F : Hid (VTail xs (.returned (.string s))) := ⟨s, 0, rfl, by rw [h] at hs ⊢; exact hs, Nat.zero_le _, fun i _ hi => by rw [h] at hi; simp at hi, fun hlt => by omega⟩
    have hs0 : s = ⟨#[]⟩ := hs.inj (by rw [h]; rfl)
    subst hs0
    clear hs hn1 h
    go_enter Tryz.func63, Tryz.ntmps63
    go_wp2_with fail
    go_ret
    exact ⟨F.out, rfl⟩
  · have e1 : s.toList ≠ [] := by
      intro c
      apply h
      rw [ByteArray.toList_eq] at c
      rw [← hs, c]
      rfl
    have e2 : (s.toList == []) = false := by rw [beq_eq_false_iff_ne]; exact e1
    have e3 : s.toList.isEmpty = false := by rw [List.isEmpty_eq_false_iff]; exact e1
    clear hs hn1 h
    go_enter Tryz.func63, Tryz.ntmps63
    go_wp2_with fail
    refine T.out.mono ?_
    rintro e w' ⟨h1, rfl⟩
    obtain ⟨s', j, rfl, h2⟩ := h1
    have F : Hid (VTail xs (.returned (.string s'))) := ⟨s', j, rfl, h2⟩
    clear h2 T
    go_wp2_with fail
    go_ret
    exact ⟨F.out, rfl⟩
end Go.Proofs.YtaoaniigbooihaaGreatDoor

namespace Go.Proofs.YtaoaniigbooihaaGreatDoor
open Go.RowKit Go.Deep Go.Shelf

def vcloneRen : Go.Shelf.Ren := ⟨fun _ => 127, fun t => if t = 37 then 47 else if t = 47 then 130 else if t = 5 then 5 else if t = 9 then 9 else if t = 3 then 3 else t, fun g => g⟩
theorem vcloneLays : LaysPu.n25 Tryz.prog vcloneRen where
  mixed := by kernel_rfl
  f25 := by kernel_rfl
  t0 := by kernel_rfl
  a0 := fun _ => by kernel_rfl
  z0 := fun _ => by kernel_rfl
  v0 := fun _ => by kernel_rfl
  i0 := by kernel_rfl
  t3 := by kernel_rfl
  a3 := fun _ => by kernel_rfl
  z3 := fun _ => by kernel_rfl
  v3 := fun _ => by kernel_rfl
  i3 := by kernel_rfl
  t4 := by kernel_rfl
  a4 := fun _ => by kernel_rfl
  z4 := fun _ => by kernel_rfl
  v4 := fun _ => by kernel_rfl
  i4 := by kernel_rfl
  t5 := by kernel_rfl
  a5 := fun _ => by kernel_rfl
  z5 := fun _ => by kernel_rfl
  v5 := fun _ => by kernel_rfl
  i5 := by kernel_rfl
  t9 := by kernel_rfl
  a9 := fun _ => by kernel_rfl
  z9 := fun _ => by kernel_rfl
  v9 := fun _ => by kernel_rfl
  i9 := by kernel_rfl
  t37 := by kernel_rfl
  a37 := fun _ => by kernel_rfl
  z37 := fun _ => by kernel_rfl
  v37 := fun _ => by kernel_rfl
  i37 := by kernel_rfl
  t47 := by kernel_rfl
  a47 := fun _ => by kernel_rfl
  z47 := fun _ => by kernel_rfl
  v47 := fun _ => by kernel_rfl
  i47 := by kernel_rfl

theorem vclone_any (s : ByteArray) (w : World) (hs : s.size ≤ 281474976710656) : Calls Tryz.prog 101 #[.string s] w fun e w' => e = .returned (.string s) ∧ Below w.heap.size w w' := by
  have C : Hid (Calls Tryz.prog 127 #[.string s] w fun e w' => e = .returned (.string s) ∧ Below w.heap.size w w') := AnyPu.stringslite_Clone vcloneLays s w (by omega)
  go_enter Tryz.func101, Tryz.ntmps101
  go_wp2_with fail
  refine C.out.mono ?_
  rintro e w1 ⟨rfl, d1⟩
  have D := hid d1
  clear d1
  go_wp2_with fail
  go_ret
  exact ⟨rfl, D.out⟩
end Go.Proofs.YtaoaniigbooihaaGreatDoor

namespace Go.Proofs.YtaoaniigbooihaaGreatDoor
open Go Go.RowKit Go.Deep

def decV (neg : Bool) (s : ByteArray) (e : Int) : Value := .agg #[.bool neg, .string s, .int .i64 e]
/-- A value is this Dec. -/
def DecIs (v : Value) (d : Sc.D) : Prop := ∃ s, v = decV d.neg s d.e ∧ Str s d.ds

/-- Three cells that may be written. -/
def Row3 (w : World) (b : Nat) (v0 v1 v2 : Value) : Prop := w.heap[b]? = some (.cells #[v0, v1, v2] 39 (0, 0))
theorem Row3.new (w : World) (v0 v1 v2 : Value) : Row3 (w.alloc (.cells #[v0, v1, v2] 39)) w.heap.size v0 v1 v2 := heap_alloc_new w _
theorem Row3.below {B : Nat} {w w' : World} {b : Nat} {v0 v1 v2 : Value} (h : Row3 w b v0 v1 v2) (hB : Below B w w') (hb : b < B) : Row3 w' b v0 v1 v2 := by
  rw [Row3, hB.block b hb]; exact h
theorem Row3.lt {w : World} {b : Nat} {v0 v1 v2 : Value} (h : Row3 w b v0 v1 v2) : b < w.heap.size := by
  rcases Nat.lt_or_ge b w.heap.size with hl | hl
  · exact hl
  · simp [Row3, Array.getElem?_eq_none hl] at h
theorem Row3.cells {w : World} {b : Nat} {v0 v1 v2 : Value} (h : Row3 w b v0 v1 v2) :
    (w.cell? ⟨b, 0, none⟩ = some v0 ∧ w.cell? ⟨b, 1, none⟩ = some v1 ∧ w.cell? ⟨b, 2, none⟩ = some v2) ∧
    (w.frozen? ⟨b, 0, none⟩ = false ∧ w.frozen? ⟨b, 1, none⟩ = false ∧ w.frozen? ⟨b, 2, none⟩ = false) := by
  simp only [Row3] at h
  refine ⟨⟨?_, ?_, ?_⟩, ⟨?_, ?_, ?_⟩⟩ <;> simp [World.cell?, World.frozen?, h]
theorem Row3.put {w : World} {b : Nat} {v0 v1 v2 : Value} (h : Row3 w b v0 v1 v2) (u0 u1 u2 : Value) :
    Row3 (((w.setCell ⟨b, 0, none⟩ u0).setCell ⟨b, 1, none⟩ u1).setCell ⟨b, 2, none⟩ u2) b u0 u1 u2 := by
  have h0 := set1 (o := 0) (v := u0) (c' := #[u0, v1, v2]) h (by simp [Array.setIfInBounds])
  have h1 := set1 (o := 1) (v := u1) (c' := #[u0, u1, v2]) h0 (by simp [Array.setIfInBounds])
  exact set1 (o := 2) (v := u2) (c' := #[u0, u1, u2]) h1 (by simp [Array.setIfInBounds])
theorem Row3.far {w : World} {b c o : Nat} {v v0 v1 v2 : Value} (h : Row3 w b v0 v1 v2) (hc : c ≠ b) : Row3 (w.setCell ⟨c, o, none⟩ v) b v0 v1 v2 := by
  simp only [Row3] at *
  simp only [World.setCell, Array.getElem?_modify]
  rw [if_neg hc]; exact h
theorem set3_below {B : Nat} {w w' : World} {b : Nat} {u0 u1 u2 : Value} (h : Below B w w') (hb : B ≤ b) : Below B w (((w'.setCell ⟨b, 0, none⟩ u0).setCell ⟨b, 1, none⟩ u1).setCell ⟨b, 2, none⟩ u2) :=
  ((h.setCell (p := ⟨b, 0, none⟩) hb u0).setCell (p := ⟨b, 1, none⟩) hb u1).setCell (p := ⟨b, 2, none⟩) hb u2

/-- Two boxes for Decs, new. -/
def Two3 (w w' : World) (v0 v1 v2 u0 u1 u2 : Value) : Prop := Below w.heap.size w w' ∧ Row3 w' w.heap.size v0 v1 v2 ∧ Row3 w' (w.heap.size + 1) u0 u1 u2
theorem Two3.new (w : World) (v0 v1 v2 u0 u1 u2 : Value) : Two3 w ((w.alloc (.cells #[v0, v1, v2] 39)).alloc (.cells #[u0, u1, u2] 39)) v0 v1 v2 u0 u1 u2 :=
  ⟨below_on (alloc_b _ _) (alloc_b _ _), heap_alloc2_old _ _ _, heap_alloc2_new _ _ _⟩
theorem Two3.on {w w' w'' : World} {v0 v1 v2 u0 u1 u2 : Value} (h : Two3 w w' v0 v1 v2 u0 u1 u2) (k : Below w'.heap.size w' w'') : Two3 w w'' v0 v1 v2 u0 u1 u2 :=
  ⟨below_on h.1 k, h.2.1.below k h.2.1.lt, h.2.2.below k h.2.2.lt⟩
theorem Two3.putB {w w' : World} {v0 v1 v2 u0 u1 u2 : Value} (h : Two3 w w' v0 v1 v2 u0 u1 u2) (x0 x1 x2 : Value) : Two3 w (((w'.setCell ⟨w.heap.size + 1, 0, none⟩ x0).setCell ⟨w.heap.size + 1, 1, none⟩ x1).setCell ⟨w.heap.size + 1, 2, none⟩ x2) v0 v1 v2 x0 x1 x2 :=
  ⟨set3_below h.1 (Nat.le_succ _), ((h.2.1.far (by omega)).far (by omega)).far (by omega), h.2.2.put _ _ _⟩
theorem Two3.putA {w w' : World} {v0 v1 v2 u0 u1 u2 : Value} (h : Two3 w w' v0 v1 v2 u0 u1 u2) (x0 x1 x2 : Value) : Two3 w (((w'.setCell ⟨w.heap.size, 0, none⟩ x0).setCell ⟨w.heap.size, 1, none⟩ x1).setCell ⟨w.heap.size, 2, none⟩ x2) x0 x1 x2 u0 u1 u2 :=
  ⟨set3_below h.1 (Nat.le_refl _), h.2.1.put _ _ _, ((h.2.2.far (by omega)).far (by omega)).far (by omega)⟩

theorem str_zero : Str ⟨#[48]⟩ [48] := rfl

theorem dec_ret {v : Value} {d : Sc.D} {w w' : World} (h : DecIs v d) (b : Below w.heap.size w w') : ∃ v', Ending.returned v = .returned v' ∧ DecIs v' d ∧ Below w.heap.size w w' := ⟨v, rfl, h, b⟩

set_option maxRecDepth 100000 in
set_option maxHeartbeats 1000000 in
theorem dtrim_any (neg : Bool) (s : ByteArray) (xs : List Int) (e : Int) (w : World) (hs : Str s xs) (hn : xs.length ≤ 281474976710656) (e0 : -4611686018427387904 ≤ e) (e1 : e ≤ 4611686018427387904) :
    Calls Tryz.prog 70 #[decV neg s e] w fun r w' => ∃ v, r = .returned v ∧ DecIs v (Sc.nrm neg xs e) ∧ Below w.heap.size w w' := by
  have L := hid (fun wx => strim_any s xs wx hs (by omega))
  have HN := hid hn
  clear hs hn
  unfold decV
  go_enter Tryz.func70, Tryz.ntmps70
  go_wp2_with fail
  refine (L.out _).mono ?_
  rintro r w1 ⟨⟨s1, j, rfl, ⟨b1, b2, b3⟩, b4⟩, rfl⟩
  by_cases h : j = xs.length
  · have hs1 : s1 = ⟨#[]⟩ := b1.inj (by rw [List.drop_of_length_le (by omega)]; rfl)
    have F : Hid (Sc.nrm neg xs e = ⟨neg, [48], 0⟩) := Sc.nrm_of_none (fun i hi => b3 i (by omega))
    subst hs1
    clear b1 b2 b3 b4
    go_wp2_with fail
    (try simp only [Exit.inBlock, Exit.then])
    refine bodyPost_ret (results_cell_row rfl _ _ (w.heap.size + 1) 39 _ (0, 0) _ rfl (Two3.new w _ _ _ _ _ _).2.2 Tryz.underlying39 rfl (by kernel_rfl)) rfl ?_
    exact dec_ret (by rw [F.out]; exact ⟨_, rfl, str_zero⟩) (Two3.new w _ _ _ _ _ _).1
  · have hlt : j < xs.length := by omega
    have hne := b4 hlt
    have R := hid (fun wx => vrtrim0_any s1 (xs.drop j) wx b1 (by have := HN.out; simp; omega))
    have hsz : s1.size = xs.length - j := by have := b1.size; simpa using this
    have q1 : s1.toList ≠ [] := by
      intro c
      have : s1.size = 0 := by
        rw [ByteArray.toList_eq] at c
        have := congrArg List.length c
        rw [Array.length_toList] at this
        exact this
      omega
    have q2 : (s1.toList == []) = false := by rw [beq_eq_false_iff_ne]; exact q1
    have q3 : s1.toList.isEmpty = false := by rw [List.isEmpty_eq_false_iff]; exact q1
    have N2 : Hid (∀ k, k ≤ (xs.drop j).length → (∀ i, k ≤ i → i < (xs.drop j).length → (xs.drop j).getD i 0 = 48) → (0 < k → (xs.drop j).getD (k - 1) 0 ≠ 48) → Sc.nrm neg xs e = ⟨neg, (xs.drop j).take k, e + (xs.drop j).length - k⟩ ∧ 0 < k) := fun k x1 x2 x3 => Sc.nrm_of_trims hlt b3 hne x1 x2 x3
    have HL : Hid ((xs.drop j).length = xs.length - j) := by show _ = _; simp
    obtain ⟨m, hm⟩ : ∃ m, xs.length - j = m := ⟨_, rfl⟩
    rw [hm] at hsz HL
    have hmb : (m : Int) ≤ 281474976710656 := by have := HN.out; omega
    clear b1 b2 b3 b4 hlt hne hm h
    go_wp2_with fail
    refine (R.out _).mono ?_
    rintro r w2 ⟨⟨s2, k, rfl, c1, c2, c3, c4⟩, rfl⟩
    have NN := hid (N2.out k c2 c3 c4)
    have hk2 : s2.size = k := by have := c1.size; rw [List.length_take] at this; omega
    have hkm : (k : Int) ≤ (m : Int) := by have := HL.out; omega
    have HC := hid c1
    clear c1 c2 c3 c4 R N2 L
    go_wp2_with fail
    (try simp only [Exit.inBlock, Exit.then])
    refine bodyPost_ret (results_cell_row rfl _ _ (w.heap.size + 1) 39 _ (0, 0) _ rfl (Two3.new w _ _ _ _ _ _).2.2 Tryz.underlying39 rfl (by kernel_rfl)) rfl ?_
    exact dec_ret (by rw [NN.out.1, HL.out]; exact ⟨_, rfl, HC.out⟩) (Two3.new w _ _ _ _ _ _).1
end Go.Proofs.YtaoaniigbooihaaGreatDoor

namespace Go.Proofs.YtaoaniigbooihaaGreatDoor
open Go Go.RowKit Go.Deep

theorem Two3.one {w w' : World} {v0 v1 v2 u0 u1 u2 : Value} (h : Two3 w w' v0 v1 v2 u0 u1 u2) (x : Value) : Two3 w (w'.setCell ⟨w.heap.size, 1, none⟩ x) v0 x v2 u0 u1 u2 :=
  ⟨h.1.setCell (p := ⟨w.heap.size, 1, none⟩) (Nat.le_refl _) x, set1 h.2.1 (by simp [Array.setIfInBounds]), h.2.2.far (by omega)⟩

set_option maxRecDepth 100000 in
theorem own_any (neg : Bool) (s : ByteArray) (e : Int) (w : World) (hs : s.size ≤ 281474976710656) :
    Calls Tryz.prog 69 #[decV neg s e] w fun r w' => r = .returned (decV neg s e) ∧ Below w.heap.size w w' := by
  have C := hid (fun wx => vclone_any s wx hs)
  have Z := hid (Two3.new w (.bool neg) (.string s) (.int .i64 e) (.bool false) (.string ⟨#[]⟩) (.int .i64 0))
  unfold decV
  clear hs
  go_enter Tryz.func69, Tryz.ntmps69
  go_wp2_with fail
  refine (C.out _).mono ?_
  rintro r w1 ⟨rfl, hB⟩
  have S := hid (Z.out.on hB)
  obtain ⟨⟨c0, c1, c2⟩, f0, f1, f2⟩ := S.out.2.1.cells
  obtain ⟨⟨d0, d1, d2⟩, g0, g1, g2⟩ := S.out.2.2.cells
  clear hB Z C
  go_wp2_with fail
  (try simp only [Exit.inBlock, Exit.then])
  refine bodyPost_ret (results_cell_row rfl _ _ (w.heap.size + 1) 39 _ (0, 0) _ rfl ((S.out.one _).putB _ _ _).2.2 Tryz.underlying39 rfl (by kernel_rfl)) rfl ?_
  exact ⟨rfl, ((S.out.one _).putB _ _ _).1⟩

theorem nrm_ds_len (neg : Bool) (ds : List Int) (e : Int) (h : ds.length ≤ 281474976710655) : (Sc.nrm neg ds e).ds.length ≤ 281474976710656 := by
  have := Sc.nrm_len neg ds e
  omega
end Go.Proofs.YtaoaniigbooihaaGreatDoor

namespace Go.Proofs.YtaoaniigbooihaaGreatDoor
open Go Go.RowKit Go.Deep

theorem vret_bool {a b : Bool} (h : a = b) : Ending.returned (.bool a) = .returned (.bool b) := by rw [h]

theorem digit_any (x : Int) (w : World) (h0 : 0 ≤ x) (h1 : x < 256) : Calls Tryz.prog 67 #[.int .u8 x] w fun e w' => e = .returned (.bool (Sc.dg x)) ∧ w' = w := by
  go_enter Tryz.func67, Tryz.ntmps67
  go_wp2
  all_goals (go_ret; refine ⟨vret_bool ?_, rfl⟩)
  all_goals (rw [Bool.eq_iff_iff]; simp [Sc.dg]; omega)

theorem Str.pk {s : ByteArray} {xs : List Int} (h : Str s xs) (t : Nat) : ∀ ht : t < s.size, ((s[t]'ht).toNat : Int) = Sc.pk xs t := fun ht => h.at t ht
end Go.Proofs.YtaoaniigbooihaaGreatDoor

namespace Go.Proofs.YtaoaniigbooihaaGreatDoor
open Go Go.RowKit Go.Deep


theorem blank_any (x : Int) (w : World) (h0 : 0 ≤ x) (h1 : x < 256) : Calls Tryz.prog 68 #[.int .u8 x] w fun e w' => e = .returned (.bool (Sc.bl x)) ∧ w' = w := by
  go_enter Tryz.func68, Tryz.ntmps68
  go_wp2
  all_goals (go_ret; refine ⟨vret_bool ?_, rfl⟩)
  all_goals (rw [Bool.eq_iff_iff]; simp [Sc.bl]; omega)





theorem peek_any (s : ByteArray) (xs : List Int) (k : Nat) (w : World) (hs : Str s xs) (hn : xs.length ≤ 562949953421312) : Calls Tryz.prog 65 #[.string s, .int .i64 k] w fun e w' => e = .returned (.int .u8 (Sc.pk xs k)) ∧ w' = w := by
  have hsz := hs.size
  have hx := hs.pk k
  have HS := hid hs
  have HN := hid hn
  clear hs hn
  by_cases h : k < xs.length
  · have h1 : (k : Int) < (xs.length : Int) := by omega
    go_enter Tryz.func65, Tryz.ntmps65
    go_wp2
    all_goals (go_ret; first | exact ⟨rfl, rfl⟩ | omega)
  · have h1 : ¬ (k : Int) < (xs.length : Int) := by omega
    have e : Sc.pk xs k = 0 := Sc.pk_ge (by omega)
    go_enter Tryz.func65, Tryz.ntmps65
    go_wp2
    all_goals (go_ret; first | exact ⟨rfl, rfl⟩ | exact ⟨by rw [e], rfl⟩ | omega)

theorem past_any (s : ByteArray) (xs : List Int) (k : Nat) (w : World) (hs : Str s xs) (hn : xs.length ≤ 562949953421312) (hk : k ≤ xs.length + 1) : Calls Tryz.prog 66 #[.string s, .int .i64 k] w fun e w' => e = .returned (.int .i64 ((k + Sc.sg xs k : Nat) : Int)) ∧ w' = w := by
  have P := hid (peek_any s xs k w hs hn)
  have b := hs.atb k
  have hx : Sc.pk xs k = xs.getD k 0 := rfl
  rw [← hx] at b
  have hk2 : (k : Int) ≤ 562949953421313 := by omega
  have S : Hid (∀ r : Int, (Sc.pk xs k = 43 ∨ Sc.pk xs k = 45 → r = (k : Int) + 1) → (¬ (Sc.pk xs k = 43 ∨ Sc.pk xs k = 45) → r = (k : Int)) → Ending.returned (.int .i64 r) = .returned (.int .i64 ((k + Sc.sg xs k : Nat) : Int))) := fun r h1 h2 => by
    unfold Sc.sg
    by_cases c : Sc.pk xs k = 43 ∨ Sc.pk xs k = 45
    · rw [if_pos c, h1 c]; rfl
    · rw [if_neg c, h2 c]; rfl
  clear hs hn hk hx
  generalize Sc.pk xs k = x at *
  have hc : x = 43 ∨ x = 45 ∨ ((x == 43) = false ∧ (x == 45) = false ∧ x ≠ 43 ∧ x ≠ 45) := by
    by_cases c1 : x = 43
    · exact .inl c1
    · by_cases c2 : x = 45
      · exact .inr (.inl c2)
      · exact .inr (.inr ⟨by rw [beq_eq_false_iff_ne]; exact c1, by rw [beq_eq_false_iff_ne]; exact c2, c1, c2⟩)
  rcases hc with rfl | rfl | ⟨c1, c2, c3, c4⟩
  all_goals go_enter Tryz.func66, Tryz.ntmps66
  all_goals (go_wp2_with fail; refine P.out.mono ?_; rintro e w1 ⟨rfl, rfl⟩; clear P; go_wp2_with fail; go_ret; refine ⟨?_, rfl⟩; refine S.out _ ?_ ?_)
  all_goals (intro hh; first | omega | (exfalso; revert hh; decide))

set_option maxRecDepth 100000 in
theorem blanks_any (s : ByteArray) (xs : List Int) (k : Nat) (w : World) (hs : Str s xs) (hn : xs.length ≤ 562949953421312) (hk : k ≤ xs.length) : Calls Tryz.prog 38 #[.string s, .int .i64 k] w fun e w' => e = .returned (.int .i64 ((k + Sc.run Sc.bl xs k : Nat) : Int)) ∧ w' = w := by
  have HS := hid hs
  have HN := hid hn
  have hsz := hs.size
  have HK := hid hk
  clear hs hn hk
  go_enter Tryz.func38, Tryz.ntmps38
  go_wp2_with fail
  go_loop [1] (fun c => ∃ j : Nat, c = .int .i64 j ∧ Hid (j ≤ xs.length ∧ k + Sc.run Sc.bl xs k = j + Sc.run Sc.bl xs j)) (fun c => match c with | .int _ j => xs.length - j.toNat | _ => 0)
  case atStart => exact ⟨k, rfl, HK.out, rfl⟩
  case round =>
    obtain ⟨j, rfl, I⟩ := hrel
    have hj : (j : Int) ≤ 562949953421312 := by have := I.out.1; have := HN.out; omega
    have hx := HS.out.pk j
    by_cases h : j < xs.length
    · have hji : (j : Int) < (xs.length : Int) := by omega
      have b : 0 ≤ Sc.pk xs j ∧ Sc.pk xs j < 256 := HS.out.atb j
      have B := hid (blank_any (Sc.pk xs j) w b.1 b.2)
      cases hb : Sc.bl (Sc.pk xs j) with
      | true =>
        have R := hid (Sc.run_succ Sc.bl0 hb)
        rw [hb] at B
        clear hb
        generalize Sc.pk xs j = x at *
        go_wp2_with fail
        refine B.out.mono ?_
        rintro e w1 ⟨rfl, rfl⟩
        go_wp2_with fail
        go_round
        case rel => exact ⟨j + 1, by go_num, by have := I.out.2; have := R.out; show _ ∧ _; omega⟩
        case measure => simp; omega
      | false =>
        have R := hid (Sc.run_zero Sc.bl0 hb)
        rw [hb] at B
        clear hb
        generalize Sc.pk xs j = x at *
        go_wp2_with fail
        refine B.out.mono ?_
        rintro e w1 ⟨rfl, rfl⟩
        go_wp2_with fail
        go_ret
        exact ⟨congrArg (fun z => Ending.returned (.int .i64 z)) (by have := I.out.2; have := R.out; omega), rfl⟩
    · have hji : ¬ (j : Int) < (xs.length : Int) := by omega
      have R : Hid (Sc.run Sc.bl xs j = 0) := Sc.run_zero Sc.bl0 (by rw [Sc.pk_ge (by omega)]; rfl)
      go_wp2_with fail
      go_ret
      exact ⟨congrArg (fun z => Ending.returned (.int .i64 z)) (by have := I.out.2; have := R.out; omega), rfl⟩
end Go.Proofs.YtaoaniigbooihaaGreatDoor

namespace Go.Proofs.YtaoaniigbooihaaGreatDoor
open Go Go.RowKit Go.Deep


/-- The room for the answer, empty; the literal in its box. -/
def RM (w w' : World) (neg : Bool) (A B : ByteArray) (sc en : Int) : Prop :=
  Below w.heap.size w w' ∧ Row5 w' w.heap.size 71 (.bool false) (.string ⟨#[]⟩) (.string ⟨#[]⟩) (.int .i64 0) (.int .i64 0) ∧ Row5 w' (w.heap.size + 1) 71 (.bool neg) (.string A) (.string B) (.int .i64 sc) (.int .i64 en)

theorem RM.new (w : World) (neg : Bool) : RM w ((w.alloc (.cells #[.bool false, .string ⟨#[]⟩, .string ⟨#[]⟩, .int .i64 0, .int .i64 0] 71)).alloc (.cells #[.bool neg, .string ⟨#[]⟩, .string ⟨#[]⟩, .int .i64 0, .int .i64 0] 71)) neg ⟨#[]⟩ ⟨#[]⟩ 0 0 := by
  refine ⟨below_on (alloc_b _ _) (alloc_b _ _), heap_alloc2_old _ _ _, heap_alloc2_new _ _ _⟩

theorem RM.cells {w w' : World} {neg : Bool} {A B : ByteArray} {sc en : Int} (h : RM w w' neg A B sc en) :
    (w'.cell? ⟨w.heap.size + 1, 0, none⟩ = some (.bool neg) ∧ w'.cell? ⟨w.heap.size + 1, 1, none⟩ = some (.string A) ∧ w'.cell? ⟨w.heap.size + 1, 2, none⟩ = some (.string B) ∧ w'.cell? ⟨w.heap.size + 1, 3, none⟩ = some (.int .i64 sc) ∧ w'.cell? ⟨w.heap.size + 1, 4, none⟩ = some (.int .i64 en)) ∧
    (w'.frozen? ⟨w.heap.size + 1, 0, none⟩ = false ∧ w'.frozen? ⟨w.heap.size + 1, 1, none⟩ = false ∧ w'.frozen? ⟨w.heap.size + 1, 2, none⟩ = false ∧ w'.frozen? ⟨w.heap.size + 1, 3, none⟩ = false ∧ w'.frozen? ⟨w.heap.size + 1, 4, none⟩ = false) := h.2.2.cells
theorem RM.room {w w' : World} {neg : Bool} {A B : ByteArray} {sc en : Int} (h : RM w w' neg A B sc en) :
    (w'.cell? ⟨w.heap.size, 0, none⟩ = some (.bool false) ∧ w'.cell? ⟨w.heap.size, 1, none⟩ = some (.string ⟨#[]⟩) ∧ w'.cell? ⟨w.heap.size, 2, none⟩ = some (.string ⟨#[]⟩) ∧ w'.cell? ⟨w.heap.size, 3, none⟩ = some (.int .i64 0) ∧ w'.cell? ⟨w.heap.size, 4, none⟩ = some (.int .i64 0)) ∧
    (w'.frozen? ⟨w.heap.size, 0, none⟩ = false ∧ w'.frozen? ⟨w.heap.size, 1, none⟩ = false ∧ w'.frozen? ⟨w.heap.size, 2, none⟩ = false ∧ w'.frozen? ⟨w.heap.size, 3, none⟩ = false ∧ w'.frozen? ⟨w.heap.size, 4, none⟩ = false) := h.2.1.cells
theorem RM.ahead {w w' : World} {neg : Bool} {A B : ByteArray} {sc en : Int} (h : RM w w' neg A B sc en) (A' : ByteArray) : RM w (w'.setCell ⟨w.heap.size + 1, 1, none⟩ (.string A')) neg A' B sc en :=
  ⟨h.1.setCell (p := ⟨w.heap.size + 1, 1, none⟩) (Nat.le_succ _) _, h.2.1.set_far (by omega), set1 h.2.2 (by simp [Array.setIfInBounds])⟩
theorem RM.behind {w w' : World} {neg : Bool} {A B : ByteArray} {sc en : Int} (h : RM w w' neg A B sc en) (B' : ByteArray) : RM w (w'.setCell ⟨w.heap.size + 1, 2, none⟩ (.string B')) neg A B' sc en :=
  ⟨h.1.setCell (p := ⟨w.heap.size + 1, 2, none⟩) (Nat.le_succ _) _, h.2.1.set_far (by omega), set1 h.2.2 (by simp [Array.setIfInBounds])⟩
theorem RM.scale {w w' : World} {neg : Bool} {A B : ByteArray} {sc en : Int} (h : RM w w' neg A B sc en) (x : Int) : RM w (w'.setCell ⟨w.heap.size + 1, 3, none⟩ (.int .i64 x)) neg A B x en :=
  ⟨h.1.setCell (p := ⟨w.heap.size + 1, 3, none⟩) (Nat.le_succ _) _, h.2.1.set_far (by omega), set1 h.2.2 (by simp [Array.setIfInBounds])⟩
theorem RM.en {w w' : World} {neg : Bool} {A B : ByteArray} {sc en : Int} (h : RM w w' neg A B sc en) (x : Int) : RM w (w'.setCell ⟨w.heap.size + 1, 4, none⟩ (.int .i64 x)) neg A B sc x :=
  ⟨h.1.setCell (p := ⟨w.heap.size + 1, 4, none⟩) (Nat.le_succ _) _, h.2.1.set_far (by omega), set1 h.2.2 (by simp [Array.setIfInBounds])⟩
theorem RM.drew {w w' : World} {neg : Bool} {A B : ByteArray} {sc en : Int} (h : RM w w' neg A B sc en) (n : Nat) : RM w (w'.drewN n) neg A B sc en := ⟨below_drewN h.1 n, h.2.1, h.2.2⟩

theorem RM.drew1 {w w' : World} {neg : Bool} {A B : ByteArray} {sc en : Int} (h : RM w w' neg A B sc en) : RM w w'.drew neg A B sc en := h.drew 1

def litV (neg : Bool) (A B : ByteArray) (sc en : Int) : Value := .agg #[.bool neg, .string A, .string B, .int .i64 sc, .int .i64 en]

theorem RM.put {w w' : World} {neg : Bool} {A B : ByteArray} {sc en : Int} (h : RM w w' neg A B sc en) (v0 v1 v2 v3 v4 : Value) :
    (((((w'.setCell ⟨w.heap.size, 0, none⟩ v0).setCell ⟨w.heap.size, 1, none⟩ v1).setCell ⟨w.heap.size, 2, none⟩ v2).setCell ⟨w.heap.size, 3, none⟩ v3).setCell ⟨w.heap.size, 4, none⟩ v4).heap[w.heap.size]? = some (.cells #[v0, v1, v2, v3, v4] 71 (0, 0)) ∧
    Below w.heap.size w (((((w'.setCell ⟨w.heap.size, 0, none⟩ v0).setCell ⟨w.heap.size, 1, none⟩ v1).setCell ⟨w.heap.size, 2, none⟩ v2).setCell ⟨w.heap.size, 3, none⟩ v3).setCell ⟨w.heap.size, 4, none⟩ v4) := by
  have h0 := set1 (o := 0) (v := v0) (c' := #[v0, .string ⟨#[]⟩, .string ⟨#[]⟩, .int .i64 0, .int .i64 0]) h.2.1 (by simp [Array.setIfInBounds])
  have h1 := set1 (o := 1) (v := v1) (c' := #[v0, v1, .string ⟨#[]⟩, .int .i64 0, .int .i64 0]) h0 (by simp [Array.setIfInBounds])
  have h2 := set1 (o := 2) (v := v2) (c' := #[v0, v1, v2, .int .i64 0, .int .i64 0]) h1 (by simp [Array.setIfInBounds])
  have h3 := set1 (o := 3) (v := v3) (c' := #[v0, v1, v2, v3, .int .i64 0]) h2 (by simp [Array.setIfInBounds])
  exact ⟨set1 (o := 4) (v := v4) (c' := #[v0, v1, v2, v3, v4]) h3 (by simp [Array.setIfInBounds]), ((((h.1.setCell (p := ⟨w.heap.size, 0, none⟩) (Nat.le_refl _) v0).setCell (p := ⟨w.heap.size, 1, none⟩) (Nat.le_refl _) v1).setCell (p := ⟨w.heap.size, 2, none⟩) (Nat.le_refl _) v2).setCell (p := ⟨w.heap.size, 3, none⟩) (Nat.le_refl _) v3).setCell (p := ⟨w.heap.size, 4, none⟩) (Nat.le_refl _) v4⟩

/-- What read tells. -/
def RdTold (xs : List Int) (k : Nat) (w : World) (e : Ending) (w' : World) : Prop :=
  ((Sc.some? xs k ∧ ∃ A B, e = .returned (.tuple #[litV (Sc.lit xs k).neg A B (Sc.lit xs k).sc (Sc.lit xs k).en, .bool true]) ∧ Str A (Sc.lit xs k).ah ∧ Str B (Sc.lit xs k).bh) ∨
    (¬ Sc.some? xs k ∧ e = .returned (.tuple #[litV false ⟨#[]⟩ ⟨#[]⟩ 0 0, .bool false]))) ∧ Below w.heap.size w w'

/-- What holds at each label: 0 ahead, 2 behind, 1 number, 3 exponent. -/
inductive RI (xs : List Int) (k : Nat) (w w' : World) : Nat → Nat → Value → Value → Prop
  | ahead (j : Nat) (bel : Value) (h1 : Sc.p1 xs k ≤ j) (h2 : j + Sc.run Sc.dg xs j = Sc.p2 xs k) (m : RM w w' (decide (Sc.pk xs k = 45)) ⟨#[]⟩ ⟨#[]⟩ 0 0) : RI xs k w w' 0 j bel (.int .i64 (Sc.p1 xs k : Nat))
  | behind (j : Nat) (bel : Value) (A : ByteArray) (hA : Str A (Sc.lit xs k).ah) (hp : Sc.pk xs (Sc.p2 xs k) = 46) (h1 : Sc.p2 xs k + 1 ≤ j) (h2 : j + Sc.run Sc.dg xs j = Sc.p3 xs k) (m : RM w w' (decide (Sc.pk xs k = 45)) A ⟨#[]⟩ 0 0) : RI xs k w w' 2 j bel (.int .i64 ((Sc.p2 xs k + 1 : Nat) : Int))
  | number (bel frm : Value) (A B : ByteArray) (hA : Str A (Sc.lit xs k).ah) (hB : Str B (Sc.lit xs k).bh) (m : RM w w' (decide (Sc.pk xs k = 45)) A B 0 0) : RI xs k w w' 1 (Sc.p3 xs k) bel frm
  | power (j : Nat) (frm : Value) (A B : ByteArray) (hs : Sc.some? xs k) (hA : Str A (Sc.lit xs k).ah) (hB : Str B (Sc.lit xs k).bh) (he : Sc.hasE xs (Sc.p3 xs k) = true) (h1 : Sc.p4 xs (Sc.p3 xs k) ≤ j) (h2 : j + Sc.run Sc.dg xs j = Sc.p4 xs (Sc.p3 xs k) + Sc.run Sc.dg xs (Sc.p4 xs (Sc.p3 xs k)))
      (m : RM w w' (decide (Sc.pk xs k = 45)) A B (Sc.cap ((xs.drop (Sc.p4 xs (Sc.p3 xs k))).take (j - Sc.p4 xs (Sc.p3 xs k)))) (Sc.p3 xs k : Nat)) : RI xs k w w' 3 j (.bool (decide (Sc.pk xs (Sc.p3 xs k + 1) = 45))) frm

theorem frame_all (a : Act) (h : a.tmps.size = 109) (hd : a.defers = []) : ∃ u : Nat → Value, a = { tmps := #[u 0, u 1, u 2, u 3, u 4, u 5, u 6, u 7, u 8, u 9, u 10, u 11, u 12, u 13, u 14, u 15, u 16, u 17, u 18, u 19, u 20, u 21, u 22, u 23, u 24, u 25, u 26, u 27, u 28, u 29, u 30, u 31, u 32, u 33, u 34, u 35, u 36, u 37, u 38, u 39, u 40, u 41, u 42, u 43, u 44, u 45, u 46, u 47, u 48, u 49, u 50, u 51, u 52, u 53, u 54, u 55, u 56, u 57, u 58, u 59, u 60, u 61, u 62, u 63, u 64, u 65, u 66, u 67, u 68, u 69, u 70, u 71, u 72, u 73, u 74, u 75, u 76, u 77, u 78, u 79, u 80, u 81, u 82, u 83, u 84, u 85, u 86, u 87, u 88, u 89, u 90, u 91, u 92, u 93, u 94, u 95, u 96, u 97, u 98, u 99, u 100, u 101, u 102, u 103, u 104, u 105, u 106, u 107, u 108], defers := [] } := by
  refine ⟨fun i => a.tmps.toList.getD i undef, ?_⟩
  obtain ⟨⟨l⟩, d⟩ := a
  simp only at hd h
  subst hd
  have e : l = (List.range 109).map (fun i => l.getD i undef) := by
    have h' : l.length = 109 := h
    apply List.ext_getElem
    · simp [h']
    · intro i h1 h2
      simp [List.getD, h1]
  conv => lhs; rw [e]
  rfl
def RJ (s : ByteArray) (xs : List Int) (k : Nat) (w : World) (l : Nat) (a : Act) (w' : World) : Prop :=
  a.tmps.size = 109 ∧ a.defers = [] ∧ ∃ (at_ : Int) (bel frm : Value), a.tmps.getD 0 undef = .string s ∧ a.tmps.getD 1 undef = .int .i64 at_ ∧ a.tmps.getD 4 undef = .pointer (some ⟨w.heap.size, 0, none⟩) ∧ a.tmps.getD 6 undef = .pointer (some ⟨w.heap.size + 1, 0, none⟩) ∧ a.tmps.getD 7 undef = bel ∧ a.tmps.getD 8 undef = frm ∧ ∃ j : Nat, at_ = j ∧ RI xs k w w' l j bel frm
theorem RJ.open {s : ByteArray} {xs : List Int} {k : Nat} {w : World} {l : Nat} {a : Act} {w' : World} (h : RJ s xs k w l a w') : ∃ (u : Nat → Value) (j : Nat) (bel frm : Value), a = { tmps := #[.string s, .int .i64 j, u 2, u 3, .pointer (some ⟨w.heap.size, 0, none⟩), u 5, .pointer (some ⟨w.heap.size + 1, 0, none⟩), bel, frm, u 9, u 10, u 11, u 12, u 13, u 14, u 15, u 16, u 17, u 18, u 19, u 20, u 21, u 22, u 23, u 24, u 25, u 26, u 27, u 28, u 29, u 30, u 31, u 32, u 33, u 34, u 35, u 36, u 37, u 38, u 39, u 40, u 41, u 42, u 43, u 44, u 45, u 46, u 47, u 48, u 49, u 50, u 51, u 52, u 53, u 54, u 55, u 56, u 57, u 58, u 59, u 60, u 61, u 62, u 63, u 64, u 65, u 66, u 67, u 68, u 69, u 70, u 71, u 72, u 73, u 74, u 75, u 76, u 77, u 78, u 79, u 80, u 81, u 82, u 83, u 84, u 85, u 86, u 87, u 88, u 89, u 90, u 91, u 92, u 93, u 94, u 95, u 96, u 97, u 98, u 99, u 100, u 101, u 102, u 103, u 104, u 105, u 106, u 107, u 108], defers := [] } ∧ RI xs k w w' l j bel frm := by
  obtain ⟨h1, h2, at_, bel, frm, e0, e1, e4, e6, e7, e8, j, rfl, I⟩ := h
  obtain ⟨u, rfl⟩ := frame_all a h1 h2
  refine ⟨u, j, bel, frm, ?_, I⟩
  have e0' : u 0 = .string s := e0
  have e1' : u 1 = .int .i64 j := e1
  have e4' : u 4 = .pointer (some ⟨w.heap.size, 0, none⟩) := e4
  have e6' : u 6 = .pointer (some ⟨w.heap.size + 1, 0, none⟩) := e6
  have e7' : u 7 = bel := e7
  have e8' : u 8 = frm := e8
  rw [e0', e1', e4', e6', e7', e8']

def rk : Nat → Nat
  | 0 => 3
  | 2 => 2
  | 1 => 1
  | _ => 0
def rmu (xs : List Int) (l : Nat) (a : Act) (_ : World) : Nat := rk l * (xs.length + 3) + (xs.length + 2 - (match a.tmps.getD 1 undef with | .int _ q => q.toNat | _ => 0))

theorem wp_scope_falls {P : Program} {a : Act} {w : World} {Q : Exit → Act → World → Prop} {c : Code} (J : Nat → Act → World → Prop) (μ : Nat → Act → World → Nat)
    (first : (∀ l' a' w' b', J l' a' w' → findLabel c l' = some (.seq .skip b') → b'.wp P (Exit.jumps J Q) a' w') → c.wp P (Exit.jumps J Q) a w)
    (pass : ∀ l a w, J l a w → ∃ b, findLabel c l = some (.seq .skip b) ∧ ((∀ l' a' w' b', J l' a' w' → μ l' a' w' < μ l a w → findLabel c l' = some (.seq .skip b') → b'.wp P (Exit.jumps (fun l' a' w' => J l' a' w' ∧ μ l' a' w' < μ l a w) Q) a' w') → b.wp P (Exit.jumps (fun l' a' w' => J l' a' w' ∧ μ l' a' w' < μ l a w) Q) a w)) : (Code.scope c).wp P Q a w := by
  have key : ∀ n l a w, μ l a w = n → J l a w → ∃ b, findLabel c l = some (.seq .skip b) ∧ b.wp P (Exit.jumps (fun l' a' w' => J l' a' w' ∧ μ l' a' w' < n) Q) a w := by
    intro n
    induction n using Nat.strongRecOn with
    | _ n ih =>
      intro l a w hn hJ
      obtain ⟨rest, hf, hp⟩ := pass l a w hJ
      rw [hn] at hp
      refine ⟨rest, hf, hp fun l' a' w' rest' hJ' hlt hf' => ?_⟩
      obtain ⟨r2, hf2, h2⟩ := ih _ hlt l' a' w' rfl hJ'
      rw [hf'] at hf2
      cases hf2
      refine wp_mono h2 fun e a1 w1 hq => ?_
      cases e <;> first | exact hq | exact ⟨hq.1, by have := hq.2; omega⟩
  refine wp_scope_labels J μ (first fun l' a' w' rest' hJ' hf' => ?_) fun l a w hJ => ?_
  · obtain ⟨r2, hf2, h2⟩ := key _ l' a' w' rfl hJ'
    rw [hf'] at hf2
    cases hf2
    refine wp_mono h2 fun e a1 w1 hq => ?_
    cases e <;> first | exact hq | exact hq.1
  · obtain ⟨b, hf, hb⟩ := key _ l a w rfl hJ
    exact ⟨_, hf, wp_seq (wp_skip hb)⟩

theorem rd_some {xs : List Int} {k : Nat} {w w' : World} {A B : ByteArray} {sc en : Int} (hs : Sc.some? xs k) (hA : Str A (Sc.lit xs k).ah) (hB : Str B (Sc.lit xs k).bh) (h1 : sc = (Sc.lit xs k).sc) (h2 : en = ((Sc.lit xs k).en : Nat)) (b : Below w.heap.size w w') :
    RdTold xs k w (.returned (.tuple #[.agg #[.bool (decide (Sc.pk xs k = 45)), .string A, .string B, .int .i64 sc, .int .i64 en], .bool true])) w' := by
  subst h1 h2
  exact ⟨.inl ⟨hs, A, B, rfl, hA, hB⟩, b⟩
theorem rd_none {xs : List Int} {k : Nat} {w w' : World} (hs : ¬ Sc.some? xs k) (b : Below w.heap.size w w') :
    RdTold xs k w (.returned (.tuple #[.agg #[.bool false, .string ⟨#[]⟩, .string ⟨#[]⟩, .int .i64 0, .int .i64 0], .bool false])) w' := ⟨.inr ⟨hs, rfl⟩, b⟩
theorem isE_t {x : Int} (h : Sc.isE x = true) : x = 101 ∨ x = 69 := by simpa [Sc.isE] using h
theorem isE_f {x : Int} (h : Sc.isE x = false) : x ≠ 101 ∧ x ≠ 69 := by simpa [Sc.isE] using h
theorem sc_none {xs : List Int} {k : Nat} (h : Sc.hasE xs (Sc.p3 xs k) = false) : (0 : Int) = (Sc.lit xs k).sc ∧ ((Sc.p3 xs k : Nat) : Int) = ((Sc.lit xs k).en : Nat) := by
  unfold Sc.lit; simp [h]
theorem sc_some {xs : List Int} {k : Nat} (h : Sc.hasE xs (Sc.p3 xs k) = true) : (Sc.lit xs k).sc = (if Sc.pk xs (Sc.p3 xs k + 1) = 45 then - Sc.cap ((xs.drop (Sc.p4 xs (Sc.p3 xs k))).take (Sc.run Sc.dg xs (Sc.p4 xs (Sc.p3 xs k)))) else Sc.cap ((xs.drop (Sc.p4 xs (Sc.p3 xs k))).take (Sc.run Sc.dg xs (Sc.p4 xs (Sc.p3 xs k))))) ∧ (Sc.lit xs k).en = Sc.p4 xs (Sc.p3 xs k) + Sc.run Sc.dg xs (Sc.p4 xs (Sc.p3 xs k)) := by
  unfold Sc.lit; simp [h]
theorem ah_len {xs : List Int} {k : Nat} {A : ByteArray} (hA : Str A (Sc.lit xs k).ah) : A.size = Sc.run Sc.dg xs (Sc.p1 xs k) := by
  rw [hA.size]
  have := Sc.run_le Sc.dg xs (Sc.p1 xs k)
  show ((xs.drop _).take _).length = _
  simp; omega
theorem bh_len {xs : List Int} {k : Nat} {B : ByteArray} (hB : Str B (Sc.lit xs k).bh) : B.size = Sc.bn xs k := by
  rw [hB.size]
  show ((xs.drop _).take _).length = _
  have h1 : Sc.bn xs k ≤ xs.length - (Sc.p2 xs k + 1) := by
    unfold Sc.bn
    split
    · exact Sc.run_le _ _ _
    · omega
  simp; omega
theorem cap_more {xs : List Int} {v j : Nat} (h : v ≤ j) (hj : j < xs.length) : Sc.cap ((xs.drop v).take (j + 1 - v)) = min (10 * Sc.cap ((xs.drop v).take (j - v)) + (Sc.pk xs j - 48)) 1000000000000000 := by
  have e := Sc.take_snoc (xs := xs) (v := v) (c := j - v) (by omega)
  rw [show j + 1 - v = j - v + 1 by omega, e, Sc.cap_snoc, show v + (j - v) = j by omega]
theorem cap_bd {xs : List Int} {v j : Nat} (h : v ≤ j) (hr : j + Sc.run Sc.dg xs j = v + Sc.run Sc.dg xs v) : 0 ≤ Sc.cap ((xs.drop v).take (j - v)) ∧ Sc.cap ((xs.drop v).take (j - v)) ≤ 1000000000000000 := by
  apply Sc.cap_b
  intro x hx
  obtain ⟨i, hi, rfl⟩ := List.mem_iff_getElem.1 hx
  rw [List.length_take, List.length_drop] at hi
  have := Sc.run_all (p := Sc.dg) (xs := xs) (i := v) i (by omega)
  have e : Sc.pk xs (v + i) = ((xs.drop v).take (j - v))[i] := by
    have hi2 : v + i < xs.length := by omega
    simp [Sc.pk, List.getD, hi2]
  rw [← e]; exact this
end Go.Proofs.YtaoaniigbooihaaGreatDoor

namespace Go.Proofs.YtaoaniigbooihaaGreatDoor
open Go Go.RowKit Go.Deep

set_option maxRecDepth 100000 in
set_option maxHeartbeats 4000000 in
theorem vread_any (s : ByteArray) (xs : List Int) (k : Nat) (w : World) (hs : Str s xs) (hn : xs.length ≤ 562949953421312) (hk : k ≤ xs.length) : Calls Tryz.prog 37 #[.string s, .int .i64 k] w fun e w' => RdTold xs k w e w' := by
  have PK := hid (fun (j : Nat) (wx : World) => peek_any s xs j wx hs hn)
  have DG := hid (fun (j : Nat) (wx : World) => digit_any (Sc.pk xs j) wx (hs.atb j).1 (hs.atb j).2)
  have PS : Hid (∀ (j p : Nat) (wx : World), p = j + Sc.sg xs j → j ≤ xs.length + 1 → Calls Tryz.prog 66 #[.string s, .int .i64 j] wx fun e w' => e = .returned (.int .i64 (p : Int)) ∧ w' = wx) := fun j p wx hp hj => by subst hp; exact past_any s xs j wx hs hn hj
  have PKz : Hid (∀ (z : Int) (j : Nat) (wx : World), z = j → Calls Tryz.prog 65 #[.string s, .int .i64 z] wx fun e w' => e = .returned (.int .u8 (Sc.pk xs j)) ∧ w' = wx) := fun z j wx hz => by subst hz; exact peek_any s xs j wx hs hn
  have PSz : Hid (∀ (z : Int) (j p : Nat) (wx : World), z = j → p = j + Sc.sg xs j → j ≤ xs.length + 1 → Calls Tryz.prog 66 #[.string s, .int .i64 z] wx fun e w' => e = .returned (.int .i64 (p : Int)) ∧ w' = wx) := fun z j p wx hz hp hj => by subst hz hp; exact past_any s xs j wx hs hn hj
  have HS := hid hs
  have HN := hid hn
  have HK := hid hk
  have hsz := hs.size
  have BE := hid (Sc.en_le xs k hk)
  have B1 := hid (Sc.p1_le xs k hk)
  have B2 := hid (Sc.p2_le xs k hk)
  have B3 := hid (Sc.p3_le xs k hk)
  have B12 : Hid (Sc.p1 xs k ≤ Sc.p2 xs k) := by show _ ≤ _; unfold Sc.p2; omega
  have B23 := hid (Sc.p2_p3 xs k)
  clear hs hn hk
  go_enter Tryz.func37, Tryz.ntmps37
  go_wp2_with fail
  refine wp_scope_falls (RJ s xs k w) (rmu xs) (fun F => ?_) ?_
  · replace F := hid F
    go_wp2_with fail
    refine (PK.out k _).mono ?_
    rintro e w1 ⟨rfl, rfl⟩
    go_wp2_with fail
    refine (PS.out k (Sc.p1 xs k) _ rfl (by have := HK.out; omega)).mono ?_
    rintro e w1 ⟨rfl, rfl⟩
    go_wp2_with fail
    go_step3
    (try simp only [Exit.then])
    rename_i hK
    refine hK _ _ ?_
    exact F.out 0 _ _ _ ⟨rfl, rfl, _, _, _, rfl, rfl, rfl, rfl, rfl, rfl, Sc.p1 xs k, rfl, RI.ahead _ _ (Nat.le_refl _) rfl (RM.new w _)⟩ rfl
  · intro l a w' hJ
    obtain ⟨u, j, bel, frm, rfl, I⟩ := hJ.open
    clear hJ
    cases I with
    | ahead j bel h1 h2 m =>
      refine ⟨_, rfl, fun F => ?_⟩
      replace F := hid F
      replace h1 := hid h1
      replace h2 := hid h2
      have hj : (j : Int) ≤ 562949953421312 := by have := HN.out; have := B2.out; have := h2.out; omega
      have D := hid (fun wx => DG.out j wx)
      cases hd : Sc.dg (Sc.pk xs j) with
      | true =>
        rw [hd] at D
        have R := hid (Sc.run_succ Sc.dg0 hd)
        have hlt : Hid (j < xs.length) := Sc.pk_lt (by have := Sc.dg_iff.1 hd; omega)
        replace m := hid m
        clear hd
        go_wp2_with fail
        refine (PK.out j _).mono ?_; rintro e w1 ⟨rfl, rfl⟩
        go_wp2_with fail
        refine (D.out _).mono ?_; rintro e w1 ⟨rfl, rfl⟩
        go_wp2_with fail
        go_step3; exact ⟨⟨rfl, rfl, _, _, _, rfl, rfl, rfl, rfl, rfl, rfl, j + 1, rfl, RI.ahead _ _ (by have := h1.out; omega) (by have := h2.out; have := R.out; omega) m.out⟩, (show 3 * (xs.length + 3) + (xs.length + 2 - Int.toNat ((j : Int) + 1)) < 3 * (xs.length + 3) + (xs.length + 2 - Int.toNat (j : Int)) by have := HN.out; have := hlt.out; have := B1.out; have := B2.out; have := B3.out; omega)⟩
      | false =>
        rw [hd] at D
        have hj2 : j = Sc.p2 xs k := by have := h2.out; rw [Sc.run_zero Sc.dg0 hd] at this; exact this
        clear hd
        subst hj2
        have q1 : (Sc.p1 xs k : Int) ≤ (Sc.p2 xs k : Int) := by have := B12.out; omega
        have q2 : (Sc.p2 xs k : Int) ≤ (xs.length : Int) := by have := B2.out; omega
        obtain ⟨⟨c0, c1, c2, c3, c4⟩, f0, f1, f2, f3, f4⟩ := m.cells
        have M2 := hid (m.ahead (s.extract (Sc.p1 xs k) (Sc.p2 xs k)))
        have SA : Hid (Str (s.extract (Sc.p1 xs k) (Sc.p2 xs k)) (Sc.lit xs k).ah) := by
          have := HS.out.extract (Sc.p1 xs k) (Sc.p2 xs k)
          rw [show Sc.p2 xs k - Sc.p1 xs k = Sc.run Sc.dg xs (Sc.p1 xs k) by unfold Sc.p2; omega] at this
          exact this
        clear m
        have hp : Sc.pk xs (Sc.p2 xs k) = 46 ∨ ((Sc.pk xs (Sc.p2 xs k) == 46) = false ∧ Sc.pk xs (Sc.p2 xs k) ≠ 46) := by
          by_cases c : Sc.pk xs (Sc.p2 xs k) = 46
          · exact .inl c
          · exact .inr ⟨by rw [beq_eq_false_iff_ne]; exact c, c⟩
        rcases hp with hp | ⟨hp, hp2⟩
        · have HP := hid hp
          clear hp
          go_wp2_with fail
          refine (PK.out (Sc.p2 xs k) _).mono ?_; rintro e w1 ⟨rfl, rfl⟩
          go_wp2_with fail
          refine (D.out _).mono ?_; rintro e w1 ⟨rfl, rfl⟩
          go_wp2_with fail
          refine (PK.out (Sc.p2 xs k) _).mono ?_; rintro e w1 ⟨rfl, rfl⟩
          have hp := HP.out
          go_wp2_with fail
          go_step3; (try simp only [Exit.then]); rename_i hK; refine hK _ _ ?_; exact F.out 2 _ _ _ ⟨rfl, rfl, _, _, _, rfl, rfl, rfl, rfl, rfl, rfl, Sc.p2 xs k + 1, rfl, RI.behind _ _ _ SA.out HP.out (Nat.le_refl _) (by unfold Sc.p3; rw [if_pos HP.out]) M2.out⟩ (show 2 * (xs.length + 3) + (xs.length + 2 - Int.toNat ((Sc.p2 xs k : Int) + 1)) < 3 * (xs.length + 3) + (xs.length + 2 - Int.toNat (Sc.p2 xs k : Int)) by have := HN.out; have := B1.out; have := B2.out; have := B3.out; omega) rfl
        · have hp3 : (Sc.pk xs (Sc.p2 xs k) != 46) = true := by simpa using hp2
          have E3 : Hid (Sc.p3 xs k = Sc.p2 xs k) := by show _ = _; unfold Sc.p3; rw [if_neg hp2]
          have EB : Hid (Str ⟨#[]⟩ (Sc.lit xs k).bh) := by
            show Str _ ((xs.drop _).take (Sc.bn xs k))
            rw [show Sc.bn xs k = 0 by unfold Sc.bn; rw [if_neg hp2]]
            exact str_nil0
          replace hp2 := hid hp2
          go_wp2_with fail
          refine (PK.out (Sc.p2 xs k) _).mono ?_; rintro e w1 ⟨rfl, rfl⟩
          go_wp2_with fail
          refine (D.out _).mono ?_; rintro e w1 ⟨rfl, rfl⟩
          go_wp2_with fail
          refine (PK.out (Sc.p2 xs k) _).mono ?_; rintro e w1 ⟨rfl, rfl⟩
          go_wp2_with fail
          go_step3; exact ⟨⟨rfl, rfl, _, _, _, rfl, rfl, rfl, rfl, rfl, rfl, Sc.p3 xs k, by rw [E3.out], RI.number _ _ _ _ SA.out EB.out M2.out⟩, (show 1 * (xs.length + 3) + (xs.length + 2 - Int.toNat (Sc.p2 xs k : Int)) < 3 * (xs.length + 3) + (xs.length + 2 - Int.toNat (Sc.p2 xs k : Int)) by have := HN.out; have := B1.out; have := B2.out; have := B3.out; omega)⟩
    | behind j bel A hA hp h1 h2 m =>
      refine ⟨_, rfl, fun F => ?_⟩
      replace F := hid F
      replace h1 := hid h1
      replace h2 := hid h2
      replace hp := hid hp
      replace hA := hid hA
      have hj : (j : Int) ≤ 562949953421312 := by have := HN.out; have := B3.out; have := h2.out; omega
      have D := hid (fun wx => DG.out j wx)
      cases hd : Sc.dg (Sc.pk xs j) with
      | true =>
        rw [hd] at D
        have R := hid (Sc.run_succ Sc.dg0 hd)
        have hlt : Hid (j < xs.length) := Sc.pk_lt (by have := Sc.dg_iff.1 hd; omega)
        replace m := hid m
        clear hd
        go_wp2_with fail
        refine (PK.out j _).mono ?_; rintro e w1 ⟨rfl, rfl⟩
        go_wp2_with fail
        refine (D.out _).mono ?_; rintro e w1 ⟨rfl, rfl⟩
        go_wp2_with fail
        go_step3; exact ⟨⟨rfl, rfl, _, _, _, rfl, rfl, rfl, rfl, rfl, rfl, j + 1, rfl, RI.behind _ _ _ hA.out hp.out (by have := h1.out; omega) (by have := h2.out; have := R.out; omega) m.out⟩, (show 2 * (xs.length + 3) + (xs.length + 2 - Int.toNat ((j : Int) + 1)) < 2 * (xs.length + 3) + (xs.length + 2 - Int.toNat (j : Int)) by have := HN.out; have := hlt.out; have := B1.out; have := B2.out; have := B3.out; omega)⟩
      | false =>
        rw [hd] at D
        have hj2 : j = Sc.p3 xs k := by have := h2.out; rw [Sc.run_zero Sc.dg0 hd] at this; exact this
        clear hd
        subst hj2
        have q1 : (Sc.p2 xs k : Int) + 1 ≤ (Sc.p3 xs k : Int) := by have := h1.out; omega
        have q2 : (Sc.p3 xs k : Int) ≤ (xs.length : Int) := by have := B3.out; omega
        obtain ⟨⟨c0, c1, c2, c3, c4⟩, f0, f1, f2, f3, f4⟩ := m.cells
        have M2 := hid (m.behind (s.extract (Sc.p2 xs k + 1) (Sc.p3 xs k)))
        have SB : Hid (Str (s.extract (Sc.p2 xs k + 1) (Sc.p3 xs k)) (Sc.lit xs k).bh) := by
          have := HS.out.extract (Sc.p2 xs k + 1) (Sc.p3 xs k)
          rw [show Sc.p3 xs k - (Sc.p2 xs k + 1) = Sc.bn xs k by unfold Sc.p3 Sc.bn; rw [if_pos hp.out, if_pos hp.out]; omega] at this
          exact this
        clear m
        go_wp2_with fail
        refine (PK.out (Sc.p3 xs k) _).mono ?_; rintro e w1 ⟨rfl, rfl⟩
        go_wp2_with fail
        refine (D.out _).mono ?_; rintro e w1 ⟨rfl, rfl⟩
        go_wp2_with fail
        go_step3; (try simp only [Exit.then]); rename_i hK; refine hK _ _ ?_; exact F.out 1 _ _ _ ⟨rfl, rfl, _, _, _, rfl, rfl, rfl, rfl, rfl, rfl, Sc.p3 xs k, rfl, RI.number _ _ _ _ hA.out SB.out M2.out⟩ (show 1 * (xs.length + 3) + (xs.length + 2 - Int.toNat (Sc.p3 xs k : Int)) < 2 * (xs.length + 3) + (xs.length + 2 - Int.toNat (Sc.p3 xs k : Int)) by have := HN.out; have := B1.out; have := B2.out; have := B3.out; omega) rfl
    | number bel frm A B hA hB m =>
      refine ⟨_, rfl, fun F => ?_⟩
      replace F := hid F
      have sA := ah_len hA
      have sB := bh_len hB
      have hj : (Sc.p3 xs k : Int) ≤ 562949953421312 := by have := HN.out; have := B3.out; omega
      have nA : (Sc.run Sc.dg xs (Sc.p1 xs k) : Int) ≤ 562949953421312 := by have := HN.out; have := Sc.run_le Sc.dg xs (Sc.p1 xs k); omega
      have nB : (Sc.bn xs k : Int) ≤ 562949953421312 := by have := HN.out; have h : Sc.bn xs k ≤ xs.length := (by unfold Sc.bn; split; (exact Nat.le_trans (Sc.run_le _ _ _) (Nat.sub_le _ _)); omega); omega
      replace hA := hid hA
      replace hB := hid hB
      obtain ⟨⟨c0, c1, c2, c3, c4⟩, f0, f1, f2, f3, f4⟩ := m.cells
      obtain ⟨⟨d0, d1, d2, d3, d4⟩, g0, g1, g2, g3, g4⟩ := m.room
      by_cases hs : Sc.some? xs k
      · have hne : ((Sc.run Sc.dg xs (Sc.p1 xs k) : Int) + (Sc.bn xs k : Int) == 0) = false := by
          rw [beq_eq_false_iff_ne]; unfold Sc.some? at hs; omega
        replace hs := hid hs
        have M1 := hid (m.en (Sc.p3 xs k : Nat))
        clear m
        generalize Sc.run Sc.dg xs (Sc.p1 xs k) = rA at *
        generalize Sc.bn xs k = rB at *
        cases hE : Sc.isE (Sc.pk xs (Sc.p3 xs k)) with
        | false =>
          obtain ⟨x1, x2⟩ := isE_f hE
          have y1 : (Sc.pk xs (Sc.p3 xs k) != 101) = true := by simpa using x1
          have y2 : (Sc.pk xs (Sc.p3 xs k) != 69) = true := by simpa using x2
          have y3 : (Sc.pk xs (Sc.p3 xs k) == 101) = false := by rw [beq_eq_false_iff_ne]; exact x1
          have y4 : (Sc.pk xs (Sc.p3 xs k) == 69) = false := by rw [beq_eq_false_iff_ne]; exact x2
          have SN : Hid (_ ∧ _) := sc_none (xs := xs) (k := k) (by unfold Sc.hasE; rw [hE]; rfl)
          clear hE
          go_wp2_with fail
          refine (PK.out (Sc.p3 xs k) _).mono ?_; rintro e w1 ⟨rfl, rfl⟩
          go_wp2_with fail
          (try simp only [Exit.inBlock, Exit.then]); refine bodyPost_ret (results_row_tmp rfl _ _ w.heap.size 71 _ (0, 0) _ rfl (M1.out.put _ _ _ _ _).1 Tryz.underlying71 rfl (by kernel_rfl)) rfl ?_; exact rd_some hs.out hA.out hB.out SN.out.1 SN.out.2 (M1.out.put _ _ _ _ _).2
        | true =>
          have B4 : Hid (Sc.p4 xs (Sc.p3 xs k) ≤ xs.length) := Sc.p4_le xs _ (Sc.isE_lt hE)
          have hj4 : (Sc.p4 xs (Sc.p3 xs k) : Int) ≤ 562949953421312 := by have := HN.out; have := B4.out; omega
          have hE2 := isE_t hE
          have HE := hid hE
          clear hE
          have D4 := hid (fun wx => DG.out (Sc.p4 xs (Sc.p3 xs k)) wx)
          cases hd : Sc.dg (Sc.pk xs (Sc.p4 xs (Sc.p3 xs k))) with
          | false =>
            rw [hd] at D4
            have SN : Hid (_ ∧ _) := sc_none (xs := xs) (k := k) (by unfold Sc.hasE; rw [hd, Bool.and_false])
            clear hd
            rcases hE2 with hE2 | hE2
            all_goals go_wp2_with fail
            all_goals (refine (PK.out (Sc.p3 xs k) _).mono ?_; rintro e w1 ⟨rfl, rfl⟩; go_wp2_with fail; refine (PKz.out _ (Sc.p3 xs k + 1) _ rfl).mono ?_; rintro e w1 ⟨rfl, rfl⟩; go_wp2_with fail; refine (PSz.out _ (Sc.p3 xs k + 1) (Sc.p4 xs (Sc.p3 xs k)) _ rfl rfl (by have := B3.out; omega)).mono ?_; rintro e w1 ⟨rfl, rfl⟩; go_wp2_with fail; refine (PK.out (Sc.p4 xs (Sc.p3 xs k)) _).mono ?_; rintro e w1 ⟨rfl, rfl⟩; go_wp2_with fail; refine (D4.out _).mono ?_; rintro e w1 ⟨rfl, rfl⟩; go_wp2_with fail)
            all_goals ((try simp only [Exit.inBlock, Exit.then]); refine bodyPost_ret (results_row_tmp rfl _ _ w.heap.size 71 _ (0, 0) _ rfl (M1.out.put _ _ _ _ _).1 Tryz.underlying71 rfl (by kernel_rfl)) rfl ?_; exact rd_some hs.out hA.out hB.out SN.out.1 SN.out.2 (M1.out.put _ _ _ _ _).2)
          | true =>
            rw [hd] at D4
            have HH : Hid (Sc.hasE xs (Sc.p3 xs k) = true) := by show _ = _; unfold Sc.hasE; rw [hd, HE.out]; rfl
            clear hd
            have M3 : Hid (RM w (w'.setCell ⟨w.heap.size + 1, 4, none⟩ (.int .i64 (Sc.p3 xs k : Nat))) (decide (Sc.pk xs k = 45)) A B (Sc.cap ((xs.drop (Sc.p4 xs (Sc.p3 xs k))).take (Sc.p4 xs (Sc.p3 xs k) - Sc.p4 xs (Sc.p3 xs k)))) (Sc.p3 xs k : Nat)) := by
              show RM _ _ _ _ _ _ _
              rw [Nat.sub_self]
              exact M1.out
            rcases hE2 with hE2 | hE2
            all_goals go_wp2_with fail
            all_goals (refine (PK.out (Sc.p3 xs k) _).mono ?_; rintro e w1 ⟨rfl, rfl⟩; go_wp2_with fail; refine (PKz.out _ (Sc.p3 xs k + 1) _ rfl).mono ?_; rintro e w1 ⟨rfl, rfl⟩; go_wp2_with fail; refine (PSz.out _ (Sc.p3 xs k + 1) (Sc.p4 xs (Sc.p3 xs k)) _ rfl rfl (by have := B3.out; omega)).mono ?_; rintro e w1 ⟨rfl, rfl⟩; go_wp2_with fail; refine (PK.out (Sc.p4 xs (Sc.p3 xs k)) _).mono ?_; rintro e w1 ⟨rfl, rfl⟩; go_wp2_with fail; refine (D4.out _).mono ?_; rintro e w1 ⟨rfl, rfl⟩; go_wp2_with fail)
            all_goals (go_step3; (try simp only [Exit.then]); rename_i hK; refine hK _ _ ?_; exact F.out 3 _ _ _ ⟨rfl, rfl, _, _, _, rfl, rfl, rfl, rfl, rfl, rfl, Sc.p4 xs (Sc.p3 xs k), rfl, RI.power _ _ _ _ hs.out hA.out hB.out HH.out (Nat.le_refl _) rfl M3.out⟩ (show 0 * (xs.length + 3) + (xs.length + 2 - Int.toNat (Sc.p4 xs (Sc.p3 xs k) : Int)) < 1 * (xs.length + 3) + (xs.length + 2 - Int.toNat (Sc.p3 xs k : Int)) by have := HN.out; have := B4.out; have := B1.out; have := B2.out; have := B3.out; omega) rfl)
      · have z1 : Sc.run Sc.dg xs (Sc.p1 xs k) = 0 := by unfold Sc.some? at hs; omega
        have z2 : Sc.bn xs k = 0 := by unfold Sc.some? at hs; omega
        rw [z1] at sA
        rw [z2] at sB
        clear z1 z2 nA nB
        replace m := hid m
        replace hs := hid hs
        go_wp2_with fail
        (try simp only [Exit.inBlock, Exit.then]); refine bodyPost_ret (results_row_tmp rfl _ _ w.heap.size 71 _ (0, 0) _ rfl (m.out.put _ _ _ _ _).1 Tryz.underlying71 rfl (by kernel_rfl)) rfl ?_; exact rd_none hs.out (m.out.put _ _ _ _ _).2
    | power j frm A B hs hA hB he h1 h2 m =>
      refine ⟨_, rfl, fun F => ?_⟩
      replace F := hid F
      have SS := hid (sc_some he)
      have B4 : Hid (j + Sc.run Sc.dg xs j ≤ xs.length) := by show _ ≤ _; rw [h2, ← (sc_some he).2]; exact BE.out
      have hj : (j : Int) ≤ 562949953421312 := by have := HN.out; have := B4.out; omega
      have cb := cap_bd h1 h2
      replace hs := hid hs
      replace hA := hid hA
      replace hB := hid hB
      replace he := hid he
      have D := hid (fun wx => DG.out j wx)
      obtain ⟨⟨c0, c1, c2, c3, c4⟩, f0, f1, f2, f3, f4⟩ := m.cells
      obtain ⟨⟨d0, d1, d2, d3, d4⟩, g0, g1, g2, g3, g4⟩ := m.room
      cases hd : Sc.dg (Sc.pk xs j) with
      | true =>
        rw [hd] at D
        have R := hid (Sc.run_succ Sc.dg0 hd)
        have hlt : j < xs.length := Sc.pk_lt (by have := Sc.dg_iff.1 hd; omega)
        have hx := HS.out.pk j
        have xb := Sc.dg_iff.1 hd
        have CM := hid (cap_more h1 hlt)
        have HLT := hid hlt
        have hli : (j : Int) < (xs.length : Int) := by omega
        replace h1 := hid h1
        replace h2 := hid h2
        replace m := hid m
        have M2 : Hid (∀ v : Int, v = min (10 * Sc.cap ((xs.drop (Sc.p4 xs (Sc.p3 xs k))).take (j - Sc.p4 xs (Sc.p3 xs k))) + (Sc.pk xs j - 48)) 1000000000000000 → RM w ((w'.setCell ⟨w.heap.size + 1, 3, none⟩ (.int .i64 v)).drew) (decide (Sc.pk xs k = 45)) A B (Sc.cap ((xs.drop (Sc.p4 xs (Sc.p3 xs k))).take (j + 1 - Sc.p4 xs (Sc.p3 xs k)))) (Sc.p3 xs k : Nat)) := fun v hv => by
          rw [CM.out, ← hv]
          exact (m.out.scale v).drew1
        clear hd hlt
        generalize Sc.cap ((xs.drop (Sc.p4 xs (Sc.p3 xs k))).take (j - Sc.p4 xs (Sc.p3 xs k))) = c at *
        have PKj := hid (fun wx => PK.out j wx)
        generalize Sc.pk xs j = x at *
        go_wp2_with fail
        refine (PKj.out _).mono ?_; rintro e w1 ⟨rfl, rfl⟩
        go_wp2_with fail
        refine (D.out _).mono ?_; rintro e w1 ⟨rfl, rfl⟩
        go_upto_region 26 with fail
        go_region
        go_wp2_with fail
        all_goals (go_step3; exact ⟨⟨rfl, rfl, _, _, _, rfl, rfl, rfl, rfl, rfl, rfl, j + 1, rfl, RI.power _ _ _ _ hs.out hA.out hB.out he.out (by have := h1.out; omega) (by have := h2.out; have := R.out; omega) (M2.out _ (by omega))⟩, (show 0 * (xs.length + 3) + (xs.length + 2 - Int.toNat ((j : Int) + 1)) < 0 * (xs.length + 3) + (xs.length + 2 - Int.toNat (j : Int)) by have := HN.out; have := HLT.out; have := B1.out; have := B2.out; have := B3.out; omega)⟩)
      | false =>
        rw [hd] at D
        have hj2 : j = Sc.p4 xs (Sc.p3 xs k) + Sc.run Sc.dg xs (Sc.p4 xs (Sc.p3 xs k)) := by have := h2; rw [Sc.run_zero Sc.dg0 hd] at this; exact this
        have EJ : Hid (j - Sc.p4 xs (Sc.p3 xs k) = Sc.run Sc.dg xs (Sc.p4 xs (Sc.p3 xs k))) := by show _ = _; omega
        have EN : Hid ((j : Int) = ((Sc.lit xs k).en : Nat)) := by show _ = _; rw [SS.out.2, ← hj2]
        clear hd hj2
        replace h1 := hid h1
        replace h2 := hid h2
        by_cases hn : Sc.pk xs (Sc.p3 xs k + 1) = 45
        · have E1 : Hid (- Sc.cap ((xs.drop (Sc.p4 xs (Sc.p3 xs k))).take (j - Sc.p4 xs (Sc.p3 xs k))) = (Sc.lit xs k).sc) := by show _ = _; rw [SS.out.1, if_pos hn, EJ.out]
          have M2 := hid ((m.scale (- Sc.cap ((xs.drop (Sc.p4 xs (Sc.p3 xs k))).take (j - Sc.p4 xs (Sc.p3 xs k))))).en (j : Int))
          rw [decide_eq_true hn]
          clear hn m
          generalize Sc.cap ((xs.drop (Sc.p4 xs (Sc.p3 xs k))).take (j - Sc.p4 xs (Sc.p3 xs k))) = c at *
          go_wp2_with fail
          refine (PK.out j _).mono ?_; rintro e w1 ⟨rfl, rfl⟩
          go_wp2_with fail
          refine (D.out _).mono ?_; rintro e w1 ⟨rfl, rfl⟩
          go_wp2_with fail
          (try simp only [Exit.inBlock, Exit.then]); refine bodyPost_ret (results_row_tmp rfl _ _ w.heap.size 71 _ (0, 0) _ rfl (M2.out.put _ _ _ _ _).1 Tryz.underlying71 rfl (by kernel_rfl)) rfl ?_; exact rd_some hs.out hA.out hB.out E1.out EN.out (M2.out.put _ _ _ _ _).2
        · have E1 : Hid (Sc.cap ((xs.drop (Sc.p4 xs (Sc.p3 xs k))).take (j - Sc.p4 xs (Sc.p3 xs k))) = (Sc.lit xs k).sc) := by show _ = _; rw [SS.out.1, if_neg hn, EJ.out]
          have M2 := hid (m.en (j : Int))
          rw [decide_eq_false hn]
          clear hn m
          generalize Sc.cap ((xs.drop (Sc.p4 xs (Sc.p3 xs k))).take (j - Sc.p4 xs (Sc.p3 xs k))) = c at *
          go_wp2_with fail
          refine (PK.out j _).mono ?_; rintro e w1 ⟨rfl, rfl⟩
          go_wp2_with fail
          refine (D.out _).mono ?_; rintro e w1 ⟨rfl, rfl⟩
          go_wp2_with fail
          (try simp only [Exit.inBlock, Exit.then]); refine bodyPost_ret (results_row_tmp rfl _ _ w.heap.size 71 _ (0, 0) _ rfl (M2.out.put _ _ _ _ _).1 Tryz.underlying71 rfl (by kernel_rfl)) rfl ?_; exact rd_some hs.out hA.out hB.out E1.out EN.out (M2.out.put _ _ _ _ _).2
end Go.Proofs.YtaoaniigbooihaaGreatDoor

namespace Go.Proofs.YtaoaniigbooihaaGreatDoor
open Go Go.RowKit Go.Deep




theorem Str.append {s t : ByteArray} {xs ys : List Int} (h : Str s xs) (k : Str t ys) : Str (s ++ t) (xs ++ ys) := by
  unfold Str at *
  rw [ByteArray.data_append, Array.toList_append, List.map_append, h, k]

/-- A literal's box and room for a Dec. -/
def LitBox (w w' : World) (neg : Bool) (A B : ByteArray) (sc en : Int) : Prop := Below w.heap.size w w' ∧ Row5 w' w.heap.size 71 (.bool neg) (.string A) (.string B) (.int .i64 sc) (.int .i64 en) ∧ Row3 w' (w.heap.size + 1) (.bool false) (.string ⟨#[]⟩) (.int .i64 0)
theorem LitBox.new (w : World) (neg : Bool) (A B : ByteArray) (sc en : Int) : LitBox w ((w.alloc (.cells #[.bool neg, .string A, .string B, .int .i64 sc, .int .i64 en] 71)).alloc (.cells #[.bool false, .string ⟨#[]⟩, .int .i64 0] 39)) neg A B sc en :=
  ⟨below_on (alloc_b _ _) (alloc_b _ _), heap_alloc2_old _ _ _, heap_alloc2_new _ _ _⟩
theorem LitBox.on {w w' w'' : World} {neg : Bool} {A B : ByteArray} {sc en : Int} (h : LitBox w w' neg A B sc en) (k : Below w'.heap.size w' w'') : LitBox w w'' neg A B sc en :=
  ⟨below_on h.1 k, h.2.1.below k h.2.1.lt, h.2.2.below k h.2.2.lt⟩
theorem LitBox.put {w w' : World} {neg : Bool} {A B : ByteArray} {sc en : Int} (h : LitBox w w' neg A B sc en) (x0 x1 x2 : Value) :
    Row3 (((w'.setCell ⟨w.heap.size + 1, 0, none⟩ x0).setCell ⟨w.heap.size + 1, 1, none⟩ x1).setCell ⟨w.heap.size + 1, 2, none⟩ x2) (w.heap.size + 1) x0 x1 x2 ∧ Below w.heap.size w (((w'.setCell ⟨w.heap.size + 1, 0, none⟩ x0).setCell ⟨w.heap.size + 1, 1, none⟩ x1).setCell ⟨w.heap.size + 1, 2, none⟩ x2) :=
  ⟨h.2.2.put _ _ _, set3_below h.1 (Nat.le_succ _)⟩



set_option maxRecDepth 100000 in
set_option maxHeartbeats 1000000 in
theorem ldec_any (neg : Bool) (A B : ByteArray) (xs ys : List Int) (sc en : Int) (w : World) (hA : Str A xs) (hB : Str B ys) (hn : xs.length + ys.length ≤ 281474976710655) (s0 : -1000000000000000 ≤ sc) (s1 : sc ≤ 1000000000000000) :
    Calls Tryz.prog 39 #[litV neg A B sc en] w fun r w' => ∃ v, r = .returned v ∧ DecIs v (Sc.nrm neg (xs ++ ys) (sc - ys.length)) ∧ Below w.heap.size w w' := by
  have T := hid (fun wx => dtrim_any neg (A ++ B) (xs ++ ys) (sc - ys.length) wx (hA.append hB) (by simp; omega) (by omega) (by omega))
  have O : Hid (∀ s wx, Str s (Sc.nrm neg (xs ++ ys) (sc - ys.length)).ds → Calls Tryz.prog 69 #[decV (Sc.nrm neg (xs ++ ys) (sc - ys.length)).neg s (Sc.nrm neg (xs ++ ys) (sc - ys.length)).e] wx fun r w' => r = .returned (decV (Sc.nrm neg (xs ++ ys) (sc - ys.length)).neg s (Sc.nrm neg (xs ++ ys) (sc - ys.length)).e) ∧ Below wx.heap.size wx w') := fun s wx h => own_any _ s _ wx (by rw [h.size]; exact nrm_ds_len _ _ _ (by simp; omega))
  have Z := hid (LitBox.new w neg A B sc en)
  have hsA := hA.size
  have hsB := hB.size
  have yb : (ys.length : Int) ≤ 281474976710655 := by omega
  have ncat : ¬ (9223372036854775807 < xs.length + ys.length) := by omega
  clear hA hB hn
  generalize Sc.nrm neg (xs ++ ys) (sc - ys.length) = D at *
  unfold litV
  unfold decV at T O
  go_enter Tryz.func39, Tryz.ntmps39
  go_wp2_with fail
  refine (T.out _).mono ?_
  rintro r w1 ⟨v, rfl, ⟨s2, hv, h2⟩, hB⟩
  unfold decV at hv
  subst hv
  have O2 := hid (fun wx => O.out s2 wx h2)
  have H2 := hid h2
  have S1 := hid (Z.out.on hB)
  clear h2 hB O T Z
  go_wp2_with fail
  refine (O2.out _).mono ?_
  rintro r w2 ⟨rfl, hB⟩
  have S2 := hid (S1.out.on hB)
  obtain ⟨⟨d0, d1, d2⟩, g0, g1, g2⟩ := S2.out.2.2.cells
  clear hB S1 O2
  go_wp2_with fail
  (try simp only [Exit.inBlock, Exit.then])
  refine bodyPost_ret (results_cell_row rfl _ _ (w.heap.size + 1) 39 _ (0, 0) _ rfl (S2.out.put _ _ _).1 Tryz.underlying39 rfl (by kernel_rfl)) rfl ?_
  exact dec_ret ⟨_, rfl, H2.out⟩ (S2.out.put _ _ _).2

/-- Room for the answer; the literal in its box. -/
def NSt (w wx : World) (b : Nat) (neg : Bool) (A B : ByteArray) (sc en : Int) : Prop :=
  Below w.heap.size w wx ∧ Row3 wx w.heap.size (.bool false) (.string ⟨#[]⟩) (.int .i64 0) ∧ Row5 wx b 71 (.bool neg) (.string A) (.string B) (.int .i64 sc) (.int .i64 en)
theorem NSt.new {w w1 : World} (hB : Below (w.alloc (.cells #[.bool false, .string ⟨#[]⟩, .int .i64 0] 39)).heap.size (w.alloc (.cells #[.bool false, .string ⟨#[]⟩, .int .i64 0] 39)) w1) (neg : Bool) (A B : ByteArray) (sc en : Int) :
    NSt w (w1.alloc (.cells #[.bool neg, .string A, .string B, .int .i64 sc, .int .i64 en] 71)) w1.heap.size neg A B sc en := by
  have r := (Row3.new w (.bool false) (.string ⟨#[]⟩) (.int .i64 0)).below hB (Row3.new w _ _ _).lt
  exact ⟨below_on (below_on (alloc_b _ _) hB) (alloc_b _ _), r.below (alloc_b _ _) r.lt, heap_alloc_new _ _⟩
theorem NSt.on {w wx w' : World} {b : Nat} {neg : Bool} {A B : ByteArray} {sc en : Int} (h : NSt w wx b neg A B sc en) (k : Below wx.heap.size wx w') : NSt w w' b neg A B sc en :=
  ⟨below_on h.1 k, h.2.1.below k h.2.1.lt, h.2.2.below k h.2.2.lt⟩
theorem NSt.drew {w wx : World} {b : Nat} {neg : Bool} {A B : ByteArray} {sc en : Int} (h : NSt w wx b neg A B sc en) : NSt w wx.drew b neg A B sc en :=
  h.on (below_drewN (Below.refl _ _) 1)
theorem NSt.flat {w wx : World} {b : Nat} {neg : Bool} {A B : ByteArray} {sc en : Int} (h : NSt w wx b neg A B sc en) :
    (wx.cell? ⟨b, 0, none⟩ = some (.bool neg) ∧ wx.cell? ⟨b, 1, none⟩ = some (.string A) ∧ wx.cell? ⟨b, 2, none⟩ = some (.string B) ∧ wx.cell? ⟨b, 3, none⟩ = some (.int .i64 sc) ∧ wx.cell? ⟨b, 4, none⟩ = some (.int .i64 en)) ∧
    (wx.cell? ⟨w.heap.size, 0, none⟩ = some (.bool false) ∧ wx.cell? ⟨w.heap.size, 1, none⟩ = some (.string ⟨#[]⟩) ∧ wx.cell? ⟨w.heap.size, 2, none⟩ = some (.int .i64 0)) ∧
    (wx.frozen? ⟨w.heap.size, 0, none⟩ = false ∧ wx.frozen? ⟨w.heap.size, 1, none⟩ = false ∧ wx.frozen? ⟨w.heap.size, 2, none⟩ = false) :=
  ⟨h.2.2.cells.1, h.2.1.cells.1, h.2.1.cells.2⟩
def Five (wx : World) (b : Nat) (neg : Bool) (A B : ByteArray) (sc en : Int) : Prop := wx.cell? ⟨b, 0, none⟩ = some (.bool neg) ∧ wx.cell? ⟨b, 1, none⟩ = some (.string A) ∧ wx.cell? ⟨b, 2, none⟩ = some (.string B) ∧ wx.cell? ⟨b, 3, none⟩ = some (.int .i64 sc) ∧ wx.cell? ⟨b, 4, none⟩ = some (.int .i64 en)
theorem NSt.five {w wx : World} {b : Nat} {neg : Bool} {A B : ByteArray} {sc en : Int} (h : NSt w wx b neg A B sc en) : wx.cell? ⟨b, 0, none⟩ = some (.bool neg) ∧ wx.cell? ⟨b, 1, none⟩ = some (.string A) ∧ wx.cell? ⟨b, 2, none⟩ = some (.string B) ∧ wx.cell? ⟨b, 3, none⟩ = some (.int .i64 sc) ∧ wx.cell? ⟨b, 4, none⟩ = some (.int .i64 en) := h.2.2.cells.1
theorem NSt.fiveP {w wx : World} {b : Nat} {neg : Bool} {A B : ByteArray} {sc en : Int} (h : NSt w wx b neg A B sc en) (hb : w.heap.size ≠ b) (x0 x1 x2 : Value) :
    (((wx.setCell ⟨w.heap.size, 0, none⟩ x0).setCell ⟨w.heap.size, 1, none⟩ x1).setCell ⟨w.heap.size, 2, none⟩ x2).cell? ⟨b, 0, none⟩ = some (.bool neg) ∧ (((wx.setCell ⟨w.heap.size, 0, none⟩ x0).setCell ⟨w.heap.size, 1, none⟩ x1).setCell ⟨w.heap.size, 2, none⟩ x2).cell? ⟨b, 1, none⟩ = some (.string A) ∧ (((wx.setCell ⟨w.heap.size, 0, none⟩ x0).setCell ⟨w.heap.size, 1, none⟩ x1).setCell ⟨w.heap.size, 2, none⟩ x2).cell? ⟨b, 2, none⟩ = some (.string B) ∧ (((wx.setCell ⟨w.heap.size, 0, none⟩ x0).setCell ⟨w.heap.size, 1, none⟩ x1).setCell ⟨w.heap.size, 2, none⟩ x2).cell? ⟨b, 3, none⟩ = some (.int .i64 sc) ∧ (((wx.setCell ⟨w.heap.size, 0, none⟩ x0).setCell ⟨w.heap.size, 1, none⟩ x1).setCell ⟨w.heap.size, 2, none⟩ x2).cell? ⟨b, 4, none⟩ = some (.int .i64 en) :=
  (((h.2.2.set_far hb).set_far hb).set_far hb).cells.1
theorem NSt.put {w wx : World} {b : Nat} {neg : Bool} {A B : ByteArray} {sc en : Int} (h : NSt w wx b neg A B sc en) (x0 x1 x2 : Value) :
    Row3 (((wx.setCell ⟨w.heap.size, 0, none⟩ x0).setCell ⟨w.heap.size, 1, none⟩ x1).setCell ⟨w.heap.size, 2, none⟩ x2) w.heap.size x0 x1 x2 ∧ Below w.heap.size w (((wx.setCell ⟨w.heap.size, 0, none⟩ x0).setCell ⟨w.heap.size, 1, none⟩ x1).setCell ⟨w.heap.size, 2, none⟩ x2) :=
  ⟨h.2.1.put _ _ _, set3_below h.1 (Nat.le_refl _)⟩

/-- What Number tells. -/
def NumTold (xs : List Int) (w : World) (e : Ending) (w' : World) : Prop := ∃ v, e = .returned (.tuple #[v, .int .i64 ((Sc.num xs).2 : Nat)]) ∧ DecIs v (Sc.num xs).1 ∧ Below w.heap.size w w'
def WhlTold (xs : List Int) (w : World) (e : Ending) (w' : World) : Prop := ∃ v, e = .returned (.tuple #[v, .bool (Sc.whl xs).2]) ∧ DecIs v (Sc.whl xs).1 ∧ Below w.heap.size w w'

set_option maxRecDepth 100000 in
set_option maxHeartbeats 2000000 in
theorem number_any (s : ByteArray) (xs : List Int) (w : World) (hs : Str s xs) (hn : xs.length ≤ 562949953421312) (hn2 : Sc.some? xs (Sc.run Sc.bl xs 0) → (Sc.lit xs (Sc.run Sc.bl xs 0)).ah.length + (Sc.lit xs (Sc.run Sc.bl xs 0)).bh.length ≤ 281474976710655) :
    Calls Tryz.prog 34 #[.string s] w fun e w' => NumTold xs w e w' := by
  have BL : Hid (∀ wx, Calls Tryz.prog 38 #[.string s, .int .i64 0] wx fun e w' => e = .returned (.int .i64 (Sc.run Sc.bl xs 0 : Nat)) ∧ w' = wx) := fun wx => by
    have := blanks_any s xs 0 wx hs hn (Nat.zero_le _)
    rw [Nat.zero_add] at this
    exact this
  have RD := hid (fun wx => vread_any s xs (Sc.run Sc.bl xs 0) wx hs hn (by have := Sc.run_le Sc.bl xs 0; omega))
  have NE : Hid (Sc.some? xs (Sc.run Sc.bl xs 0) → Sc.num xs = ((Sc.lit xs (Sc.run Sc.bl xs 0)).d, (Sc.lit xs (Sc.run Sc.bl xs 0)).en)) := fun c => by unfold Sc.num; rw [if_pos c]
  have NZ : Hid (¬ Sc.some? xs (Sc.run Sc.bl xs 0) → Sc.num xs = (⟨false, [], 0⟩, 0)) := fun c => by unfold Sc.num; rw [if_neg c]
  have LS := hid (Sc.lit_sc xs (Sc.run Sc.bl xs 0))
  have H2 := hid hn2
  clear hs hn hn2
  generalize Sc.run Sc.bl xs 0 = K at *
  go_enter Tryz.func34, Tryz.ntmps34
  go_wp2_with fail
  refine (BL.out _).mono ?_
  rintro e w1 ⟨rfl, rfl⟩
  go_wp2_with fail
  refine (RD.out _).mono ?_
  rintro e w1 ⟨h | ⟨h, rfl⟩, hB⟩
  · obtain ⟨hs, A, B, rfl, hA, hB'⟩ := h
    have ST := hid (NSt.new hB (Sc.lit xs K).neg A B (Sc.lit xs K).sc ((Sc.lit xs K).en : Nat))
    have DC := hid (fun wx => ldec_any (Sc.lit xs K).neg A B (Sc.lit xs K).ah (Sc.lit xs K).bh (Sc.lit xs K).sc ((Sc.lit xs K).en : Nat) wx hA hB' (H2.out hs) LS.out.1 LS.out.2)
    have NB0 : Hid (w.heap.size ≠ w1.heap.size) := by
      have := hB.size
      rw [show (w.alloc (.cells #[.bool false, .string ⟨#[]⟩, .int .i64 0] 39)).heap.size = w.heap.size + 1 by simp] at this
      show _ ≠ _; omega
    have NE' := hid (NE.out hs)
    clear hB hA hB' hs H2 LS NE NZ RD BL
    have ED : Hid (Sc.nrm (Sc.lit xs K).neg ((Sc.lit xs K).ah ++ (Sc.lit xs K).bh) ((Sc.lit xs K).sc - (Sc.lit xs K).bh.length) = (Sc.num xs).1) := by rw [NE'.out]; rfl
    have EE : Hid ((Sc.lit xs K).en = (Sc.num xs).2) := by rw [NE'.out]; rfl
    rw [ED.out] at DC
    rw [EE.out] at DC ST
    unfold litV at DC ⊢
    rw [EE.out]
    clear ED EE NE'
    generalize Sc.lit xs K = l at *
    go_upto_region 4 with fail
    generalize w1.alloc (.cells #[.bool l.neg, .string A, .string B, .int .i64 l.sc, .int .i64 ((Sc.num xs).2 : Nat)] 71) = wA at *
    have NB : Hid (w.heap.size ≠ w1.heap.size) := NB0.out
    generalize w1.heap.size = b at *
    have SD := hid ST.out.drew
    have FF : Hid (∀ v, DecIs v (Sc.num xs).1 → ∃ t, v = .agg #[.bool (Sc.num xs).1.neg, .string t, .int .i64 (Sc.num xs).1.e] ∧ Str t (Sc.num xs).1.ds) := fun v h => h
    go_region_held3 (fun w' => w'.cell? ⟨b, 0, none⟩ = some (.bool l.neg) ∧ w'.cell? ⟨b, 1, none⟩ = some (.string A) ∧ w'.cell? ⟨b, 2, none⟩ = some (.string B) ∧ w'.cell? ⟨b, 3, none⟩ = some (.int .i64 l.sc) ∧ w'.cell? ⟨b, 4, none⟩ = some (.int .i64 ((Sc.num xs).2 : Nat))) (first | (with_reducible exact T1.out.fiveP NB.out _ _ _) | (with_reducible exact T1.out.five) | (with_reducible exact SD.out.five)) (first | (go_at_call 39; refine (DC.out _).mono ?_; rintro e w2 ⟨v, rfl, hv, hB⟩; obtain ⟨t, rfl, ht⟩ := FF.out _ hv; have HT := hid ht; have T1 := hid (SD.out.on hB); obtain ⟨-, ⟨d0, d1, d2⟩, g0, g1, g2⟩ := T1.out.flat; clear hv hB ht))
    all_goals go_wp2_with fail
    all_goals (try simp only [Exit.inBlock, Exit.then])
    all_goals (refine bodyPost_ret (results_row_tmp rfl _ _ w.heap.size 39 _ (0, 0) _ rfl (T1.out.put _ _ _).1 Tryz.underlying39 rfl (by kernel_rfl)) rfl ?_; exact ⟨_, rfl, ⟨_, rfl, HT.out⟩, (T1.out.put _ _ _).2⟩)
  · have ST := hid (NSt.new hB false ⟨#[]⟩ ⟨#[]⟩ 0 0)
    obtain ⟨-, ⟨d0, d1, d2⟩, g0, g1, g2⟩ := ST.out.flat
    have NZ' := hid (NZ.out h)
    clear hB h H2 LS NE NZ RD BL
    have EE : Hid ((Sc.num xs).2 = 0) := by rw [NZ'.out]; rfl
    unfold litV
    have F : Hid (∀ w', Below w.heap.size w w' → NumTold xs w (.returned (.tuple #[.agg #[.bool false, .string ⟨#[]⟩, .int .i64 0], .int .i64 0])) w') := fun w' b => ⟨_, by rw [NZ'.out]; rfl, by rw [NZ'.out]; exact ⟨_, rfl, str_nil0⟩, b⟩
    clear EE NZ'
    go_wp2_with fail
    (try simp only [Exit.inBlock, Exit.then])
    refine bodyPost_ret (results_row_tmp rfl _ _ w.heap.size 39 _ (0, 0) _ rfl (ST.out.put _ _ _).1 Tryz.underlying39 rfl (by kernel_rfl)) rfl ?_
    exact F.out _ (ST.out.put _ _ _).2

end Go.Proofs.YtaoaniigbooihaaGreatDoor

namespace Go.Proofs.YtaoaniigbooihaaGreatDoor
open Go Go.RowKit Go.Deep Go.Shelf

theorem numb_any (xs : List Int) (w : World) (hx : Wh.By xs) (hl : xs.length ≤ 100000) :
    Calls Tryz.prog 34 #[.string (strOfNums xs)] w fun e w' => NumTold xs w e w' :=
  number_any _ xs w (Str.of_nums hx) (by omega) (fun _ => by have := Sc.lit_len xs (Sc.run Sc.bl xs 0); omega)

/-- What places tells. -/
def Po.pn (q : Int) : Int := if q < 0 then 0 else q
structure Po.PlI (xs : List Int) (j : Nat) (E : Int) : Prop where
  by_ : Wh.By xs
  len : xs.length ≤ 40000
  le : j ≤ xs.length
  no : ∀ i, i < j → xs.getD i 0 ≠ 101 ∧ xs.getD i 0 ≠ 69
  fin : (j = xs.length ∧ E = 0) ∨ (j < xs.length ∧ (xs.getD j 0 = 101 ∨ xs.getD j 0 = 69) ∧ Sc.num (49 :: xs.drop j) = (⟨false, [49], E⟩, xs.length - j + 1))

set_option maxRecDepth 100000 in
set_option maxHeartbeats 4000000 in
theorem pplaces_any (xs : List Int) (j : Nat) (E : Int) (w : World) (h : Po.PlI xs j E) :
    Calls Tryz.prog 17 #[.string (strOfNums xs)] w fun e w' => e = .returned (.tuple #[.int .i64 (Po.pn (Po.nst (xs.take j))), .int .i64 E]) ∧ Below w.heap.size w w' := by
  have HH := hid h
  have sz : (strOfNums xs).size = xs.length := strOfNums_size xs
  have AT : Hid (∀ t (k : t < (strOfNums xs).size), (((strOfNums xs)[t]'k).toNat : Int) = xs.getD t 0) := fun t k => (Str.of_nums h.by_).at t k
  have lb : (xs.length : Int) ≤ 40000 := by have := h.len; omega
  have NS := hid (fun t (k : t < xs.length) => Po.nst_take k)
  have NB := hid (fun t => Po.nst_bd (xs.take t))
  have PN : Hid (∀ q, Po.pn q = if q < 0 then 0 else q) := fun q => rfl
  have LE := hid h.le
  generalize hL : xs.length = L at *
  generalize hS : strOfNums xs = s at *
  clear h
  go_enter Tryz.func17, Tryz.ntmps17
  go_wp2_with fail
  go_loopg [4, 6] j (fun k n i wr => ∃ t : Nat, t + k = j ∧ n = .int .i64 (Po.nst (xs.take t)) ∧ i = .int .i64 (t : Int) ∧ wr = w)
  case atStart => exact ⟨0, by omega, rfl, rfl, rfl⟩
  case round =>
    obtain ⟨t, ht, rfl, rfl, hw⟩ := hrel
    have hw := hw.symm
    subst hw
    have nb := NB.out t
    obtain ⟨x, hx⟩ : ∃ x, xs.getD t 0 = x := ⟨_, rfl⟩
    have at' : ∀ k : t < s.size, ((s[t]'k).toNat : Int) = x := fun k => by rw [AT.out t k, hx]
    have n0 : -1 ≤ Po.nst (xs.take t) := nb.1
    have n1 : Po.nst (xs.take t) ≤ 40000 := by have := nb.2; rw [List.length_take] at this; omega
    by_cases hj : t < j
    · have htl : t < L := by have := LE.out; omega
      have hti : (t : Int) < (L : Int) := by omega
      have no := HH.out.no t hj
      rw [hx] at no
      have k1 : (x == 101) = false := by rw [beq_eq_false_iff_ne]; exact no.1
      have k2 : (x == 69) = false := by rw [beq_eq_false_iff_ne]; exact no.2
      have ns := NS.out t htl
      rw [hx] at ns
      by_cases h46 : x = 46
      · rw [if_pos h46] at ns
        have ns := hid ns
        have hx := hid hx
        subst h46
        clear nb no
        go_wp2_with fail
        go_roundg (j - (t + 1))
        case measure => omega
        case rel => exact ⟨t + 1, by omega, by rw [ns.out], by go_num, rfl⟩
      · rw [if_neg h46] at ns
        have k3 : (x == 46) = false := by rw [beq_eq_false_iff_ne]; exact h46
        by_cases hq : 0 ≤ Po.nst (xs.take t)
        · rw [if_pos hq] at ns
          have ns := hid ns
          have hx := hid hx
          clear nb no h46
          generalize Po.nst (xs.take t) = q at *
          go_wp2_with fail
          go_roundg (j - (t + 1))
          case measure => omega
          case rel => exact ⟨t + 1, by omega, by rw [ns.out], by go_num, rfl⟩
        · rw [if_neg hq] at ns
          have ns := hid ns
          have hx := hid hx
          clear nb no h46
          generalize Po.nst (xs.take t) = q at *
          go_wp2_with fail
          go_roundg (j - (t + 1))
          case measure => omega
          case rel => exact ⟨t + 1, by omega, by rw [ns.out], by go_num, rfl⟩
    · have htj : t = j := by omega
      subst htj
      have pn := PN.out (Po.nst (xs.take t))
      rcases HH.out.fin with ⟨e1, e2⟩ | ⟨e1, e2, e3⟩
      · rw [hL] at e1
        have hti : ¬ (t : Int) < (L : Int) := by omega
        subst e2
        have B := hid (Below.refl w.heap.size w)
        have hx := hid hx
        clear nb hj HH e1
        by_cases hq : Po.nst (xs.take t) < 0
        · rw [if_pos hq] at pn
          replace pn := hid pn
          generalize hqq : Po.nst (xs.take t) = q at n0 n1 hq ⊢
          replace hqq := hid hqq
          go_wp2_with fail
          go_ret2
          exact ⟨by first | (rw [pn.out]; rfl) | (rw [pn.out, hqq.out]; rfl), B.out⟩
        · rw [if_neg hq] at pn
          replace pn := hid pn
          generalize hqq : Po.nst (xs.take t) = q at n0 n1 hq ⊢
          replace hqq := hid hqq
          go_wp2_with fail
          go_ret2
          exact ⟨by first | (rw [pn.out]; rfl) | (rw [pn.out, hqq.out]; rfl), B.out⟩
      · rw [hL] at e1 e3
        rw [hx] at e2
        have hti : (t : Int) < (L : Int) := by omega
        have DR : Str (s.extract t L) (xs.drop t) := by
          have q := (Str.of_nums HH.out.by_).extract t L
          rw [hS, List.take_of_length_le (by rw [List.length_drop]; omega)] at q
          exact q
        have DB : Wh.By (49 :: xs.drop t) := Wh.By.cons (by omega) (fun y hy => HH.out.by_ y (List.mem_of_mem_drop hy))
        have dz : ((s.extract t L).size : Int) ≤ 40000 := by rw [DR.size, List.length_drop]; omega
        have NM : Hid (∀ wk, Calls Tryz.prog 34 #[.string ((⟨#[49]⟩ : ByteArray) ++ s.extract t L)] wk fun e w' => ∃ q, e = .returned (.tuple #[.agg #[.bool false, .string q, .int .i64 E], .int .i64 ((L : Int) - t + 1)]) ∧ Below wk.heap.size wk w') := by
          intro wk
          have e : (⟨#[49]⟩ : ByteArray) ++ s.extract t L = strOfNums (49 :: xs.drop t) := str_is (Str.app (show Str ⟨#[49]⟩ [49] from rfl) DR)
          rw [e]
          refine (numb_any _ wk DB (by rw [List.length_cons, List.length_drop]; omega)).mono ?_
          rintro e w' ⟨v, rfl, hv, hB⟩
          rw [e3] at hv ⊢
          obtain ⟨q, rfl, hq⟩ := hv
          refine ⟨q, ?_, hB⟩
          show Ending.returned (.tuple #[.agg #[.bool false, .string q, .int .i64 E], .int .i64 ((L - t + 1 : Nat) : Int)]) = _
          rw [show ((L - t + 1 : Nat) : Int) = (L : Int) - t + 1 by omega]
        have hx := hid hx
        clear nb hj HH e1 DR DB e3
        rcases e2 with rfl | rfl
        · by_cases hq : Po.nst (xs.take t) < 0
          · rw [if_pos hq] at pn
            replace pn := hid pn
            generalize hqq : Po.nst (xs.take t) = q at n0 n1 hq ⊢
            replace hqq := hid hqq
            go_wp2_with fail
            with_reducible refine (NM.out _).mono ?_
            rintro e w1 ⟨q1, rfl, b1⟩
            have A1 := hid (below_on b1 (alloc_b w1 (.cells #[.bool false, .string q1, .int .i64 E] 39)))
            have A2 : Hid (∀ k, Below w.heap.size w ((w1.alloc (.cells #[.bool false, .string q1, .int .i64 E] 39)).drewN k)) := fun k => below_drewN A1.out k
            clear b1 NM
            go_upto_region 14 with fail
            go_quiet (fail)
            go_wp2_with fail
            go_ret2
            exact ⟨by first | (rw [pn.out]; rfl) | (rw [pn.out, hqq.out]; rfl), A2.out _⟩
          · rw [if_neg hq] at pn
            replace pn := hid pn
            generalize hqq : Po.nst (xs.take t) = q at n0 n1 hq ⊢
            replace hqq := hid hqq
            go_wp2_with fail
            with_reducible refine (NM.out _).mono ?_
            rintro e w1 ⟨q1, rfl, b1⟩
            have A1 := hid (below_on b1 (alloc_b w1 (.cells #[.bool false, .string q1, .int .i64 E] 39)))
            have A2 : Hid (∀ k, Below w.heap.size w ((w1.alloc (.cells #[.bool false, .string q1, .int .i64 E] 39)).drewN k)) := fun k => below_drewN A1.out k
            clear b1 NM
            go_upto_region 14 with fail
            go_quiet (fail)
            go_wp2_with fail
            go_ret2
            exact ⟨by first | (rw [pn.out]; rfl) | (rw [pn.out, hqq.out]; rfl), A2.out _⟩
        · by_cases hq : Po.nst (xs.take t) < 0
          · rw [if_pos hq] at pn
            replace pn := hid pn
            generalize hqq : Po.nst (xs.take t) = q at n0 n1 hq ⊢
            replace hqq := hid hqq
            go_wp2_with fail
            with_reducible refine (NM.out _).mono ?_
            rintro e w1 ⟨q1, rfl, b1⟩
            have A1 := hid (below_on b1 (alloc_b w1 (.cells #[.bool false, .string q1, .int .i64 E] 39)))
            have A2 : Hid (∀ k, Below w.heap.size w ((w1.alloc (.cells #[.bool false, .string q1, .int .i64 E] 39)).drewN k)) := fun k => below_drewN A1.out k
            clear b1 NM
            go_upto_region 14 with fail
            go_quiet (fail)
            go_wp2_with fail
            go_ret2
            exact ⟨by first | (rw [pn.out]; rfl) | (rw [pn.out, hqq.out]; rfl), A2.out _⟩
          · rw [if_neg hq] at pn
            replace pn := hid pn
            generalize hqq : Po.nst (xs.take t) = q at n0 n1 hq ⊢
            replace hqq := hid hqq
            go_wp2_with fail
            with_reducible refine (NM.out _).mono ?_
            rintro e w1 ⟨q1, rfl, b1⟩
            have A1 := hid (below_on b1 (alloc_b w1 (.cells #[.bool false, .string q1, .int .i64 E] 39)))
            have A2 : Hid (∀ k, Below w.heap.size w ((w1.alloc (.cells #[.bool false, .string q1, .int .i64 E] 39)).drewN k)) := fun k => below_drewN A1.out k
            clear b1 NM
            go_upto_region 14 with fail
            go_quiet (fail)
            go_wp2_with fail
            go_ret2
            exact ⟨by first | (rw [pn.out]; rfl) | (rw [pn.out, hqq.out]; rfl), A2.out _⟩

/-- The place and the exponent of what Render writes. -/
theorem Po.pl_text {V k : Int} {g a b : List Int} {h : Bool} (hg : ∀ x ∈ g, x = 45) (gl : g.length ≤ 1) (ha : Digs a) (hb : Digs b) (la : a.length ≤ 10000) (lb : b.length ≤ 10000) (h0 : -400 ≤ k) (h1 : k ≤ 400) :
    Po.PlI (g ++ Po.wrt a b (Po.ex V k) h) (g ++ Po.hd a b h).length k ∧ Po.pn (Po.nst ((g ++ Po.wrt a b (Po.ex V k) h).take (g ++ Po.hd a b h).length)) = b.length := by
  have e : g ++ Po.wrt a b (Po.ex V k) h = (g ++ Po.hd a b h) ++ Po.ex V k := by rw [Po.wrt_hd, List.append_assoc]
  have nE := Po.noE_hd (g := g) (h := h) (fun x hx => by have := hg x hx; omega) ha hb
  have hl : (Po.hd a b h).length ≤ a.length + b.length + 1 := by
    unfold Po.hd
    split
    · omega
    · rw [List.length_append, List.length_cons]; omega
  have xl := Po.ex_len (V := V) h0 h1
  rw [e]
  have x0 : (Po.ex V k).getD 0 0 = if Po.cap V = true then 69 else 101 := rfl
  have xp : 0 < (Po.ex V k).length := by simp [Po.ex]
  refine ⟨⟨?_, by simp only [List.length_append]; omega, by simp, ?_, .inr ⟨by simp only [List.length_append]; omega, ?_, ?_⟩⟩, ?_⟩
  · exact ((Wh.By.app (fun x hx => by have := hg x hx; omega) (by unfold Po.hd; split; exact Po.digs_by ha; exact (Po.digs_by ha).app (Wh.By.cons (by omega) (Po.digs_by hb))))).app (Po.ex_by _ _)
  · intro i hi
    have : (g ++ Po.hd a b h ++ Po.ex V k).getD i 0 = (g ++ Po.hd a b h).getD i 0 := by rw [List.getD_eq_getElem?_getD, List.getD_eq_getElem?_getD, List.getElem?_append_left hi]
    rw [this]
    have m : (g ++ Po.hd a b h).getD i 0 ∈ g ++ Po.hd a b h := by simp [List.getD, List.getElem?_eq_getElem hi]
    exact nE _ m
  · have : (g ++ Po.hd a b h ++ Po.ex V k).getD (g ++ Po.hd a b h).length 0 = (Po.ex V k).getD 0 0 := by simp [List.getD, List.getElem?_append_right]
    rw [this, x0]
    split
    · exact .inr rfl
    · exact .inl rfl
  · rw [List.drop_left, Po.num_ex h0 h1, List.length_append, Nat.add_sub_cancel_left]
  · rw [List.take_left]
    exact Po.nst_hd (fun x hx => by have := hg x hx; omega) ha hb
/-- The same without an exponent. -/
theorem Po.pl_text0 {g a b : List Int} {h : Bool} (hg : ∀ x ∈ g, x = 45) (gl : g.length ≤ 1) (ha : Digs a) (hb : Digs b) (la : a.length ≤ 10000) (lb : b.length ≤ 10000) :
    Po.PlI (g ++ Po.wrt a b [] h) (g ++ Po.hd a b h).length 0 ∧ Po.pn (Po.nst ((g ++ Po.wrt a b [] h).take (g ++ Po.hd a b h).length)) = b.length := by
  have e : g ++ Po.wrt a b [] h = g ++ Po.hd a b h := by rw [Po.wrt_hd, List.append_nil]
  have nE := Po.noE_hd (g := g) (h := h) (fun x hx => by have := hg x hx; omega) ha hb
  have hl : (Po.hd a b h).length ≤ a.length + b.length + 1 := by
    unfold Po.hd
    split
    · omega
    · rw [List.length_append, List.length_cons]; omega
  rw [e]
  refine ⟨⟨?_, by simp only [List.length_append]; omega, Nat.le_refl _, ?_, .inl ⟨rfl, rfl⟩⟩, ?_⟩
  · exact Wh.By.app (fun x hx => by have := hg x hx; omega) (by unfold Po.hd; split; exact Po.digs_by ha; exact (Po.digs_by ha).app (Wh.By.cons (by omega) (Po.digs_by hb)))
  · intro i hi
    have m : (g ++ Po.hd a b h).getD i 0 ∈ g ++ Po.hd a b h := by simp [List.getD, List.getElem?_eq_getElem hi]
    exact nE _ m
  · rw [List.take_length]
    exact Po.nst_hd (fun x hx => by have := hg x hx; omega) ha hb

set_option maxRecDepth 100000 in
theorem pjoined_any (a b : List Int) (h : Bool) (w : World) (ha : Wh.By a) (hb : Wh.By b) (la : a.length ≤ 10000) (lb : b.length ≤ 10000) :
    Calls Tryz.prog 24 #[.string (strOfNums a), .string (strOfNums b), .bool h] w fun e w' => e = .returned (.string (strOfNums (Po.hd a b h))) ∧ w' = w := by
  have sa : (strOfNums a).size = a.length := strOfNums_size a
  have sb : (strOfNums b).size = b.length := strOfNums_size b
  have SA := Str.of_nums ha
  have SB := Str.of_nums hb
  have na : ((strOfNums a).size : Int) ≤ 10000 := by rw [sa]; omega
  have nb : ((strOfNums b).size : Int) ≤ 10000 := by rw [sb]; omega
  have EI := isEmpty_nums b
  have EJ := toList_nums b
  have E1 : Hid (b = [] → h = false → strOfNums a = strOfNums (Po.hd a b h)) := fun h1 h2 => by rw [Po.hd, if_pos ⟨h1, h2⟩]
  have E2 : Hid (¬ (b = [] ∧ h = false) → strOfNums a ++ ⟨#[46]⟩ ++ strOfNums b = strOfNums (Po.hd a b h)) := fun hc => by
    rw [Po.hd, if_neg hc]
    have q : Str (strOfNums a ++ ⟨#[46]⟩ ++ strOfNums b) (a ++ [46] ++ b) := (SA.app (show Str ⟨#[46]⟩ [46] from rfl)).app SB
    rw [str_is q]
    simp
  clear SA SB sa sb la lb ha hb
  cases b with
  | nil =>
    rw [show (([] : List Int).isEmpty) = true from rfl] at EI EJ
    cases h with
    | false =>
      have E := hid (E1.out rfl rfl)
      clear E1 E2
      generalize Po.hd a [] false = R at *
      go_enter Tryz.func24, Tryz.ntmps24
      go_wp2_with fail
      go_ret
      exact ⟨ret_str E.out, rfl⟩
    | true =>
      have E := hid (E2.out (fun q => Bool.false_ne_true q.2.symm))
      clear E1 E2
      generalize Po.hd a [] true = R at *
      go_enter Tryz.func24, Tryz.ntmps24
      go_wp2_with fail
      go_ret
      exact ⟨ret_str E.out, rfl⟩
  | cons y l =>
    rw [show ((y :: l).isEmpty) = false from rfl] at EI EJ
    have E := hid (E2.out (fun q => by cases q.1))
    clear E1 E2
    generalize Po.hd a (y :: l) h = R at *
    generalize strOfNums (y :: l) = B at *
    go_enter Tryz.func24, Tryz.ntmps24
    go_wp2_with fail
    go_ret
    exact ⟨ret_str E.out, rfl⟩
end Go.Proofs.YtaoaniigbooihaaGreatDoor

namespace Go.Proofs.YtaoaniigbooihaaGreatDoor
open Go Go.RowKit Go.Deep Go.Shelf

namespace Po
theorem bits_pads {F : Int} (h0 : 0 ≤ F) (h1 : F ≤ 31) : (bits .and .i64 F 17 == 16) = (Wh.bit F 16 && !Wh.bit F 1) ∧ (bits .and .i64 F 1 != 0) = Wh.bit F 1 ∧ (0 ≤ bits .andNot .i64 F 16 ∧ bits .andNot .i64 F 16 ≤ 31) ∧ Wh.bit (bits .andNot .i64 F 16) 2 = Wh.bit F 2 ∧ Wh.bit (bits .andNot .i64 F 16) 4 = Wh.bit F 4 ∧ Wh.bit (bits .andNot .i64 F 16) 8 = Wh.bit F 8 := by
  have key : ∀ t : Fin 32, (bits .and .i64 (t.val : Int) 17 == 16) = (Wh.bit (t.val : Int) 16 && !Wh.bit (t.val : Int) 1) ∧ (bits .and .i64 (t.val : Int) 1 != 0) = Wh.bit (t.val : Int) 1 ∧ (0 ≤ bits .andNot .i64 (t.val : Int) 16 ∧ bits .andNot .i64 (t.val : Int) 16 ≤ 31) ∧ Wh.bit (bits .andNot .i64 (t.val : Int) 16) 2 = Wh.bit (t.val : Int) 2 ∧ Wh.bit (bits .andNot .i64 (t.val : Int) 16) 4 = Wh.bit (t.val : Int) 4 ∧ Wh.bit (bits .andNot .i64 (t.val : Int) 16) 8 = Wh.bit (t.val : Int) 8 := by decide
  have := key ⟨F.toNat, by omega⟩
  simp only at this
  rw [show ((F.toNat : Nat) : Int) = F by omega] at this
  exact this
/-- The filling so far. -/
def fl (c : Int) (n j : Nat) : List Int := List.replicate j c ++ List.replicate (n - j) 0
theorem fl_len {c : Int} {n j : Nat} (h : j ≤ n) : (fl c n j).length = n := by simp [fl]; omega
theorem fl_set {c x : Int} {n j : Nat} (h : j < n) : ((fl c n j).set j x) = List.replicate j c ++ x :: List.replicate (n - (j + 1)) 0 := by
  unfold fl
  rw [List.set_append, if_neg (by simp), List.length_replicate, Nat.sub_self]
  obtain ⟨m, hm⟩ : ∃ m, n - j = m + 1 := ⟨n - j - 1, by omega⟩
  rw [hm, List.replicate_succ, List.set_cons_zero, show n - (j + 1) = m by omega]
theorem fl_one {c : Int} {n j : Nat} (h : j < n) : (fl c n j).set j c = fl c n (j + 1) := by
  rw [fl_set h]
  unfold fl
  rw [List.replicate_succ', List.append_assoc]; rfl
theorem fl_two {c x : Int} {n j : Nat} (h : j < n) : ((fl c n j).set j x).set j c = fl c n (j + 1) := by
  rw [List.set_set, fl_one h]
theorem fl_end (c : Int) (n : Nat) : fl c n n = Wh.rep c (n : Int) := by simp [fl, Wh.rep]

/-- The text behind a width. -/
theorem pads_eq {V F W P d : Int} (h : renE V F W P = 0) :
    ∃ L : Nat, (Wh.sgn F (ng d) ++ tb V F P d).length = L ∧ 1 ≤ L ∧ L ≤ 20001 ∧
    (W - L ≤ 0 → ren V F W P d = Wh.sgn F (ng d) ++ tb V F P d) ∧
    (Wh.bit F 1 = true → ren V F W P d = Wh.sgn F (ng d) ++ tb V F P d ++ Wh.rep 32 (W - L)) ∧
    (Wh.bit F 1 = false → Wh.bit F 16 = true → Ie.fnt d = true → ren V F W P d = (Wh.sgn F (ng d) ++ tb V F P d).take (Wh.sgn F (ng d)).length ++ Wh.rep 48 (W - L) ++ (Wh.sgn F (ng d) ++ tb V F P d).drop (Wh.sgn F (ng d)).length) ∧
    (Wh.bit F 1 = false → (Wh.bit F 16 = false ∨ Ie.fnt d = false) → ren V F W P d = Wh.rep 32 (W - L) ++ (Wh.sgn F (ng d) ++ tb V F P d)) := by
  obtain ⟨-, b⟩ := renE_ok h
  obtain ⟨f, w, p⟩ := Wh.chk_ok b
  have k := tb_ok (V := V) (F := F) (d := d) p.1 p.2
  obtain ⟨x, ys, hx, -⟩ := tb_head (V := V) (F := F) (d := d) p.1 p.2
  have s := Wh.sgn_len F (ng d)
  have tl : 1 ≤ (tb V F P d).length := by rw [hx]; simp
  rw [ren_pad h]
  refine ⟨_, rfl, by rw [List.length_append]; omega, by rw [List.length_append]; omega, ?_, ?_, ?_, ?_⟩
  all_goals rw [List.length_append]
  · intro c
    have e : ∀ q, Wh.rep q (W - ((Wh.sgn F (ng d)).length : Int) - ((tb V F P d).length : Int)) = [] := fun q => Wh.rep_neg (by omega)
    unfold Wh.padT
    rw [e, e]
    split
    · simp
    · split <;> simp
  · intro c
    unfold Wh.padT
    rw [if_pos c, show W - ((Wh.sgn F (ng d)).length : Int) - ((tb V F P d).length : Int) = W - (((Wh.sgn F (ng d)).length + (tb V F P d).length : Nat) : Int) by omega]
  · intro c1 c2 c3
    unfold Wh.padT
    rw [if_neg (by rw [c1]; decide), if_pos ⟨c2, c3⟩, show W - ((Wh.sgn F (ng d)).length : Int) - ((tb V F P d).length : Int) = W - (((Wh.sgn F (ng d)).length + (tb V F P d).length : Nat) : Int) by omega]
    simp
  · intro c1 c2
    unfold Wh.padT
    rw [if_neg (by rw [c1]; decide), if_neg (by rintro ⟨q1, q2⟩; rcases c2 with c | c <;> simp [c] at q1 q2), show W - ((Wh.sgn F (ng d)).length : Int) - ((tb V F P d).length : Int) = W - (((Wh.sgn F (ng d)).length + (tb V F P d).length : Nat) : Int) by omega]
    simp
/-- The first byte tells whether a sign stands there. -/
theorem pads_head {V F P d : Int} (p0 : -1 ≤ P) (p1 : P ≤ 4096) : ∃ x, (Wh.sgn F (ng d) ++ tb V F P d).getD 0 0 = x ∧ (0 ≤ x ∧ x < 256) ∧
    ((x = 45 ∧ (Wh.sgn F (ng d)).length = 1) ∨ (x = 43 ∧ (Wh.sgn F (ng d)).length = 1) ∨ (x = 32 ∧ (Wh.sgn F (ng d)).length = 1) ∨ (48 ≤ x ∧ (Wh.sgn F (ng d)).length = 0)) := by
  obtain ⟨y, ys, hx, a, b⟩ := tb_head (V := V) (F := F) (d := d) p0 p1
  unfold Wh.sgn
  split
  · exact ⟨45, rfl, by omega, .inl ⟨rfl, rfl⟩⟩
  · split
    · exact ⟨43, rfl, by omega, .inr (.inl ⟨rfl, rfl⟩)⟩
    · split
      · exact ⟨32, rfl, by omega, .inr (.inr (.inl ⟨rfl, rfl⟩))⟩
      · exact ⟨y, by rw [hx]; rfl, by omega, .inr (.inr (.inr ⟨a, rfl⟩))⟩
end Po

theorem ownb_str {g n : Nat} {W : World} {fs : List Int} (o : OwnB W g fs) (hn : fs.length = n) :
    (convert 47 9 (.slice (some ⟨g, 0, none⟩) n n)).run Tryz.prog W = .ok (.string (strOfNums fs)) W :=
  run_convert_bytes_arg (P := Tryz.prog) W 47 5 Tryz.underlying47 Tryz.underlying5 g 0 n n fs hn (fun i hi => by rw [Nat.zero_add, o.cell i (by omega)]) 9 Tryz.underlying9
end Go.Proofs.YtaoaniigbooihaaGreatDoor

namespace Go.Proofs.YtaoaniigbooihaaGreatDoor
open Go Go.RowKit Go.Deep Go.Shelf

set_option maxRecDepth 100000 in
theorem pbare_any (V F W P : Int) (w : World) :
    Calls Tryz.prog 22 #[.agg #[.int .u8 V, .int .i64 F, .int .i64 W, .int .i64 P]] w fun e w' => e = .returned (.agg #[.int .u8 V, .int .i64 (bits .and .i64 F 8), .int .i64 0, .int .i64 P]) ∧ Below w.heap.size w w' := by
  have B : Hid (Below w.heap.size w ((w.alloc (.cells #[.int .u8 V, .int .i64 F, .int .i64 W, .int .i64 P] 25)).alloc (.cells #[.int .u8 V, .int .i64 (bits .and .i64 F 8), .int .i64 0, .int .i64 P] 25))) := below_on (alloc_b _ _) (alloc_b _ _)
  have N : S4 ((w.alloc (.cells #[.int .u8 V, .int .i64 F, .int .i64 W, .int .i64 P] 25)).alloc (.cells #[.int .u8 V, .int .i64 (bits .and .i64 F 8), .int .i64 0, .int .i64 P] 25)) (w.heap.size + 1) (.int .u8 V) (.int .i64 (bits .and .i64 F 8)) (.int .i64 0) (.int .i64 P) := heap_alloc2_new _ _ _
  replace N := hid N
  go_enter Tryz.func22, Tryz.ntmps22
  go_wp2_with fail
  (try simp only [Exit.inBlock, Exit.then])
  refine bodyPost_ret (results_cell_row rfl _ _ (w.heap.size + 1) 25 _ (0, 0) _ rfl N.out Tryz.underlying25 rfl (by kernel_rfl)) rfl ?_
  exact ⟨rfl, B.out⟩

namespace Po
theorem bits_dig {F : Int} (h0 : 0 ≤ F) (h1 : F ≤ 31) : (bits .and .i64 F 8 != 0) = Wh.bit F 8 ∧ (0 ≤ bits .and .i64 F 8 ∧ bits .and .i64 F 8 ≤ 31) ∧ Wh.bit (bits .and .i64 F 8) 2 = false ∧ Wh.bit (bits .and .i64 F 8) 4 = false ∧ Wh.bit (bits .and .i64 F 8) 8 = Wh.bit F 8 := by
  have key : ∀ t : Fin 32, (bits .and .i64 (t.val : Int) 8 != 0) = Wh.bit (t.val : Int) 8 ∧ (0 ≤ bits .and .i64 (t.val : Int) 8 ∧ bits .and .i64 (t.val : Int) 8 ≤ 31) ∧ Wh.bit (bits .and .i64 (t.val : Int) 8) 2 = false ∧ Wh.bit (bits .and .i64 (t.val : Int) 8) 4 = false ∧ Wh.bit (bits .and .i64 (t.val : Int) 8) 8 = Wh.bit (t.val : Int) 8 := by decide
  have := key ⟨F.toNat, by omega⟩
  simp only at this
  rw [show ((F.toNat : Nat) : Int) = F by omega] at this
  exact this
theorem fnt_mod (d : Int) : Ie.fnt (d % 9223372036854775808) = Ie.fnt d := by
  rw [← fnt_abs, ← fnt_abs, Int.emod_emod_of_dvd _ (Int.dvd_refl _)]
/-- What a bare Spec renders. -/
theorem bare_ren {V F P D : Int} (hV : okV V = true) (h0 : 0 ≤ F) (h1 : F ≤ 31) (p0 : -1 ≤ P) (p1 : P ≤ 4096) (hf : Ie.fnt D = true) (hn : D < 9223372036854775808) :
    renE V (bits .and .i64 F 8) 0 P = 0 ∧ ren V (bits .and .i64 F 8) 0 P D = bd V (Wh.bit F 8) P D := by
  obtain ⟨-, ⟨g0, g1⟩, b2, b4, b8⟩ := bits_dig h0 h1
  have e : renE V (bits .and .i64 F 8) 0 P = 0 := by
    unfold renE
    rw [if_pos hV]
    exact Wh.chk_of ⟨⟨g0, g1⟩, by omega, ⟨p0, p1⟩⟩
  refine ⟨e, ?_⟩
  rw [ren_pad e, Wh.padT_zero]
  have s : Wh.sgn (bits .and .i64 F 8) (ng D) = [] := by
    unfold Wh.sgn ng
    rw [if_neg (by simpa using hn), b2, if_neg Bool.false_ne_true, b4, if_neg Bool.false_ne_true]
  rw [s, List.nil_append, tb, if_pos hf, b8]
end Po

set_option maxRecDepth 100000 in
set_option maxHeartbeats 8000000 in
theorem digits_law (V F W P d : Int) (w : World) (hT : Tab w) (v0 : 0 ≤ V) (v1 : V < 256) (h0 : 0 ≤ d) (_h1 : d < 18446744073709551616) :
    Calls Tryz.prog 6 #[.agg #[.int .u8 V, .int .i64 F, .int .i64 W, .int .i64 P], .int .u64 d] w fun e w' => e = .returned (.bool true) ∧ Below w.heap.size w w' := by
  have B0 := hid (SB.new w V F W P)
  have TB : Hid (∀ wk, Below w.heap.size w wk → Tab wk) := fun wk k => hT.below k
  have AW := hid (fun wk (k : Tab wk) => pawake_any wk k)
  have WR := hid (fun wk => pwrong_any V F W P wk)
  have BR := hid (fun wk => pbare_any V F W P wk)
  obtain ⟨D, hD⟩ : ∃ D, d % 9223372036854775808 = D := ⟨_, rfl⟩
  have D0 : 0 ≤ D := by omega
  have D1 : D < 9223372036854775808 := by omega
  have FN := hid (fun wk => plfin_any D wk D0 (by omega))
  have RN := hid (fun wk (k : Tab wk) => render_any V (bits .and .i64 F 8) 0 P D wk k v0 v1 D0 (by omega))
  unfold RenTold at RN
  have K0 := hid (TB.out _ B0.out.bel)
  by_cases hE : Po.renE V F W P = 0
  · obtain ⟨hV, hc⟩ := Po.renE_ok hE
    obtain ⟨⟨f0, f1⟩, -, ⟨p0, p1⟩⟩ := Wh.chk_ok hc
    rw [hE] at WR
    by_cases hf : Ie.fnt D = true
    · obtain ⟨r1, r2⟩ := Po.bare_ren (V := V) (P := P) hV f0 f1 p0 p1 hf D1
      obtain ⟨bh, -⟩ := Po.bits_dig f0 f1
      rw [r1, r2] at RN
      rw [hf] at FN
      obtain ⟨q0, q1⟩ := Po.pr_bd p0 p1
      have hV := of_decide_eq_true hV
      rcases (show (V = 102 ∨ V = 70) ∨ (V = 101 ∨ V = 69) ∨ (V = 103 ∨ V = 71) by omega) with hv | hv | hv
      · have K := Po.plF hf q0 (by omega)
        have PL := hid (fun wk (k : Tab wk) => plx_any D (Po.pr P) wk k D0 (by omega))
        rw [K.ok] at PL
        have e1 : Po.bd V (Wh.bit F 8) P D = Po.hd (Fx.pA D (Po.pr P)) (Fx.pB D (Po.pr P)) (Wh.bit F 8) := by rw [Po.bd, if_pos hv, Po.bdF, Po.wrt_hd, List.append_nil]
        rw [e1] at RN
        have JN := hid (fun wk => pjoined_any (Fx.pA D (Po.pr P)) (Fx.pB D (Po.pr P)) (Wh.bit F 8) wk (Po.digs_by K.a) (Po.digs_by K.b) (by have := K.la; omega) (by have := K.lb; omega))
        have PR : Hid (Po.pr P = if P = -1 then 6 else P) := rfl
        clear hT v0 v1 hE hc hV f0 f1 r1 r2 e1 K hf
        generalize Po.hd (Fx.pA D (Po.pr P)) (Fx.pB D (Po.pr P)) (Wh.bit F 8) = R at *
        generalize Fx.pA D (Po.pr P) = A at *
        generalize Fx.pB D (Po.pr P) = C at *
        generalize Wh.bit F 8 = hh at *
        generalize Po.pr P = pp at *
        rcases hv with rfl | rfl
        · by_cases hP : P = -1
          · have e6 : pp = 6 := by rw [PR.out, if_pos hP]
            subst e6
            subst hP
            clear PR
            go_enter Tryz.func6, Tryz.ntmps6
            go_wp2_with fail
            with_reducible refine (AW.out _ K0.out).mono ?_
            rintro e w1 ⟨rfl, b1⟩
            have B1 := hid (B0.out.on b1)
            clear b1 B0 K0
            obtain ⟨c0, c1, c2, c3⟩ := B1.out.flat
            go_wp2_with fail
            with_reducible refine (WR.out _).mono ?_
            rintro e w2 ⟨rfl, b2⟩
            have B2 := hid (B1.out.on b2)
            clear b2 B1 c0 c1 c2 c3
            obtain ⟨c0, c1, c2, c3⟩ := B2.out.flat
            go_wp2_with fail
            with_reducible refine (BR.out _).mono ?_
            rintro e w3 ⟨rfl, b3⟩
            have B3 := hid (B2.out.on b3)
            have K3 := hid (TB.out _ B3.out.bel)
            clear b3 B2 c0 c1 c2 c3
            go_wp2_with fail
            with_reducible refine (RN.out _ K3.out).mono ?_
            rintro e w4 ⟨rfl, b4⟩
            have B4 := hid (B3.out.on b4)
            have K4 := hid (TB.out _ B4.out.bel)
            clear b4 B3 K3
            obtain ⟨c0, c1, c2, c3⟩ := B4.out.flat
            go_wp2_with (go_at_call 14; refine (FN.out _).mono ?_; rintro e w' ⟨rfl, hw⟩; rw [hw]; clear hw w')
            with_reducible refine (PL.out _ K4.out).mono ?_
            rintro e w5 ⟨rfl, b5⟩
            have B5 := hid (B4.out.on b5)
            clear b5 B4 c0 c1 c2 c3
            go_wp2_with (go_at_call 24; refine (JN.out _).mono ?_; rintro e w' ⟨rfl, hw⟩; rw [hw]; clear hw w')
            go_ret
            exact ⟨rfl, B5.out.bel⟩
          · have e6 : P = pp := by rw [PR.out, if_neg hP]
            have hne : (pp == -1) = false := by rw [← e6]; simpa using hP
            subst e6
            clear PR hP
            go_enter Tryz.func6, Tryz.ntmps6
            go_wp2_with fail
            with_reducible refine (AW.out _ K0.out).mono ?_
            rintro e w1 ⟨rfl, b1⟩
            have B1 := hid (B0.out.on b1)
            clear b1 B0 K0
            obtain ⟨c0, c1, c2, c3⟩ := B1.out.flat
            go_wp2_with fail
            with_reducible refine (WR.out _).mono ?_
            rintro e w2 ⟨rfl, b2⟩
            have B2 := hid (B1.out.on b2)
            clear b2 B1 c0 c1 c2 c3
            obtain ⟨c0, c1, c2, c3⟩ := B2.out.flat
            go_wp2_with fail
            with_reducible refine (BR.out _).mono ?_
            rintro e w3 ⟨rfl, b3⟩
            have B3 := hid (B2.out.on b3)
            have K3 := hid (TB.out _ B3.out.bel)
            clear b3 B2 c0 c1 c2 c3
            go_wp2_with fail
            with_reducible refine (RN.out _ K3.out).mono ?_
            rintro e w4 ⟨rfl, b4⟩
            have B4 := hid (B3.out.on b4)
            have K4 := hid (TB.out _ B4.out.bel)
            clear b4 B3 K3
            obtain ⟨c0, c1, c2, c3⟩ := B4.out.flat
            go_wp2_with (go_at_call 14; refine (FN.out _).mono ?_; rintro e w' ⟨rfl, hw⟩; rw [hw]; clear hw w')
            with_reducible refine (PL.out _ K4.out).mono ?_
            rintro e w5 ⟨rfl, b5⟩
            have B5 := hid (B4.out.on b5)
            clear b5 B4 c0 c1 c2 c3
            go_wp2_with (go_at_call 24; refine (JN.out _).mono ?_; rintro e w' ⟨rfl, hw⟩; rw [hw]; clear hw w')
            go_ret
            exact ⟨rfl, B5.out.bel⟩
        · by_cases hP : P = -1
          · have e6 : pp = 6 := by rw [PR.out, if_pos hP]
            subst e6
            subst hP
            clear PR
            go_enter Tryz.func6, Tryz.ntmps6
            go_wp2_with fail
            with_reducible refine (AW.out _ K0.out).mono ?_
            rintro e w1 ⟨rfl, b1⟩
            have B1 := hid (B0.out.on b1)
            clear b1 B0 K0
            obtain ⟨c0, c1, c2, c3⟩ := B1.out.flat
            go_wp2_with fail
            with_reducible refine (WR.out _).mono ?_
            rintro e w2 ⟨rfl, b2⟩
            have B2 := hid (B1.out.on b2)
            clear b2 B1 c0 c1 c2 c3
            obtain ⟨c0, c1, c2, c3⟩ := B2.out.flat
            go_wp2_with fail
            with_reducible refine (BR.out _).mono ?_
            rintro e w3 ⟨rfl, b3⟩
            have B3 := hid (B2.out.on b3)
            have K3 := hid (TB.out _ B3.out.bel)
            clear b3 B2 c0 c1 c2 c3
            go_wp2_with fail
            with_reducible refine (RN.out _ K3.out).mono ?_
            rintro e w4 ⟨rfl, b4⟩
            have B4 := hid (B3.out.on b4)
            have K4 := hid (TB.out _ B4.out.bel)
            clear b4 B3 K3
            obtain ⟨c0, c1, c2, c3⟩ := B4.out.flat
            go_wp2_with (go_at_call 14; refine (FN.out _).mono ?_; rintro e w' ⟨rfl, hw⟩; rw [hw]; clear hw w')
            with_reducible refine (PL.out _ K4.out).mono ?_
            rintro e w5 ⟨rfl, b5⟩
            have B5 := hid (B4.out.on b5)
            clear b5 B4 c0 c1 c2 c3
            go_wp2_with (go_at_call 24; refine (JN.out _).mono ?_; rintro e w' ⟨rfl, hw⟩; rw [hw]; clear hw w')
            go_ret
            exact ⟨rfl, B5.out.bel⟩
          · have e6 : P = pp := by rw [PR.out, if_neg hP]
            have hne : (pp == -1) = false := by rw [← e6]; simpa using hP
            subst e6
            clear PR hP
            go_enter Tryz.func6, Tryz.ntmps6
            go_wp2_with fail
            with_reducible refine (AW.out _ K0.out).mono ?_
            rintro e w1 ⟨rfl, b1⟩
            have B1 := hid (B0.out.on b1)
            clear b1 B0 K0
            obtain ⟨c0, c1, c2, c3⟩ := B1.out.flat
            go_wp2_with fail
            with_reducible refine (WR.out _).mono ?_
            rintro e w2 ⟨rfl, b2⟩
            have B2 := hid (B1.out.on b2)
            clear b2 B1 c0 c1 c2 c3
            obtain ⟨c0, c1, c2, c3⟩ := B2.out.flat
            go_wp2_with fail
            with_reducible refine (BR.out _).mono ?_
            rintro e w3 ⟨rfl, b3⟩
            have B3 := hid (B2.out.on b3)
            have K3 := hid (TB.out _ B3.out.bel)
            clear b3 B2 c0 c1 c2 c3
            go_wp2_with fail
            with_reducible refine (RN.out _ K3.out).mono ?_
            rintro e w4 ⟨rfl, b4⟩
            have B4 := hid (B3.out.on b4)
            have K4 := hid (TB.out _ B4.out.bel)
            clear b4 B3 K3
            obtain ⟨c0, c1, c2, c3⟩ := B4.out.flat
            go_wp2_with (go_at_call 14; refine (FN.out _).mono ?_; rintro e w' ⟨rfl, hw⟩; rw [hw]; clear hw w')
            with_reducible refine (PL.out _ K4.out).mono ?_
            rintro e w5 ⟨rfl, b5⟩
            have B5 := hid (B4.out.on b5)
            clear b5 B4 c0 c1 c2 c3
            go_wp2_with (go_at_call 24; refine (JN.out _).mono ?_; rintro e w' ⟨rfl, hw⟩; rw [hw]; clear hw w')
            go_ret
            exact ⟨rfl, B5.out.bel⟩
      · have K := Po.fgF hf (n := Po.pr P + 1) (by omega) (by omega)
        have PL := hid (fun wk (k : Tab wk) => fgx_any D (Po.pr P + 1) wk k D0 (by omega))
        rw [K.ok] at PL
        have ln := K.len
        have e1 : Po.bd V (Wh.bit F 8) P D = Po.wrt ((Fx.gS D (Po.pr P + 1)).take 1) ((Fx.gS D (Po.pr P + 1)).drop 1) (Po.ex V (Fx.gK D (Po.pr P + 1))) (Wh.bit F 8) := by rw [Po.bd, if_neg (by omega), if_pos hv, Po.bdE]
        obtain ⟨k0, k1⟩ : -400 ≤ Fx.gK D (Po.pr P + 1) ∧ Fx.gK D (Po.pr P + 1) ≤ 400 := ⟨by have := K.lo; omega, by have := K.hi; omega⟩
        have dl : ((Fx.gS D (Po.pr P + 1)).drop 1).length ≤ 10000 := by rw [List.length_drop]; omega
        have tl : ((Fx.gS D (Po.pr P + 1)).take 1).length ≤ 10000 := by rw [List.length_take]; omega
        obtain ⟨pi, pn⟩ := Po.pl_text (V := V) (k := Fx.gK D (Po.pr P + 1)) (g := []) (a := (Fx.gS D (Po.pr P + 1)).take 1) (b := (Fx.gS D (Po.pr P + 1)).drop 1) (h := Wh.bit F 8) (by simp) (by simp) (Po.digs_take K.s _) (Po.digs_drop K.s _) tl dl k0 k1
        simp only [List.nil_append] at pi pn
        have pd : ((((Fx.gS D (Po.pr P + 1)).drop 1).length : Nat) : Int) = Po.pr P := by rw [List.length_drop]; omega
        rw [← e1] at pi pn
        rw [pd] at pn
        have PS := hid (fun wk => pplaces_any (Po.bd V (Wh.bit F 8) P D) _ (Fx.gK D (Po.pr P + 1)) wk pi)
        simp only [pn] at PS
        have JN := hid (fun wk => pjoined_any ((Fx.gS D (Po.pr P + 1)).take 1) ((Fx.gS D (Po.pr P + 1)).drop 1) (Wh.bit F 8) wk (Po.digs_by (Po.digs_take K.s _)) (Po.digs_by (Po.digs_drop K.s _)) tl dl)
        have HB : Wh.By (Po.hd ((Fx.gS D (Po.pr P + 1)).take 1) ((Fx.gS D (Po.pr P + 1)).drop 1) (Wh.bit F 8)) := by unfold Po.hd; split; exact Po.digs_by (Po.digs_take K.s _); exact (Po.digs_by (Po.digs_take K.s _)).app (Wh.By.cons (by omega) (Po.digs_by (Po.digs_drop K.s _)))
        have HLn : (Po.hd ((Fx.gS D (Po.pr P + 1)).take 1) ((Fx.gS D (Po.pr P + 1)).drop 1) (Wh.bit F 8)).length ≤ 20001 := by
          unfold Po.hd
          split
          · omega
          · rw [List.length_append, List.length_cons]; omega
        have lV : (if Po.cap V = true then (69 : Int) else 101) = V := by rcases hv with rfl | rfl <;> decide
        have e2 : Po.bd V (Wh.bit F 8) P D = Po.hd ((Fx.gS D (Po.pr P + 1)).take 1) ((Fx.gS D (Po.pr P + 1)).drop 1) (Wh.bit F 8) ++ V :: Po.xd (Fx.gK D (Po.pr P + 1)) := by rw [e1, Po.wrt_hd, Po.ex, lV]
        obtain ⟨x3, xh⟩ : 3 ≤ (Po.xd (Fx.gK D (Po.pr P + 1))).length ∧ (Po.xd (Fx.gK D (Po.pr P + 1))).getD 0 0 = if Fx.gK D (Po.pr P + 1) < 0 then 45 else 43 := by
          rw [Po.xd_is k0 k1]
          refine ⟨?_, rfl⟩
          rw [List.length_cons, Fx.tx_len]; split <;> omega
        have x4 := Po.xd_len k0 k1
        have BB : Wh.By (Po.bd V (Wh.bit F 8) P D) := by rw [e2]; exact HB.app (Wh.By.cons ⟨v0, v1⟩ (Po.xd_by _))
        obtain ⟨H, hH⟩ : ∃ H, (Po.hd ((Fx.gS D (Po.pr P + 1)).take 1) ((Fx.gS D (Po.pr P + 1)).drop 1) (Wh.bit F 8)).length = H := ⟨_, rfl⟩
        obtain ⟨T, hTl⟩ : ∃ T, (Po.bd V (Wh.bit F 8) P D).length = T := ⟨_, rfl⟩
        have tT : T = H + 1 + (Po.xd (Fx.gK D (Po.pr P + 1))).length := by rw [← hTl, e2, List.length_append, List.length_cons, hH]; omega
        have tsz : (strOfNums (Po.bd V (Wh.bit F 8) P D)).size = T := by rw [strOfNums_size, hTl]
        have hsz : (strOfNums (Po.hd ((Fx.gS D (Po.pr P + 1)).take 1) ((Fx.gS D (Po.pr P + 1)).drop 1) (Wh.bit F 8)) ++ strOfNums [V]).size = H + 1 := by rw [ByteArray.size_append, strOfNums_size, strOfNums_size, hH]; rfl
        have X1 : (strOfNums (Po.bd V (Wh.bit F 8) P D)).extract 0 (H + 1) = strOfNums (Po.hd ((Fx.gS D (Po.pr P + 1)).take 1) ((Fx.gS D (Po.pr P + 1)).drop 1) (Wh.bit F 8)) ++ strOfNums [V] := by
          rw [ext_head BB, str_is ((Str.of_nums HB).app (Str.of_nums (xs := [V]) (by intro x hx; simp at hx; omega))), e2]
          congr 1
          rw [← hH, List.take_append, List.take_of_length_le (by omega), Nat.add_sub_cancel_left]
          rfl
        have X2 : ∀ h : H + 1 < (strOfNums (Po.bd V (Wh.bit F 8) P D)).size, (((strOfNums (Po.bd V (Wh.bit F 8) P D))[H + 1]'h).toNat : Int) = if Fx.gK D (Po.pr P + 1) < 0 then 45 else 43 := by
          intro h
          rw [(Str.of_nums BB).at (H + 1) h, ← xh]
          have q : (Po.bd V (Wh.bit F 8) P D).getD (H + 1) 0 = (Po.xd (Fx.gK D (Po.pr P + 1))).getD 0 0 := by
            rw [e2, ← hH]
            simp [List.getD, List.getElem?_append_right]
          first | exact q | simpa [List.getD] using q
        have ds : (strOfNums (Fx.gS D (Po.pr P + 1))).size = (Po.pr P + 1).toNat := by rw [strOfNums_size]; omega
        have DX1 := ext_head (Po.digs_by K.s) 1
        have DX2 := ext_tail (Po.digs_by K.s) 1
        have dln : (Fx.gS D (Po.pr P + 1)).length = (Po.pr P + 1).toNat := by omega
        rw [dln] at DX2
        have CVA : ∀ W' : World, (convert 47 9 (.slice (some ⟨W'.heap.size, 0, none⟩) 1 1)).run Tryz.prog (W'.alloc (.cells #[.int .u8 V] 5)) = .ok (.string (strOfNums [V])) (W'.alloc (.cells #[.int .u8 V] 5)) := fun W' => ownb_str (OwnB.alloc W' [V]) rfl
        have CVB : ∀ W' : World, (convert 47 9 (.slice (some ⟨W'.heap.size, 0, none⟩) 1 1)).run Tryz.prog (W'.alloc (.cells #[.int .u8 V] 5)).drew = .ok (.string (strOfNums [V])) (W'.alloc (.cells #[.int .u8 V] 5)).drew := fun W' => ownb_str (W := (W'.alloc (.cells #[.int .u8 V] 5)).drew) (OwnB.alloc W' [V]) rfl
        have PR : Hid (Po.pr P = if P = -1 then 6 else P) := rfl
        obtain ⟨m, hm⟩ : ∃ m : Nat, Po.pr P + 1 = (m : Int) := ⟨(Po.pr P + 1).toNat, by omega⟩
        have m1 : (1 : Int) ≤ (m : Int) := by omega
        have m2 : (m : Int) ≤ 4097 := by omega
        rw [show (Po.pr P + 1).toNat = m by omega] at ds DX2
        have hsn : ((strOfNums (Po.hd ((Fx.gS D (Po.pr P + 1)).take 1) ((Fx.gS D (Po.pr P + 1)).drop 1) (Wh.bit F 8))).size : Int) ≤ 20001 := by rw [strOfNums_size]; omega
        have vsn : ((strOfNums [V]).size : Int) ≤ 1 := by rw [strOfNums_size]; simp
        have hTi : (H : Int) + 1 + 3 ≤ (T : Int) := by omega
        have hTj : (H : Int) + 1 < (T : Int) := by omega
        have hTk : (T : Int) ≤ 30000 := by omega
        clear hT v0 hE hc f0 f1 r1 r2 e1 e2 K hf pi pn pd HB HLn lV x3 xh x4 BB hH hTl tT dl tl ln dln k0 k1
        generalize strOfNums [V] = vs at *
        generalize strOfNums (Po.hd ((Fx.gS D (Po.pr P + 1)).take 1) ((Fx.gS D (Po.pr P + 1)).drop 1) (Wh.bit F 8)) = hs at *
        generalize strOfNums (Po.bd V (Wh.bit F 8) P D) = ts at *
        generalize (Fx.gS D (Po.pr P + 1)).take 1 = S1 at *
        generalize (Fx.gS D (Po.pr P + 1)).drop 1 = S2 at *
        generalize strOfNums (Fx.gS D (Po.pr P + 1)) = gs at *
        generalize Fx.gK D (Po.pr P + 1) = kk at *
        generalize Wh.bit F 8 = hh at *
        generalize Po.pr P = pp at *
        simp only [hm] at PL
        rcases hv with rfl | rfl
        · by_cases hP : P = -1
          · have e6 : pp = 6 := by rw [PR.out, if_pos hP]
            subst e6
            subst hP
            clear PR
            go_enter Tryz.func6, Tryz.ntmps6
            go_wp2_with fail
            with_reducible refine (AW.out _ K0.out).mono ?_
            rintro e w1 ⟨rfl, b1⟩
            have B1 := hid (B0.out.on b1)
            clear b1 B0 K0
            obtain ⟨c0, c1, c2, c3⟩ := B1.out.flat
            go_wp2_with fail
            with_reducible refine (WR.out _).mono ?_
            rintro e w2 ⟨rfl, b2⟩
            have B2 := hid (B1.out.on b2)
            clear b2 B1 c0 c1 c2 c3
            obtain ⟨c0, c1, c2, c3⟩ := B2.out.flat
            go_wp2_with fail
            with_reducible refine (BR.out _).mono ?_
            rintro e w3 ⟨rfl, b3⟩
            have B3 := hid (B2.out.on b3)
            have K3 := hid (TB.out _ B3.out.bel)
            clear b3 B2 c0 c1 c2 c3
            go_wp2_with fail
            with_reducible refine (RN.out _ K3.out).mono ?_
            rintro e w4 ⟨rfl, b4⟩
            have B4 := hid (B3.out.on b4)
            have K4 := hid (TB.out _ B4.out.bel)
            clear b4 B3 K3
            obtain ⟨c0, c1, c2, c3⟩ := B4.out.flat
            go_wp2_with (go_at_call 14; refine (FN.out _).mono ?_; rintro e w' ⟨rfl, hw⟩; rw [hw]; clear hw w')
            with_reducible refine (PL.out _ K4.out).mono ?_
            rintro e w5 ⟨rfl, b5⟩
            have B5 := hid (B4.out.on b5)
            clear b5 B4 c0 c1 c2 c3
            go_upto_region 21 with fail
            go_cut [17] (fun v wx => v = .string (hs ++ vs) ∧ Hid (Below w.heap.size w wx))
            case first =>
              have T1 := hid B5.out.drew
              obtain ⟨c0, c1, c2, c3⟩ := T1.out.flat
              go_region_with (go_at_call 24; with_reducible refine (JN.out _).mono ?_; rintro e wj ⟨rfl, hw⟩; rw [hw]; clear hw wj)
              all_goals (go_wp2_with fail)
              all_goals go_meet
              all_goals first | exact ⟨rfl, (T1.out.on (alloc_b _ _)).bel⟩ | exact ⟨rfl, ((B5.out.on (alloc_b _ _)).drew).bel⟩
            case rest =>
            obtain ⟨h17, B6⟩ := hcut
            subst h17
            go_wp2_with fail
            with_reducible refine (PS.out _).mono ?_
            rintro e w7 ⟨rfl, b7⟩
            have B7 := hid (below_on B6.out b7)
            clear b7 B5 B6
            by_cases hk : kk < 0
            · rw [if_pos hk] at X2
              have hk2 : ¬ 0 ≤ kk := by omega
              have hk3 : decide (0 ≤ kk) = false := decide_eq_false hk2
              go_wp2_with fail
              go_ret
              exact ⟨rfl, B7.out⟩
            · rw [if_neg hk] at X2
              have hk2 : 0 ≤ kk := by omega
              have hk3 : decide (0 ≤ kk) = true := decide_eq_true hk2
              go_wp2_with fail
              go_ret
              exact ⟨rfl, B7.out⟩
          · have e6 : P = pp := by rw [PR.out, if_neg hP]
            have hne : (pp == -1) = false := by rw [← e6]; simpa using hP
            subst e6
            clear PR hP
            go_enter Tryz.func6, Tryz.ntmps6
            go_wp2_with fail
            with_reducible refine (AW.out _ K0.out).mono ?_
            rintro e w1 ⟨rfl, b1⟩
            have B1 := hid (B0.out.on b1)
            clear b1 B0 K0
            obtain ⟨c0, c1, c2, c3⟩ := B1.out.flat
            go_wp2_with fail
            with_reducible refine (WR.out _).mono ?_
            rintro e w2 ⟨rfl, b2⟩
            have B2 := hid (B1.out.on b2)
            clear b2 B1 c0 c1 c2 c3
            obtain ⟨c0, c1, c2, c3⟩ := B2.out.flat
            go_wp2_with fail
            with_reducible refine (BR.out _).mono ?_
            rintro e w3 ⟨rfl, b3⟩
            have B3 := hid (B2.out.on b3)
            have K3 := hid (TB.out _ B3.out.bel)
            clear b3 B2 c0 c1 c2 c3
            go_wp2_with fail
            with_reducible refine (RN.out _ K3.out).mono ?_
            rintro e w4 ⟨rfl, b4⟩
            have B4 := hid (B3.out.on b4)
            have K4 := hid (TB.out _ B4.out.bel)
            clear b4 B3 K3
            obtain ⟨c0, c1, c2, c3⟩ := B4.out.flat
            go_wp2_with (go_at_call 14; refine (FN.out _).mono ?_; rintro e w' ⟨rfl, hw⟩; rw [hw]; clear hw w')
            with_reducible refine (PL.out _ K4.out).mono ?_
            rintro e w5 ⟨rfl, b5⟩
            have B5 := hid (B4.out.on b5)
            clear b5 B4 c0 c1 c2 c3
            go_upto_region 21 with fail
            go_cut [17] (fun v wx => v = .string (hs ++ vs) ∧ Hid (Below w.heap.size w wx))
            case first =>
              have T1 := hid B5.out.drew
              obtain ⟨c0, c1, c2, c3⟩ := T1.out.flat
              go_region_with (go_at_call 24; with_reducible refine (JN.out _).mono ?_; rintro e wj ⟨rfl, hw⟩; rw [hw]; clear hw wj)
              all_goals (go_wp2_with fail)
              all_goals go_meet
              all_goals first | exact ⟨rfl, (T1.out.on (alloc_b _ _)).bel⟩ | exact ⟨rfl, ((B5.out.on (alloc_b _ _)).drew).bel⟩
            case rest =>
            obtain ⟨h17, B6⟩ := hcut
            subst h17
            go_wp2_with fail
            with_reducible refine (PS.out _).mono ?_
            rintro e w7 ⟨rfl, b7⟩
            have B7 := hid (below_on B6.out b7)
            clear b7 B5 B6
            by_cases hk : kk < 0
            · rw [if_pos hk] at X2
              have hk2 : ¬ 0 ≤ kk := by omega
              have hk3 : decide (0 ≤ kk) = false := decide_eq_false hk2
              go_wp2_with fail
              go_ret
              exact ⟨rfl, B7.out⟩
            · rw [if_neg hk] at X2
              have hk2 : 0 ≤ kk := by omega
              have hk3 : decide (0 ≤ kk) = true := decide_eq_true hk2
              go_wp2_with fail
              go_ret
              exact ⟨rfl, B7.out⟩
        · by_cases hP : P = -1
          · have e6 : pp = 6 := by rw [PR.out, if_pos hP]
            subst e6
            subst hP
            clear PR
            go_enter Tryz.func6, Tryz.ntmps6
            go_wp2_with fail
            with_reducible refine (AW.out _ K0.out).mono ?_
            rintro e w1 ⟨rfl, b1⟩
            have B1 := hid (B0.out.on b1)
            clear b1 B0 K0
            obtain ⟨c0, c1, c2, c3⟩ := B1.out.flat
            go_wp2_with fail
            with_reducible refine (WR.out _).mono ?_
            rintro e w2 ⟨rfl, b2⟩
            have B2 := hid (B1.out.on b2)
            clear b2 B1 c0 c1 c2 c3
            obtain ⟨c0, c1, c2, c3⟩ := B2.out.flat
            go_wp2_with fail
            with_reducible refine (BR.out _).mono ?_
            rintro e w3 ⟨rfl, b3⟩
            have B3 := hid (B2.out.on b3)
            have K3 := hid (TB.out _ B3.out.bel)
            clear b3 B2 c0 c1 c2 c3
            go_wp2_with fail
            with_reducible refine (RN.out _ K3.out).mono ?_
            rintro e w4 ⟨rfl, b4⟩
            have B4 := hid (B3.out.on b4)
            have K4 := hid (TB.out _ B4.out.bel)
            clear b4 B3 K3
            obtain ⟨c0, c1, c2, c3⟩ := B4.out.flat
            go_wp2_with (go_at_call 14; refine (FN.out _).mono ?_; rintro e w' ⟨rfl, hw⟩; rw [hw]; clear hw w')
            with_reducible refine (PL.out _ K4.out).mono ?_
            rintro e w5 ⟨rfl, b5⟩
            have B5 := hid (B4.out.on b5)
            clear b5 B4 c0 c1 c2 c3
            go_upto_region 21 with fail
            go_cut [17] (fun v wx => v = .string (hs ++ vs) ∧ Hid (Below w.heap.size w wx))
            case first =>
              have T1 := hid B5.out.drew
              obtain ⟨c0, c1, c2, c3⟩ := T1.out.flat
              go_region_with (go_at_call 24; with_reducible refine (JN.out _).mono ?_; rintro e wj ⟨rfl, hw⟩; rw [hw]; clear hw wj)
              all_goals (go_wp2_with fail)
              all_goals go_meet
              all_goals first | exact ⟨rfl, (T1.out.on (alloc_b _ _)).bel⟩ | exact ⟨rfl, ((B5.out.on (alloc_b _ _)).drew).bel⟩
            case rest =>
            obtain ⟨h17, B6⟩ := hcut
            subst h17
            go_wp2_with fail
            with_reducible refine (PS.out _).mono ?_
            rintro e w7 ⟨rfl, b7⟩
            have B7 := hid (below_on B6.out b7)
            clear b7 B5 B6
            by_cases hk : kk < 0
            · rw [if_pos hk] at X2
              have hk2 : ¬ 0 ≤ kk := by omega
              have hk3 : decide (0 ≤ kk) = false := decide_eq_false hk2
              go_wp2_with fail
              go_ret
              exact ⟨rfl, B7.out⟩
            · rw [if_neg hk] at X2
              have hk2 : 0 ≤ kk := by omega
              have hk3 : decide (0 ≤ kk) = true := decide_eq_true hk2
              go_wp2_with fail
              go_ret
              exact ⟨rfl, B7.out⟩
          · have e6 : P = pp := by rw [PR.out, if_neg hP]
            have hne : (pp == -1) = false := by rw [← e6]; simpa using hP
            subst e6
            clear PR hP
            go_enter Tryz.func6, Tryz.ntmps6
            go_wp2_with fail
            with_reducible refine (AW.out _ K0.out).mono ?_
            rintro e w1 ⟨rfl, b1⟩
            have B1 := hid (B0.out.on b1)
            clear b1 B0 K0
            obtain ⟨c0, c1, c2, c3⟩ := B1.out.flat
            go_wp2_with fail
            with_reducible refine (WR.out _).mono ?_
            rintro e w2 ⟨rfl, b2⟩
            have B2 := hid (B1.out.on b2)
            clear b2 B1 c0 c1 c2 c3
            obtain ⟨c0, c1, c2, c3⟩ := B2.out.flat
            go_wp2_with fail
            with_reducible refine (BR.out _).mono ?_
            rintro e w3 ⟨rfl, b3⟩
            have B3 := hid (B2.out.on b3)
            have K3 := hid (TB.out _ B3.out.bel)
            clear b3 B2 c0 c1 c2 c3
            go_wp2_with fail
            with_reducible refine (RN.out _ K3.out).mono ?_
            rintro e w4 ⟨rfl, b4⟩
            have B4 := hid (B3.out.on b4)
            have K4 := hid (TB.out _ B4.out.bel)
            clear b4 B3 K3
            obtain ⟨c0, c1, c2, c3⟩ := B4.out.flat
            go_wp2_with (go_at_call 14; refine (FN.out _).mono ?_; rintro e w' ⟨rfl, hw⟩; rw [hw]; clear hw w')
            with_reducible refine (PL.out _ K4.out).mono ?_
            rintro e w5 ⟨rfl, b5⟩
            have B5 := hid (B4.out.on b5)
            clear b5 B4 c0 c1 c2 c3
            go_upto_region 21 with fail
            go_cut [17] (fun v wx => v = .string (hs ++ vs) ∧ Hid (Below w.heap.size w wx))
            case first =>
              have T1 := hid B5.out.drew
              obtain ⟨c0, c1, c2, c3⟩ := T1.out.flat
              go_region_with (go_at_call 24; with_reducible refine (JN.out _).mono ?_; rintro e wj ⟨rfl, hw⟩; rw [hw]; clear hw wj)
              all_goals (go_wp2_with fail)
              all_goals go_meet
              all_goals first | exact ⟨rfl, (T1.out.on (alloc_b _ _)).bel⟩ | exact ⟨rfl, ((B5.out.on (alloc_b _ _)).drew).bel⟩
            case rest =>
            obtain ⟨h17, B6⟩ := hcut
            subst h17
            go_wp2_with fail
            with_reducible refine (PS.out _).mono ?_
            rintro e w7 ⟨rfl, b7⟩
            have B7 := hid (below_on B6.out b7)
            clear b7 B5 B6
            by_cases hk : kk < 0
            · rw [if_pos hk] at X2
              have hk2 : ¬ 0 ≤ kk := by omega
              have hk3 : decide (0 ≤ kk) = false := decide_eq_false hk2
              go_wp2_with fail
              go_ret
              exact ⟨rfl, B7.out⟩
            · rw [if_neg hk] at X2
              have hk2 : 0 ≤ kk := by omega
              have hk3 : decide (0 ≤ kk) = true := decide_eq_true hk2
              go_wp2_with fail
              go_ret
              exact ⟨rfl, B7.out⟩
      · have PR : Hid (Po.pr P = if P = -1 then 6 else P) := rfl
        clear hT v0 v1 hE hc hV f0 f1 r1 r2 hf
        generalize Po.bd V (Wh.bit F 8) P D = R at *
        generalize Wh.bit F 8 = hh at *
        generalize Po.pr P = pp at *
        rcases hv with rfl | rfl
        · by_cases hP : P = -1
          · have e6 : pp = 6 := by rw [PR.out, if_pos hP]
            subst e6
            subst hP
            clear PR
            go_enter Tryz.func6, Tryz.ntmps6
            go_wp2_with fail
            with_reducible refine (AW.out _ K0.out).mono ?_
            rintro e w1 ⟨rfl, b1⟩
            have B1 := hid (B0.out.on b1)
            clear b1 B0 K0
            obtain ⟨c0, c1, c2, c3⟩ := B1.out.flat
            go_wp2_with fail
            with_reducible refine (WR.out _).mono ?_
            rintro e w2 ⟨rfl, b2⟩
            have B2 := hid (B1.out.on b2)
            clear b2 B1 c0 c1 c2 c3
            obtain ⟨c0, c1, c2, c3⟩ := B2.out.flat
            go_wp2_with fail
            with_reducible refine (BR.out _).mono ?_
            rintro e w3 ⟨rfl, b3⟩
            have B3 := hid (B2.out.on b3)
            have K3 := hid (TB.out _ B3.out.bel)
            clear b3 B2 c0 c1 c2 c3
            go_wp2_with fail
            with_reducible refine (RN.out _ K3.out).mono ?_
            rintro e w4 ⟨rfl, b4⟩
            have B4 := hid (B3.out.on b4)
            have K4 := hid (TB.out _ B4.out.bel)
            clear b4 B3 K3
            obtain ⟨c0, c1, c2, c3⟩ := B4.out.flat
            go_wp2_with (go_at_call 14; refine (FN.out _).mono ?_; rintro e w' ⟨rfl, hw⟩; rw [hw]; clear hw w')
            go_ret
            exact ⟨rfl, B4.out.bel⟩
          · have e6 : P = pp := by rw [PR.out, if_neg hP]
            have hne : (pp == -1) = false := by rw [← e6]; simpa using hP
            subst e6
            clear PR hP
            go_enter Tryz.func6, Tryz.ntmps6
            go_wp2_with fail
            with_reducible refine (AW.out _ K0.out).mono ?_
            rintro e w1 ⟨rfl, b1⟩
            have B1 := hid (B0.out.on b1)
            clear b1 B0 K0
            obtain ⟨c0, c1, c2, c3⟩ := B1.out.flat
            go_wp2_with fail
            with_reducible refine (WR.out _).mono ?_
            rintro e w2 ⟨rfl, b2⟩
            have B2 := hid (B1.out.on b2)
            clear b2 B1 c0 c1 c2 c3
            obtain ⟨c0, c1, c2, c3⟩ := B2.out.flat
            go_wp2_with fail
            with_reducible refine (BR.out _).mono ?_
            rintro e w3 ⟨rfl, b3⟩
            have B3 := hid (B2.out.on b3)
            have K3 := hid (TB.out _ B3.out.bel)
            clear b3 B2 c0 c1 c2 c3
            go_wp2_with fail
            with_reducible refine (RN.out _ K3.out).mono ?_
            rintro e w4 ⟨rfl, b4⟩
            have B4 := hid (B3.out.on b4)
            have K4 := hid (TB.out _ B4.out.bel)
            clear b4 B3 K3
            obtain ⟨c0, c1, c2, c3⟩ := B4.out.flat
            go_wp2_with (go_at_call 14; refine (FN.out _).mono ?_; rintro e w' ⟨rfl, hw⟩; rw [hw]; clear hw w')
            go_ret
            exact ⟨rfl, B4.out.bel⟩
        · by_cases hP : P = -1
          · have e6 : pp = 6 := by rw [PR.out, if_pos hP]
            subst e6
            subst hP
            clear PR
            go_enter Tryz.func6, Tryz.ntmps6
            go_wp2_with fail
            with_reducible refine (AW.out _ K0.out).mono ?_
            rintro e w1 ⟨rfl, b1⟩
            have B1 := hid (B0.out.on b1)
            clear b1 B0 K0
            obtain ⟨c0, c1, c2, c3⟩ := B1.out.flat
            go_wp2_with fail
            with_reducible refine (WR.out _).mono ?_
            rintro e w2 ⟨rfl, b2⟩
            have B2 := hid (B1.out.on b2)
            clear b2 B1 c0 c1 c2 c3
            obtain ⟨c0, c1, c2, c3⟩ := B2.out.flat
            go_wp2_with fail
            with_reducible refine (BR.out _).mono ?_
            rintro e w3 ⟨rfl, b3⟩
            have B3 := hid (B2.out.on b3)
            have K3 := hid (TB.out _ B3.out.bel)
            clear b3 B2 c0 c1 c2 c3
            go_wp2_with fail
            with_reducible refine (RN.out _ K3.out).mono ?_
            rintro e w4 ⟨rfl, b4⟩
            have B4 := hid (B3.out.on b4)
            have K4 := hid (TB.out _ B4.out.bel)
            clear b4 B3 K3
            obtain ⟨c0, c1, c2, c3⟩ := B4.out.flat
            go_wp2_with (go_at_call 14; refine (FN.out _).mono ?_; rintro e w' ⟨rfl, hw⟩; rw [hw]; clear hw w')
            go_ret
            exact ⟨rfl, B4.out.bel⟩
          · have e6 : P = pp := by rw [PR.out, if_neg hP]
            have hne : (pp == -1) = false := by rw [← e6]; simpa using hP
            subst e6
            clear PR hP
            go_enter Tryz.func6, Tryz.ntmps6
            go_wp2_with fail
            with_reducible refine (AW.out _ K0.out).mono ?_
            rintro e w1 ⟨rfl, b1⟩
            have B1 := hid (B0.out.on b1)
            clear b1 B0 K0
            obtain ⟨c0, c1, c2, c3⟩ := B1.out.flat
            go_wp2_with fail
            with_reducible refine (WR.out _).mono ?_
            rintro e w2 ⟨rfl, b2⟩
            have B2 := hid (B1.out.on b2)
            clear b2 B1 c0 c1 c2 c3
            obtain ⟨c0, c1, c2, c3⟩ := B2.out.flat
            go_wp2_with fail
            with_reducible refine (BR.out _).mono ?_
            rintro e w3 ⟨rfl, b3⟩
            have B3 := hid (B2.out.on b3)
            have K3 := hid (TB.out _ B3.out.bel)
            clear b3 B2 c0 c1 c2 c3
            go_wp2_with fail
            with_reducible refine (RN.out _ K3.out).mono ?_
            rintro e w4 ⟨rfl, b4⟩
            have B4 := hid (B3.out.on b4)
            have K4 := hid (TB.out _ B4.out.bel)
            clear b4 B3 K3
            obtain ⟨c0, c1, c2, c3⟩ := B4.out.flat
            go_wp2_with (go_at_call 14; refine (FN.out _).mono ?_; rintro e w' ⟨rfl, hw⟩; rw [hw]; clear hw w')
            go_ret
            exact ⟨rfl, B4.out.bel⟩
    · have hf' : Ie.fnt D = false := by simpa using hf
      rw [hf'] at FN
      clear hT v0 v1 hE hc hV f0 f1 hf hf' p0 p1
      generalize Po.ren V (bits .and .i64 F 8) 0 P D = R at *
      generalize Po.renE V (bits .and .i64 F 8) 0 P = E2 at *
      go_enter Tryz.func6, Tryz.ntmps6
      go_wp2_with fail
      with_reducible refine (AW.out _ K0.out).mono ?_
      rintro e w1 ⟨rfl, b1⟩
      have B1 := hid (B0.out.on b1)
      clear b1 B0 K0
      obtain ⟨c0, c1, c2, c3⟩ := B1.out.flat
      go_wp2_with fail
      with_reducible refine (WR.out _).mono ?_
      rintro e w2 ⟨rfl, b2⟩
      have B2 := hid (B1.out.on b2)
      clear b2 B1 c0 c1 c2 c3
      obtain ⟨c0, c1, c2, c3⟩ := B2.out.flat
      go_wp2_with fail
      with_reducible refine (BR.out _).mono ?_
      rintro e w3 ⟨rfl, b3⟩
      have B3 := hid (B2.out.on b3)
      have K3 := hid (TB.out _ B3.out.bel)
      clear b3 B2 c0 c1 c2 c3
      go_wp2_with fail
      with_reducible refine (RN.out _ K3.out).mono ?_
      rintro e w4 ⟨rfl, b4⟩
      have B4 := hid (B3.out.on b4)
      have K4 := hid (TB.out _ B4.out.bel)
      clear b4 B3 K3
      obtain ⟨c0, c1, c2, c3⟩ := B4.out.flat
      go_wp2_with (go_at_call 14; refine (FN.out _).mono ?_; rintro e w' ⟨rfl, hw⟩; rw [hw]; clear hw w')
      go_ret
      exact ⟨rfl, B4.out.bel⟩
  · have h140 : Po.renE V F W P = 140 → Po.renE V (bits .and .i64 F 8) 0 P = 140 := by
      unfold Po.renE
      by_cases hV : Po.okV V = true
      · rw [if_pos hV]
        intro c
        rcases Wh.chk_three F W P with q | q | q <;> omega
      · rw [if_neg hV, if_neg hV]; exact fun _ => rfl
    have hne : (Po.renE V F W P == 0) = false := by simpa using hE
    have hne2 : (Po.renE V F W P != 0) = true := by simpa using hE
    replace h140 := hid h140
    clear hT v0 v1 hE
    generalize Po.ren V (bits .and .i64 F 8) 0 P D = R at *
    generalize Po.renE V (bits .and .i64 F 8) 0 P = E2 at *
    generalize Po.renE V F W P = E at *
    by_cases h : E = 140
    · have h2 := h140.out h
      subst h
      subst h2
      clear h140
      go_enter Tryz.func6, Tryz.ntmps6
      go_wp2_with fail
      with_reducible refine (AW.out _ K0.out).mono ?_
      rintro e w1 ⟨rfl, b1⟩
      have B1 := hid (B0.out.on b1)
      clear b1 B0 K0
      obtain ⟨c0, c1, c2, c3⟩ := B1.out.flat
      go_wp2_with fail
      with_reducible refine (WR.out _).mono ?_
      rintro e w2 ⟨rfl, b2⟩
      have B2 := hid (B1.out.on b2)
      clear b2 B1 c0 c1 c2 c3
      obtain ⟨c0, c1, c2, c3⟩ := B2.out.flat
      go_wp2_with fail
      with_reducible refine (BR.out _).mono ?_
      rintro e w3 ⟨rfl, b3⟩
      have B3 := hid (B2.out.on b3)
      have K3 := hid (TB.out _ B3.out.bel)
      clear b3 B2 c0 c1 c2 c3
      go_wp2_with fail
      with_reducible refine (RN.out _ K3.out).mono ?_
      rintro e w4 ⟨rfl, b4⟩
      have B4 := hid (B3.out.on b4)
      have K4 := hid (TB.out _ B4.out.bel)
      clear b4 B3 K3
      obtain ⟨c0, c1, c2, c3⟩ := B4.out.flat
      go_wp2_with fail
      go_ret
      exact ⟨rfl, B4.out.bel⟩
    · have h3 : (E == 140) = false := by simpa using h
      have h4 : (E != 140) = true := by simpa using h
      clear h140 h
      go_enter Tryz.func6, Tryz.ntmps6
      go_wp2_with fail
      with_reducible refine (AW.out _ K0.out).mono ?_
      rintro e w1 ⟨rfl, b1⟩
      have B1 := hid (B0.out.on b1)
      clear b1 B0 K0
      obtain ⟨c0, c1, c2, c3⟩ := B1.out.flat
      go_wp2_with fail
      with_reducible refine (WR.out _).mono ?_
      rintro e w2 ⟨rfl, b2⟩
      have B2 := hid (B1.out.on b2)
      clear b2 B1 c0 c1 c2 c3
      obtain ⟨c0, c1, c2, c3⟩ := B2.out.flat
      go_wp2_with fail
      with_reducible refine (BR.out _).mono ?_
      rintro e w3 ⟨rfl, b3⟩
      have B3 := hid (B2.out.on b3)
      have K3 := hid (TB.out _ B3.out.bel)
      clear b3 B2 c0 c1 c2 c3
      go_wp2_with fail
      with_reducible refine (RN.out _ K3.out).mono ?_
      rintro e w4 ⟨rfl, b4⟩
      have B4 := hid (B3.out.on b4)
      have K4 := hid (TB.out _ B4.out.bel)
      clear b4 B3 K3
      obtain ⟨c0, c1, c2, c3⟩ := B4.out.flat
      go_wp2_with fail
      go_ret
      exact ⟨rfl, B4.out.bel⟩
end Go.Proofs.YtaoaniigbooihaaGreatDoor

namespace Go.Proofs.YtaoaniigbooihaaGreatDoor
open Go Go.RowKit Go.Deep

theorem tab_laid : (Rows.laid_math_bits_deBruijn64tab : DataW Unit) = Lib.tabData .u8 (List.map Int.ofNat Lib.deBruijn64tab) := by kernel_rfl

theorem tab_of {W : World} {rest : List (String × DataW Unit)} (h : laidMet Tryz.prog (("math/bits.deBruijn64tab", Rows.laid_math_bits_deBruijn64tab) :: rest) W) : Tab W := by
  rw [tab_laid] at h
  have ht := Lib.tabIs_of_head (g := 0) (t := 139) (e := 5) (n := 64) (k := .u8) (zs := List.map Int.ofNat Lib.deBruijn64tab) (by kernel_rfl) (by kernel_rfl) Tryz.underlying139 Tryz.underlying5 (by kernel_rfl) (by kernel_rfl) h
  intro j hj
  have hl : (List.map Int.ofNat Lib.deBruijn64tab).length = Lib.deBruijn64tab.length := by simp
  rw [ht.cell (g := 0) (by kernel_rfl) j (by omega)]
  simp [List.getD, hj]

end Go.Proofs.YtaoaniigbooihaaGreatDoor

namespace Go.Proofs.YtaoaniigbooihaaGreatDoor
open Go Go.RowKit Go.Deep Go.Shelf

theorem case_laid : Rows.laid_unicode_CaseRanges = Lib.caseData := by kernel_rfl

theorem laidVars_swap {P : Program} {w : World} {x y : String × DataW Unit} : ∀ {l : List (String × DataW Unit)} {ps : List MemPlace}, DataW.LaidVars P w (l ++ [y, x]) ps → ∃ qs, DataW.LaidVars P w (l ++ [x, y]) qs ∧ qs.Perm ps
  | [], ps, h => by
    obtain ⟨x1, x2⟩ := x
    obtain ⟨y1, y2⟩ := y
    obtain ⟨g, t, cs, fuel, p, q, h1, h2, h3, h4, ⟨g', t', cs', fuel', p', q', k1, k2, k3, k4, k5, rfl⟩, rfl⟩ := h
    have k5 : q' = [] := k5
    subst k5
    refine ⟨_, ⟨g', t', cs', fuel', p', _, k1, k2, k3, k4, ⟨g, t, cs, fuel, p, [], h1, h2, h3, h4, rfl, rfl⟩, rfl⟩, ?_⟩
    simp only [List.append_nil]
    exact List.perm_append_comm
  | (n, d) :: l, ps, h => by
    obtain ⟨g, t, cs, fuel, p, q, h1, h2, h3, h4, h5, rfl⟩ := h
    obtain ⟨qs, k1, k2⟩ := laidVars_swap h5
    exact ⟨_, ⟨g, t, cs, fuel, p, qs, h1, h2, h3, h4, k1, rfl⟩, List.Perm.append_left _ k2⟩
theorem laidMet_swap {P : Program} {w : World} {x y : String × DataW Unit} {l : List (String × DataW Unit)} (h : laidMet P (l ++ [y, x]) w) : laidMet P (l ++ [x, y]) w := by
  obtain ⟨ps, h1, h2, h3⟩ := h
  obtain ⟨qs, k1, k2⟩ := laidVars_swap h1
  exact ⟨qs, k1, (k2.nodup_iff).2 h2, fun b off hp => h3 b off (k2.mem_iff.1 hp)⟩
end Go.Proofs.YtaoaniigbooihaaGreatDoor

namespace Go.Proofs.YtaoaniigbooihaaGreatDoor
open Go.RowKit Go.Deep Go.ChangeShapes Go.WideShapes Go.ChangeAt

theorem spc_array {α : Type} {cs : Array α} (h : cs.size = 4) : ∃ c0 c1 c2 c3, cs = #[c0, c1, c2, c3] := by
  obtain ⟨l⟩ := cs
  match l, h with
  | [c0, c1, c2, c3], _ => exact ⟨c0, c1, c2, c3, rfl⟩
theorem spc_list {α : Type} {l : List α} (h : l.length = 4) : ∃ c0 c1 c2 c3, l = [c0, c1, c2, c3] := by
  match l, h with
  | [c0, c1, c2, c3], _ => exact ⟨c0, c1, c2, c3, rfl⟩

set_option maxRecDepth 100000 in
theorem open_spc_cells {H : Type} {enc : TypeId × Value → H} {W : World} {fuel : Nat} {a0 a1 a2 a3 : Value} {x : DataW H × List MemPlace} (hf : DataW.trod enc Tryz.prog W 0 (fun _ => true) true fuel 25 [a0, a1, a2, a3] = some x) :
    ∃ V F D P : Int, a0 = .int .u8 V ∧ a1 = .int .i64 F ∧ a2 = .int .i64 D ∧ a3 = .int .i64 P ∧ (0 ≤ V ∧ V < 256) := by
  obtain ⟨xs, n, _, hx, _, hlen, hfs⟩ := DataW.trod_struct Tryz.underlying25 hf
  obtain ⟨y0, y1, y2, y3, rfl⟩ := spc_list hlen
  have c3 : Tryz.prog.cellsOf 3 = 1 := by kernel_rfl
  have c8 : Tryz.prog.cellsOf 5 = 1 := by kernel_rfl
  have f0 : DataW.trod enc Tryz.prog W 0 (fun _ => true) true n 5 [a0] = some y0 := by simpa [c8] using hfs 0 _ rfl
  have f1 : DataW.trod enc Tryz.prog W 0 (fun _ => true) true n 3 [a1] = some y1 := by simpa [c3] using hfs 1 _ rfl
  have f2 : DataW.trod enc Tryz.prog W 0 (fun _ => true) true n 3 [a2] = some y2 := by simpa [c3] using hfs 2 _ rfl
  have f3 : DataW.trod enc Tryz.prog W 0 (fun _ => true) true n 3 [a3] = some y3 := by simpa [c3] using hfs 3 _ rfl
  obtain ⟨V, e0, _, w0⟩ := DataW.trod_int Tryz.underlying5 f0
  obtain ⟨F, e1, _, w1⟩ := DataW.trod_int Tryz.underlying3 f1
  obtain ⟨D, e2, _, w2⟩ := DataW.trod_int Tryz.underlying3 f2
  obtain ⟨P, e3, _, w3⟩ := DataW.trod_int Tryz.underlying3 f3
  have b0 := bounds_u8 w0
  exact ⟨V, F, D, P, (List.cons.inj e0).1, (List.cons.inj e1).1, (List.cons.inj e2).1, (List.cons.inj e3).1, by omega, by omega⟩

set_option maxRecDepth 100000 in
theorem open_spc {H : Type} {enc : TypeId × Value → H} {W : World} {base : Nat} {v : Value} {d : DataW H} {p : List MemPlace} (hv : Value.okWide Tryz.prog W .any base 25 v) (h : DataW.Trod enc Tryz.prog W 0 (fun _ => true) true 25 v d p) :
    ∃ V F D P : Int, v = .agg #[.int .u8 V, .int .i64 F, .int .i64 D, .int .i64 P] ∧ (0 ≤ V ∧ V < 256) := by
  obtain ⟨cs, rfl, hs3⟩ := okWide_struct Tryz.underlying25 hv
  obtain ⟨a0, a1, a2, a3, rfl⟩ := spc_array (hs3.trans (show Tryz.prog.cellsOf 25 = 4 by kernel_rfl))
  obtain ⟨fuel, hf⟩ := h
  have hf' : DataW.trod enc Tryz.prog W 0 (fun _ => true) true fuel 25 [a0, a1, a2, a3] = some (d, p) := by simpa [Value.cells] using hf
  obtain ⟨V, F, D, P, e0, e1, e2, e3, h1⟩ := open_spc_cells (x := (d, p)) hf'
  rw [e0, e1, e2, e3]
  exact ⟨V, F, D, P, rfl, h1⟩
end Go.Proofs.YtaoaniigbooihaaGreatDoor
