/-
  Texts put together: PoMade, PoPlN, NPush, PoR0, PoR1, PoR2, PoR3, PoR4.
-/
import Derived.Test.YtaoaniigbooihaaGreatDoorRG
import Derived.Test.YtaoaniigbooihaaGreatDoorNMem
import Derived.Laws.AppendOwn
import Derived.Laws.OwnMore
import Derived.Deep.LoopGhost
import Derived.OwnWalk
import Derived.Deep.DeepCutAuto
import Derived.Deep.CutBlock
import Derived.Test.YtaoaniigbooihaaGreatDoorZDecA
import Derived.Test.YtaoaniigbooihaaGreatDoorRC
import Derived.Test.YtaoaniigbooihaaGreatDoorZRef9
import Derived.Test.YtaoaniigbooihaaGreatDoorZRef13
import Derived.Test.YtaoaniigbooihaaGreatDoorZRef6
import Derived.Test.YtaoaniigbooihaaGreatDoorZRef7
namespace Go.Proofs.YtaoaniigbooihaaGreatDoor
namespace Sc

def exG (el : Option Int) (m : Int) (G : List Int) : List Int := match el with | some c => c :: (sgT m ++ G) | none => []
def exV (el : Option Int) (m c : Int) : Int := match el with | some _ => if m = 2 then - c else c | none => 0

/-- The parts of a literal behind P, and what follows. -/
theorem gmade_lit (P A B tail : List Int) (n m : Int) (pt : Bool) (el : Option Int) (G : List Int) (hA : ∀ x ∈ A, dg x = true) (hB : ∀ x ∈ B, dg x = true) (hne : A.length + (if pt = true then B.length else 0) ≠ 0)
    (hel : ∀ c, el = some c → c = 101 ∨ c = 69) (hG : (∀ x ∈ G, dg x = true) ∧ G ≠ []) (ht : dg (pk tail 0) = false ∧ pk tail 0 ≠ 46 ∧ isE (pk tail 0) = false ∧ pk tail 0 ≠ 43 ∧ pk tail 0 ≠ 45) :
    some? (P ++ sgT n ++ A ++ ((if pt = true then 46 :: B else []) ++ (exG el m G ++ tail))) P.length ∧
    lit (P ++ sgT n ++ A ++ ((if pt = true then 46 :: B else []) ++ (exG el m G ++ tail))) P.length =
      ⟨decide (n = 2), A, if pt = true then B else [], exV el m (cap G),
        (P ++ sgT n ++ A ++ ((if pt = true then 46 :: B else []) ++ exG el m G)).length⟩ := by
  obtain ⟨ex, hex⟩ : ∃ ex : List Int, ex = exG el m G := ⟨_, rfl⟩
  obtain ⟨dot, hdot⟩ : ∃ dot : List Int, dot = (if pt = true then 46 :: B else []) := ⟨_, rfl⟩
  rw [← hex, ← hdot]
  -- the first byte of the exponent's part and what follows
  have x0 : dg (pk (ex ++ tail) 0) = false ∧ pk (ex ++ tail) 0 ≠ 46 ∧ pk (ex ++ tail) 0 ≠ 43 ∧ pk (ex ++ tail) 0 ≠ 45 := by
    cases el with
    | none => rw [hex]; exact ⟨ht.1, ht.2.1, ht.2.2.2.1, ht.2.2.2.2⟩
    | some c =>
      rw [hex]
      have := hel c rfl
      show dg c = false ∧ c ≠ 46 ∧ c ≠ 43 ∧ c ≠ 45
      refine ⟨?_, by omega, by omega, by omega⟩
      rw [dg_not]; omega
  have d0 : dg (pk (dot ++ (ex ++ tail)) 0) = false ∧ pk (dot ++ (ex ++ tail)) 0 ≠ 43 ∧ pk (dot ++ (ex ++ tail)) 0 ≠ 45 ∧ (pk (dot ++ (ex ++ tail)) 0 = 46 ↔ pt = true) := by
    cases pt with
    | false => rw [hdot]; exact ⟨x0.1, x0.2.2.1, x0.2.2.2, ⟨fun c => absurd c x0.2.1, fun c => by simp at c⟩⟩
    | true => rw [hdot]; exact ⟨rfl, by show (46 : Int) ≠ 43; omega, by show (46 : Int) ≠ 45; omega, ⟨fun _ => rfl, fun _ => rfl⟩⟩
  obtain ⟨R, hR⟩ : ∃ R, R = dot ++ (ex ++ tail) := ⟨_, rfl⟩
  rw [← hR] at d0 ⊢
  have a0 : ¬ (pk (A ++ R) 0 = 43 ∨ pk (A ++ R) 0 = 45) := by
    rw [pk_or]
    split
    · intro c; rcases c with c | c; exact d0.2.1 c; exact d0.2.2.1 c
    · next c => have := dg_iff.1 (pk_dig hA c); omega
  obtain ⟨s1, s2⟩ := sg_made P (A ++ R) n a0
  rw [← List.append_assoc] at s1 s2
  obtain ⟨xs, hxs⟩ : ∃ xs, xs = P ++ sgT n ++ A ++ R := ⟨_, rfl⟩
  rw [← hxs] at s1 s2 ⊢
  have e1 : p1 xs P.length = (P ++ sgT n).length := by unfold p1; rw [s1, List.length_append]
  have r1 : run dg xs (P ++ sgT n).length = A.length := by rw [hxs]; exact run_app dg0 hA d0.1
  have e2 : p2 xs P.length = (P ++ sgT n ++ A).length := by unfold p2; rw [e1, r1]; exact List.length_append.symm
  have ah : (xs.drop (p1 xs P.length)).take (run dg xs (p1 xs P.length)) = A := by rw [e1, r1, hxs]; exact take_app
  have k2 : pk xs (p2 xs P.length) = pk R 0 := by rw [e2, hxs, pk_at0]
  -- the point
  have pnt : bn xs P.length = (if pt = true then B.length else 0) ∧ p3 xs P.length = (P ++ sgT n ++ A ++ dot).length ∧ (xs.drop (p2 xs P.length + 1)).take (bn xs P.length) = (if pt = true then B else []) := by
    cases pt with
    | false =>
      have c : ¬ pk xs (p2 xs P.length) = 46 := by rw [k2]; intro c; exact absurd (d0.2.2.2.1 c) (by simp)
      refine ⟨by unfold bn; rw [if_neg c]; rfl, by unfold p3; rw [if_neg c, e2, hdot]; simp, ?_⟩
      have : bn xs P.length = 0 := by unfold bn; rw [if_neg c]
      rw [this]; rfl
    | true =>
      have c : pk xs (p2 xs P.length) = 46 := by rw [k2]; exact d0.2.2.2.2 rfl
      have hd : dot = 46 :: B := by rw [hdot]; rfl
      have hx2 : xs = (P ++ sgT n ++ A ++ [46]) ++ B ++ (ex ++ tail) := by rw [hxs, hR, hd]; simp
      have l2 : p2 xs P.length + 1 = (P ++ sgT n ++ A ++ [46]).length := by rw [e2]; simp; omega
      have r2 : run dg xs (p2 xs P.length + 1) = B.length := by rw [l2, hx2]; exact run_app dg0 hB x0.1
      have b2 : bn xs P.length = B.length := by unfold bn; rw [if_pos c, r2]
      refine ⟨b2, ?_, ?_⟩
      · unfold p3; rw [if_pos c, r2, e2, hd]; simp; omega
      · rw [b2, l2, hx2]; exact take_app
  obtain ⟨b1, b2, b3⟩ := pnt
  have hsome : some? xs P.length := by unfold some?; rw [e1, r1, b1]; exact hne
  refine ⟨hsome, ?_⟩
  have ng : decide (pk xs P.length = 45) = decide (n = 2) := decide_eq_decide.2 s2
  have hx3 : xs = (P ++ sgT n ++ A ++ dot) ++ (ex ++ tail) := by rw [hxs, hR]; simp
  have k3 : ∀ i, pk xs (p3 xs P.length + i) = pk (ex ++ tail) i := fun i => by rw [b2, hx3]; exact pk_at _ _ i
  have k30 : pk xs (p3 xs P.length) = pk (ex ++ tail) 0 := k3 0
  cases el with
  | none =>
    have hE : hasE xs (p3 xs P.length) = false := by
      unfold hasE; rw [k30, hex]; show (isE (pk tail 0) && _) = false; rw [ht.2.2.1, Bool.false_and]
    unfold lit
    rw [ah, ng, b3, hE, b2, hex]
    simp [exG, exV]
  | some c =>
    have hc := hel c rfl
    have hex' : ex = c :: (sgT m ++ G) := hex
    obtain ⟨k1, k2'⟩ := hG
    have dp := dg_iff.1 (pk_dig k1 k2')
    have hx4 : xs = (P ++ sgT n ++ A ++ dot ++ [c]) ++ sgT m ++ (G ++ tail) := by rw [hx3, hex']; simp
    have l4 : p3 xs P.length + 1 = (P ++ sgT n ++ A ++ dot ++ [c]).length := by rw [b2]; simp; omega
    obtain ⟨t1, t2⟩ := sg_made (P ++ sgT n ++ A ++ dot ++ [c]) (G ++ tail) m (by rw [pk_or, if_neg k2']; omega)
    rw [← hx4, ← l4] at t1 t2
    have e4 : p4 xs (p3 xs P.length) = (P ++ sgT n ++ A ++ dot ++ [c] ++ sgT m).length := by unfold p4; rw [t1, l4, ← List.length_append]
    have hx5 : xs = (P ++ sgT n ++ A ++ dot ++ [c] ++ sgT m) ++ G ++ tail := by rw [hx4]; simp
    have r4 : run dg xs (p4 xs (p3 xs P.length)) = (G).length := by rw [e4, hx5]; exact run_app dg0 k1 ht.1
    have tk : (xs.drop (p4 xs (p3 xs P.length))).take (run dg xs (p4 xs (p3 xs P.length))) = G := by rw [r4, e4, hx5]; exact take_app
    have hE : hasE xs (p3 xs P.length) = true := by
      unfold hasE
      rw [k30, hex']
      have h1 : isE (pk (c :: (sgT m ++ G) ++ tail) 0) = true := by show isE c = true; simp [isE]; exact hc
      rw [h1, Bool.true_and, e4, hx5, List.append_assoc _ (G), pk_at0, pk_or, if_neg k2']
      exact pk_dig k1 k2'
    unfold lit
    rw [ah, ng, b3, hE, tk, if_pos rfl, if_pos rfl, r4, e4]
    congr 1
    · by_cases hm : m = 2
      · rw [if_pos (t2.2 hm)]; simp [exV, hm]
      · rw [if_neg (fun h => hm (t2.1 h))]; simp [exV, hm]
    · rw [hex']; simp; omega

def gtx (n : Int) (A B : List Int) (pt : Bool) (el : Option Int) (m : Int) (G : List Int) : List Int := sgT n ++ A ++ ((if pt = true then 46 :: B else []) ++ exG el m G)
theorem gtx_head (n : Int) (A B : List Int) (pt : Bool) (el : Option Int) (m : Int) (G : List Int) (tail : List Int) (hA : ∀ x ∈ A, dg x = true) (hne : A.length + (if pt = true then B.length else 0) ≠ 0) : bl (pk (gtx n A B pt el m G ++ tail) 0) = false := by
  rw [bl_not]
  unfold gtx
  by_cases h1 : n = 1
  · subst h1; show ¬ ((43 : Int) = 32 ∨ 9 ≤ (43 : Int) ∧ (43 : Int) ≤ 13); decide
  · by_cases h2 : n = 2
    · subst h2; show ¬ ((45 : Int) = 32 ∨ 9 ≤ (45 : Int) ∧ (45 : Int) ≤ 13); decide
    · have s0 : sgT n = [] := by unfold sgT; rw [if_neg h1, if_neg h2]
      rw [s0]
      cases A with
      | nil =>
        cases pt with
        | false => simp at hne
        | true => show ¬ ((46 : Int) = 32 ∨ 9 ≤ (46 : Int) ∧ (46 : Int) ≤ 13); decide
      | cons x l =>
        have := dg_iff.1 (hA x (by simp))
        show ¬ (x = 32 ∨ 9 ≤ x ∧ x ≤ 13)
        omega

theorem gmade_run (P A B tail : List Int) (n m : Int) (pt : Bool) (el : Option Int) (G : List Int) (hP : ∀ x ∈ P, bl x = true) (hA : ∀ x ∈ A, dg x = true) (hne : A.length + (if pt = true then B.length else 0) ≠ 0) : run bl (P ++ gtx n A B pt el m G ++ tail) 0 = P.length := by
  have := run_app bl0 (as' := []) (bs := P) (cs := gtx n A B pt el m G ++ tail) hP (gtx_head n A B pt el m G tail hA hne)
  rw [List.nil_append, ← List.append_assoc] at this
  exact this

theorem gmade_at (P A B tail : List Int) (n m : Int) (pt : Bool) (el : Option Int) (G : List Int) (hA : ∀ x ∈ A, dg x = true) (hB : ∀ x ∈ B, dg x = true) (hne : A.length + (if pt = true then B.length else 0) ≠ 0)
    (hel : ∀ c, el = some c → c = 101 ∨ c = 69) (hG : (∀ x ∈ G, dg x = true) ∧ G ≠ []) (ht : TailOk tail) : some? (P ++ gtx n A B pt el m G ++ tail) P.length ∧
    (lit (P ++ gtx n A B pt el m G ++ tail) P.length).d = nrm (decide (n = 2)) (A ++ (if pt = true then B else [])) (exV el m (cap G) - ((if pt = true then B else []).length : Int)) ∧
    (lit (P ++ gtx n A B pt el m G ++ tail) P.length).en = (P ++ gtx n A B pt el m G).length := by
  have e : P ++ gtx n A B pt el m G ++ tail = P ++ sgT n ++ A ++ ((if pt = true then 46 :: B else []) ++ (exG el m G ++ tail)) := by unfold gtx; simp only [List.append_assoc]
  obtain ⟨h1, h2⟩ := gmade_lit P A B tail n m pt el G hA hB hne hel hG ht
  rw [e, h2]
  refine ⟨h1, rfl, ?_⟩
  show (P ++ sgT n ++ A ++ ((if pt = true then 46 :: B else []) ++ exG el m G)).length = _
  unfold gtx
  simp only [List.append_assoc]

theorem gmade_num (P A B tail : List Int) (n m : Int) (pt : Bool) (el : Option Int) (G : List Int) (hP : ∀ x ∈ P, bl x = true) (hA : ∀ x ∈ A, dg x = true) (hB : ∀ x ∈ B, dg x = true) (hne : A.length + (if pt = true then B.length else 0) ≠ 0)
    (hel : ∀ c, el = some c → c = 101 ∨ c = 69) (hG : (∀ x ∈ G, dg x = true) ∧ G ≠ []) (ht : TailOk tail) :
    num (P ++ gtx n A B pt el m G ++ tail) = (nrm (decide (n = 2)) (A ++ (if pt = true then B else [])) (exV el m (cap G) - ((if pt = true then B else []).length : Int)), (P ++ gtx n A B pt el m G).length) := by
  obtain ⟨h1, h2, h3⟩ := gmade_at P A B tail n m pt el G hA hB hne hel hG ht
  unfold num
  rw [gmade_run P A B tail n m pt el G hP hA hne, if_pos h1, h2, h3]

theorem gmade_whl (P A B tail : List Int) (n m : Int) (pt : Bool) (el : Option Int) (G : List Int) (hP : ∀ x ∈ P, bl x = true) (hA : ∀ x ∈ A, dg x = true) (hB : ∀ x ∈ B, dg x = true) (hne : A.length + (if pt = true then B.length else 0) ≠ 0)
    (hel : ∀ c, el = some c → c = 101 ∨ c = 69) (hG : (∀ x ∈ G, dg x = true) ∧ G ≠ []) (ht : TailOk tail) (hb : ∀ x ∈ tail, bl x = true) :
    whl (P ++ gtx n A B pt el m G ++ tail) = (nrm (decide (n = 2)) (A ++ (if pt = true then B else [])) (exV el m (cap G) - ((if pt = true then B else []).length : Int)), true) := by
  obtain ⟨h1, h2, h3⟩ := gmade_at P A B tail n m pt el G hA hB hne hel hG ht
  have r : run bl (P ++ gtx n A B pt el m G ++ tail) (P ++ gtx n A B pt el m G).length = tail.length := by
    have := run_app bl0 (as' := P ++ gtx n A B pt el m G) (bs := tail) (cs := []) hb rfl
    rw [List.append_nil] at this
    exact this
  unfold whl
  rw [gmade_run P A B tail n m pt el G hP hA hne, if_pos ⟨h1, by rw [h3, r]; exact List.length_append.symm⟩, h2]

end Sc
end Go.Proofs.YtaoaniigbooihaaGreatDoor

namespace Go.Proofs.YtaoaniigbooihaaGreatDoor
open Go Go.RowKit Go.Deep
namespace Po

/-- How many bytes stand behind the last point; -1 where there is none. -/
def nst (xs : List Int) : Int := xs.foldl (fun n x => if x = 46 then 0 else if 0 ≤ n then n + 1 else n) (-1)
theorem nst_snoc (xs : List Int) (x : Int) : nst (xs ++ [x]) = if x = 46 then 0 else if 0 ≤ nst xs then nst xs + 1 else nst xs := by
  unfold nst
  rw [List.foldl_append, List.foldl_cons, List.foldl_nil]
theorem nst_nil : nst [] = -1 := rfl
theorem nst_take {xs : List Int} {i : Nat} (h : i < xs.length) : nst (xs.take (i + 1)) = if xs.getD i 0 = 46 then 0 else if 0 ≤ nst (xs.take i) then nst (xs.take i) + 1 else nst (xs.take i) := by
  rw [List.take_add_one, ← nst_snoc]
  congr 2
  simp [h]
theorem nst_bd : ∀ (xs : List Int), -1 ≤ nst xs ∧ nst xs ≤ xs.length := by
  intro xs
  obtain ⟨n, hn⟩ : ∃ n, xs.length = n := ⟨_, rfl⟩
  induction n generalizing xs with
  | zero =>
    have : xs = [] := List.length_eq_zero_iff.1 hn
    subst this
    rw [nst_nil]; simp
  | succ n ih =>
    have e := Fx.take_last hn
    have k := ih (xs.take n) (by rw [List.length_take]; omega)
    rw [List.length_take] at k
    rw [e, nst_snoc, List.length_append, List.length_take]
    simp only [List.length_singleton]
    split
    · omega
    · split <;> omega
theorem nst_nodot {xs : List Int} (h : ∀ x ∈ xs, x ≠ 46) : nst xs = -1 := by
  have key : ∀ (l : List Int) (c : Int), c < 0 → (∀ x ∈ l, x ≠ 46) → l.foldl (fun n x => if x = 46 then 0 else if 0 ≤ n then n + 1 else n) c = c := by
    intro l
    induction l with
    | nil => intro c _ _; rfl
    | cons y l ih =>
      intro c hc hl
      rw [List.foldl_cons, if_neg (hl y (by simp)), if_neg (by omega)]
      exact ih c hc (fun x hx => hl x (by simp [hx]))
  exact key xs (-1) (by omega) h
theorem nst_dot {a b : List Int} (hb : ∀ x ∈ b, x ≠ 46) : nst (a ++ 46 :: b) = b.length := by
  have key : ∀ (l : List Int) (c : Int), 0 ≤ c → (∀ x ∈ l, x ≠ 46) → l.foldl (fun n x => if x = 46 then 0 else if 0 ≤ n then n + 1 else n) c = c + l.length := by
    intro l
    induction l with
    | nil => intro c _ _; simp
    | cons y l ih =>
      intro c hc hl
      rw [List.foldl_cons, if_neg (hl y (by simp)), if_pos (by omega), ih (c + 1) (by omega) (fun x hx => hl x (by simp [hx]))]
      simp; omega
  unfold nst
  rw [List.foldl_append, List.foldl_cons, if_pos rfl, key b 0 (by omega) hb]
  omega

/-- What stands ahead of an exponent. -/
def hd (a b : List Int) (h : Bool) : List Int := if b = [] ∧ h = false then a else a ++ 46 :: b
theorem wrt_hd (a b p : List Int) (h : Bool) : wrt a b p h = hd a b h ++ p := by
  unfold wrt hd
  split <;> simp
theorem nst_hd {g a b : List Int} {h : Bool} (hg : ∀ x ∈ g, x ≠ 46) (ha : Digs a) (hb : Digs b) : (if nst (g ++ hd a b h) < 0 then 0 else nst (g ++ hd a b h)) = b.length := by
  unfold hd
  split
  · next c =>
    rw [nst_nodot]
    · rw [c.1]; rfl
    · intro x hx
      rcases List.mem_append.1 hx with q | q
      · exact hg x q
      · have := ha x q; omega
  · rw [← List.append_assoc, nst_dot (fun x hx => by have := hb x hx; omega), if_neg (by omega)]
/-- No letter. -/
def noE (xs : List Int) : Prop := ∀ x ∈ xs, x ≠ 101 ∧ x ≠ 69
theorem noE_hd {g a b : List Int} {h : Bool} (hg : noE g) (ha : Digs a) (hb : Digs b) : noE (g ++ hd a b h) := by
  intro x hx
  rcases List.mem_append.1 hx with q | q
  · exact hg x q
  · unfold hd at q
    split at q
    · have := ha x q; omega
    · rcases List.mem_append.1 q with q | q
      · have := ha x q; omega
      · rcases List.mem_cons.1 q with rfl | q
        · omega
        · have := hb x q; omega

/-- The number behind an exponent's letter. -/
theorem cap_tx {v : Int} (h0 : 0 ≤ v) (h1 : v ≤ 400) : Sc.cap (Fx.tx (if v < 100 then 2 else 3) v) = v := by
  have key : ∀ t : Fin 401, Sc.cap (Fx.tx (if (t.val : Int) < 100 then 2 else 3) (t.val : Int)) = (t.val : Int) := by decide +kernel
  have := key ⟨v.toNat, by omega⟩
  simp only at this
  rw [show ((v.toNat : Nat) : Int) = v by omega] at this
  exact this
theorem digs_dg {xs : List Int} (h : Digs xs) : ∀ x ∈ xs, Sc.dg x = true := fun x hx => Sc.dg_iff.2 (h x hx)
theorem tail_nil : Sc.TailOk [] := ⟨rfl, by decide, rfl, by decide, by decide⟩
theorem tx_ne (v : Int) : Fx.tx (if v < 100 then 2 else 3) v ≠ [] := by
  intro c
  have : (Fx.tx (if v < 100 then 2 else 3) v).length = 0 := by rw [c]; rfl
  rw [Fx.tx_len] at this
  split at this <;> omega
theorem sg_xd (k : Int) : (if k < 0 then (45 : Int) else 43) :: [] = Sc.sgT (if k < 0 then 2 else 1) := by
  unfold Sc.sgT
  split <;> rfl
theorem exG_is {V k : Int} (h0 : -400 ≤ k) (h1 : k ≤ 400) : Sc.exG (some (if cap V = true then 69 else 101)) (if k < 0 then 2 else 1) (Fx.tx (if max k (-k) < 100 then 2 else 3) (max k (-k))) = ex V k := by
  unfold Sc.exG ex
  rw [xd_is h0 h1, ← sg_xd]
  rfl
theorem exV_is {k : Int} (c : Int) (h0 : -400 ≤ k) (h1 : k ≤ 400) : Sc.exV (some c) (if k < 0 then 2 else 1) (Sc.cap (Fx.tx (if max k (-k) < 100 then 2 else 3) (max k (-k)))) = k := by
  rw [cap_tx (by omega) (by omega)]
  unfold Sc.exV
  by_cases h : k < 0
  · simp [h]; omega
  · simp [h]; omega
theorem num_ex {V k : Int} (h0 : -400 ≤ k) (h1 : k ≤ 400) : Sc.num (49 :: ex V k) = (⟨false, [49], k⟩, (ex V k).length + 1) := by
  have q := Sc.gmade_num [] [49] [] [] 0 (if k < 0 then 2 else 1) false (some (if cap V = true then 69 else 101)) (Fx.tx (if max k (-k) < 100 then 2 else 3) (max k (-k))) (by simp) (by simp [Sc.dg]) (by simp) (by simp)
    (fun c hc => by have := Option.some.inj hc; split at this <;> omega) ⟨digs_dg (Fx.tx_digs _ _), tx_ne _⟩ tail_nil
  unfold Sc.gtx at q
  rw [exG_is h0 h1, exV_is _ h0 h1] at q
  have n : Sc.nrm false [49] k = ⟨false, [49], k⟩ := by
    rw [Sc.nrm_pos (by decide)]
    show Sc.D.mk false [49] (k + ((0 : Nat) : Int)) = _
    rw [show k + ((0 : Nat) : Int) = k by omega]
  simp [Sc.sgT] at q
  rw [n] at q
  rw [q]
end Po
end Go.Proofs.YtaoaniigbooihaaGreatDoor

namespace Go.Proofs.YtaoaniigbooihaaGreatDoor
open Go.RowKit Go.Deep

theorem wpList_append_b {ty : TypeId} {ops : Array Oper} {rest : List Oper} {o : Oper} {a : Act} {Q : Exit → Act → World → Prop} (hgd : o.guard = none) (s x : Operand)
    (ho : o.op = .call { callee := .builtin .append, args := #[s, x], argTypes := #[ty, ty] }) {v y v' : Value} {w w' : World} (hr : (Builtin.append_ #[ty, ty] o.type #[v, y]).run Tryz.prog w = .ok v' w') (hs : a.eval s = v) (hx : a.eval x = y)
    (h : wpList Tryz.prog ops Q rest (a.put o.dst v') w') : wpList Tryz.prog ops Q (o :: rest) a w := by
  refine wpList_plain hgd fun K hK => ?_
  unfold Oper.wp execOp
  simp only [ho, resolve, invoke, builtin, Sem.run_bind, Sem.run_pure, Result.andThen_ok, List.map_toArray, List.map_cons, List.map_nil, hs, hx, hr]
  exact hK _ _ h

/-- The bytes, in a block of our own from base on. -/
def Row8 (base : Nat) (w : World) (mv : Value) (xs : List Int) : Prop := w.ownsRow base 5 1 mv xs.length (xs.map (Value.int .u8))

theorem Row8.below {base : Nat} {w w' : World} {mv : Value} {xs : List Int} (h : Row8 base w mv xs) (hb : Below w.heap.size w w') : Row8 base w' mv xs :=
  World.ownsRow.kept (row := none) h ⟨hb.os, hb.tape, hb.output, hb.size, fun j hj _ => hb.block j hj⟩ (by cases h : Value.ownBlock mv <;> simp)

theorem Row8.push {base : Nat} {w : World} {mv : Value} {xs : List Int} (ho : Row8 base w mv xs) (x : Int) (hn : xs.length < 140737488351232) (hb : base ≤ w.heap.size) :
    ∃ mv' w', (Builtin.append_ #[47, 47] 47 #[mv, .slice (some ⟨w.heap.size, 0, none⟩) 1 1]).run Tryz.prog (w.alloc (.cells #[.int .u8 x] 5)) = .ok mv' w' ∧ Row8 base w' mv' (xs ++ [x]) ∧ w.heap.size ≤ w'.heap.size ∧
      Below base w w' ∧ (∀ j, j < w.heap.size → some j ≠ mv.ownBlock → w'.heap[j]? = w.heap[j]?) := by
  obtain ⟨i, hi, hz⟩ := Option.map_eq_some_iff.1 info8
  simp only [Prod.mk.injEq] at hz
  obtain ⟨z1, z2, z3⟩ := hz
  have bm : Below w.heap.size w (w.alloc (.cells #[.int .u8 x] 5)) := (Below.refl _ _).alloc (Nat.le_refl _) _
  have hs : (w.alloc (.cells #[.int .u8 x] 5)).heap.size = w.heap.size + 1 := World.size_alloc _ _
  have ho' := World.ownsRow.alloc ho (.cells #[.int .u8 x] 5)
  have hcell : (w.alloc (.cells #[.int .u8 x] 5)).cell? ⟨w.heap.size, 0, none⟩ = some (.int .u8 x) :=
    (OwnB.alloc w [x]).cell 0 (by simp)
  obtain ⟨v', w', hr, h1, h2, _⟩ := run_append_own (P := Tryz.prog) (w.alloc (.cells #[.int .u8 x] 5)) base 47 47 5 i (.int .u8 0) 1 1 Tryz.underlying47 hi z1 z2 z3 rfl (by omega) mv xs.length (xs.map (Value.int .u8)) ho'
    ⟨w.heap.size, 0, none⟩ 1 1 [.int .u8 x] rfl (fun j u hu => by
      cases j with
      | zero =>
        simp at hu
        subst hu
        rw [Go.WideShapes.add_plain]
        exact hcell
      | succ j => simp at hu) (fun u hu => by simp at hu; subst hu; rfl) (by simp only [maxLen]; omega) (by omega) (by rw [hs]; omega)
  refine ⟨v', w', hr, by simpa [Row8] using h1, by have := h2.size; omega, ?_, fun j hj hne => ?_⟩
  · have hb2 : Below base (w.alloc (.cells #[.int .u8 x] 5)) w' := by
      refine ⟨h2.os, h2.tape, h2.output, h2.size, fun j hj => h2.block j (by rw [hs]; omega) ?_⟩
      intro hk
      have := (ho'.lt j hk.symm).1
      omega
    exact (bm.mono hb).trans hb2
  · rw [h2.block j (by rw [hs]; omega) hne]
    exact bm.block j hj

/-- The row's shape. -/
theorem Row8.shape {base : Nat} {w : World} {mv : Value} {xs : List Int} (h : Row8 base w mv xs) : ∃ pm cp, mv = .slice pm xs.length cp := by
  rcases h.2 with ⟨rfl, h0⟩ | ⟨g, cp, cur, rfl, _⟩
  · exact ⟨none, 0, by rw [h0]⟩
  · exact ⟨_, cp, rfl⟩

/-- string(b) of such a row that has an address. -/
theorem Row8.cells {base : Nat} {w : World} {mv : Value} {xs : List Int} (h : Row8 base w mv xs) (h0 : xs ≠ []) : ∃ g cp, mv = .slice (some ⟨g, 0, none⟩) xs.length cp ∧ ∀ i, i < xs.length → w.cell? ⟨g, 0 + i, none⟩ = some (.int .u8 (xs.getD i 0)) := by
  rcases h.2 with ⟨rfl, hn⟩ | ⟨g, cp, cur, rfl, _⟩
  · exact absurd (List.eq_nil_of_length_eq_zero hn) h0
  · refine ⟨g, cp, rfl, fun i hi => ?_⟩
    have := World.ownsRow.cells h (g := g) rfl i (.int .u8 (xs.getD i 0)) (by simp [List.getD, hi])
    rw [Go.WideShapes.add_plain] at this
    exact this
end Go.Proofs.YtaoaniigbooihaaGreatDoor

namespace Go.Proofs.YtaoaniigbooihaaGreatDoor
open Go Go.RowKit Go.Deep Go.Shelf

set_option maxRecDepth 100000 in
theorem xhas_any (F k : Int) (w : World) (h0 : 0 ≤ F) (h1 : F ≤ 31) (hk : k = 1 ∨ k = 2 ∨ k = 4 ∨ k = 8 ∨ k = 16) :
    Calls Tryz.prog 83 #[.int .i64 F, .int .i64 k] w fun e w' => e = .returned (.bool (Wh.bit F k)) ∧ w' = w := by
  have e1 : F.tdiv k = F / k := by rw [Int.tdiv_eq_ediv_of_nonneg h0]
  have e2 : (F / k).tmod 2 = F / k % 2 := by rw [Int.tmod_eq_emod_of_nonneg (Int.ediv_nonneg h0 (by omega))]
  have b1 : 0 ≤ F / k := Int.ediv_nonneg h0 (by omega)
  have b2 : F / k ≤ 31 := by rcases hk with rfl | rfl | rfl | rfl | rfl <;> omega
  have E : (F / k % 2 == 1) = Wh.bit F k := by
    unfold Wh.bit
    by_cases h : F / k % 2 = 1
    · rw [decide_eq_true h]; simpa using h
    · rw [decide_eq_false h]; simpa using h
  have k0 : k ≠ 0 := by omega
  have k1 : k ≠ -1 := by omega
  have kb : 1 ≤ k := by omega
  have kc : k ≤ 16 := by omega
  clear hk
  go_enter Tryz.func83, Tryz.ntmps83
  go_wp2_with fail
  go_ret
  exact ⟨by rw [← E]; rfl, rfl⟩

set_option maxRecDepth 100000 in
theorem xcheck_any (V F W P : Int) (w : World) :
    Calls Tryz.prog 50 #[.agg #[.int .u8 V, .int .i64 F, .int .i64 W, .int .i64 P]] w fun e w' => e = .returned (.int .i64 (Wh.chk F W P)) ∧ Below w.heap.size w w' := by
  have B := hid (SB.new w V F W P)
  obtain ⟨c0, c1, c2, c3⟩ := B.out.flat
  by_cases h : F < 0 ∨ 31 < F ∨ W < 0 ∨ P < -1
  · rw [show Wh.chk F W P = 1 from if_pos h]
    by_cases h1 : F < 0
    · clear h
      go_enter Tryz.func50, Tryz.ntmps50
      go_wp2_with fail
      go_ret
      exact ⟨rfl, B.out.bel⟩
    · by_cases h2 : 31 < F
      · clear h
        go_enter Tryz.func50, Tryz.ntmps50
        go_wp2_with fail
        go_ret
        exact ⟨rfl, B.out.bel⟩
      · by_cases h3 : W < 0
        · clear h
          go_enter Tryz.func50, Tryz.ntmps50
          go_wp2_with fail
          go_ret
          exact ⟨rfl, B.out.bel⟩
        · have h4 : P < -1 := by omega
          clear h
          go_enter Tryz.func50, Tryz.ntmps50
          go_wp2_with fail
          go_ret
          exact ⟨rfl, B.out.bel⟩
  · have h1 : ¬ F < 0 := by omega
    have h2 : ¬ 31 < F := by omega
    have h3 : ¬ W < 0 := by omega
    have h4 : ¬ P < -1 := by omega
    by_cases k : 4096 < W ∨ 4096 < P
    · rw [show Wh.chk F W P = 6 by rw [Wh.chk, if_neg h, if_pos k]]
      by_cases k1 : 4096 < W
      · clear h k
        go_enter Tryz.func50, Tryz.ntmps50
        go_wp2_with fail
        go_ret
        exact ⟨rfl, B.out.bel⟩
      · have k2 : 4096 < P := by omega
        clear h k
        go_enter Tryz.func50, Tryz.ntmps50
        go_wp2_with fail
        go_ret
        exact ⟨rfl, B.out.bel⟩
    · rw [show Wh.chk F W P = 0 by rw [Wh.chk, if_neg h, if_neg k]]
      have k1 : ¬ 4096 < W := by omega
      have k2 : ¬ 4096 < P := by omega
      clear h k
      go_enter Tryz.func50, Tryz.ntmps50
      go_wp2_with fail
      go_ret
      exact ⟨rfl, B.out.bel⟩


set_option maxRecDepth 100000 in
theorem xpointed_any (a b : List Int) (h : Bool) (w : World) (ha : Wh.By a) (hb : Wh.By b) (la : a.length ≤ 10000) (lb : b.length ≤ 10000) :
    Calls Tryz.prog 87 #[.string (strOfNums a), .string (strOfNums b), .bool h] w fun e w' => e = .returned (.string (strOfNums (Po.hd a b h))) ∧ w' = w := by
  have sa : (strOfNums a).size = a.length := strOfNums_size a
  have sb : (strOfNums b).size = b.length := strOfNums_size b
  have SA := Str.of_nums ha
  have SB := Str.of_nums hb
  have na : ((strOfNums a).size : Int) ≤ 10000 := by rw [sa]; omega
  have nb : ((strOfNums b).size : Int) ≤ 10000 := by rw [sb]; omega
  have EI := isEmpty_nums b
  have EJ := toList_nums b
  have E1 : Hid (b = [] → h = false → strOfNums a = strOfNums (Po.hd a b h)) := fun h1 h2 => by rw [Po.hd, if_pos ⟨h1, h2⟩]
  have E2 : Hid (¬ (b = [] ∧ h = false) → strOfNums a ++ ⟨#[46]⟩ ++ strOfNums b = strOfNums (Po.hd a b h)) := fun hc => by
    rw [Po.hd, if_neg hc]
    have q : Str (strOfNums a ++ ⟨#[46]⟩ ++ strOfNums b) (a ++ [46] ++ b) := (SA.app (show Str ⟨#[46]⟩ [46] from rfl)).app SB
    rw [str_is q]
    simp
  clear SA SB sa sb la lb ha hb
  cases b with
  | nil =>
    rw [show (([] : List Int).isEmpty) = true from rfl] at EI EJ
    cases h with
    | false =>
      have E := hid (E1.out rfl rfl)
      clear E1 E2
      generalize Po.hd a [] false = R at *
      go_enter Tryz.func87, Tryz.ntmps87
      go_wp2_with fail
      go_ret
      exact ⟨ret_str E.out, rfl⟩
    | true =>
      have E := hid (E2.out (fun q => Bool.false_ne_true q.2.symm))
      clear E1 E2
      generalize Po.hd a [] true = R at *
      go_enter Tryz.func87, Tryz.ntmps87
      go_wp2_with fail
      go_ret
      exact ⟨ret_str E.out, rfl⟩
  | cons y l =>
    rw [show ((y :: l).isEmpty) = false from rfl] at EI EJ
    have E := hid (E2.out (fun q => by cases q.1))
    clear E1 E2
    generalize Po.hd a (y :: l) h = R at *
    generalize strOfNums (y :: l) = B at *
    go_enter Tryz.func87, Tryz.ntmps87
    go_wp2_with fail
    go_ret
    exact ⟨ret_str E.out, rfl⟩

set_option maxRecDepth 100000 in
set_option maxHeartbeats 2000000 in
theorem xstripped_any (xs : List Int) (w : World) (hy : Wh.By xs) (hl : xs.length ≤ 20000) :
    Calls Tryz.prog 90 #[.string (strOfNums xs)] w fun e w' => e = .returned (.string (strOfNums (Po.sp xs))) ∧ w' = w := by
  obtain ⟨m, m1, m2, mz, mx⟩ := Po.sp_take xs
  have sz : (strOfNums xs).size = xs.length := strOfNums_size xs
  have AT : Hid (∀ t (k : t < (strOfNums xs).size), (((strOfNums xs)[t]'k).toNat : Int) = xs.getD t 0) := fun t k => (Str.of_nums hy).at t k
  have lb : (xs.length : Int) ≤ 20000 := by omega
  have X1 := ext_head hy m
  rw [← m2] at X1
  generalize strOfNums (Po.sp xs) = R at *
  replace mz := hid mz
  replace mx := hid mx
  clear m2 hy hl
  generalize hL : xs.length = L at *
  generalize hS : strOfNums xs = s at *
  go_enter Tryz.func90, Tryz.ntmps90
  go_wp2_with fail
  go_loopg [3] (L - m) (fun k v wr => v = .int .i64 ((m + k : Nat) : Int) ∧ m + k ≤ L ∧ wr = w)
  case atStart => exact ⟨by rw [show m + (L - m) = L by omega], by omega, rfl⟩
  case round =>
    obtain ⟨rfl, mt, hw⟩ := hrel
    have hw := hw.symm
    subst hw
    by_cases hg : gk = 0
    · subst hg
      simp only [Nat.add_zero] at *
      by_cases m0 : m = 0
      · subst m0
        have X0 : Hid (s.extract 0 0 = R) := X1
        clear AT mz mx
        go_wp2_with fail
        go_ret
        exact ⟨ret_str (by rw [← X0.out]; simp), rfl⟩
      · obtain ⟨u, hu⟩ : ∃ u, m = u + 1 := ⟨m - 1, by omega⟩
        have hmi : (0 : Int) < (m : Int) := by omega
        have hmu : (m : Int) - 1 = (u : Int) := by omega
        have hum : (u : Int) < (L : Int) := by omega
        have hmL : (m : Int) ≤ (L : Int) := by omega
        have nx := mx.out (by omega)
        rw [show m - 1 = u by omega] at nx
        obtain ⟨y, hy⟩ : ∃ y, xs.getD u 0 = y := ⟨_, rfl⟩
        have ax : ∀ k : u < s.size, ((s[u]'k).toNat : Int) = y := fun k => by rw [AT.out u k, hy]
        rw [hy] at nx
        have nx2 : (y == 48) = false := by rw [beq_eq_false_iff_ne]; exact nx
        replace hu := hid hu
        clear AT mz mx nx hy m0
        go_wp2_with fail
        go_ret
        exact ⟨rfl, rfl⟩
    · obtain ⟨u, hu⟩ : ∃ u, m + gk = u + 1 := ⟨m + gk - 1, by omega⟩
      have hmi : (0 : Int) < ((m + gk : Nat) : Int) := by omega
      have hmu : ((m + gk : Nat) : Int) - 1 = (u : Int) := by omega
      have hum : (u : Int) < (L : Int) := by omega
      have ax : ∀ k : u < s.size, ((s[u]'k).toNat : Int) = 48 := fun k => by rw [AT.out u k]; exact mz.out u (by omega) (by omega)
      have hr : Hid ((u : Int) = ((m + (gk - 1) : Nat) : Int) ∧ m + (gk - 1) ≤ L ∧ gk - 1 < gk) := ⟨by omega, by omega, by omega⟩
      clear AT mz mx
      replace hu := hid hu
      generalize hM : m + gk = M at *
      replace hM := hid hM
      go_wp2_with fail
      go_roundg (gk - 1)
      case measure => exact hr.out.2.2
      case rel => exact ⟨by rw [← hr.out.1], hr.out.2.1, rfl⟩

theorem xrow8_empty (w : World) : Row8 w.heap.size (w.alloc (.cells #[] 5)) (.slice (some ⟨w.heap.size, 0, none⟩) 0 0) [] := by
  refine ⟨rfl, .inr ⟨w.heap.size, 0, #[], rfl, Nat.le_refl _, ?_, Nat.le_refl _, by simp only [maxLen]; omega, rfl, rfl⟩⟩
  show (w.heap.push _)[w.heap.size]? = _
  rw [Array.getElem?_push, if_pos rfl]
theorem Row8.xstr {base : Nat} {w : World} {mv : Value} {xs : List Int} (h : Row8 base w mv xs) (h0 : xs ≠ []) : (convert 47 9 mv).run Tryz.prog w = .ok (.string (strOfNums xs)) w := by
  obtain ⟨g, cp, rfl, c⟩ := h.cells h0
  exact run_convert_bytes_arg (P := Tryz.prog) w 47 5 Tryz.underlying47 Tryz.underlying5 g 0 xs.length cp xs rfl c 9 Tryz.underlying9
theorem xstr0 (g : Nat) (w : World) : (convert 47 9 (.slice (some ⟨g, 0, none⟩) 0 0)).run Tryz.prog w = .ok (.string (strOfNums [])) w :=
  run_convert_bytes_arg (P := Tryz.prog) w 47 5 Tryz.underlying47 Tryz.underlying5 g 0 0 0 [] rfl (fun i hi => by simp at hi) 9 Tryz.underlying9

set_option maxRecDepth 100000 in
set_option maxHeartbeats 2000000 in
theorem xzeros_any (n : Int) (w : World) (hn : n ≤ 100000) (hn0 : -9223372036854775808 ≤ n) :
    Calls Tryz.prog 85 #[.int .i64 n] w fun e w' => e = .returned (.string (strOfNums (Wh.rep 48 n))) ∧ Below w.heap.size w w' := by
  have A0 := hid (alloc_b w (.cells #[] 5))
  have R0 := hid (xrow8_empty w)
  have cv0 := xstr0 w.heap.size (w.alloc (.cells #[] 5))
  by_cases h0 : n ≤ 0
  · rw [Wh.rep_neg h0]
    generalize strOfNums [] = ss at *
    go_enter Tryz.func85, Tryz.ntmps85
    go_wp2_with fail
    go_loopg [3, 4] 0 (fun k b i wr => b = .slice (some ⟨w.heap.size, 0, none⟩) 0 0 ∧ i = .int .i64 0 ∧ wr = w.alloc (.cells #[] 5))
    case atStart => exact ⟨rfl, rfl, rfl⟩
    case round =>
      obtain ⟨rfl, rfl, rfl⟩ := hrel
      go_wp2_with fail
      go_ret
      exact ⟨rfl, A0.out⟩
  · obtain ⟨m, hm⟩ := Int.eq_ofNat_of_zero_le (show 0 ≤ n by omega)
    subst hm
    have hrp : Hid (Wh.rep 48 (m : Int) = List.replicate m 48) := rfl
    have m1 : 1 ≤ m := by omega
    clear cv0 h0
    generalize hW0 : w.alloc (.cells #[] 5) = w0 at *
    replace hW0 := hid hW0
    go_enter Tryz.func85, Tryz.ntmps85
    go_wp2_with fail
    (try rw [hW0.out])
    go_loopg [3, 4] m (fun k b i wr => ∃ t : Nat, t + k = m ∧ i = .int .i64 (t : Int) ∧ Hid (Row8 w.heap.size wr b (List.replicate t 48) ∧ Below w.heap.size w wr))
    case atStart => exact ⟨0, by omega, rfl, R0.out, A0.out⟩
    case round =>
      obtain ⟨t, ht, rfl, I⟩ := hrel
      clear R0 A0
      by_cases htm : t = m
      · subst htm
        have cv := I.out.1.xstr (fun q => by have := congrArg List.length q; simp at this; omega)
        rw [← hrp.out] at cv
        have B := hid I.out.2
        clear I
        go_wp2_with fail
        go_ret
        exact ⟨rfl, B.out⟩
      · have hti : (t : Int) < (m : Int) := by omega
        obtain ⟨mv', w2, ap, r2, z2, b2, _⟩ := I.out.1.push 48 (by simp; omega) I.out.2.size
        have F : Hid (Row8 w.heap.size w2 mv' (List.replicate (t + 1) 48) ∧ Below w.heap.size w w2) := ⟨by rw [List.replicate_succ']; exact r2, I.out.2.trans b2⟩
        have AP := hid ap
        clear ap r2 z2 b2 I
        go_wp2_with (at_builtin; refine wpList_append_b rfl _ _ rfl AP.out (by rfl) (by rfl) ?_; clear AP)
        go_roundg (m - (t + 1))
        case measure => omega
        case rel => exact ⟨t + 1, by omega, by go_num, F.out⟩

set_option maxRecDepth 100000 in
set_option maxHeartbeats 2000000 in
theorem xblanks_any (n : Int) (w : World) (hn : n ≤ 100000) (hn0 : -9223372036854775808 ≤ n) :
    Calls Tryz.prog 84 #[.int .i64 n] w fun e w' => e = .returned (.string (strOfNums (Wh.rep 32 n))) ∧ Below w.heap.size w w' := by
  have A0 := hid (alloc_b w (.cells #[] 5))
  have R0 := hid (xrow8_empty w)
  have cv0 := xstr0 w.heap.size (w.alloc (.cells #[] 5))
  by_cases h0 : n ≤ 0
  · rw [Wh.rep_neg h0]
    generalize strOfNums [] = ss at *
    go_enter Tryz.func84, Tryz.ntmps84
    go_wp2_with fail
    go_loopg [3, 4] 0 (fun k b i wr => b = .slice (some ⟨w.heap.size, 0, none⟩) 0 0 ∧ i = .int .i64 0 ∧ wr = w.alloc (.cells #[] 5))
    case atStart => exact ⟨rfl, rfl, rfl⟩
    case round =>
      obtain ⟨rfl, rfl, rfl⟩ := hrel
      go_wp2_with fail
      go_ret
      exact ⟨rfl, A0.out⟩
  · obtain ⟨m, hm⟩ := Int.eq_ofNat_of_zero_le (show 0 ≤ n by omega)
    subst hm
    have hrp : Hid (Wh.rep 32 (m : Int) = List.replicate m 32) := rfl
    have m1 : 1 ≤ m := by omega
    clear cv0 h0
    generalize hW0 : w.alloc (.cells #[] 5) = w0 at *
    replace hW0 := hid hW0
    go_enter Tryz.func84, Tryz.ntmps84
    go_wp2_with fail
    (try rw [hW0.out])
    go_loopg [3, 4] m (fun k b i wr => ∃ t : Nat, t + k = m ∧ i = .int .i64 (t : Int) ∧ Hid (Row8 w.heap.size wr b (List.replicate t 32) ∧ Below w.heap.size w wr))
    case atStart => exact ⟨0, by omega, rfl, R0.out, A0.out⟩
    case round =>
      obtain ⟨t, ht, rfl, I⟩ := hrel
      clear R0 A0
      by_cases htm : t = m
      · subst htm
        have cv := I.out.1.xstr (fun q => by have := congrArg List.length q; simp at this; omega)
        rw [← hrp.out] at cv
        have B := hid I.out.2
        clear I
        go_wp2_with fail
        go_ret
        exact ⟨rfl, B.out⟩
      · have hti : (t : Int) < (m : Int) := by omega
        obtain ⟨mv', w2, ap, r2, z2, b2, _⟩ := I.out.1.push 32 (by simp; omega) I.out.2.size
        have F : Hid (Row8 w.heap.size w2 mv' (List.replicate (t + 1) 32) ∧ Below w.heap.size w w2) := ⟨by rw [List.replicate_succ']; exact r2, I.out.2.trans b2⟩
        have AP := hid ap
        clear ap r2 z2 b2 I
        go_wp2_with (at_builtin; refine wpList_append_b rfl _ _ rfl AP.out (by rfl) (by rfl) ?_; clear AP)
        go_roundg (m - (t + 1))
        case measure => omega
        case rel => exact ⟨t + 1, by omega, by go_num, F.out⟩

end Go.Proofs.YtaoaniigbooihaaGreatDoor

namespace Go.Proofs.YtaoaniigbooihaaGreatDoor
open Go Go.RowKit Go.Deep Go.Shelf

theorem xapp {a b : List Int} (ha : Wh.By a) (hb : Wh.By b) : strOfNums a ++ strOfNums b = strOfNums (a ++ b) := str_is ((Str.of_nums ha).app (Str.of_nums hb))

set_option maxRecDepth 100000 in
set_option maxHeartbeats 8000000 in
theorem xlaid_any (V F W P : Int) (neg fin : Bool) (t : List Int) (w : World) (f0 : 0 ≤ F) (f1 : F ≤ 31) (w0 : 0 ≤ W) (w1 : W ≤ 4096) (ht : Wh.By t) (hl : t.length ≤ 30000) :
    Calls Tryz.prog 48 #[.agg #[.int .u8 V, .int .i64 F, .int .i64 W, .int .i64 P], .bool neg, .string (strOfNums t), .bool fin] w fun e w' => e = .returned (.string (strOfNums (Wh.padT F W fin (Wh.sgn F neg) t))) ∧ Below w.heap.size w w' := by
  have B0 := hid (SB.new w V F W P)
  have H1 := hid (fun W' => xhas_any F 1 W' f0 f1 (by omega))
  have H2 := hid (fun W' => xhas_any F 2 W' f0 f1 (by omega))
  have H4 := hid (fun W' => xhas_any F 4 W' f0 f1 (by omega))
  have H16 := hid (fun W' => xhas_any F 16 W' f0 f1 (by omega))
  have hy := Wh.sgn_by F neg
  have sl := Wh.sgn_len F neg
  have SG1 : Hid (neg = true → strOfNums (Wh.sgn F neg) = ⟨#[45]⟩) := fun a => by rw [Wh.sgn, if_pos a]; rfl
  have SG2 : Hid (neg = false → Wh.bit F 2 = true → strOfNums (Wh.sgn F neg) = ⟨#[43]⟩) := fun a b => by rw [Wh.sgn, if_neg (by rw [a]; exact Bool.false_ne_true), if_pos b]; rfl
  have SG3 : Hid (neg = false → Wh.bit F 2 = false → Wh.bit F 4 = true → strOfNums (Wh.sgn F neg) = ⟨#[32]⟩) := fun a b c => by rw [Wh.sgn, if_neg (by rw [a]; exact Bool.false_ne_true), if_neg (by rw [b]; exact Bool.false_ne_true), if_pos c]; rfl
  have SG4 : Hid (neg = false → Wh.bit F 2 = false → Wh.bit F 4 = false → strOfNums (Wh.sgn F neg) = ⟨#[]⟩) := fun a b c => by rw [Wh.sgn, if_neg (by rw [a]; exact Bool.false_ne_true), if_neg (by rw [b]; exact Bool.false_ne_true), if_neg (by rw [c]; exact Bool.false_ne_true)]; rfl
  have gz : (strOfNums (Wh.sgn F neg)).size = (Wh.sgn F neg).length := strOfNums_size _
  have tz : (strOfNums t).size = t.length := strOfNums_size t
  have PT : Hid (Wh.padT F W fin (Wh.sgn F neg) t = if Wh.bit F 1 = true then Wh.sgn F neg ++ t ++ Wh.rep 32 (W - (Wh.sgn F neg).length - t.length) else if Wh.bit F 16 = true ∧ fin = true then Wh.sgn F neg ++ Wh.rep 48 (W - (Wh.sgn F neg).length - t.length) ++ t else Wh.rep 32 (W - (Wh.sgn F neg).length - t.length) ++ Wh.sgn F neg ++ t) := rfl
  have BL := hid (fun W' => xblanks_any (W - (Wh.sgn F neg).length - t.length) W' (by omega) (by omega))
  have ZR := hid (fun W' => xzeros_any (W - (Wh.sgn F neg).length - t.length) W' (by omega) (by omega))
  have y1 : Wh.By (Wh.rep 32 (W - (Wh.sgn F neg).length - t.length)) := Wh.By.rep (by omega)
  have y2 : Wh.By (Wh.rep 48 (W - (Wh.sgn F neg).length - t.length)) := Wh.By.rep (by omega)
  have s1 : ((strOfNums (Wh.rep 32 (W - (Wh.sgn F neg).length - t.length))).size : Int) ≤ 4096 := by rw [strOfNums_size, Wh.rep_len]; omega
  have s2 : ((strOfNums (Wh.rep 48 (W - (Wh.sgn F neg).length - t.length))).size : Int) ≤ 4096 := by rw [strOfNums_size, Wh.rep_len]; omega
  have gl : ((Wh.sgn F neg).length : Int) ≤ 1 := by omega
  have tl : (t.length : Int) ≤ 30000 := by omega
  have RN : Hid (W - (Wh.sgn F neg).length - t.length ≤ 0 → strOfNums (Wh.sgn F neg) ++ strOfNums t = strOfNums (Wh.padT F W fin (Wh.sgn F neg) t)) := fun h => by
    rw [xapp hy ht, PT.out, Wh.rep_neg h, Wh.rep_neg h]
    split
    · rw [List.append_nil]
    · split
      · rw [List.append_nil]
      · rw [List.nil_append]
  have R1 : Hid (Wh.bit F 1 = true → strOfNums (Wh.sgn F neg) ++ strOfNums t ++ strOfNums (Wh.rep 32 (W - (Wh.sgn F neg).length - t.length)) = strOfNums (Wh.padT F W fin (Wh.sgn F neg) t)) := fun h => by
    rw [xapp hy ht, xapp (hy.app ht) y1, PT.out, if_pos h]
  have R2 : Hid (Wh.bit F 1 = false → Wh.bit F 16 = true ∧ fin = true → strOfNums (Wh.sgn F neg) ++ strOfNums (Wh.rep 48 (W - (Wh.sgn F neg).length - t.length)) ++ strOfNums t = strOfNums (Wh.padT F W fin (Wh.sgn F neg) t)) := fun h k => by
    rw [xapp hy y2, xapp (hy.app y2) ht, PT.out, if_neg (by rw [h]; exact Bool.false_ne_true), if_pos k]
  have R3 : Hid (Wh.bit F 1 = false → ¬ (Wh.bit F 16 = true ∧ fin = true) → strOfNums (Wh.rep 32 (W - (Wh.sgn F neg).length - t.length)) ++ strOfNums (Wh.sgn F neg) ++ strOfNums t = strOfNums (Wh.padT F W fin (Wh.sgn F neg) t)) := fun h k => by
    rw [xapp y1 hy, xapp (y1.app hy) ht, PT.out, if_neg (by rw [h]; exact Bool.false_ne_true), if_neg k]
  clear hy ht y1 y2 PT sl hl f0 f1
  generalize strOfNums (Wh.padT F W fin (Wh.sgn F neg) t) = RR at *
  generalize strOfNums (Wh.rep 32 (W - (Wh.sgn F neg).length - t.length)) = rb at *
  generalize strOfNums (Wh.rep 48 (W - (Wh.sgn F neg).length - t.length)) = rz at *
  generalize strOfNums (Wh.sgn F neg) = sg at *
  generalize (Wh.sgn F neg).length = G at *
  generalize strOfNums t = ts at *
  generalize t.length = T at *
  generalize Wh.bit F 1 = b1 at *
  generalize Wh.bit F 2 = b2 at *
  generalize Wh.bit F 4 = b4 at *
  generalize Wh.bit F 16 = b16 at *
  cases neg with
  | true =>
    by_cases hN : W - (G : Int) - (T : Int) ≤ 0
    · have R := hid (RN.out hN)
      clear RN R1 R2 R3
      obtain ⟨c0, c1, c2, c3⟩ := B0.out.flat
      go_enter Tryz.func48, Tryz.ntmps48
      go_upto_block 0 with fail
      go_cut [9, 11, 13, 17] (fun s _ _ _ wx => s = .string sg ∧ Hid (SB w w.heap.size V F W P wx))
      case first =>
        go_wp2_with (go_at_call 83; (first | (with_reducible refine (H2.out _).mono ?_) | (with_reducible refine (H4.out _).mono ?_)); rintro e w2 ⟨rfl, e2⟩; rw [e2]; clear e2 w2)
        all_goals go_meet
        all_goals exact ⟨by first | rw [SG1.out (by trivial)] | rw [SG2.out (by trivial) (by assumption)] | rw [SG3.out (by trivial) (by assumption) (by assumption)] | rw [SG4.out (by trivial) (by assumption) (by assumption)], B0⟩
      case rest =>
      obtain ⟨h9, B1⟩ := hcut
      subst h9
      clear SG1 SG2 SG3 SG4 B0 c0 c1 c2 c3 H2 H4
      obtain ⟨c0, c1, c2, c3⟩ := B1.out.flat
      go_wp2_with fail
      go_ret
      exact ⟨ret_str R.out, B1.out.bel⟩
    · clear RN
      cases b1 with
      | true =>
        have R := hid (R1.out rfl)
        clear R1 R2 R3
        obtain ⟨c0, c1, c2, c3⟩ := B0.out.flat
        go_enter Tryz.func48, Tryz.ntmps48
        go_upto_block 0 with fail
        go_cut [9, 11, 13, 17] (fun s _ _ _ wx => s = .string sg ∧ Hid (SB w w.heap.size V F W P wx))
        case first =>
          go_wp2_with (go_at_call 83; (first | (with_reducible refine (H2.out _).mono ?_) | (with_reducible refine (H4.out _).mono ?_)); rintro e w2 ⟨rfl, e2⟩; rw [e2]; clear e2 w2)
          all_goals go_meet
          all_goals exact ⟨by first | rw [SG1.out (by trivial)] | rw [SG2.out (by trivial) (by assumption)] | rw [SG3.out (by trivial) (by assumption) (by assumption)] | rw [SG4.out (by trivial) (by assumption) (by assumption)], B0⟩
        case rest =>
        obtain ⟨h9, B1⟩ := hcut
        subst h9
        clear SG1 SG2 SG3 SG4 B0 c0 c1 c2 c3 H2 H4
        obtain ⟨c0, c1, c2, c3⟩ := B1.out.flat
        go_wp2_with fail
        with_reducible refine (H1.out _).mono ?_
        rintro e w2 ⟨rfl, e2⟩
        rw [e2]
        clear e2 w2
        go_wp2_with fail
        with_reducible refine (BL.out _).mono ?_
        rintro e w3 ⟨rfl, b3⟩
        have B3 := hid (B1.out.on b3)
        clear b3 B1 c0 c1 c2 c3
        go_wp2_with fail
        go_ret
        exact ⟨ret_str R.out, B3.out.bel⟩
      | false =>
        cases b16 with
        | true =>
          cases fin with
          | true =>
            have R := hid (R2.out rfl ⟨rfl, rfl⟩)
            clear R1 R2 R3
            obtain ⟨c0, c1, c2, c3⟩ := B0.out.flat
            go_enter Tryz.func48, Tryz.ntmps48
            go_upto_block 0 with fail
            go_cut [9, 11, 13, 17] (fun s _ _ _ wx => s = .string sg ∧ Hid (SB w w.heap.size V F W P wx))
            case first =>
              go_wp2_with (go_at_call 83; (first | (with_reducible refine (H2.out _).mono ?_) | (with_reducible refine (H4.out _).mono ?_)); rintro e w2 ⟨rfl, e2⟩; rw [e2]; clear e2 w2)
              all_goals go_meet
              all_goals exact ⟨by first | rw [SG1.out (by trivial)] | rw [SG2.out (by trivial) (by assumption)] | rw [SG3.out (by trivial) (by assumption) (by assumption)] | rw [SG4.out (by trivial) (by assumption) (by assumption)], B0⟩
            case rest =>
            obtain ⟨h9, B1⟩ := hcut
            subst h9
            clear SG1 SG2 SG3 SG4 B0 c0 c1 c2 c3 H2 H4
            obtain ⟨c0, c1, c2, c3⟩ := B1.out.flat
            go_wp2_with fail
            with_reducible refine (H1.out _).mono ?_
            rintro e w2 ⟨rfl, e2⟩
            rw [e2]
            clear e2 w2
            go_wp2_with fail
            with_reducible refine (H16.out _).mono ?_
            rintro e w2 ⟨rfl, e2⟩
            rw [e2]
            clear e2 w2
            go_wp2_with fail
            with_reducible refine (ZR.out _).mono ?_
            rintro e w3 ⟨rfl, b3⟩
            have B3 := hid (B1.out.on b3)
            clear b3 B1 c0 c1 c2 c3
            go_wp2_with fail
            go_ret
            exact ⟨ret_str R.out, B3.out.bel⟩
          | false =>
            have R := hid (R3.out rfl (fun q => Bool.false_ne_true q.2))
            clear R1 R2 R3
            obtain ⟨c0, c1, c2, c3⟩ := B0.out.flat
            go_enter Tryz.func48, Tryz.ntmps48
            go_upto_block 0 with fail
            go_cut [9, 11, 13, 17] (fun s _ _ _ wx => s = .string sg ∧ Hid (SB w w.heap.size V F W P wx))
            case first =>
              go_wp2_with (go_at_call 83; (first | (with_reducible refine (H2.out _).mono ?_) | (with_reducible refine (H4.out _).mono ?_)); rintro e w2 ⟨rfl, e2⟩; rw [e2]; clear e2 w2)
              all_goals go_meet
              all_goals exact ⟨by first | rw [SG1.out (by trivial)] | rw [SG2.out (by trivial) (by assumption)] | rw [SG3.out (by trivial) (by assumption) (by assumption)] | rw [SG4.out (by trivial) (by assumption) (by assumption)], B0⟩
            case rest =>
            obtain ⟨h9, B1⟩ := hcut
            subst h9
            clear SG1 SG2 SG3 SG4 B0 c0 c1 c2 c3 H2 H4
            obtain ⟨c0, c1, c2, c3⟩ := B1.out.flat
            go_wp2_with fail
            with_reducible refine (H1.out _).mono ?_
            rintro e w2 ⟨rfl, e2⟩
            rw [e2]
            clear e2 w2
            go_wp2_with fail
            with_reducible refine (H16.out _).mono ?_
            rintro e w2 ⟨rfl, e2⟩
            rw [e2]
            clear e2 w2
            go_wp2_with fail
            with_reducible refine (BL.out _).mono ?_
            rintro e w3 ⟨rfl, b3⟩
            have B3 := hid (B1.out.on b3)
            clear b3 B1 c0 c1 c2 c3
            go_wp2_with fail
            go_ret
            exact ⟨ret_str R.out, B3.out.bel⟩
        | false =>
          have R := hid (R3.out rfl (fun q => Bool.false_ne_true q.1))
          clear R1 R2 R3
          obtain ⟨c0, c1, c2, c3⟩ := B0.out.flat
          go_enter Tryz.func48, Tryz.ntmps48
          go_upto_block 0 with fail
          go_cut [9, 11, 13, 17] (fun s _ _ _ wx => s = .string sg ∧ Hid (SB w w.heap.size V F W P wx))
          case first =>
            go_wp2_with (go_at_call 83; (first | (with_reducible refine (H2.out _).mono ?_) | (with_reducible refine (H4.out _).mono ?_)); rintro e w2 ⟨rfl, e2⟩; rw [e2]; clear e2 w2)
            all_goals go_meet
            all_goals exact ⟨by first | rw [SG1.out (by trivial)] | rw [SG2.out (by trivial) (by assumption)] | rw [SG3.out (by trivial) (by assumption) (by assumption)] | rw [SG4.out (by trivial) (by assumption) (by assumption)], B0⟩
          case rest =>
          obtain ⟨h9, B1⟩ := hcut
          subst h9
          clear SG1 SG2 SG3 SG4 B0 c0 c1 c2 c3 H2 H4
          obtain ⟨c0, c1, c2, c3⟩ := B1.out.flat
          go_wp2_with fail
          with_reducible refine (H1.out _).mono ?_
          rintro e w2 ⟨rfl, e2⟩
          rw [e2]
          clear e2 w2
          go_wp2_with fail
          with_reducible refine (H16.out _).mono ?_
          rintro e w2 ⟨rfl, e2⟩
          rw [e2]
          clear e2 w2
          go_wp2_with fail
          with_reducible refine (BL.out _).mono ?_
          rintro e w3 ⟨rfl, b3⟩
          have B3 := hid (B1.out.on b3)
          clear b3 B1 c0 c1 c2 c3
          go_wp2_with fail
          go_ret
          exact ⟨ret_str R.out, B3.out.bel⟩
  | false =>
    by_cases hN : W - (G : Int) - (T : Int) ≤ 0
    · have R := hid (RN.out hN)
      clear RN R1 R2 R3
      obtain ⟨c0, c1, c2, c3⟩ := B0.out.flat
      go_enter Tryz.func48, Tryz.ntmps48
      go_upto_block 0 with fail
      go_cut [9, 11, 13, 17] (fun s _ _ _ wx => s = .string sg ∧ Hid (SB w w.heap.size V F W P wx))
      case first =>
        go_wp2_with (go_at_call 83; (first | (with_reducible refine (H2.out _).mono ?_) | (with_reducible refine (H4.out _).mono ?_)); rintro e w2 ⟨rfl, e2⟩; rw [e2]; clear e2 w2)
        all_goals go_meet
        all_goals exact ⟨by first | rw [SG1.out (by trivial)] | rw [SG2.out (by trivial) (by assumption)] | rw [SG3.out (by trivial) (by assumption) (by assumption)] | rw [SG4.out (by trivial) (by assumption) (by assumption)], B0⟩
      case rest =>
      obtain ⟨h9, B1⟩ := hcut
      subst h9
      clear SG1 SG2 SG3 SG4 B0 c0 c1 c2 c3 H2 H4
      obtain ⟨c0, c1, c2, c3⟩ := B1.out.flat
      go_wp2_with fail
      go_ret
      exact ⟨ret_str R.out, B1.out.bel⟩
    · clear RN
      cases b1 with
      | true =>
        have R := hid (R1.out rfl)
        clear R1 R2 R3
        obtain ⟨c0, c1, c2, c3⟩ := B0.out.flat
        go_enter Tryz.func48, Tryz.ntmps48
        go_upto_block 0 with fail
        go_cut [9, 11, 13, 17] (fun s _ _ _ wx => s = .string sg ∧ Hid (SB w w.heap.size V F W P wx))
        case first =>
          go_wp2_with (go_at_call 83; (first | (with_reducible refine (H2.out _).mono ?_) | (with_reducible refine (H4.out _).mono ?_)); rintro e w2 ⟨rfl, e2⟩; rw [e2]; clear e2 w2)
          all_goals go_meet
          all_goals exact ⟨by first | rw [SG1.out (by trivial)] | rw [SG2.out (by trivial) (by assumption)] | rw [SG3.out (by trivial) (by assumption) (by assumption)] | rw [SG4.out (by trivial) (by assumption) (by assumption)], B0⟩
        case rest =>
        obtain ⟨h9, B1⟩ := hcut
        subst h9
        clear SG1 SG2 SG3 SG4 B0 c0 c1 c2 c3 H2 H4
        obtain ⟨c0, c1, c2, c3⟩ := B1.out.flat
        go_wp2_with fail
        with_reducible refine (H1.out _).mono ?_
        rintro e w2 ⟨rfl, e2⟩
        rw [e2]
        clear e2 w2
        go_wp2_with fail
        with_reducible refine (BL.out _).mono ?_
        rintro e w3 ⟨rfl, b3⟩
        have B3 := hid (B1.out.on b3)
        clear b3 B1 c0 c1 c2 c3
        go_wp2_with fail
        go_ret
        exact ⟨ret_str R.out, B3.out.bel⟩
      | false =>
        cases b16 with
        | true =>
          cases fin with
          | true =>
            have R := hid (R2.out rfl ⟨rfl, rfl⟩)
            clear R1 R2 R3
            obtain ⟨c0, c1, c2, c3⟩ := B0.out.flat
            go_enter Tryz.func48, Tryz.ntmps48
            go_upto_block 0 with fail
            go_cut [9, 11, 13, 17] (fun s _ _ _ wx => s = .string sg ∧ Hid (SB w w.heap.size V F W P wx))
            case first =>
              go_wp2_with (go_at_call 83; (first | (with_reducible refine (H2.out _).mono ?_) | (with_reducible refine (H4.out _).mono ?_)); rintro e w2 ⟨rfl, e2⟩; rw [e2]; clear e2 w2)
              all_goals go_meet
              all_goals exact ⟨by first | rw [SG1.out (by trivial)] | rw [SG2.out (by trivial) (by assumption)] | rw [SG3.out (by trivial) (by assumption) (by assumption)] | rw [SG4.out (by trivial) (by assumption) (by assumption)], B0⟩
            case rest =>
            obtain ⟨h9, B1⟩ := hcut
            subst h9
            clear SG1 SG2 SG3 SG4 B0 c0 c1 c2 c3 H2 H4
            obtain ⟨c0, c1, c2, c3⟩ := B1.out.flat
            go_wp2_with fail
            with_reducible refine (H1.out _).mono ?_
            rintro e w2 ⟨rfl, e2⟩
            rw [e2]
            clear e2 w2
            go_wp2_with fail
            with_reducible refine (H16.out _).mono ?_
            rintro e w2 ⟨rfl, e2⟩
            rw [e2]
            clear e2 w2
            go_wp2_with fail
            with_reducible refine (ZR.out _).mono ?_
            rintro e w3 ⟨rfl, b3⟩
            have B3 := hid (B1.out.on b3)
            clear b3 B1 c0 c1 c2 c3
            go_wp2_with fail
            go_ret
            exact ⟨ret_str R.out, B3.out.bel⟩
          | false =>
            have R := hid (R3.out rfl (fun q => Bool.false_ne_true q.2))
            clear R1 R2 R3
            obtain ⟨c0, c1, c2, c3⟩ := B0.out.flat
            go_enter Tryz.func48, Tryz.ntmps48
            go_upto_block 0 with fail
            go_cut [9, 11, 13, 17] (fun s _ _ _ wx => s = .string sg ∧ Hid (SB w w.heap.size V F W P wx))
            case first =>
              go_wp2_with (go_at_call 83; (first | (with_reducible refine (H2.out _).mono ?_) | (with_reducible refine (H4.out _).mono ?_)); rintro e w2 ⟨rfl, e2⟩; rw [e2]; clear e2 w2)
              all_goals go_meet
              all_goals exact ⟨by first | rw [SG1.out (by trivial)] | rw [SG2.out (by trivial) (by assumption)] | rw [SG3.out (by trivial) (by assumption) (by assumption)] | rw [SG4.out (by trivial) (by assumption) (by assumption)], B0⟩
            case rest =>
            obtain ⟨h9, B1⟩ := hcut
            subst h9
            clear SG1 SG2 SG3 SG4 B0 c0 c1 c2 c3 H2 H4
            obtain ⟨c0, c1, c2, c3⟩ := B1.out.flat
            go_wp2_with fail
            with_reducible refine (H1.out _).mono ?_
            rintro e w2 ⟨rfl, e2⟩
            rw [e2]
            clear e2 w2
            go_wp2_with fail
            with_reducible refine (H16.out _).mono ?_
            rintro e w2 ⟨rfl, e2⟩
            rw [e2]
            clear e2 w2
            go_wp2_with fail
            with_reducible refine (BL.out _).mono ?_
            rintro e w3 ⟨rfl, b3⟩
            have B3 := hid (B1.out.on b3)
            clear b3 B1 c0 c1 c2 c3
            go_wp2_with fail
            go_ret
            exact ⟨ret_str R.out, B3.out.bel⟩
        | false =>
          have R := hid (R3.out rfl (fun q => Bool.false_ne_true q.1))
          clear R1 R2 R3
          obtain ⟨c0, c1, c2, c3⟩ := B0.out.flat
          go_enter Tryz.func48, Tryz.ntmps48
          go_upto_block 0 with fail
          go_cut [9, 11, 13, 17] (fun s _ _ _ wx => s = .string sg ∧ Hid (SB w w.heap.size V F W P wx))
          case first =>
            go_wp2_with (go_at_call 83; (first | (with_reducible refine (H2.out _).mono ?_) | (with_reducible refine (H4.out _).mono ?_)); rintro e w2 ⟨rfl, e2⟩; rw [e2]; clear e2 w2)
            all_goals go_meet
            all_goals exact ⟨by first | rw [SG1.out (by trivial)] | rw [SG2.out (by trivial) (by assumption)] | rw [SG3.out (by trivial) (by assumption) (by assumption)] | rw [SG4.out (by trivial) (by assumption) (by assumption)], B0⟩
          case rest =>
          obtain ⟨h9, B1⟩ := hcut
          subst h9
          clear SG1 SG2 SG3 SG4 B0 c0 c1 c2 c3 H2 H4
          obtain ⟨c0, c1, c2, c3⟩ := B1.out.flat
          go_wp2_with fail
          with_reducible refine (H1.out _).mono ?_
          rintro e w2 ⟨rfl, e2⟩
          rw [e2]
          clear e2 w2
          go_wp2_with fail
          with_reducible refine (H16.out _).mono ?_
          rintro e w2 ⟨rfl, e2⟩
          rw [e2]
          clear e2 w2
          go_wp2_with fail
          with_reducible refine (BL.out _).mono ?_
          rintro e w3 ⟨rfl, b3⟩
          have B3 := hid (B1.out.on b3)
          clear b3 B1 c0 c1 c2 c3
          go_wp2_with fail
          go_ret
          exact ⟨ret_str R.out, B3.out.bel⟩
end Go.Proofs.YtaoaniigbooihaaGreatDoor

namespace Go.Proofs.YtaoaniigbooihaaGreatDoor
open Go Go.RowKit Go.Deep Go.Shelf

set_option maxRecDepth 100000 in
set_option maxHeartbeats 2000000 in
theorem xclass_any (d : Int) (w : World) (h0 : 0 ≤ d) (h1 : d < 18446744073709551616) :
    Calls Tryz.prog 51 #[.int .u64 d] w fun e w' => e = .returned (.int .i64 (Ie.cls d)) ∧ Below w.heap.size w w' := by
  have D := hid (zdecode_any d w h0 h1)
  generalize decide (9223372036854775808 ≤ d) = neg at D
  generalize Ie.cls d = c at *
  generalize Ie.dm d = m at D
  generalize Ie.de d = x at D
  simp only [partsOf] at D
  go_enter Tryz.func51, Tryz.ntmps51
  go_wp2_with fail
  refine D.out.mono ?_
  rintro e w1 ⟨rfl, hB⟩
  have HB := hid hB
  clear hB D
  go_wp2_with fail
  go_ret
  exact ⟨rfl, Below.alloc HB.out HB.out.size _⟩


set_option maxRecDepth 100000 in
set_option maxHeartbeats 8000000 in
theorem xspecial_any (V F W P d : Int) (w : World) (v0 : 0 ≤ V) (v1 : V < 256) (h0 : 0 ≤ d) (h1 : d < 18446744073709551616) :
    Calls Tryz.prog 29 #[.agg #[.int .u8 V, .int .i64 F, .int .i64 W, .int .i64 P], .int .u64 d] w fun e w' => SpcTold V F W P d w e w' := by
  have B0 := hid (SB.new w V F W P)
  have CK := hid (fun W' => xcheck_any V F W P W')
  have CL := hid (fun W' => xclass_any d W' h0 h1)
  have ngd : Hid (Po.ng d = decide (9223372036854775808 ≤ d)) := rfl
  by_cases hc : Wh.chk F W P = 0
  · obtain ⟨⟨f0, f1⟩, ⟨wl, wu⟩, ⟨p0, p1⟩⟩ := Wh.chk_ok hc
    rw [hc] at CK
    have LD := hid (fun W' => xlaid_any V F W P (decide (9223372036854775808 ≤ d)) false (Po.nm (Po.cap V) (Ie.cls d)) W' f0 f1 wl wu (Po.nm_by _ _) (by have := Po.nm_len (Po.cap V) (Ie.cls d); omega))
    by_cases hf : Ie.fnt d = true
    · have hk := of_decide_eq_true hf
      have G : Hid (∀ w', Below w.heap.size w w' → SpcTold V F W P d w (.returned (.tuple #[.string ⟨#[]⟩, .bool false, .int .i64 0])) w') := fun w' k => ⟨by rw [Po.spc, if_neg (fun q => by rw [hf] at q; cases q.2), Po.spb, hf, hc]; rfl, k⟩
      have k4 : (Ie.cls d == 4) = false := by rw [beq_eq_false_iff_ne]; omega
      have k3 : (Ie.cls d == 3) = false := by rw [beq_eq_false_iff_ne]; omega
      clear hc f0 f1 p0 p1 hf hk LD
      generalize Ie.cls d = cc at *
      rcases (show V = 69 ∨ V = 70 ∨ V = 71 ∨ V = 88 ∨ (V ≠ 69 ∧ V ≠ 70 ∧ V ≠ 71 ∧ V ≠ 88) by omega) with rfl | rfl | rfl | rfl | ⟨q1, q2, q3, q4⟩
      · go_enter Tryz.func29, Tryz.ntmps29
        go_wp2_with fail
        with_reducible refine (CK.out _).mono ?_
        rintro e w1 ⟨rfl, b1⟩
        have B1 := hid (B0.out.on b1)
        clear b1 B0 CK
        obtain ⟨c0, c1, c2, c3⟩ := B1.out.flat
        go_wp2_with fail
        with_reducible refine (CL.out _).mono ?_
        rintro e w2 ⟨rfl, b2⟩
        have B2 := hid (B1.out.on b2)
        clear b2 B1 CL c0 c1 c2 c3
        obtain ⟨c0, c1, c2, c3⟩ := B2.out.flat
        go_wp2_with fail
        go_ret3
        exact G.out _ B2.out.bel
      · go_enter Tryz.func29, Tryz.ntmps29
        go_wp2_with fail
        with_reducible refine (CK.out _).mono ?_
        rintro e w1 ⟨rfl, b1⟩
        have B1 := hid (B0.out.on b1)
        clear b1 B0 CK
        obtain ⟨c0, c1, c2, c3⟩ := B1.out.flat
        go_wp2_with fail
        with_reducible refine (CL.out _).mono ?_
        rintro e w2 ⟨rfl, b2⟩
        have B2 := hid (B1.out.on b2)
        clear b2 B1 CL c0 c1 c2 c3
        obtain ⟨c0, c1, c2, c3⟩ := B2.out.flat
        go_wp2_with fail
        go_ret3
        exact G.out _ B2.out.bel
      · go_enter Tryz.func29, Tryz.ntmps29
        go_wp2_with fail
        with_reducible refine (CK.out _).mono ?_
        rintro e w1 ⟨rfl, b1⟩
        have B1 := hid (B0.out.on b1)
        clear b1 B0 CK
        obtain ⟨c0, c1, c2, c3⟩ := B1.out.flat
        go_wp2_with fail
        with_reducible refine (CL.out _).mono ?_
        rintro e w2 ⟨rfl, b2⟩
        have B2 := hid (B1.out.on b2)
        clear b2 B1 CL c0 c1 c2 c3
        obtain ⟨c0, c1, c2, c3⟩ := B2.out.flat
        go_wp2_with fail
        go_ret3
        exact G.out _ B2.out.bel
      · go_enter Tryz.func29, Tryz.ntmps29
        go_wp2_with fail
        with_reducible refine (CK.out _).mono ?_
        rintro e w1 ⟨rfl, b1⟩
        have B1 := hid (B0.out.on b1)
        clear b1 B0 CK
        obtain ⟨c0, c1, c2, c3⟩ := B1.out.flat
        go_wp2_with fail
        with_reducible refine (CL.out _).mono ?_
        rintro e w2 ⟨rfl, b2⟩
        have B2 := hid (B1.out.on b2)
        clear b2 B1 CL c0 c1 c2 c3
        obtain ⟨c0, c1, c2, c3⟩ := B2.out.flat
        go_wp2_with fail
        go_ret3
        exact G.out _ B2.out.bel
      · have r1 : (V == 69) = false := by simpa using q1
        have r2 : (V == 70) = false := by simpa using q2
        have r3 : (V == 71) = false := by simpa using q3
        have r4 : (V == 88) = false := by simpa using q4
        go_enter Tryz.func29, Tryz.ntmps29
        go_wp2_with fail
        with_reducible refine (CK.out _).mono ?_
        rintro e w1 ⟨rfl, b1⟩
        have B1 := hid (B0.out.on b1)
        clear b1 B0 CK
        obtain ⟨c0, c1, c2, c3⟩ := B1.out.flat
        go_wp2_with fail
        with_reducible refine (CL.out _).mono ?_
        rintro e w2 ⟨rfl, b2⟩
        have B2 := hid (B1.out.on b2)
        clear b2 B1 CL c0 c1 c2 c3
        obtain ⟨c0, c1, c2, c3⟩ := B2.out.flat
        go_wp2_with fail
        go_ret3
        exact G.out _ B2.out.bel
    · have hf' : Ie.fnt d = false := by simpa using hf
      have G : Hid (∀ w', Below w.heap.size w w' → SpcTold V F W P d w (.returned (.tuple #[.string (strOfNums (Wh.padT F W false (Wh.sgn F (decide (9223372036854775808 ≤ d))) (Po.nm (Po.cap V) (Ie.cls d)))), .bool true, .int .i64 0])) w') := fun w' k => ⟨by rw [Po.spc, if_pos ⟨hc, hf'⟩, Po.spb, hf', hc, ngd.out]; rfl, k⟩
      have hcl := Po.cls_of hf'
      have CP : Po.cap V = decide (V = 69 ∨ V = 70 ∨ V = 71 ∨ V = 88) := rfl
      clear hc f0 f1 p0 p1 hf hf'
      generalize strOfNums (Wh.padT F W false (Wh.sgn F (decide (9223372036854775808 ≤ d))) (Po.nm (Po.cap V) (Ie.cls d))) = RR at *
      rcases (show V = 69 ∨ V = 70 ∨ V = 71 ∨ V = 88 ∨ (V ≠ 69 ∧ V ≠ 70 ∧ V ≠ 71 ∧ V ≠ 88) by omega) with rfl | rfl | rfl | rfl | ⟨q1, q2, q3, q4⟩
      · have cf : Po.cap 69 = true := by decide
        rw [cf] at LD
        clear CP cf
        rcases hcl with q | q
        · rw [q, show strOfNums (Po.nm true 3) = ⟨#[73, 78, 70]⟩ from rfl] at LD
          rw [q] at CL
          clear q
          go_enter Tryz.func29, Tryz.ntmps29
          go_wp2_with fail
          with_reducible refine (CK.out _).mono ?_
          rintro e w1 ⟨rfl, b1⟩
          have B1 := hid (B0.out.on b1)
          clear b1 B0 CK
          obtain ⟨c0, c1, c2, c3⟩ := B1.out.flat
          go_wp2_with fail
          with_reducible refine (CL.out _).mono ?_
          rintro e w2 ⟨rfl, b2⟩
          have B2 := hid (B1.out.on b2)
          clear b2 B1 CL c0 c1 c2 c3
          obtain ⟨c0, c1, c2, c3⟩ := B2.out.flat
          go_wp2_with fail
          with_reducible refine (LD.out _).mono ?_
          rintro e w3 ⟨rfl, b3⟩
          have B3 := hid (B2.out.on b3)
          clear b3 B2 LD c0 c1 c2 c3
          go_wp2_with fail
          go_ret3
          exact G.out _ B3.out.bel
        · rw [q, show strOfNums (Po.nm true 4) = ⟨#[78, 65, 78]⟩ from rfl] at LD
          rw [q] at CL
          clear q
          go_enter Tryz.func29, Tryz.ntmps29
          go_wp2_with fail
          with_reducible refine (CK.out _).mono ?_
          rintro e w1 ⟨rfl, b1⟩
          have B1 := hid (B0.out.on b1)
          clear b1 B0 CK
          obtain ⟨c0, c1, c2, c3⟩ := B1.out.flat
          go_wp2_with fail
          with_reducible refine (CL.out _).mono ?_
          rintro e w2 ⟨rfl, b2⟩
          have B2 := hid (B1.out.on b2)
          clear b2 B1 CL c0 c1 c2 c3
          obtain ⟨c0, c1, c2, c3⟩ := B2.out.flat
          go_wp2_with fail
          with_reducible refine (LD.out _).mono ?_
          rintro e w3 ⟨rfl, b3⟩
          have B3 := hid (B2.out.on b3)
          clear b3 B2 LD c0 c1 c2 c3
          go_wp2_with fail
          go_ret3
          exact G.out _ B3.out.bel
      · have cf : Po.cap 70 = true := by decide
        rw [cf] at LD
        clear CP cf
        rcases hcl with q | q
        · rw [q, show strOfNums (Po.nm true 3) = ⟨#[73, 78, 70]⟩ from rfl] at LD
          rw [q] at CL
          clear q
          go_enter Tryz.func29, Tryz.ntmps29
          go_wp2_with fail
          with_reducible refine (CK.out _).mono ?_
          rintro e w1 ⟨rfl, b1⟩
          have B1 := hid (B0.out.on b1)
          clear b1 B0 CK
          obtain ⟨c0, c1, c2, c3⟩ := B1.out.flat
          go_wp2_with fail
          with_reducible refine (CL.out _).mono ?_
          rintro e w2 ⟨rfl, b2⟩
          have B2 := hid (B1.out.on b2)
          clear b2 B1 CL c0 c1 c2 c3
          obtain ⟨c0, c1, c2, c3⟩ := B2.out.flat
          go_wp2_with fail
          with_reducible refine (LD.out _).mono ?_
          rintro e w3 ⟨rfl, b3⟩
          have B3 := hid (B2.out.on b3)
          clear b3 B2 LD c0 c1 c2 c3
          go_wp2_with fail
          go_ret3
          exact G.out _ B3.out.bel
        · rw [q, show strOfNums (Po.nm true 4) = ⟨#[78, 65, 78]⟩ from rfl] at LD
          rw [q] at CL
          clear q
          go_enter Tryz.func29, Tryz.ntmps29
          go_wp2_with fail
          with_reducible refine (CK.out _).mono ?_
          rintro e w1 ⟨rfl, b1⟩
          have B1 := hid (B0.out.on b1)
          clear b1 B0 CK
          obtain ⟨c0, c1, c2, c3⟩ := B1.out.flat
          go_wp2_with fail
          with_reducible refine (CL.out _).mono ?_
          rintro e w2 ⟨rfl, b2⟩
          have B2 := hid (B1.out.on b2)
          clear b2 B1 CL c0 c1 c2 c3
          obtain ⟨c0, c1, c2, c3⟩ := B2.out.flat
          go_wp2_with fail
          with_reducible refine (LD.out _).mono ?_
          rintro e w3 ⟨rfl, b3⟩
          have B3 := hid (B2.out.on b3)
          clear b3 B2 LD c0 c1 c2 c3
          go_wp2_with fail
          go_ret3
          exact G.out _ B3.out.bel
      · have cf : Po.cap 71 = true := by decide
        rw [cf] at LD
        clear CP cf
        rcases hcl with q | q
        · rw [q, show strOfNums (Po.nm true 3) = ⟨#[73, 78, 70]⟩ from rfl] at LD
          rw [q] at CL
          clear q
          go_enter Tryz.func29, Tryz.ntmps29
          go_wp2_with fail
          with_reducible refine (CK.out _).mono ?_
          rintro e w1 ⟨rfl, b1⟩
          have B1 := hid (B0.out.on b1)
          clear b1 B0 CK
          obtain ⟨c0, c1, c2, c3⟩ := B1.out.flat
          go_wp2_with fail
          with_reducible refine (CL.out _).mono ?_
          rintro e w2 ⟨rfl, b2⟩
          have B2 := hid (B1.out.on b2)
          clear b2 B1 CL c0 c1 c2 c3
          obtain ⟨c0, c1, c2, c3⟩ := B2.out.flat
          go_wp2_with fail
          with_reducible refine (LD.out _).mono ?_
          rintro e w3 ⟨rfl, b3⟩
          have B3 := hid (B2.out.on b3)
          clear b3 B2 LD c0 c1 c2 c3
          go_wp2_with fail
          go_ret3
          exact G.out _ B3.out.bel
        · rw [q, show strOfNums (Po.nm true 4) = ⟨#[78, 65, 78]⟩ from rfl] at LD
          rw [q] at CL
          clear q
          go_enter Tryz.func29, Tryz.ntmps29
          go_wp2_with fail
          with_reducible refine (CK.out _).mono ?_
          rintro e w1 ⟨rfl, b1⟩
          have B1 := hid (B0.out.on b1)
          clear b1 B0 CK
          obtain ⟨c0, c1, c2, c3⟩ := B1.out.flat
          go_wp2_with fail
          with_reducible refine (CL.out _).mono ?_
          rintro e w2 ⟨rfl, b2⟩
          have B2 := hid (B1.out.on b2)
          clear b2 B1 CL c0 c1 c2 c3
          obtain ⟨c0, c1, c2, c3⟩ := B2.out.flat
          go_wp2_with fail
          with_reducible refine (LD.out _).mono ?_
          rintro e w3 ⟨rfl, b3⟩
          have B3 := hid (B2.out.on b3)
          clear b3 B2 LD c0 c1 c2 c3
          go_wp2_with fail
          go_ret3
          exact G.out _ B3.out.bel
      · have cf : Po.cap 88 = true := by decide
        rw [cf] at LD
        clear CP cf
        rcases hcl with q | q
        · rw [q, show strOfNums (Po.nm true 3) = ⟨#[73, 78, 70]⟩ from rfl] at LD
          rw [q] at CL
          clear q
          go_enter Tryz.func29, Tryz.ntmps29
          go_wp2_with fail
          with_reducible refine (CK.out _).mono ?_
          rintro e w1 ⟨rfl, b1⟩
          have B1 := hid (B0.out.on b1)
          clear b1 B0 CK
          obtain ⟨c0, c1, c2, c3⟩ := B1.out.flat
          go_wp2_with fail
          with_reducible refine (CL.out _).mono ?_
          rintro e w2 ⟨rfl, b2⟩
          have B2 := hid (B1.out.on b2)
          clear b2 B1 CL c0 c1 c2 c3
          obtain ⟨c0, c1, c2, c3⟩ := B2.out.flat
          go_wp2_with fail
          with_reducible refine (LD.out _).mono ?_
          rintro e w3 ⟨rfl, b3⟩
          have B3 := hid (B2.out.on b3)
          clear b3 B2 LD c0 c1 c2 c3
          go_wp2_with fail
          go_ret3
          exact G.out _ B3.out.bel
        · rw [q, show strOfNums (Po.nm true 4) = ⟨#[78, 65, 78]⟩ from rfl] at LD
          rw [q] at CL
          clear q
          go_enter Tryz.func29, Tryz.ntmps29
          go_wp2_with fail
          with_reducible refine (CK.out _).mono ?_
          rintro e w1 ⟨rfl, b1⟩
          have B1 := hid (B0.out.on b1)
          clear b1 B0 CK
          obtain ⟨c0, c1, c2, c3⟩ := B1.out.flat
          go_wp2_with fail
          with_reducible refine (CL.out _).mono ?_
          rintro e w2 ⟨rfl, b2⟩
          have B2 := hid (B1.out.on b2)
          clear b2 B1 CL c0 c1 c2 c3
          obtain ⟨c0, c1, c2, c3⟩ := B2.out.flat
          go_wp2_with fail
          with_reducible refine (LD.out _).mono ?_
          rintro e w3 ⟨rfl, b3⟩
          have B3 := hid (B2.out.on b3)
          clear b3 B2 LD c0 c1 c2 c3
          go_wp2_with fail
          go_ret3
          exact G.out _ B3.out.bel
      · have cf : Po.cap V = false := by rw [CP]; exact decide_eq_false (by omega)
        have r1 : (V == 69) = false := by simpa using q1
        have r2 : (V == 70) = false := by simpa using q2
        have r3 : (V == 71) = false := by simpa using q3
        have r4 : (V == 88) = false := by simpa using q4
        rw [cf] at LD
        clear CP cf
        rcases hcl with q | q
        · rw [q, show strOfNums (Po.nm false 3) = ⟨#[105, 110, 102]⟩ from rfl] at LD
          rw [q] at CL
          clear q
          go_enter Tryz.func29, Tryz.ntmps29
          go_wp2_with fail
          with_reducible refine (CK.out _).mono ?_
          rintro e w1 ⟨rfl, b1⟩
          have B1 := hid (B0.out.on b1)
          clear b1 B0 CK
          obtain ⟨c0, c1, c2, c3⟩ := B1.out.flat
          go_wp2_with fail
          with_reducible refine (CL.out _).mono ?_
          rintro e w2 ⟨rfl, b2⟩
          have B2 := hid (B1.out.on b2)
          clear b2 B1 CL c0 c1 c2 c3
          obtain ⟨c0, c1, c2, c3⟩ := B2.out.flat
          go_wp2_with fail
          with_reducible refine (LD.out _).mono ?_
          rintro e w3 ⟨rfl, b3⟩
          have B3 := hid (B2.out.on b3)
          clear b3 B2 LD c0 c1 c2 c3
          go_wp2_with fail
          go_ret3
          exact G.out _ B3.out.bel
        · rw [q, show strOfNums (Po.nm false 4) = ⟨#[110, 97, 110]⟩ from rfl] at LD
          rw [q] at CL
          clear q
          go_enter Tryz.func29, Tryz.ntmps29
          go_wp2_with fail
          with_reducible refine (CK.out _).mono ?_
          rintro e w1 ⟨rfl, b1⟩
          have B1 := hid (B0.out.on b1)
          clear b1 B0 CK
          obtain ⟨c0, c1, c2, c3⟩ := B1.out.flat
          go_wp2_with fail
          with_reducible refine (CL.out _).mono ?_
          rintro e w2 ⟨rfl, b2⟩
          have B2 := hid (B1.out.on b2)
          clear b2 B1 CL c0 c1 c2 c3
          obtain ⟨c0, c1, c2, c3⟩ := B2.out.flat
          go_wp2_with fail
          with_reducible refine (LD.out _).mono ?_
          rintro e w3 ⟨rfl, b3⟩
          have B3 := hid (B2.out.on b3)
          clear b3 B2 LD c0 c1 c2 c3
          go_wp2_with fail
          go_ret3
          exact G.out _ B3.out.bel
  · have G : Hid (∀ w', Below w.heap.size w w' → SpcTold V F W P d w (.returned (.tuple #[.string ⟨#[]⟩, .bool false, .int .i64 (Wh.chk F W P)])) w') := fun w' k => ⟨by rw [Po.spc, if_neg (fun q => hc q.1), Po.spb, decide_eq_false hc]; rfl, k⟩
    have hne : (Wh.chk F W P != 0) = true := by simpa using hc
    have hne2 : (Wh.chk F W P == 0) = false := by simpa using hc
    clear hc
    generalize Wh.chk F W P = E at *
    go_enter Tryz.func29, Tryz.ntmps29
    go_wp2_with fail
    with_reducible refine (CK.out _).mono ?_
    rintro e w1 ⟨rfl, b1⟩
    have B1 := hid (B0.out.on b1)
    clear b1 B0 CK
    go_wp2_with fail
    go_ret3
    exact G.out _ B1.out.bel
end Go.Proofs.YtaoaniigbooihaaGreatDoor

namespace Go.Proofs.YtaoaniigbooihaaGreatDoor
open Go Go.RowKit Go.Deep Go.Shelf

theorem pw_bd {a b : Nat} (h : 4 * a + b < 262144) : (10 : Int) ^ a * 2 ^ b < Nm.pw 4096 := by
  rw [Nm.pw_two]
  obtain ⟨K, hK⟩ : ∃ K : Nat, 64 * 4096 = K := ⟨_, rfl⟩
  rw [hK]
  have hK2 : 4 * a + b < K := by omega
  clear hK h
  have h1 : (10 : Int) ^ a ≤ 2 ^ (4 * a) := by
    have : (10 ^ a : Nat) ≤ 16 ^ a := Nat.pow_le_pow_left (by omega) a
    rw [show (16 : Nat) = 2 ^ 4 from rfl, ← Nat.pow_mul] at this
    exact_mod_cast this
  have h2 : (10 : Int) ^ a * 2 ^ b ≤ 2 ^ (4 * a) * 2 ^ b := Int.mul_le_mul_of_nonneg_right h1 (Int.le_of_lt (Int.pow_pos (by omega)))
  rw [← Int.pow_add] at h2
  have h3 : (2 : Int) ^ (4 * a + b) < 2 ^ K := by
    have : (2 ^ (4 * a + b) : Nat) < 2 ^ K := Nat.pow_lt_pow_right (by omega) hK2
    exact_mod_cast this
  omega
theorem pw_bdm {m : Int} {a b : Nat} (m0 : 0 ≤ m) (m1 : m < 18446744073709551616) (h : 4 * a + b < 262000) : m * 10 ^ a * 2 ^ b < Nm.pw 4096 := by
  have h1 := pw_bd (a := a) (b := b + 64) (by omega)
  have p1 : (0 : Int) < 10 ^ a * 2 ^ b := Int.mul_pos (Int.pow_pos (by omega)) (Int.pow_pos (by omega))
  have h2 : m * (10 ^ a * 2 ^ b) ≤ 18446744073709551616 * (10 ^ a * 2 ^ b) := Int.mul_le_mul_of_nonneg_right (by omega) (Int.le_of_lt p1)
  rw [Int.pow_add, show (2 : Int) ^ 64 = 18446744073709551616 from rfl, ← Int.mul_assoc, Int.mul_comm] at h1
  rw [Int.mul_assoc]
  omega

def TenTold (k : Nat) (w : World) (e : Ending) (w' : World) : Prop := ∃ r os, e = .returned (.slice r (List.length os) (List.length os)) ∧ Ans w.heap.size w' r os (10 ^ k) ∧ Below w.heap.size w w'
set_option maxRecDepth 100000 in
theorem xten_any (k : Int) (w : World) (hk : k ≤ 10000) (hk0 : -9223372036854775808 ≤ k) : Calls Tryz.prog 168 #[.int .i64 k] w fun e w' => TenTold k.toNat w e w' := by
  have G : ∀ (n : Nat), n ≤ 10000 → ∀ e w', Gives (10 ^ n) w e w' → ∃ r os, e = .returned (.tuple #[.slice r (List.length os) (List.length os), .int .i64 0]) ∧ Ans w.heap.size w' r os (10 ^ n) ∧ Below w.heap.size w w' := by
    rintro n hn e w' ⟨h | h, hb⟩
    · obtain ⟨-, r, os, he, ha⟩ := h
      exact ⟨r, os, he, ha, hb⟩
    · have := pw_bd (a := n) (b := 0) (by omega)
      rw [Int.pow_zero, Int.mul_one] at this
      omega
  by_cases h : k < 0
  · have P := hid ((rpow10_gives 0 0 w rfl (by omega)).mono (G 0 (by omega)))
    rw [show k.toNat = 0 by omega]
    clear G hk
    go_enter Tryz.func168, Tryz.ntmps168
    go_wp2_with fail
    with_reducible refine P.out.mono ?_
    rintro e w1 ⟨r, os, rfl, a, b⟩
    have F : Hid (TenTold 0 w (.returned (.slice r (List.length os) (List.length os))) w1) := ⟨r, os, rfl, a, b⟩
    clear a b P
    go_wp2_with fail
    go_ret
    exact F.out
  · have P := hid ((rpow10_gives k k.toNat w (by omega) (by omega)).mono (G k.toNat (by omega)))
    clear G hk
    generalize k.toNat = n at *
    go_enter Tryz.func168, Tryz.ntmps168
    go_wp2_with fail
    with_reducible refine P.out.mono ?_
    rintro e w1 ⟨r, os, rfl, a, b⟩
    have F : Hid (TenTold n w (.returned (.slice r (List.length os) (List.length os))) w1) := ⟨r, os, rfl, a, b⟩
    clear a b P
    go_wp2_with fail
    go_ret
    exact F.out

def ScTold (m x e : Int) (w : World) (en : Ending) (w' : World) : Prop := ∃ r os s us, en = .returned (.tuple #[.slice r (List.length os) (List.length os), .slice s (List.length us) (List.length us)]) ∧ Ans w.heap.size w' r os (m * 10 ^ (-e).toNat * 2 ^ x.toNat) ∧ Ans w.heap.size w' s us (10 ^ e.toNat * 2 ^ (-x).toNat) ∧ Below w.heap.size w w'
set_option maxRecDepth 100000 in
set_option maxHeartbeats 2000000 in
theorem xscaled_any (m x e : Int) (w : World) (m0 : 0 ≤ m) (m1 : m < 18446744073709551616) (x0 : -2000 ≤ x) (x1 : x ≤ 2000) (e0 : -10000 ≤ e) (e1 : e ≤ 10000) :
    Calls Tryz.prog 144 #[.int .u64 m, .int .i64 x, .int .i64 e] w fun en w' => ScTold m x e w en w' := by
  have bA := hid (alloc_b w (.cells #[.int .u64 m] 26))
  have A0 : Hid (Arg (w.alloc (.cells #[.int .u64 m] 26)) (some ⟨w.heap.size, 0, none⟩) 1 1 [m]) := ⟨rfl, Nat.le_refl _, by omega, (Own.alloc w [m]).lies, limb_one ⟨m0, m1⟩⟩
  have T1 := hid (fun W' => xten_any (-e) W' (by omega) (by omega))
  have T2 := hid (fun W' => xten_any e W' (by omega) (by omega))
  have p1 : Hid ((10 : Int) ^ (-e).toNat < Nm.pw 4096) := by have := pw_bd (a := (-e).toNat) (b := 0) (by omega); rw [Int.pow_zero, Int.mul_one] at this; exact this
  have p2 : Hid ((10 : Int) ^ e.toNat < Nm.pw 4096) := by have := pw_bd (a := e.toNat) (b := 0) (by omega); rw [Int.pow_zero, Int.mul_one] at this; exact this
  have p3 : Hid (m * (10 : Int) ^ (-e).toNat < Nm.pw 4096) := by have := pw_bdm (a := (-e).toNat) (b := 0) m0 m1 (by omega); rw [Int.pow_zero, Int.mul_one] at this; exact this
  have LX : Hid (0 ≤ x → x.toNat ≤ 2000 ∧ x = (x.toNat : Int) ∧ (-x).toNat = 0) := fun h => ⟨by omega, by omega, by omega⟩
  have LY : Hid (¬ 0 ≤ x → (-x).toNat ≤ 2000 ∧ -x = ((-x).toNat : Int) ∧ x.toNat = 0) := fun h => ⟨by omega, by omega, by omega⟩
  obtain ⟨ee, hee⟩ : ∃ ee, -e = ee := ⟨_, rfl⟩
  rw [hee] at T1
  replace hee := hid hee
  clear m0 m1
  go_enter Tryz.func144, Tryz.ntmps144
  go_wp2_with fail
  (try rw [hee.out])
  with_reducible refine (T1.out _).mono ?_
  rintro en w1 ⟨r1, o1, rfl, a1, b1⟩
  rw [← hee.out] at a1
  have TM := hid (times_any _ r1 1 1 _ _ [m] o1 w1 (A0.out.below b1 (Nat.le_refl _)) (a1.argT p1.out) (Nat.le_trans (Nm.tsize_le _) (by simp)) (Nat.le_trans (a1.tsT p1.out) (by omega)))
  have B1 := hid (below_on bA.out b1)
  have V1 := hid a1.2.2.2.1
  clear a1 b1 T1 A0 bA
  go_wp2_with fail
  with_reducible refine TM.out.mono ?_
  rintro en w2 ⟨r2, o2, rfl, a2, b2⟩
  rw [V1.out, show Nm.val [m] = m by simp [Nm.val]] at a2
  have B2 := hid (below_on B1.out b2)
  have A2 := hid (a2.upT B1.out.size)
  clear a2 b2 TM V1
  go_wp2_with fail
  with_reducible refine (T2.out _).mono ?_
  rintro en w3 ⟨r3, o3, rfl, a3, b3⟩
  have B3 := hid (below_on B2.out b3)
  have A3 := hid (a3.upT B2.out.size)
  have A4 := hid (A2.out.below b3 (Nat.le_refl _))
  clear a3 b3 T2 A2 B1 B2
  by_cases hx : 0 ≤ x
  · obtain ⟨l1, l2, l3⟩ := LX.out hx
    have LF := hid (lift_any r2 _ _ o2 x x.toNat w3 (A4.out.argT p3.out) (Nat.le_trans (A4.out.tsT p3.out) (by omega)) l2 (by omega))
    have F : Hid (∀ r4 o4 w4, Ans w3.heap.size w4 r4 o4 (Nm.val o2 * 2 ^ x.toNat) → Below w3.heap.size w3 w4 → ScTold m x e w (.returned (.tuple #[.slice r4 (List.length o4) (List.length o4), .slice r3 (List.length o3) (List.length o3)])) w4) := by
      intro r4 o4 w4 a4 b4
      rw [A4.out.2.2.2.1] at a4
      refine ⟨r4, o4, r3, o3, rfl, a4.upT B3.out.size, ?_, below_on B3.out b4⟩
      rw [l3, Int.pow_zero, Int.mul_one]
      exact A3.out.below b4 (Nat.le_refl _)
    clear LX LY l1 l2 l3 A3 A4 B3 p1 p2 p3
    go_wp2_with fail
    with_reducible refine LF.out.mono ?_
    rintro en w4 ⟨r4, o4, rfl, a4, b4⟩
    have G := hid (F.out _ _ _ a4 b4)
    clear a4 b4 LF F
    go_wp2_with fail
    go_ret2
    exact G.out
  · obtain ⟨l1, l2, l3⟩ := LY.out (by omega)
    have LF := hid (lift_any r3 _ _ o3 (-x) (-x).toNat w3 (A3.out.argT p2.out) (Nat.le_trans (A3.out.tsT p2.out) (by omega)) l2 (by omega))
    have F : Hid (∀ r4 o4 w4, Ans w3.heap.size w4 r4 o4 (Nm.val o3 * 2 ^ (-x).toNat) → Below w3.heap.size w3 w4 → ScTold m x e w (.returned (.tuple #[.slice r2 (List.length o2) (List.length o2), .slice r4 (List.length o4) (List.length o4)])) w4) := by
      intro r4 o4 w4 a4 b4
      rw [A3.out.2.2.2.1] at a4
      refine ⟨r2, o2, r4, o4, rfl, ?_, a4.upT B3.out.size, below_on B3.out b4⟩
      rw [l3, Int.pow_zero, Int.mul_one]
      exact A4.out.below b4 (Nat.le_refl _)
    clear LX LY l1 l2 l3 A3 A4 B3 p1 p2 p3
    go_wp2_with fail
    with_reducible refine LF.out.mono ?_
    rintro en w4 ⟨r4, o4, rfl, a4, b4⟩
    have G := hid (F.out _ _ _ a4 b4)
    clear a4 b4 LF F
    go_wp2_with fail
    go_ret2
    exact G.out

/-- Is m * 2^x at least 10^e? -/
def Po.atl (m x e : Int) : Bool := decide (10 ^ e.toNat * 2 ^ (-x).toNat ≤ m * 10 ^ (-e).toNat * 2 ^ x.toNat)
set_option maxRecDepth 100000 in
theorem xatLeast_any (m x e : Int) (w : World) (m0 : 0 ≤ m) (m1 : m < 18446744073709551616) (x0 : -2000 ≤ x) (x1 : x ≤ 2000) (e0 : -10000 ≤ e) (e1 : e ≤ 10000) :
    Calls Tryz.prog 148 #[.int .u64 m, .int .i64 x, .int .i64 e] w fun en w' => en = .returned (.bool (Po.atl m x e)) ∧ Below w.heap.size w w' := by
  have SC := hid (xscaled_any m x e w m0 m1 x0 x1 e0 e1)
  have q1 : Hid (m * 10 ^ (-e).toNat * 2 ^ x.toNat < Nm.pw 4096) := pw_bdm m0 m1 (by omega)
  have q2 : Hid ((10 : Int) ^ e.toNat * 2 ^ (-x).toNat < Nm.pw 4096) := pw_bd (by omega)
  have E : Hid (Po.atl m x e = decide (0 ≤ cmpI (m * 10 ^ (-e).toNat * 2 ^ x.toNat) (10 ^ e.toNat * 2 ^ (-x).toNat))) := by
    show Po.atl m x e = _
    unfold Po.atl cmpI
    congr 1
    apply propext
    split
    · omega
    · split <;> omega
  clear m0 m1 x0 x1 e0 e1
  unfold ScTold at SC
  generalize m * 10 ^ (-e).toNat * 2 ^ x.toNat = N at *
  generalize (10 : Int) ^ e.toNat * 2 ^ (-x).toNat = D at *
  generalize Po.atl m x e = bb at *
  go_enter Tryz.func148, Tryz.ntmps148
  go_wp2_with fail
  with_reducible refine SC.out.mono ?_
  rintro en w1 ⟨r, os, s, us, rfl, a1, a2, b1⟩
  have CM := hid (refCmp_any r s _ _ _ _ os us w1 (a1.argT q1.out) (a2.argT q2.out))
  rw [a1.2.2.2.1, a2.2.2.2.1] at CM
  have B1 := hid b1
  clear a1 a2 b1 SC q1 q2
  generalize cmpI N D = cc at *
  go_wp2_with fail
  with_reducible refine CM.out.mono ?_
  rintro en w2 ⟨rfl, b2⟩
  have B2 := hid (below_on B1.out b2)
  clear b2 B1 CM
  go_wp2_with fail
  go_ret
  exact ⟨by rw [E.out]; rfl, B2.out⟩
end Go.Proofs.YtaoaniigbooihaaGreatDoor

namespace Go.Proofs.YtaoaniigbooihaaGreatDoor
open Go Go.RowKit Go.Deep Go.Shelf

theorem Po.blen_bd {m : Int} {L : Nat} (m1 : 0 < m) (m2 : m < 18446744073709551616) (h : Nm.BLen m L) : 1 ≤ L ∧ L ≤ 64 := by
  obtain ⟨a, b⟩ := h.2.2 m1
  refine ⟨a, ?_⟩
  rcases Nat.lt_or_ge 64 L with c | c
  · exfalso
    have : (2 : Int) ^ 64 ≤ 2 ^ (L - 1) := by
      have q : (2 ^ 64 : Nat) ≤ 2 ^ (L - 1) := Nat.pow_le_pow_right (by omega) (by omega)
      exact_mod_cast q
    have e : (2 : Int) ^ 64 = 18446744073709551616 := rfl
    omega
  · exact c

set_option maxRecDepth 100000 in
set_option maxHeartbeats 4000000 in
theorem xtens_any (m x K : Int) (w : World) (m0 : 0 < m) (m1 : m < 18446744073709551616) (x0 : -1100 ≤ x) (x1 : x ≤ 1000) (hK : ∀ k, -1000 ≤ k → k ≤ 1000 → Po.atl m x k = decide (k ≤ K)) (k0 : -400 ≤ K) (k1 : K ≤ 400) :
    Calls Tryz.prog 119 #[.int .u64 m, .int .i64 x] w fun e w' => e = .returned (.int .i64 K) ∧ Below w.heap.size w w' := by
  have bA := hid (alloc_b w (.cells #[.int .u64 m] 26))
  have A0 : Arg (w.alloc (.cells #[.int .u64 m] 26)) (some ⟨w.heap.size, 0, none⟩) 1 1 [m] := ⟨rfl, Nat.le_refl _, by omega, (Own.alloc w [m]).lies, limb_one ⟨by omega, m1⟩⟩
  have BL := hid (refBitLen_any _ 1 1 [m] _ A0)
  have AL : Hid (∀ W' k, -1000 ≤ k → k ≤ 1000 → Calls Tryz.prog 148 #[.int .u64 m, .int .i64 x, .int .i64 k] W' fun en w' => en = .returned (.bool (decide (k ≤ K))) ∧ Below W'.heap.size W' w') := by
    intro W' k h1 h2
    have := xatLeast_any m x k W' (by omega) m1 (by omega) (by omega) (by omega) (by omega)
    rw [hK k h1 h2] at this
    exact this
  have LB : Hid (∀ L : Nat, Nm.BLen (Nm.val [m]) L → 1 ≤ L ∧ L ≤ 64) := fun L h => Po.blen_bd m0 m1 (by rw [show Nm.val [m] = m by simp [Nm.val]] at h; exact h)
  clear A0 hK m0 m1
  go_enter Tryz.func119, Tryz.ntmps119
  go_wp2_with fail
  with_reducible refine BL.out.mono ?_
  rintro e w1 ⟨⟨L, rfl, hL⟩, hw⟩
  obtain ⟨l1, l2⟩ := LB.out L hL
  rw [hw]
  clear hw hL LB BL w1
  have li1 : (1 : Int) ≤ (L : Int) := by omega
  have li2 : (L : Int) ≤ 64 := by omega
  clear l1 l2
  obtain ⟨q, hq, q0, q1⟩ : ∃ q, (((L : Int) - 1 + x) * 30103).tdiv 100000 = q ∧ -800 ≤ q ∧ q ≤ 800 := by
    refine ⟨_, rfl, ?_, ?_⟩
    · rcases (show 0 ≤ ((L : Int) - 1 + x) * 30103 ∨ ((L : Int) - 1 + x) * 30103 < 0 by omega) with c | c
      · have := Int.tdiv_nonneg c (show (0 : Int) ≤ 100000 by omega); omega
      · have e : (((L : Int) - 1 + x) * 30103).tdiv 100000 = -((-(((L : Int) - 1 + x) * 30103)).tdiv 100000) := by rw [Int.neg_tdiv]; omega
        rw [e, Int.tdiv_eq_ediv_of_nonneg (by omega)]
        omega
    · rcases (show 0 ≤ ((L : Int) - 1 + x) * 30103 ∨ ((L : Int) - 1 + x) * 30103 < 0 by omega) with c | c
      · rw [Int.tdiv_eq_ediv_of_nonneg c]; omega
      · have e : (((L : Int) - 1 + x) * 30103).tdiv 100000 = -((-(((L : Int) - 1 + x) * 30103)).tdiv 100000) := by rw [Int.neg_tdiv]; omega
        rw [e, Int.tdiv_eq_ediv_of_nonneg (by omega)]
        omega
  go_wp2_with fail
  go_loopg [6] (q - K).toNat (fun g v wr => ∃ j : Int, v = .int .i64 j ∧ (j - K).toNat = g ∧ -900 ≤ j ∧ j ≤ 900 ∧ Hid (Below w.heap.size w wr))
  case atStart => exact ⟨q, by first | rfl | rw [hq], rfl, by omega, by omega, bA⟩
  case round =>
    obtain ⟨j, rfl, hg, j0, j1, B1⟩ := hrel
    clear bA hq
    by_cases hj : j ≤ K
    · have hd : decide (j ≤ K) = true := decide_eq_true hj
      have A1 := hid (AL.out wr j (by omega) (by omega))
      rw [hd] at A1
      replace hg := hid hg
      go_wp2_with fail
      with_reducible refine A1.out.mono ?_
      rintro e w2 ⟨rfl, b2⟩
      have B2 := hid (below_on B1.out b2)
      clear b2 A1 B1 hg hd
      go_wp2_with fail
      go_loopg [6] (K - j).toNat (fun g v wr => ∃ i : Int, v = .int .i64 i ∧ (K - i).toNat = g ∧ i ≤ K ∧ -900 ≤ i ∧ Hid (Below w.heap.size w wr))
      case atStart => exact ⟨j, rfl, rfl, hj, j0, B2⟩
      case round =>
        obtain ⟨i, rfl, hgi, hi, i0, B3⟩ := hrel
        clear B2
        by_cases hi1 : i + 1 ≤ K
        · have hd : decide (i + 1 ≤ K) = true := decide_eq_true hi1
          have A1 := hid (AL.out wr (i + 1) (by omega) (by omega))
          rw [hd] at A1
          replace hgi := hid hgi
          go_wp2_with fail
          with_reducible refine A1.out.mono ?_
          rintro e w4 ⟨rfl, b4⟩
          have B4 := hid (below_on B3.out b4)
          clear b4 A1 B3 hd
          go_wp2_with fail
          go_roundg ((K - (i + 1)).toNat)
          case measure => have := hgi.out; omega
          case rel => exact ⟨i + 1, rfl, rfl, hi1, by omega, B4⟩
        · have hd : decide (i + 1 ≤ K) = false := decide_eq_false hi1
          have A1 := hid (AL.out wr (i + 1) (by omega) (by omega))
          rw [hd] at A1
          have hiK : Hid (i = K) := by show i = K; omega
          replace hgi := hid hgi
          go_wp2_with fail
          with_reducible refine A1.out.mono ?_
          rintro e w4 ⟨rfl, b4⟩
          have B4 := hid (below_on B3.out b4)
          clear b4 A1 B3 hd
          go_wp2_with fail
          go_ret
          exact ⟨by have q := hiK.out; rw [← q]; rfl, B4.out⟩
    · have hd : decide (j ≤ K) = false := decide_eq_false hj
      have A1 := hid (AL.out wr j (by omega) (by omega))
      rw [hd] at A1
      replace hg := hid hg
      go_wp2_with fail
      with_reducible refine A1.out.mono ?_
      rintro e w2 ⟨rfl, b2⟩
      have B2 := hid (below_on B1.out b2)
      clear b2 A1 B1 hd
      go_wp2_with fail
      go_roundg ((j - 1 - K).toNat)
      case measure => have := hg.out; omega
      case rel => exact ⟨j - 1, rfl, rfl, by omega, by omega, B2⟩
end Go.Proofs.YtaoaniigbooihaaGreatDoor
