/-
  abacusref24: its table of kinds is the program's; what Depths keeps (mktrp.py).
-/
import Derived.Test.YthachcidfnjbaaaTrI
import Derived.Test.YthachcidfnjbaaaTrG
import Derived.Test.YthachcidfnjbaaaTrO
namespace Go.Proofs.Ythachcidfnjbaaa
open Go Go.RowKit Go.Deep

namespace Tr
def rok (x : Nd) (L : Nat) : Prop := 0 ≤ (ar x.kind x.op).1 ∧ (ar x.kind x.op).1 ≤ x.n ∧ x.n ≤ (ar x.kind x.op).2 ∧ fok x ∧ x.n ≤ L
theorem tab_same (x : Nd) (L : Nat) (hL : L ≤ 10000) : rok x L ↔ (fit x (ru x.kind x.op) ∧ x.n ≤ L) := by
  obtain ⟨k, p, q, n, m, s⟩ := x
  simp only [rok, fit, fok]
  by_cases k1 : k = 1
  · subst k1
    simp [ru, ar, ob, rf, fi]
    all_goals grind
  by_cases k2 : k = 2
  · subst k2
    simp [ru, ar, ob, rf, fi]
    all_goals grind
  by_cases k3 : k = 3
  · subst k3
    simp [ru, ar, ob, rf, fi]
    all_goals grind
  by_cases k4 : k = 4
  · subst k4
    simp [ru, ar, ob, rf, fi]
    all_goals grind
  by_cases k5 : k = 5
  · subst k5
    simp [ru, ar, ob, rf, fi]
    all_goals grind
  by_cases k6 : k = 6
  · subst k6
    simp [ru, ar, ob, rf, fi]
    all_goals grind
  by_cases k7 : k = 7
  · subst k7
    simp [ru, ar, ob, rf, fi]
    all_goals grind
  by_cases k8 : k = 8
  · subst k8
    simp [ru, ar, ob, rf, fi]
    all_goals grind
  by_cases k9 : k = 9
  · subst k9
    simp [ru, ar, ob, rf, fi]
    all_goals grind
  by_cases k10 : k = 10
  · subst k10
    simp [ru, ar, ob, rf, fi]
    all_goals grind
  by_cases k11 : k = 11
  · subst k11
    simp [ru, ar, ob, rf, fi]
    all_goals grind
  by_cases k12 : k = 12
  · subst k12
    simp [ru, ar, ob, rf, fi]
    all_goals grind
  by_cases k13 : k = 13
  · subst k13
    simp [ru, ar, ob, rf, fi]
    all_goals grind
  by_cases k14 : k = 14
  · subst k14
    simp [ru, ar, ob, rf, fi]
    all_goals grind
  by_cases k15 : k = 15
  · subst k15
    simp [ru, ar, ob, rf, fi]
    all_goals grind
  by_cases k16 : k = 16
  · subst k16
    simp [ru, ar, ob, rf, fi]
    all_goals grind
  by_cases k17 : k = 17
  · subst k17
    simp [ru, ar, ob, rf, fi]
    all_goals grind
  by_cases k18 : k = 18
  · subst k18
    simp [ru, ar, ob, rf, fi]
    all_goals grind
  by_cases k19 : k = 19
  · subst k19
    by_cases p1 : p = 1
    · subst p1
      simp [ru, cr, ar, ca, ob, rf, fi]
      all_goals grind
    by_cases p2 : p = 2
    · subst p2
      simp [ru, cr, ar, ca, ob, rf, fi]
      all_goals grind
    by_cases p3 : p = 3
    · subst p3
      simp [ru, cr, ar, ca, ob, rf, fi]
      all_goals grind
    by_cases p4 : p = 4
    · subst p4
      simp [ru, cr, ar, ca, ob, rf, fi]
      all_goals grind
    by_cases p5 : p = 5
    · subst p5
      simp [ru, cr, ar, ca, ob, rf, fi]
      all_goals grind
    by_cases p6 : p = 6
    · subst p6
      simp [ru, cr, ar, ca, ob, rf, fi]
      all_goals grind
    by_cases p7 : p = 7
    · subst p7
      simp [ru, cr, ar, ca, ob, rf, fi]
      all_goals grind
    by_cases p8 : p = 8
    · subst p8
      simp [ru, cr, ar, ca, ob, rf, fi]
      all_goals grind
    by_cases p9 : p = 9
    · subst p9
      simp [ru, cr, ar, ca, ob, rf, fi]
      all_goals grind
    by_cases p10 : p = 10
    · subst p10
      simp [ru, cr, ar, ca, ob, rf, fi]
      all_goals grind
    by_cases p11 : p = 11
    · subst p11
      simp [ru, cr, ar, ca, ob, rf, fi]
      all_goals grind
    by_cases p12 : p = 12
    · subst p12
      simp [ru, cr, ar, ca, ob, rf, fi]
      all_goals grind
    by_cases p13 : p = 13
    · subst p13
      simp [ru, cr, ar, ca, ob, rf, fi]
      all_goals grind
    have e1 : ru 19 p = nth := by simp [ru, cr, p1, p2, p3, p4, p5, p6, p7, p8, p9, p10, p11, p12, p13]
    have e2 : ar 19 p = (-1, -1) := by simp [ar, ca, p1, p2, p3, p4, p5, p6, p7, p8, p9, p10, p11, p12, p13]
    rw [e1, e2]
    simp [nth]
    all_goals grind
  have e1 : ru k p = nth := by simp [ru, k1, k2, k3, k4, k5, k6, k7, k8, k9, k10, k11, k12, k13, k14, k15, k16, k17, k18, k19]
  have e2 : ar k p = (-1, -1) := by simp [ar, k1, k2, k3, k4, k5, k6, k7, k8, k9, k10, k11, k12, k13, k14, k15, k16, k17, k18, k19]
  rw [e1, e2]
  simp [nth]
  all_goals grind
theorem am_target (k p : Int) : am k p = (ru k p).target - 1 := by
  by_cases k1 : k = 1
  · subst k1
    simp [ru, am]
  by_cases k2 : k = 2
  · subst k2
    simp [ru, am]
  by_cases k3 : k = 3
  · subst k3
    simp [ru, am]
  by_cases k4 : k = 4
  · subst k4
    simp [ru, am]
  by_cases k5 : k = 5
  · subst k5
    simp [ru, am]
  by_cases k6 : k = 6
  · subst k6
    simp [ru, am]
  by_cases k7 : k = 7
  · subst k7
    simp [ru, am]
  by_cases k8 : k = 8
  · subst k8
    simp [ru, am]
  by_cases k9 : k = 9
  · subst k9
    simp [ru, am]
  by_cases k10 : k = 10
  · subst k10
    simp [ru, am]
  by_cases k11 : k = 11
  · subst k11
    simp [ru, am]
  by_cases k12 : k = 12
  · subst k12
    simp [ru, am]
  by_cases k13 : k = 13
  · subst k13
    simp [ru, am]
  by_cases k14 : k = 14
  · subst k14
    simp [ru, am]
  by_cases k15 : k = 15
  · subst k15
    simp [ru, am]
  by_cases k16 : k = 16
  · subst k16
    simp [ru, am]
  by_cases k17 : k = 17
  · subst k17
    simp [ru, am]
  by_cases k18 : k = 18
  · subst k18
    simp [ru, am]
  by_cases k19 : k = 19
  · subst k19
    by_cases p1 : p = 1
    · subst p1
      simp [ru, cr, am]
    by_cases p2 : p = 2
    · subst p2
      simp [ru, cr, am]
    by_cases p3 : p = 3
    · subst p3
      simp [ru, cr, am]
    by_cases p4 : p = 4
    · subst p4
      simp [ru, cr, am]
    by_cases p5 : p = 5
    · subst p5
      simp [ru, cr, am]
    by_cases p6 : p = 6
    · subst p6
      simp [ru, cr, am]
    by_cases p7 : p = 7
    · subst p7
      simp [ru, cr, am]
    by_cases p8 : p = 8
    · subst p8
      simp [ru, cr, am]
    by_cases p9 : p = 9
    · subst p9
      simp [ru, cr, am]
    by_cases p10 : p = 10
    · subst p10
      simp [ru, cr, am]
    by_cases p11 : p = 11
    · subst p11
      simp [ru, cr, am]
    by_cases p12 : p = 12
    · subst p12
      simp [ru, cr, am]
    by_cases p13 : p = 13
    · subst p13
      simp [ru, cr, am]
    have e1 : ru 19 p = nth := by simp [ru, cr, p1, p2, p3, p4, p5, p6, p7, p8, p9, p10, p11, p12, p13]
    rw [e1]
    simp [nth, am, p10, p11]
  have e1 : ru k p = nth := by simp [ru, k1, k2, k3, k4, k5, k6, k7, k8, k9, k10, k11, k12, k13, k14, k15, k16, k17, k18, k19]
  rw [e1]
  simp [nth, am, k16, k17, k18, k19]
def kd (l : List Nd) (p : Nat) : Int := (l[p]?.map Nd.kind).getD 0
/-- The row that roots and depths make. -/
def rwv (l : List Nd) (ds : List Int) (Rs : List Nat) : List (Int × Int) := Rs.map fun p => (kd l p, ds.getD p 0)
theorem rwv_len (l : List Nd) (ds : List Int) (Rs : List Nat) : (rwv l ds Rs).length = Rs.length := by simp [rwv]
def fs (N : Int) (ds : List Int) : Int := (ds.findIdx? (fun d => decide (200 < d))).elim N (fun i => (i : Int))
theorem fs_snoc {N : Int} (ds : List Int) (d : Int) (h : (ds.length : Int) ≤ N) : fs N (ds ++ [d]) = if 200 < d then min (fs N ds) ds.length else fs N ds := by
  unfold fs
  rw [List.findIdx?_append]
  cases hi : ds.findIdx? (fun d => decide (200 < d)) with
  | none =>
    by_cases hd : 200 < d
    · simp [List.findIdx?_cons, hd]; omega
    · simp [List.findIdx?_cons, hd]
  | some i =>
    have hl : i < ds.length := by
      obtain ⟨a, _⟩ := List.findIdx?_eq_some_iff_getElem.1 hi
      exact a
    by_cases hd : 200 < d
    · simp [hd]; omega
    · simp [hd]
/-- What Depths keeps. -/
structure RI (l : List Nd) (N k : Nat) (Rs : List Nat) (ds : List Int) : Prop where
  lt : ∀ p ∈ Rs, p < k
  len : ds.length = k
  ans : go N (l.drop k) (rwv l ds Rs) k (fs N ds) = lk l
  rl : Rs.length ≤ k
  last : 0 < k → Rs.getLast? = some (k - 1)
  bd : ∀ d ∈ ds, 0 ≤ d ∧ d ≤ (k : Int)
theorem rwv_bd {l : List Nd} {N k : Nat} {Rs : List Nat} {ds : List Int} (h : RI l N k Rs ds) : ∀ a ∈ rwv l ds Rs, a.2 ≤ (k : Int) := by
  intro a ha
  obtain ⟨p, hp, rfl⟩ := List.mem_map.1 ha
  have h1 := h.lt p hp
  have h2 : p < ds.length := by rw [h.len]; exact h1
  show ds.getD p 0 ≤ _
  rw [List.getD_eq_getElem?_getD, List.getElem?_eq_getElem h2]
  exact (h.bd _ (List.getElem_mem h2)).2
theorem RI.step {l : List Nd} {N k : Nat} {Rs : List Nat} {ds : List Int} {x : Nd} (h : RI l N k Rs ds) (hx : l[k]? = some x) (hs : st x (rwv l ds Rs)) (hN : k < N) : RI l N (k + 1) (Rs.take (Rs.length - x.n.toNat) ++ [k]) (ds ++ [nd (rwv l ds Rs) x]) := by
  have hd0 : 0 ≤ nd (rwv l ds Rs) x ∧ nd (rwv l ds Rs) x ≤ (k : Int) + 1 := by
    have a := dp_nonneg ((rwv l ds Rs).drop ((rwv l ds Rs).length - x.n.toNat))
    have b := dp_le (m := (k : Int)) (l := (rwv l ds Rs).drop ((rwv l ds Rs).length - x.n.toNat)) (fun a ha => rwv_bd h a (List.mem_of_mem_drop ha)) (by omega)
    unfold nd
    omega
  refine ⟨?_, by simp [h.len], ?_, ?_, ?_, ?_⟩
  · intro p hp
    rcases List.mem_append.1 hp with y | y
    · have := h.lt p (List.mem_of_mem_take y); omega
    · rw [List.mem_singleton] at y; omega
  · have e := go_step (N := N) (d := fs N ds) hx hs
    rw [← h.ans, e]
    congr 1
    · rw [nx, rwv_len]
      generalize nd (rwv l ds Rs) x = D
      have a1 : (Rs.take (Rs.length - x.n.toNat)).map (fun p => (kd l p, (ds ++ [D]).getD p 0)) = (Rs.take (Rs.length - x.n.toNat)).map (fun p => (kd l p, ds.getD p 0)) := by
        apply List.map_congr_left
        intro p hp
        have := h.lt p (List.mem_of_mem_take hp)
        rw [List.getD_eq_getElem?_getD, List.getElem?_append_left (by rw [h.len]; exact this), List.getD_eq_getElem?_getD]
      have e1 : kd l k = x.kind := by rw [kd, hx]; rfl
      have e2 : (ds ++ [D]).getD k 0 = D := by
        rw [← h.len, List.getD_eq_getElem?_getD, List.getElem?_append_right (Nat.le_refl _)]
        simp
      rw [rwv, List.map_append, a1, List.map_singleton, e1, e2, rwv, List.map_take]
    · rw [fs_snoc ds _ (by rw [h.len]; omega), dn, h.len]
  · rw [List.length_append, List.length_take, List.length_singleton]; have := h.rl; omega
  · intro _
    rw [List.getLast?_append]
    simp
  · intro d hd
    rcases List.mem_append.1 hd with y | y
    · have := h.bd d y; omega
    · rw [List.mem_singleton] at y; rw [y]; omega
end Tr
end Go.Proofs.Ythachcidfnjbaaa
