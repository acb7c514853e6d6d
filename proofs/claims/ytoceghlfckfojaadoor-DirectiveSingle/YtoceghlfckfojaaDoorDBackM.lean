/-
  A list of pieces in form, no two texts side by side, written and read.
-/
import Derived.Test.YtoceghlfckfojaaDoorDPrint
namespace Go.Proofs.YtoceghlfckfojaaDoor
namespace Dr

def noTT : List Pc → Prop
  | [] => True
  | p :: l => (p.v = 0 → (l.head?.map (·.v)) ≠ some 0) ∧ noTT l

theorem wr_ne {p : Pc} (h : ok p) : wr p ≠ [] := by
  rcases h with h | h | h
  · rw [wr, if_pos h.2.1]; exact h.1
  · rw [wr, h.2.1]; simp
  · have v := verb_ne h.1
    rw [wr, if_neg v.1, if_neg v.2.1]; simp
theorem wr_head {p : Pc} (h : ok p) (hv : p.v ≠ 0) (r : List Int) : (wr p ++ r).headD 0 = 37 := by
  rcases h with h | h | h
  · exact absurd h.2.1 hv
  · rw [wr, h.2.1]; simp
  · have v := verb_ne h.1
    rw [wr, if_neg v.1, if_neg v.2.1]; simp

theorem prs_wrs : ∀ (ps : List Pc), (∀ p ∈ ps, ok p) → noTT ps → prs (wrs ps) = (ps, 0, 0)
  | [], _, _ => by rw [show wrs [] = [] from rfl, prs_nil]
  | p :: l, h, a => by
    have hp := h p (by simp)
    have hl : ∀ q ∈ l, ok q := fun q hq => h q (by simp [hq])
    have ih := prs_wrs l hl a.2
    have e : wrs (p :: l) = wr p ++ wrs l := by simp [wrs]
    have rd : qe (wr p ++ wrs l) = 0 ∧ qp (wr p ++ wrs l) = p ∧ qu (wr p ++ wrs l) = (wr p).length := by
      rcases hp with k | k | k
      · refine txt_read k _ ?_
        cases l with
        | nil => exact .inl rfl
        | cons q l =>
          right
          have hv : q.v ≠ 0 := fun z => a.1 k.2.1 (by simp [z])
          rw [show wrs (q :: l) = wr q ++ wrs l by simp [wrs]]
          exact wr_head (hl q (by simp)) hv _
      · exact pct_read k _
      · exact dir_read k _
    have ne : wr p ++ wrs l ≠ [] := fun q => wr_ne hp (List.append_eq_nil_iff.1 q).1
    rw [e, prs_cons ne rd.1, rd.2.1, rd.2.2, List.drop_left, ih]
    rfl

/-- By places. -/
theorem noTT_of : ∀ (ps : List Pc), (∀ j, j + 1 < ps.length → ¬ ((ps.getD (j + 1) Pc.no).v = 0 ∧ (ps.getD j Pc.no).v = 0)) → noTT ps
  | [], _ => trivial
  | p :: l, h => by
    refine ⟨fun hv q => ?_, noTT_of l (fun j hj => by have := h (j + 1) (by simp; omega); simpa using this)⟩
    cases l with
    | nil => simp at q
    | cons r l =>
      simp at q
      exact h 0 (by simp) ⟨by simpa using q, by simpa using hv⟩

/-- The law's own count. -/
def lng : List Pc → Int
  | [] => 0
  | p :: l => ((p.t.length : Int) + 20) + lng l
theorem lng_app (a b : List Pc) : lng (a ++ b) = lng a + lng b := by
  induction a with
  | nil => simp [lng]
  | cons p l ih => rw [List.cons_append, lng, lng, ih]; omega
theorem lng_take {l : List Pc} {i : Nat} (h : i < l.length) : lng (l.take (i + 1)) = lng (l.take i) + (((l.getD i Pc.no).t.length : Int) + 20) := by
  rw [List.take_add_one, List.getElem?_eq_getElem h, lng_app, List.getD_eq_getElem?_getD, List.getElem?_eq_getElem h]
  simp [lng]
theorem lng_bd {l : List Pc} (h : ∀ p ∈ l, p.t.length ≤ 1048576) : 0 ≤ lng l ∧ lng l ≤ 1048596 * l.length := by
  induction l with
  | nil => simp [lng]
  | cons p l ih =>
    have := h p (by simp)
    have := ih (fun q hq => h q (by simp [hq]))
    rw [lng, List.length_cons]; omega
end Dr
open Dr in
theorem wr_len {p : Pc} (h : ok p) : (wr p).length ≤ p.t.length + 20 := by
  rcases h with q | q | q
  · rw [wr, if_pos q.2.1]; omega
  · rw [wr, q.2.1]; simp
  · have l1 := wn_len q.2.2.2.2.1
    have l2 := wn_len q.2.2.2.2.2
    have l3 := ms_len p.fl
    have v := verb_ne q.1
    rw [wr, if_neg v.1, if_neg v.2.1]
    split <;> simp <;> omega
open Dr in
theorem wrs_lng {l : List Pc} (h : ∀ p ∈ l, ok p) : ((wrs l).length : Int) ≤ lng l := by
  induction l with
  | nil => simp [wrs, lng]
  | cons p l ih =>
    have := wr_len (h p (by simp))
    have := ih (fun q hq => h q (by simp [hq]))
    rw [show wrs (p :: l) = wr p ++ wrs l by simp [wrs], List.length_append, lng]; omega
end Go.Proofs.YtoceghlfckfojaaDoor
