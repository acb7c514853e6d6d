/-
  record: the places of fields; fields' iterator.
-/
import Derived.Test.YtiggmgagcogakaaDoorRcE
namespace Go.Proofs.YtiggmgagcogakaaDoor
open Go Go.RowKit Go.Deep Go.Shelf

attribute [local go_sem] Oper.semAt_some

/-- The places of the parts of a text. -/
def Rc.Pl (s fs : ByteArray) (ps : List (Nat × Nat)) : Prop :=
  if fs = ⟨#[32]⟩ then Rc.WP s.data.toList 0 ps else if fs.size = 0 then ps = (List.range s.size).map (fun k => (k, k + 1)) else (s.size = 0 → ps = []) ∧ (s.size ≠ 0 → Rc.PP s.data.toList fs.data.toList 0 ps)
theorem Rc.pl_ex (s fs : ByteArray) : ∃ ps, Rc.Pl s fs ps := by
  unfold Rc.Pl
  by_cases h1 : fs = ⟨#[32]⟩
  · obtain ⟨ps, h⟩ := Rc.wp_ex s.data.toList _ 0 (Nat.le_refl _)
    exact ⟨ps, by rw [if_pos h1]; exact h⟩
  · by_cases h2 : fs.size = 0
    · exact ⟨_, by rw [if_neg h1, if_pos h2]⟩
    · by_cases h3 : s.size = 0
      · exact ⟨[], by rw [if_neg h1, if_neg h2]; exact ⟨fun _ => rfl, fun h => absurd h3 h⟩⟩
      · obtain ⟨ps, h⟩ := Rc.pp_ex s.data.toList fs.data.toList (Ch.sep_ne (by omega)) _ 0 (Nat.le_refl _) (Nat.zero_le _)
        exact ⟨ps, by rw [if_neg h1, if_neg h2]; exact ⟨fun h => absurd h h3, fun _ => h⟩⟩
theorem Rc.WP.mem {l : Ch.L8} {p : Nat} {ps : List (Nat × Nat)} (h : Rc.WP l p ps) : ∀ x ∈ ps, x.1 ≤ x.2 ∧ x.2 ≤ l.length := by
  induction h with
  | done p hp => intro x hx; cases hx
  | skip p r _ _ _ ih => exact ih
  | word p q r h1 h2 _ _ _ ih =>
    intro x hx
    rcases List.mem_cons.1 hx with rfl | hx
    · exact ⟨Nat.le_of_lt h1, h2⟩
    · exact ih x hx
theorem Rc.PP.mem {l sep : Ch.L8} {p : Nat} {ps : List (Nat × Nat)} (h : Rc.PP l sep p ps) : ∀ x ∈ ps, x.1 ≤ x.2 ∧ x.2 ≤ l.length := by
  induction h with
  | last p hp _ => intro x hx; simp at hx; subst hx; exact ⟨hp, Nat.le_refl _⟩
  | more p i r h1 _ _ ih =>
    intro x hx
    rcases List.mem_cons.1 hx with rfl | hx
    · exact ⟨by simp, by simp; omega⟩
    · exact ih x hx
theorem Rc.Pl.mem {s fs : ByteArray} {ps : List (Nat × Nat)} (h : Rc.Pl s fs ps) : ∀ x ∈ ps, x.1 ≤ x.2 ∧ x.2 ≤ s.size := by
  unfold Rc.Pl at h
  by_cases h1 : fs = ⟨#[32]⟩
  · rw [if_pos h1] at h
    have := h.mem
    rwa [Ch.size_len] at this
  · rw [if_neg h1] at h
    by_cases h2 : fs.size = 0
    · rw [if_pos h2] at h
      subst h
      intro x hx
      simp at hx
      obtain ⟨k, hk, rfl⟩ := hx
      exact ⟨by simp, by simp; omega⟩
    · rw [if_neg h2] at h
      by_cases h3 : s.size = 0
      · rw [h.1 h3]; intro x hx; cases hx
      · have := (h.2 h3).mem
        rwa [Ch.size_len] at this
theorem Rc.Pl.room {s fs : ByteArray} {ps : List (Nat × Nat)} (h : Rc.Pl s fs ps) {k : Nat} (hk : k < ps.length) : Rc.fr ps k ≤ Rc.up ps k ∧ Rc.up ps k ≤ s.size := by
  have e : ps.getD k (0, 0) = ps[k] := by simp [List.getD, List.getElem?_eq_getElem hk]
  unfold Rc.fr Rc.up
  rw [e]
  exact h.mem _ (List.getElem_mem hk)
theorem Fd.congr {g : Nat} {lb : Array Value} {fr up fr' up' : Nat → Nat} {N : Nat} {Z : Nat → Prop} {w : World} (h : Fd g lb fr up N Z w) (e : ∀ k, k < N → fr k = fr' k ∧ up k = up' k) : Fd g lb fr' up' N Z w :=
  fun l J Jx W hW hJ hY h0 => h l J Jx W hW hJ (fun k W1 hk hj => by rw [(e k hk).1, (e k hk).2]; exact hY k W1 hk hj) h0

/-- What parts hands on feeds the places. -/
theorem parts_feeds (s fs : ByteArray) (ps : List (Nat × Nat)) (Z : Nat → Prop) (w : World) (hp : Rc.Pl s fs ps) (hm : ML w) (hs : s.size ≤ 140737488355400) (hs2 : fs ≠ ⟨#[32]⟩ → s.size < 4294967281) (hf : fs.size ≤ 140737488355328) (z1 : Z w.heap.size) (z2 : w.heap.size + 2 ≤ (Rc.ptW s fs w).heap.size → Z (w.heap.size + 1)) (z3 : Z 0) :
    Fd (Rc.ptF fs) (Rc.ptB fs w.heap.size) (Rc.fr ps) (Rc.up ps) ps.length Z (Rc.ptW s fs w) := by
  have c1 : (w.alloc (.cells #[.string s] 9)).cell? ⟨w.heap.size, 0, none⟩ = some (.string s) := by
    rw [cell_of_row _ _ _ _ _ _ (heap_alloc_new w _)]; rfl
  unfold Rc.Pl at hp
  unfold Rc.ptF Rc.ptB Rc.ptW
  by_cases h1 : fs = ⟨#[32]⟩
  · rw [if_pos h1] at hp ⊢
    rw [if_pos h1, if_pos h1]
    exact words1_feeds s w.heap.size ps Z _ z1 c1 (by omega) hp
  · rw [if_neg h1] at hp ⊢
    rw [if_neg h1, if_neg h1]
    by_cases h2 : fs.size = 0
    · rw [if_pos h2] at hp ⊢
      rw [if_pos h2, if_pos h2]
      subst hp
      have e : ((List.range s.size).map (fun k => (k, k + 1))).length = s.size := by simp
      rw [e]
      refine (single1_feeds s w.heap.size Z _ z1 c1 (by omega)).congr fun k hk => ?_
      unfold Rc.fr Rc.up
      simp [List.getD, hk]
    · rw [if_neg h2] at hp ⊢
      rw [if_neg h2, if_neg h2]
      have A := alloc_b w (.cells #[.string s] 9)
      have A2 := alloc_b (w.alloc (.cells #[.string s] 9)) (.cells #[.string fs] 9)
      have l1 : (w.alloc (.cells #[.string s] 9)).heap.size = w.heap.size + 1 := World.size_alloc ..
      have c2 : ((w.alloc (.cells #[.string s] 9)).alloc (.cells #[.string fs] 9)).cell? ⟨w.heap.size + 1, 0, none⟩ = some (.string fs) := by
        have := heap_alloc_new (w.alloc (.cells #[.string s] 9)) (.cells #[.string fs] 9)
        rw [l1] at this
        rw [cell_of_row _ _ _ _ _ _ this]; rfl
      have c1' : ((w.alloc (.cells #[.string s] 9)).alloc (.cells #[.string fs] 9)).cell? ⟨w.heap.size, 0, none⟩ = some (.string s) := by
        rw [A2.cell (p := ⟨w.heap.size, 0, none⟩) (by show w.heap.size < _; rw [l1]; omega)]; exact c1
      exact pieces1_feeds s fs w.heap.size (w.heap.size + 1) ps Z _ z1 (z2 (by unfold Rc.ptW; rw [if_neg h1, if_neg h2, World.size_alloc, l1]; omega)) z3 c1' c2 (hm.b (below_on A A2)) (hs2 h1) (by omega) hf hp.1 hp.2
end Go.Proofs.YtiggmgagcogakaaDoor
