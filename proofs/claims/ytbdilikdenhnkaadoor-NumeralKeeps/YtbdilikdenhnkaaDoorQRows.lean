/-
  A LIST OF LISTS THAT GROWS BY APPEND, its rows anywhere: the headers lie in a block of their own.
-/
import Derived.Test.YtbdilikdenhnkaaDoorMem
import Derived.Laws.AppendOwn
import Derived.Laws.OwnMore
namespace Go.Proofs.YtbdilikdenhnkaaDoor
open Go.RowKit Go.Deep

theorem info64r : (Tryd.prog.info? 22).map (fun i => (i.zero, i.size, i.bytes)) = some (some (.slice none 0 0), 1, 24) := by kernel_rfl

/-- The list of headers, behind another one is appended: in its block, or in a new one at the heap's end. -/
theorem pushRow (base n : Nat) (mv : Value) (xs : List Value) (v : Value) (w : World) (hn : n ≤ 1000) (hv : v.oneCell' = true) (hb : base ≤ w.heap.size) (ho : w.ownsRow base 22 1 mv n xs) :
    ∃ mv' w', (Builtin.append_ #[38, 38] 38 #[mv, .slice (some ⟨w.heap.size, 0, none⟩) 1 1]).run Tryd.prog (w.alloc (.cells #[v] 22)) = .ok mv' w' ∧ w'.ownsRow base 22 1 mv' (n + 1) (xs ++ [v]) ∧ Below base w w' ∧ w.heap.size ≤ w'.heap.size ∧
      (∀ j, j < w.heap.size → some j ≠ mv.ownBlock → w'.heap[j]? = w.heap[j]?) ∧ (∀ k, mv'.ownBlock = some k → mv.ownBlock = some k ∨ w.heap.size ≤ k) := by
  obtain ⟨i, hi, hz⟩ := Option.map_eq_some_iff.1 info64r
  simp only [Prod.mk.injEq] at hz
  obtain ⟨z1, z2, z3⟩ := hz
  have bm : Below w.heap.size w (w.alloc (.cells #[v] 22)) := (Below.refl _ _).alloc (Nat.le_refl _) _
  have hs : (w.alloc (.cells #[v] 22)).heap.size = w.heap.size + 1 := World.size_alloc _ _
  have ho' := ho.alloc (.cells #[v] 22)
  have hcell : (w.alloc (.cells #[v] 22)).cell? ⟨w.heap.size, 0, none⟩ = some v := by
    have : (w.alloc (.cells #[v] 22)).heap[w.heap.size]? = some (.cells #[v] 22 (0, 0)) := by
      show (w.heap.push _)[w.heap.size]? = _
      rw [Array.getElem?_push, if_pos rfl]
    simp only [World.cell?, this]
    rfl
  have hnews : ∀ j u, [v][j]? = some u → (w.alloc (.cells #[v] 22)).cell? ((⟨w.heap.size, 0, none⟩ : Addr).add j) = some u := fun j u hu => by
    cases j with
    | zero =>
      simp at hu
      subst hu
      rw [Go.WideShapes.add_plain]
      exact hcell
    | succ j => simp at hu
  have h1v : ∀ u ∈ [v], u.oneCell' = true := fun u hu => by simp at hu; subst hu; exact hv
  obtain ⟨v', w', hr, h1, h2, _⟩ := run_append_own (P := Tryd.prog) (w.alloc (.cells #[v] 22)) base 38 38 22 i (.slice none 0 0) 1 24 Tryd.underlying38 hi z1 z2 z3 rfl (by omega) mv n xs ho'
    ⟨w.heap.size, 0, none⟩ 1 1 [v] rfl hnews h1v (by simp only [maxLen]; omega) (by omega) (by rw [hs]; omega)
  refine ⟨v', w', hr, h1, ?_, by have := h2.size; omega, fun j hj hne => ?_, ?_⟩
  · have hb2 : Below base (w.alloc (.cells #[v] 22)) w' := by
      refine ⟨h2.os, h2.tape, h2.output, h2.size, fun j hj => h2.block j (by rw [hs]; omega) ?_⟩
      intro hk
      have := (ho'.lt j hk.symm).1
      omega
    exact (bm.mono hb).trans hb2
  · rw [h2.block j (by rw [hs]; omega) hne]
    exact bm.block j hj
  · intro k hk
    rcases ho'.2 with ⟨rfl, h0⟩ | ⟨g, cap, cur, rfl, _, hcur, hnc, hcm, hcs, htk⟩
    · right
      subst h0
      have hr2 := run_append_nil (P := Tryd.prog) (w.alloc (.cells #[v] 22)) 38 38 22 i (.slice none 0 0) Tryd.underlying38 hi z1 ⟨w.heap.size, 0, none⟩ 1 1 [v] (by rw [z2]; rfl) hnews (by omega) (by omega) (by rw [z3]; omega)
      rw [hr] at hr2
      simp only [Result.ok.injEq] at hr2
      obtain ⟨rfl, _⟩ := hr2
      simp only [Value.ownBlock, Option.some.injEq] at hk
      omega
    · by_cases hroom : n + 1 ≤ cap
      · left
        have hr2 := run_append_room (P := Tryd.prog) (w.alloc (.cells #[v] 22)) 38 38 22 i Tryd.underlying38 hi g n cap cur hcur ⟨w.heap.size, 0, none⟩ 1 1 [v] (by rw [z2]; rfl) hnews h1v hroom (by rw [z2, hcs]; simp; omega)
        rw [hr] at hr2
        simp only [Result.ok.injEq] at hr2
        obtain ⟨rfl, _⟩ := hr2
        simpa [Value.ownBlock] using hk
      · right
        have holds : ∀ j u, xs[j]? = some u → (w.alloc (.cells #[v] 22)).cell? ((⟨g, 0, none⟩ : Addr).add j) = some u := ho'.cells (g := g) rfl
        have hr2 := run_append_grow (P := Tryd.prog) (w.alloc (.cells #[v] 22)) 38 38 22 i (.slice none 0 0) Tryd.underlying38 hi z1 ⟨g, 0, none⟩ n cap xs (by rw [z2]; exact ho.1) holds ⟨w.heap.size, 0, none⟩ 1 1 [v] (by rw [z2]; rfl) hnews (by omega) (by omega) (growslice_fits (by omega) (by rw [z3]; omega))
        rw [hr] at hr2
        simp only [Result.ok.injEq] at hr2
        obtain ⟨rfl, _⟩ := hr2
        simp only [Value.ownBlock, Option.some.injEq] at hk
        omega

/-- A row: a trimmed list of the number V, in another block than the headers. -/
def RowIn (w : World) (mv : Value) (e : Option Addr × List Int) (V : Int) : Prop :=
  Lies w e.1 e.2 ∧ Nm.Limbs e.2 ∧ Nm.tsize e.2 = e.2.length ∧ Nm.val e.2 = V ∧ ∀ a, e.1 = some a → a.block < w.heap.size ∧ some a.block ≠ mv.ownBlock

def rowV (e : Option Addr × List Int) : Value := .slice e.1 e.2.length e.2.length

theorem RowIn.below {w w' : World} {mv : Value} {e : Option Addr × List Int} {V : Int} (h : RowIn w mv e V) (hb : Below w.heap.size w w') : RowIn w' mv e V :=
  ⟨h.1.below hb (Nat.le_refl _), h.2.1, h.2.2.1, h.2.2.2.1, fun a ha => ⟨Nat.lt_of_lt_of_le (h.2.2.2.2 a ha).1 hb.size, (h.2.2.2.2 a ha).2⟩⟩

theorem RowIn.pushed {w w' : World} {mv mv' : Value} {e : Option Addr × List Int} {V : Int} (h : RowIn w mv e V) (hz : w.heap.size ≤ w'.heap.size) (hb : ∀ j, j < w.heap.size → some j ≠ mv.ownBlock → w'.heap[j]? = w.heap[j]?) (hk : ∀ k, mv'.ownBlock = some k → mv.ownBlock = some k ∨ w.heap.size ≤ k) : RowIn w' mv' e V := by
  obtain ⟨h1, h2, h3, h4, h5⟩ := h
  refine ⟨?_, h2, h3, h4, fun a ha => ⟨Nat.lt_of_lt_of_le (h5 a ha).1 hz, fun hc => ?_⟩⟩
  · rcases h1 with h1 | ⟨b, off, hp, h1⟩
    · exact .inl h1
    · refine .inr ⟨b, off, hp, fun i hi => ?_⟩
      have h6 := h5 _ hp
      have := hb b h6.1 h6.2
      rw [← h1 i hi]
      simp only [World.cell?, this]
  · have h6 := h5 a ha
    rcases hk a.block hc.symm with c | c
    · exact h6.2 c.symm
    · omega

theorem RowIn.arg {w : World} {mv : Value} {e : Option Addr × List Int} {V : Int} (h : RowIn w mv e V) (hl : e.2.length ≤ 17592186044000) : Arg w e.1 e.2.length e.2.length e.2 := ⟨rfl, Nat.le_refl _, hl, h.1, h.2.1⟩

/-- An answer that is newer than the headers is such a row. -/
theorem Ans.row {B base n : Nat} {w w' : World} {r : Option Addr} {os : List Int} {V : Int} {mv : Value} {xs : List Value} (h : Ans B w' r os V) (hB : B = w.heap.size) (ho : w.ownsRow base 22 1 mv n xs) (h0 : 0 < V) : RowIn w' mv (r, os) V := by
  refine ⟨h.1, h.2.1, h.2.2.1, h.2.2.2.1, fun a ha => ⟨?_, fun hc => ?_⟩⟩
  · have hne : 0 < os.length := by
      rcases Nat.eq_zero_or_pos os.length with c | c
      · have := h.2.2.2.1
        rw [List.eq_nil_of_length_eq_zero c] at this
        simp [Nm.val] at this
        omega
      · exact c
    exact h.1.lt hne a ha
  · have h1 := h.2.2.2.2 a ha
    have h2 := ho.lt a.block hc.symm
    omega
end Go.Proofs.YtbdilikdenhnkaaDoor
