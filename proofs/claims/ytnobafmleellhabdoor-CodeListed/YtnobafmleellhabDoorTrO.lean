/-
  A row of our own: an append, and where the row lies behind it.
-/
import Derived.Test.YtnobafmleellhabDoorTrM
namespace Go.Proofs.YtnobafmleellhabDoor
open Go Go.RowKit Go.Deep

namespace Re
section
variable {α : Type} {enc : α → List Value} {t k base : Nat}
theorem Ow.push2 (hk : ∀ x, (enc x).length = k) (h1 : ∀ x, ∀ v ∈ enc x, v.oneCell' = true) (k0 : 0 < k) {P : Program} (s : TypeId) (hu : P.underlying s = some (.slice t)) {z : Value} {bytes : Nat} (hinf : (P.info? t).map (fun i => (i.zero, i.size, i.bytes)) = some (some z, k, bytes)) (hby : bytes ≤ 64) (hzc : z.cells.size = k)
    {w : World} {mv : Value} {D : List α} (ho : Ow enc t k base w mv D) (x : α) (hn : D.length ≤ 1000000000000) (hb : base ≤ w.heap.size) :
    ∃ mv' w', (Builtin.append_ #[s, s] s #[mv, .slice (some ⟨w.heap.size, 0, none⟩) 1 1]).run P (w.alloc (.cells (enc x).toArray t)) = .ok mv' w' ∧ Ow enc t k base w' mv' (D ++ [x]) ∧ w.heap.size ≤ w'.heap.size ∧
      Below base w w' ∧ (∀ j, j < w.heap.size → some j ≠ mv.ownBlock → w'.heap[j]? = w.heap[j]?) ∧ (∀ g, mv'.ownBlock = some g → mv.ownBlock = some g ∨ w.heap.size ≤ g) := by
  obtain ⟨mv', w', e1, e2, e3, e4, e5⟩ := ho.push hk h1 k0 s hu hinf hby hzc x hn hb
  refine ⟨mv', w', e1, e2, e3, e4, e5, ?_⟩
  intro g hg
  obtain ⟨i, hi, hz⟩ := Option.map_eq_some_iff.1 hinf
  simp only [Prod.mk.injEq] at hz
  obtain ⟨z1, z2, z3⟩ := hz
  have hs : (w.alloc (.cells (enc x).toArray t)).heap.size = w.heap.size + 1 := World.size_alloc _ _
  have hcell : ∀ j u, (enc x)[j]? = some u → (w.alloc (.cells (enc x).toArray t)).cell? ((⟨w.heap.size, 0, none⟩ : Addr).add j) = some u := by
    intro j u hu
    rw [Go.WideShapes.add_plain, Nat.zero_add]
    have h0 : (w.alloc (.cells (enc x).toArray t)).heap[w.heap.size]? = some (.cells (enc x).toArray t (0, 0)) := heap_alloc_new w _
    simp only [World.cell?, h0]
    simpa using hu
  have hby2 : (D.length + 1) * bytes ≤ (D.length + 1) * 64 := Nat.mul_le_mul_left _ hby
  have ho' := World.ownsRow.alloc ho (.cells (enc x).toArray t)
  rcases ho'.2 with ⟨rfl, h0⟩ | ⟨g', cap, cur, rfl, hbg, hgg, hnc, hcm, hcs, htake⟩
  · obtain ⟨v2, w2, r2, o2, _, _⟩ := run_append_own (P := P) (w.alloc (.cells (enc x).toArray t)) w.heap.size s s t i _ k bytes hu hi z1 z2 z3 hzc (by omega) (.slice none 0 0) 0 [] (World.ownsRow_nil _ _ _ _)
      ⟨w.heap.size, 0, none⟩ 1 1 (enc x) (by rw [hk]; omega) hcell (h1 x) (by simp only [maxLen]; omega) (by omega) (by rw [hs]; omega)
    rw [e1] at r2
    obtain ⟨rfl, rfl⟩ : mv' = v2 ∧ w' = w2 := by injection r2 with a b; exact ⟨a, b⟩
    exact .inr (o2.lt g hg).1
  · by_cases hroom : D.length + 1 ≤ cap
    · have hr := run_append_room (P := P) (w.alloc (.cells (enc x).toArray t)) s s t i hu hi g' D.length cap cur hgg ⟨w.heap.size, 0, none⟩ 1 1 (enc x) (by rw [z2, hk]; omega) hcell (h1 x) hroom (by
        rw [z2, hcs, hk]
        have := Nat.mul_le_mul_right k hroom
        rw [Nat.add_mul, Nat.one_mul] at this
        exact this)
      rw [e1] at hr
      injection hr with a b
      rw [a] at hg
      exact .inl hg
    · have hr := run_append_grow (P := P) (w.alloc (.cells (enc x).toArray t)) s s t i _ hu hi z1 ⟨g', 0, none⟩ D.length cap (fl enc D) (by rw [z2]; exact fl_len hk D) (ho'.cells (g := g') rfl) ⟨w.heap.size, 0, none⟩ 1 1 (enc x) (by rw [z2, hk]; omega) hcell (by omega) (by omega) (growslice_fits (by omega) (by rw [z3]; omega))
      rw [e1] at hr
      injection hr with a b
      rw [a] at hg
      simp only [Value.ownBlock, Option.some.injEq] at hg
      right
      omega
end
end Re
end Go.Proofs.YtnobafmleellhabDoor
