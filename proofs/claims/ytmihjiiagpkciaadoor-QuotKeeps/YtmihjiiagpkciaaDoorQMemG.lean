/-
  The first append to a list that has no room (IMemG's).
-/
import Derived.Test.YtmihjiiagpkciaaDoorQMemF
namespace Go.Proofs.YtmihjiiagpkciaaDoor
open Go Go.RowKit Go.Deep

theorem zero_u (n : Nat) : Builtin.zeroCells #[Value.int .u64 0] n = (List.replicate n (Value.int .u64 0)).toArray := by
  apply Array.ext'
  simp only [Builtin.zeroCells, Array.toList_map, Array.toList_range, List.size_toArray, List.length_cons, List.length_nil, Nat.zero_add, Nat.mul_one, Nat.mod_one]
  exact List.eq_replicate_iff.2 ⟨by simp, fun v hv => by
    obtain ⟨i, _, rfl⟩ := List.mem_map.1 hv
    rfl⟩
theorem fl_u1 (l : List Int) : Re.fl u1 l = l.map (Value.int .u64) := by
  induction l with
  | nil => rfl
  | cons x l ih => rw [Re.fl, List.flatMap_cons, ← Re.fl, ih]; rfl
/-- The first append to a list that has no room. -/
theorem first_app (p : Option Addr) (n : Nat) (zs : List Int) (x : Int) (w : World) (hz : zs.length = n) (hn : n ≤ 17592186044000) (hl : Lies w p zs) :
    ∃ cap w', (Builtin.append_ #[24, 24] 24 #[.slice p n n, .slice (some ⟨w.heap.size, 0, none⟩) 1 1]).run Tryd.prog (w.alloc (.cells #[.int .u64 x] 26)) = .ok (.slice (some ⟨w.heap.size + 1, 0, none⟩) (n + 1) cap) w' ∧ Re.Ow u1 26 1 w.heap.size w' (.slice (some ⟨w.heap.size + 1, 0, none⟩) (n + 1) cap) (zs ++ [x]) ∧ Below w.heap.size w w' := by
  obtain ⟨i, hi, hzz⟩ := Option.map_eq_some_iff.1 info_u64
  simp only [Prod.mk.injEq] at hzz
  obtain ⟨z1, z2, z3⟩ := hzz
  have bm : Below w.heap.size w (w.alloc (.cells #[.int .u64 x] 26)) := alloc_b2 _ _
  have hs : (w.alloc (.cells #[.int .u64 x] 26)).heap.size = w.heap.size + 1 := World.size_alloc _ _
  have hnew : ∀ j v, [Value.int .u64 x][j]? = some v → (w.alloc (.cells #[.int .u64 x] 26)).cell? ((⟨w.heap.size, 0, none⟩ : Addr).add j) = some v := by
    intro j u hu
    rw [Go.WideShapes.add_plain, Nat.zero_add]
    have h0 : (w.alloc (.cells #[.int .u64 x] 26)).heap[w.heap.size]? = some (.cells #[.int .u64 x] 26 (0, 0)) := heap_alloc_new w _
    simp only [World.cell?, h0]
    simpa using hu
  have fin : ∀ (cap : Nat) (W : World), n + 1 ≤ cap → cap ≤ maxLen → W.heap.size = w.heap.size + 1 → Re.Ow u1 26 1 w.heap.size (W.alloc (.cells ((zs.map (Value.int .u64)).toArray ++ [Value.int .u64 x].toArray ++ Builtin.zeroCells (Value.cells (Value.int .u64 0)) (cap - (n + 1))) 26)) (.slice (some ⟨w.heap.size + 1, 0, none⟩) (n + 1) cap) (zs ++ [x]) := by
    intro cap W h1 h2 hW
    have e : (zs.map (Value.int .u64)).toArray ++ [Value.int .u64 x].toArray ++ Builtin.zeroCells (Value.cells (Value.int .u64 0)) (cap - (n + 1)) = ((zs ++ [x]).map (Value.int .u64) ++ List.replicate (cap - (n + 1)) (Value.int .u64 0)).toArray := by
      rw [show Value.cells (Value.int .u64 0) = #[Value.int .u64 0] from rfl, zero_u]
      simp
    have l1 : ((zs ++ [x]).map (Value.int .u64)).length = n + 1 := by simp [hz]
    rw [e]
    have l2 : (zs ++ [x]).length = n + 1 := by simp [hz]
    refine ⟨by rw [fl_u1, l1, l2]; omega, .inr ⟨w.heap.size + 1, cap, ((zs ++ [x]).map (Value.int .u64) ++ List.replicate (cap - (n + 1)) (Value.int .u64 0)).toArray, by rw [l2], by omega, ?_, by rw [l2]; exact h1, h2, ?_, ?_⟩⟩
    · rw [← hW]; exact heap_alloc_new _ _
    · rw [List.size_toArray, List.length_append, l1, List.length_replicate]; omega
    · rw [fl_u1]
      show ((zs ++ [x]).map (Value.int .u64) ++ List.replicate (cap - (n + 1)) (Value.int .u64 0)).take ((zs ++ [x]).length * 1) = _
      rw [List.take_append_of_le_length (by simp), List.take_of_length_le (by simp)]
  rcases p with _ | a
  · have z0 : zs = [] := by
      rcases hl with c | ⟨b, off, hp, _⟩
      · exact c
      · cases hp
    subst z0
    obtain rfl : n = 0 := by simpa using hz.symm
    have hr := run_append_nil (P := Tryd.prog) (w.alloc (.cells #[.int .u64 x] 26)) 24 24 26 i (.int .u64 0) Tryd.underlying24 hi z1 ⟨w.heap.size, 0, none⟩ 1 1 [.int .u64 x] (by rw [z2]; rfl) hnew (by omega) (by omega) (by rw [z3]; omega)
    have hge := grownCap_ge (w.alloc (.cells #[.int .u64 x] 26)) 1 0 26
    have hle := grownCap_le_maxLen (w.alloc (.cells #[.int .u64 x] 26)) 1 0 26 (by simp only [maxLen]; omega)
    obtain ⟨cap, hcap⟩ : ∃ c, grownCap (w.alloc (.cells #[.int .u64 x] 26)) 1 0 26 = c := ⟨_, rfl⟩
    rw [hcap] at hr hge hle
    rw [hs] at hr
    refine ⟨cap, _, hr, ?_, bm.drew.alloc (by show w.heap.size ≤ (w.alloc (.cells #[.int .u64 x] 26)).heap.size; rw [hs]; omega) _⟩
    exact fin cap _ (by omega) hle hs
  · have hold : ∀ j v, (zs.map (Value.int .u64))[j]? = some v → (w.alloc (.cells #[.int .u64 x] 26)).cell? (a.add j) = some v := by
      intro j v hv
      rcases hl with c | ⟨b, off, hp, hc⟩
      · rw [c] at hv; simp at hv
      · cases hp
        have jl : j < zs.length := by have := (List.getElem?_eq_some_iff.1 hv).1; simpa using this
        have := hc j jl
        rw [Go.WideShapes.add_plain, bm.cell (p := ⟨b, off + j, none⟩) (cell_lt this), this]
        rw [List.getElem?_map, List.getElem?_eq_getElem jl] at hv
        rw [List.getD, List.getElem?_eq_getElem jl]
        exact hv
    have hr := run_append_grow (P := Tryd.prog) (w.alloc (.cells #[.int .u64 x] 26)) 24 24 26 i (.int .u64 0) Tryd.underlying24 hi z1 a n n (zs.map (Value.int .u64)) (by rw [z2, List.length_map]; omega) hold ⟨w.heap.size, 0, none⟩ 1 1 [.int .u64 x] (by rw [z2]; rfl) hnew (by omega) (by omega) (growslice_fits (by omega) (by rw [z3]; omega))
    have hge := grownCap_ge (w.alloc (.cells #[.int .u64 x] 26)) (n + 1) n 26
    have hle := grownCap_le_maxLen (w.alloc (.cells #[.int .u64 x] 26)) (n + 1) n 26 (by simp only [maxLen]; omega)
    obtain ⟨cap, hcap⟩ : ∃ c, grownCap (w.alloc (.cells #[.int .u64 x] 26)) (n + 1) n 26 = c := ⟨_, rfl⟩
    rw [hcap] at hr hge hle
    rw [hs] at hr
    refine ⟨cap, _, hr, ?_, bm.drew.alloc (by show w.heap.size ≤ (w.alloc (.cells #[.int .u64 x] 26)).heap.size; rw [hs]; omega) _⟩
    exact fin cap _ (by omega) hle hs
end Go.Proofs.YtmihjiiagpkciaaDoor
