/-
  layer 2's reference: a list that outgrows its room; the divisor moved up, 64 times.
-/
import Derived.Test.YthfechigdiefpaaQRef2
import Derived.Laws.AppendOwn
import Derived.Laws.OwnMore
namespace Go.Proofs.Ythfechigdiefpaa
open Go.RowKit Go.Deep

theorem zero64 (n : Nat) : Builtin.zeroCells #[Value.int .u64 0] n = ((List.replicate n (0 : Int)).map (Value.int .u64)).toArray := by
  apply Array.ext'
  simp only [Builtin.zeroCells, Array.toList_map, List.map_replicate, Array.toList_range, List.size_toArray, List.length_cons, List.length_nil, Nat.zero_add, Nat.mul_one, Nat.mod_one]
  exact List.eq_replicate_iff.2 ⟨by simp, fun v hv => by
    obtain ⟨i, _, rfl⟩ := List.mem_map.1 hv
    rfl⟩

/-- append(l, x): l fills its block, so that a new one is made, of unknown room. -/
theorem grow64 (g Y : Nat) (xs : List Int) (x : Int) (w : World) (hx : xs.length = Y) (hY : Y ≤ 1099511627776) (ho : Own w g xs) :
    ∃ cap w', (Builtin.append_ #[24, 24] 24 #[.slice (some ⟨g, 0, none⟩) Y Y, .slice (some ⟨w.heap.size, 0, none⟩) 1 1]).run Try.prog (w.alloc (.cells #[.int .u64 x] 26)) = .ok (.slice (some ⟨w.heap.size + 1, 0, none⟩) (Y + 1) cap) w' ∧
      Y + 1 ≤ cap ∧ Own w' (w.heap.size + 1) (xs ++ [x] ++ List.replicate (cap - (Y + 1)) 0) ∧ Below w.heap.size w w' := by
  obtain ⟨i, hi, hz⟩ := Option.map_eq_some_iff.1 info64
  simp only [Prod.mk.injEq] at hz
  obtain ⟨z1, z2, z3⟩ := hz
  have hg := ho.lt
  have bm : Below w.heap.size w (w.alloc (.cells #[.int .u64 x] 26)) := (Below.refl _ _).alloc (Nat.le_refl _) _
  have ho' := ho.below bm hg
  have hl : Own (w.alloc (.cells #[.int .u64 x] 26)) w.heap.size [x] := Own.alloc w [x]
  have hr := run_append_grow (P := Try.prog) (w.alloc (.cells #[.int .u64 x] 26)) 24 24 26 i (.int .u64 0) Try.underlying24 hi z1 ⟨g, 0, none⟩ Y Y (xs.map (Value.int .u64)) (by rw [z2, List.length_map, hx]; omega)
    (fun j v hv => by
      simp only [List.getElem?_map, Option.map_eq_some_iff] at hv
      obtain ⟨z, hz, rfl⟩ := hv
      have hj : j < xs.length := (List.getElem?_eq_some_iff.1 hz).1
      rw [Go.WideShapes.add_plain, Nat.zero_add, ho'.cell j hj]
      simp [List.getD, hz])
    ⟨w.heap.size, 0, none⟩ 1 1 [Value.int .u64 x] (by rw [z2]; rfl)
    (fun j v hv => by
      cases j with
      | zero =>
        simp at hv
        subst hv
        rw [Go.WideShapes.add_plain, hl.cell 0 (by simp)]
        rfl
      | succ j => simp at hv)
    (by omega) (by omega) (growslice_fits (by omega) (by rw [z3]; omega))
  have hge := grownCap_ge (w.alloc (.cells #[.int .u64 x] 26)) (Y + 1) Y 26
  have hs : (w.alloc (.cells #[.int .u64 x] 26)).heap.size = w.heap.size + 1 := World.size_alloc _ _
  obtain ⟨cap, hcap⟩ : ∃ c, grownCap (w.alloc (.cells #[.int .u64 x] 26)) (Y + 1) Y 26 = c := ⟨_, rfl⟩
  rw [hcap] at hr hge
  have e : ((xs.map (Value.int .u64)).toArray ++ [Value.int .u64 x].toArray ++ Builtin.zeroCells (Value.cells (.int .u64 0)) (cap - (Y + 1))) = ((xs ++ [x] ++ List.replicate (cap - (Y + 1)) 0).map (Value.int .u64)).toArray := by
    rw [show Value.cells (.int .u64 0) = #[Value.int .u64 0] from rfl, zero64]
    simp
  rw [e, hs] at hr
  refine ⟨cap, _, hr, hge, ?_, ?_⟩
  · have := Own.alloc (w.alloc (.cells #[.int .u64 x] 26)).drew (xs ++ [x] ++ List.replicate (cap - (Y + 1)) 0)
    rw [show (w.alloc (.cells #[.int .u64 x] 26)).drew.heap.size = w.heap.size + 1 from hs] at this
    exact this
  · exact bm.drew.alloc (by show w.heap.size ≤ (w.alloc (.cells #[.int .u64 x] 26)).heap.size; rw [hs]; omega) _

/-- A block of limbs of the number V, Y + 1 of them at least. -/
def Mv (Y : Nat) (V : Int) (w : World) (g : Nat) : Prop := ∃ os, Own w g os ∧ Y + 1 ≤ os.length ∧ Nm.Limbs os ∧ Nm.val os = V

theorem Mv.lies {Y : Nat} {V : Int} {w : World} {g : Nat} (h : Mv Y V w g) (hV : V < Nm.pw (Y + 1)) : ∃ ms, Lies w (some ⟨g, 0, none⟩) ms ∧ ms.length = Y + 1 ∧ Nm.Limbs ms ∧ Nm.val ms = V := by
  obtain ⟨os, h1, h2, h3, h4⟩ := h
  refine ⟨os.take (Y + 1), h1.lies.take _, by simp; omega, h3.take _, ?_⟩
  rw [Nm.val_take_of_zero os (Y + 1) (fun j hj => Nm.zero_of_lt h3 (by rw [h4]; exact hV) j hj), h4]

theorem Mv.below {Y : Nat} {V : Int} {w w' : World} {g : Nat} (h : Mv Y V w g) (hb : Below w.heap.size w w') : Mv Y V w' g := by
  obtain ⟨os, h1, h2⟩ := h
  exact ⟨os, h1.below hb h1.lt, h2⟩

theorem Mv.lt {Y : Nat} {V : Int} {w : World} {g : Nat} (h : Mv Y V w g) : g < w.heap.size := by
  obtain ⟨os, h1, h2⟩ := h
  exact h1.lt

/-- A header of Y + 1 limbs. -/
def hdr (Y : Nat) (e : Nat × Nat) : Value := .slice (some ⟨e.1, 0, none⟩) (Y + 1) e.2

theorem info64s : (Try.prog.info? 24).map (fun i => (i.zero, i.size, i.bytes)) = some (some (.slice none 0 0), 1, 24) := by kernel_rfl

/-- The list of headers, behind another one is appended. -/
theorem pushHdr (base Y n : Nat) (mv : Value) (l : List (Nat × Nat)) (e : Nat × Nat) (w : World) (hn : l.length = n) (hY : n ≤ 1000) (hb : base ≤ w.heap.size) (ho : w.ownsRow base 24 1 mv n (l.map (hdr Y))) :
    ∃ mv' w', (Builtin.append_ #[60, 60] 60 #[mv, .slice (some ⟨w.heap.size, 0, none⟩) 1 1]).run Try.prog (w.alloc (.cells #[hdr Y e] 24)) = .ok mv' w' ∧ w'.ownsRow base 24 1 mv' (n + 1) ((l ++ [e]).map (hdr Y)) ∧ Below base w w' ∧ (∀ V g, Mv Y V w g → Mv Y V w' g) ∧ w.heap.size ≤ w'.heap.size := by
  obtain ⟨i, hi, hz⟩ := Option.map_eq_some_iff.1 info64s
  simp only [Prod.mk.injEq] at hz
  obtain ⟨z1, z2, z3⟩ := hz
  have bm : Below w.heap.size w (w.alloc (.cells #[hdr Y e] 24)) := (Below.refl _ _).alloc (Nat.le_refl _) _
  have hs : (w.alloc (.cells #[hdr Y e] 24)).heap.size = w.heap.size + 1 := World.size_alloc _ _
  have ho' := ho.alloc (.cells #[hdr Y e] 24)
  have hcell : (w.alloc (.cells #[hdr Y e] 24)).cell? ⟨w.heap.size, 0, none⟩ = some (hdr Y e) := by
    have : (w.alloc (.cells #[hdr Y e] 24)).heap[w.heap.size]? = some (.cells #[hdr Y e] 24 (0, 0)) := by
      show (w.heap.push _)[w.heap.size]? = _
      rw [Array.getElem?_push, if_pos rfl]
    simp only [World.cell?, this]
    rfl
  obtain ⟨v', w', hr, h1, h2, _⟩ := run_append_own (P := Try.prog) (w.alloc (.cells #[hdr Y e] 24)) base 60 60 24 i (.slice none 0 0) 1 24 Try.underlying60 hi z1 z2 z3 rfl (by omega) mv n (l.map (hdr Y)) ho'
    ⟨w.heap.size, 0, none⟩ 1 1 [hdr Y e] rfl
    (fun j v hv => by
      cases j with
      | zero =>
        simp at hv
        subst hv
        rw [Go.WideShapes.add_plain]
        exact hcell
      | succ j => simp at hv)
    (fun u hu => by simp at hu; subst hu; rfl) (by simp only [maxLen]; omega) (by omega) (by rw [hs]; omega)
  refine ⟨v', w', hr, by simpa using h1, ?_, ?_, by have := h2.size; omega⟩
  · have hb2 : Below base (w.alloc (.cells #[hdr Y e] 24)) w' := by
      refine ⟨h2.os, h2.tape, h2.output, h2.size, fun j hj => h2.block j (by rw [hs]; omega) ?_⟩
      intro hk
      have := (ho'.lt j hk.symm).1
      omega
    exact (bm.mono hb).trans hb2
  · intro V g hm
    obtain ⟨os, m1, m2, m3, m4⟩ := hm
    have m1' := m1.below bm m1.lt
    have hne : some g ≠ mv.ownBlock := by
      intro hk
      rcases ho'.2 with ⟨rfl, _⟩ | ⟨g', cp, cur, rfl, _, hcur, _⟩
      · simp [Value.ownBlock] at hk
      · simp only [Value.ownBlock, Option.some.injEq] at hk
        subst hk
        simp only [Own] at m1'
        rw [m1'] at hcur
        simp only [Option.some.injEq, Obj.cells.injEq] at hcur
        exact absurd hcur.2.1 (by decide)
    refine ⟨os, ?_, m2, m3, m4⟩
    simp only [Own] at m1' ⊢
    rw [h2.block g (by rw [hs]; have := m1.lt; omega) hne]
    exact m1'
end Go.Proofs.Ythfechigdiefpaa
