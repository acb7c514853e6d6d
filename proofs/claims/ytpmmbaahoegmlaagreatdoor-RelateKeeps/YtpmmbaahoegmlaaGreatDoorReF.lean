/-
  relate's queue: which entry is ahead; swap.
-/
import Derived.Test.YtpmmbaahoegmlaaGreatDoorReE
import Derived.Deep.MidRow
import Derived.Shelf.SlSortCmp.InsertionK
namespace Go.Proofs.YtpmmbaahoegmlaaGreatDoor
open Go Go.RowKit Go.Deep Go.Shelf

set_option maxRecDepth 100000 in
set_option maxHeartbeats 1000000 in
theorem ahead_any (a b : Re.En) (w : World) :
    Calls Tryz.prog 40 #[.agg (Re.ee a).toArray, .agg (Re.ee b).toArray] w fun e w' => e = .returned (.bool (decide (Re.ct a.x b.x < 0))) ∧ Below w.heap.size w w' := by
  have AG := hid (fun W => against_any a.x b.x W)
  obtain ⟨t, p, u, ea, ra⟩ := Re.ee_ex a
  obtain ⟨t', p', u', eb, rb⟩ := Re.ee_ex b
  have ta : Re.et a.x = [.bool t, .int .i64 p, .string u, .int .i64 a.x.i] := by rw [Re.et, ra]; rfl
  have tb : Re.et b.x = [.bool t', .int .i64 p', .string u', .int .i64 b.x.i] := by rw [Re.et, rb]; rfl
  rw [ta, tb] at AG
  rw [ea, eb]
  have c3 := Re.ct_b a.x b.x
  generalize Re.ct a.x b.x = C at *
  generalize a.x.i = i at *
  generalize b.x.i = j at *
  have B1 := hid (below_on (alloc_b w (.cells #[.bool t, .int .i64 p, .string u, .int .i64 i, .int .i64 a.k, .int .u64 a.n, .string a.s] 87)) (alloc_b _ (.cells #[.bool t', .int .i64 p', .string u', .int .i64 j, .int .i64 b.k, .int .u64 b.n, .string b.s] 87)))
  clear ea eb ra rb ta tb
  go_enter Tryz.func40, Tryz.ntmps40
  go_wp2_with fail
  refine (AG.out _).mono ?_
  rintro e w1 ⟨rfl, os, rfl⟩
  have F : Hid (Below w.heap.size w (Go.Sort.grow ((w.alloc (.cells #[.bool t, .int .i64 p, .string u, .int .i64 i, .int .i64 a.k, .int .u64 a.n, .string a.s] 87)).alloc (.cells #[.bool t', .int .i64 p', .string u', .int .i64 j, .int .i64 b.k, .int .u64 b.n, .string b.s] 87)) os)) := below_on B1.out (by
    refine ⟨rfl, rfl, rfl, by simp [Go.Sort.grow], fun k hk => ?_⟩
    simp only [Go.Sort.grow]
    rw [Array.getElem?_append_left hk])
  clear AG B1
  rcases c3 with rfl | rfl | rfl
  all_goals
    go_wp2_with fail
    go_ret
    exact ⟨rfl, F.out⟩

namespace Re
/-- Two places change about. -/
def sw (E : List En) (i j : Nat) : List En := (E.set i (E.getD j default)).set j (E.getD i default)
end Re

/-- A place of a row, read and written, as the walk asks it. -/
theorem Re.RowE.there {base : Nat} {w : World} {g cap : Nat} {A : List Re.En} (h : Re.RowE base w (.slice (some ⟨g, 0, none⟩) A.length cap) A) {o : Nat} (ho : o < A.length) : w.there g (o * 7) 7 := fun c hc => by
  obtain ⟨z, hz⟩ : ∃ z, A[o]? = some z := ⟨_, List.getElem?_eq_getElem ho⟩
  have hv : (Re.ee z)[c]? = some ((Re.ee z)[c]'(by rw [Re.ee_len]; exact hc)) := List.getElem?_eq_getElem _
  exact ⟨by rw [h.cell hz c hc _ hv]; rfl, h.free _⟩
theorem Re.RowE.range {base : Nat} {w : World} {g cap : Nat} {A : List Re.En} (h : Re.RowE base w (.slice (some ⟨g, 0, none⟩) A.length cap) A) {i : Nat} {a : Re.En} (hi : A[i]? = some a) : w.rangeAt g (i * 7) (Re.ee a) := fun j v hv => by
  have hj : j < 7 := by rw [← Re.ee_len a]; exact (List.getElem?_eq_some_iff.1 hv).1
  exact h.cell hi j hj v hv
theorem Re.RowE.load {base : Nat} {w : World} {g cap : Nat} {A : List Re.En} (h : Re.RowE base w (.slice (some ⟨g, 0, none⟩) A.length cap) A) {i : Nat} {a : Re.En} (hi : A[i]? = some a) : Sem.run Tryz.prog (loadCellsFrom ⟨g, i * 7, none⟩ 0 7 #[]) w = .ok (Re.ee a).toArray w :=
  run_loadCellsFrom_list Tryz.prog _ _ _ 7 (Re.ee_len a) (fun j v hv => by
    have hj : j < 7 := by rw [← Re.ee_len a]; exact (List.getElem?_eq_some_iff.1 hv).1
    rw [Go.WideShapes.add_plain]; exact h.cell hi j hj v hv)
theorem Re.ee_one (a : Re.En) : ∀ v ∈ Re.ee a, v.oneCell' = true := fun v hv => by
  obtain ⟨t, p, u, h, _⟩ := Re.ee_ex a
  rw [h] at hv
  simp only [List.mem_cons, List.not_mem_nil, or_false] at hv
  rcases hv with rfl | rfl | rfl | rfl | rfl | rfl | rfl <;> rfl
theorem Re.stores {w : World} {g o : Nat} (a : Re.En) (h : w.there g o 7) : Sem.run Tryz.prog (storeCells ⟨g, o, none⟩ (Re.ee a) 0) w = .ok () (w.setCells g o (Re.ee a)) := by
  have := run_storeCells_cells (P := Tryz.prog) g o (Re.ee a) 0 w (fun j hj => by rw [Nat.add_zero]; exact (h j (by rw [← Re.ee_len a]; exact hj)).1) (fun j hj => by rw [Nat.add_zero]; exact (h j (by rw [← Re.ee_len a]; exact hj)).2) (Re.ee_one a)
  simpa using this
theorem Re.there_set {w : World} {g o o' : Nat} {vs : List Value} (h : w.there g o 7) : (w.setCells g o' vs).there g o 7 := fun c hc => ⟨World.isSome_setCells g _ _ _ _ (h c hc).1, by rw [World.frozen?_setCells]; exact (h c hc).2⟩
theorem Re.RowE.setc {base : Nat} {w : World} {g cap : Nat} {A : List Re.En} (h : Re.RowE base w (.slice (some ⟨g, 0, none⟩) A.length cap) A) (i : Nat) (x : Re.En) (hi : i < A.length) : Re.RowE base (w.setCells g (i * 7) (Re.ee x)) (.slice (some ⟨g, 0, none⟩) A.length cap) (A.set i x) := by
  obtain ⟨t, p, u, e, _⟩ := Re.ee_ex x
  rw [e]
  exact h.put i x _ _ _ _ _ _ _ hi e
theorem Re.Kp.setc {S : Nat → Prop} {w w' : World} (h : Re.Kp S w w') {g : Nat} (hg : S g) (o : Nat) (x : Re.En) : Re.Kp S w (w'.setCells g o (Re.ee x)) := by
  obtain ⟨t, p, u, e, _⟩ := Re.ee_ex x
  rw [e]
  exact h.put (g := g) hg o _ _ _ _ _ _ _
end Go.Proofs.YtpmmbaahoegmlaaGreatDoor
