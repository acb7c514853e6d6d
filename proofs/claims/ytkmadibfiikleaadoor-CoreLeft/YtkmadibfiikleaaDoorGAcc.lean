/-
  AN Acc: what it holds, and where it lies.
-/
import Derived.Test.YtkmadibfiikleaaDoorGOnly
namespace Go.Proofs.YtkmadibfiikleaaDoor
open Go.RowKit Go.Deep

namespace Ga
/-- Above every product of two finite doubles, in units of 2^-2148. -/
def top : Int := 2 ^ 4196
theorem top_eq : top = 2 ^ 4196 := rfl
theorem top_pos : 0 < top := Nm.two_pos 4196

/-- NaNs, infinities of both signs, the count, the zeros with the sign minus; what lies above 0 and what below, in units of 2^-2148. -/
structure St where
  n : Int
  u : Int
  d : Int
  c : Int
  z : Int
  P : Int
  N : Int

structure St.Ok (s : St) : Prop where
  n0 : 0 ≤ s.n
  u0 : 0 ≤ s.u
  d0 : 0 ≤ s.d
  z0 : 0 ≤ s.z
  odd : s.n + s.u + s.d + s.z ≤ s.c
  few : s.c ≤ 1099511627776
  P0 : 0 ≤ s.P
  N0 : 0 ≤ s.N
  low : s.P + s.N ≤ s.c * top

def none : St := ⟨0, 0, 0, 0, 0, 0, 0⟩
theorem none_ok : none.Ok := ⟨Int.le_refl 0, Int.le_refl 0, Int.le_refl 0, Int.le_refl 0, by decide, by decide, Int.le_refl 0, Int.le_refl 0, by simp [none]⟩

/-- However many addends there are, no pile is full. -/
theorem St.Ok.room {s : St} (h : s.Ok) : s.P < Nm.pw 67 ∧ s.N < Nm.pw 67 := by
  have h1 := h.low
  have h2 := h.P0
  have h3 := h.N0
  have h4 : s.c * top ≤ 1099511627776 * top := Int.mul_le_mul_of_nonneg_right h.few (Int.le_of_lt top_pos)
  have h5 : (1099511627776 : Int) * top = 2 ^ 4236 := by rw [top_eq, show (1099511627776 : Int) = 2 ^ 40 by decide, ← Nm.two_add]
  have h6 : (2 : Int) ^ 4236 < Nm.pw 67 := by
    rw [Nm.pw_two, show 64 * 67 = 4236 + 52 by decide, Nm.two_add]
    have := Nm.two_pos 4236
    have : (2 : Int) ^ 4236 * 2 ≤ 2 ^ 4236 * 2 ^ 52 := Int.mul_le_mul_of_nonneg_left (by decide) (by omega)
    omega
  omega
end Ga

/-- The five numbers of an Acc. -/
def head5 (s : Ga.St) : List Value := [.int .i64 s.n, .int .i64 s.u, .int .i64 s.d, .int .i64 s.c, .int .i64 s.z]

/-- An Acc that holds s is block g. -/
def AccAt (w : World) (g : Nat) (s : Ga.St) : Prop :=
  ∃ aa bb : List Int, Blk w g 79 (head5 s ++ lb aa ++ lb bb) ∧ (aa.length = 67 ∧ bb.length = 67) ∧ (Nm.Limbs aa ∧ Nm.Limbs bb) ∧ (Nm.val aa = s.P ∧ Nm.val bb = s.N) ∧ s.Ok

theorem AccAt.ok {w : World} {g : Nat} {s : Ga.St} (h : AccAt w g s) : s.Ok := by
  obtain ⟨aa, bb, -, -, -, -, h⟩ := h
  exact h

theorem AccAt.lt {w : World} {g : Nat} {s : Ga.St} (h : AccAt w g s) : g < w.heap.size := by
  obtain ⟨aa, bb, hb, -⟩ := h
  exact hb.lt

theorem AccAt.below {w w' : World} {g B : Nat} {s : Ga.St} (h : AccAt w g s) (hb : Below B w w') (hg : g < B) : AccAt w' g s := by
  obtain ⟨aa, bb, h1, h2⟩ := h
  exact ⟨aa, bb, h1.below hb hg, h2⟩

theorem AccAt.only {w w' : World} {g g' : Nat} {s : Ga.St} (h : AccAt w g s) (hb : Only g' w w') (hg : g ≠ g') : AccAt w' g s := by
  obtain ⟨aa, bb, h1, h2⟩ := h
  exact ⟨aa, bb, h1.only hb hg, h2⟩

theorem AccAt.on {w w' : World} {g : Nat} {s : Ga.St} (h : AccAt w g s) (hb : Below w.heap.size w w') : AccAt w' g s := h.below hb h.lt

theorem Blk.heap {w w' : World} {g t : Nat} {cs : List Value} (h : Blk w g t cs) (e : w'.heap = w.heap) : Blk w' g t cs := by
  simp only [Blk] at h ⊢
  rw [e, h]

theorem AccAt.heap {w w' : World} {g : Nat} {s : Ga.St} (h : AccAt w g s) (e : w'.heap = w.heap) : AccAt w' g s := by
  obtain ⟨aa, bb, h1, h2⟩ := h
  exact ⟨aa, bb, h1.heap e, h2⟩

/-- Its five numbers, aa cells. -/
theorem AccAt.cells {w : World} {g : Nat} {s : Ga.St} (h : AccAt w g s) :
    (w.cell? ⟨g, 0, none⟩ = some (.int .i64 s.n) ∧ w.cell? ⟨g, 1, none⟩ = some (.int .i64 s.u) ∧ w.cell? ⟨g, 2, none⟩ = some (.int .i64 s.d) ∧ w.cell? ⟨g, 3, none⟩ = some (.int .i64 s.c) ∧ w.cell? ⟨g, 4, none⟩ = some (.int .i64 s.z)) ∧
    ∀ i, w.frozen? ⟨g, i, none⟩ = false := by
  obtain ⟨aa, bb, h, -⟩ := h
  exact ⟨⟨h.cell rfl, h.cell rfl, h.cell rfl, h.cell rfl, h.cell rfl⟩, fun i => h.free i⟩

/-- One of the five written. -/
theorem AccAt.set {w : World} {g : Nat} {s s' : Ga.St} (h : AccAt w g s) (i : Nat) (v : Int) (he : (head5 s).set i (.int .i64 v) = head5 s') (hi : i < 5) (hP : s'.P = s.P) (hN : s'.N = s.N) (hok : s'.Ok) : AccAt (w.setCell ⟨g, i, none⟩ (.int .i64 v)) g s' := by
  obtain ⟨aa, bb, h1, h2, h3, h4, -⟩ := h
  refine ⟨aa, bb, ?_, h2, h3, ⟨by rw [hP]; exact h4.1, by rw [hN]; exact h4.2⟩, hok⟩
  have := h1.set i (.int .i64 v)
  rwa [List.append_assoc, List.set_append_left _ _ (by simpa [head5] using hi), he, ← List.append_assoc] at this

/-- Both piles, aa lists that may be read. -/
theorem AccAt.args {w : World} {g : Nat} {s : Ga.St} (h : AccAt w g s) :
    ∃ aa bb : List Int, Arg w (some ⟨g, 5, none⟩) 67 67 aa ∧ Arg w (some ⟨g, 72, none⟩) 67 67 bb ∧ Nm.val aa = s.P ∧ Nm.val bb = s.N := by
  obtain ⟨aa, bb, h, ⟨l1, l2⟩, ⟨m1, m2⟩, ⟨v1, v2⟩, -⟩ := h
  refine ⟨aa, bb, ⟨l1, Nat.le_refl _, by decide, .inr ⟨g, 5, rfl, fun i hi => h.cell (lb_at (head5 s) (lb bb) aa 5 i rfl hi)⟩, m1⟩, ⟨l2, Nat.le_refl _, by decide, .inr ⟨g, 72, rfl, fun i hi => h.cell ?_⟩, m2⟩, v1, v2⟩
  have := lb_at (head5 s ++ lb aa) [] bb 72 i (by simp [head5, lb_length, l1]) hi
  simpa using this

/-- What is added above 0. -/
theorem AccAt.above {w w' : World} {g : Nat} {s s' : Ga.St} {bb : List Int} (h : Piled g 79 (head5 s) (lb bb) s'.P w w') (hl : bb.length = 67) (hb : Nm.Limbs bb) (hv : Nm.val bb = s.N) (he : head5 s = head5 s') (hN : s'.N = s.N) (hok : s'.Ok) : AccAt w' g s' := by
  obtain ⟨os, h1, h2, h3, h4, -⟩ := h
  rw [he] at h1
  exact ⟨os, bb, h1, ⟨h2, hl⟩, ⟨h3, hb⟩, ⟨h4, by rw [hN]; exact hv⟩, hok⟩

/-- What is added below 0. -/
theorem AccAt.beneath {w w' : World} {g : Nat} {s s' : Ga.St} {aa : List Int} (h : Piled g 79 (head5 s ++ lb aa) [] s'.N w w') (hl : aa.length = 67) (hb : Nm.Limbs aa) (hv : Nm.val aa = s.P) (he : head5 s = head5 s') (hP : s'.P = s.P) (hok : s'.Ok) : AccAt w' g s' := by
  obtain ⟨os, h1, h2, h3, h4, -⟩ := h
  rw [he, List.append_nil] at h1
  exact ⟨aa, os, h1, ⟨hl, h2⟩, ⟨hb, h3⟩, ⟨by rw [hP]; exact hv, h4⟩, hok⟩
end Go.Proofs.YtkmadibfiikleaaDoor
