/-
  WHAT LEAVES ALL BLOCKS BUT ONE AS THEY WERE; a block of whatever cells that may be written; limbs within it.
-/
import Derived.Test.YtkmadibfiikleaaDoorMem
import Derived.Deep.QuietTactic
import Derived.BigQuiet
import Derived.Deep.RegionWith
import Derived.Deep.RegionHeld3
import Derived.Deep.MidRow
import Derived.BigRegion
namespace Go.Proofs.YtkmadibfiikleaaDoor
open Go.RowKit Go.Deep

/-- Only the block g, and new ones, have changed. -/
structure Only (g : Nat) (w w' : World) : Prop where
  os : w'.os = w.os
  tape : w'.tape = w.tape
  output : w'.output = w.output
  size : w.heap.size ≤ w'.heap.size
  block : ∀ j, j < w.heap.size → j ≠ g → w'.heap[j]? = w.heap[j]?

theorem Only.refl (g : Nat) (w : World) : Only g w w := ⟨rfl, rfl, rfl, Nat.le_refl _, fun _ _ _ => rfl⟩
theorem Only.trans {g : Nat} {a b c : World} (h : Only g a b) (k : Only g b c) : Only g a c :=
  ⟨k.os.trans h.os, k.tape.trans h.tape, k.output.trans h.output, Nat.le_trans h.size k.size, fun i hi hs => (k.block i (Nat.lt_of_lt_of_le hi h.size) hs).trans (h.block i hi hs)⟩
theorem Only.of_below {g : Nat} {a b : World} (h : Below a.heap.size a b) : Only g a b := ⟨h.os, h.tape, h.output, h.size, fun i hi _ => h.block i hi⟩
theorem Only.below {g B : Nat} {a b : World} (h : Only g a b) (hg : B ≤ g) (hB : B ≤ a.heap.size) : Below B a b := ⟨h.os, h.tape, h.output, h.size, fun i hi => h.block i (by omega) (by omega)⟩
theorem Only.set {w : World} {g : Nat} (i : Nat) (v : Value) : Only g w (w.setCell ⟨g, i, none⟩ v) := by
  refine ⟨rfl, rfl, rfl, by simp [World.setCell], fun j _ hne => ?_⟩
  simp only [World.setCell, Array.getElem?_modify]
  rw [if_neg (fun h => hne h.symm)]
theorem Only.drewN {g : Nat} {a b : World} (h : Only g a b) (n : Nat) : Only g a (b.drewN n) := ⟨h.os, h.tape, h.output, h.size, h.block⟩
theorem Only.cell {g : Nat} {a b : World} (h : Only g a b) {p : Addr} {v : Value} (hc : a.cell? p = some v) (hp : p.block ≠ g) : b.cell? p = some v := by
  have := h.block p.block (cell_lt hc) hp
  rw [← hc]
  simp only [World.cell?, this]

theorem Lies.only {w w' : World} {g : Nat} {p : Option Addr} {zs : List Int} (h : Lies w p zs) (k : Only g w w') (hp : ∀ a, p = some a → a.block ≠ g) : Lies w' p zs := by
  rcases h with h | ⟨b, off, rfl, h⟩
  · exact .inl h
  · exact .inr ⟨b, off, rfl, fun i hi => k.cell (h i hi) (hp ⟨b, off, none⟩ rfl)⟩

theorem Arg.only {w w' : World} {g : Nat} {p : Option Addr} {n cap : Nat} {zs : List Int} (h : Arg w p n cap zs) (k : Only g w w') (hp : ∀ a, p = some a → a.block ≠ g) : Arg w' p n cap zs := ⟨h.1, h.2.1, h.2.2.1, h.2.2.2.1.only k hp, h.2.2.2.2⟩


/-- Block g holds just these cells, and may be written. -/
def Blk (w : World) (g t : Nat) (cs : List Value) : Prop := w.heap[g]? = some (.cells cs.toArray t (0, 0))

theorem Blk.cell {w : World} {g t : Nat} {cs : List Value} (h : Blk w g t cs) {i : Nat} {v : Value} (hv : cs[i]? = some v) : w.cell? ⟨g, i, none⟩ = some v := by
  simp only [Blk] at h
  simp [World.cell?, h, hv]

theorem Blk.free {w : World} {g t : Nat} {cs : List Value} (h : Blk w g t cs) (i : Nat) : w.frozen? ⟨g, i, none⟩ = false := by
  simp only [Blk] at h
  simp [World.frozen?, h]

theorem Blk.lt {w : World} {g t : Nat} {cs : List Value} (h : Blk w g t cs) : g < w.heap.size := by
  rcases Nat.lt_or_ge g w.heap.size with hl | hl
  · exact hl
  · simp [Blk, Array.getElem?_eq_none hl] at h

theorem Blk.set {w : World} {g t : Nat} {cs : List Value} (h : Blk w g t cs) (i : Nat) (v : Value) : Blk (w.setCell ⟨g, i, none⟩ v) g t (cs.set i v) := by
  simp only [Blk] at h ⊢
  simp [World.setCell, Array.getElem?_modify, h]

theorem Blk.below {w w' : World} {B g t : Nat} {cs : List Value} (h : Blk w g t cs) (hb : Below B w w') (hg : g < B) : Blk w' g t cs := by
  simp only [Blk] at h ⊢
  rw [hb.block g hg, h]

theorem Blk.only {w w' : World} {g' g t : Nat} {cs : List Value} (h : Blk w g t cs) (hb : Only g' w w') (hg : g ≠ g') : Blk w' g t cs := by
  have hl := h.lt
  simp only [Blk] at h ⊢
  rw [hb.block g hl hg, h]

theorem Blk.new (w : World) (t : Nat) (cs : List Value) : Blk (w.alloc (.cells cs.toArray t)) w.heap.size t cs := by
  show (w.heap.push _)[w.heap.size]? = _
  rw [Array.getElem?_push, if_pos rfl]

theorem Blk.one {w : World} {g t t' : Nat} {cs cs' : List Value} (h : Blk w g t cs) (h' : Blk w g t' cs') : cs = cs' := by
  simp only [Blk] at h h'
  rw [h] at h'
  simpa using (congrArg (fun o => match o with | some (Obj.cells a _ _) => a.toList | _ => []) h')

/-- Limbs as cells. -/
def lb (zs : List Int) : List Value := zs.map (Value.int .u64)

theorem lb_length (zs : List Int) : (lb zs).length = zs.length := by simp [lb]

theorem lb_at (A C : List Value) (zs : List Int) (o i : Nat) (hA : A.length = o) (hi : i < zs.length) : (A ++ lb zs ++ C)[o + i]? = some (.int .u64 (zs.getD i 0)) := by
  subst hA
  rw [List.append_assoc, List.getElem?_append_right (by omega), show A.length + i - A.length = i by omega, List.getElem?_append_left (by rw [lb_length]; exact hi)]
  simp [lb, List.getD, hi]

theorem lb_set (A C : List Value) (zs : List Int) (o i : Nat) (s : Int) (hA : A.length = o) (hi : i < zs.length) : (A ++ lb zs ++ C).set (o + i) (.int .u64 s) = A ++ lb (zs.set i s) ++ C := by
  subst hA
  rw [List.append_assoc, List.set_append_right _ _ (by omega), show A.length + i - A.length = i by omega, List.set_append_left _ _ (by rw [lb_length]; exact hi), ← List.append_assoc]
  simp [lb, List.map_set]

/-- Behind the limbs below j: what is in the pile, and the carry beyond, is T. -/
def PInv (g t : Nat) (A C : List Value) (w : World) (T : Int) (j : Nat) (c : Int) (os : List Int) (wr : World) : Prop :=
  Blk wr g t (A ++ lb os ++ C) ∧ os.length = 67 ∧ Nm.Limbs os ∧ Nm.val os + Nm.pw j * c = T ∧ Only g w wr ∧ wr.heap.size = w.heap.size

theorem PInv.step {g t o : Nat} {A C : List Value} {w : World} {T : Int} {j : Nat} {c : Int} {os : List Int} {wr : World} (h : PInv g t A C w T j c os wr) (hA : A.length = o) (hj : j < 67) {x s c' : Int}
    (hs : s = (os.getD j 0 + x + c) % 18446744073709551616) (hc : c' = (os.getD j 0 + x + c) / 18446744073709551616) :
    PInv g t A C w (T + Nm.pw j * x) (j + 1) c' (os.set j s) (wr.setCell ⟨g, o + j, none⟩ (.int .u64 s)) := by
  obtain ⟨h1, h2, h3, h4, h5, h6⟩ := h
  have hb := h1.set (o + j) (.int .u64 s)
  rw [lb_set A C os o j s hA (by omega)] at hb
  exact ⟨hb, by simpa using h2, h3.set j (by omega) (by omega), Nm.add_step (by omega) (by omega) h4, h5.trans (Only.set _ _), by simpa [World.setCell] using h6⟩

theorem PInv.end {g t : Nat} {A C : List Value} {w : World} {T : Int} {j : Nat} {c : Int} {os : List Int} {wr : World} (h : PInv g t A C w T j c os wr) (hT : T < Nm.pw 67) (hc : 1 ≤ c) : j < 67 := by
  obtain ⟨h1, h2, h3, h4, h5, h6⟩ := h
  rcases Nat.lt_or_ge j 67 with hj | hj
  · exact hj
  · have e1 := Nm.pw_mono hj
    have e2 := (Nm.val_bd os h3).1
    have e3 := Nm.pw_pos j
    have e4 : Nm.pw j * 1 ≤ Nm.pw j * c := Int.mul_le_mul_of_nonneg_left hc (by omega)
    omega

/-- The pile behind A in block g holds T; no other cell of a block that was there has turned. -/
def Piled (g t : Nat) (A C : List Value) (T : Int) (w w' : World) : Prop :=
  ∃ os, Blk w' g t (A ++ lb os ++ C) ∧ os.length = 67 ∧ Nm.Limbs os ∧ Nm.val os = T ∧ Only g w w' ∧ w'.heap.size = w.heap.size
end Go.Proofs.YtkmadibfiikleaaDoor
