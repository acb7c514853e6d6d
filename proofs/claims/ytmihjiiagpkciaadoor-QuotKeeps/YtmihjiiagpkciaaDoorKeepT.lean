/-
  What stays while known blocks are written (SumLaw1's).
-/
import Derived.Test.YtmihjiiagpkciaaDoorMem
import Derived.Deep.QuietTactic
import Derived.BigQuiet
namespace Go.Proofs.YtmihjiiagpkciaaDoor
open Go Go.RowKit Go.Deep

/-- Only blocks of S have been written, of those that were there. -/
structure Keep (S : Nat → Prop) (w w' : World) : Prop where
  os : w'.os = w.os
  tape : w'.tape = w.tape
  output : w'.output = w.output
  size : w.heap.size ≤ w'.heap.size
  block : ∀ b, b < w.heap.size → ¬ S b → w'.heap[b]? = w.heap[b]?

theorem Keep.refl (S : Nat → Prop) (w : World) : Keep S w w := ⟨rfl, rfl, rfl, Nat.le_refl _, fun _ _ _ => rfl⟩
theorem Keep.trans {S : Nat → Prop} {a b c : World} (h : Keep S a b) (k : Keep S b c) : Keep S a c :=
  ⟨k.os.trans h.os, k.tape.trans h.tape, k.output.trans h.output, Nat.le_trans h.size k.size, fun i hi hs => (k.block i (Nat.lt_of_lt_of_le hi h.size) hs).trans (h.block i hi hs)⟩
theorem Keep.mono {S T : Nat → Prop} {a b : World} (h : Keep S a b) (hst : ∀ b, S b → T b) : Keep T a b := ⟨h.os, h.tape, h.output, h.size, fun i hi hs => h.block i hi (fun k => hs (hst i k))⟩
theorem Keep.of_below {S : Nat → Prop} {B : Nat} {a b : World} (h : Below B a b) (hB : a.heap.size ≤ B) : Keep S a b := ⟨h.os, h.tape, h.output, h.size, fun i hi _ => h.block i (by omega)⟩
theorem Keep.below {S : Nat → Prop} {B : Nat} {a b : World} (h : Keep S a b) (hS : ∀ b, S b → B ≤ b) (hB : B ≤ a.heap.size) : Below B a b := ⟨h.os, h.tape, h.output, h.size, fun i hi => h.block i (by omega) (fun k => by have := hS i k; omega)⟩
theorem Keep.drewN {S : Nat → Prop} {a b : World} (h : Keep S a b) (n : Nat) : Keep S a (b.drewN n) := ⟨h.os, h.tape, h.output, h.size, h.block⟩
theorem Keep.cell {S : Nat → Prop} {a b : World} (h : Keep S a b) {p : Addr} {v : Value} (hc : a.cell? p = some v) (hs : ¬ S p.block) : b.cell? p = some v := by
  have hl := cell_lt hc
  have e := h.block p.block hl hs
  rw [← hc]
  unfold World.cell?
  rw [e]

theorem Lies.keep {S : Nat → Prop} {w w' : World} {p : Option Addr} {zs : List Int} (h : Lies w p zs) (k : Keep S w w') (hp : ∀ a, p = some a → ¬ S a.block) : Lies w' p zs := by
  rcases h with rfl | ⟨b, off, rfl, h⟩
  · exact .inl rfl
  · exact .inr ⟨b, off, rfl, fun i hi => k.cell (h i hi) (hp ⟨b, off, none⟩ rfl)⟩

theorem Arg.keep {S : Nat → Prop} {w w' : World} {p : Option Addr} {n cap : Nat} {zs : List Int} (h : Arg w p n cap zs) (k : Keep S w w') (hp : ∀ a, p = some a → ¬ S a.block) : Arg w' p n cap zs :=
  ⟨h.1, h.2.1, h.2.2.1, h.2.2.2.1.keep k hp, h.2.2.2.2⟩

theorem Own.keep {S : Nat → Prop} {w w' : World} {g : Nat} {zs : List Int} (h : Own w g zs) (k : Keep S w w') (hp : ¬ S g) : Own w' g zs := by
  have := h.lt
  simp only [Own] at h ⊢
  rw [k.block g this hp, h]

end Go.Proofs.YtmihjiiagpkciaaDoor
