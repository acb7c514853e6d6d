/-
  record: fields' iterator: its words.
-/
import Derived.Test.YtiggmgagcogakaaDoorRcF
import Derived.RangeFuncBox
namespace Go.Proofs.YtiggmgagcogakaaDoor
open Go Go.RowKit Go.Deep Go.Shelf

attribute [local go_sem] Oper.semAt_some

/-- How many fields there are, and which texts. -/
def Rc.nf (ps : List (Nat × Nat)) : Nat := min ps.length 32768
def Rc.tk (s fs : ByteArray) (ps : List (Nat × Nat)) (k : Nat) : ByteArray := if k = 32767 then Rc.rst (s.extract (Rc.fr ps k) s.size) fs else s.extract (Rc.fr ps k) (Rc.up ps k)
/-- Blocks outside [B, B + 6) lie as they lay. -/
def Rc.Ka (B : Nat) (A A' : World) : Prop := (A'.os = A.os ∧ A'.tape = A.tape ∧ A'.output = A.output) ∧ A.heap.size ≤ A'.heap.size ∧ ∀ j, j < A.heap.size → ¬ (B ≤ j ∧ j < B + 6) → A'.heap[j]? = A.heap[j]?
theorem Rc.Ka.of {B : Nat} {A A' : World} (h : Below A.heap.size A A') : Rc.Ka B A A' := ⟨⟨h.os, h.tape, h.output⟩, h.size, fun j hj _ => h.block j hj⟩
theorem Rc.Ka.put {B j : Nat} {A : World} (h1 : B ≤ j) (h2 : j < B + 6) (o : Obj) : Rc.Ka B A (A.putObj j o) := ⟨⟨rfl, rfl, rfl⟩, by simp, fun k _ hn => World.putObj_heap_other (by omega)⟩
/-- Blocks that are none of X lie as they lay. -/
def Rc.KX (X : Nat → Prop) (A A' : World) : Prop := A.heap.size ≤ A'.heap.size ∧ ∀ j, j < A.heap.size → ¬ X j → A'.heap[j]? = A.heap[j]?

theorem Rc.boxed_of {W W' : World} {B : Nat} {t : TypeId} {v : Value} (h : Boxed W B t v) (e : W'.heap[B]? = W.heap[B]?) : Boxed W' B t v := e.trans h
theorem Rc.set_other {W : World} {B j : Nat} (v : Value) (h : j ≠ B) : (W.setCell ⟨B, 0, none⟩ v).heap[j]? = W.heap[j]? := by
  simp [World.setCell, Array.getElem?_modify, h.symm]
theorem Rc.pt_enters (fs : ByteArray) : ∀ args w, (callFunc (Rc.ptF fs) args).run Tryd.prog w = .ok (.enter (Rc.ptF fs) args) w := by
  unfold Rc.ptF
  by_cases h1 : fs = ⟨#[32]⟩
  · rw [if_pos h1]; exact enters_of Tryd.func30 (by kernel_rfl) rfl
  · rw [if_neg h1]
    by_cases h2 : fs.size = 0
    · rw [if_pos h2]; exact enters_of Tryd.func32 (by kernel_rfl) rfl
    · rw [if_neg h2]; exact enters_of Tryd.func33 (by kernel_rfl) rfl
theorem Rc.ptW_b (s fs : ByteArray) (w : World) : Below w.heap.size w (Rc.ptW s fs w) ∧ w.heap.size + 1 ≤ (Rc.ptW s fs w).heap.size ∧ (Rc.ptW s fs w).heap.size ≤ w.heap.size + 2 := by
  unfold Rc.ptW
  split
  · exact ⟨alloc_b _ _, by simp, by simp⟩
  · split
    · exact ⟨alloc_b _ _, by simp, by simp⟩
    · exact ⟨below_on (alloc_b _ _) (alloc_b _ _), by simp, by simp⟩

end Go.Proofs.YtiggmgagcogakaaDoor
