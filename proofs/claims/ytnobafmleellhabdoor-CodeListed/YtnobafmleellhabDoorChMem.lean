/-
  TEXTS IN MEMORY: lists of texts that are read, lists of our own, a Builder of our own; strings.Index, Count.
-/
import Derived.Test.YtnobafmleellhabDoorVStr
import Derived.Test.YtnobafmleellhabDoorChN
import Derived.Laws.OwnMore
import Derived.OwnWalk
import Derived.Deep.LoopGhost
import Derived.Shelf.Vars
import Derived.Shelf.Pu.Clone
namespace Go.Proofs.YtnobafmleellhabDoor
open Go Go.RowKit Go.Deep Go.Shelf


/-- Texts that can be read. -/
def TR (w : World) (a : Option Addr) (xs : List ByteArray) : Prop := xs = [] ∨ ∃ b off, a = some ⟨b, off, none⟩ ∧ ∀ i x, xs[i]? = some x → w.cell? ⟨b, off + i, none⟩ = some (.string x)
theorem TR.nil (w : World) (a : Option Addr) : TR w a [] := .inl rfl
theorem TR.below {w w' : World} {a : Option Addr} {xs : List ByteArray} {B : Nat} (h : TR w a xs) (hB : Below B w w') (hb : w.heap.size ≤ B) : TR w' a xs := by
  rcases h with rfl | ⟨b, off, rfl, h⟩
  · exact .inl rfl
  · refine .inr ⟨b, off, rfl, fun i x hi => ?_⟩
    have c := h i x hi
    rw [hB.cell (Nat.lt_of_lt_of_le (cell_lt c) hb)]
    exact c
theorem TR.at {w : World} {a : Option Addr} {xs : List ByteArray} (h : TR w a xs) (i : Nat) (hi : i < xs.length) : ∃ b off, a = some ⟨b, off, none⟩ ∧ w.cell? ⟨b, off + i, none⟩ = some (.string (xs.getD i ByteArray.empty)) := by
  rcases h with rfl | ⟨b, off, rfl, h⟩
  · cases hi
  · exact ⟨b, off, rfl, h i _ (by simp [List.getD, List.getElem?_eq_getElem hi])⟩
theorem TR.addr {w : World} {b off : Nat} {xs : List ByteArray} (h : TR w (some ⟨b, off, none⟩) xs) (i : Nat) (hi : i < xs.length) : w.cell? ⟨b, off + i, none⟩ = some (.string (xs.getD i ByteArray.empty)) := by
  obtain ⟨b', off', e, c⟩ := h.at i hi
  cases e
  exact c
theorem TR.drop {w : World} {b off : Nat} {xs : List ByteArray} (h : TR w (some ⟨b, off, none⟩) xs) (k : Nat) : TR w (some ⟨b, off + k, none⟩) (xs.drop k) := by
  rcases h with rfl | ⟨b', off', e, h⟩
  · exact .inl (by simp)
  · cases e
    refine .inr ⟨b, off + k, rfl, fun i x hi => ?_⟩
    rw [List.getElem?_drop] at hi
    rw [Nat.add_assoc]
    exact h _ _ hi
theorem TR.take {w : World} {a : Option Addr} {xs : List ByteArray} (h : TR w a xs) (k : Nat) : TR w a (xs.take k) := by
  rcases h with rfl | ⟨b, off, rfl, h⟩
  · exact .inl (by simp)
  · refine .inr ⟨b, off, rfl, fun i x hi => h i x ?_⟩
    rw [List.getElem?_take] at hi
    by_cases c : i < k
    · rw [if_pos c] at hi; exact hi
    · rw [if_neg c] at hi; cases hi

/-- Texts in a block of our own from base on. -/
def TO (base : Nat) (w : World) (mv : Value) (xs : List ByteArray) : Prop := w.ownsRow base 9 1 mv xs.length (xs.map Value.string)
theorem TO.below {base : Nat} {w w' : World} {mv : Value} {xs : List ByteArray} (h : TO base w mv xs) (hb : Below w.heap.size w w') : TO base w' mv xs :=
  World.ownsRow.kept (row := none) h ⟨hb.os, hb.tape, hb.output, hb.size, fun j hj _ => hb.block j hj⟩ (by cases h : Value.ownBlock mv <;> simp)
theorem TO.mono {base base' : Nat} {w : World} {mv : Value} {xs : List ByteArray} (h : TO base w mv xs) (hb : base' ≤ base) : TO base' w mv xs := by
  refine ⟨h.1, ?_⟩
  rcases h.2 with hn | ⟨g, cap, cur, rfl, hbg, rest⟩
  · exact .inl hn
  · exact .inr ⟨g, cap, cur, rfl, Nat.le_trans hb hbg, rest⟩
theorem TO.nil (base : Nat) (w : World) : TO base w (.slice none 0 0) [] := World.ownsRow_nil _ _ _ _
theorem TO.read {base : Nat} {w : World} {mv : Value} {xs : List ByteArray} (h : TO base w mv xs) : ∃ a cap, mv = .slice a xs.length cap ∧ xs.length ≤ cap ∧ TR w a xs := by
  rcases h.2 with ⟨rfl, h0⟩ | ⟨g, cap, cur, rfl, hb, hg, hl, hm, hs, ht⟩
  · exact ⟨none, 0, by rw [h0], by omega, .inl (List.eq_nil_of_length_eq_zero h0)⟩
  · refine ⟨_, cap, rfl, hl, .inr ⟨g, 0, rfl, fun i x hi => ?_⟩⟩
    have := World.ownsRow.cells h (g := g) rfl i (.string x) (by rw [List.getElem?_map, hi]; rfl)
    rw [Go.WideShapes.add_plain] at this
    exact this
theorem info_str : (Tryd.prog.info? 9).map (fun i => (i.zero, i.size, i.bytes)) = some (some (.string ByteArray.empty), 1, 16) := by kernel_rfl

theorem TO.push {base : Nat} {w : World} {mv : Value} {xs : List ByteArray} (ho : TO base w mv xs) (x : ByteArray) (hn : xs.length < 8796093022000) (hb : base ≤ w.heap.size) :
    ∃ mv' w', (Builtin.append_ #[24, 24] 24 #[mv, .slice (some ⟨w.heap.size, 0, none⟩) 1 1]).run Tryd.prog (w.alloc (.cells #[.string x] 9)) = .ok mv' w' ∧ TO base w' mv' (xs ++ [x]) ∧ w.heap.size ≤ w'.heap.size ∧
      Below base w w' ∧ (∀ j, j < w.heap.size → some j ≠ mv.ownBlock → w'.heap[j]? = w.heap[j]?) := by
  obtain ⟨i, hi, hz⟩ := Option.map_eq_some_iff.1 info_str
  simp only [Prod.mk.injEq] at hz
  obtain ⟨z1, z2, z3⟩ := hz
  have bm : Below w.heap.size w (w.alloc (.cells #[.string x] 9)) := (Below.refl _ _).alloc (Nat.le_refl _) _
  have hs : (w.alloc (.cells #[.string x] 9)).heap.size = w.heap.size + 1 := World.size_alloc _ _
  have ho' := World.ownsRow.alloc ho (.cells #[.string x] 9)
  have hcell : (w.alloc (.cells #[.string x] 9)).cell? ⟨w.heap.size, 0, none⟩ = some (.string x) := by
    have : (w.alloc (.cells #[.string x] 9)).heap[w.heap.size]? = some (.cells #[.string x] 9 (0, 0)) := heap_alloc_new w _
    rw [cell_of_row _ _ _ _ _ _ this]
    rfl
  obtain ⟨v', w', hr, h1, h2, _⟩ := run_append_own (P := Tryd.prog) (w.alloc (.cells #[.string x] 9)) base 24 24 9 i (.string ByteArray.empty) 1 16 Tryd.underlying24 hi z1 z2 z3 rfl (by omega) mv xs.length (xs.map Value.string) ho'
    ⟨w.heap.size, 0, none⟩ 1 1 [.string x] rfl (fun j u hu => by
      cases j with
      | zero =>
        simp at hu
        subst hu
        rw [Go.WideShapes.add_plain]
        exact hcell
      | succ j => simp at hu) (fun u hu => by simp at hu; subst hu; rfl) (by simp only [maxLen]; omega) (by omega) (by rw [hs]; omega)
  refine ⟨v', w', hr, by simpa [TO] using h1, by have := h2.size; omega, ?_, fun j hj hne => ?_⟩
  · have hb2 : Below base (w.alloc (.cells #[.string x] 9)) w' := by
      refine ⟨h2.os, h2.tape, h2.output, h2.size, fun j hj => h2.block j (by rw [hs]; omega) ?_⟩
      intro hk
      have := (ho'.lt j hk.symm).1
      omega
    exact (bm.mono hb).trans hb2
  · rw [h2.block j (by rw [hs]; omega) hne]
    exact bm.block j hj

theorem wpList_append_c {ty : TypeId} {ops : Array Oper} {rest : List Oper} {o : Oper} {a : Act} {Q : Exit → Act → World → Prop} (hgd : o.guard = none) (s x : Operand)
    (ho : o.op = .call { callee := .builtin .append, args := #[s, x], argTypes := #[ty, ty] }) {v y v' : Value} {w w' : World} (hr : (Builtin.append_ #[ty, ty] o.type #[v, y]).run Tryd.prog w = .ok v' w') (hs : a.eval s = v) (hx : a.eval x = y)
    (h : wpList Tryd.prog ops Q rest (a.put o.dst v') w') : wpList Tryd.prog ops Q (o :: rest) a w := by
  refine wpList_plain hgd fun K hK => ?_
  unfold Oper.wp execOp
  simp only [ho, resolve, invoke, builtin, Sem.run_bind, Sem.run_pure, Result.andThen_ok, List.map_toArray, List.map_cons, List.map_nil, hs, hx, hr]
  exact hK _ _ h

end Go.Proofs.YtnobafmleellhabDoor
