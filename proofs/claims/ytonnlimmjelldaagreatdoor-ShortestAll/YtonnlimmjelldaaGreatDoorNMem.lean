/-
  A BLOCK OF BYTES OF OUR OWN; what leaves all blocks but one as they were.
-/
import Derived.Test.YtonnlimmjelldaaGreatDoorWalk5a
import Derived.Test.YtonnlimmjelldaaGreatDoorNums
namespace Go.Proofs.YtonnlimmjelldaaGreatDoor
open Go.RowKit Go.Deep

def OwnB (w : World) (g : Nat) (zs : List Int) : Prop := w.heap[g]? = some (.cells (zs.map (Value.int .u8)).toArray 5 (0, 0))

theorem OwnB.cell {w : World} {g : Nat} {zs : List Int} (h : OwnB w g zs) (i : Nat) (hi : i < zs.length) : w.cell? ⟨g, i, none⟩ = some (.int .u8 (zs.getD i 0)) := by
  simp only [OwnB] at h
  simp [World.cell?, h, List.getD, hi]

theorem OwnB.free {w : World} {g : Nat} {zs : List Int} (h : OwnB w g zs) (i : Nat) : w.frozen? ⟨g, i, none⟩ = false := by
  simp only [OwnB] at h
  simp [World.frozen?, h]

theorem OwnB.lt {w : World} {g : Nat} {zs : List Int} (h : OwnB w g zs) : g < w.heap.size := by
  rcases Nat.lt_or_ge g w.heap.size with hl | hl
  · exact hl
  · simp [OwnB, Array.getElem?_eq_none hl] at h

theorem OwnB.set {w : World} {g : Nat} {zs : List Int} (h : OwnB w g zs) (i : Nat) (s : Int) : OwnB (w.setCell ⟨g, i, none⟩ (.int .u8 s)) g (zs.set i s) := by
  have hl := h.lt
  simp only [OwnB] at h ⊢
  simp [World.setCell, Array.getElem?_modify, h, List.map_set]

theorem OwnB.below {w w' : World} {B g : Nat} {zs : List Int} (h : OwnB w g zs) (hb : Below B w w') (hg : g < B) : OwnB w' g zs := by
  simp only [OwnB] at h ⊢
  rw [hb.block g hg, h]

theorem OwnB.drewN {w : World} {g : Nat} {zs : List Int} (h : OwnB w g zs) (n : Nat) : OwnB (w.drewN n) g zs := h

theorem OwnB.alloc (w : World) (zs : List Int) : OwnB (w.alloc (.cells (zs.map (Value.int .u8)).toArray 5)) w.heap.size zs := by
  show (w.heap.push _)[w.heap.size]? = _
  rw [Array.getElem?_push, if_pos rfl]

theorem made_zero8 (n : Nat) : madeCells #[Value.int .u8 0] n = ((List.replicate n (0 : Int)).map (Value.int .u8)).toArray := by
  apply Array.toList_inj.1
  rw [toList_madeCells_one]
  simp

theorem info8 : (Tryz.prog.info? 5).map (fun i => (i.zero, i.size, i.bytes)) = some (some (.int .u8 0), 1, 1) := by kernel_rfl

/-- make([]byte, n). -/
theorem make8 (n : Nat) (h : n ≤ 35184372088832) (w : World) :
    (Instr.makeSlice 117 (.int .i64 (n : Int)) (.int .i64 (n : Int))).run Tryz.prog w = .ok (.slice (some ⟨w.heap.size, 0, none⟩) n n) (w.alloc (.cells (madeCells #[.int .u8 0] n) 5)) :=
  run_make_row' 117 5 (.int .u8 0) 1 Tryz.underlying117 info8 rfl .i64 .i64 n (by omega) (by omega) w

/-- Only the block g, and new ones, have changed. -/
structure Only (g : Nat) (w w' : World) : Prop where
  os : w'.os = w.os
  tape : w'.tape = w.tape
  output : w'.output = w.output
  size : w.heap.size ≤ w'.heap.size
  block : ∀ j, j < w.heap.size → j ≠ g → w'.heap[j]? = w.heap[j]?

theorem Only.refl (g : Nat) (w : World) : Only g w w := ⟨rfl, rfl, rfl, Nat.le_refl _, fun _ _ _ => rfl⟩
theorem Only.trans {g : Nat} {a b c : World} (h : Only g a b) (k : Only g b c) : Only g a c :=
  ⟨k.os.trans h.os, k.tape.trans h.tape, k.output.trans h.output, Nat.le_trans h.size k.size, fun i hi hs => (k.block i (Nat.lt_of_lt_of_le hi h.size) hs).trans (h.block i hi hs)⟩
theorem Only.of_below {g : Nat} {a b : World} (h : Below a.heap.size a b) : Only g a b := ⟨h.os, h.tape, h.output, h.size, fun i hi _ => h.block i hi⟩
theorem Only.below {g B : Nat} {a b : World} (h : Only g a b) (hg : B ≤ g) (hB : B ≤ a.heap.size) : Below B a b := ⟨h.os, h.tape, h.output, h.size, fun i hi => h.block i (by omega) (by omega)⟩
theorem Only.set {w : World} {g : Nat} (i : Nat) (v : Value) : Only g w (w.setCell ⟨g, i, none⟩ v) := by
  refine ⟨rfl, rfl, rfl, by simp [World.setCell], fun j _ hne => ?_⟩
  simp only [World.setCell, Array.getElem?_modify]
  rw [if_neg (fun h => hne h.symm)]
theorem Only.drewN {g : Nat} {a b : World} (h : Only g a b) (n : Nat) : Only g a (b.drewN n) := ⟨h.os, h.tape, h.output, h.size, h.block⟩
theorem Only.cell {g : Nat} {a b : World} (h : Only g a b) {p : Addr} {v : Value} (hc : a.cell? p = some v) (hp : p.block ≠ g) : b.cell? p = some v := by
  have := h.block p.block (cell_lt hc) hp
  rw [← hc]
  simp only [World.cell?, this]

theorem Lies.only {w w' : World} {g : Nat} {p : Option Addr} {zs : List Int} (h : Lies w p zs) (k : Only g w w') (hp : ∀ a, p = some a → a.block ≠ g) : Lies w' p zs := by
  rcases h with h | ⟨b, off, rfl, h⟩
  · exact .inl h
  · exact .inr ⟨b, off, rfl, fun i hi => k.cell (h i hi) (hp ⟨b, off, none⟩ rfl)⟩

theorem Arg.only {w w' : World} {g : Nat} {p : Option Addr} {n cap : Nat} {zs : List Int} (h : Arg w p n cap zs) (k : Only g w w') (hp : ∀ a, p = some a → a.block ≠ g) : Arg w' p n cap zs := ⟨h.1, h.2.1, h.2.2.1, h.2.2.2.1.only k hp, h.2.2.2.2⟩

/-- Digits written into a row of bytes, from a place on. -/
def put (ds : List Int) (o : Nat) (xs : List Int) : List Int := ds.take o ++ xs ++ ds.drop (o + xs.length)

theorem put_length (ds : List Int) (o : Nat) (xs : List Int) (h : o + xs.length ≤ ds.length) : (put ds o xs).length = ds.length := by
  simp [put]
  omega

theorem put_nil (ds : List Int) (o : Nat) : put ds o [] = ds := by simp [put]

/-- One more at the head. -/
theorem put_head (ds : List Int) (o : Nat) (x : Int) (xs : List Int) (h : o + 1 + xs.length ≤ ds.length) : (put ds (o + 1) xs).set o x = put ds o (x :: xs) := by
  have h1 : ds.take (o + 1) = ds.take o ++ [ds.getD o 0] := by
    rw [List.take_add_one]
    simp [List.getElem?_eq_getElem (show o < ds.length by omega)]
  simp only [put, h1, List.length_cons]
  rw [List.append_assoc, List.append_assoc, List.set_append_right _ _ (by simp; omega)]
  simp [show min o ds.length = o by omega, show o + 1 + xs.length = o + (xs.length + 1) by omega]

/-- Two rows side by side. -/
theorem put_two (ds : List Int) (o : Nat) (xs ys : List Int) (h : o + xs.length + ys.length ≤ ds.length) : put (put ds o xs) (o + xs.length) ys = put ds o (xs ++ ys) := by
  have hl : (ds.take o ++ xs).length = o + xs.length := by simp; omega
  simp only [put]
  rw [List.take_append_of_le_length (by omega), List.take_of_length_le (by omega), ← hl, List.drop_append, List.drop_of_length_le (by omega), List.nil_append, List.drop_drop]
  simp only [hl, List.length_append, List.append_assoc]
  congr 4
  omega
end Go.Proofs.YtonnlimmjelldaaGreatDoor
