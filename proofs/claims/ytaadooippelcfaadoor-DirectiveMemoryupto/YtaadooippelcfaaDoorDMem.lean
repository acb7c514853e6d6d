/-
  MEMORY of stage 13: the reader's box; strings.IndexByte in our words.
-/
import Derived.Test.YtaadooippelcfaaDoorV0
import Derived.Test.YtaadooippelcfaaDoorVStr
import Derived.Test.YtaadooippelcfaaDoorVClone
import Derived.Test.YtaadooippelcfaaDoorDLay
import Derived.Test.YtaadooippelcfaaDoorDBackN
import Derived.Deep.LoopGhost
import Derived.Deep.RegionHeld3
import Derived.Deep.CutBlock
import Derived.OwnWalk
import Derived.Deep.CutRange
namespace Go.Proofs.YtaadooippelcfaaDoor
open Go Go.RowKit Go.Deep Go.Shelf

/-- Only the block g, and new ones, have changed. -/
structure Oth (g : Nat) (w w' : World) : Prop where
  os : w'.os = w.os
  tape : w'.tape = w.tape
  output : w'.output = w.output
  size : w.heap.size ≤ w'.heap.size
  block : ∀ j, j < w.heap.size → j ≠ g → w'.heap[j]? = w.heap[j]?

theorem Oth.refl (g : Nat) (w : World) : Oth g w w := ⟨rfl, rfl, rfl, Nat.le_refl _, fun _ _ _ => rfl⟩
theorem Oth.trans {g : Nat} {a b c : World} (h : Oth g a b) (k : Oth g b c) : Oth g a c :=
  ⟨k.os.trans h.os, k.tape.trans h.tape, k.output.trans h.output, Nat.le_trans h.size k.size, fun i hi hs => (k.block i (Nat.lt_of_lt_of_le hi h.size) hs).trans (h.block i hi hs)⟩
theorem Oth.of_below {g : Nat} {a b : World} (h : Below a.heap.size a b) : Oth g a b := ⟨h.os, h.tape, h.output, h.size, fun i hi _ => h.block i hi⟩
theorem Oth.below {g B : Nat} {a b : World} (h : Oth g a b) (hg : B ≤ g) (hB : B ≤ a.heap.size) : Below B a b := ⟨h.os, h.tape, h.output, h.size, fun i hi => h.block i (by omega) (by omega)⟩
theorem Oth.set {w : World} {g : Nat} (i : Nat) (v : Value) : Oth g w (w.setCell ⟨g, i, none⟩ v) := by
  refine ⟨rfl, rfl, rfl, by simp [World.setCell], fun j _ hne => ?_⟩
  simp only [World.setCell, Array.getElem?_modify]
  rw [if_neg (fun h => hne h.symm)]

/-- A reader: its format and the place where it stands. -/
def RB (w : World) (b : Nat) (s : ByteArray) (k : Nat) : Prop := w.heap[b]? = some (.cells #[.string s, .int .i64 (k : Int)] 58 (0, 0))
theorem RB.cells {w : World} {b k : Nat} {s : ByteArray} (h : RB w b s k) :
    (w.cell? ⟨b, 0, none⟩ = some (.string s) ∧ w.cell? ⟨b, 1, none⟩ = some (.int .i64 (k : Int))) ∧ w.frozen? ⟨b, 1, none⟩ = false := by
  simp only [RB] at h
  refine ⟨⟨?_, ?_⟩, ?_⟩ <;> simp [World.cell?, World.frozen?, h]
theorem RB.lt {w : World} {b k : Nat} {s : ByteArray} (h : RB w b s k) : b < w.heap.size := by
  rcases Nat.lt_or_ge b w.heap.size with hl | hl
  · exact hl
  · simp [RB, Array.getElem?_eq_none hl] at h
theorem RB.below {w w' : World} {b k : Nat} {s : ByteArray} (h : RB w b s k) (hB : Below w.heap.size w w') : RB w' b s k := by
  rw [RB, hB.block b h.lt]; exact h
theorem RB.set {w : World} {b k : Nat} {s : ByteArray} (h : RB w b s k) {j : Nat} {v : Int} (e : v = (j : Int)) : RB (w.setCell ⟨b, 1, none⟩ (.int .i64 v)) b s j := by
  subst e
  simp only [RB] at *
  simp [World.setCell, Array.getElem?_modify, h]
theorem RB.new (w : World) (s : ByteArray) : RB (w.alloc (.cells #[.string s, .int .i64 0] 58)) w.heap.size s 0 := heap_alloc_new w _

theorem idx_lib (l : List UInt8) (c : UInt8) : Lib.indexByte l c = Dr.idx (l.map fun b => (b.toNat : Int)) (c.toNat : Int) := by
  induction l with
  | nil => rfl
  | cons b l ih =>
    rw [Lib.indexByte, List.map_cons, Dr.idx, ← ih]
    have h := Lib.indexByte_ge l c
    by_cases e : b = c
    · subst e; simp
    · have e1 : ¬ (b == c) = true := by simpa using e
      have e2 : ¬ (b.toNat : Int) = (c.toNat : Int) := fun h => e (UInt8.toNat_inj.1 (by omega))
      rw [if_neg e1, if_neg e2]
      by_cases k : Lib.indexByte l c = -1
      · have k1 : (Lib.indexByte l c == -1) = true := by simpa using k
        rw [if_pos k1, if_pos (show Lib.indexByte l c < 0 by omega)]
      · have k1 : ¬ (Lib.indexByte l c == -1) = true := by simpa using k
        rw [if_neg k1, if_neg (show ¬ Lib.indexByte l c < 0 by omega)]

theorem idx_any (s : ByteArray) (xs : List Int) (c : Int) (w : World) (hs : Str s xs) (h0 : 0 ≤ c) (h1 : c < 256) :
    Calls Tryd.prog 38 #[.string s, .int .u8 c] w fun e w' => e = .returned (.int .i64 (Dr.idx xs c)) ∧ w' = w := by
  have h := Any.strings_IndexByte dixLays s c w
  change Calls Tryd.prog 38 _ _ _ at h
  rw [idx_lib, show ((c.toNat.toUInt8).toNat : Int) = c by
    rw [Nat.toUInt8, UInt8.toNat_ofNat_of_lt' (by show c.toNat < 256; omega)]; omega] at h
  rw [show s.data.toList.map (fun b => (b.toNat : Int)) = xs from hs] at h
  exact h

set_option maxRecDepth 100000 in
theorem next_any (b k : Nat) (s : ByteArray) (xs : List Int) (w : World) (hs : Str s xs) (hk : k ≤ xs.length) (h : RB w b s k) :
    Calls Tryd.prog 42 #[.pointer (some ⟨b, 0, none⟩)] w fun e w' => e = .returned (.int .u8 (Dr.nx xs k)) ∧ Below w.heap.size w w' := by
  have hsz := hs.size
  obtain ⟨⟨c0, c1⟩, -⟩ := h.cells
  have D := hid (below_drewN (Below.refl w.heap.size w))
  by_cases he : k = xs.length
  · have hx : Hid (Dr.nx xs k = 0) := by rw [Hid, he]; simp [Dr.nx, List.getD]
    have he2 : (k : Int) = (xs.length : Int) := by omega
    clear h hs hk he
    go_enter Tryd.func42, Tryd.ntmps42
    go_upto_region 1 with fail
    go_quiet (fail)
    go_wp2_with fail
    go_ret
    exact ⟨by rw [hx.out]; rfl, D.out _⟩
  · have he2 : ¬ (k : Int) = (xs.length : Int) := by omega
    have hlt : (k : Int) < (xs.length : Int) := by omega
    have hx : ∀ h : k < s.size, ((s[k]'h).toNat : Int) = Dr.nx xs k := fun h => hs.at k h
    generalize Dr.nx xs k = x at *
    clear h hs hk he
    go_enter Tryd.func42, Tryd.ntmps42
    go_upto_region 1 with fail
    go_quiet (fail)
    go_wp2_with fail
    go_quiet (fail)
    go_wp2_with fail
    go_ret
    exact ⟨rfl, below_drewN (D.out _) _⟩
end Go.Proofs.YtaadooippelcfaaDoor
