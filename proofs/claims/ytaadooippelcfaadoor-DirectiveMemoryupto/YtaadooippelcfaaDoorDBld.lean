/-
  strings.Builder, in our words (of DPrint).
-/
import Derived.Test.YtaadooippelcfaaDoorDMem
namespace Go.Proofs.YtaadooippelcfaaDoor
open Go Go.RowKit Go.Deep Go.Shelf

/-- Bytes as cells. -/
theorem dstr_cells {s : ByteArray} {xs : List Int} (h : Str s xs) : Lib.strCells s = xs.map (Value.int .u8) := by
  rw [← h, List.map_map]; rfl

def DIsB (B b : Nat) (zs : List Int) (w : World) : Prop := Lib.IsBuilder 64 5 B b (zs.map (Value.int .u8)) w
theorem DIsB.below {B b : Nat} {zs : List Int} {w w' : World} (h : DIsB B b zs w) (k : Below w.heap.size w w') : DIsB B b zs w' := by
  have key : ∀ p, Lib.BuilderAt 64 5 B b p (zs.map (Value.int .u8)) w → Lib.BuilderAt 64 5 B b p (zs.map (Value.int .u8)) w' := by
    rintro p ⟨h1, v, h2, h3, h4⟩
    have hl : b < w.heap.size := by
      rcases Nat.lt_or_ge b w.heap.size with c | c
      · exact c
      · simp [Array.getElem?_eq_none c] at h2
    exact ⟨h1, v, by rw [k.block b hl]; exact h2, World.ownsRow.kept (row := none) h3 ⟨k.os, k.tape, k.output, k.size, fun j hj _ => k.block j hj⟩ (by cases h : Value.ownBlock v <;> simp), h4⟩
  rcases h with h | h
  · exact .inl (key _ h)
  · exact .inr (key _ h)
theorem blen_any (B b : Nat) (zs : List Int) (w : World) (h : DIsB B b zs w) : Calls Tryd.prog 29 #[.pointer (some ⟨b, 0, none⟩)] w fun e w' => e = .returned (.int .i64 (zs.length : Int)) ∧ w' = w := by
  have q := Any.Builder_Len dlenLays B b (zs.map (Value.int .u8)) w h
  rw [List.length_map] at q
  exact q
theorem dbwrite_any (B b : Nat) (zs xs : List Int) (s : ByteArray) (w : World) (h : DIsB B b zs w) (hs : Str s xs) (hl : zs.length + xs.length ≤ 16777216) (hB : B ≤ w.heap.size) : Calls Tryd.prog 30 #[.pointer (some ⟨b, 0, none⟩), .string s] w fun e w' => e = .returned (.tuple #[.int .i64 s.size, .nilIface]) ∧ DIsB B b (zs ++ xs) w' ∧ Below B w w' := by
  have q := Any.Builder_WriteString wsLays bExtra B b (zs.map (Value.int .u8)) s w h (by have := hs.size; rw [List.length_map]; omega) hB
  rw [dstr_cells hs, ← List.map_append] at q
  refine q.mono ?_
  rintro e w' ⟨rfl, h1, h2⟩
  exact ⟨rfl, .inr h1, h2⟩
theorem dbstr_any (B b : Nat) (zs : List Int) (w : World) (h : DIsB B b zs w) (hz : ∀ x ∈ zs, 0 ≤ x ∧ x < 256) (hB : B ≤ w.heap.size) : Calls Tryd.prog 31 #[.pointer (some ⟨b, 0, none⟩)] w fun e w' => e = .returned (.string (strOfNums zs)) ∧ Below B w w' := by
  have S := Str.of_nums hz
  have e1 : zs.map (Value.int .u8) = Lib.byteCells (strOfNums zs).data.toList := by rw [← dstr_cells S]; rfl
  have h' : Lib.IsBuilder 64 5 B b (Lib.byteCells (strOfNums zs).data.toList) w := by rw [← e1]; exact h
  have q := Any.Builder_String_any strLays bExtra B b (strOfNums zs).data.toList w h' hB
  have e2 : (⟨(strOfNums zs).data.toList.toArray⟩ : ByteArray) = strOfNums zs := by simp
  rw [e2] at q
  exact q

theorem dbbyte_any (B b : Nat) (zs : List Int) (c : Int) (w : World) (h : DIsB B b zs w) (hl : zs.length + 1 ≤ 16777216) (hB : B ≤ w.heap.size) : Calls Tryd.prog 51 #[.pointer (some ⟨b, 0, none⟩), .int .u8 c] w fun e w' => e = .returned .nilIface ∧ DIsB B b (zs ++ [c]) w' ∧ Below B w w' := by
  have q := Any.Builder_WriteByte wbLays bExtra B b (zs.map (Value.int .u8)) c w h (by rw [List.length_map]; omega) hB
  refine q.mono ?_
  rintro e w' ⟨rfl, h1, h2⟩
  refine ⟨rfl, .inr ?_, h2⟩
  rw [List.map_append]; exact h1
end Go.Proofs.YtaadooippelcfaaDoor
