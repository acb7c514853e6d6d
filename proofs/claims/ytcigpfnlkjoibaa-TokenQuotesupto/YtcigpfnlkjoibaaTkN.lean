/-
  token: a text in quotes, as bytes.
-/
import Derived.Test.YtcigpfnlkjoibaaChRow
namespace Go.Proofs.Ytcigpfnlkjoibaa
open Go Go.RowKit Go.Deep Go.Shelf

namespace Tk
def letter (n : Nat) : UInt8 := ([97, 98, 116, 110, 118, 102, 114] : Ch.L8).getD n 0
/-- A byte as it stands in quotes. -/
def esc (c : UInt8) : Ch.L8 :=
  if c.toNat = 34 ∨ c.toNat = 92 then [92, c]
  else if 7 ≤ c.toNat ∧ c.toNat ≤ 13 then [92, letter (c.toNat - 7)]
  else if 32 ≤ c.toNat ∧ c.toNat ≤ 126 then [c]
  else [92, UInt8.ofNat (48 + c.toNat / 64), UInt8.ofNat (48 + c.toNat / 8 % 8), UInt8.ofNat (48 + c.toNat % 8)]
/-- A text's bytes in quotes, the last quote left out. -/
def body (l : Ch.L8) : Ch.L8 := 34 :: l.flatMap esc
def quote (l : Ch.L8) : Ch.L8 := body l ++ [34]
theorem esc_len (c : UInt8) : (esc c).length ≤ 4 := by
  unfold esc
  split
  · simp
  · split
    · simp
    · split <;> simp
theorem flat_len (l : Ch.L8) : (l.flatMap esc).length ≤ 4 * l.length := by
  induction l with
  | nil => simp
  | cons a t ih =>
    rw [List.flatMap_cons, List.length_append, List.length_cons]
    have := esc_len a
    omega
theorem body_len (l : Ch.L8) : (body l).length ≤ 4 * l.length + 1 := by
  have := flat_len l
  simp only [body, List.length_cons]
  omega
theorem body_take (l : Ch.L8) (k : Nat) (h : k < l.length) : body (l.take (k + 1)) = body (l.take k) ++ esc (l.getD k 0) := by
  have e : l.getD k 0 = l[k] := by simp [List.getD, List.getElem?_eq_getElem h]
  rw [e, ← List.take_append_getElem h, body, body, List.flatMap_append, List.cons_append]
  simp
end Tk

theorem B8.puts {base : Nat} {w : World} {mv : Value} {l : Ch.L8} (ho : B8 base w mv l) (xs : Ch.L8) (hn : l.length + xs.length ≤ 140737488351232) (hb : base ≤ w.heap.size) :
    ∃ mv' w', (Builtin.append_ #[24, 24] 24 #[mv, .slice (some ⟨w.heap.size, 0, none⟩) xs.length xs.length]).run Try.prog (w.alloc (.cells (Lib.byteCells xs).toArray 5)) = .ok mv' w' ∧ B8 base w' mv' (l ++ xs) ∧ w.heap.size ≤ w'.heap.size ∧ Below base w w' := by
  obtain ⟨i, hi, hz⟩ := Option.map_eq_some_iff.1 info_u8
  simp only [Prod.mk.injEq] at hz
  obtain ⟨z1, z2, z3⟩ := hz
  have bm : Below w.heap.size w (w.alloc (.cells (Lib.byteCells xs).toArray 5)) := (Below.refl _ _).alloc (Nat.le_refl _) _
  have hs : (w.alloc (.cells (Lib.byteCells xs).toArray 5)).heap.size = w.heap.size + 1 := World.size_alloc _ _
  have ho' := World.ownsRow.alloc ho (.cells (Lib.byteCells xs).toArray 5)
  have hcell : ∀ (j : Nat) (u : Value), (Lib.byteCells xs)[j]? = some u → (w.alloc (.cells (Lib.byteCells xs).toArray 5)).cell? ⟨w.heap.size, j, none⟩ = some u := by
    intro j u hu
    have : (w.alloc (.cells (Lib.byteCells xs).toArray 5)).heap[w.heap.size]? = some (.cells (Lib.byteCells xs).toArray 5 (0, 0)) := heap_alloc_new w _
    rw [cell_of_row _ _ _ _ _ _ this, List.getElem?_toArray]
    exact hu
  obtain ⟨v', w', hr, h1, h2, _⟩ := run_append_own (P := Try.prog) (w.alloc (.cells (Lib.byteCells xs).toArray 5)) base 24 24 5 i (.int .u8 0) 1 1 Try.underlying24 hi z1 z2 z3 rfl (by omega) mv l.length (Lib.byteCells l) ho'
    ⟨w.heap.size, 0, none⟩ xs.length xs.length (Lib.byteCells xs) (by rw [byteCells_len, Nat.mul_one]) (fun j u hu => by
      rw [Go.WideShapes.add_plain, Nat.zero_add]
      exact hcell j u hu) (fun u hu => by simp only [Lib.byteCells, List.mem_map] at hu; obtain ⟨b, _, rfl⟩ := hu; rfl) (by simp only [maxLen]; omega) (by omega) (by rw [hs]; omega)
  refine ⟨v', w', hr, ?_, by have := h2.size; omega, ?_⟩
  · rw [B8, byteCells_app, List.length_append]
    exact h1
  · have hb2 : Below base (w.alloc (.cells (Lib.byteCells xs).toArray 5)) w' := by
      refine ⟨h2.os, h2.tape, h2.output, h2.size, fun j hj => h2.block j (by rw [hs]; omega) ?_⟩
      intro hk
      have := (ho'.lt j hk.symm).1
      omega
    exact (bm.mono hb).trans hb2
theorem B8.put1 {base : Nat} {w : World} {mv : Value} {l : Ch.L8} (ho : B8 base w mv l) (a : UInt8) (hn : l.length + 1 ≤ 140737488351232) (hb : base ≤ w.heap.size) :
    ∃ mv' w', (Builtin.append_ #[24, 24] 24 #[mv, .slice (some ⟨w.heap.size, 0, none⟩) 1 1]).run Try.prog (w.alloc (.cells #[.int .u8 (a.toNat : Int)] 5)) = .ok mv' w' ∧ B8 base w' mv' (l ++ [a]) ∧ w.heap.size ≤ w'.heap.size ∧ Below base w w' :=
  ho.puts [a] hn hb
theorem B8.put2 {base : Nat} {w : World} {mv : Value} {l : Ch.L8} (ho : B8 base w mv l) (a b : UInt8) (hn : l.length + 2 ≤ 140737488351232) (hb : base ≤ w.heap.size) :
    ∃ mv' w', (Builtin.append_ #[24, 24] 24 #[mv, .slice (some ⟨w.heap.size, 0, none⟩) 2 2]).run Try.prog (w.alloc (.cells #[.int .u8 (a.toNat : Int), .int .u8 (b.toNat : Int)] 5)) = .ok mv' w' ∧ B8 base w' mv' (l ++ [a, b]) ∧ w.heap.size ≤ w'.heap.size ∧ Below base w w' :=
  ho.puts [a, b] hn hb
theorem B8.put4 {base : Nat} {w : World} {mv : Value} {l : Ch.L8} (ho : B8 base w mv l) (a b c d : UInt8) (hn : l.length + 4 ≤ 140737488351232) (hb : base ≤ w.heap.size) :
    ∃ mv' w', (Builtin.append_ #[24, 24] 24 #[mv, .slice (some ⟨w.heap.size, 0, none⟩) 4 4]).run Try.prog (w.alloc (.cells #[.int .u8 (a.toNat : Int), .int .u8 (b.toNat : Int), .int .u8 (c.toNat : Int), .int .u8 (d.toNat : Int)] 5)) = .ok mv' w' ∧ B8 base w' mv' (l ++ [a, b, c, d]) ∧ w.heap.size ≤ w'.heap.size ∧ Below base w w' :=
  ho.puts [a, b, c, d] hn hb
/-- A row of one byte, as it is built. -/
theorem B8.one (w : World) (c : UInt8) : B8 w.heap.size (w.alloc (.cells #[.int .u8 (c.toNat : Int)] 5)) (.slice (some ⟨w.heap.size, 0, none⟩) 1 1) [c] :=
  ⟨rfl, .inr ⟨w.heap.size, 1, #[.int .u8 (c.toNat : Int)], rfl, Nat.le_refl _, heap_alloc_new w _, Nat.le_refl _, by simp only [maxLen]; omega, rfl, rfl⟩⟩
theorem B8.esc2 {base : Nat} {w : World} {mv : Value} {l : Ch.L8} (ho : B8 base w mv l) (b : UInt8) (hn : l.length + 2 ≤ 140737488351232) (hb : base ≤ w.heap.size) :
    ∃ mv' w', (Builtin.append_ #[24, 24] 24 #[mv, .slice (some ⟨w.heap.size, 0, none⟩) 2 2]).run Try.prog (w.alloc (.cells #[.int .u8 92, .int .u8 (b.toNat : Int)] 5)) = .ok mv' w' ∧ B8 base w' mv' (l ++ [92, b]) ∧ w.heap.size ≤ w'.heap.size ∧ Below base w w' :=
  ho.put2 92 b hn hb
theorem B8.esc4 {base : Nat} {w : World} {mv : Value} {l : Ch.L8} (ho : B8 base w mv l) (n : Nat) (h : n < 256) (hn : l.length + 4 ≤ 140737488351232) (hb : base ≤ w.heap.size) :
    ∃ mv' w', (Builtin.append_ #[24, 24] 24 #[mv, .slice (some ⟨w.heap.size, 0, none⟩) 4 4]).run Try.prog (w.alloc (.cells #[.int .u8 92, .int .u8 (48 + (n : Int) / 64), .int .u8 (48 + (n : Int) / 8 % 8), .int .u8 (48 + (n : Int) % 8)] 5)) = .ok mv' w' ∧ B8 base w' mv' (l ++ [92, UInt8.ofNat (48 + n / 64), UInt8.ofNat (48 + n / 8 % 8), UInt8.ofNat (48 + n % 8)]) ∧ w.heap.size ≤ w'.heap.size ∧ Below base w w' := by
  have e1 : ((UInt8.ofNat (48 + n / 64)).toNat : Int) = 48 + (n : Int) / 64 := by rw [UInt8.toNat_ofNat_of_lt' (by show 48 + n / 64 < 256; omega)]; omega
  have e2 : ((UInt8.ofNat (48 + n / 8 % 8)).toNat : Int) = 48 + (n : Int) / 8 % 8 := by rw [UInt8.toNat_ofNat_of_lt' (by show 48 + n / 8 % 8 < 256; omega)]; omega
  have e3 : ((UInt8.ofNat (48 + n % 8)).toNat : Int) = 48 + (n : Int) % 8 := by rw [UInt8.toNat_ofNat_of_lt' (by show 48 + n % 8 < 256; omega)]; omega
  have := ho.put4 92 (UInt8.ofNat (48 + n / 64)) (UInt8.ofNat (48 + n / 8 % 8)) (UInt8.ofNat (48 + n % 8)) hn hb
  rw [e1, e2, e3] at this
  exact this
end Go.Proofs.Ytcigpfnlkjoibaa
