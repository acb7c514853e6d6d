/-
  abacusref20: Stands, Join, Cat.
-/
import Derived.Test.YtgliefdefklfeaaChB
import Derived.Test.YtgliefdefklfeaaChRow
namespace Go.Proofs.Ytgliefdefklfeaa
open Go Go.RowKit Go.Deep Go.Shelf

theorem stands_occ (s t : ByteArray) (i : Nat) (hi : i + t.size ≤ s.size) : ((s.extract i (i + t.size)).toList == t.toList) = Lib.occAt s.data.toList t.data.toList i := (Lib.occ_of_piece s t i hi).symm
theorem occ_short (s t : ByteArray) (i : Nat) (h1 : 1 ≤ t.size) (hi : ¬ i + t.size ≤ s.size) : Lib.occAt s.data.toList t.data.toList i = false := by
  cases h : Lib.occAt s.data.toList t.data.toList i with
  | false => rfl
  | true =>
    rcases Lib.occAt_room h with q | q
    · rw [Ch.size_len, Ch.size_len] at q; exact absurd q hi
    · exact absurd q (Ch.sep_ne h1)
set_option maxRecDepth 100000 in
theorem rstands_any (s t : ByteArray) (i : Nat) (w : World) (hi : i ≤ s.size) (hs : s.size ≤ 140737488355328) (ht : t.size ≤ 140737488355328) :
    Calls Try.prog 19 #[.string s, .int .i64 (i : Int), .string t] w fun e w' => e = .returned (.bool (Lib.occAt s.data.toList t.data.toList i)) ∧ w' = w := by
  have hsi : (s.size : Int) ≤ 140737488355328 := by omega
  have hti : (t.size : Int) ≤ 140737488355328 := by omega
  have hii : (i : Int) ≤ (s.size : Int) := by omega
  by_cases h : i + t.size ≤ s.size
  · have E := stands_occ s t i h
    have hb : (t.size : Int) ≤ (s.size : Int) - (i : Int) := by omega
    have hc : (i : Int) + (t.size : Int) ≤ (s.size : Int) := by omega
    rw [← E]
    clear E hs ht h hi
    go_enter Try.func19, Try.ntmps19
    go_wp2_with fail
    go_ret
    exact ⟨rfl, rfl⟩
  · have hb : ¬ (t.size : Int) ≤ (s.size : Int) - (i : Int) := by omega
    rw [occ_short s t i (by omega) h]
    clear hs ht h hi
    go_enter Try.func19, Try.ntmps19
    go_wp2_with fail
    go_ret
    exact ⟨rfl, rfl⟩
end Go.Proofs.Ytgliefdefklfeaa
