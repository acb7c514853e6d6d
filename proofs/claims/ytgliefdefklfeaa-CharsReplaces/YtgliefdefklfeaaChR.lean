/-
  chars: places, Replace.
-/
import Derived.Test.YtgliefdefklfeaaChB
import Derived.Test.YtgliefdefklfeaaChRN
import Derived.Laws.Cover1
namespace Go.Proofs.Ytgliefdefklfeaa
open Go Go.RowKit Go.Deep Go.Shelf

namespace Ch
theorem emp_iff (s : ByteArray) : s.data.toList = [] ↔ s.size = 0 := by
  rw [← size_len]
  exact List.length_eq_zero_iff.symm
theorem toList_ne' {s : ByteArray} (h : s.size ≠ 0) : s.toList.isEmpty = false ∧ (s.toList == []) = false ∧ ¬ s.toList = [] := by
  have e : s.toList ≠ [] := by
    rw [ByteArray.toList_eq]
    intro c
    exact h ((emp_iff s).1 c)
  refine ⟨?_, ?_, e⟩
  · cases hx : s.toList with
    | nil => exact absurd hx e
    | cons _ _ => rfl
  · cases hx : s.toList with
    | nil => exact absurd hx e
    | cons _ _ => rfl
theorem size_zero' {s : ByteArray} (h : s.size = 0) : s = ⟨#[]⟩ := by
  rw [← tx_self s, (emp_iff s).2 h]
  rfl
end Ch

set_option maxRecDepth 100000 in
theorem cplaces_any (s old : ByteArray) (w : World) (h : ML w) (hs : s.size < 4294967281) :
    Calls Try.prog 26 #[.string s, .string old] w fun e w' => e = .returned (.int .i64 (Ch.cn s.data.toList old.data.toList : Int)) ∧ w' = w := by
  have hsi : (s.size : Int) < 4294967281 := by omega
  by_cases h0 : old.size = 0
  · have E : Hid ((Ch.cn s.data.toList old.data.toList : Int) = (s.size : Int) + 1) := by
      rw [Hid, Ch.cn, if_pos ((Ch.emp_iff old).2 h0), Ch.size_len]
      rfl
    obtain rfl := Ch.size_zero' h0
    clear h hs h0
    go_enter Try.func26, Try.ntmps26
    go_wp2_with fail
    go_ret
    exact ⟨by rw [E.out]; rfl, rfl⟩
  · obtain ⟨n1, n2, n3⟩ := Ch.toList_ne' h0
    have C := hid (scount_any s old w h hs (by omega))
    have E : Hid ((Ch.cn s.data.toList old.data.toList : Int) = (Lib.countB s old : Int)) := by
      rw [Hid, Ch.cn, if_neg (fun q => h0 ((Ch.emp_iff old).1 q)), Lib.countB]
    clear h hs h0
    generalize Lib.countB s old = c at *
    go_enter Try.func26, Try.ntmps26
    go_wp2_with fail
    refine C.out.mono ?_
    rintro e w1 ⟨rfl, hw⟩
    subst hw
    go_wp2_with fail
    go_ret
    exact ⟨by rw [E.out]; rfl, rfl⟩

/-- What Replace tells. -/
def RpTold (s old new : Ch.L8) (most : Int) (w : World) (e : Ending) (w' : World) : Prop :=
  e = .returned (.tuple #[.string (Ch.rT s old new most), .int .i64 (Ch.rC s old new most : Int), .int .i64 (Ch.rE s old new most)]) ∧ Below w.heap.size w w'

namespace Ch
/-- One step where old is not empty. -/
theorem rk_hit {old new : L8} (hold : old ≠ []) {k : Nat} {s : L8} (h : k + 1 ≤ cn s old) : ∃ i : Nat, Lib.index s old = i ∧ i + old.length ≤ s.length ∧ k ≤ cn (s.drop (i + old.length)) old ∧ rk old new (k + 1) s = s.take i ++ new ++ rk old new k (s.drop (i + old.length)) := by
  rw [cn, if_neg hold] at h
  obtain ⟨i, h1, h2, h3, _⟩ := count_at hold h
  refine ⟨i, h1, h2, by rw [cn, if_neg hold]; exact h3, ?_⟩
  rw [rk, if_neg hold, rk, if_neg hold]
  exact Lib.replaceK_hit old new k s i h1
end Ch

/-- Replace's loop: what is written and what is left. -/
def RS (w0 : World) (bb : Nat) (old new T : Ch.L8) (m : Nat) (cur : ByteArray) (wk : World) : Prop :=
  ∃ acc : Ch.L8, CB w0 bb acc wk ∧ acc ++ Ch.rk old new m cur.data.toList = T ∧ m ≤ Ch.cn cur.data.toList old
end Go.Proofs.Ytgliefdefklfeaa
