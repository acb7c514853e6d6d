/-
  The table of powers of ten, out of what a row lays.
-/
import Derived.Test.YtjghlpkjbfaoiaaDoorVItoa
import Derived.Lib.LaidTab
namespace Go.Proofs.YtjghlpkjbfaoiaaDoor
open Go Go.RowKit Go.Deep

theorem laid_tail {P : Program} {W : World} {x : String × DataW Unit} {rest : List (String × DataW Unit)} (h : laidMet P (x :: rest) W) : laidMet P rest W := by
  obtain ⟨ps, ⟨g, t, cs, fuel, p, q, _, _, _, _, hr, rfl⟩, hn, hc⟩ := h
  exact ⟨q, hr, (List.nodup_append.1 hn).2.1, fun b off hm => hc b off (List.mem_append_right _ hm)⟩

theorem pow_laid : (Rows.laid_internal_strconv_uint64pow10 : DataW Unit) = Lib.tabData .u64 Lib.pow10Tab := by kernel_rfl

theorem table10 {W : World} {a b c d : String × DataW Unit} (h : laidMet Tryd.prog [a, b, ("internal/strconv.uint64pow10", Rows.laid_internal_strconv_uint64pow10), c, d] W) : Tab10 W := by
  have h2 := laid_tail (laid_tail h)
  rw [pow_laid] at h2
  exact Lib.tabIs_of_head (g := 1) (t := 98) (e := 88) (n := 20) (by kernel_rfl) (by kernel_rfl) Tryd.underlying98 Tryd.underlying88 (by kernel_rfl) (by kernel_rfl) h2
end Go.Proofs.YtjghlpkjbfaoiaaDoor
