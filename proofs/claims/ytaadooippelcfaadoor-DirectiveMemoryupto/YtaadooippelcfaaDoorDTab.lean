/-
  The table of powers of ten, out of what a row of stage 13 lays.
-/
import Derived.Test.YtaadooippelcfaaDoorDWrite
import Derived.Lib.LaidTab
namespace Go.Proofs.YtaadooippelcfaaDoor
open Go Go.RowKit Go.Deep

theorem dlaid_tail {P : Program} {W : World} {x : String × DataW Unit} {rest : List (String × DataW Unit)} (h : laidMet P (x :: rest) W) : laidMet P rest W := by
  obtain ⟨ps, ⟨g, t, cs, fuel, p, q, _, _, _, _, hr, rfl⟩, hn, hc⟩ := h
  exact ⟨q, hr, (List.nodup_append.1 hn).2.1, fun b off hm => hc b off (List.mem_append_right _ hm)⟩

theorem dpow_laid : (Rows.laid_internal_strconv_uint64pow10 : DataW Unit) = Lib.tabData .u64 Lib.pow10Tab := by kernel_rfl

theorem table13 {W : World} {a b : String × DataW Unit} (h : laidMet Tryd.prog [a, b, ("internal/strconv.uint64pow10", Rows.laid_internal_strconv_uint64pow10)] W) : T10 W.heap.size W := by
  have h2 := dlaid_tail (dlaid_tail h)
  rw [dpow_laid] at h2
  exact T10.of (Lib.tabIs_of_head (g := 1) (t := 100) (e := 91) (n := 20) (by kernel_rfl) (by kernel_rfl) Tryd.underlying100 Tryd.underlying91 (by kernel_rfl) (by kernel_rfl) h2)
end Go.Proofs.YtaadooippelcfaaDoor
