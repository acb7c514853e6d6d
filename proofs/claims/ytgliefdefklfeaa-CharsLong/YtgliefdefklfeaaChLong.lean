/-
  law20: row, CharsLong.
-/
import Derived.Test.YtgliefdefklfeaaChJ
import Derived.Test.YtgliefdefklfeaaChR2
import Derived.Lib.Split
namespace Go.Proofs.Ytgliefdefklfeaa
open Go Go.RowKit Go.Deep Go.Shelf

namespace Ch
theorem idx_end {l : L8} {d : UInt8} (h : ∀ x ∈ l, x ≠ d) : Lib.index (l ++ [d]) [d] = (l.length : Int) := by
  refine Lib.index_hit (fun j hj => ?_) (by simp) ?_
  · have hlt : j < (l ++ [d]).length := by simp; omega
    unfold Lib.occAt
    rw [List.drop_eq_getElem_cons hlt, List.getElem_append_left hj]
    have := h l[j] (List.getElem_mem hj)
    simp [List.isPrefixOf, Ne.symm this]
  · unfold Lib.occAt
    rw [List.drop_left]
    simp [List.isPrefixOf]
theorem idx_no {l : L8} {d : UInt8} (h : ∀ x ∈ l, x ≠ d) : Lib.index l [d] = -1 := by
  refine Lib.index_none fun j hj => ?_
  unfold Lib.occAt
  rcases Nat.lt_or_ge j l.length with q | q
  · rw [List.drop_eq_getElem_cons q]
    have := h l[j] (List.getElem_mem q)
    simp [List.isPrefixOf, Ne.symm this]
  · rw [List.drop_eq_nil_of_le q]
    rfl
theorem cnt_end {l : L8} {d : UInt8} (h : ∀ x ∈ l, x ≠ d) : Lib.count (l ++ [d]) [d] = 1 := by
  rw [Lib.count_hit (by simp) (idx_end h), List.drop_eq_nil_of_le (by simp), Lib.count_miss (idx_no (by simp))]
theorem rep_end {l : L8} {d : UInt8} (h : ∀ x ∈ l, x ≠ d) (new : L8) : rk [d] new 1 (l ++ [d]) = l ++ new := by
  rw [rk, if_neg (by simp), Lib.replaceK_hit [d] new 0 _ l.length (idx_end h), List.take_left, List.drop_eq_nil_of_le (by simp)]
  simp [Lib.replaceK]
theorem cn_end {l : L8} {d : UInt8} (h : ∀ x ∈ l, x ≠ d) : cn (l ++ [d]) [d] = 1 := by rw [cn, if_neg (by simp), cnt_end h]
theorem cn_no {l : L8} {d : UInt8} (h : ∀ x ∈ l, x ≠ d) : cn l [d] = 0 := by rw [cn, if_neg (by simp), Lib.count_miss (idx_no h)]
/-- A row of n bytes a. -/
def ra (n : Nat) : L8 := List.replicate n 97
theorem ra_len (n : Nat) : (ra n).length = n := List.length_replicate
theorem ra_mem {n : Nat} {x : UInt8} (h : x ∈ ra n) : x = 97 := List.eq_of_mem_replicate h
theorem ra_set (n k : Nat) (h : k < n) : (ra k ++ List.replicate (n - k) (0 : UInt8)).set k 97 = ra (k + 1) ++ List.replicate (n - (k + 1)) 0 := by
  rw [List.set_append_right _ _ (by rw [ra_len]; exact Nat.le_refl _), ra_len, Nat.sub_self, show n - k = (n - (k + 1)) + 1 by omega, List.replicate_succ, List.set_cons_zero]
  rw [ra, ra, List.replicate_succ', List.append_assoc]
  rfl
theorem app_data (a b : ByteArray) : (a ++ b).data.toList = a.data.toList ++ b.data.toList := by simp
end Ch
theorem tr_allocL (wx : World) (ys : List ByteArray) : TR (wx.alloc (.cells (ys.map Value.string).toArray 9)) (some ⟨wx.heap.size, 0, none⟩) ys := .inr ⟨_, 0, rfl, fun i x hi => by
  have := heap_alloc_new wx (.cells (ys.map Value.string).toArray 9)
  rw [cell_of_row _ _ _ _ _ _ this, Nat.zero_add]
  simp [hi]⟩
theorem bm_zeros (n : Nat) (w : World) : BM (w.alloc (.cells (madeCells #[.int .u8 0] n) 5)) w.heap.size (Ch.ra 0 ++ List.replicate (n - 0) 0) := by
  refine ⟨_, _, _, heap_alloc_new w _, .inr rfl, fun i hi => ?_⟩
  have hi' : i < n := by simpa [Ch.ra] using hi
  simp [madeCells, Nat.mod_one, hi', Ch.ra, List.getD]

set_option maxRecDepth 100000 in
set_option maxHeartbeats 2000000 in
theorem lrow_any (n : Nat) (w : World) (hn : n ≤ 16777216) :
    Calls Try.prog 13 #[.int .i64 (n : Int)] w fun e w' => e = .returned (.string (Ch.tx (Ch.ra n))) ∧ Below w.heap.size w w' := by
  have hmk := run_make_row' (P := Try.prog) 42 5 (.int .u8 0) 1 Try.underlying42 info_u8 rfl .i64 .i64 n (by omega) (by omega)
  have S0 : Hid (BM (w.alloc (.cells (madeCells #[.int .u8 0] n) 5)) w.heap.size (Ch.ra 0 ++ List.replicate (n - 0) 0) ∧ Below w.heap.size w (w.alloc (.cells (madeCells #[.int .u8 0] n) 5))) := ⟨bm_zeros n w, alloc_b w _⟩
  have hni : (n : Int) ≤ 16777216 := by omega
  clear hn
  go_enter Try.func13, Try.ntmps13
  go_wp2_with fail
  clear hmk
  generalize w.alloc (.cells (madeCells #[.int .u8 0] n) 5) = wA at *
  go_loopg [4] n (fun m iv wr => ∃ k : Nat, k + m = n ∧ iv = .int .i64 (k : Int) ∧ Hid (BM wr w.heap.size (Ch.ra k ++ List.replicate (n - k) 0) ∧ Below w.heap.size w wr))
  case atStart => exact ⟨0, by omega, rfl, S0.out⟩
  case round =>
    obtain ⟨k, hk, rfl, J⟩ := hrel
    clear S0
    have hlen : (Ch.ra k ++ List.replicate (n - k) (0 : UInt8)).length = n := by rw [List.length_append, Ch.ra_len, List.length_replicate]; omega
    by_cases kl : k < n
    · have kli : (k : Int) < (n : Int) := by omega
      have hc := J.out.1.cell (i := k) (by rw [hlen]; exact kl)
      have hf := J.out.1.free (i := k) (by rw [hlen]; exact kl)
      have hS := J.out.1.set k 97 (by rw [hlen]; exact kl)
      rw [Ch.ra_set n k kl] at hS
      have F : Hid (BM (wr.setCell ⟨w.heap.size, k, none⟩ (.int .u8 97)) w.heap.size (Ch.ra (k + 1) ++ List.replicate (n - (k + 1)) 0) ∧ Below w.heap.size w (wr.setCell ⟨w.heap.size, k, none⟩ (.int .u8 97))) := ⟨hS, J.out.2.setCell (Nat.le_refl _) _⟩
      clear hS J hlen
      generalize (((Ch.ra k ++ List.replicate (n - k) 0).getD k 0).toNat : Int) = old at *
      go_wp2_with fail
      go_roundg (n - (k + 1))
      case measure => omega
      case rel => exact ⟨k + 1, by omega, by go_num, F⟩
    · have kli : ¬ (k : Int) < (n : Int) := by omega
      have kn : k = n := by omega
      have q := J.out
      rw [kn, Nat.sub_self, List.replicate_zero, List.append_nil] at q
      have CV := q.1.conv (cap := n)
      rw [Ch.ra_len] at CV
      have FB := hid q.2
      clear q J kn hlen
      generalize hTX : Ch.tx (Ch.ra n) = TX at *
      have HT := hid hTX
      clear hTX
      go_wp2_with fail
      go_ret
      exact ⟨by rw [HT.out]; rfl, FB.out⟩
end Go.Proofs.Ytgliefdefklfeaa
