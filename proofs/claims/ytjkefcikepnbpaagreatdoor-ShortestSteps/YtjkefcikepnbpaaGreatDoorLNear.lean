/-
  law12: near, in the last place.
-/
import Derived.Test.YtjkefcikepnbpaaGreatDoorWAB
import Derived.Test.YtjkefcikepnbpaaGreatDoorWAA
import Derived.Test.YtjkefcikepnbpaaGreatDoorWAI
import Derived.Deep.RegionHeld3
import Derived.Deep.CutBlock
import Derived.Deep.CutRange
import Derived.Deep.LoopGhost
namespace Go.Proofs.YtjkefcikepnbpaaGreatDoor
open Go Go.RowKit Go.Deep

namespace Sh
theorem dv_set {zs : List Int} {i : Nat} (h : i < zs.length) (v : Int) : dv (zs.set i v) = dv zs + (v - zs.getD i 0) * 10 ^ (zs.length - 1 - i) := by
  have e1 : zs = zs.take i ++ zs.getD i 0 :: zs.drop (i + 1) := by
    conv => lhs; rw [← List.take_append_drop i zs, List.drop_eq_getElem_cons h]
    simp [List.getD, List.getElem?_eq_getElem h]
  have e2 : zs.set i v = zs.take i ++ v :: zs.drop (i + 1) := by
    rw [List.set_eq_take_append_cons_drop, if_pos h]
  have l1 : (zs.drop (i + 1)).length = zs.length - 1 - i := by rw [List.length_drop]; omega
  rw [e2, dv_append, dv_cons, l1]
  conv => rhs; rw [e1]
  rw [dv_append, dv_cons, l1, List.length_cons, List.length_cons, ← e1]
  rw [show (zs.getD i 0 - 48) * 10 ^ (zs.length - 1 - i) + dv (zs.drop (i + 1)) = (zs.getD i 0) * 10 ^ (zs.length - 1 - i) - 48 * 10 ^ (zs.length - 1 - i) + dv (zs.drop (i + 1)) by rw [Int.sub_mul]]
  rw [Int.sub_mul, Int.sub_mul]
  omega
theorem digs_set {zs : List Int} {i : Nat} {v : Int} (h : Digs zs) (hv : 48 ≤ v ∧ v ≤ 57) : Digs (zs.set i v) := fun d hd => by
  rcases List.mem_or_eq_of_mem_set hd with q | q
  · exact h d q
  · rw [q]; exact hv
theorem digs_get {zs : List Int} {i : Nat} (h : Digs zs) (hi : i < zs.length) : 48 ≤ zs.getD i 0 ∧ zs.getD i 0 ≤ 57 := by
  have := h _ (List.getElem_mem hi)
  simpa [List.getD, List.getElem?_eq_getElem hi] using this
theorem get_set0 {zs : List Int} {k : Nat} {v : Int} (hk : 0 < k) : (zs.set k v).getD 0 0 = zs.getD 0 0 := by
  rw [List.getD_eq_getElem?_getD, List.getElem?_set_ne (by omega), List.getD_eq_getElem?_getD]

/-- A row on its way one step up (q = 1) or down (q = -1), the step still owed at the place k. -/
structure Stp (T q : Int) (N k : Nat) (zs : List Int) : Prop where
  len : zs.length = N
  digs : Digs zs
  head : zs.getD 0 0 = 48
  kN : k < N
  eq : dv zs + q * 10 ^ (N - 1 - k) = T
theorem Stp.first {xs : List Int} (h : Digs xs) (q : Int) : Stp (dv xs + q) q (xs.length + 1) xs.length (48 :: xs) := by
  refine ⟨by simp, fun d hd => ?_, rfl, by omega, ?_⟩
  · rcases List.mem_cons.1 hd with z | z
    · omega
    · exact h d z
  · rw [dv_cons]
    simp
theorem Stp.on {T q : Int} {N k : Nat} {zs : List Int} (h : Stp T q N k zs) (hk : 0 < k) {v : Int} (hv : 48 ≤ v ∧ v ≤ 57) (hq : v - zs.getD k 0 = - 9 * q) : Stp T q N (k - 1) (zs.set k v) := by
  have kN := h.kN
  refine ⟨by rw [List.length_set, h.len], digs_set h.digs hv, by rw [get_set0 hk]; exact h.head, by omega, ?_⟩
  rw [dv_set (by rw [h.len]; exact kN), h.len, hq, ← h.eq, show N - 1 - (k - 1) = (N - 1 - k) + 1 by omega, Int.pow_succ, ← Int.mul_assoc]
  generalize (10 : Int) ^ (N - 1 - k) = P
  rw [Int.mul_assoc (-9) q P]
  omega
theorem Stp.last {T q : Int} {N k : Nat} {zs : List Int} (h : Stp T q N k zs) {v : Int} (hv : 48 ≤ v ∧ v ≤ 57) (hq : v = zs.getD k 0 + q) : dv (zs.set k v) = T ∧ Digs (zs.set k v) ∧ (zs.set k v).length = N := by
  refine ⟨?_, digs_set h.digs hv, by rw [List.length_set, h.len]⟩
  rw [dv_set (by rw [h.len]; exact h.kN), h.len, hq, ← h.eq]
  congr 2
  omega
theorem Stp.low {T : Int} {N k : Nat} {zs : List Int} (h : Stp T (-1) N k zs) (hT : 0 ≤ T) (hk : k = 0 ∨ zs.getD k 0 ≠ 48) : 49 ≤ zs.getD k 0 := by
  have kN := h.kN
  have b := digs_get h.digs (show k < zs.length by rw [h.len]; exact kN)
  rcases hk with rfl | c
  · exfalso
    have e := h.eq
    have hl := h.len
    have hh := h.head
    match zs, hl with
    | x :: ys, hl =>
      simp at hh
      subst hh
      have d2 := dv_bd (ds := ys) (fun d hd => h.digs d (by simp [hd]))
      rw [dv_cons] at e
      have l2 : ys.length = N - 1 - 0 := by simp at hl; omega
      rw [l2] at d2
      rw [l2] at e
      generalize (10 : Int) ^ (N - 1 - 0) = P at *
      omega
  · omega
end Sh

/-- The row in its block, the boxes, and what has changed. -/
def NrS (w : World) (neg : Bool) (s : ByteArray) (e : Int) (N : Nat) (zs : List Int) (wr : World) : Prop :=
  ∃ es, OwnL wr (w.heap.size + 2) es ∧ N ≤ es.length ∧ es.take N = zs ∧ FR3 wr w.heap.size (.bool neg) (.string s) (.int .i64 e) ∧ FR3 wr (w.heap.size + 1) (.bool false) (.string ⟨#[]⟩) (.int .i64 0) ∧ Below w.heap.size w wr
theorem NrS.cell {w : World} {neg : Bool} {s : ByteArray} {e : Int} {N : Nat} {zs : List Int} {wr : World} (h : NrS w neg s e N zs wr) {i : Nat} (hi : i < N) : wr.cell? ⟨w.heap.size + 2, i, none⟩ = some (.int .u8 (zs.getD i 0)) := by
  obtain ⟨es, o, l, rfl, _⟩ := h
  rw [o.cell i (by omega), Nm.getD_take, if_pos hi]
theorem NrS.free {w : World} {neg : Bool} {s : ByteArray} {e : Int} {N : Nat} {zs : List Int} {wr : World} (h : NrS w neg s e N zs wr) {i : Nat} (hi : i < N) : wr.frozen? ⟨w.heap.size + 2, i, none⟩ = false := by
  obtain ⟨es, o, l, _⟩ := h
  exact o.free i (by omega)
theorem NrS.set {w : World} {neg : Bool} {s : ByteArray} {e : Int} {N : Nat} {zs : List Int} {wr : World} (h : NrS w neg s e N zs wr) (i : Nat) (v : Int) : NrS w neg s e N (zs.set i v) (wr.setCell ⟨w.heap.size + 2, i, none⟩ (.int .u8 v)) := by
  obtain ⟨es, o, l, rfl, x, y, b⟩ := h
  exact ⟨es.set i v, o.set i v, by rw [List.length_set]; exact l, by rw [List.take_set], x.far (by omega), y.far (by omega), b.setCell (p := ⟨w.heap.size + 2, i, none⟩) (by show w.heap.size ≤ w.heap.size + 2; omega) _⟩
theorem NrS.str {w : World} {neg : Bool} {s : ByteArray} {e : Int} {N : Nat} {zs : List Int} {wr : World} (h : NrS w neg s e N zs wr) (hd : Digs zs) (cap : Nat) : ∃ t, Str t zs ∧ (convert 38 9 (.slice (some ⟨w.heap.size + 2, 0, none⟩) N cap)).run Tryz.prog wr = .ok (.string t) wr := by
  obtain ⟨es, o, l, rfl, _⟩ := h
  exact own_strL o l hd

end Go.Proofs.YtjkefcikepnbpaaGreatDoor
