/-
  abacusref20: changed, Lower, Upper.
-/
import Derived.Test.YtgliefdefklfeaaChI
namespace Go.Proofs.Ytgliefdefklfeaa
open Go Go.RowKit Go.Deep Go.Shelf

/-- Bytes at the head of a block, which may be written. -/
def BM (w : World) (g : Nat) (l : Ch.L8) : Prop := ∃ (es : Array Value) (lo hi : Nat), w.heap[g]? = some (.cells es 5 (lo, hi)) ∧ (es.size ≤ lo ∨ hi = 0) ∧ ∀ i, i < l.length → es[i]? = some (.int .u8 ((l.getD i 0).toNat : Int))
theorem BM.cell {w : World} {g : Nat} {l : Ch.L8} (h : BM w g l) {i : Nat} (hi : i < l.length) : w.cell? ⟨g, i, none⟩ = some (.int .u8 ((l.getD i 0).toNat : Int)) := by
  obtain ⟨es, lo, hh, hb, _, hc⟩ := h
  rw [cell_of_row _ _ _ _ _ _ hb]
  exact hc i hi
theorem BM.free {w : World} {g : Nat} {l : Ch.L8} (h : BM w g l) {i : Nat} (hi : i < l.length) : w.frozen? ⟨g, i, none⟩ = false := by
  obtain ⟨es, lo, hh, hb, hf, hc⟩ := h
  have hlt : i < es.size := (Array.getElem?_eq_some_iff.1 (hc i hi)).1
  simp only [World.frozen?, hb]
  rcases hf with hf | hf
  · have : ¬ lo ≤ i := by omega
    simp [this]
  · have : ¬ i < hh := by omega
    simp [this]
theorem BM.set {w : World} {g : Nat} {l : Ch.L8} (h : BM w g l) (k : Nat) (c : UInt8) (hk : k < l.length) : BM (w.setCell ⟨g, k, none⟩ (.int .u8 (c.toNat : Int))) g (l.set k c) := by
  obtain ⟨es, lo, hh, hb, hf, hc⟩ := h
  refine ⟨es.setIfInBounds k (.int .u8 (c.toNat : Int)), lo, hh, ?_, by rw [Array.size_setIfInBounds]; exact hf, fun i hi => ?_⟩
  · simp [World.setCell, Array.getElem?_modify, hb]
  · rw [List.length_set] at hi
    have hlt : i < es.size := (Array.getElem?_eq_some_iff.1 (hc i hi)).1
    by_cases e : k = i
    · subst e
      rw [Array.getElem?_setIfInBounds_self_of_lt hlt]
      simp [List.getD, hk]
    · rw [Array.getElem?_setIfInBounds_ne e, hc i hi]
      simp [List.getD, List.getElem?_set_ne e]
theorem BM.below {w w' : World} {g : Nat} {l : Ch.L8} (h : BM w g l) (b : Below w.heap.size w w') : BM w' g l := by
  obtain ⟨es, lo, hh, hb, hf, hc⟩ := h
  exact ⟨es, lo, hh, by rw [b.block g (Array.getElem?_eq_some_iff.1 hb).1]; exact hb, hf, hc⟩
theorem BM.conv {w : World} {g cap : Nat} {l : Ch.L8} (h : BM w g l) : (convert 42 9 (.slice (some ⟨g, 0, none⟩) l.length cap)).run Try.prog w = .ok (.string (Ch.tx l)) w := by
  refine run_convert_bytes_back (P := Try.prog) w 42 9 5 ⟨g, 0, none⟩ cap l Try.underlying42 Try.underlying5 Try.underlying9 fun j hj => ?_
  rw [Go.WideShapes.add_plain, Nat.zero_add, h.cell hj]
  simp [List.getD, List.getElem?_eq_getElem hj]
theorem bm_made (s : ByteArray) (w : World) : ∃ (cap : Nat) (w1 : World), (convert 9 42 (.string s)).run Try.prog w = .ok (.slice (some ⟨w.heap.size, 0, none⟩) s.size cap) w1 ∧ BM w1 w.heap.size s.data.toList ∧ Below w.heap.size w w1 := by
  have CV := run_bytes_of_string (P := Try.prog) w 9 42 5 s Try.underlying9 Try.underlying42 Try.underlying5
  refine ⟨_, _, CV, ⟨_, _, _, heap_alloc_new w.drew _, .inl (Nat.le_refl _), fun i hi => ?_⟩, (below_drewN (Below.refl _ _) 1).alloc (Nat.le_refl _) _⟩
  have hs : i < s.data.size := by rw [← Array.length_toList]; exact hi
  unfold bytesRow
  rw [Array.getElem?_append_left (by rw [Array.size_map]; exact hs), Array.getElem?_map, Array.getElem?_eq_getElem hs]
  simp [List.getD, List.getElem?_eq_getElem hi]
namespace Ch
theorem mix_at (f : UInt8 → UInt8) (l : L8) (k : Nat) (h : k < l.length) : ((l.take k).map f ++ l.drop k).getD k 0 = l.getD k 0 := by
  have e : ((l.take k).map f).length = k := by rw [List.length_map, List.length_take]; omega
  simp only [List.getD_eq_getElem?_getD]
  rw [List.getElem?_append_right (by omega), e, Nat.sub_self, List.getElem?_drop]
  rfl
theorem mix_len (f : UInt8 → UInt8) (l : L8) (k : Nat) : ((l.take k).map f ++ l.drop k).length = l.length := by
  rw [List.length_append, List.length_map, List.length_take, List.length_drop]; omega
theorem mix_set (f : UInt8 → UInt8) (l : L8) (k : Nat) (h : k < l.length) : ((l.take k).map f ++ l.drop k).set k (f (l.getD k 0)) = (l.take (k + 1)).map f ++ l.drop (k + 1) := by
  have e : ((l.take k).map f).length = k := by rw [List.length_map, List.length_take]; omega
  rw [map_take1 f l k h, List.set_append_right _ _ (by omega), e, Nat.sub_self, List.drop_eq_getElem_cons h, List.set_cons_zero, List.append_assoc]
  rfl
theorem mix_same (f : UInt8 → UInt8) (l : L8) (k : Nat) (h : k < l.length) (hf : f (l.getD k 0) = l.getD k 0) : (l.take k).map f ++ l.drop k = (l.take (k + 1)).map f ++ l.drop (k + 1) := by
  have e : l.getD k 0 = l[k] := by simp [List.getD, List.getElem?_eq_getElem h]
  rw [map_take1 f l k h, hf, List.drop_eq_getElem_cons h, e, List.append_assoc]
  rfl
end Ch

set_option maxRecDepth 100000 in
set_option maxHeartbeats 2000000 in
theorem rchange_low (s : ByteArray) (w : World) (hs : s.size ≤ 140737488351232) :
    Calls Try.prog 20 #[.string s, .int .u8 65, .int .u8 90, .int .i64 (32)] w fun e w' => e = .returned (.string (Ch.tx (s.data.toList.map Ch.lowc))) ∧ Below w.heap.size w w' := by
  obtain ⟨cap, w1, cv, hM, hB⟩ := bm_made s w
  have HL := hid (Ch.size_len s)
  have MX0 : Hid (BM w1 w.heap.size ((s.data.toList.take 0).map Ch.lowc ++ s.data.toList.drop 0) ∧ Below w.heap.size w w1) := ⟨by simpa using hM, hB⟩
  have hsi : (s.size : Int) ≤ 140737488351232 := by omega
  generalize s.data.toList = l at *
  clear hM hB hs
  go_enter Try.func20, Try.ntmps20
  go_wp2_with fail
  clear cv
  go_loopg [10] s.size (fun m iv wr => ∃ k : Nat, k + m = s.size ∧ iv = .int .i64 (k : Int) ∧ Hid (BM wr w.heap.size ((l.take k).map Ch.lowc ++ l.drop k) ∧ Below w.heap.size w wr))
  case atStart => exact ⟨0, by omega, rfl, MX0.out⟩
  case round =>
    obtain ⟨k, hk, rfl, J⟩ := hrel
    clear MX0
    by_cases kl : k < s.size
    · have kli : (k : Int) < (s.size : Int) := by omega
      have kl2 : k < l.length := by rw [HL.out]; exact kl
      have hc := J.out.1.cell (i := k) (by rw [Ch.mix_len]; exact kl2)
      have hf := J.out.1.free (i := k) (by rw [Ch.mix_len]; exact kl2)
      have hS := J.out.1.set k (Ch.lowc (l.getD k 0)) (by rw [Ch.mix_len]; exact kl2)
      rw [Ch.mix_set Ch.lowc l k kl2] at hS
      rw [Ch.mix_at Ch.lowc l k kl2] at hc
      have SM := hid (Ch.mix_same Ch.lowc l k kl2)
      have hBs : Hid (∀ v, Below w.heap.size w (wr.setCell ⟨w.heap.size, k, none⟩ v)) := fun v => J.out.2.setCell (Nat.le_refl _) _
      have HS := hid hS
      clear hS kl2
      generalize l.getD k 0 = c at *
      have b0 : (0 : Int) ≤ (c.toNat : Int) := by omega
      have b1 : (c.toNat : Int) < 256 := by have := c.toNat_lt; omega
      by_cases hin : 65 ≤ c.toNat ∧ c.toNat ≤ 90
      · have e1 : (65 : Int) ≤ (c.toNat : Int) := by omega
        have e2 : (c.toNat : Int) ≤ 90 := by omega
        have e3 := Ch.lowc_in hin
        rw [e3] at HS
        clear e3 hin SM
        generalize (c.toNat : Int) = n at *
        have ew : (n + (32)) % 256 = n + (32) := by omega
        have F : Hid (BM (wr.setCell ⟨w.heap.size, k, none⟩ (.int .u8 (n + (32)))) w.heap.size ((l.take (k + 1)).map Ch.lowc ++ l.drop (k + 1)) ∧ Below w.heap.size w (wr.setCell ⟨w.heap.size, k, none⟩ (.int .u8 (n + (32))))) := ⟨by have q := HS.out; first | exact q | (rw [Int.sub_eq_add_neg] at q; exact q), hBs.out _⟩
        clear HS hBs J
        go_wp2_with fail
        go_roundg (s.size - (k + 1))
        case measure => omega
        case rel => exact ⟨k + 1, by omega, by go_num, F⟩
      · have SM2 := SM.out (Ch.lowc_out hin)
        have F : Hid (BM wr w.heap.size ((l.take (k + 1)).map Ch.lowc ++ l.drop (k + 1)) ∧ Below w.heap.size w wr) := by rw [← SM2]; exact J.out
        clear HS hBs J SM SM2
        by_cases h1 : 65 ≤ c.toNat
        · have e1 : (65 : Int) ≤ (c.toNat : Int) := by omega
          have e2 : ¬ (c.toNat : Int) ≤ 90 := by omega
          clear hin h1
          generalize (c.toNat : Int) = n at *
          go_wp2_with fail
          go_roundg (s.size - (k + 1))
          case measure => omega
          case rel => exact ⟨k + 1, by omega, by go_num, F⟩
        · have e1 : ¬ (65 : Int) ≤ (c.toNat : Int) := by omega
          clear hin h1
          generalize (c.toNat : Int) = n at *
          go_wp2_with fail
          go_roundg (s.size - (k + 1))
          case measure => omega
          case rel => exact ⟨k + 1, by omega, by go_num, F⟩
    · have kli : ¬ (k : Int) < (s.size : Int) := by omega
      have q := J.out
      rw [List.take_of_length_le (by rw [HL.out]; omega), List.drop_eq_nil_of_le (by rw [HL.out]; omega), List.append_nil] at q
      have CV := q.1.conv (cap := cap)
      rw [List.length_map, HL.out] at CV
      have FB := hid q.2
      clear q J
      generalize hTX : Ch.tx (l.map Ch.lowc) = TX at *
      have HT := hid hTX
      clear hTX
      go_wp2_with fail
      go_ret
      exact ⟨by rw [HT.out]; rfl, FB.out⟩

set_option maxRecDepth 100000 in
set_option maxHeartbeats 2000000 in
theorem rchange_up (s : ByteArray) (w : World) (hs : s.size ≤ 140737488351232) :
    Calls Try.prog 20 #[.string s, .int .u8 97, .int .u8 122, .int .i64 (-32)] w fun e w' => e = .returned (.string (Ch.tx (s.data.toList.map Ch.upc))) ∧ Below w.heap.size w w' := by
  obtain ⟨cap, w1, cv, hM, hB⟩ := bm_made s w
  have HL := hid (Ch.size_len s)
  have MX0 : Hid (BM w1 w.heap.size ((s.data.toList.take 0).map Ch.upc ++ s.data.toList.drop 0) ∧ Below w.heap.size w w1) := ⟨by simpa using hM, hB⟩
  have hsi : (s.size : Int) ≤ 140737488351232 := by omega
  generalize s.data.toList = l at *
  clear hM hB hs
  go_enter Try.func20, Try.ntmps20
  go_wp2_with fail
  clear cv
  go_loopg [10] s.size (fun m iv wr => ∃ k : Nat, k + m = s.size ∧ iv = .int .i64 (k : Int) ∧ Hid (BM wr w.heap.size ((l.take k).map Ch.upc ++ l.drop k) ∧ Below w.heap.size w wr))
  case atStart => exact ⟨0, by omega, rfl, MX0.out⟩
  case round =>
    obtain ⟨k, hk, rfl, J⟩ := hrel
    clear MX0
    by_cases kl : k < s.size
    · have kli : (k : Int) < (s.size : Int) := by omega
      have kl2 : k < l.length := by rw [HL.out]; exact kl
      have hc := J.out.1.cell (i := k) (by rw [Ch.mix_len]; exact kl2)
      have hf := J.out.1.free (i := k) (by rw [Ch.mix_len]; exact kl2)
      have hS := J.out.1.set k (Ch.upc (l.getD k 0)) (by rw [Ch.mix_len]; exact kl2)
      rw [Ch.mix_set Ch.upc l k kl2] at hS
      rw [Ch.mix_at Ch.upc l k kl2] at hc
      have SM := hid (Ch.mix_same Ch.upc l k kl2)
      have hBs : Hid (∀ v, Below w.heap.size w (wr.setCell ⟨w.heap.size, k, none⟩ v)) := fun v => J.out.2.setCell (Nat.le_refl _) _
      have HS := hid hS
      clear hS kl2
      generalize l.getD k 0 = c at *
      have b0 : (0 : Int) ≤ (c.toNat : Int) := by omega
      have b1 : (c.toNat : Int) < 256 := by have := c.toNat_lt; omega
      by_cases hin : 97 ≤ c.toNat ∧ c.toNat ≤ 122
      · have e1 : (97 : Int) ≤ (c.toNat : Int) := by omega
        have e2 : (c.toNat : Int) ≤ 122 := by omega
        have e3 := Ch.upc_in hin
        rw [e3] at HS
        clear e3 hin SM
        generalize (c.toNat : Int) = n at *
        have ew : (n + (-32)) % 256 = n + (-32) := by omega
        have F : Hid (BM (wr.setCell ⟨w.heap.size, k, none⟩ (.int .u8 (n + (-32)))) w.heap.size ((l.take (k + 1)).map Ch.upc ++ l.drop (k + 1)) ∧ Below w.heap.size w (wr.setCell ⟨w.heap.size, k, none⟩ (.int .u8 (n + (-32))))) := ⟨by have q := HS.out; first | exact q | (rw [Int.sub_eq_add_neg] at q; exact q), hBs.out _⟩
        clear HS hBs J
        go_wp2_with fail
        go_roundg (s.size - (k + 1))
        case measure => omega
        case rel => exact ⟨k + 1, by omega, by go_num, F⟩
      · have SM2 := SM.out (Ch.upc_out hin)
        have F : Hid (BM wr w.heap.size ((l.take (k + 1)).map Ch.upc ++ l.drop (k + 1)) ∧ Below w.heap.size w wr) := by rw [← SM2]; exact J.out
        clear HS hBs J SM SM2
        by_cases h1 : 97 ≤ c.toNat
        · have e1 : (97 : Int) ≤ (c.toNat : Int) := by omega
          have e2 : ¬ (c.toNat : Int) ≤ 122 := by omega
          clear hin h1
          generalize (c.toNat : Int) = n at *
          go_wp2_with fail
          go_roundg (s.size - (k + 1))
          case measure => omega
          case rel => exact ⟨k + 1, by omega, by go_num, F⟩
        · have e1 : ¬ (97 : Int) ≤ (c.toNat : Int) := by omega
          clear hin h1
          generalize (c.toNat : Int) = n at *
          go_wp2_with fail
          go_roundg (s.size - (k + 1))
          case measure => omega
          case rel => exact ⟨k + 1, by omega, by go_num, F⟩
    · have kli : ¬ (k : Int) < (s.size : Int) := by omega
      have q := J.out
      rw [List.take_of_length_le (by rw [HL.out]; omega), List.drop_eq_nil_of_le (by rw [HL.out]; omega), List.append_nil] at q
      have CV := q.1.conv (cap := cap)
      rw [List.length_map, HL.out] at CV
      have FB := hid q.2
      clear q J
      generalize hTX : Ch.tx (l.map Ch.upc) = TX at *
      have HT := hid hTX
      clear hTX
      go_wp2_with fail
      go_ret
      exact ⟨by rw [HT.out]; rfl, FB.out⟩

set_option maxRecDepth 100000 in
theorem rlower_any (s : ByteArray) (w : World) (hs : s.size ≤ 140737488351232) :
    Calls Try.prog 10 #[.string s] w fun e w' => e = .returned (.string (Ch.tx (s.data.toList.map Ch.lowc))) ∧ Below w.heap.size w w' := by
  have C := hid (rchange_low s w hs)
  clear hs
  generalize Ch.tx (s.data.toList.map Ch.lowc) = TX at *
  go_enter Try.func10, Try.ntmps10
  go_wp2_with fail
  refine C.out.mono ?_
  rintro e w2 ⟨rfl, hB⟩
  have F := hid hB
  clear hB C
  go_wp2_with fail
  go_ret
  exact ⟨rfl, F.out⟩

set_option maxRecDepth 100000 in
theorem rupper_any (s : ByteArray) (w : World) (hs : s.size ≤ 140737488351232) :
    Calls Try.prog 11 #[.string s] w fun e w' => e = .returned (.string (Ch.tx (s.data.toList.map Ch.upc))) ∧ Below w.heap.size w w' := by
  have C := hid (rchange_up s w hs)
  clear hs
  generalize Ch.tx (s.data.toList.map Ch.upc) = TX at *
  go_enter Try.func11, Try.ntmps11
  go_wp2_with fail
  refine C.out.mono ?_
  rintro e w2 ⟨rfl, hB⟩
  have F := hid hB
  clear hB C
  go_wp2_with fail
  go_ret
  exact ⟨rfl, F.out⟩
end Go.Proofs.Ytgliefdefklfeaa
