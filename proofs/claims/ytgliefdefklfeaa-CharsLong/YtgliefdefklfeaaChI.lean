/-
  chars: shifted, Lower, Upper. abacusref20: Index, changed, Lower, Upper.
-/
import Derived.Test.YtgliefdefklfeaaChB
import Derived.Test.YtgliefdefklfeaaChS
namespace Go.Proofs.Ytgliefdefklfeaa
open Go Go.RowKit Go.Deep Go.Shelf

namespace Ch
def lowc (c : UInt8) : UInt8 := if 65 ≤ c.toNat ∧ c.toNat ≤ 90 then UInt8.ofNat (c.toNat + 32) else c
def upc (c : UInt8) : UInt8 := if 97 ≤ c.toNat ∧ c.toNat ≤ 122 then UInt8.ofNat (c.toNat - 32) else c
theorem lowc_in {c : UInt8} (h : 65 ≤ c.toNat ∧ c.toNat ≤ 90) : ((lowc c).toNat : Int) = (c.toNat : Int) + 32 := by
  rw [lowc, if_pos h, UInt8.toNat_ofNat_of_lt' (by show c.toNat + 32 < 256; omega)]
  omega
theorem lowc_out {c : UInt8} (h : ¬ (65 ≤ c.toNat ∧ c.toNat ≤ 90)) : lowc c = c := by rw [lowc, if_neg h]
theorem upc_in {c : UInt8} (h : 97 ≤ c.toNat ∧ c.toNat ≤ 122) : ((upc c).toNat : Int) = (c.toNat : Int) - 32 := by
  rw [upc, if_pos h, UInt8.toNat_ofNat_of_lt' (by show c.toNat - 32 < 256; omega)]
  omega
theorem upc_out {c : UInt8} (h : ¬ (97 ≤ c.toNat ∧ c.toNat ≤ 122)) : upc c = c := by rw [upc, if_neg h]
theorem map_take1 (f : UInt8 → UInt8) (l : L8) (k : Nat) (h : k < l.length) : (l.take (k + 1)).map f = (l.take k).map f ++ [f (l.getD k 0)] := by
  have e : l.getD k 0 = l[k] := by simp [List.getD, List.getElem?_eq_getElem h]
  rw [e, ← List.take_append_getElem h, List.map_append]
  rfl
theorem byte_at' (s : ByteArray) (j : Nat) (h : j < s.size) : s[j] = s.data.toList.getD j 0 := by
  have := Lib.data_getElem? s j h
  simp [List.getD, this]
end Ch

set_option maxRecDepth 100000 in
set_option maxHeartbeats 2000000 in
theorem rindex_any (s t : ByteArray) (w : World) (hs : s.size ≤ 140737488351232) (ht : t.size ≤ 140737488355328) :
    Calls Try.prog 9 #[.string s, .string t] w fun e w' => e = .returned (.int .i64 (Lib.index s.data.toList t.data.toList + 1)) ∧ w' = w := by
  have SD := hid (fun (i : Nat) (hi : i ≤ s.size) (wx : World) => rstands_any s t i wx hi (by omega) ht)
  have hsi : (s.size : Int) ≤ 140737488351232 := by omega
  have HL := hid (Ch.size_len s)
  generalize s.data.toList = l at *
  generalize t.data.toList = tl at *
  have N0 := hid (Lib.NoOcc.zero l tl)
  clear hs ht
  go_enter Try.func9, Try.ntmps9
  go_wp2_with fail
  go_loopg [5] (s.size + 1) (fun m iv wr => ∃ i : Nat, i + m = s.size + 1 ∧ iv = .int .i64 (i : Int) ∧ Hid (Lib.NoOcc l tl i ∧ wr = w))
  case atStart => exact ⟨0, by omega, rfl, N0.out, rfl⟩
  case round =>
    obtain ⟨i, hi, rfl, J⟩ := hrel
    obtain ⟨hno, hw⟩ := J.out
    subst hw
    by_cases il : i ≤ s.size
    · have ili : (i : Int) ≤ (s.size : Int) := by omega
      have S1 := hid (SD.out i il wr)
      cases ho : Lib.occAt l tl i with
      | true =>
        rw [ho] at S1
        have E : Hid (Lib.index l tl = (i : Int)) := Lib.index_hit hno (by rw [HL.out]; exact il) ho
        clear hno ho J N0
        go_wp2_with fail
        refine S1.out.mono ?_
        rintro e w2 ⟨rfl, hw2⟩
        rw [hw2]
        go_wp2_with fail
        go_ret
        exact ⟨by rw [E.out]; rfl, rfl⟩
      | false =>
        rw [ho] at S1
        have F : Hid (Lib.NoOcc l tl (i + 1)) := hno.succ ho
        clear hno ho J N0
        go_wp2_with fail
        refine S1.out.mono ?_
        rintro e w2 ⟨rfl, hw2⟩
        rw [hw2]
        go_wp2_with fail
        go_roundg (s.size + 1 - (i + 1))
        case measure => omega
        case rel => exact ⟨i + 1, by omega, by go_num, F.out, rfl⟩
    · have ili : ¬ (i : Int) ≤ (s.size : Int) := by omega
      have E : Hid (Lib.index l tl = -1) := Lib.index_none fun j hj => hno j (by rw [HL.out] at hj; omega)
      clear hno J N0
      go_wp2_with fail
      go_ret
      exact ⟨by rw [E.out]; rfl, rfl⟩

set_option maxRecDepth 100000 in
set_option maxHeartbeats 2000000 in
theorem cshift_low (s : ByteArray) (w : World) (hs : s.size ≤ 140737488351232) :
    Calls Try.prog 18 #[.string s, .int .u8 65, .int .u8 97] w fun e w' => e = .returned (.string (Ch.tx (s.data.toList.map Ch.lowc))) ∧ Below w.heap.size w w' := by
  have HL := hid (Ch.size_len s)
  have GR : Hid (Calls Try.prog 23 #[.pointer (some ⟨w.heap.size, 0, none⟩), .int .i64 (s.size : Int)] (w.alloc (.cells #[.pointer none, .slice none 0 0] 46)) fun e w' => e = .returned (.tuple #[]) ∧ CB w w.heap.size [] w') := CB.grow (w0 := w) _ (Below.refl _ _) (by omega)
  have BA : Hid (∀ j (h : j < s.size), ((s[j]'h).toNat : Int) = ((s.data.toList.getD j 0).toNat : Int)) := fun j h => by rw [Ch.byte_at' s j h]
  have MT := hid (Ch.map_take1 Ch.lowc s.data.toList)
  have hsi : (s.size : Int) ≤ 140737488351232 := by omega
  generalize s.data.toList = l at *
  clear hs
  go_enter Try.func18, Try.ntmps18
  go_wp2_with fail
  refine GR.out.mono ?_
  rintro e w1 ⟨rfl, hC⟩
  have C0 := hid hC
  clear hC GR
  go_wp2_with fail
  go_loopg [15] s.size (fun m iv wr => ∃ k : Nat, k + m = s.size ∧ iv = .int .i64 (k : Int) ∧ Hid (CB w w.heap.size ((l.take k).map Ch.lowc) wr))
  case atStart => exact ⟨0, by omega, rfl, C0.out⟩
  case round =>
    obtain ⟨k, hk, rfl, J⟩ := hrel
    clear C0
    by_cases kl : k < s.size
    · have kli : (k : Int) < (s.size : Int) := by omega
      have BJ := BA.out k
      have E := MT.out k (by rw [HL.out]; exact kl)
      have W1 := hid (J.out.byte (Ch.lowc (l.getD k 0)) (by rw [List.length_map, List.length_take]; omega))
      rw [← E] at W1
      clear E J
      generalize l.getD k 0 = c at *
      have b0 : (0 : Int) ≤ (c.toNat : Int) := by omega
      have b1 : (c.toNat : Int) < 256 := by have := c.toNat_lt; omega
      by_cases hin : 65 ≤ c.toNat ∧ c.toNat ≤ 90
      · have e1 : (65 : Int) ≤ (c.toNat : Int) := by omega
        have e2 : (c.toNat : Int) < 91 := by omega
        have e3 := Ch.lowc_in hin
        rw [e3] at W1
        clear e3 hin
        generalize (c.toNat : Int) = n at *

        go_wp2_with fail
        refine W1.out.mono ?_
        rintro e w2 ⟨rfl, hC⟩
        have C2 := hid hC
        clear hC W1
        go_wp2_with fail
        go_roundg (s.size - (k + 1))
        case measure => omega
        case rel => exact ⟨k + 1, by omega, by go_num, C2⟩
      · rw [Ch.lowc_out hin] at W1
        by_cases h1 : 65 ≤ c.toNat
        · have e1 : (65 : Int) ≤ (c.toNat : Int) := by omega
          have e2 : ¬ (c.toNat : Int) < 91 := by omega
          clear hin h1
          generalize (c.toNat : Int) = n at *
          go_wp2_with fail
          refine W1.out.mono ?_
          rintro e w2 ⟨rfl, hC⟩
          have C2 := hid hC
          clear hC W1
          go_wp2_with fail
          go_roundg (s.size - (k + 1))
          case measure => omega
          case rel => exact ⟨k + 1, by omega, by go_num, C2⟩
        · have e1 : ¬ (65 : Int) ≤ (c.toNat : Int) := by omega
          clear hin h1
          generalize (c.toNat : Int) = n at *
          go_wp2_with fail
          refine W1.out.mono ?_
          rintro e w2 ⟨rfl, hC⟩
          have C2 := hid hC
          clear hC W1
          go_wp2_with fail
          go_roundg (s.size - (k + 1))
          case measure => omega
          case rel => exact ⟨k + 1, by omega, by go_num, C2⟩
    · have kli : ¬ (k : Int) < (s.size : Int) := by omega
      have q := J.out
      rw [List.take_of_length_le (by rw [HL.out]; omega)] at q
      have ST := hid q.str
      clear q J
      generalize hTX : Ch.tx (l.map Ch.lowc) = TX at *
      have HT := hid hTX
      clear hTX
      go_wp2_with fail
      refine ST.out.mono ?_
      rintro e w2 ⟨rfl, hB⟩
      have F := hid hB
      clear hB ST
      go_wp2_with fail
      go_ret
      exact ⟨by rw [HT.out]; rfl, F.out⟩

set_option maxRecDepth 100000 in
set_option maxHeartbeats 2000000 in
theorem cshift_up (s : ByteArray) (w : World) (hs : s.size ≤ 140737488351232) :
    Calls Try.prog 18 #[.string s, .int .u8 97, .int .u8 65] w fun e w' => e = .returned (.string (Ch.tx (s.data.toList.map Ch.upc))) ∧ Below w.heap.size w w' := by
  have HL := hid (Ch.size_len s)
  have GR : Hid (Calls Try.prog 23 #[.pointer (some ⟨w.heap.size, 0, none⟩), .int .i64 (s.size : Int)] (w.alloc (.cells #[.pointer none, .slice none 0 0] 46)) fun e w' => e = .returned (.tuple #[]) ∧ CB w w.heap.size [] w') := CB.grow (w0 := w) _ (Below.refl _ _) (by omega)
  have BA : Hid (∀ j (h : j < s.size), ((s[j]'h).toNat : Int) = ((s.data.toList.getD j 0).toNat : Int)) := fun j h => by rw [Ch.byte_at' s j h]
  have MT := hid (Ch.map_take1 Ch.upc s.data.toList)
  have hsi : (s.size : Int) ≤ 140737488351232 := by omega
  generalize s.data.toList = l at *
  clear hs
  go_enter Try.func18, Try.ntmps18
  go_wp2_with fail
  refine GR.out.mono ?_
  rintro e w1 ⟨rfl, hC⟩
  have C0 := hid hC
  clear hC GR
  go_wp2_with fail
  go_loopg [15] s.size (fun m iv wr => ∃ k : Nat, k + m = s.size ∧ iv = .int .i64 (k : Int) ∧ Hid (CB w w.heap.size ((l.take k).map Ch.upc) wr))
  case atStart => exact ⟨0, by omega, rfl, C0.out⟩
  case round =>
    obtain ⟨k, hk, rfl, J⟩ := hrel
    clear C0
    by_cases kl : k < s.size
    · have kli : (k : Int) < (s.size : Int) := by omega
      have BJ := BA.out k
      have E := MT.out k (by rw [HL.out]; exact kl)
      have W1 := hid (J.out.byte (Ch.upc (l.getD k 0)) (by rw [List.length_map, List.length_take]; omega))
      rw [← E] at W1
      clear E J
      generalize l.getD k 0 = c at *
      have b0 : (0 : Int) ≤ (c.toNat : Int) := by omega
      have b1 : (c.toNat : Int) < 256 := by have := c.toNat_lt; omega
      by_cases hin : 97 ≤ c.toNat ∧ c.toNat ≤ 122
      · have e1 : (97 : Int) ≤ (c.toNat : Int) := by omega
        have e2 : (c.toNat : Int) < 123 := by omega
        have e3 := Ch.upc_in hin
        rw [e3] at W1
        clear e3 hin
        generalize (c.toNat : Int) = n at *
        have ew : (n + 224) % 256 = n - 32 := by omega

        go_wp2_with fail
        refine W1.out.mono ?_
        rintro e w2 ⟨rfl, hC⟩
        have C2 := hid hC
        clear hC W1
        go_wp2_with fail
        go_roundg (s.size - (k + 1))
        case measure => omega
        case rel => exact ⟨k + 1, by omega, by go_num, C2⟩
      · rw [Ch.upc_out hin] at W1
        by_cases h1 : 97 ≤ c.toNat
        · have e1 : (97 : Int) ≤ (c.toNat : Int) := by omega
          have e2 : ¬ (c.toNat : Int) < 123 := by omega
          clear hin h1
          generalize (c.toNat : Int) = n at *
          go_wp2_with fail
          refine W1.out.mono ?_
          rintro e w2 ⟨rfl, hC⟩
          have C2 := hid hC
          clear hC W1
          go_wp2_with fail
          go_roundg (s.size - (k + 1))
          case measure => omega
          case rel => exact ⟨k + 1, by omega, by go_num, C2⟩
        · have e1 : ¬ (97 : Int) ≤ (c.toNat : Int) := by omega
          clear hin h1
          generalize (c.toNat : Int) = n at *
          go_wp2_with fail
          refine W1.out.mono ?_
          rintro e w2 ⟨rfl, hC⟩
          have C2 := hid hC
          clear hC W1
          go_wp2_with fail
          go_roundg (s.size - (k + 1))
          case measure => omega
          case rel => exact ⟨k + 1, by omega, by go_num, C2⟩
    · have kli : ¬ (k : Int) < (s.size : Int) := by omega
      have q := J.out
      rw [List.take_of_length_le (by rw [HL.out]; omega)] at q
      have ST := hid q.str
      clear q J
      generalize hTX : Ch.tx (l.map Ch.upc) = TX at *
      have HT := hid hTX
      clear hTX
      go_wp2_with fail
      refine ST.out.mono ?_
      rintro e w2 ⟨rfl, hB⟩
      have F := hid hB
      clear hB ST
      go_wp2_with fail
      go_ret
      exact ⟨by rw [HT.out]; rfl, F.out⟩

set_option maxRecDepth 100000 in
theorem clower_any (s : ByteArray) (w : World) (hs : s.size ≤ 140737488351232) :
    Calls Try.prog 7 #[.string s] w fun e w' => e = .returned (.string (Ch.tx (s.data.toList.map Ch.lowc))) ∧ Below w.heap.size w w' := by
  have C := hid (cshift_low s w hs)
  clear hs
  generalize Ch.tx (s.data.toList.map Ch.lowc) = TX at *
  go_enter Try.func7, Try.ntmps7
  go_wp2_with fail
  refine C.out.mono ?_
  rintro e w2 ⟨rfl, hB⟩
  have F := hid hB
  clear hB C
  go_wp2_with fail
  go_ret
  exact ⟨rfl, F.out⟩

set_option maxRecDepth 100000 in
theorem cupper_any (s : ByteArray) (w : World) (hs : s.size ≤ 140737488351232) :
    Calls Try.prog 8 #[.string s] w fun e w' => e = .returned (.string (Ch.tx (s.data.toList.map Ch.upc))) ∧ Below w.heap.size w w' := by
  have C := hid (cshift_up s w hs)
  clear hs
  generalize Ch.tx (s.data.toList.map Ch.upc) = TX at *
  go_enter Try.func8, Try.ntmps8
  go_wp2_with fail
  refine C.out.mono ?_
  rintro e w2 ⟨rfl, hB⟩
  have F := hid hB
  clear hB C
  go_wp2_with fail
  go_ret
  exact ⟨rfl, F.out⟩
end Go.Proofs.Ytgliefdefklfeaa
