/-
  law08: blanks, numbers, wholes, ScanNumbers.
-/
import Derived.Test.YtjghlpkjbfaoiaaDoorVRNum
import Derived.Test.YtjghlpkjbfaoiaaDoorOpenTexts
import Derived.Deep.LoopGhost
namespace Go.Proofs.YtjghlpkjbfaoiaaDoor
open Go Go.RowKit Go.Deep

set_option maxRecDepth 100000 in
set_option maxHeartbeats 2000000 in
theorem lblanks_any (w : World) : Calls Tryd.prog 9 #[] w fun e w' => e = .returned (.bool true) ∧ w' = w := by
  have BK := hid (fun (j : Nat) (h : j < 256) (wx : World) => blank_any (j : Int) wx (by omega) (by omega))
  go_enter Tryd.func9, Tryd.ntmps9
  go_wp2_with fail
  go_loop [1] (fun c => ∃ j : Nat, c = .int .i64 j ∧ j ≤ 256) (fun c => match c with | .int _ j => 256 - j.toNat | _ => 0)
  case atStart => exact ⟨0, rfl, by omega⟩
  case round =>
    obtain ⟨j, rfl, hj⟩ := hrel
    by_cases h : j < 256
    · have hji : (j : Int) < 256 := by omega
      have B := hid (BK.out j h w)
      rcases (show j = 9 ∨ j = 10 ∨ j = 11 ∨ j = 12 ∨ j = 13 ∨ j = 32 ∨ (j ≠ 9 ∧ j ≠ 10 ∧ j ≠ 11 ∧ j ≠ 12 ∧ j ≠ 13 ∧ j ≠ 32) by omega) with rfl | rfl | rfl | rfl | rfl | rfl | ⟨c1, c2, c3, c4, c5, c6⟩
      · go_wp2_with fail
        refine B.out.mono ?_
        rintro e w1 ⟨rfl, rfl⟩
        go_wp2_with fail
        go_round
        case rel => exact ⟨10, by go_num, by omega⟩
        case measure => decide
      · go_wp2_with fail
        refine B.out.mono ?_
        rintro e w1 ⟨rfl, rfl⟩
        go_wp2_with fail
        go_round
        case rel => exact ⟨11, by go_num, by omega⟩
        case measure => decide
      · go_wp2_with fail
        refine B.out.mono ?_
        rintro e w1 ⟨rfl, rfl⟩
        go_wp2_with fail
        go_round
        case rel => exact ⟨12, by go_num, by omega⟩
        case measure => decide
      · go_wp2_with fail
        refine B.out.mono ?_
        rintro e w1 ⟨rfl, rfl⟩
        go_wp2_with fail
        go_round
        case rel => exact ⟨13, by go_num, by omega⟩
        case measure => decide
      · go_wp2_with fail
        refine B.out.mono ?_
        rintro e w1 ⟨rfl, rfl⟩
        go_wp2_with fail
        go_round
        case rel => exact ⟨14, by go_num, by omega⟩
        case measure => decide
      · go_wp2_with fail
        refine B.out.mono ?_
        rintro e w1 ⟨rfl, rfl⟩
        go_wp2_with fail
        go_round
        case rel => exact ⟨33, by go_num, by omega⟩
        case measure => decide
      · have hb : Sc.bl (j : Int) = false := by
          rw [Bool.eq_false_iff]; intro c; simp [Sc.bl] at c; omega
        rw [hb] at B
        have g1 : ((j : Int) == 9) = false := by rw [beq_eq_false_iff_ne]; omega
        have g2 : ((j : Int) == 10) = false := by rw [beq_eq_false_iff_ne]; omega
        have g3 : ((j : Int) == 11) = false := by rw [beq_eq_false_iff_ne]; omega
        have g4 : ((j : Int) == 12) = false := by rw [beq_eq_false_iff_ne]; omega
        have g5 : ((j : Int) == 13) = false := by rw [beq_eq_false_iff_ne]; omega
        have g6 : ((j : Int) == 32) = false := by rw [beq_eq_false_iff_ne]; omega
        have k1 : ¬ (j : Int) = 9 := by omega
        have k2 : ¬ (j : Int) = 10 := by omega
        have k3 : ¬ (j : Int) = 11 := by omega
        have k4 : ¬ (j : Int) = 12 := by omega
        have k5 : ¬ (j : Int) = 13 := by omega
        have k6 : ¬ (j : Int) = 32 := by omega
        clear hb c1 c2 c3 c4 c5 c6
        go_wp2_with fail
        refine B.out.mono ?_
        rintro e w1 ⟨rfl, rfl⟩
        go_wp2_with fail
        go_round
        case rel => exact ⟨j + 1, by go_num, by omega⟩
        case measure => simp; omega
    · have hji : ¬ (j : Int) < 256 := by omega
      go_wp2_with fail
      go_ret
      exact ⟨rfl, rfl⟩

set_option maxRecDepth 100000 in
set_option maxHeartbeats 2000000 in
theorem numbers_any (s : ByteArray) (xs : List Int) (w : World) (hs : Str s xs) (hn : xs.length ≤ 140737488351232) :
    Calls Tryd.prog 10 #[.string s] w fun r w' => r = .returned (.bool true) ∧ Below w.heap.size w w' := by
  have RN : Hid (∀ wx, Calls Tryd.prog 26 #[.string s] wx fun e w' => ∃ v, e = .returned (.tuple #[v, .int .i64 ((Sc.num xs).2 : Nat)]) ∧ DecIs v (Sc.num xs).1 ∧ Below wx.heap.size wx w') := fun wx => rnumber_any s xs wx hs hn
  have PN : Hid (∀ wx, Calls Tryd.prog 14 #[.string s] wx fun e w' => ∃ v, e = .returned (.tuple #[v, .int .i64 ((Sc.num xs).2 : Nat)]) ∧ DecIs v (Sc.num xs).1 ∧ Below wx.heap.size wx w') := fun wx => number_any s xs wx hs (by omega) (fun _ => by have := Sc.lit_len xs (Sc.run Sc.bl xs 0); omega)
  clear hs hn
  generalize (Sc.num xs).1 = N at *
  generalize (Sc.num xs).2 = n at *
  go_enter Tryd.func10, Tryd.ntmps10
  go_wp2_with fail
  refine (RN.out _).mono ?_
  rintro r w1 ⟨v, rfl, hv, hB⟩
  obtain ⟨s1, hv1, hs1⟩ := id hv
  unfold decV at hv1
  subst hv1
  have HV := hid hv
  have S1 := hid (LSt.new hB (.bool N.neg) (.string s1) (.int .i64 N.e))
  clear hB hv hs1 RN
  go_wp2_with fail
  generalize w1.alloc (.cells #[.bool N.neg, .string s1, .int .i64 N.e] 29) = w2 at *
  generalize w1.heap.size = g at *
  refine (PN.out _).mono ?_
  rintro r w3 ⟨v, rfl, hv, hB⟩
  have hv2 := hv.two HV.out
  subst hv2
  have S2 := hid ((S1.out.on hB).on (alloc_b w3 (.cells #[.bool N.neg, .string s1, .int .i64 N.e] 29)))
  clear hB hv HV S1 PN
  obtain ⟨⟨c0, c1, c2⟩, -⟩ := S2.out.2.2.cells
  go_wp2_with fail
  go_ret
  exact ⟨rfl, S2.out.1⟩

set_option maxRecDepth 100000 in
set_option maxHeartbeats 2000000 in
theorem wholes_any (s : ByteArray) (xs : List Int) (w : World) (hs : Str s xs) (hn : xs.length ≤ 140737488351232) :
    Calls Tryd.prog 11 #[.string s] w fun r w' => r = .returned (.bool true) ∧ Below w.heap.size w w' := by
  have RN : Hid (∀ wx, Calls Tryd.prog 27 #[.string s] wx fun e w' => ∃ v, e = .returned (.tuple #[v, .bool (Sc.whl xs).2]) ∧ DecIs v (Sc.whl xs).1 ∧ Below wx.heap.size wx w') := fun wx => rwhole_any s xs wx hs hn
  have PN : Hid (∀ wx, Calls Tryd.prog 15 #[.string s] wx fun e w' => ∃ v, e = .returned (.tuple #[v, .bool (Sc.whl xs).2]) ∧ DecIs v (Sc.whl xs).1 ∧ Below wx.heap.size wx w') := fun wx => whole_any s xs wx hs (by omega) (fun _ => by have := Sc.lit_len xs (Sc.run Sc.bl xs 0); omega)
  clear hs hn
  generalize (Sc.whl xs).1 = N at *
  generalize (Sc.whl xs).2 = n at *
  go_enter Tryd.func11, Tryd.ntmps11
  go_wp2_with fail
  refine (RN.out _).mono ?_
  rintro r w1 ⟨v, rfl, hv, hB⟩
  obtain ⟨s1, hv1, hs1⟩ := id hv
  unfold decV at hv1
  subst hv1
  have HV := hid hv
  have S1 := hid (LSt.new hB (.bool N.neg) (.string s1) (.int .i64 N.e))
  clear hB hv hs1 RN
  go_wp2_with fail
  generalize w1.alloc (.cells #[.bool N.neg, .string s1, .int .i64 N.e] 29) = w2 at *
  generalize w1.heap.size = g at *
  refine (PN.out _).mono ?_
  rintro r w3 ⟨v, rfl, hv, hB⟩
  have hv2 := hv.two HV.out
  subst hv2
  have S2 := hid ((S1.out.on hB).on (alloc_b w3 (.cells #[.bool N.neg, .string s1, .int .i64 N.e] 29)))
  clear hB hv HV S1 PN
  obtain ⟨⟨c0, c1, c2⟩, -⟩ := S2.out.2.2.cells
  go_wp2_with fail
  go_ret
  exact ⟨rfl, S2.out.1⟩

set_option maxRecDepth 100000 in
set_option maxHeartbeats 8000000 in
theorem numbers_of (a : Option Addr) (len cap : Nat) (its : List ByteArray) (w : World) (hl : its.length = len) (hc : len ≤ cap) (hm : cap ≤ 17592186044416) (hp : Tx.Holds w a its) (hi : ∀ it ∈ its, Tx.Bd it) :
    Calls Tryd.prog 3 #[.slice a len cap] w fun e w' => e = .returned (.bool true) ∧ Below w.heap.size w w' := by
  have B0 := hid (fun wx => lblanks_any wx)
  have N1 := hid (fun wx => numbers_any ⟨#[32, 32, 45, 49, 46, 53, 48, 101, 51, 44]⟩ [32, 32, 45, 49, 46, 53, 48, 101, 51, 44] wx rfl (by decide))
  have N2 := hid (fun wx => numbers_any ⟨#[49, 101, 43]⟩ [49, 101, 43] wx rfl (by decide))
  have W1 := hid (fun wx => wholes_any ⟨#[32, 49, 50, 10]⟩ [32, 49, 50, 10] wx rfl (by decide))
  have W2 := hid (fun wx => wholes_any ⟨#[49, 50, 32, 49, 51]⟩ [49, 50, 32, 49, 51] wx rfl (by decide))
  have NS : Hid (∀ (x : ByteArray) wx, Tx.Bd x → Calls Tryd.prog 10 #[.string x] wx fun r w' => r = .returned (.bool true) ∧ Below wx.heap.size wx w') := fun x wx h => numbers_any x _ wx (Str.self x) (str_len x h)
  have WS : Hid (∀ (x : ByteArray) wx, Tx.Bd x → Calls Tryd.prog 11 #[.string x] wx fun r w' => r = .returned (.bool true) ∧ Below wx.heap.size wx w') := fun x wx h => wholes_any x _ wx (Str.self x) (str_len x h)
  have HL := hid hl
  have HP := hid hp
  have HI := hid hi
  have hlm : (len : Int) ≤ 17592186044416 := by omega
  clear hl hp hi hc hm
  go_enter Tryd.func3, Tryd.ntmps3
  go_wp2_with fail
  refine (B0.out _).mono ?_
  rintro e w0 ⟨rfl, h0⟩
  rw [h0]
  clear B0 h0 w0
  go_wp2_with fail
  refine (N1.out _).mono ?_
  rintro e w1 ⟨rfl, hB⟩
  have D1 := hid hB
  clear hB N1
  go_wp2_with fail
  refine (N2.out _).mono ?_
  rintro e w2 ⟨rfl, hB⟩
  have D2 := hid (below_on D1.out hB)
  clear hB N2 D1
  go_wp2_with fail
  refine (W1.out _).mono ?_
  rintro e w3 ⟨rfl, hB⟩
  have D3 := hid (below_on D2.out hB)
  clear hB W1 D2
  go_wp2_with fail
  refine (W2.out _).mono ?_
  rintro e w4 ⟨rfl, hB⟩
  have D4 := hid (below_on D3.out hB)
  clear hB W2 D3
  go_wp2_with fail
  go_loopw [3] (fun i wr => ∃ j : Nat, j ≤ len ∧ i = .int .i64 j ∧ Hid (Below w.heap.size w wr)) (fun i _ => len - (vInt i).toNat)
  case atStart => exact ⟨0, Nat.zero_le _, rfl, D4.out⟩
  case round =>
    clear D4
    obtain ⟨j, hj, rfl, D⟩ := hrel
    by_cases hlt : j < len
    · obtain ⟨x, hx⟩ : ∃ it, its[j]? = some it := ⟨_, List.getElem?_eq_getElem (by have := HL.out; omega)⟩
      have bx := HI.out x (List.mem_of_getElem? hx)
      rcases HP.out with h | ⟨b, off, rfl, h⟩
      · rw [h] at hx
        simp at hx
      · have hjl : (j : Int) < (len : Int) := by omega
        have C0 : Hid (∀ wx, Below w.heap.size w wx → wx.cell? ⟨b, off + j, none⟩ = some (.string x)) := fun wx hb => by
          rw [hb.cell (p := ⟨b, off + j, none⟩) (cell_lt (h j x hx))]; exact h j x hx
        have NX := hid (fun wx => NS.out x wx bx)
        have WX := hid (fun wx => WS.out x wx bx)
        have c0 := C0.out _ D.out
        clear h hx bx
        go_wp2_with fail
        refine (NX.out _).mono ?_
        rintro e w5 ⟨rfl, hB⟩
        have E1 := hid (below_on D.out hB)
        have c1 := C0.out _ E1.out
        clear hB c0
        go_wp2_with fail
        refine (WX.out _).mono ?_
        rintro e w6 ⟨rfl, hB⟩
        have E2 := hid (below_on E1.out hB)
        clear hB c1
        go_wp2_with fail
        go_roundw
        case rel => exact ⟨j + 1, by omega, by go_num, E2.out⟩
        case measure => simp [vInt]; omega
    · have hjl : ¬ (j : Int) < (len : Int) := by omega
      go_wp2_with fail
      go_ret
      exact ⟨rfl, D.out⟩
end Go.Proofs.YtjghlpkjbfaoiaaDoor
