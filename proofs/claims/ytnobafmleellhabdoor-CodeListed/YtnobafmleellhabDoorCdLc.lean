/-
  abacuslaw26: CodeListed.
-/
import Derived.Test.YtnobafmleellhabDoorCdLb
import Derived.Test.YtnobafmleellhabDoorCdX
namespace Go.Proofs.YtnobafmleellhabDoor
open Go Go.RowKit Go.Deep Go.Shelf

set_option maxRecDepth 100000 in
set_option maxHeartbeats 8000000 in
theorem listed_law (l : List Cd.In) (nums : List Int) (strs : List ByteArray) (p q r : Option Addr) (cap c2 c3 : Nat) (l' : List Cd.In) (nums' : List Int) (strs' : List ByteArray) (p' q' r' : Option Addr) (cap' c2' c3' : Nat) (w : World) (hT : Tab10 w) (hL : Cd.LI w p l) (hQ : Cd.NI w q nums) (hR : TR w r strs) (hU : Cd.U64 nums) (hZ : ∀ s ∈ strs, s.size ≤ 9223372036854775807)
    (hL' : Cd.LI w p' l') (hQ' : Cd.NI w q' nums') (hR' : TR w r' strs') (hU' : Cd.U64 nums') (hZ' : ∀ s ∈ strs', s.size ≤ 9223372036854775807)
    (hn : l.length * 24 ≤ 140737488355328) (hN : nums.length * 8 ≤ 140737488355328) (hS : strs.length * 16 ≤ 140737488355328) (hn' : l'.length * 24 ≤ 140737488355328) (hN' : nums'.length * 8 ≤ 140737488355328) (hS' : strs'.length * 16 ≤ 140737488355328) :
    Calls Tryd.prog 4 #[.agg #[.slice p l.length cap, .slice q nums.length c2, .slice r strs.length c3], .agg #[.slice p' l'.length cap', .slice q' nums'.length c2', .slice r' strs'.length c3']] w fun e w' => e = .returned (.bool true) ∧ Below w.heap.size w w' := by
  have B1 := hid (cd_b2 w (.cells #[.slice p l.length cap, .slice q nums.length c2, .slice r strs.length c3] 26) (.cells #[.slice p' l'.length cap', .slice q' nums'.length c2', .slice r' strs'.length c3'] 26))
  obtain ⟨y1, y2⟩ := bx_two w #[.slice p l.length cap, .slice q nums.length c2, .slice r strs.length c3] #[.slice p' l'.length cap', .slice q' nums'.length c2', .slice r' strs'.length c3'] 26 26
  have X1 := hid y1
  have Z1 := hid y2
  clear y1 y2
  have AW : Hid (∀ W, Below w.heap.size w W → Calls Tryd.prog 5 #[] W fun e w' => e = .returned (.bool true) ∧ Below W.heap.size W w') := fun W hB => caw_any W (ctab10_below hT hB)
  have CH : Hid (∀ W, Below w.heap.size w W → Calls Tryd.prog 6 #[.agg #[.slice p l.length cap, .slice q nums.length c2, .slice r strs.length c3]] W fun e w' => e = .returned (.tuple #[.int .i64 (Cd.chk l nums.length strs.length).1, .int .i64 ((Cd.chk l nums.length strs.length).2.1 : Int), .int .i64 (Cd.chk l nums.length strs.length).2.2]) ∧ Below W.heap.size W w') := fun W hB =>
    cchk_any l p q r cap nums.length c2 strs.length c3 W (hL.below hB (Nat.le_refl _)) (by omega) (by omega) (by omega)
  have LC : Hid (∀ W, Below w.heap.size w W → _) := fun W hB => clist_any l nums strs p q r cap c2 c3 W (ctab10_below hT hB) (hL.below hB (Nat.le_refl _)) (hQ.below hB (Nat.le_refl _)) (hR.below hB (Nat.le_refl _)) hU hZ (by omega) (by omega) (by omega)
  have LD : Hid (∀ W, Below w.heap.size w W → _) := fun W hB => clist_any l' nums' strs' p' q' r' cap' c2' c3' W (ctab10_below hT hB) (hL'.below hB (Nat.le_refl _)) (hQ'.below hB (Nat.le_refl _)) (hR'.below hB (Nat.le_refl _)) hU' hZ' (by omega) (by omega) (by omega)
  have CE := Cd.chk_all l nums.length strs.length
  have CE' := Cd.chk_all l' nums'.length strs'.length
  have SG : Hid ((∀ i x, l[i]? = some x → Cd.rt l.length nums.length strs.length i x = true) → ∀ k, k < l.length → _) := fun hx k hk => Cd.lst_seg (nums := nums) (strs := strs) hx (by omega) (by omega) (by omega) hk
  have IJ : Hid ((∀ i x, l[i]? = some x → Cd.rt l.length nums.length strs.length i x = true) → (∀ i x, l'[i]? = some x → Cd.rt l'.length nums'.length strs'.length i x = true) → Cd.lst l nums strs = Cd.lst l' nums' strs' → l = l') := fun hx hy h => Cd.lst_inj hx hy (by omega) (by omega) (by omega) (by omega) (by omega) (by omega) h
  have GL : Hid (∀ (W : World), Below w.heap.size w W → Cd.LI W p l ∧ Cd.LI W p' l') := fun W hW => ⟨hL.below hW (Nat.le_refl _), hL'.below hW (Nat.le_refl _)⟩
  have LE : Hid (Cd.lnr l nums strs l.length = Cd.lst l nums strs) := rfl
  have L00 : Hid (Cd.lnr l nums strs 0 = []) := rfl
  have ln : l.length ≤ 5864062014805 := by omega
  have ln' : l'.length ≤ 5864062014805 := by omega
  have lni : (l.length : Int) ≤ 5864062014805 := by omega
  have lni' : (l'.length : Int) ≤ 5864062014805 := by omega
  clear hL hQ hR hU hZ hL' hQ' hR' hU' hZ' hn hN hS hn' hN' hS' hT
  generalize hE : Cd.lst l nums strs = E at *
  generalize hE' : Cd.lst l' nums' strs' = E' at *
  generalize hF : Cd.lnr l nums strs = F at *
  clear hE hE' hF
  generalize hC : Cd.chk l nums.length strs.length = C at *
  generalize hC' : Cd.chk l' nums'.length strs'.length = C' at *
  clear hC hC'
  obtain ⟨C1, C2, C3⟩ := C
  obtain ⟨D1, D2, D3⟩ := C'
  go_enter Tryd.func4, Tryd.ntmps4
  go_upto_region 1 with fail
  obtain ⟨k0, k1, k2⟩ := bx3 X1.out
  obtain ⟨j0, j1, j2⟩ := bx3 Z1.out
  generalize (w.alloc (.cells #[.slice p l.length cap, .slice q nums.length c2, .slice r strs.length c3] 26)).alloc (.cells #[.slice p' l'.length cap', .slice q' nums'.length c2', .slice r' strs'.length c3'] 26) = w1 at *
  go_upto_region 3 with (go_at_call 5; with_reducible refine (AW.out _ B1.out).mono ?_; rintro e w2 ⟨rfl, hB⟩; have B2 := hid (below_on B1.out hB); have X2 := hid (X1.out.on hB); have Z2 := hid (Z1.out.on hB); clear k0 k1 k2 j0 j1 j2; obtain ⟨k0, k1, k2⟩ := bx3 X2.out; obtain ⟨j0, j1, j2⟩ := bx3 Z2.out; clear hB AW B1 X1 Z1)
  go_upto_region 4 with (go_at_call 12; refine (LC.out _ B2.out).mono ?_; rintro e w3 ⟨v, err, rfl, hB, hv⟩; have B3 := hid (below_on B2.out hB); have X3 := hid (X2.out.on hB); have Z3 := hid (Z2.out.on hB); clear k0 k1 k2 j0 j1 j2; obtain ⟨k0, k1, k2⟩ := bx3 X3.out; obtain ⟨j0, j1, j2⟩ := bx3 Z3.out; clear LC B2 X2 Z2)
  rcases hv with ⟨c, rfl, rfl⟩ | ⟨c, hl, rfl, rfl⟩ | ⟨c, hl, rfl, rfl⟩
  · have c' : C3 = 260 := c
    subst c'
    go_wp2_with (go_at_call 6; with_reducible refine (CH.out _ B3.out).mono ?_; rintro e w4 ⟨rfl, hB⟩; have B4 := hid (below_on B3.out hB); clear hB CH B3)
    go_ret
    exact ⟨rfl, B4.out⟩
  · have c' : C3 = 0 := c
    subst c'
    go_wp2_with (go_at_call 6; with_reducible refine (CH.out _ B3.out).mono ?_; rintro e w4 ⟨rfl, hB⟩; have B4 := hid (below_on B3.out hB); clear hB CH B3)
    go_ret
    exact ⟨rfl, B4.out⟩
  · have c' : C3 = 0 := c
    subst c'
    clear CH
    have RX := (CE.resolve_right (show ¬ (0 : Int) = 260 by decide)).2.2
    have sg := hid (SG.out RX)
    have en : E.length ≤ 16777216 := hl
    have es : (Ch.tx E).size = E.length := rfl
    have esi : ((Ch.tx E).size : Int) ≤ 16777216 := by omega
    have FN0 : (F l.length).length = E.length := by rw [LE.out]
    have FL : Hid (∀ k, k < l.length → (F k).length < (F (k + 1)).length ∧ (F (k + 1)).length ≤ E.length) := fun k hk => by
      obtain ⟨T, R, _, h2, h3⟩ := sg.out k hk
      rw [h3, h2]
      simp only [List.length_append, List.length_cons, List.length_nil]
      omega
    have S0 : Hid (0 ≤ l.length ∧ 0 = (F 0).length + 0 ∧ (0 < l.length → 0 < (F (0 + 1)).length) ∧ Below w.heap.size w w3 ∧ Bx w3 w.heap.size 26 #[.slice p l.length cap, .slice q nums.length c2, .slice r strs.length c3] ∧ Bx w3 (w.heap.size + 1) 26 #[.slice p' l'.length cap', .slice q' nums'.length c2', .slice r' strs'.length c3']) := ⟨Nat.zero_le _, by rw [L00.out]; rfl, fun h => Nat.lt_of_le_of_lt (Nat.zero_le _) (FL.out 0 h).1, B3.out, X3.out, Z3.out⟩
    have f00 : (F 0).length = 0 := by rw [L00.out]; rfl
    go_upto_region 10 with fail
    clear k0 k1 k2 j0 j1 j2 B3 X3 Z3
    go_loopg [10, 11, 12, 13] E.length (fun m lv fv iv hv wr => ∃ k i : Nat, i + m = E.length ∧ lv = .int .i64 (k : Int) ∧ fv = .int .i64 ((F k).length : Int) ∧ iv = .int .i64 (i : Int) ∧ Hid (k ≤ l.length ∧ (F k).length ≤ i ∧ (k < l.length → i < (F (k + 1)).length) ∧ Below w.heap.size w wr ∧ Bx wr w.heap.size 26 #[.slice p l.length cap, .slice q nums.length c2, .slice r strs.length c3] ∧ Bx wr (w.heap.size + 1) 26 #[.slice p' l'.length cap', .slice q' nums'.length c2', .slice r' strs'.length c3']))
    case atStart => exact ⟨0, 0, by omega, rfl, by rw [f00]; rfl, rfl, S0.out.1, by omega, S0.out.2.2⟩
    case round =>
      obtain ⟨k, i, hi, rfl, rfl, rfl, J⟩ := hrel
      clear S0
      by_cases il : i < E.length
      · have kl : k < l.length := by
          rcases Nat.lt_or_ge k l.length with h | h
          · exact h
          · have e : k = l.length := Nat.le_antisymm J.out.1 h
            have := J.out.2.1
            rw [e] at this
            omega
        obtain ⟨T, R, hc, h2, h3⟩ := sg.out k kl
        have j1 := J.out.2.1
        have j2 := J.out.2.2.1 kl
        have ili : (i : Int) < (E.length : Int) := by omega
        have i0 : (0 : Int) ≤ (i : Int) := by omega
        have ie : (i : Int) ≤ 16777216 := by omega
        have ke : (k : Int) ≤ 5864062014805 := by omega
        rw [h2] at j2
        simp only [List.length_append, List.length_cons, List.length_nil] at j2
        obtain ⟨A, hA⟩ : ∃ A, Lib.itoa k ++ [58, 32] ++ T = A := ⟨_, rfl⟩
        rw [hA] at hc h2 h3
        have jA : i ≤ (F k).length + A.length := by rw [← hA]; simp only [List.length_append, List.length_cons, List.length_nil]; omega
        have NU := hid (lnumb_any k wr (by omega))
        obtain ⟨k0, k1, k2⟩ := bx3 J.out.2.2.2.2.1
        obtain ⟨m0, m1, m2⟩ := bx3 J.out.2.2.2.2.2
        have IL : (Lib.itoa k).length ≤ 21 := Lib.itoa_length_le k (by omega) (by omega)
        have HL : Hid (Ch.tx (Lib.itoa k ++ [58, 32]) = ⟨(Lib.itoa k).toArray⟩ ++ (⟨#[58, 32]⟩ : ByteArray)) := (ByteArray.mk_append_mk (Lib.itoa k) [58, 32]).symm
        have HS : (Ch.tx (Lib.itoa k ++ [58, 32])).size = (Lib.itoa k).length + 2 := by
          show ((Lib.itoa k ++ [58, 32]).toArray).size = _
          simp
        have NSZ : (⟨(Lib.itoa k).toArray⟩ : ByteArray).size ≤ 21 := by
          show (Lib.itoa k).toArray.size ≤ 21
          simpa using IL
        have AL : (Lib.itoa k).length + 2 ≤ A.length := by rw [← hA]; simp only [List.length_append, List.length_cons, List.length_nil]; omega
        have XE : Hid ((Ch.tx E).extract (F k).length ((F k).length + ((Lib.itoa k).length + 2)) = Ch.tx (Lib.itoa k ++ [58, 32])) := by
          rw [Hid, Ch.tx_ext, Nat.add_sub_cancel_left, show (Ch.tx E).data.toList = E from rfl, h3, List.append_assoc, List.drop_left, ← hA]
          congr 1
          simp only [List.append_assoc]
          rw [← List.append_assoc, List.take_left' (by simp)]
        have XS : Hid (∀ a b, a ≤ b → b ≤ E.length → ((Ch.tx E).extract a b).size = b - a) := fun a b h1 h2 => by
          rw [ByteArray.size_extract, show (Ch.tx E).size = E.length from rfl]; omega
        have NX : Hid (F (k + 1) = F k ++ (A ++ [10])) := h2
        by_cases ja : i = (F k).length + A.length
        · have IX : ∀ h, (((Ch.tx E)[i]'h).toNat : Int) = 10 := fun h => by
            have EI : E[i]? = some 10 := by
              rw [h3, ja, List.append_assoc, List.getElem?_append_right (by omega), Nat.add_sub_cancel_left, List.append_assoc, List.getElem?_append_right (by omega), Nat.sub_self]
              rfl
            rw [byte_getD, List.getD_eq_getElem?_getD, show (Ch.tx E).data.toList = E from rfl, EI]; rfl
          have NX2 : (F (k + 1)).length = i + 1 := by rw [NX.out]; simp only [List.length_append, List.length_cons, List.length_nil]; omega
          have FL2 : Hid (k + 1 < l.length → i + 1 < (F (k + 1 + 1)).length) := fun h => by have := (FL.out (k + 1) h).1; omega
          clear h2 h3 hc hA
          generalize hfk : (F k).length = fk at *
          generalize hAl : A.length = al at *
          generalize hEl : E.length = el at *
          generalize hSE : Ch.tx E = SE at *
          generalize hHD : Ch.tx (Lib.itoa k ++ [58, 32]) = HD at *
          generalize hNS : (⟨(Lib.itoa k).toArray⟩ : ByteArray) = NS at *
          generalize hil : (Lib.itoa k).length = dl at *
          have JA := hid ja
          have HE := HL.out.symm
          have x3 : ((SE.extract fk (fk + (dl + 2))).toList == HD.toList) = true := by rw [XE.out]; exact beq_self_eq_true _
          have z1 : (dl : Int) + 2 ≤ (i : Int) - (fk : Int) := by omega
          have z2 : ¬ (i : Int) - (fk : Int) < (dl : Int) + 2 := by omega
          have z3 : (fk : Int) + ((dl : Int) + 2) ≤ (el : Int) := by omega
          have x2 := XS.out fk i (by omega) (by omega)
          have y4 : ((i - fk : Nat) : Int) = (i : Int) - (fk : Int) := by omega
          clear ja
          go_upto_region 13 with fail
          go_upto_region 14 with (go_at_call 13; with_reducible refine NU.out.mono ?_; rintro e w5 ⟨rfl, hB⟩; have S1 := hid (And.intro (below_on J.out.2.2.2.1 hB) (And.intro (J.out.2.2.2.2.1.on hB) (J.out.2.2.2.2.2.on hB))); clear NU hB)
          clear HE
          go_upto_region 16 with fail
          clear x2 x3 z1 z2 y4
          go_wp2_with fail
          go_roundg (el - (i + 1))
          case measure => omega
          case rel => exact ⟨k + 1, i + 1, by omega, by go_num, by rw [NX2]; go_num, by go_num, kl, by omega, FL2.out, S1.out⟩
        · have jb : i - (F k).length < A.length := by omega
          obtain ⟨b0, b1⟩ := hc A[i - (F k).length] (List.getElem_mem _)
          have EI : E[i]? = some A[i - (F k).length] := by
            rw [h3, List.append_assoc, List.getElem?_append_right (by omega), List.append_assoc, List.getElem?_append_left jb, List.getElem?_eq_getElem jb]
          obtain ⟨c, hcN⟩ : ∃ c : Nat, (A[i - (F k).length]).toNat = c := ⟨_, rfl⟩
          rw [hcN] at b0 b1
          have IX : ∀ h, (((Ch.tx E)[i]'h).toNat : Int) = (c : Int) := fun h => by
            rw [byte_getD, List.getD_eq_getElem?_getD, show (Ch.tx E).data.toList = E from rfl, EI, ← hcN]; rfl
          have c0 : (32 : Int) ≤ (c : Int) := by omega
          have c1 : (c : Int) ≤ 126 := by omega
          have c2 : ¬ (c : Int) = 10 := by omega
          have c3 : ((c : Int) == 10) = false := beq_false_of_ne c2
          have c4 : ¬ (c : Int) < 32 := by omega
          have c5 : ¬ 126 < (c : Int) := by omega
          have SJ : Hid (k ≤ l.length ∧ (F k).length ≤ i + 1 ∧ (k < l.length → i + 1 < (F (k + 1)).length)) := ⟨by omega, by omega, fun _ => by rw [NX.out]; simp only [List.length_append, List.length_cons, List.length_nil]; omega⟩
          have S1 := hid J.out.2.2.2
          clear h2 h3 hc hA EI hcN XE HL NU NX FL HS AL XS b0 b1 jb ja
          generalize hfk : (F k).length = fk at *
          generalize hEl : E.length = el at *
          generalize hSE : Ch.tx E = SE at *
          go_wp2_with fail
          go_roundg (el - (i + 1))
          case measure => omega
          case rel => exact ⟨k, i + 1, by omega, rfl, by rw [hfk], by go_num, SJ.out.1, by rw [hfk]; exact SJ.out.2.1, SJ.out.2.2, S1.out⟩
      · have kn : k = l.length := by
          rcases Nat.lt_or_ge k l.length with h | h
          · have := J.out.2.2.1 h
            have := (FL.out k h).2
            omega
          · exact Nat.le_antisymm J.out.1 h
        subst kn
        obtain rfl : i = E.length := by omega
        have B4 := hid J.out.2.2.2.1
        have X4 := hid J.out.2.2.2.2.1
        have Z4 := hid J.out.2.2.2.2.2
        obtain ⟨k0, k1, k2⟩ := bx3 X4.out
        obtain ⟨m0, m1, m2⟩ := bx3 Z4.out
        clear J FL sg SG L00 LE
        generalize F l.length = FF at *
        generalize hEl : E.length = el at *
        go_upto_region 22 with fail
        go_upto_region 23 with (go_at_call 12; refine (LD.out _ B4.out).mono ?_; rintro e w6 ⟨v, err, rfl, hB, hv⟩; have B6 := hid (below_on B4.out hB); have X6 := hid (X4.out.on hB); have Z6 := hid (Z4.out.on hB); clear k0 k1 k2 m0 m1 m2; obtain ⟨k0, k1, k2⟩ := bx3 X6.out; obtain ⟨m0, m1, m2⟩ := bx3 Z6.out; clear LD B4 X4 Z4)
        rcases hv with ⟨c, rfl, rfl⟩ | ⟨c, hl', rfl, rfl⟩ | ⟨c, hl', rfl, rfl⟩
        · go_wp2_with fail
          go_ret
          exact ⟨rfl, B6.out⟩
        · go_wp2_with fail
          go_ret
          exact ⟨rfl, B6.out⟩
        · by_cases ee : E' = E
          · have RX' := (CE'.resolve_right (fun z => absurd (show D3 = 0 from c) (by rw [z]; decide))).2.2
            have ll : l = l' := IJ.out RX RX' ee.symm
            have eq : ((Ch.tx E').toList == (Ch.tx E).toList) = true := by rw [ee]; exact beq_self_eq_true _
            clear IJ RX RX' CE CE' ee
            subst ll
            have LL := hid (fun W hW => GL.out W hW)
            clear GL
            generalize hnl : l.length = n at *
            obtain ⟨bb, hbb⟩ : ∃ bb, w.heap.size = bb := ⟨_, rfl⟩
            have S0 : Hid (Below bb w w6 ∧ Bx w6 bb 26 #[.slice p n cap, .slice q nums.length c2, .slice r strs.length c3] ∧ Bx w6 (bb + 1) 26 #[.slice p' n cap', .slice q' nums'.length c2', .slice r' strs'.length c3']) := by rw [← hbb]; exact ⟨B6.out, X6.out, Z6.out⟩
            clear c hl' hl X6 Z6 B6
            rw [hbb] at k0 k1 k2 m0 m1 m2
            go_upto_region 28 with fail
            clear k0 k1 k2 m0 m1 m2
            go_loopg [16] n (fun m iv wr => ∃ k : Nat, k + m = n ∧ iv = .int .i64 (k : Int) ∧ Hid (Below bb w wr ∧ Bx wr bb 26 #[.slice p n cap, .slice q nums.length c2, .slice r strs.length c3] ∧ Bx wr (bb + 1) 26 #[.slice p' n cap', .slice q' nums'.length c2', .slice r' strs'.length c3']))
            case atStart => exact ⟨0, by omega, rfl, S0⟩
            case round =>
              obtain ⟨k, hk, rfl, J⟩ := hrel
              clear S0
              obtain ⟨k0, k1, k2⟩ := bx3 J.out.2.1
              obtain ⟨j0, j1, j2⟩ := bx3 J.out.2.2
              by_cases kl : k < n
              · have kli : (k : Int) < (n : Int) := by omega
                have kd : (k : Int) ≤ 9223372036854775807 := by omega
                have U0 : Hid (Below wr.heap.size wr wr.drew) := Below.drew (Below.refl _ _)
                obtain ⟨g1, g2⟩ := LL.out wr.drew (by rw [hbb]; exact Below.drew J.out.1)
                obtain ⟨b, off, rfl, a0, a1, a2⟩ := g1 k _ (List.getElem?_eq_getElem (by omega))
                obtain ⟨b', off', rfl, e0, e1, e2⟩ := g2 k _ (List.getElem?_eq_getElem (by omega))
                generalize l[k] = x at *
                have J2 : Hid (Below bb w wr.drew ∧ Bx wr.drew bb 26 #[.slice (some ⟨b, off, none⟩) n cap, .slice q nums.length c2, .slice r strs.length c3] ∧ Bx wr.drew (bb + 1) 26 #[.slice (some ⟨b', off', none⟩) n cap', .slice q' nums'.length c2', .slice r' strs'.length c3']) := ⟨Below.drew J.out.1, J.out.2.1.on U0.out, J.out.2.2.on U0.out⟩
                have m0 := (bx3 J2.out.2.1).1
                have m1 := (bx3 J2.out.2.2).1
                obtain ⟨xw, xa, xb⟩ := x
                simp only at a0 a1 a2 e0 e1 e2
                clear J LL U0 g1 g2
                go_upto_region 30 with fail
                go_region_held3 (fun W => W.cell? ⟨bb, 0, none⟩ = some (.slice (some ⟨b, off, none⟩) n cap) ∧ W.cell? ⟨bb + 1, 0, none⟩ = some (.slice (some ⟨b', off', none⟩) n cap') ∧ W.cell? ⟨b, off + k * 3, none⟩ = some (.int .i64 xw) ∧ W.cell? ⟨b, off + k * 3 + 1, none⟩ = some (.int .i64 xa) ∧ W.cell? ⟨b, off + k * 3 + 2, none⟩ = some (.int .i64 xb) ∧ W.cell? ⟨b', off' + k * 3, none⟩ = some (.int .i64 xw) ∧ W.cell? ⟨b', off' + k * 3 + 1, none⟩ = some (.int .i64 xa) ∧ W.cell? ⟨b', off' + k * 3 + 2, none⟩ = some (.int .i64 xb)) (with_reducible exact ⟨m0, m1, a0, a1, a2, e0, e1, e2⟩) (fail)
                all_goals
                  clear m0 m1 a0 a1 a2 e0 e1 e2 k0 k1 k2 j0 j1 j2
                  generalize wr.drew = w9 at *
                  go_wp2_with fail
                  go_roundg (n - (k + 1))
                  case measure => omega
                  case rel => exact ⟨k + 1, by omega, by go_num, J2⟩
              · have kli : ¬ (k : Int) < (n : Int) := by omega
                have S1 := hid J.out
                clear LL J kl hk
                go_wp2_with fail
                go_ret
                exact ⟨rfl, S1.out.1⟩
          · have ne : ((Ch.tx E').toList == (Ch.tx E).toList) = false := by
              refine beq_false_of_ne fun h => ee ?_
              rw [ByteArray.toList_eq, ByteArray.toList_eq] at h
              exact h
            go_wp2_with fail
            go_ret
            exact ⟨rfl, B6.out⟩
end Go.Proofs.YtnobafmleellhabDoor
