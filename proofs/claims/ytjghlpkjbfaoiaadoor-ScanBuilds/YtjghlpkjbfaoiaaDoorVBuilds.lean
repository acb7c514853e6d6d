/-
  law08: ScanBuilds.
-/
import Derived.Test.YtjghlpkjbfaoiaaDoorVBuilt
import Derived.Test.YtjghlpkjbfaoiaaDoorVMade2
import Derived.Test.YtjghlpkjbfaoiaaDoorVCmp
import Derived.Test.YtjghlpkjbfaoiaaDoorVLongest
import Derived.Test.YtjghlpkjbfaoiaaDoorOpenDec
import Derived.Deep.LoopGhost
namespace Go.Proofs.YtjghlpkjbfaoiaaDoor
open Go Go.RowKit Go.Deep

theorem num_lit1 : Sc.num [43, 51, 46, 50, 53, 69, 49, 59] = (⟨false, [51, 50, 53], -1⟩, 7) := by decide +kernel

theorem PB.far {w wx : World} {b o : Nat} {v v0 v1 v2 v3 v4 v5 v6 v7 v8 : Value} (h : PB w wx v0 v1 v2 v3 v4 v5 v6 v7 v8) (hb : w.heap.size < b) : PB w (wx.setCell ⟨b, o, none⟩ v) v0 v1 v2 v3 v4 v5 v6 v7 v8 := by
  refine ⟨h.1.setCell (p := ⟨b, o, none⟩) (by show w.heap.size ≤ b; omega) v, ?_⟩
  have := h.2
  simp only [Row9] at *
  simp only [World.setCell, Array.getElem?_modify]
  rw [if_neg (by omega)]; exact this

/-- The box of p, and a Dec in a box behind it. -/
def BS (w wx : World) (b : Nat) (x0 x1 x2 v0 v1 v2 v3 v4 v5 v6 v7 v8 : Value) : Prop := PB w wx v0 v1 v2 v3 v4 v5 v6 v7 v8 ∧ w.heap.size < b ∧ Row3 wx b x0 x1 x2
theorem BS.new {w w1 : World} {v0 v1 v2 v3 v4 v5 v6 v7 v8 : Value} (h : PB w w1 v0 v1 v2 v3 v4 v5 v6 v7 v8) (x0 x1 x2 : Value) : BS w (w1.alloc (.cells #[x0, x1, x2] 29)) w1.heap.size x0 x1 x2 v0 v1 v2 v3 v4 v5 v6 v7 v8 := ⟨h.on (alloc_b _ _), h.2.lt, heap_alloc_new _ _⟩
theorem BS.on {w wx w' : World} {b : Nat} {x0 x1 x2 v0 v1 v2 v3 v4 v5 v6 v7 v8 : Value} (h : BS w wx b x0 x1 x2 v0 v1 v2 v3 v4 v5 v6 v7 v8) (k : Below wx.heap.size wx w') : BS w w' b x0 x1 x2 v0 v1 v2 v3 v4 v5 v6 v7 v8 := ⟨h.1.on k, h.2.1, h.2.2.below k h.2.2.lt⟩
theorem BS.put {w wx : World} {b : Nat} {x0 x1 x2 v0 v1 v2 v3 v4 v5 v6 v7 v8 : Value} (h : BS w wx b x0 x1 x2 v0 v1 v2 v3 v4 v5 v6 v7 v8) (y0 y1 y2 : Value) : BS w (((wx.setCell ⟨b, 0, none⟩ y0).setCell ⟨b, 1, none⟩ y1).setCell ⟨b, 2, none⟩ y2) b y0 y1 y2 v0 v1 v2 v3 v4 v5 v6 v7 v8 :=
  ⟨((h.1.far h.2.1).far h.2.1).far h.2.1, h.2.1, h.2.2.put _ _ _⟩
theorem BS.bel {w wx : World} {b : Nat} {x0 x1 x2 v0 v1 v2 v3 v4 v5 v6 v7 v8 : Value} (h : BS w wx b x0 x1 x2 v0 v1 v2 v3 v4 v5 v6 v7 v8) : Below w.heap.size w wx := h.1.1

theorem fig_dg (zs : List Int) : ∀ x ∈ zs.map fig, Sc.dg x = true := fun x hx => by
  obtain ⟨z, -, rfl⟩ := List.mem_map.1 hx
  exact Sc.dg_iff.2 (fig_bd z)

theorem one_blank (r : Nat) (h : r < 6) : ∃ c, Sc.bl c = true ∧ Str ((⟨#[9, 10, 11, 12, 13, 32]⟩ : ByteArray).extract r (r + 1)) [c] := by
  rcases (show r = 0 ∨ r = 1 ∨ r = 2 ∨ r = 3 ∨ r = 4 ∨ r = 5 by omega) with rfl | rfl | rfl | rfl | rfl | rfl
  · exact ⟨9, rfl, rfl⟩
  · exact ⟨10, rfl, rfl⟩
  · exact ⟨11, rfl, rfl⟩
  · exact ⟨12, rfl, rfl⟩
  · exact ⟨13, rfl, rfl⟩
  · exact ⟨32, rfl, rfl⟩

theorem exS_bd (L m E : Int) : -1000000000000000 ≤ Sc.exS (elOf L) m E.toNat ∧ Sc.exS (elOf L) m E.toNat ≤ 1000000000000000 := by
  unfold Sc.exS
  split
  · split <;> omega
  · omega
theorem elOf_is (L : Int) : ∀ c, elOf L = some c → c = 101 ∨ c = 69 := fun c h => by
  unfold elOf at h
  split at h
  · left; simpa using h.symm
  · split at h
    · right; simpa using h.symm
    · simp at h

set_option maxRecDepth 100000 in
set_option maxHeartbeats 8000000 in
theorem builds_of (Bk n : Int) (p1 : Option Addr) (l1 c1 : Nat) (pt : Bool) (p2 : Option Addr) (l2 c2 : Nat) (L m E : Int) (tr : ByteArray) (za zb : List Int) (w : World)
    (g1 : za.length = l1) (g2 : l1 ≤ 140737488351232) (g3 : Bys w p1 za) (g4 : ∀ z ∈ za, 0 ≤ z ∧ z < 256) (k1 : zb.length = l2) (k2 : l2 ≤ 140737488351232) (k3 : Bys w p2 zb) (k4 : ∀ z ∈ zb, 0 ≤ z ∧ z < 256) (hs : tr.size ≤ 140737488351232) (hE : E ≤ 9223372036854775807) :
    Calls Tryd.prog 6 #[.agg #[.int .i64 Bk, .int .i64 n, .slice p1 l1 c1, .bool pt, .slice p2 l2 c2, .int .i64 L, .int .i64 m, .int .i64 E, .string tr]] w fun e w' => e = .returned (.bool true) ∧ Below w.heap.size w w' := by
  have N0 : Hid (∀ wx, Calls Tryd.prog 14 #[.string ⟨#[43, 51, 46, 50, 53, 69, 49, 59]⟩] wx fun e w' => e = .returned (.tuple #[.agg #[.bool false, .string ⟨#[51, 50, 53]⟩, .int .i64 (-1)], .int .i64 7]) ∧ Below wx.heap.size wx w') := fun wx => by
    refine (number_any ⟨#[43, 51, 46, 50, 53, 69, 49, 59]⟩ [43, 51, 46, 50, 53, 69, 49, 59] wx rfl (by decide) (fun _ => by decide +kernel)).mono ?_
    rintro e w' ⟨v, rfl, hv, hB⟩
    rw [num_lit1] at hv ⊢
    rw [hv.two ⟨⟨#[51, 50, 53]⟩, rfl, rfl⟩]
    exact ⟨rfl, hB⟩
  have BU := hid (fun wx (hx : Below w.heap.size w wx) => built_any (.int .i64 Bk) n p1 l1 c1 pt p2 l2 c2 L m E (.string tr) za zb wx g1 k1 g2 k2 (g3.below hx) (k3.below hx) g4 k4 hE)
  have HTR := hid (Str.self tr)
  have htl := str_len tr hs
  have SP := hid (fun wx => stops_any tr _ wx (Str.self tr) (by omega))
  have hA := fig_dg za
  have hB' := fig_dg zb
  have LA : (za.map fig).length = l1 := by rw [List.length_map]; exact g1
  have LB : (zb.map fig).length = l2 := by rw [List.length_map]; exact k1
  generalize za.map fig = A at *
  generalize zb.map fig = B at *
  generalize tr.data.toList.map (fun b => (b.toNat : Int)) = tl at *
  have trz : tr.size = tl.length := HTR.out.size
  have Z := hid (PB.new w (.int .i64 Bk) (.int .i64 n) (.slice p1 l1 c1) (.bool pt) (.slice p2 l2 c2) (.int .i64 L) (.int .i64 m) (.int .i64 E) (.string tr))
  clear g1 g3 g4 k1 k3 k4
  go_enter Tryd.func6, Tryd.ntmps6
  go_wp2_with fail
  refine (N0.out _).mono ?_
  rintro e w1 ⟨rfl, hB⟩
  have D1 := hid (BS.new (Z.out.on hB) (.bool false) (.string ⟨#[51, 50, 53]⟩) (.int .i64 (-1)))
  clear hB Z N0
  obtain ⟨f0, f1, f2, f3, f4, f5, f6, f7, f8⟩ := D1.out.1.flat
  go_wp2_with fail
  generalize w1.heap.size = b at *
  generalize w1.alloc (.cells #[.bool false, .string ⟨#[51, 50, 53]⟩, .int .i64 (-1)] 29) = wA at *
  refine (BU.out _ D1.out.bel).mono ?_
  rintro e w2 ⟨hbu, hB⟩
  have D2 := hid (D1.out.on hB)
  clear hB BU D1 f0 f1 f2 f3 f4 f5 f6 f7 f8
  obtain ⟨f0, f1, f2, f3, f4, f5, f6, f7, f8⟩ := D2.out.1.flat
  rcases hbu with rfl | ⟨s, t, rfl, hs1, ht1, hne⟩
  · go_wp2_with fail
    go_ret
    exact ⟨rfl, D2.out.bel⟩
  · have MT : Sc.sgT n ++ A ++ ((if pt = true then 46 :: B else []) ++ Sc.exL (elOf L) m E.toNat) = Sc.mtx n A B pt (elOf L) m E.toNat := rfl
    rw [MT] at hs1
    clear MT
    have eb := exS_bd L m E
    have HM : ∀ P tail : List Int, (∀ x ∈ P, Sc.bl x = true) → Sc.TailOk tail → Sc.num (P ++ Sc.mtx n A B pt (elOf L) m E.toNat ++ tail) = (Sc.nrm (decide (n = 2)) (A ++ (if pt = true then B else [])) (Sc.exS (elOf L) m E.toNat - ((if pt = true then B else []).length : Int)), (P ++ Sc.mtx n A B pt (elOf L) m E.toNat).length) ∧
        Sc.run Sc.bl (P ++ Sc.mtx n A B pt (elOf L) m E.toNat ++ tail) 0 = P.length ∧ (Sc.lit (P ++ Sc.mtx n A B pt (elOf L) m E.toNat ++ tail) P.length).ah.length + (Sc.lit (P ++ Sc.mtx n A B pt (elOf L) m E.toNat ++ tail) P.length).bh.length ≤ A.length + B.length ∧
        ((∀ x ∈ tail, Sc.bl x = true) → Sc.whl (P ++ Sc.mtx n A B pt (elOf L) m E.toNat ++ tail) = (Sc.nrm (decide (n = 2)) (A ++ (if pt = true then B else [])) (Sc.exS (elOf L) m E.toNat - ((if pt = true then B else []).length : Int)), true)) := fun P tail hP ht =>
      ⟨Sc.made_num P A B tail n m pt (elOf L) E.toNat hP hA hB' hne (elOf_is L) ht, Sc.made_run P A B tail n m pt (elOf L) E.toNat hP hA hne, Sc.made_ab P A B tail n m pt (elOf L) E.toNat hA hB' hne (elOf_is L) ht, fun hb => Sc.made_whl P A B tail n m pt (elOf L) E.toNat hP hA hB' hne (elOf_is L) ht hb⟩
    have ML := Sc.mtx_len n A B pt (elOf L) m E.toNat (by have := dl_len2 18 E.toNat (by omega); omega)
    have FBd : ∀ x ∈ (if pt = true then B else []), Sc.dg x = true := by split; (exact hB'); simp
    have FBl : (if pt = true then B else []).length ≤ l2 := by split; (omega); simp
    have FBn : A.length + (if pt = true then B else []).length ≠ 0 := by
      cases pt with
      | true => simpa using hne
      | false => simpa using hne
    have ID := Sc.made_dec A (if pt = true then B else []) (Sc.exS (elOf L) m E.toNat) hA FBd FBn (by omega) eb.1 eb.2
    generalize Sc.mtx n A B pt (elOf L) m E.toNat = MX at *
    generalize hF : (if pt = true then B else []) = F at *
    generalize Sc.exS (elOf L) m E.toNat = xs0 at *
    obtain ⟨ee, hee⟩ : ∃ ee, xs0 - (F.length : Int) = ee := ⟨_, rfl⟩
    have eeb : -2000000000000000 ≤ ee ∧ ee ≤ 2000000000000000 := by omega
    rw [hee] at HM ID ⊢
    have HMM := hid HM
    have NO : Hid (∀ (q : Bool) wx, q = decide (n = 2) → Calls Tryd.prog 19 #[.agg #[.bool q, .string t, .int .i64 ee]] wx fun r w' => ∃ v, r = .returned (.tuple #[v, .int .i64 0]) ∧ DecIs v (Sc.nrm (decide (n = 2)) (A ++ F) ee) ∧ Below wx.heap.size wx w') := fun q wx hq => by
      have h := norm_any q t (A ++ F) ee wx ht1 (by rw [List.length_append]; omega)
      refine h.mono ?_
      rintro r w' ⟨v, rfl, hv, hB⟩
      refine ⟨v, ?_, ?_, hB⟩
      · unfold errOf; rw [if_pos ID]
      · unfold nmd at hv; rw [if_pos ID] at hv; rw [← hq]; exact hv
    clear HM hF ID FBn FBd hee eb hne
    have HS1 := hid hs1
    have szs : s.size = MX.length := hs1.size
    have HT1 := hid ht1
    clear hs1 ht1
    generalize Sc.nrm (decide (n = 2)) (A ++ F) ee = D at *
    go_wp2_with fail
    refine (SP.out _).mono ?_
    rintro e w3 ⟨⟨bb, rfl, hst⟩, hw3⟩
    rw [hw3]
    clear hw3 w3
    cases bb with
    | false =>
      clear hst
      go_wp2_with fail
      go_ret
      exact ⟨rfl, D2.out.bel⟩
    | true =>
      have ST := hid (hst rfl)
      clear hst
      by_cases hb0 : Bk < 0
      · go_wp2_with fail
        go_ret
        exact ⟨rfl, D2.out.bel⟩
      · by_cases hb1 : 1000 < Bk
        · go_wp2_with fail
          go_ret
          exact ⟨rfl, D2.out.bel⟩
        · obtain ⟨K, hK⟩ : ∃ K : Nat, Bk = (K : Int) := ⟨Bk.toNat, by omega⟩
          subst hK
          have hK1 : (K : Int) ≤ 1000 := by omega
          have zc : (⟨#[9, 10, 11, 12, 13, 32]⟩ : ByteArray).size = 6 := rfl
          have tz : tl.length ≤ 140737488351232 := by omega
          have mz : MX.length ≤ 281474976702494 := by omega
          go_wp2_with fail
          go_loop [9, 10] (fun c i => ∃ (ld : ByteArray) (j : Nat), c = .string ld ∧ i = .int .i64 j ∧ ld.size = j ∧ j ≤ K ∧ Hid (∃ P : List Int, Str ld P ∧ P.length = j ∧ ∀ x ∈ P, Sc.bl x = true)) (fun _ i => K - (vInt i).toNat)
          case atStart => exact ⟨⟨#[]⟩, 0, rfl, rfl, rfl, Nat.zero_le _, [], rfl, rfl, by simp⟩
          case round =>
            obtain ⟨ld, j, rfl, rfl, hldz, hj, I⟩ := hrel
            by_cases hjK : j < K
            · have hjl : (j : Int) < (K : Int) := by omega
              obtain ⟨r, hr⟩ : ∃ r, j % 6 = r := ⟨_, rfl⟩
              have tm : Int.tmod (j : Int) 6 = (r : Int) := by rw [Int.tmod_eq_emod_of_nonneg (by omega)]; omega
              have hr6 : (r : Int) < 6 := by omega
              have hr7 : (r : Int) + 1 ≤ 6 := by omega
              obtain ⟨c, hc1, hc2⟩ := one_blank r (by omega)
              have zx := hc2.size
              have ncat : ¬ (9223372036854775807 < j + 1) := by omega
              have F2 : Hid (∃ P : List Int, Str (ld ++ (⟨#[9, 10, 11, 12, 13, 32]⟩ : ByteArray).extract r (r + 1)) P ∧ P.length = j + 1 ∧ ∀ x ∈ P, Sc.bl x = true) := by
                obtain ⟨P, h1, h2, h3⟩ := I.out
                refine ⟨P ++ [c], h1.append hc2, by simp [h2], fun x hx => ?_⟩
                rcases List.mem_append.1 hx with h | h
                · exact h3 x h
                · simp at h; rw [h]; exact hc1
              have zz : (ld ++ (⟨#[9, 10, 11, 12, 13, 32]⟩ : ByteArray).extract r (r + 1)).size = j + 1 := by rw [ByteArray.size_append, hldz, zx]; rfl
              have ZZ := hid zz
              simp only [List.length_cons, List.length_nil, Nat.zero_add] at zx
              clear zz hr hc1 hc2 I
              go_wp2_with fail
              go_round
              case rel => exact ⟨_, j + 1, rfl, by go_num, ZZ.out, by omega, F2.out⟩
              case measure => simp [vInt]; omega
            · obtain rfl : j = K := by omega
              have hjl : ¬ (j : Int) < (j : Int) := by omega
              obtain ⟨P, hP1, hP2, hP3⟩ := I.out
              obtain ⟨m1, m2, m3, -⟩ := HMM.out P tl hP3 ⟨by rw [Sc.dg_not]; have := ST.out; omega, ST.out.1, by have := ST.out; simp [Sc.isE]; omega, ST.out.2.2.2.2.1, ST.out.2.2.2.2.2⟩
              obtain ⟨-, q2, q3, q4⟩ := HMM.out P P hP3 (Sc.TailOk.blanks hP3)
              have NU : Hid (∀ wx, Calls Tryd.prog 14 #[.string (ld ++ s ++ tr)] wx fun e w' => ∃ v, e = .returned (.tuple #[v, .int .i64 ((j : Int) + (MX.length : Int))]) ∧ DecIs v D ∧ Below wx.heap.size wx w') := fun wx => by
                have h := number_any _ _ wx ((hP1.append HS1.out).append HTR.out) (by simp only [List.length_append]; omega) (fun _ => by rw [m2]; omega)
                refine h.mono ?_
                rintro r w' ⟨v, rfl, hv, hB⟩
                rw [m1] at hv ⊢
                exact ⟨v, by simp [List.length_append, hP2], hv, hB⟩
              have WH : Hid (∀ wx, Calls Tryd.prog 15 #[.string (ld ++ s ++ ld)] wx fun e w' => ∃ v, e = .returned (.tuple #[v, .bool true]) ∧ DecIs v D ∧ Below wx.heap.size wx w') := fun wx => by
                have h := whole_any _ _ wx ((hP1.append HS1.out).append hP1) (by simp only [List.length_append]; omega) (fun _ => by rw [q2]; omega)
                refine h.mono ?_
                rintro r w' ⟨v, rfl, hv, hB⟩
                rw [q4 hP3] at hv ⊢
                exact ⟨v, rfl, hv, hB⟩
              have r1 : ¬ (9223372036854775807 < j + MX.length) := by omega
              have r2 : ¬ (9223372036854775807 < j + MX.length + tl.length) := by omega
              have r3 : ¬ (9223372036854775807 < j + MX.length + j) := by omega
              have GG : Hid (∀ v, DecIs v D → ∃ t, v = .agg #[.bool D.neg, .string t, .int .i64 D.e]) := fun v h => ⟨h.choose, h.choose_spec.1⟩
              have hMi : (MX.length : Int) ≤ 281474976702494 := by omega
              clear m1 m2 m3 q2 q3 q4 hP1 hP2 hP3 I HMM HS1 HT1 HTR ST
              have NO1 : Hid (∀ wx, Calls Tryd.prog 19 #[.agg #[.bool (decide (n = 2)), .string t, .int .i64 ee]] wx fun r w' => ∃ v, r = .returned (.tuple #[v, .int .i64 0]) ∧ DecIs v D ∧ Below wx.heap.size wx w') := fun wx => NO.out _ wx rfl
              clear NO
              by_cases hn2 : n = 2
              · subst hn2
                rw [decide_eq_true rfl] at NO1
                go_wp2_with fail
                refine (NO1.out _).mono ?_
                rintro e w5 ⟨v, rfl, hv, hB⟩
                obtain ⟨t5, rfl⟩ := GG.out _ hv
                have HV := hid hv
                have D5 := hid ((D2.out.on hB).on (alloc_b w5 (.cells #[.bool D.neg, .string t5, .int .i64 D.e] 29)))
                have W5 : Hid (Row3 (w5.alloc (.cells #[.bool D.neg, .string t5, .int .i64 D.e] 29)) w5.heap.size (.bool D.neg) (.string t5) (.int .i64 D.e)) := Row3.new _ _ _ _
                have BG : Hid (b ≠ w5.heap.size) := by have := (D2.out.on hB).2.2.lt; show _ ≠ _; omega
                clear hB hv D2 f0 f1 f2 f3 f4 f5 f6 f7 f8 NO1
                obtain ⟨f0, f1, f2, f3, f4, f5, f6, f7, f8⟩ := D5.out.1.flat
                go_upto_region 13 with fail
                generalize w5.alloc (.cells #[.bool D.neg, .string t5, .int .i64 D.e] 29) = wB at *
                generalize w5.heap.size = g at *
                go_wp2_with fail
                refine (NU.out _).mono ?_
                rintro e w6 ⟨v, rfl, hv, hB⟩
                have hv2 := hv.two HV.out
                subst hv2
                have D6 := hid (D5.out.on hB)
                have W6 := hid (W5.out.below hB W5.out.lt)
                clear hB hv D5 W5 f0 f1 f2 f3 f4 f5 f6 f7 f8 NU
                obtain ⟨⟨d0, d1, d2⟩, e0, e1, e2⟩ := D6.out.2.2.cells
                have D7 := hid (D6.out.put (.bool D.neg) (.string t5) (.int .i64 D.e))
                have W7 : Hid (Row3 (((w6.setCell ⟨b, 0, none⟩ (.bool D.neg)).setCell ⟨b, 1, none⟩ (.string t5)).setCell ⟨b, 2, none⟩ (.int .i64 D.e)) g (.bool D.neg) (.string t5) (.int .i64 D.e)) := ((W6.out.far BG.out).far BG.out).far BG.out
                go_upto_region 14 with fail
                generalize ((w6.setCell ⟨b, 0, none⟩ (.bool D.neg)).setCell ⟨b, 1, none⟩ (.string t5)).setCell ⟨b, 2, none⟩ (.int .i64 D.e) = wC at *
                clear d0 d1 d2 e0 e1 e2 D6 W6
                obtain ⟨⟨d0, d1, d2⟩, -⟩ := D7.out.2.2.cells
                obtain ⟨⟨h0, h1, h2⟩, -⟩ := W7.out.cells
                go_wp2_with fail
                refine (WH.out _).mono ?_
                rintro e w8 ⟨v, rfl, hv, hB⟩
                have hv2 := hv.two HV.out
                subst hv2
                have D8 := hid ((D7.out.on hB).on (alloc_b w8 (.cells #[.bool D.neg, .string t5, .int .i64 D.e] 29)))
                have W8 := hid (((W7.out.below hB W7.out.lt).below (alloc_b w8 (.cells #[.bool D.neg, .string t5, .int .i64 D.e] 29)) (W7.out.below hB W7.out.lt).lt))
                clear hB hv d0 d1 d2 h0 h1 h2 D7 W7
                obtain ⟨⟨h0, h1, h2⟩, -⟩ := W8.out.cells
                go_wp2_with fail
                go_ret
                exact ⟨rfl, D8.out.bel⟩
              · have hn3 : (n == 2) = false := by rw [beq_eq_false_iff_ne]; exact hn2
                rw [decide_eq_false hn2] at NO1
                go_wp2_with fail
                refine (NO1.out _).mono ?_
                rintro e w5 ⟨v, rfl, hv, hB⟩
                obtain ⟨t5, rfl⟩ := GG.out _ hv
                have HV := hid hv
                have D5 := hid ((D2.out.on hB).on (alloc_b w5 (.cells #[.bool D.neg, .string t5, .int .i64 D.e] 29)))
                have W5 : Hid (Row3 (w5.alloc (.cells #[.bool D.neg, .string t5, .int .i64 D.e] 29)) w5.heap.size (.bool D.neg) (.string t5) (.int .i64 D.e)) := Row3.new _ _ _ _
                have BG : Hid (b ≠ w5.heap.size) := by have := (D2.out.on hB).2.2.lt; show _ ≠ _; omega
                clear hB hv D2 f0 f1 f2 f3 f4 f5 f6 f7 f8 NO1
                obtain ⟨f0, f1, f2, f3, f4, f5, f6, f7, f8⟩ := D5.out.1.flat
                go_upto_region 13 with fail
                generalize w5.alloc (.cells #[.bool D.neg, .string t5, .int .i64 D.e] 29) = wB at *
                generalize w5.heap.size = g at *
                go_wp2_with fail
                refine (NU.out _).mono ?_
                rintro e w6 ⟨v, rfl, hv, hB⟩
                have hv2 := hv.two HV.out
                subst hv2
                have D6 := hid (D5.out.on hB)
                have W6 := hid (W5.out.below hB W5.out.lt)
                clear hB hv D5 W5 f0 f1 f2 f3 f4 f5 f6 f7 f8 NU
                obtain ⟨⟨d0, d1, d2⟩, e0, e1, e2⟩ := D6.out.2.2.cells
                have D7 := hid (D6.out.put (.bool D.neg) (.string t5) (.int .i64 D.e))
                have W7 : Hid (Row3 (((w6.setCell ⟨b, 0, none⟩ (.bool D.neg)).setCell ⟨b, 1, none⟩ (.string t5)).setCell ⟨b, 2, none⟩ (.int .i64 D.e)) g (.bool D.neg) (.string t5) (.int .i64 D.e)) := ((W6.out.far BG.out).far BG.out).far BG.out
                go_upto_region 14 with fail
                generalize ((w6.setCell ⟨b, 0, none⟩ (.bool D.neg)).setCell ⟨b, 1, none⟩ (.string t5)).setCell ⟨b, 2, none⟩ (.int .i64 D.e) = wC at *
                clear d0 d1 d2 e0 e1 e2 D6 W6
                obtain ⟨⟨d0, d1, d2⟩, -⟩ := D7.out.2.2.cells
                obtain ⟨⟨h0, h1, h2⟩, -⟩ := W7.out.cells
                go_wp2_with fail
                refine (WH.out _).mono ?_
                rintro e w8 ⟨v, rfl, hv, hB⟩
                have hv2 := hv.two HV.out
                subst hv2
                have D8 := hid ((D7.out.on hB).on (alloc_b w8 (.cells #[.bool D.neg, .string t5, .int .i64 D.e] 29)))
                have W8 := hid (((W7.out.below hB W7.out.lt).below (alloc_b w8 (.cells #[.bool D.neg, .string t5, .int .i64 D.e] 29)) (W7.out.below hB W7.out.lt).lt))
                clear hB hv d0 d1 d2 h0 h1 h2 D7 W7
                obtain ⟨⟨h0, h1, h2⟩, -⟩ := W8.out.cells
                go_wp2_with fail
                go_ret
                exact ⟨rfl, D8.out.bel⟩
end Go.Proofs.YtjghlpkjbfaoiaaDoor
