/-
  THE WALK OF NatSum.
-/
import Derived.Test.YtamlindelmfbiaaSumLaw2
namespace Go.Proofs.Ytamlindelmfbiaa
open Go.RowKit Go.Deep

set_option maxRecDepth 100000 in
set_option maxHeartbeats 16000000 in
theorem natSum_some (b off n cap : Nat) (its : List Item) (w : World) (hn : its.length = n) (hc : n ≤ cap) (hcap : cap ≤ 17592186044416)
    (hcell : ∀ i it, its[i]? = some it → w.cell? ⟨b, off + i, none⟩ = some (.slice it.p it.n it.c)) (hi : Items w its) :
    Calls Try.prog 3 #[.slice (some ⟨b, off, none⟩) n cap] w fun e w' => e = .returned (.bool true) ∧ Below w.heap.size w w' := by
  have LN := hid hn
  have HC := hid hcell
  have HI := hid hi
  clear hn hcell hi
  go_enter Try.func3, Try.ntmps3
  go_wp2_with fail
  refine (awake_any _).mono ?_
  rintro e w1 ⟨rfl, hb1⟩
  have D1 := hid hb1
  clear hb1
  go_wp2_with fail
  go_loop [3, 4] (fun s i => ∃ j S : Nat, j ≤ n ∧ i = .int .i64 j ∧ s = .int .i64 S ∧ S ≤ 1048576 ∧ Hid (S = cnt (its.take j))) (fun _ i => n - (intOf i).toNat)
  case atStart => exact ⟨0, 0, Nat.zero_le _, rfl, rfl, by omega, by simp [Hid, cnt]⟩
  case round =>
    obtain ⟨j, S, hj, rfl, rfl, hS, HS⟩ := hrel
    by_cases hlt : j < n
    · obtain ⟨it, IT⟩ : ∃ it, Hid (its[j]? = some it) := item_at its j (by have := LN.out; omega)
      have ar := HI.out.at IT.out
      have hcl := (D1.out.cell (p := ⟨b, off + j, none⟩) (cell_lt (HC.out j _ IT.out))).trans (HC.out j _ IT.out)
      have C1 := hid (cnt_take_succ its j it IT.out)
      obtain ⟨q, m, c, zs⟩ := it
      simp only at ar hcl C1
      have hm : m ≤ 17592186044416 := by have := ar.2.1; have := ar.2.2.1; omega
      have hlt' : (j : Int) < (n : Int) := by omega
      clear ar
      by_cases hbig : 1048576 < S + (m + 1)
      · have hbig' : (1048576 : Int) < (S : Int) + ((m : Int) + 1) := by omega
        go_wp2
        go_ret
        exact ⟨rfl, D1.out⟩
      · have hbig' : ¬ (1048576 : Int) < (S : Int) + ((m : Int) + 1) := by omega
        go_wp2
        go_round
        case rel => exact ⟨j + 1, S + (m + 1), by omega, by go_num, by go_num, by omega, by have := C1.out; have := HS.out; show _ = _; omega⟩
        case measure => simp [intOf]; omega
    · obtain rfl : j = n := by omega
      have hlt' : ¬ (j : Int) < (j : Int) := by omega
      have CN : Hid (cnt its ≤ 1048576) := by
        have := HS.out
        rw [List.take_of_length_le (by have := LN.out; omega)] at this
        show _ ≤ _
        omega
      have hj20 : j ≤ 1048576 := by have := CN.out; have := len_cnt its; have := LN.out; omega
      have HP1 : Hid (Holds w1 (some ⟨b, off, none⟩) its) := .inr ⟨b, off, rfl, fun i it h => (D1.out.cell (p := ⟨b, off + i, none⟩) (cell_lt (HC.out i it h))).trans (HC.out i it h)⟩
      have SZ : Hid (∀ it ∈ its, it.n ≤ 1048576) := fun it h => by have := cnt_mem its it h; have := CN.out; omega
      clear HS hS hlt hj
      go_wp2_with fail
      refine (refSum_any _ j cap its _ LN.out hc (by omega) HP1.out (HI.out.below D1.out (Nat.le_refl _)) (fun it h => Nat.le_trans (SZ.out it h) (by omega))).mono ?_
      rintro e w2 hs
      obtain ⟨rw_, ow, f, rfl, hout, hlw, hll, hnb, hlen, hf, hb1⟩ := hs.out
      have OUT := hid hout
      have LW := hid hlw
      have LL := hid hll
      have D2 := hid (chain D1.out hb1 (Nat.le_refl _))
      have HF := hid hf
      clear hs hout hlw hll hnb hf hb1 HP1
      -- two rows for the copies
      have hmk1 := makeV (j + 1) (by omega) w2
      rw [show ((j + 1 : Nat) : Int) = (j : Int) + 1 by omega] at hmk1
      have g1 := GrownV.made w2 (j + 1)
      have b1 := (Below.refl w2.heap.size w2).alloc (Nat.le_refl _) (.cells (madeCells #[.slice none 0 0] (j + 1)) 24)
      have s1 : (w2.alloc (.cells (madeCells #[.slice none 0 0] (j + 1)) 24)).heap.size = w2.heap.size + 1 := World.size_alloc _ _
      generalize w2.alloc (.cells (madeCells #[.slice none 0 0] (j + 1)) 24) = w3 at hmk1 g1 b1 s1
      have hmk2 := makeV j (by omega) w3
      have g2 := GrownV.made w3 j
      have b2 := (Below.refl w3.heap.size w3).alloc (Nat.le_refl _) (.cells (madeCells #[.slice none 0 0] j) 24)
      have s2 : (w3.alloc (.cells (madeCells #[.slice none 0 0] j) 24)).heap.size = w3.heap.size + 1 := World.size_alloc _ _
      generalize w3.alloc (.cells (madeCells #[.slice none 0 0] j) 24) = w4 at hmk2 g2 b2 s2
      obtain ⟨G, hG⟩ : ∃ G, w2.heap.size = G := ⟨_, rfl⟩
      obtain ⟨H, hH⟩ : ∃ H, w3.heap.size = H := ⟨_, rfl⟩
      obtain ⟨B, hB4⟩ : ∃ B, w4.heap.size = B := ⟨_, rfl⟩
      have HGH : Hid (H = G + 1 ∧ B = H + 1) := by show _ ∧ _; omega
      have g1' := OwnV.keep (S := fun _ => False) g1 (Keep.of_below b2 (Nat.le_refl _)) (fun h => h)
      rw [hG] at hmk1 g1'
      rw [hH] at hmk2 g2
      have G1 : Hid (GrownV w4 G [] (j + 1)) := g1'
      have G2 := hid g2
      have D4 := hid (chain (chain D2.out b1 (Nat.le_refl _)) b2 (Nat.le_refl _))
      have LW4 := hid ((LW.out.below b1 (Nat.le_refl _)).below b2 (Nat.le_refl _))
      have LWB : Hid (0 < ow.length → ∀ a, rw_ = some a → a.block < G) := fun h0 a ha => by rw [← hG]; exact LW.out.lt h0 a ha
      have HB4 := hid hB4
      have WG : Hid (w.heap.size ≤ G) := by rw [← hG]; exact D2.out.size
      have WG2 := hid hG
      clear g1 g1' g2 b1 b2 s1 s2 hG hH hB4 LW
      go_wp2
      clear hmk1 hmk2
      go_loopw [7, 8, 9] (fun a t i wr => ∃ (k : Nat) (gs ts : List Item), k ≤ j ∧ i = .int .i64 k ∧ a = .slice (some ⟨G, 0, none⟩) k (j + 1) ∧ t = .slice (some ⟨H, 0, none⟩) k j ∧
        Hid (gs.length = k ∧ ts.length = k) ∧ Hid (GrownV wr G (gs.map Item.v) (j + 1 - k)) ∧ Hid (GrownV wr H (ts.map Item.v) (j - k)) ∧ Hid (gs.map Item.zs = (its.take k).map Item.zs) ∧ Hid (ts.map Item.zs = (its.reverse.take k).map Item.zs) ∧
        Hid (Cop wr B wr.heap.size gs) ∧ Hid (Diff gs) ∧ Hid (Cop wr B wr.heap.size ts) ∧ Keep (fun b => b = G ∨ b = H) w4 wr) (fun _ _ i _ => j - (intOf i).toNat)
      case atStart => exact ⟨0, [], [], Nat.zero_le _, rfl, rfl, rfl, ⟨rfl, rfl⟩, G1.out, G2.out, rfl, by simp [Hid], Cop.nil _ _ _, List.Pairwise.nil, Cop.nil _ _ _, Keep.refl _ _⟩
      case round =>
        obtain ⟨k, gs, ts, hk, rfl, rfl, rfl, LL2, GG, GH, ZG, ZT, CG, DG, CT, hK⟩ := hrel
        have DW := hid (D4.out.trans (hK.below (B := w.heap.size) (fun b hb => by have := HGH.out; have := WG.out; omega) D4.out.size))
        by_cases hlt : k < j
        · obtain ⟨it, IT⟩ : ∃ it, Hid (its[k]? = some it) := item_at its k (by have := LN.out; omega)
          obtain ⟨it2, IT2⟩ : ∃ it2, Hid (its[j - 1 - k]? = some it2) := item_at its (j - 1 - k) (by have := LN.out; omega)
          have ar := (HI.out.at IT.out).below DW.out (Nat.le_refl _)
          have hcl := (DW.out.cell (p := ⟨b, off + k, none⟩) (cell_lt (HC.out k _ IT.out))).trans (HC.out k _ IT.out)
          have sz1 := SZ.out _ (List.mem_of_getElem? IT.out)
          have sz2 := SZ.out _ (List.mem_of_getElem? IT2.out)
          have ar2 := (HI.out.at IT2.out).below DW.out (Nat.le_refl _)
          have hcl2 := (DW.out.cell (p := ⟨b, off + (j - 1 - k), none⟩) (cell_lt (HC.out (j - 1 - k) _ IT2.out))).trans (HC.out (j - 1 - k) _ IT2.out)
          have RV := hid (rev_at LN.out (show (j - 1 - k) + 1 + k = j by omega) IT2.out)
          obtain ⟨q, m, c, zs⟩ := it
          obtain ⟨q2, m2, c2, zs2⟩ := it2
          simp only at ar hcl ar2 hcl2 sz1 sz2
          have AR := hid ar
          have AR2 := hid ar2
          have CL2 := hid hcl2
          have HK := hid hK
          have hlt' : (k : Int) < (j : Int) := by omega
          clear ar ar2 hK hcl2
          go_wp2_with fail
          refine (copied_any q m c zs _ AR.out).mono ?_
          rintro e wa ⟨rfl, oa, ba, sa⟩
          have KA : Hid (Keep (fun b => b = G ∨ b = H) wr wa) := Keep.of_below ba (Nat.le_refl _)
          have GL : Hid (G < wr.heap.size ∧ H < wr.heap.size) := ⟨OwnV.lt GG.out, OwnV.lt GH.out⟩
          have BL : Hid (B ≤ wr.heap.size) := by rw [← HB4.out]; exact HK.out.size
          have gga : GrownV wa G (gs.map Item.v) (j - k + 1) := by
            have := OwnV.keep (S := fun _ => False) GG.out (Keep.of_below ba (Nat.le_refl _)) (fun h => h)
            rw [show j + 1 - k = j - k + 1 by omega] at this
            exact this
          obtain ⟨wb, ap, gb, kb, sb⟩ := pushV G k (j - k) (j + 1) (gs.map Item.v) (.slice (some ⟨wr.heap.size, 0, none⟩) m m) rfl wa (by rw [List.length_map]; exact LL2.out.1) (by omega) gga
          have AP := hid ap
          have GB := hid gb
          have OA := hid oa
          have BA := hid ba
          have SA := hid sa
          have KB := hid kb
          have SB := hid sb
          have DWB := hid (DW.out.trans ((ba.mono (DW.out.size)).trans (kb.below (fun x hx => by have := WG.out; omega) (by have := DW.out.size; have := ba.size; omega))))
          have hcl3 := (DWB.out.cell (p := ⟨b, off + (j - 1 - k), none⟩) (cell_lt (HC.out (j - 1 - k) _ IT2.out))).trans (HC.out (j - 1 - k) _ IT2.out)
          simp only at hcl3
          have AR3 := hid ((HI.out.at IT2.out).below DWB.out (Nat.le_refl _))
          clear ap gb oa ba sa kb sb gga AR2 CL2
          go_wp2_with (at_builtin; refine wpList_append_row rfl _ _ rfl AP.out (by rfl) (by rfl) ?_; clear AP)
          refine (copied_any q2 m2 c2 zs2 _ AR3.out).mono ?_
          rintro e wc ⟨rfl, oc, bc, sc⟩
          have ghc : GrownV wc H (ts.map Item.v) (j - k - 1 + 1) := by
            have h1 := OwnV.keep (S := fun _ => False) GH.out (Keep.of_below BA.out (Nat.le_refl _)) (fun h => h)
            have h2 := h1.keep KB.out (fun h => by have := HGH.out; omega)
            have h3 := h2.keep (S := fun _ => False) (Keep.of_below bc (Nat.le_refl _)) (fun h => h)
            rw [show j - k = j - k - 1 + 1 by omega] at h3
            exact h3
          obtain ⟨wd, ap, gd, kd, sd⟩ := pushV H k (j - k - 1) j (ts.map Item.v) (.slice (some ⟨wb.heap.size, 0, none⟩) m2 m2) rfl wc (by rw [List.length_map]; exact LL2.out.2) (by omega) ghc
          have AP := hid ap
          have GD := hid gd
          have OC := hid oc
          have BC := hid bc
          have SC := hid sc
          have KD := hid kd
          have SD := hid sd
          clear ap gd oc bc sc kd sd ghc
          go_wp2_with (at_builtin; refine wpList_append_row rfl _ _ rfl AP.out (by rfl) (by rfl) ?_; clear AP)
          go_roundw
          case rel =>
            have KBD : Keep (fun b => b = G ∨ b = H) wa wd := ((KB.out.mono (fun b h => .inl h)).trans (Keep.of_below BC.out (Nat.le_refl _))).trans (KD.out.mono (fun b h => .inr h))
            have KRD : Keep (fun b => b = G ∨ b = H) wr wd := KA.out.trans KBD
            have s1 := SA.out
            have s2 := SB.out
            have s3 := SC.out
            have s4 := SD.out
            have g1 := GL.out
            have g2 := BL.out
            have g3 := HGH.out
            have SB' : ∀ x, (x = G ∨ x = H) → x < B := fun x hx => by omega
            refine ⟨k + 1, gs ++ [⟨some ⟨wr.heap.size, 0, none⟩, m, m, zs⟩], ts ++ [⟨some ⟨wb.heap.size, 0, none⟩, m2, m2, zs2⟩], by omega, by go_num, rfl, rfl, ?_, ?_, ?_, ?_, ?_, ?_, ?_, ?_, HK.out.trans KRD⟩
            · have := LL2.out; simp only [Hid, List.length_append, List.length_cons, List.length_nil]; omega
            · have h := OwnV.keep (S := fun _ => False) GB.out (Keep.of_below BC.out (Nat.le_refl _)) (fun h => h)
              have h2 := h.keep KD.out (fun h => by omega)
              rw [List.map_append, show j + 1 - (k + 1) = j - k by omega]
              exact h2
            · rw [List.map_append, show j - (k + 1) = j - k - 1 by omega]
              exact GD.out
            · exact mapz_snoc ZG.out IT.out _ rfl
            · exact mapz_snoc ZT.out RV.out _ rfl
            · exact ((CG.out.keep KRD SB').hi (by omega)).snoc (OA.out.keep KBD (fun h => by omega)) (by omega) (by omega) AR.out.2.2.2.2 (by have := AR.out.1; omega) AR.out.1
            · exact DG.out.snoc CG.out (Nat.le_refl _)
            · exact ((CT.out.keep KRD SB').hi (by omega)).snoc (OC.out.keep KD.out (fun h => by omega)) (by omega) (by omega) AR3.out.2.2.2.2 (by have := AR3.out.1; omega) AR3.out.1
          case measure => simp [intOf]; omega
        · obtain rfl : j = k := by omega
          have hlt' : ¬ (j : Int) < (j : Int) := by omega
          have ZG2 : Hid (gs.map Item.zs = its.map Item.zs) := by have := ZG.out; rw [List.take_of_length_le (by have := LN.out; omega)] at this; exact this
          have ZT2 : Hid (ts.map Item.zs = its.reverse.map Item.zs) := by have := ZT.out; rw [List.take_of_length_le (by have := LN.out; simp; omega)] at this; exact this
          have DW0 := hid DW.out
          obtain ⟨L, hL⟩ : ∃ L, wr.heap.size = L := ⟨_, rfl⟩
          have BL : Hid (B ≤ L) := by rw [← HB4.out, ← hL]; exact hK.size
          have ol := Own.alloc wr [7881706626762145792]
          have bl : Below wr.heap.size wr (wr.alloc (.cells #[.int .u64 7881706626762145792] 29)) := (Below.refl _ _).alloc (Nat.le_refl _) _
          have ggl : GrownV (wr.alloc (.cells #[.int .u64 7881706626762145792] 29)) G (gs.map Item.v) (0 + 1) := by
            have := OwnV.keep (S := fun _ => False) GG.out (Keep.of_below bl (Nat.le_refl _)) (fun h => h)
            rw [show j + 1 - j = 0 + 1 by omega] at this
            exact this
          obtain ⟨wm, ap, gm, km, sm⟩ := pushV G j 0 (j + 1) (gs.map Item.v) (.slice (some ⟨L, 0, none⟩) 1 1) rfl _ (by rw [List.length_map]; exact LL2.out.1) (by omega) ggl
          simp only [World.size_alloc] at ap sm
          have KWM : Keep (fun x => x = G ∨ x = H) wr wm := (Keep.of_below bl (Nat.le_refl _)).trans (km.mono (fun x h => .inl h))
          have SB' : ∀ x, (x = G ∨ x = H) → x < B := fun x hx => by have := HGH.out; omega
          have CGM := hid (CG.out.keep KWM SB')
          have CTM := hid (CT.out.keep KWM SB')
          have OLM := hid (Own.keep (g := wr.heap.size) ol km (fun h => by have := HGH.out; have := BL.out; omega))
          have GM := hid gm
          have K4M := hid (hK.trans KWM)
          have GHM : Hid (OwnV wm H (ts.map Item.v)) := by
            have h1 := OwnV.keep (S := fun _ => False) GH.out (Keep.of_below bl (Nat.le_refl _)) (fun h => h)
            have h2 := h1.keep km (fun h => by have := HGH.out; omega)
            rw [Nat.sub_self] at h2
            rw [List.replicate_zero, List.append_nil] at h2
            exact h2
          have SM : Hid (wm.heap.size = L + 2) := by show _ = _; omega
          have AP := hid ap
          rw [hL] at CGM CTM OLM AP
          have HOG : Hid (Holds wm (some ⟨G, 0, none⟩) gs) := .inr ⟨G, 0, rfl, fun i it h => by
            rw [Nat.zero_add]
            exact GM.out.cell (by rw [List.getElem?_append_left (by rw [List.length_map]; exact (List.getElem?_eq_some_iff.1 h).1), List.getElem?_map, h]; rfl)⟩
          have HOT : Hid (Holds wm (some ⟨H, 0, none⟩) ts) := .inr ⟨H, 0, rfl, fun i it h => by
            rw [Nat.zero_add]
            exact GHM.out.cell (by rw [List.getElem?_map, h]; rfl)⟩
          have DWM := hid (D4.out.trans (K4M.out.below (B := w.heap.size) (fun b hb => by have := HGH.out; have := WG.out; omega) D4.out.size))
          have LWM : Hid (Lies wm rw_ ow) := by
            rcases Nat.eq_zero_or_pos ow.length with h0 | h0
            · rw [List.eq_nil_of_length_eq_zero h0]; exact Lies.nil _ _
            · exact LW4.out.keep K4M.out (fun a ha => by have := LWB.out h0 a ha; have := HGH.out; omega)
          clear ap gm km sm ggl bl ol hK KWM GG GH CG CT ZG ZT DW
          go_wp2_with (at_builtin; refine wpList_append_row rfl _ _ rfl AP.out (by rfl) (by rfl) ?_; clear AP)
          refine (sum_any _ j (j + 1) gs _ LL2.out.1 (by omega) (by omega) HOG.out CGM.out.items).mono ?_
          rintro e wn hs1
          obtain ⟨rs, os1, f1, rfl, ho1, hl1, hll1, hnb1, hlen1, hf1, hb1⟩ := hs1.out
          obtain ⟨e1, e2⟩ := Out.unique OUT.out (out_of ho1 (bigs_of_eq ZG2.out) (tot_congr ZG2.out)) LL.out hll1
          obtain rfl := e1.symm
          obtain rfl := e2.symm
          have BN := hid hb1
          have LSN := hid hl1
          have NBS : Hid (∀ a, rs = some a → wm.heap.size ≤ a.block) := hnb1
          clear hs1 ho1 hl1 hll1 hnb1 hlen1 hf1 hb1 e1 e2
          go_wp2_with fail
          refine (sum_any _ j j ts _ LL2.out.2 (by omega) (by omega) (HOT.out.below BN.out (Nat.le_refl _)) (CTM.out.items.below BN.out (Nat.le_refl _))).mono ?_
          rintro e wo hs1
          obtain ⟨rt, os1, f1, rfl, ho1, hl1, hll1, hnb1, hlen1, hf1, hb1⟩ := hs1.out
          have TT : Hid (tot ts = tot its) := by rw [Hid, tot_congr ZT2.out, tot_reverse]
          obtain ⟨e1, e2⟩ := Out.unique OUT.out (out_of ho1 (bigs_congr (fun zs => by rw [ZT2.out, List.map_reverse, List.mem_reverse]) TT.out) TT.out) LL.out hll1
          obtain rfl := e1.symm
          obtain rfl := e2.symm
          have BO := hid hb1
          have LTO := hid hl1
          clear hs1 ho1 hl1 hll1 hnb1 hlen1 hf1 hb1 e1 e2 TT
          have hff : (f != f) = false := by simp
          have hol : ow.length ≤ 17592186044416 := by omega
          have LWO := hid ((LWM.out.below BN.out (Nat.le_refl _)).below BO.out (Nat.le_refl _))
          have LSO := hid (LSN.out.below BO.out (Nat.le_refl _))
          have MKA : Hid (∀ {x : World} {r : Option Addr}, Lies x r ow → Arg x r ow.length ow.length ow) := fun {x r} h => ⟨rfl, Nat.le_refl _, hol, h, LL.out⟩
          go_wp2_with fail
          refine (refSame_is true rs rw_ _ _ _ _ ow ow _ (MKA.out LSO.out) (MKA.out LWO.out) (by simp)).mono ?_
          rintro e wp1 ⟨rfl, hb1⟩
          have BP := hid hb1
          clear hb1
          go_wp2_with fail
          refine (refSame_is true rt rw_ _ _ _ _ ow ow _ (MKA.out (LTO.out.below BP.out (Nat.le_refl _))) (MKA.out (LWO.out.below BP.out (Nat.le_refl _))) (by simp)).mono ?_
          rintro e wq ⟨rfl, hb1⟩
          have BQ := hid hb1
          have KMQ : Hid (∀ {S : Nat → Prop}, Keep S wm wq) := fun {S} => (((Keep.of_below BN.out (Nat.le_refl _)).trans (Keep.of_below BO.out (Nat.le_refl _))).trans (Keep.of_below BP.out (Nat.le_refl _))).trans (Keep.of_below hb1 (Nat.le_refl _))
          have KNQ : Hid (∀ {S : Nat → Prop}, Keep S wo wq) := fun {S} => (Keep.of_below BP.out (Nat.le_refl _)).trans (Keep.of_below hb1 (Nat.le_refl _))
          clear hb1
          have LWQ := hid (LWO.out.keep (S := fun _ => False) KNQ.out (fun _ _ h => h))
          have LSQ := hid (LSO.out.keep (S := fun _ => False) KNQ.out (fun _ _ h => h))
          have CGQ := hid (CGM.out.keep (S := fun _ => False) KMQ.out (fun _ h => h.elim))
          have OLQ := hid (OLM.out.keep (S := fun _ => False) KMQ.out (fun h => h))
          have GMQ := hid (GM.out.keep (S := fun _ => False) KMQ.out (fun h => h))
          have DWQ := hid (DWM.out.trans ((KMQ.out (S := fun _ => False)).below (B := w.heap.size) (fun _ h => h.elim) DWM.out.size))
          have WQL : Hid (L + 2 ≤ wq.heap.size) := by rw [← SM.out]; exact (KMQ.out (S := fun _ => False)).size
          clear CGM CTM OLM GM LWM LSN LTO LWO LSO BN BO BP BQ KMQ KNQ HOG HOT GHM DWM K4M
          go_wp2_with fail
          go_loopw [14] (fun i wr => ∃ k : Nat, k ≤ j ∧ i = .int .i64 k ∧ Hid (Keep (WS gs k) wq wr)) (fun i _ => j - (intOf i).toNat)
          case atStart => exact ⟨0, Nat.zero_le _, rfl, Keep.refl _ _⟩
          case round =>
            obtain ⟨k, hk, rfl, KR⟩ := hrel
            have DWR := hid (DWQ.out.trans (KR.out.below (B := w.heap.size) (fun x hx => by have := WS.bd CGQ.out hx; have := HGH.out; have := WG.out; omega) DWQ.out.size))
            have NG : Hid (¬ WS gs k G) := fun hx => by have := WS.bd CGQ.out hx; have := HGH.out; omega
            by_cases hlt : k < j
            · obtain ⟨x, IX⟩ : ∃ x, Hid (gs[k]? = some x) := item_at gs k (by have := LL2.out; omega)
              obtain ⟨it, IT⟩ : ∃ it, Hid (its[k]? = some it) := item_at its k (by have := LN.out; omega)
              obtain ⟨g, xp, xn, xc, xo, xl, xh, xL, xs⟩ := CGQ.out x (List.mem_of_getElem? IX.out)
              have zz := zs_at ZG2.out IX.out IT.out
              have ar := (HI.out.at IT.out).below DWR.out (Nat.le_refl _)
              have hcl := (DWR.out.cell (p := ⟨b, off + k, none⟩) (cell_lt (HC.out k _ IT.out))).trans (HC.out k _ IT.out)
              have nw := WS.not DG.out IX.out xp
              have WN := hid (WS.next IX.out xp)
              have hcg : wr.cell? ⟨G, k, none⟩ = some (.slice x.p x.n x.c) := by
                refine KR.out.cell (p := ⟨G, k, none⟩) (GMQ.out.cell ?_) NG.out
                rw [List.getElem?_append_left (by rw [List.length_map]; have := LL2.out; omega), List.getElem?_map, IX.out]
                rfl
              obtain ⟨M, hM⟩ : ∃ M, x.zs.length = M := ⟨_, rfl⟩
              rw [xp, xn, xc, hM] at hcg
              have xo2 := xo.keep KR.out nw
              have AX : Hid (Arg wr (some ⟨g, 0, none⟩) M M x.zs) := ⟨hM, Nat.le_refl _, by omega, xo2.lies, xL⟩
              obtain ⟨q, m, c, zs⟩ := it
              simp only at ar hcl zz
              have AR := hid ar
              have ZZ : Hid (decide (x.zs = zs) = true) := by rw [Hid, zz]; simp
              have XO := hid xo2
              have HM := hid hM
              have hM20 : M ≤ 1048576 := by omega
              have GN : Hid (G ≠ g) := by have := HGH.out; show _ ≠ _; omega
              have hlt' : (k : Int) < (j : Int) := by omega
              have hlt2 : (k : Int) < (j : Int) + 1 := by omega
              clear xp xn xc xo xl xh xL xs zz ar nw xo2 hM NG
              go_wp2_with fail
              go_quiet ((go_at_call 11; exact Calls.quiet_of (refSame_drew_is true _ _ _ _ _ _ x.zs zs _ (AX.out.drewN _) (AR.out.drewN _) ZZ.out)))
              have K2 := hid (KR.out.drewN nq)
              have XO2 : Hid (Own (wr.drewN nq) g x.zs) := XO.out
              have hcg2 : (wr.drewN nq).cell? ⟨G, k, none⟩ = some (.slice (some ⟨g, 0, none⟩) M M) := hcg
              clear hcg hcl AX AR XO KR DWR
              generalize wr.drewN nq = wy at *
              go_wp2_with fail
              have HCG := hid hcg2
              clear hcg2
              go_loopw [15] (fun i wz => ∃ (t : Nat) (us : List Int), t ≤ M ∧ i = .int .i64 t ∧ Hid (Own wz g us) ∧ Hid (us.length = M) ∧ Hid (Keep (· = g) wy wz)) (fun i _ => M - (intOf i).toNat)
              case atStart => exact ⟨0, x.zs, Nat.zero_le _, rfl, XO2.out, HM.out, Keep.refl _ _⟩
              case round =>
                obtain ⟨t, us, ht, rfl, OU, LU, KU⟩ := hrel
                have hcz := KU.out.cell (p := ⟨G, k, none⟩) HCG.out GN.out
                by_cases htl : t < M
                · obtain ⟨y, hy⟩ : ∃ y, wr.cell? ⟨g, t, none⟩ = some (.int .u64 y) := ⟨_, OU.out.cell t (by have := LU.out; omega)⟩
                  have hfr := OU.out.free t
                  have htl' : (t : Int) < (M : Int) := by omega
                  go_wp2
                  go_roundw
                  case rel => exact ⟨t + 1, us.set t 7881706626762145793, by omega, by go_num, OU.out.set t _, by have := LU.out; show _ = _; simp; omega, KU.out.setCell _⟩
                  case measure => simp [intOf]; omega
                · have htl' : ¬ (t : Int) < (M : Int) := by omega
                  have KN : Hid (Keep (WS gs (k + 1)) wq wr) := (K2.out.mono (fun _ h => h.step)).trans (KU.out.mono (fun _ h => by rw [h]; exact WN.out))
                  go_wp2
                  go_roundw
                  case rel => exact ⟨k + 1, by omega, by go_num, KN.out⟩
                  case measure => simp [intOf]; omega
            · obtain rfl : j = k := by omega
              have hlt' : ¬ (j : Int) < (j : Int) := by omega
              have hcl : wr.cell? ⟨G, j, none⟩ = some (.slice (some ⟨L, 0, none⟩) 1 1) := by
                refine KR.out.cell (p := ⟨G, j, none⟩) (GMQ.out.cell ?_) NG.out
                rw [List.getElem?_append_right (by rw [List.length_map]; have := LL2.out; omega), List.length_map, LL2.out.1, Nat.sub_self]
                rfl
              have hcm : wr.cell? ⟨L, 0, none⟩ = some (.int .u64 7881706626762145792) := KR.out.cell (p := ⟨L, 0, none⟩) (OLQ.out.cell 0 (by simp)) (fun hx => by have := WS.bd CGQ.out hx; simp only at this; omega)
              have LSR : Hid (Lies wr rs ow) := LSQ.out.keep KR.out (fun a ha hx => by have := WS.bd CGQ.out hx; have := NBS.out a ha; have := SM.out; omega)
              have LWR : Hid (Lies wr rw_ ow) := by
                rcases Nat.eq_zero_or_pos ow.length with h0 | h0
                · rw [List.eq_nil_of_length_eq_zero h0]; exact Lies.nil _ _
                · exact LWQ.out.keep KR.out (fun a ha hx => by have := WS.bd CGQ.out hx; have := LWB.out h0 a ha; have := HGH.out; omega)
              clear NG KR LSQ LWQ OLQ GMQ CGQ DWQ
              go_wp2_with fail
              refine (refSame_is true rs rw_ _ _ _ _ ow ow _ (MKA.out LSR.out) (MKA.out LWR.out) (by simp)).mono ?_
              rintro e wt ⟨rfl, hb1⟩
              have DT := hid (DWR.out.trans (hb1.mono DWR.out.size))
              have LWT := hid (LWR.out.below hb1 (Nat.le_refl _))
              clear hb1 hcl hcm LSR LWR DWR
              rcases HF.out with hf0 | hf2
              · subst hf0
                obtain ⟨TL, TW, VW⟩ := lt_of_out OUT.out
                have HTL := hid TL
                have HTW := hid TW
                have HVW := hid VW
                have bm := (Below.refl wt.heap.size wt).alloc (Nat.le_refl _) (.cells #[] 29)
                obtain ⟨wv, WV⟩ : ∃ wv, Hid (wt.alloc (.cells #[] 29) = wv) := ⟨_, rfl⟩
                rw [WV.out] at bm
                have DV := hid (chain DT.out bm (Nat.le_refl _))
                have LWV := hid (LWT.out.below bm (Nat.le_refl _))
                clear TL TW VW bm
                go_wp2
                rw [WV.out]
                go_loopw [17, 18] (fun st i wz => ∃ (k : Nat) (r : Option Addr) (os : List Int), k ≤ j ∧ i = .int .i64 k ∧ st = .slice r (List.length os) (List.length os) ∧ os.length ≤ 4096 ∧ Hid (Ans 0 wz r os (tot (its.take k))) ∧ Hid (Below wv.heap.size wv wz)) (fun _ i _ => j - (intOf i).toNat)
                case atStart => exact ⟨0, _, [], Nat.zero_le _, rfl, rfl, by simp, Ans.none _ _ _ (fun a h => Nat.zero_le _), Below.refl _ _⟩
                case round =>
                  obtain ⟨k, r, os, hk, rfl, rfl, hos, A, B5⟩ := hrel
                  have DZ := hid (chain DV.out B5.out (Nat.le_refl _))
                  by_cases hlt : k < j
                  · obtain ⟨it, IT⟩ : ∃ it, Hid (its[k]? = some it) := item_at its k (by have := LN.out; omega)
                    have ar := (HI.out.at IT.out).below DZ.out (Nat.le_refl _)
                    have hcl := (DZ.out.cell (p := ⟨b, off + k, none⟩) (cell_lt (HC.out k _ IT.out))).trans (HC.out k _ IT.out)
                    have T0 := hid (tot_take_succ its k _ IT.out)
                    have T1 : Hid (tot (its.take (k + 1)) < Nm.pw 4096) := by have := tot_take_le HI.out (k + 1); have := HTL.out; show _ < _; omega
                    obtain ⟨q, m, c, zs⟩ := it
                    simp only at ar hcl T0
                    have AR := hid ar
                    have hlt' : (k : Int) < (j : Int) := by omega
                    clear ar
                    go_wp2_with fail
                    refine (add_ok r q _ _ m c os zs _ (A.out.arg (by omega)) AR.out (by rw [A.out.2.2.2.1, ← T0.out]; exact T1.out)).mono ?_
                    rintro e w9 ⟨r2, o2, rfl, hA, hb1⟩
                    rw [A.out.2.2.2.1, ← T0.out] at hA
                    have l2 := hid (hA.small T1.out)
                    have A2 := hid (hA.mono (Nat.zero_le _))
                    have B6 := hid (chain B5.out hb1 (Nat.le_refl _))
                    clear hA hb1
                    go_wp2
                    go_roundw
                    case rel => exact ⟨k + 1, r2, o2, by omega, by go_num, rfl, l2.out, A2.out, B6.out⟩
                    case measure => simp [intOf]; omega
                  · obtain rfl : j = k := by omega
                    have hlt' : ¬ (j : Int) < (j : Int) := by omega
                    have a := A.out
                    rw [List.take_of_length_le (by have := LN.out; omega)] at a
                    have EQ : Hid (decide (os = ow) = true) := by
                      simp only [Hid, decide_eq_true_eq]
                      exact Nm.canon a.2.1 LL.out a.2.2.1 HTW.out (a.2.2.2.1.trans HVW.out.symm)
                    have LWZ := hid (LWV.out.below B5.out (Nat.le_refl _))
                    have AA := hid (a.arg (by omega))
                    clear a A
                    go_wp2_with fail
                    refine (refSame_is true r rw_ _ _ _ _ os ow _ AA.out (MKA.out LWZ.out) EQ.out).mono ?_
                    rintro e w9 ⟨rfl, hb1⟩
                    have D9 := hid (chain DZ.out hb1 (Nat.le_refl _))
                    clear hb1
                    go_wp2
                    go_ret
                    exact ⟨rfl, D9.out⟩
              · subst hf2
                go_wp2
                go_ret
                exact ⟨rfl, DT.out⟩
end Go.Proofs.Ytamlindelmfbiaa
