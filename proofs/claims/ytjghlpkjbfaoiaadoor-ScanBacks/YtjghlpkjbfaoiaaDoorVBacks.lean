/-
  law08: ScanBacks.
-/
import Derived.Test.YtjghlpkjbfaoiaaDoorVText
import Derived.Test.YtjghlpkjbfaoiaaDoorVIs
import Derived.Test.YtjghlpkjbfaoiaaDoorVLongest
namespace Go.Proofs.YtjghlpkjbfaoiaaDoor
open Go Go.RowKit Go.Deep

theorem txt_lit0 : Sc.txt (Sc.nrm true [48, 49, 50, 48] 3) = [45, 49, 50, 101, 52] := by
  have h : Sc.nrm true [48, 49, 50, 48] 3 = ⟨true, [49, 50], 4⟩ := by decide +kernel
  rw [h]
  unfold Sc.txt
  simp only
  rw [if_pos (by decide), if_pos (by decide), Sc.itl_is, if_neg (by decide), Sc.dl_small (by decide)]
  rfl
theorem isdec_lit0 : Sc.IsDec [48, 49, 50, 48] 3 := by decide +kernel

/-- d in its box; n in another. -/
def BSt (w wx : World) (g : Nat) (neg : Bool) (s : ByteArray) (e : Int) (N : Sc.D) (t : ByteArray) : Prop := LS1 w wx (.bool neg) (.string s) (.int .i64 e) ∧ Row3 wx g (.bool N.neg) (.string t) (.int .i64 N.e)
theorem BSt.on {w wx w' : World} {g : Nat} {neg : Bool} {s : ByteArray} {e : Int} {N : Sc.D} {t : ByteArray} (h : BSt w wx g neg s e N t) (k : Below wx.heap.size wx w') : BSt w w' g neg s e N t := ⟨h.1.on k, h.2.below k h.2.lt⟩
theorem BSt.flat {w wx : World} {g : Nat} {neg : Bool} {s : ByteArray} {e : Int} {N : Sc.D} {t : ByteArray} (h : BSt w wx g neg s e N t) :
    (wx.cell? ⟨w.heap.size, 0, none⟩ = some (.bool neg) ∧ wx.cell? ⟨w.heap.size, 1, none⟩ = some (.string s) ∧ wx.cell? ⟨w.heap.size, 2, none⟩ = some (.int .i64 e)) ∧
    (wx.cell? ⟨g, 0, none⟩ = some (.bool N.neg) ∧ wx.cell? ⟨g, 1, none⟩ = some (.string t) ∧ wx.cell? ⟨g, 2, none⟩ = some (.int .i64 N.e)) := ⟨h.1.2.cells.1, h.2.cells.1⟩
theorem BSt.new {w wx w1 : World} {neg : Bool} {s : ByteArray} {e : Int} (h : LS1 w wx (.bool neg) (.string s) (.int .i64 e)) (k : Below wx.heap.size wx w1) (N : Sc.D) (t : ByteArray) : BSt w (w1.alloc (.cells #[.bool N.neg, .string t, .int .i64 N.e] 29)) w1.heap.size neg s e N t :=
  ⟨(h.on k).on (alloc_b _ _), heap_alloc_new _ _⟩

theorem cmpD_self {a : Sc.D} (h : Sc.Nrm a) : Sc.cmpD a a = 0 := (Sc.cmpD_zero h h).2 (.inl rfl)
theorem nmd_nrm {neg : Bool} {xs : List Int} {e : Int} (h : Sc.IsDec xs e) : nmd neg xs e = Sc.nrm neg xs e := by unfold nmd; rw [if_pos h]

set_option maxRecDepth 100000 in
set_option maxHeartbeats 8000000 in
theorem backs_any (neg : Bool) (s : ByteArray) (xs : List Int) (e : Int) (w : World) (hs : Str s xs) (hn : xs.length ≤ 140737488355328) (hT : Tab10 w) :
    Calls Tryd.prog 7 #[decV neg s e] w fun r w' => r = .returned (.bool true) ∧ Below w.heap.size w w' := by
  have T0 : Hid (∀ wx, Tab10 wx → Calls Tryd.prog 20 #[.agg #[.bool true, .string ⟨#[48, 49, 50, 48]⟩, .int .i64 3]] wx fun r w' => r = .returned (.tuple #[.string ⟨#[45, 49, 50, 101, 52]⟩, .int .i64 0]) ∧ Below wx.heap.size wx w') := fun wx hx => by
    refine (text_any true ⟨#[48, 49, 50, 48]⟩ [48, 49, 50, 48] 3 wx rfl (by decide) hx).mono ?_
    rintro r w' ⟨h | h, hB⟩
    · obtain ⟨-, t, rfl, ht⟩ := h
      rw [txt_lit0] at ht
      rw [ht.inj (t := ⟨#[45, 49, 50, 101, 52]⟩) rfl]
      exact ⟨rfl, hB⟩
    · exact absurd isdec_lit0 h.1
  have NM := hid (fun wx => norm_any neg s xs e wx hs (by omega))
  have TX := hid (fun wx (hx : Tab10 wx) => text_any neg s xs e wx hs hn hx)
  have CD := hid (fun wx => cmp_any neg neg s s xs xs e e wx hs hs (by omega) (by omega))
  have IS := hid (fun wx => is_any neg s xs e wx hs (by omega))
  have Z := hid (LS1.new w (.bool neg) (.string s) (.int .i64 e))
  have HT := hid hT
  have GO : Hid (Sc.IsDec xs e → ∀ (n t : ByteArray), Str n (Sc.nrm neg xs e).ds → Str t (Sc.txt (Sc.nrm neg xs e)) →
      (∀ wx, Calls Tryd.prog 19 #[.agg #[.bool (Sc.nrm neg xs e).neg, .string n, .int .i64 (Sc.nrm neg xs e).e]] wx fun r w' => r = .returned (.tuple #[.agg #[.bool (Sc.nrm neg xs e).neg, .string n, .int .i64 (Sc.nrm neg xs e).e], .int .i64 0]) ∧ Below wx.heap.size wx w') ∧
      (∀ wx, Calls Tryd.prog 21 #[.agg #[.bool (Sc.nrm neg xs e).neg, .string n, .int .i64 (Sc.nrm neg xs e).e], .agg #[.bool neg, .string s, .int .i64 e]] wx fun r w' => r = .returned (.tuple #[.int .i64 0, .int .i64 0]) ∧ Below wx.heap.size wx w') ∧
      (-1000000000000000 ≤ (Sc.nrm neg xs e).e → (Sc.nrm neg xs e).e ≤ 1000000000000000 → ∀ wx, Calls Tryd.prog 14 #[.string t] wx fun r w' => r = .returned (.tuple #[.agg #[.bool (Sc.nrm neg xs e).neg, .string n, .int .i64 (Sc.nrm neg xs e).e], .int .i64 ((Sc.txt (Sc.nrm neg xs e)).length : Nat)]) ∧ Below wx.heap.size wx w')) := by
    intro hd n t h1 h2
    have hd2 := Sc.nrm_isdec (neg := neg) hd
    have ll := Sc.nrm_len neg xs e
    have ag : Sc.nrm (Sc.nrm neg xs e).neg (Sc.nrm neg xs e).ds (Sc.nrm neg xs e).e = Sc.nrm neg xs e := by rw [Sc.nrm_neg]; exact Sc.nrm_again
    refine ⟨fun wx => ?_, fun wx => ?_, fun a b wx => ?_⟩
    · refine (norm_any _ n _ _ wx h1 (by omega)).mono ?_
      rintro r w' ⟨v, rfl, hv, hB⟩
      rw [nmd_nrm hd2, ag] at hv
      rw [hv.two ⟨n, rfl, h1⟩]
      refine ⟨?_, hB⟩
      unfold errOf
      rw [if_pos hd2]; rfl
    · have := cmp_any (Sc.nrm neg xs e).neg neg n s (Sc.nrm neg xs e).ds xs (Sc.nrm neg xs e).e e wx h1 hs (by omega) (by omega)
      rw [show cmpE (Sc.nrm neg xs e).neg (Sc.nrm neg xs e).ds (Sc.nrm neg xs e).e neg xs e = (0, 0) by unfold cmpE; rw [if_pos ⟨hd2, hd⟩, ag, cmpD_self (Sc.nrm_is _ _ _)]] at this
      exact this
    · obtain ⟨k1, k2, k3⟩ := Sc.txt_lit (Sc.nrm_dig (neg := neg) hd) a b
      have tl : (Sc.txt (Sc.nrm neg xs e)).length ≤ 140737488355400 := by
        unfold Sc.txt
        have := (itl_len (Sc.nrm neg xs e).e (by omega) (by omega)).2
        simp only [List.length_append]
        split <;> split <;> simp <;> omega
      refine (number_any t _ wx h2 (by omega) (fun _ => by rw [k1, k3]; simp; omega)).mono ?_
      rintro r w' ⟨v, rfl, hv, hB⟩
      have en : Sc.num (Sc.txt (Sc.nrm neg xs e)) = (Sc.nrm neg xs e, (Sc.txt (Sc.nrm neg xs e)).length) := by
        unfold Sc.num
        rw [k1, if_pos k2, k3]
        show ((_ : Sc.D), _) = _
        unfold Sc.Lt.d
        simp only [List.append_nil, List.length_nil]
        rw [show (Sc.nrm neg xs e).e - ((0 : Nat) : Int) = (Sc.nrm neg xs e).e by simp, ag]
      rw [en] at hv ⊢
      rw [hv.two ⟨n, rfl, h1⟩]
      exact ⟨rfl, hB⟩
  have EN := hid (fun (c : (Sc.nrm neg xs e).ds ≠ [48]) => Sc.nrm_ends c)
  have NN := hid (Sc.nrm_neg neg xs e)
  have NI := hid (Sc.nrm_is neg xs e)
  have LN : (Sc.nrm neg xs e).ds.length ≤ 140737488355329 := by have := Sc.nrm_len neg xs e; omega
  clear hs hT hn
  unfold decV at NM TX CD IS ⊢
  go_enter Tryd.func7, Tryd.ntmps7
  go_wp2_with fail
  refine (T0.out _ (HT.out.below Z.out.1)).mono ?_
  rintro r w1 ⟨rfl, hB⟩
  have S1 := hid (Z.out.on hB)
  clear hB T0 Z
  obtain ⟨⟨c0, c1, c2⟩, -⟩ := S1.out.2.cells
  go_wp2_with fail
  refine (NM.out _).mono ?_
  rintro r w2 ⟨v, rfl, ⟨n, hv, hn⟩, hB⟩
  unfold decV at hv
  subst hv
  have S2 := hid (BSt.new S1.out hB (nmd neg xs e) n)
  clear hB S1 NM c0 c1 c2
  obtain ⟨⟨c0, c1, c2⟩, c3, c4, c5⟩ := S2.out.flat
  go_wp2_with fail
  generalize w2.alloc (.cells #[.bool (nmd neg xs e).neg, .string n, .int .i64 (nmd neg xs e).e] 29) = w3 at *
  generalize w2.heap.size = g at *
  refine (TX.out _ (HT.out.below S2.out.1.1)).mono ?_
  rintro r w4 ⟨hr, hB⟩
  have S3 := hid (S2.out.on hB)
  clear hB S2 TX c0 c1 c2 c3 c4 c5
  obtain ⟨⟨c0, c1, c2⟩, c3, c4, c5⟩ := S3.out.flat
  rcases hr with ⟨hd, t, rfl, ht⟩ | ⟨hd, rfl⟩
  · have ee : errOf xs e = 0 := by unfold errOf; rw [if_pos hd]
    have ce : cmpE neg xs e neg xs e = (0, 0) := by unfold cmpE; rw [if_pos ⟨hd, hd⟩, cmpD_self NI.out]
    rw [ee]
    rw [ce] at CD
    rw [decide_eq_true hd] at IS
    rw [nmd_nrm hd] at hn c3 c5 S3 ⊢
    obtain ⟨G1, G2, G3⟩ := GO.out hd n t hn ht
    replace G1 := hid G1
    replace G2 := hid G2
    replace G3 := hid G3
    have HN := hid hn
    have hts := ht.size
    have tlen : (Sc.txt (Sc.nrm neg xs e)).length ≤ 140737488355500 ∨ True := .inr trivial
    clear tlen hd ee ce GO ht
    have hnz := hn.size
    have NZ : Hid ((Sc.nrm neg xs e).ds = [48] → (Sc.nrm neg xs e).e = 0) := fun c => by
      rcases NI.out with h | h
      · exact h.2
      · exact absurd c h
    clear hn NI
    have HNEG : Hid ((Sc.nrm neg xs e).neg = neg) := NN.out
    generalize (Sc.txt (Sc.nrm neg xs e)).length = tl at *
    generalize Sc.nrm neg xs e = N at *
    go_wp2_with fail
    refine (CD.out _).mono ?_
    rintro r w5 ⟨rfl, hB⟩
    have S4 := hid (S3.out.on hB)
    clear hB S3 CD c0 c1 c2 c3 c4 c5
    obtain ⟨⟨c0, c1, c2⟩, c3, c4, c5⟩ := S4.out.flat
    go_wp2_with fail
    refine (IS.out _).mono ?_
    rintro r w6 ⟨rfl, hB⟩
    have S5 := hid (S4.out.on hB)
    clear hB S4 IS c0 c1 c2 c3 c4 c5
    obtain ⟨⟨c0, c1, c2⟩, c3, c4, c5⟩ := S5.out.flat
    go_wp2_with fail
    refine (G1.out _).mono ?_
    rintro r w7 ⟨rfl, hB⟩
    have S6 := hid ((S5.out.on hB).on (alloc_b w7 (.cells #[.bool N.neg, .string n, .int .i64 N.e] 29)))
    have Y1 : Hid (Row3 (w7.alloc (.cells #[.bool N.neg, .string n, .int .i64 N.e] 29)) w7.heap.size (.bool N.neg) (.string n) (.int .i64 N.e)) := Row3.new _ _ _ _
    clear hB S5 G1 c0 c1 c2 c3 c4 c5
    obtain ⟨⟨c0, c1, c2⟩, c3, c4, c5⟩ := S6.out.flat
    go_wp2_with fail
    generalize w7.alloc (.cells #[.bool N.neg, .string n, .int .i64 N.e] 29) = w8 at *
    generalize w7.heap.size = g2 at *
    refine (G2.out _).mono ?_
    rintro r w9 ⟨rfl, hB⟩
    have S7 := hid (S6.out.on hB)
    have Y2 := hid (Y1.out.below hB Y1.out.lt)
    clear hB S6 G2 Y1 c0 c1 c2 c3 c4 c5
    obtain ⟨⟨c0, c1, c2⟩, c3, c4, c5⟩ := S7.out.flat
    obtain ⟨⟨y0, y1, y2⟩, -⟩ := Y2.out.cells
    have hneg := HNEG.out
    clear HNEG NN
    by_cases hz : N.ds = [48]
    · have hn0 : n = ⟨#[48]⟩ := HN.out.inj (by rw [hz]; rfl)
      subst hn0
      have e0 : N.e = 0 := NZ.out hz
      have G4 : Hid (∀ wx, Calls Tryd.prog 14 #[.string t] wx fun r w' => r = .returned (.tuple #[.agg #[.bool neg, .string ⟨#[48]⟩, .int .i64 0], .int .i64 (tl : Nat)]) ∧ Below wx.heap.size wx w') := by
        have := G3.out (by omega) (by omega)
        rw [hneg, e0] at this
        exact this
      rw [e0] at c5 y2
      rw [hneg] at c3 y0
      clear G3 hz NZ EN
      go_wp2_with fail
      refine (G4.out _).mono ?_
      rintro r w10 ⟨rfl, hB⟩
      have S8 := hid ((S7.out.on hB).on (alloc_b w10 (.cells #[.bool neg, .string ⟨#[48]⟩, .int .i64 0] 29)))
      clear hB c0 c1 c2 c3 c4 c5 y0 y1 y2
      obtain ⟨⟨c0, c1, c2⟩, c3, c4, c5⟩ := S8.out.flat
      rw [hneg] at c3
      rw [e0] at c5
      go_wp2_with fail
      go_ret
      exact ⟨rfl, S8.out.1.1⟩
    · obtain ⟨k1, k2, k3⟩ := EN.out hz
      have q0 : n.toList ≠ [48] := by
        intro c
        have := HN.out.eq (t := ⟨#[48]⟩) (ys := [48]) rfl
        rw [str48, decide_eq_false hz, c] at this
        simp at this
      have q1 : (n.toList == [48]) = false := by rw [beq_eq_false_iff_ne]; exact q0
      obtain ⟨q2, q3, q4⟩ := HN.out.ne (fun c => by rw [c] at k3; simp at k3)
      obtain ⟨L', hL'⟩ : ∃ L', N.ds.length = L' + 1 := ⟨N.ds.length - 1, by omega⟩
      have hx0 := HN.out.pk 0
      have hx1 := HN.out.pk L'
      rw [show N.ds.length - 1 = L' by omega] at k2
      have r1 : (Sc.pk N.ds 0 == 48) = false := by rw [beq_eq_false_iff_ne]; exact k1
      have r2 : (Sc.pk N.ds L' == 48) = false := by rw [beq_eq_false_iff_ne]; exact k2
      have b1 : (N.ds.length : Int) - 1 = (L' : Int) := by omega
      have b2 : (L' : Int) < (N.ds.length : Int) := by omega
      have b3 : (0 : Int) < (N.ds.length : Int) := by omega
      generalize Sc.pk N.ds 0 = x0 at *
      generalize Sc.pk N.ds L' = x1 at *
      replace hL' := hid hL'
      rw [hneg] at c3 y0
      clear EN hz NZ k3
      rcases (show (1000000000000000 < N.e) ∨ (N.e ≤ 1000000000000000 ∧ N.e < -1000000000000000) ∨ (N.e ≤ 1000000000000000 ∧ -1000000000000000 ≤ N.e) by omega) with h | ⟨h, h'⟩ | ⟨h, h'⟩
      · go_wp2_with fail
        go_ret
        exact ⟨rfl, S7.out.1.1⟩
      · go_wp2_with fail
        go_ret
        exact ⟨rfl, S7.out.1.1⟩
      · have G4 : Hid (∀ wx, Calls Tryd.prog 14 #[.string t] wx fun r w' => r = .returned (.tuple #[.agg #[.bool neg, .string n, .int .i64 N.e], .int .i64 (tl : Nat)]) ∧ Below wx.heap.size wx w') := by
          have := G3.out h' h
          rw [hneg] at this
          exact this
        clear G3
        go_wp2_with fail
        refine (G4.out _).mono ?_
        rintro r w10 ⟨rfl, hB⟩
        have S8 := hid ((S7.out.on hB).on (alloc_b w10 (.cells #[.bool neg, .string n, .int .i64 N.e] 29)))
        clear hB c0 c1 c2 c3 c4 c5 y0 y1 y2
        obtain ⟨⟨c0, c1, c2⟩, c3, c4, c5⟩ := S8.out.flat
        rw [hneg] at c3
        go_wp2_with fail
        go_ret
        exact ⟨rfl, S8.out.1.1⟩
  · have ee : errOf xs e = 80 := by unfold errOf; rw [if_neg hd]
    have ce : cmpE neg xs e neg xs e = (0, 80) := by unfold cmpE; rw [if_neg (fun c => hd c.1)]
    have nd : nmd neg xs e = ⟨false, [], 0⟩ := by unfold nmd; rw [if_neg hd]
    rw [ee]
    rw [ce] at CD
    rw [decide_eq_false hd] at IS
    rw [nd] at hn c3 c5 S3 ⊢
    have hn0 : n = ⟨#[]⟩ := hn.inj rfl
    subst hn0
    clear hd ee ce nd hn GO EN NN NI LN
    go_wp2_with fail
    refine (CD.out _).mono ?_
    rintro r w5 ⟨rfl, hB⟩
    have S4 := hid (S3.out.on hB)
    clear hB S3 CD c0 c1 c2 c3 c4 c5
    obtain ⟨⟨c0, c1, c2⟩, c3, c4, c5⟩ := S4.out.flat
    go_wp2_with fail
    refine (IS.out _).mono ?_
    rintro r w6 ⟨rfl, hB⟩
    have S5 := hid (S4.out.on hB)
    clear hB S4 IS c0 c1 c2 c3 c4 c5
    obtain ⟨⟨c0, c1, c2⟩, c3, c4, c5⟩ := S5.out.flat
    go_wp2_with fail
    go_ret
    exact ⟨rfl, S5.out.1.1⟩
end Go.Proofs.YtjghlpkjbfaoiaaDoor
