/-
  law20: CharsSplits.
-/
import Derived.Test.YtpdliogfeaafgaaDoorChU
import Derived.Test.YtpdliogfeaafgaaDoorOpenAsk20
import Derived.Deep.RegionHeld3
namespace Go.Proofs.YtpdliogfeaafgaaDoor
open Go Go.RowKit Go.Deep Go.Shelf

/-- Texts that can be read from here on. -/
def HR (a : Option Addr) (xs : List ByteArray) (w : World) : Prop := ∀ w', Below w.heap.size w w' → TR w' a xs
theorem HR.of {a : Option Addr} {xs : List ByteArray} {w : World} (h : TR w a xs) : HR a xs w := fun _ b => h.below b (Nat.le_refl _)
theorem HR.on {a : Option Addr} {xs : List ByteArray} {w w' : World} (h : HR a xs w) (b : Below w.heap.size w w') : HR a xs w' := fun _ b2 => h _ (below_on b b2)
theorem HR.tr {a : Option Addr} {xs : List ByteArray} {w : World} (h : HR a xs w) : TR w a xs := h w (Below.refl _ _)
theorem tr_alloc (wx : World) (ys : List ByteArray) : TR (wx.alloc (.cells (ys.map Value.string).toArray 9)) (some ⟨wx.heap.size, 0, none⟩) ys := .inr ⟨_, 0, rfl, fun i x hi => by
  have := heap_alloc_new wx (.cells (ys.map Value.string).toArray 9)
  rw [cell_of_row _ _ _ _ _ _ this, Nat.zero_add]
  simp [hi]⟩
namespace Ch
theorem closedSplit : sp ⟨#[97, 44, 98, 44, 44, 99, 44]⟩ ⟨#[44]⟩ = [⟨#[97]⟩, ⟨#[98]⟩, ⟨#[]⟩, ⟨#[99]⟩, ⟨#[]⟩] := by decide +kernel
theorem sp_len2 (s sep : ByteArray) : (sp s sep).length ≤ s.size + 1 := by
  unfold sp
  by_cases h0 : s.size = 0
  · rw [if_pos h0]; simp
  · rw [if_neg h0]
    by_cases h1 : sep = ⟨#[32]⟩
    · rw [if_pos h1]; have := wd_le s; omega
    · rw [if_neg h1]
      by_cases h2 : sep.size = 0
      · rw [if_pos h2, sg_len]; omega
      · rw [if_neg h2, cut_len s sep (by omega)]
        have := Lib.countB_le sep (by omega) s.size s (Nat.le_refl _)
        omega
end Ch

/-- Split's answer as a list that can be read. -/
theorem split_hr (f : Nat) (s sep : ByteArray) (wx : World) (h : Calls Tryd.prog f #[.string s, .string sep] wx (SpTold s sep wx)) : Calls Tryd.prog f #[.string s, .string sep] wx fun e w' => (∃ a c, e = .returned (.slice a (Ch.sp s sep).length c) ∧ HR a (Ch.sp s sep) w') ∧ Below wx.heap.size wx w' := by
  refine h.mono ?_
  rintro e w' ⟨⟨v, rfl, ht⟩, b⟩
  obtain ⟨a, c, rfl, _, hr⟩ := ht.read
  exact ⟨⟨a, c, rfl, HR.of hr⟩, b⟩

set_option maxRecDepth 100000 in
set_option maxHeartbeats 4000000 in
theorem splits_law (a : Option Addr) (cap : Nat) (qs : List Ak) (w : World) (hm : ML w) (hq : LK20 w a qs) (hk : ∀ q ∈ qs, AkW w q) (hn : qs.length ≤ 2199023255552) :
    Calls Tryd.prog 3 #[.slice a qs.length cap] w fun e w' => e = .returned (.bool true) ∧ Below w.heap.size w w' := by
  have SP0 := hid (split_hr _ _ _ _ (csplit_any ⟨#[97, 44, 98, 44, 44, 99, 44]⟩ ⟨#[44]⟩ w hm (by decide)))
  rw [Ch.closedSplit] at SP0
  have MW : Hid (∀ w', Below w.heap.size w w' → ML w') := fun w' b => hm.b b
  have AL0 : Hid (∀ (wx : World) (a : Option Addr) (ca : Nat), HR a [⟨#[97]⟩, ⟨#[98]⟩, ⟨#[]⟩, ⟨#[99]⟩, ⟨#[]⟩] wx → Calls Tryd.prog 6 #[.slice a 5 ca, .slice (some ⟨wx.heap.size, 0, none⟩) 5 5] (wx.alloc (.cells #[.string ⟨#[97]⟩, .string ⟨#[98]⟩, .string ⟨#[]⟩, .string ⟨#[99]⟩, .string ⟨#[]⟩] 9)) fun e w' => e = .returned (.bool true) ∧ Below wx.heap.size wx w') := fun wx a ca ht => by
    have A := alloc_b wx (.cells #[.string ⟨#[97]⟩, .string ⟨#[98]⟩, .string ⟨#[]⟩, .string ⟨#[99]⟩, .string ⟨#[]⟩] 9)
    refine (lalike_yes a _ ca 5 [⟨#[97]⟩, ⟨#[98]⟩, ⟨#[]⟩, ⟨#[99]⟩, ⟨#[]⟩] _ (ht _ A) (tr_alloc wx [⟨#[97]⟩, ⟨#[98]⟩, ⟨#[]⟩, ⟨#[99]⟩, ⟨#[]⟩]) (by decide)).mono ?_
    rintro e w' ⟨rfl, b⟩
    exact ⟨rfl, below_on A b⟩
  have JN0 : Hid (∀ wx : World, Calls Tryd.prog 8 #[.slice (some ⟨wx.heap.size, 0, none⟩) 2 2, .string ⟨#[45]⟩] (wx.alloc (.cells #[.string ⟨#[97]⟩, .string ⟨#[98]⟩] 9)) fun e w' => e = .returned (.bool true) ∧ Below wx.heap.size wx w') := fun wx => by
    have A := alloc_b wx (.cells #[.string ⟨#[97]⟩, .string ⟨#[98]⟩] 9)
    refine (ljoins_yes _ 2 [⟨#[97]⟩, ⟨#[98]⟩] ⟨#[45]⟩ _ (tr_alloc wx [⟨#[97]⟩, ⟨#[98]⟩]) (by decide) (ak_getD_size (by intro x hx; simp at hx; rcases hx with rfl | rfl <;> decide)) (by decide)).mono ?_
    rintro e w' ⟨rfl, b⟩
    exact ⟨rfl, below_on A b⟩
  have HQ := hid hq
  have HK := hid hk
  have HN := hid hn
  have B0 := hid (Below.refl w.heap.size w)
  clear hm hq hk hn
  go_enter Tryd.func3, Tryd.ntmps3
  go_wp2_with fail
  refine SP0.out.mono ?_
  rintro e w1 ⟨⟨a1, c1, rfl, hr⟩, hb⟩
  have A1 := hid (AL0.out w1 a1 c1 hr)
  have B1 := hid hb
  clear hb hr SP0 AL0 B0
  go_wp2_with fail
  refine A1.out.mono ?_
  rintro e w2 ⟨rfl, hb⟩
  have B2 := hid (below_on B1.out hb)
  clear hb A1 B1
  go_wp2_with fail
  refine (JN0.out w2).mono ?_
  rintro e w3 ⟨rfl, hb⟩
  have B3 := hid (below_on B2.out hb)
  clear hb JN0 B2
  go_wp2_with fail
  go_loopg [3] qs.length (fun m iv wr => ∃ k : Nat, k + m = qs.length ∧ iv = .int .i64 (k : Int) ∧ Hid (Below w.heap.size w wr))
  case atStart => exact ⟨0, by omega, rfl, B3.out⟩
  case round =>
    obtain ⟨k, hk, rfl, J⟩ := hrel
    clear B3
    by_cases kl : k < qs.length
    · have kli : (k : Int) < (qs.length : Int) := by omega
      have kb : (k : Int) ≤ 2199023255552 := by have := HN.out; omega
      obtain ⟨b, off, rfl, hc⟩ := (HQ.out.below J.out).at k kl
      obtain ⟨d0, d1, d2, d3, d4, d5, d6⟩ := hc.flat
      obtain ⟨w0, w1', w2', w3', w4', w5', w6', w7', w8'⟩ := HK.out _ (ak_getD kl)
      have CS : Hid (∀ wx, Below w.heap.size w wx → wx.cell? ⟨b, off + k * 7, none⟩ = some (.string (qs.getD k Ak.no).S) ∧ wx.cell? ⟨b, off + k * 7 + 1, none⟩ = some (.string (qs.getD k Ak.no).T) ∧ wx.cell? ⟨b, off + k * 7 + 5, none⟩ = some (.slice (qs.getD k Ak.no).a (qs.getD k Ak.no).xs.length (qs.getD k Ak.no).cap)) := fun wx bx => by
        obtain ⟨b', off', e, hc'⟩ := (HQ.out.below bx).at k kl
        cases e
        obtain ⟨d0, d1, d2, d3, d4, d5, d6⟩ := hc'.flat
        exact ⟨d0, d1, d5⟩
      have JN : Hid (∀ wx, Below w.heap.size w wx → Calls Tryd.prog 8 #[.slice (qs.getD k Ak.no).a (qs.getD k Ak.no).xs.length (qs.getD k Ak.no).cap, .string (qs.getD k Ak.no).T] wx fun e w' => e = .returned (.bool true) ∧ Below wx.heap.size wx w') := fun wx bx =>
        ljoins_yes _ _ _ _ wx (w8'.below bx (Nat.le_refl _)) w6' (ak_getD_size w7') (by omega)
      have hT : (qs.getD k Ak.no).T.size ≤ 140737488355328 := by omega
      have hS : (qs.getD k Ak.no).S.size ≤ 140737488355328 := by omega
      clear w0 w1' w2' w3' w4' w5' w6' w7' w8' d2 d3 d4 d6 hc d0 d1 d5
      generalize (qs.getD k Ak.no).S = s at *
      generalize (qs.getD k Ak.no).T = T at *
      generalize (qs.getD k Ak.no).a = la at *
      generalize (qs.getD k Ak.no).xs.length = ln at *
      generalize (qs.getD k Ak.no).cap = lc at *
      have hSi : (s.size : Int) ≤ 140737488355328 := by omega
      have T1 := hid (below_on J.out (show Below wr.heap.size wr wr.drew from ⟨rfl, rfl, rfl, Nat.le_refl _, fun _ _ => rfl⟩))
      obtain ⟨r0, r1, r5⟩ := CS.out _ J.out
      by_cases big : 1048576 < s.size
      · have bigi : (1048576 : Int) < (s.size : Int) := by omega
        clear J hT hS big
        go_upto_region 6 with fail
        go_region_held3 (fun w' => w'.cell? ⟨b, off + k * 7, none⟩ = some (.string s) ∧ w'.cell? ⟨b, off + k * 7 + 1, none⟩ = some (.string T) ∧ w'.cell? ⟨b, off + k * 7 + 5, none⟩ = some (.slice la ln lc)) (first | (with_reducible exact CS.out _ T2.out) | (with_reducible exact CS.out _ T1.out)) (first | (go_at_call 8; refine (JN.out _ T1.out).mono ?_; rintro e w4 ⟨rfl, hB⟩; have T2 := hid (below_on T1.out hB); clear hB))
        all_goals
          obtain ⟨r0, r1, r5⟩ := CS.out _ T2.out
          go_wp2_with fail
          go_roundg (qs.length - (k + 1))
          case measure => omega
          case rel => exact ⟨k + 1, by omega, by go_num, T2⟩
      · have bigi : ¬ (1048576 : Int) < (s.size : Int) := by omega
        have P1 := hid (fun wx (bx : Below w.heap.size w wx) => split_hr _ _ _ _ (csplit_any s T wx (MW.out _ bx) (by omega)))
        have P2 := hid (fun wx (_ : Below w.heap.size w wx) => split_hr _ _ _ _ (rsplit_any s T wx (by omega) hT))
        have P3 := hid (fun wx (bx : Below w.heap.size w wx) => split_hr _ _ _ _ (csplit_any s ⟨#[32]⟩ wx (MW.out _ bx) (by omega)))
        have P4 := hid (fun wx (_ : Below w.heap.size w wx) => split_hr _ _ _ _ (rsplit_any s ⟨#[32]⟩ wx (by omega) (by decide)))
        have P5 := hid (fun wx (bx : Below w.heap.size w wx) => split_hr _ _ _ _ (csplit_any s ⟨#[]⟩ wx (MW.out _ bx) (by omega)))
        have P6 := hid (fun wx (_ : Below w.heap.size w wx) => split_hr _ _ _ _ (rsplit_any s ⟨#[]⟩ wx (by omega) (by decide)))
        have L1 := Ch.sp_len2 s T
        have L2 := Ch.sp_len2 s ⟨#[32]⟩
        have L3 := Ch.sp_len2 s ⟨#[]⟩
        have A1 := hid (fun wx a1 a2 c1 c2 (h1 : HR a1 (Ch.sp s T) wx) (h2 : HR a2 (Ch.sp s T) wx) => lalike_yes a1 a2 c1 c2 _ wx h1.tr h2.tr (by omega))
        have A2 := hid (fun wx a1 a2 c1 c2 (h1 : HR a1 (Ch.sp s ⟨#[32]⟩) wx) (h2 : HR a2 (Ch.sp s ⟨#[32]⟩) wx) => lalike_yes a1 a2 c1 c2 _ wx h1.tr h2.tr (by omega))
        have A3 := hid (fun wx a1 a2 c1 c2 (h1 : HR a1 (Ch.sp s ⟨#[]⟩) wx) (h2 : HR a2 (Ch.sp s ⟨#[]⟩) wx) => lalike_yes a1 a2 c1 c2 _ wx h1.tr h2.tr (by omega))
        clear J hT hS big L1 L2 L3 MW
        generalize Ch.sp s T = x1 at *
        generalize Ch.sp s ⟨#[32]⟩ = x2 at *
        generalize Ch.sp s ⟨#[]⟩ = x3 at *
        generalize x1.length = n1 at *
        generalize x2.length = n2 at *
        generalize x3.length = n3 at *
        go_upto_region 6 with fail
        go_region_held3 (fun w' => w'.cell? ⟨b, off + k * 7, none⟩ = some (.string s) ∧ w'.cell? ⟨b, off + k * 7 + 1, none⟩ = some (.string T) ∧ w'.cell? ⟨b, off + k * 7 + 5, none⟩ = some (.slice la ln lc)) (first | (with_reducible exact CS.out _ T2.out) | (with_reducible exact CS.out _ T1.out)) (first | (go_at_call 8; refine (JN.out _ T1.out).mono ?_; rintro e w4 ⟨rfl, hB⟩; have T2 := hid (below_on T1.out hB); clear hB))
        all_goals
          obtain ⟨r0, r1, r5⟩ := CS.out _ T2.out
          go_upto_region 10 with fail
          have U1 := hid (below_on T2.out (show Below w4.heap.size w4 w4.drew from ⟨rfl, rfl, rfl, Nat.le_refl _, fun _ _ => rfl⟩))
          go_region_held3 (fun w' => w'.cell? ⟨b, off + k * 7, none⟩ = some (.string s) ∧ w'.cell? ⟨b, off + k * 7 + 1, none⟩ = some (.string T) ∧ w'.cell? ⟨b, off + k * 7 + 5, none⟩ = some (.slice la ln lc)) (first | (with_reducible exact CS.out _ U10.out) | (with_reducible exact CS.out _ U9.out) | (with_reducible exact CS.out _ U8.out) | (with_reducible exact CS.out _ U7.out) | (with_reducible exact CS.out _ U6.out) | (with_reducible exact CS.out _ U5.out) | (with_reducible exact CS.out _ U4.out) | (with_reducible exact CS.out _ U3.out) | (with_reducible exact CS.out _ U2.out) | (with_reducible exact CS.out _ U1.out)) (first
            | (go_at_call 7; first
              | (with_reducible refine (P1.out _ U1.out).mono ?_; rintro e y1 ⟨⟨a1, c1, rfl, h1⟩, hB⟩; have U2 := hid (below_on U1.out hB); have H1 := hid h1; clear hB h1)
              | (with_reducible refine (P3.out _ U4.out).mono ?_; rintro e y4 ⟨⟨a3, c3, rfl, h1⟩, hB⟩; have U5 := hid (below_on U4.out hB); have H3 := hid h1; clear hB h1)
              | (with_reducible refine (P5.out _ U7.out).mono ?_; rintro e y7 ⟨⟨a5, c5, rfl, h1⟩, hB⟩; have U8 := hid (below_on U7.out hB); have H5 := hid h1; clear hB h1))
            | (go_at_call 9; first
              | (with_reducible refine (P2.out _ U2.out).mono ?_; rintro e y2 ⟨⟨a2, c2, rfl, h1⟩, hB⟩; have U3 := hid (below_on U2.out hB); have Z1 := hid (A1.out _ a1 a2 c1 c2 (H1.out.on hB) h1); clear hB h1)
              | (with_reducible refine (P4.out _ U5.out).mono ?_; rintro e y5 ⟨⟨a4, c4, rfl, h1⟩, hB⟩; have U6 := hid (below_on U5.out hB); have Z2 := hid (A2.out _ a3 a4 c3 c4 (H3.out.on hB) h1); clear hB h1)
              | (with_reducible refine (P6.out _ U8.out).mono ?_; rintro e y8 ⟨⟨a6, c6, rfl, h1⟩, hB⟩; have U9 := hid (below_on U8.out hB); have Z3 := hid (A3.out _ a5 a6 c5 c6 (H5.out.on hB) h1); clear hB h1))
            | (go_at_call 6; first
              | (with_reducible refine Z1.out.mono ?_; rintro e y3 ⟨rfl, hB⟩; have U4 := hid (below_on U3.out hB); clear hB)
              | (with_reducible refine Z2.out.mono ?_; rintro e y6 ⟨rfl, hB⟩; have U7 := hid (below_on U6.out hB); clear hB)
              | (with_reducible refine Z3.out.mono ?_; rintro e y9 ⟨rfl, hB⟩; have U10 := hid (below_on U9.out hB); clear hB)))
          all_goals
            go_wp2_with fail
            go_roundg (qs.length - (k + 1))
            case measure => omega
            case rel => exact ⟨k + 1, by omega, by go_num, U10⟩
    · have kli : ¬ (k : Int) < (qs.length : Int) := by omega
      go_wp2_with fail
      go_ret
      exact ⟨rfl, J.out⟩
theorem splits_len (a : Option Addr) (len cap : Nat) (qs : List Ak) (w : World) (hm : ML w) (e : qs.length = len) (hq : LK20 w a qs) (hk : ∀ q ∈ qs, AkW w q) (hn : len ≤ 2199023255552) :
    Calls Tryd.prog 3 #[.slice a len cap] w fun e w' => e = .returned (.bool true) ∧ Below w.heap.size w w' := by
  subst e
  exact splits_law a cap qs w hm hq hk hn
end Go.Proofs.YtpdliogfeaafgaaDoor
