/-
  law20: CharsBack.
-/
import Derived.Test.YtpdliogfeaafgaaDoorChD
import Derived.Test.YtpdliogfeaafgaaDoorChRow
namespace Go.Proofs.YtpdliogfeaafgaaDoor
open Go Go.RowKit Go.Deep Go.Shelf

namespace Ch
theorem closedBack : sp ⟨#[97, 44, 98, 44]⟩ ⟨#[44]⟩ = [⟨#[97]⟩, ⟨#[98]⟩, ⟨#[]⟩] := by decide +kernel
theorem sp_blank (s : ByteArray) : sp s ⟨#[32]⟩ = wd s := by
  by_cases h : s.size = 0
  · rw [sp, if_pos h, size_zero h]
    unfold wd
    rw [wl_nil]
    rfl
  · rw [sp, if_neg h, if_pos rfl]
theorem sp_join (s sep : ByteArray) (h : sep ≠ ⟨#[32]⟩) : jn sep.data.toList (sp s sep) = s.data.toList := by
  by_cases h0 : s.size = 0
  · rw [sp, if_pos h0, size_zero h0]; rfl
  · rw [sp, if_neg h0, if_neg h]
    by_cases h1 : sep.size = 0
    · rw [if_pos h1, size_zero h1]; exact sg_join s
    · rw [if_neg h1]; exact cut_join s sep (by omega)
theorem jn_size (sep : L8) (xs : List ByteArray) (i : Nat) : (xs.getD i ByteArray.empty).size ≤ (jn sep xs).length := by
  by_cases h : i < xs.length
  · have h1 := jt_len_mono sep xs (show i + 1 ≤ xs.length by omega)
    rw [jt, List.length_append, List.length_append, size_len] at h1
    rw [jn]
    omega
  · rw [show xs.getD i ByteArray.empty = ByteArray.empty by simp [List.getD, List.getElem?_eq_none (show xs.length ≤ i by omega)]]
    exact Nat.zero_le _
theorem getD_mem {xs : List ByteArray} {i : Nat} (h : i < xs.length) : xs.getD i ByteArray.empty ∈ xs := by
  rw [List.getD_eq_getElem?_getD, List.getElem?_eq_getElem h]; exact List.getElem_mem h
theorem byte_mem {x : ByteArray} {j : Nat} (hj : j < x.size) : x.data.toList.getD j 0 ∈ x.data.toList := by
  have : j < x.data.toList.length := by rw [size_len]; exact hj
  rw [List.getD_eq_getElem?_getD, List.getElem?_eq_getElem this]
  exact List.getElem_mem this
theorem sp_len (s sep : ByteArray) : (sp s sep).length ≤ s.size + 1 := by
  unfold sp
  by_cases h0 : s.size = 0
  · rw [if_pos h0]; simp
  · rw [if_neg h0]
    by_cases h1 : sep = ⟨#[32]⟩
    · rw [if_pos h1]; have := wd_le s; omega
    · rw [if_neg h1]
      by_cases h2 : sep.size = 0
      · rw [if_pos h2, sg_len]; omega
      · rw [if_neg h2, cut_len s sep (by omega)]
        have := Lib.countB_le sep (by omega) s.size s (Nat.le_refl _)
        omega
end Ch

set_option maxRecDepth 100000 in
set_option maxHeartbeats 4000000 in
theorem back_law (s sep : ByteArray) (w : World) (hm : ML w) (hs : s.size ≤ 140737488355328) (hp : sep.size ≤ 140737488355328) :
    Calls Tryd.prog 4 #[.string s, .string sep] w fun e w' => e = .returned (.bool true) ∧ Below w.heap.size w w' := by
  have SP0 := hid (csplit_any ⟨#[97, 44, 98, 44]⟩ ⟨#[44]⟩ w hm (by decide))
  have MW : Hid (∀ w', Below w.heap.size w w' → ML w') := fun w' b => hm.b b
  have CL0 := hid Ch.closedBack
  have hsi : (s.size : Int) ≤ 140737488355328 := by omega
  have AL : Hid (∀ (wx : World) (a : Option Addr) (ca : Nat), TR wx a [⟨#[97]⟩, ⟨#[98]⟩, ⟨#[]⟩] → Calls Tryd.prog 6 #[.slice a 3 ca, .slice (some ⟨wx.heap.size, 0, none⟩) 3 3] (wx.alloc (.cells #[.string ⟨#[97]⟩, .string ⟨#[98]⟩, .string ⟨#[]⟩] 9)) fun e w' => e = .returned (.bool true) ∧ Below wx.heap.size wx w') := fun wx a ca ht => by
    have A := alloc_b wx (.cells #[.string ⟨#[97]⟩, .string ⟨#[98]⟩, .string ⟨#[]⟩] 9)
    have hb : TR (wx.alloc (.cells #[.string ⟨#[97]⟩, .string ⟨#[98]⟩, .string ⟨#[]⟩] 9)) (some ⟨wx.heap.size, 0, none⟩) [⟨#[97]⟩, ⟨#[98]⟩, ⟨#[]⟩] := .inr ⟨_, 0, rfl, fun i x hi => by
      have := heap_alloc_new wx (.cells #[.string ⟨#[97]⟩, .string ⟨#[98]⟩, .string ⟨#[]⟩] 9)
      rw [cell_of_row _ _ _ _ _ _ this, Nat.zero_add]
      match i, hi with
      | 0, hi => simp at hi; subst hi; rfl
      | 1, hi => simp at hi; subst hi; rfl
      | 2, hi => simp at hi; subst hi; rfl⟩
    refine (lalike_yes a _ ca 3 [⟨#[97]⟩, ⟨#[98]⟩, ⟨#[]⟩] _ (ht.below A (Nat.le_refl _)) hb (by decide)).mono ?_
    rintro e w' ⟨rfl, b⟩
    exact ⟨rfl, below_on A b⟩
  by_cases big : 1048576 < s.size
  · have bigi : (1048576 : Int) < (s.size : Int) := by omega
    clear hm hs hp big
    go_enter Tryd.func4, Tryd.ntmps4
    go_wp2_with fail
    refine SP0.out.mono ?_
    rintro e w1 ⟨⟨v, rfl, ht⟩, hb⟩
    rw [CL0.out] at ht
    obtain ⟨a1, c1, rfl, -, hr⟩ := ht.read
    have A1 := hid (AL.out w1 a1 c1 hr)
    have B1 := hid hb
    clear ht hb hr SP0 AL
    go_wp2_with fail
    refine A1.out.mono ?_
    rintro e w2 ⟨rfl, hb⟩
    have B := hid (below_on B1.out hb)
    clear hb B1 A1
    go_wp2_with fail
    go_ret
    exact ⟨rfl, B.out⟩
  · have bigi : ¬ (1048576 : Int) < (s.size : Int) := by omega
    have hL := Ch.size_len s
    have SPS := hid (fun wx (hx : ML wx) => csplit_any s sep wx hx (by omega))
    have SPB := hid (fun wx (hx : ML wx) => csplit_any s ⟨#[32]⟩ wx hx (by omega))
    have SPE := hid (Ch.sp_blank s)
    have IX : Hid (∀ (x : ByteArray) wx, ML wx → x.size ≤ 1048576 → Lib.index x.data.toList sep.data.toList = -1 → Calls Tryd.prog 11 #[.string x, .string sep] wx fun e w' => e = .returned (.int .i64 0) ∧ w' = wx) := fun x wx hx h1 h2 => by
      refine (cindex_any x sep wx hx (by omega)).mono ?_
      rintro e w' ⟨rfl, hw⟩
      exact ⟨by rw [h2]; rfl, hw⟩
    have XJ : Hid (sep ≠ ⟨#[32]⟩ → ∀ (wx : World) (a : Option Addr) (ca : Nat), TR wx a (Ch.sp s sep) → Calls Tryd.prog 10 #[.slice a (Ch.sp s sep).length ca, .string sep] wx fun e w' => e = .returned (.tuple #[.string s, .int .i64 0]) ∧ Below wx.heap.size wx w') := fun hne wx a ca ht => by
      have hj := Ch.sp_join s sep hne
      have hl : (Ch.jn sep.data.toList (Ch.sp s sep)).length ≤ 16777216 := by rw [hj, hL]; omega
      refine (cjoin_any a ca (Ch.sp s sep) sep wx ht (by have := Ch.sp_len s sep; omega) (fun i => by have := Ch.jn_size sep.data.toList (Ch.sp s sep) i; omega) hp).mono ?_
      rintro e w' ⟨rfl, b⟩
      exact ⟨by rw [Ch.jS, Ch.jE, if_pos hl, if_pos hl, hj, Ch.tx_self], b⟩
    have XSP : Hid (∀ i, i < (Ch.sp s sep).length → sep ≠ ⟨#[32]⟩ → ((Ch.sp s sep).getD i ByteArray.empty).size ≤ 1048576) := fun i hi hne => by
      have h1 := Ch.jn_size sep.data.toList (Ch.sp s sep) i
      rw [Ch.sp_join s sep hne, hL] at h1
      omega
    have XFR : Hid (∀ i, i < (Ch.sp s sep).length → sep ≠ ⟨#[32]⟩ → sep.size ≠ 0 → Lib.index ((Ch.sp s sep).getD i ByteArray.empty).data.toList sep.data.toList = -1) := fun i hi hne hn0 => by
      have hmem := Ch.getD_mem hi
      generalize (Ch.sp s sep).getD i ByteArray.empty = x at *
      by_cases h0 : s.size = 0
      · rw [Ch.sp, if_pos h0] at hmem; cases hmem
      · rw [Ch.sp, if_neg h0, if_neg hne, if_neg hn0] at hmem
        exact Ch.cut_free s sep (by omega) x hmem
    have XON : Hid (∀ i, i < (Ch.sp s sep).length → sep.size = 0 → ((Ch.sp s sep).getD i ByteArray.empty).size = 1) := fun i hi hn0 => by
      have hmem := Ch.getD_mem hi
      generalize (Ch.sp s sep).getD i ByteArray.empty = x at *
      by_cases h0 : s.size = 0
      · rw [Ch.sp, if_pos h0] at hmem; cases hmem
      · rw [Ch.sp, if_neg h0, if_neg (by rintro rfl; exact absurd hn0 (by decide)), if_pos hn0] at hmem
        exact Ch.sg_one s x hmem
    have XLN : Hid ((Ch.sp s sep).length ≤ 1048577) := by have := Ch.sp_len s sep; rw [Hid]; omega
    have BA : Hid (∀ j (h : j < s.size), ((s[j]'h).toNat : Int) = ((s.data.toList.getD j 0).toNat : Int)) := fun j h => by rw [Ch.byte_at s j h]
    have YL : Hid ((Ch.wd s).length ≤ 1048576) := by have := Ch.wd_le s; rw [Hid]; omega
    have YJ : Hid (Ch.jn [] (Ch.wd s) = s.data.toList.filter Ch.nb) := Ch.wd_join s
    have FL : (s.data.toList.filter Ch.nb).length ≤ 1048576 := by have := List.length_filter_le Ch.nb s.data.toList; omega
    have XSZ : Hid (∀ i, i < (Ch.wd s).length → ((Ch.wd s).getD i ByteArray.empty).size ≤ 1048576) := fun i hi => by
      have h1 := Ch.jn_size [] (Ch.wd s) i
      rw [Ch.wd_join s] at h1
      omega
    have CAT : Hid (∀ (wx : World) (a : Option Addr) (ca : Nat), TR wx a (Ch.wd s) → Calls Tryd.prog 13 #[.slice a (Ch.wd s).length ca] wx fun e w' => e = .returned (.tuple #[.string (Ch.tx (s.data.toList.filter Ch.nb)), .int .i64 0]) ∧ Below wx.heap.size wx w') := fun wx a ca ht => by
      have hl : (Ch.jn [] (Ch.wd s)).length ≤ 16777216 := by rw [Ch.wd_join s]; omega
      refine (ccat_any a ca (Ch.wd s) wx ht (by have := Ch.wd_le s; omega) (fun i => by have h1 := Ch.jn_size [] (Ch.wd s) i; omega)).mono ?_
      rintro e w' ⟨rfl, b⟩
      exact ⟨by rw [Ch.jS, Ch.jE, if_pos hl, if_pos hl, Ch.wd_join], b⟩
    have GOOD : Hid (∀ i, i < (Ch.wd s).length → ((Ch.wd s).getD i ByteArray.empty).data.toList ≠ [] ∧ ∀ j, j < ((Ch.wd s).getD i ByteArray.empty).size → Ch.bl (((Ch.wd s).getD i ByteArray.empty).data.toList.getD j 0) = false) := fun i hi => by
      obtain ⟨q1, q2⟩ := Ch.wd_good s _ (Ch.getD_mem hi)
      exact ⟨q1, fun j hj => q2 _ (Ch.byte_mem hj)⟩
    have FTK : Hid (∀ k, k < s.size → (s.data.toList.take (k + 1)).filter Ch.nb = (s.data.toList.take k).filter Ch.nb ++ (if Ch.nb (s.data.toList.getD k 0) = true then [s.data.toList.getD k 0] else [])) := fun k hk => by
      have hk' : k < s.data.toList.length := by rw [hL]; exact hk
      have e : s.data.toList.getD k 0 = s.data.toList[k] := by simp [List.getD, List.getElem?_eq_getElem hk']
      rw [e, ← List.take_append_getElem hk', List.filter_append, List.filter_cons, List.filter_nil]
    have FLE : Hid (∀ k, ((s.data.toList.take k).filter Ch.nb).length ≤ 1048576) := fun k => by
      have h1 := List.length_filter_le Ch.nb (s.data.toList.take k)
      have h2 := List.length_take_le k s.data.toList
      have h3 : (s.data.toList.take k).length ≤ s.data.toList.length := by rw [List.length_take]; omega
      omega
    have FALL : Hid ((s.data.toList.take s.size).filter Ch.nb = s.data.toList.filter Ch.nb) := by rw [Hid, List.take_of_length_le (by omega)]
    have GST : Hid (∀ k, Ch.bg s.data.toList (k + 1) = Ch.bg s.data.toList k + (if (Ch.nb (s.data.toList.getD k 0) && (decide (k = 0) || Ch.bl (s.data.toList.getD (k - 1) 0))) = true then 1 else 0)) := fun k => rfl
    have GLE := hid (Ch.bg_le s.data.toList)
    have GALL : Hid (Ch.bg s.data.toList s.size = (Ch.wd s).length) := (Ch.wd_len s).symm
    have sL : s.size ≤ 1048576 := by omega
    generalize s.data.toList = l at *
    clear hm hs hp FL hL YJ
    go_enter Tryd.func4, Tryd.ntmps4
    go_wp2_with fail
    refine SP0.out.mono ?_
    rintro e w1 ⟨⟨v, rfl, ht⟩, hb⟩
    rw [CL0.out] at ht
    obtain ⟨a1, c1, rfl, -, hr⟩ := ht.read
    have A1 := hid (AL.out w1 a1 c1 hr)
    have B1 := hid hb
    clear ht hb hr SP0 AL CL0
    go_wp2_with fail
    refine A1.out.mono ?_
    rintro e w2 ⟨rfl, hb⟩
    have B2 := hid (below_on B1.out hb)
    clear hb B1 A1
    go_wp2_with fail
    refine (SPS.out w2 (MW.out _ B2.out)).mono ?_
    rintro e w3 ⟨⟨v, rfl, ht⟩, hb⟩
    obtain ⟨a3, c3, rfl, -, hr⟩ := ht.read
    have R3 := hid hr
    have B3 := hid (below_on B2.out hb)
    clear ht hb hr SPS B2
    by_cases hne : sep = ⟨#[32]⟩
    · subst hne
      clear XJ XSP XFR XON XLN IX R3
      generalize (Ch.sp s ⟨#[32]⟩).length = n3 at *
      have B := B3
      clear B3
      go_wp2_with fail
      refine (SPB.out w3 (MW.out _ B.out)).mono ?_
      rintro e w5 ⟨⟨v5, rfl, ht⟩, hb⟩
      rw [SPE.out] at ht
      obtain ⟨a5, c5, rfl, -, hr5⟩ := ht.read
      have R5 := hid hr5
      have B5 := hid (below_on B.out hb)
      clear ht hb hr5 B
      have B50 := hid (Below.refl w5.heap.size w5)
      have N50 := hid (B8.nil w5.heap.size w5)
      generalize hY : Ch.wd s = ys at *
      have HY := hid hY
      clear hY
      go_wp2_with fail
      go_loopg [10, 11] s.size (fun m av iv wr => ∃ k : Nat, k + m = s.size ∧ iv = .int .i64 (k : Int) ∧ Hid (B8 w5.heap.size wr av ((l.take k).filter Ch.nb) ∧ Below w5.heap.size w5 wr))
      case atStart => exact ⟨0, by omega, rfl, N50.out, B50.out⟩
      case round =>
        obtain ⟨k, hk, rfl, J⟩ := hrel
        by_cases kl : k < s.size
        · have kli : (k : Int) < (s.size : Int) := by omega
          have BJ := BA.out k
          have LB := hid (lblank_any (l.getD k 0))
          have FT := FTK.out k kl
          generalize l.getD k 0 = c at *
          cases hbl : Ch.bl c with
          | true =>
            rw [hbl] at LB
            have F : Hid (B8 w5.heap.size wr u10 ((l.take (k + 1)).filter Ch.nb) ∧ Below w5.heap.size w5 wr) := by
              rw [Hid, FT, Ch.nb, hbl]
              exact (List.append_nil ((l.take k).filter Ch.nb)).symm ▸ J.out
            clear hbl FT J
            go_wp2_with fail
            refine (LB.out _).mono ?_
            rintro e w6 ⟨rfl, hw6⟩
            rw [hw6]
            go_wp2_with fail
            go_roundg (s.size - (k + 1))
            case measure => omega
            case rel => exact ⟨k + 1, by omega, by go_num, F⟩
          | false =>
            rw [hbl] at LB
            obtain ⟨mv', w', ap, h1, h2, h3⟩ := J.out.1.push c (by have := FLE.out k; omega) J.out.2.size
            have AP := hid ap
            have F : Hid (B8 w5.heap.size w' mv' ((l.take (k + 1)).filter Ch.nb) ∧ Below w5.heap.size w5 w') := by
              rw [Hid, FT, Ch.nb, hbl]
              exact ⟨h1, J.out.2.trans h3⟩
            clear hbl FT J ap h1 h2 h3
            go_wp2_with fail
            refine (LB.out _).mono ?_
            rintro e w6 ⟨rfl, hw6⟩
            rw [hw6]
            go_wp2_with (at_builtin; refine wpList_append_d rfl _ _ rfl AP.out (by rfl) (by rfl) ?_; clear AP)
            go_roundg (s.size - (k + 1))
            case measure => omega
            case rel => exact ⟨k + 1, by omega, by go_num, F⟩
        · have kli : ¬ (k : Int) < (s.size : Int) := by omega
          have hkn : k = s.size := by omega
          have JA := J.out
          rw [hkn, FALL.out] at JA
          have A6 := hid JA
          have JB := hid (below_on B5.out A6.out.2)
          have R6 := hid (R5.out.below A6.out.2 (Nat.le_refl _))
          clear J JA hkn R5 B5 B50 N50
          go_wp2_with fail
          generalize hwr : wr = w6 at *
          clear hwr
          go_loopg [12, 13] s.size (fun m bv iv wr => ∃ k : Nat, k + m = s.size ∧ iv = .int .i64 (k : Int) ∧ bv = .int .i64 (Ch.bg l k : Int) ∧ Hid (wr = w6))
          case atStart => exact ⟨0, by omega, rfl, rfl, rfl⟩
          case round =>
            obtain ⟨k, hk, rfl, rfl, J⟩ := hrel
            have J6 := J.out
            subst J6
            by_cases kl : k < s.size
            · have kli : (k : Int) < (s.size : Int) := by omega
              have BJ := BA.out k
              have LB := hid (lblank_any (l.getD k 0))
              have GS := GST.out k
              have GL := GLE.out k
              generalize l.getD k 0 = c at *
              have GLi : (Ch.bg l k : Int) ≤ 1048576 := by omega
              have hki : (k : Int) ≤ 1048576 := by omega
              cases hbl : Ch.bl c with
              | true =>
                rw [hbl] at LB
                have E : Hid (Ch.bg l (k + 1) = Ch.bg l k) := by rw [Hid, GS, Ch.nb, hbl]; rfl
                clear hbl GS GL
                generalize Ch.bg l k = g at *
                go_wp2_with fail
                refine (LB.out _).mono ?_
                rintro e w7 ⟨rfl, hw7⟩
                rw [hw7]
                go_wp2_with fail
                go_roundg (s.size - (k + 1))
                case measure => omega
                case rel => exact ⟨k + 1, by omega, by go_num, by rw [E.out], rfl⟩
              | false =>
                rw [hbl] at LB
                by_cases k0 : k = 0
                · have E : Hid (Ch.bg l (k + 1) = Ch.bg l k + 1) := by rw [Hid, GS, Ch.nb, hbl, k0]; rfl
                  have k0b : ((k : Int) == 0) = true := by simpa using k0
                  clear hbl GS GL k0
                  generalize Ch.bg l k = g at *
                  go_wp2_with fail
                  refine (LB.out _).mono ?_
                  rintro e w7 ⟨rfl, hw7⟩
                  rw [hw7]
                  go_wp2_with fail
                  go_roundg (s.size - (k + 1))
                  case measure => omega
                  case rel => exact ⟨k + 1, by omega, by go_num, by rw [E.out]; go_num, rfl⟩
                · have k0b : ((k : Int) == 0) = false := by rw [beq_eq_false_iff_ne]; omega
                  have BJ1 := BA.out (k - 1)
                  have LB1 := hid (lblank_any (l.getD (k - 1) 0))
                  have k1a : (0 : Int) ≤ (k : Int) - 1 := by omega
                  have k1b : (k : Int) - 1 < (s.size : Int) := by omega
                  have k1t : ((k : Int) - 1).toNat = k - 1 := by omega
                  have E0 : Hid (Ch.bg l (k + 1) = Ch.bg l k + (if Ch.bl (l.getD (k - 1) 0) = true then 1 else 0)) := by
                    rw [Hid, GS, Ch.nb, hbl, decide_eq_false k0]
                    cases Ch.bl (l.getD (k - 1) 0) <;> rfl
                  generalize l.getD (k - 1) 0 = d at *
                  clear hbl GS GL k0
                  cases hbd : Ch.bl d with
                  | true =>
                    rw [hbd] at LB1
                    have E : Hid (Ch.bg l (k + 1) = Ch.bg l k + 1) := by rw [Hid, E0.out, hbd]; rfl
                    clear hbd E0
                    generalize Ch.bg l k = g at *
                    go_wp2_with fail
                    refine (LB.out _).mono ?_
                    rintro e w7 ⟨rfl, hw7⟩
                    rw [hw7]
                    go_wp2_with fail
                    refine (LB1.out _).mono ?_
                    rintro e w8 ⟨rfl, hw8⟩
                    rw [hw8]
                    go_wp2_with fail
                    go_roundg (s.size - (k + 1))
                    case measure => omega
                    case rel => exact ⟨k + 1, by omega, by go_num, by rw [E.out]; go_num, rfl⟩
                  | false =>
                    rw [hbd] at LB1
                    have E : Hid (Ch.bg l (k + 1) = Ch.bg l k) := by rw [Hid, E0.out, hbd]; rfl
                    clear hbd E0
                    generalize Ch.bg l k = g at *
                    go_wp2_with fail
                    refine (LB.out _).mono ?_
                    rintro e w7 ⟨rfl, hw7⟩
                    rw [hw7]
                    go_wp2_with fail
                    refine (LB1.out _).mono ?_
                    rintro e w8 ⟨rfl, hw8⟩
                    rw [hw8]
                    go_wp2_with fail
                    go_roundg (s.size - (k + 1))
                    case measure => omega
                    case rel => exact ⟨k + 1, by omega, by go_num, by rw [E.out], rfl⟩
            · have kli : ¬ (k : Int) < (s.size : Int) := by omega
              have hkn : k = s.size := by omega
              have GE : Hid (Ch.bg l k = ys.length) := by rw [Hid, hkn]; exact GALL.out
              clear hkn
              have CT := hid (CAT.out wr a5 c5 R6.out)
              generalize hgk : Ch.bg l k = g at *
              have HG := hid hgk
              clear hgk
              obtain rfl := GE.out
              go_wp2_with fail
              refine CT.out.mono ?_
              rintro e w9 ⟨rfl, hb9⟩
              have A9 := hid (A6.out.1.below (hb9.mono (by exact Nat.le_refl _)))
              have CV := A9.out.conv
              have R9 := hid (R6.out.below hb9 (Nat.le_refl _))
              have J9 := hid (below_on JB.out hb9)
              clear hb9 CT A6 R6 JB GE HG
              generalize Ch.tx (l.filter Ch.nb) = T at *
              go_wp2_with fail
              go_loopg [16] ys.length (fun m iv wr => ∃ k : Nat, k + m = ys.length ∧ iv = .int .i64 (k : Int) ∧ Hid (wr = w9))
              case atStart => exact ⟨0, by omega, rfl, rfl⟩
              case round =>
                obtain ⟨k, hk, rfl, J⟩ := hrel
                have J6 := J.out
                subst J6
                by_cases kl : k < ys.length
                · have kli : (k : Int) < (ys.length : Int) := by omega
                  have kb : (k : Int) ≤ 1048576 := by have := YL.out; omega
                  obtain ⟨b, off, rfl, hc⟩ := R9.out.at k kl
                  obtain ⟨g1, g2⟩ := GOOD.out k kl
                  have XS := XSZ.out k kl
                  generalize ys.getD k ByteArray.empty = x at *
                  obtain ⟨m1, m2, m3⟩ := Ch.toList_ne (s := x) (by intro q; exact g1 (by have := Ch.size_len x; rw [q] at this; exact List.eq_nil_of_length_eq_zero this))
                  have GX := hid g2
                  have XB : Hid (∀ j (h : j < x.size), ((x[j]'h).toNat : Int) = ((x.data.toList.getD j 0).toNat : Int)) := fun j h => by rw [Ch.byte_at x j h]
                  have xsi : (x.size : Int) ≤ 1048576 := by omega
                  clear g1 g2 XS
                  go_wp2_with fail
                  go_loopg [17] x.size (fun m jv wz => ∃ j : Nat, j + m = x.size ∧ jv = .int .i64 (j : Int) ∧ Hid (wz = wr))
                  case atStart => exact ⟨0, by omega, rfl, rfl⟩
                  case round =>
                    obtain ⟨j, hj, rfl, J2⟩ := hrel
                    have J7 := J2.out
                    subst J7
                    by_cases jl : j < x.size
                    · have jli : (j : Int) < (x.size : Int) := by omega
                      have BJ := XB.out j
                      have LB := hid (lblank_any (x.data.toList.getD j 0))
                      rw [GX.out j jl] at LB
                      generalize x.data.toList.getD j 0 = c at *
                      go_wp2_with fail
                      refine (LB.out _).mono ?_
                      rintro e w7 ⟨rfl, hw7⟩
                      rw [hw7]
                      go_wp2_with fail
                      go_roundg (x.size - (j + 1))
                      case measure => omega
                      case rel => exact ⟨j + 1, by omega, by go_num, rfl⟩
                    · have jli : ¬ (j : Int) < (x.size : Int) := by omega
                      go_wp2_with fail
                      go_roundg (ys.length - (k + 1))
                      case measure => omega
                      case rel => exact ⟨k + 1, by omega, by go_num, rfl⟩
                · have kli : ¬ (k : Int) < (ys.length : Int) := by omega
                  go_wp2_with fail
                  go_ret
                  exact ⟨rfl, J9.out⟩
    · have q1 : (sep.toList == [32]) = false := by
        have := Ch.eq_lit (s := sep) (t := ⟨#[32]⟩)
        rw [decide_eq_false hne, Ch.toList_tx ⟨#[32]⟩] at this
        exact this
      have q2 : ¬ sep.toList = [32] := by simpa using q1
      have J1 := hid (XJ.out hne w3 a3 c3 R3.out)
      have XSP2 := hid (fun i hi => XSP.out i hi hne)
      have XFR2 := hid (fun i hi => XFR.out i hi hne)
      clear XJ XSP XFR hne
      generalize hxs : Ch.sp s sep = xs at *
      have HXS := hid hxs
      clear hxs
      go_wp2_with fail
      refine J1.out.mono ?_
      rintro e w4 ⟨rfl, hb⟩
      have R4 := hid (R3.out.below hb (Nat.le_refl _))
      have B4 := hid (below_on B3.out hb)
      clear hb J1 R3 B3
      by_cases h0 : sep.size = 0
      · obtain rfl := Ch.size_zero h0
        have ON := hid (fun i hi => XON.out i hi h0)
        clear XON XFR2 IX q1 q2 h0
        go_wp2_with fail
        go_loopg [8] xs.length (fun m iv wr => ∃ k : Nat, k + m = xs.length ∧ iv = .int .i64 (k : Int) ∧ Hid (wr = w4))
        case atStart => exact ⟨0, by omega, rfl, rfl⟩
        case round =>
          obtain ⟨k, hk, rfl, J⟩ := hrel
          have J6 := J.out
          subst J6
          by_cases kl : k < xs.length
          · have kli : (k : Int) < (xs.length : Int) := by omega
            have kb : (k : Int) ≤ 1048577 := by have := XLN.out; omega
            obtain ⟨b, off, rfl, hc⟩ := R4.out.at k kl
            have x1 := ON.out k kl
            generalize xs.getD k ByteArray.empty = x at *
            go_wp2_with fail
            go_roundg (xs.length - (k + 1))
            case measure => omega
            case rel => exact ⟨k + 1, by omega, by go_num, rfl⟩
          · have kli : ¬ (k : Int) < (xs.length : Int) := by omega
            have B := B4
            clear B4 ON
            go_wp2_with fail
            clear kli kl hk
            clear J
            generalize xs.length = n3 at *
            refine (SPB.out wr (MW.out _ B.out)).mono ?_
            rintro e w5 ⟨⟨v5, rfl, ht⟩, hb⟩
            rw [SPE.out] at ht
            obtain ⟨a5, c5, rfl, -, hr5⟩ := ht.read
            have R5 := hid hr5
            have B5 := hid (below_on B.out hb)
            clear ht hb hr5 B
            have B50 := hid (Below.refl w5.heap.size w5)
            have N50 := hid (B8.nil w5.heap.size w5)
            generalize hY : Ch.wd s = ys at *
            have HY := hid hY
            clear hY
            go_wp2_with fail
            go_loopg [10, 11] s.size (fun m av iv wr => ∃ k : Nat, k + m = s.size ∧ iv = .int .i64 (k : Int) ∧ Hid (B8 w5.heap.size wr av ((l.take k).filter Ch.nb) ∧ Below w5.heap.size w5 wr))
            case atStart => exact ⟨0, by omega, rfl, N50.out, B50.out⟩
            case round =>
              obtain ⟨k, hk, rfl, J⟩ := hrel
              by_cases kl : k < s.size
              · have kli : (k : Int) < (s.size : Int) := by omega
                have BJ := BA.out k
                have LB := hid (lblank_any (l.getD k 0))
                have FT := FTK.out k kl
                generalize l.getD k 0 = c at *
                cases hbl : Ch.bl c with
                | true =>
                  rw [hbl] at LB
                  have F : Hid (B8 w5.heap.size wr u10 ((l.take (k + 1)).filter Ch.nb) ∧ Below w5.heap.size w5 wr) := by
                    rw [Hid, FT, Ch.nb, hbl]
                    exact (List.append_nil ((l.take k).filter Ch.nb)).symm ▸ J.out
                  clear hbl FT J
                  go_wp2_with fail
                  refine (LB.out _).mono ?_
                  rintro e w6 ⟨rfl, hw6⟩
                  rw [hw6]
                  go_wp2_with fail
                  go_roundg (s.size - (k + 1))
                  case measure => omega
                  case rel => exact ⟨k + 1, by omega, by go_num, F⟩
                | false =>
                  rw [hbl] at LB
                  obtain ⟨mv', w', ap, h1, h2, h3⟩ := J.out.1.push c (by have := FLE.out k; omega) J.out.2.size
                  have AP := hid ap
                  have F : Hid (B8 w5.heap.size w' mv' ((l.take (k + 1)).filter Ch.nb) ∧ Below w5.heap.size w5 w') := by
                    rw [Hid, FT, Ch.nb, hbl]
                    exact ⟨h1, J.out.2.trans h3⟩
                  clear hbl FT J ap h1 h2 h3
                  go_wp2_with fail
                  refine (LB.out _).mono ?_
                  rintro e w6 ⟨rfl, hw6⟩
                  rw [hw6]
                  go_wp2_with (at_builtin; refine wpList_append_d rfl _ _ rfl AP.out (by rfl) (by rfl) ?_; clear AP)
                  go_roundg (s.size - (k + 1))
                  case measure => omega
                  case rel => exact ⟨k + 1, by omega, by go_num, F⟩
              · have kli : ¬ (k : Int) < (s.size : Int) := by omega
                have hkn : k = s.size := by omega
                have JA := J.out
                rw [hkn, FALL.out] at JA
                have A6 := hid JA
                have JB := hid (below_on B5.out A6.out.2)
                have R6 := hid (R5.out.below A6.out.2 (Nat.le_refl _))
                clear J JA hkn R5 B5 B50 N50
                go_wp2_with fail
                generalize hwr : wr = w6 at *
                clear hwr
                go_loopg [12, 13] s.size (fun m bv iv wr => ∃ k : Nat, k + m = s.size ∧ iv = .int .i64 (k : Int) ∧ bv = .int .i64 (Ch.bg l k : Int) ∧ Hid (wr = w6))
                case atStart => exact ⟨0, by omega, rfl, rfl, rfl⟩
                case round =>
                  obtain ⟨k, hk, rfl, rfl, J⟩ := hrel
                  have J6 := J.out
                  subst J6
                  by_cases kl : k < s.size
                  · have kli : (k : Int) < (s.size : Int) := by omega
                    have BJ := BA.out k
                    have LB := hid (lblank_any (l.getD k 0))
                    have GS := GST.out k
                    have GL := GLE.out k
                    generalize l.getD k 0 = c at *
                    have GLi : (Ch.bg l k : Int) ≤ 1048576 := by omega
                    have hki : (k : Int) ≤ 1048576 := by omega
                    cases hbl : Ch.bl c with
                    | true =>
                      rw [hbl] at LB
                      have E : Hid (Ch.bg l (k + 1) = Ch.bg l k) := by rw [Hid, GS, Ch.nb, hbl]; rfl
                      clear hbl GS GL
                      generalize Ch.bg l k = g at *
                      go_wp2_with fail
                      refine (LB.out _).mono ?_
                      rintro e w7 ⟨rfl, hw7⟩
                      rw [hw7]
                      go_wp2_with fail
                      go_roundg (s.size - (k + 1))
                      case measure => omega
                      case rel => exact ⟨k + 1, by omega, by go_num, by rw [E.out], rfl⟩
                    | false =>
                      rw [hbl] at LB
                      by_cases k0 : k = 0
                      · have E : Hid (Ch.bg l (k + 1) = Ch.bg l k + 1) := by rw [Hid, GS, Ch.nb, hbl, k0]; rfl
                        have k0b : ((k : Int) == 0) = true := by simpa using k0
                        clear hbl GS GL k0
                        generalize Ch.bg l k = g at *
                        go_wp2_with fail
                        refine (LB.out _).mono ?_
                        rintro e w7 ⟨rfl, hw7⟩
                        rw [hw7]
                        go_wp2_with fail
                        go_roundg (s.size - (k + 1))
                        case measure => omega
                        case rel => exact ⟨k + 1, by omega, by go_num, by rw [E.out]; go_num, rfl⟩
                      · have k0b : ((k : Int) == 0) = false := by rw [beq_eq_false_iff_ne]; omega
                        have BJ1 := BA.out (k - 1)
                        have LB1 := hid (lblank_any (l.getD (k - 1) 0))
                        have k1a : (0 : Int) ≤ (k : Int) - 1 := by omega
                        have k1b : (k : Int) - 1 < (s.size : Int) := by omega
                        have k1t : ((k : Int) - 1).toNat = k - 1 := by omega
                        have E0 : Hid (Ch.bg l (k + 1) = Ch.bg l k + (if Ch.bl (l.getD (k - 1) 0) = true then 1 else 0)) := by
                          rw [Hid, GS, Ch.nb, hbl, decide_eq_false k0]
                          cases Ch.bl (l.getD (k - 1) 0) <;> rfl
                        generalize l.getD (k - 1) 0 = d at *
                        clear hbl GS GL k0
                        cases hbd : Ch.bl d with
                        | true =>
                          rw [hbd] at LB1
                          have E : Hid (Ch.bg l (k + 1) = Ch.bg l k + 1) := by rw [Hid, E0.out, hbd]; rfl
                          clear hbd E0
                          generalize Ch.bg l k = g at *
                          go_wp2_with fail
                          refine (LB.out _).mono ?_
                          rintro e w7 ⟨rfl, hw7⟩
                          rw [hw7]
                          go_wp2_with fail
                          refine (LB1.out _).mono ?_
                          rintro e w8 ⟨rfl, hw8⟩
                          rw [hw8]
                          go_wp2_with fail
                          go_roundg (s.size - (k + 1))
                          case measure => omega
                          case rel => exact ⟨k + 1, by omega, by go_num, by rw [E.out]; go_num, rfl⟩
                        | false =>
                          rw [hbd] at LB1
                          have E : Hid (Ch.bg l (k + 1) = Ch.bg l k) := by rw [Hid, E0.out, hbd]; rfl
                          clear hbd E0
                          generalize Ch.bg l k = g at *
                          go_wp2_with fail
                          refine (LB.out _).mono ?_
                          rintro e w7 ⟨rfl, hw7⟩
                          rw [hw7]
                          go_wp2_with fail
                          refine (LB1.out _).mono ?_
                          rintro e w8 ⟨rfl, hw8⟩
                          rw [hw8]
                          go_wp2_with fail
                          go_roundg (s.size - (k + 1))
                          case measure => omega
                          case rel => exact ⟨k + 1, by omega, by go_num, by rw [E.out], rfl⟩
                  · have kli : ¬ (k : Int) < (s.size : Int) := by omega
                    have hkn : k = s.size := by omega
                    have GE : Hid (Ch.bg l k = ys.length) := by rw [Hid, hkn]; exact GALL.out
                    clear hkn
                    have CT := hid (CAT.out wr a5 c5 R6.out)
                    generalize hgk : Ch.bg l k = g at *
                    have HG := hid hgk
                    clear hgk
                    obtain rfl := GE.out
                    go_wp2_with fail
                    refine CT.out.mono ?_
                    rintro e w9 ⟨rfl, hb9⟩
                    have A9 := hid (A6.out.1.below (hb9.mono (by exact Nat.le_refl _)))
                    have CV := A9.out.conv
                    have R9 := hid (R6.out.below hb9 (Nat.le_refl _))
                    have J9 := hid (below_on JB.out hb9)
                    clear hb9 CT A6 R6 JB GE HG
                    generalize Ch.tx (l.filter Ch.nb) = T at *
                    go_wp2_with fail
                    go_loopg [16] ys.length (fun m iv wr => ∃ k : Nat, k + m = ys.length ∧ iv = .int .i64 (k : Int) ∧ Hid (wr = w9))
                    case atStart => exact ⟨0, by omega, rfl, rfl⟩
                    case round =>
                      obtain ⟨k, hk, rfl, J⟩ := hrel
                      have J6 := J.out
                      subst J6
                      by_cases kl : k < ys.length
                      · have kli : (k : Int) < (ys.length : Int) := by omega
                        have kb : (k : Int) ≤ 1048576 := by have := YL.out; omega
                        obtain ⟨b, off, rfl, hc⟩ := R9.out.at k kl
                        obtain ⟨g1, g2⟩ := GOOD.out k kl
                        have XS := XSZ.out k kl
                        generalize ys.getD k ByteArray.empty = x at *
                        obtain ⟨m1, m2, m3⟩ := Ch.toList_ne (s := x) (by intro q; exact g1 (by have := Ch.size_len x; rw [q] at this; exact List.eq_nil_of_length_eq_zero this))
                        have GX := hid g2
                        have XB : Hid (∀ j (h : j < x.size), ((x[j]'h).toNat : Int) = ((x.data.toList.getD j 0).toNat : Int)) := fun j h => by rw [Ch.byte_at x j h]
                        have xsi : (x.size : Int) ≤ 1048576 := by omega
                        clear g1 g2 XS
                        go_wp2_with fail
                        go_loopg [17] x.size (fun m jv wz => ∃ j : Nat, j + m = x.size ∧ jv = .int .i64 (j : Int) ∧ Hid (wz = wr))
                        case atStart => exact ⟨0, by omega, rfl, rfl⟩
                        case round =>
                          obtain ⟨j, hj, rfl, J2⟩ := hrel
                          have J7 := J2.out
                          subst J7
                          by_cases jl : j < x.size
                          · have jli : (j : Int) < (x.size : Int) := by omega
                            have BJ := XB.out j
                            have LB := hid (lblank_any (x.data.toList.getD j 0))
                            rw [GX.out j jl] at LB
                            generalize x.data.toList.getD j 0 = c at *
                            go_wp2_with fail
                            refine (LB.out _).mono ?_
                            rintro e w7 ⟨rfl, hw7⟩
                            rw [hw7]
                            go_wp2_with fail
                            go_roundg (x.size - (j + 1))
                            case measure => omega
                            case rel => exact ⟨j + 1, by omega, by go_num, rfl⟩
                          · have jli : ¬ (j : Int) < (x.size : Int) := by omega
                            go_wp2_with fail
                            go_roundg (ys.length - (k + 1))
                            case measure => omega
                            case rel => exact ⟨k + 1, by omega, by go_num, rfl⟩
                      · have kli : ¬ (k : Int) < (ys.length : Int) := by omega
                        go_wp2_with fail
                        go_ret
                        exact ⟨rfl, J9.out⟩
      · obtain ⟨m1, m2, m3⟩ := Ch.toList_ne h0
        have FR := hid (fun i hi => XFR2.out i hi h0)
        clear XON XFR2 h0
        go_wp2_with fail
        go_loopg [8] xs.length (fun m iv wr => ∃ k : Nat, k + m = xs.length ∧ iv = .int .i64 (k : Int) ∧ Hid (wr = w4))
        case atStart => exact ⟨0, by omega, rfl, rfl⟩
        case round =>
          obtain ⟨k, hk, rfl, J⟩ := hrel
          have J6 := J.out
          subst J6
          by_cases kl : k < xs.length
          · have kli : (k : Int) < (xs.length : Int) := by omega
            have kb : (k : Int) ≤ 1048577 := by have := XLN.out; omega
            obtain ⟨b, off, rfl, hc⟩ := R4.out.at k kl
            have I1 := hid (IX.out (xs.getD k ByteArray.empty) wr (MW.out _ B4.out) (XSP2.out k kl) (FR.out k kl))
            generalize xs.getD k ByteArray.empty = x at *
            go_wp2_with fail
            refine I1.out.mono ?_
            rintro e w5 ⟨rfl, hw5⟩
            rw [hw5]
            go_wp2_with fail
            go_roundg (xs.length - (k + 1))
            case measure => omega
            case rel => exact ⟨k + 1, by omega, by go_num, rfl⟩
          · have kli : ¬ (k : Int) < (xs.length : Int) := by omega
            have B := B4
            clear B4 FR
            go_wp2_with fail
            clear kli kl hk
            clear J
            generalize xs.length = n3 at *
            refine (SPB.out wr (MW.out _ B.out)).mono ?_
            rintro e w5 ⟨⟨v5, rfl, ht⟩, hb⟩
            rw [SPE.out] at ht
            obtain ⟨a5, c5, rfl, -, hr5⟩ := ht.read
            have R5 := hid hr5
            have B5 := hid (below_on B.out hb)
            clear ht hb hr5 B
            have B50 := hid (Below.refl w5.heap.size w5)
            have N50 := hid (B8.nil w5.heap.size w5)
            generalize hY : Ch.wd s = ys at *
            have HY := hid hY
            clear hY
            go_wp2_with fail
            go_loopg [10, 11] s.size (fun m av iv wr => ∃ k : Nat, k + m = s.size ∧ iv = .int .i64 (k : Int) ∧ Hid (B8 w5.heap.size wr av ((l.take k).filter Ch.nb) ∧ Below w5.heap.size w5 wr))
            case atStart => exact ⟨0, by omega, rfl, N50.out, B50.out⟩
            case round =>
              obtain ⟨k, hk, rfl, J⟩ := hrel
              by_cases kl : k < s.size
              · have kli : (k : Int) < (s.size : Int) := by omega
                have BJ := BA.out k
                have LB := hid (lblank_any (l.getD k 0))
                have FT := FTK.out k kl
                generalize l.getD k 0 = c at *
                cases hbl : Ch.bl c with
                | true =>
                  rw [hbl] at LB
                  have F : Hid (B8 w5.heap.size wr u10 ((l.take (k + 1)).filter Ch.nb) ∧ Below w5.heap.size w5 wr) := by
                    rw [Hid, FT, Ch.nb, hbl]
                    exact (List.append_nil ((l.take k).filter Ch.nb)).symm ▸ J.out
                  clear hbl FT J
                  go_wp2_with fail
                  refine (LB.out _).mono ?_
                  rintro e w6 ⟨rfl, hw6⟩
                  rw [hw6]
                  go_wp2_with fail
                  go_roundg (s.size - (k + 1))
                  case measure => omega
                  case rel => exact ⟨k + 1, by omega, by go_num, F⟩
                | false =>
                  rw [hbl] at LB
                  obtain ⟨mv', w', ap, h1, h2, h3⟩ := J.out.1.push c (by have := FLE.out k; omega) J.out.2.size
                  have AP := hid ap
                  have F : Hid (B8 w5.heap.size w' mv' ((l.take (k + 1)).filter Ch.nb) ∧ Below w5.heap.size w5 w') := by
                    rw [Hid, FT, Ch.nb, hbl]
                    exact ⟨h1, J.out.2.trans h3⟩
                  clear hbl FT J ap h1 h2 h3
                  go_wp2_with fail
                  refine (LB.out _).mono ?_
                  rintro e w6 ⟨rfl, hw6⟩
                  rw [hw6]
                  go_wp2_with (at_builtin; refine wpList_append_d rfl _ _ rfl AP.out (by rfl) (by rfl) ?_; clear AP)
                  go_roundg (s.size - (k + 1))
                  case measure => omega
                  case rel => exact ⟨k + 1, by omega, by go_num, F⟩
              · have kli : ¬ (k : Int) < (s.size : Int) := by omega
                have hkn : k = s.size := by omega
                have JA := J.out
                rw [hkn, FALL.out] at JA
                have A6 := hid JA
                have JB := hid (below_on B5.out A6.out.2)
                have R6 := hid (R5.out.below A6.out.2 (Nat.le_refl _))
                clear J JA hkn R5 B5 B50 N50
                go_wp2_with fail
                generalize hwr : wr = w6 at *
                clear hwr
                go_loopg [12, 13] s.size (fun m bv iv wr => ∃ k : Nat, k + m = s.size ∧ iv = .int .i64 (k : Int) ∧ bv = .int .i64 (Ch.bg l k : Int) ∧ Hid (wr = w6))
                case atStart => exact ⟨0, by omega, rfl, rfl, rfl⟩
                case round =>
                  obtain ⟨k, hk, rfl, rfl, J⟩ := hrel
                  have J6 := J.out
                  subst J6
                  by_cases kl : k < s.size
                  · have kli : (k : Int) < (s.size : Int) := by omega
                    have BJ := BA.out k
                    have LB := hid (lblank_any (l.getD k 0))
                    have GS := GST.out k
                    have GL := GLE.out k
                    generalize l.getD k 0 = c at *
                    have GLi : (Ch.bg l k : Int) ≤ 1048576 := by omega
                    have hki : (k : Int) ≤ 1048576 := by omega
                    cases hbl : Ch.bl c with
                    | true =>
                      rw [hbl] at LB
                      have E : Hid (Ch.bg l (k + 1) = Ch.bg l k) := by rw [Hid, GS, Ch.nb, hbl]; rfl
                      clear hbl GS GL
                      generalize Ch.bg l k = g at *
                      go_wp2_with fail
                      refine (LB.out _).mono ?_
                      rintro e w7 ⟨rfl, hw7⟩
                      rw [hw7]
                      go_wp2_with fail
                      go_roundg (s.size - (k + 1))
                      case measure => omega
                      case rel => exact ⟨k + 1, by omega, by go_num, by rw [E.out], rfl⟩
                    | false =>
                      rw [hbl] at LB
                      by_cases k0 : k = 0
                      · have E : Hid (Ch.bg l (k + 1) = Ch.bg l k + 1) := by rw [Hid, GS, Ch.nb, hbl, k0]; rfl
                        have k0b : ((k : Int) == 0) = true := by simpa using k0
                        clear hbl GS GL k0
                        generalize Ch.bg l k = g at *
                        go_wp2_with fail
                        refine (LB.out _).mono ?_
                        rintro e w7 ⟨rfl, hw7⟩
                        rw [hw7]
                        go_wp2_with fail
                        go_roundg (s.size - (k + 1))
                        case measure => omega
                        case rel => exact ⟨k + 1, by omega, by go_num, by rw [E.out]; go_num, rfl⟩
                      · have k0b : ((k : Int) == 0) = false := by rw [beq_eq_false_iff_ne]; omega
                        have BJ1 := BA.out (k - 1)
                        have LB1 := hid (lblank_any (l.getD (k - 1) 0))
                        have k1a : (0 : Int) ≤ (k : Int) - 1 := by omega
                        have k1b : (k : Int) - 1 < (s.size : Int) := by omega
                        have k1t : ((k : Int) - 1).toNat = k - 1 := by omega
                        have E0 : Hid (Ch.bg l (k + 1) = Ch.bg l k + (if Ch.bl (l.getD (k - 1) 0) = true then 1 else 0)) := by
                          rw [Hid, GS, Ch.nb, hbl, decide_eq_false k0]
                          cases Ch.bl (l.getD (k - 1) 0) <;> rfl
                        generalize l.getD (k - 1) 0 = d at *
                        clear hbl GS GL k0
                        cases hbd : Ch.bl d with
                        | true =>
                          rw [hbd] at LB1
                          have E : Hid (Ch.bg l (k + 1) = Ch.bg l k + 1) := by rw [Hid, E0.out, hbd]; rfl
                          clear hbd E0
                          generalize Ch.bg l k = g at *
                          go_wp2_with fail
                          refine (LB.out _).mono ?_
                          rintro e w7 ⟨rfl, hw7⟩
                          rw [hw7]
                          go_wp2_with fail
                          refine (LB1.out _).mono ?_
                          rintro e w8 ⟨rfl, hw8⟩
                          rw [hw8]
                          go_wp2_with fail
                          go_roundg (s.size - (k + 1))
                          case measure => omega
                          case rel => exact ⟨k + 1, by omega, by go_num, by rw [E.out]; go_num, rfl⟩
                        | false =>
                          rw [hbd] at LB1
                          have E : Hid (Ch.bg l (k + 1) = Ch.bg l k) := by rw [Hid, E0.out, hbd]; rfl
                          clear hbd E0
                          generalize Ch.bg l k = g at *
                          go_wp2_with fail
                          refine (LB.out _).mono ?_
                          rintro e w7 ⟨rfl, hw7⟩
                          rw [hw7]
                          go_wp2_with fail
                          refine (LB1.out _).mono ?_
                          rintro e w8 ⟨rfl, hw8⟩
                          rw [hw8]
                          go_wp2_with fail
                          go_roundg (s.size - (k + 1))
                          case measure => omega
                          case rel => exact ⟨k + 1, by omega, by go_num, by rw [E.out], rfl⟩
                  · have kli : ¬ (k : Int) < (s.size : Int) := by omega
                    have hkn : k = s.size := by omega
                    have GE : Hid (Ch.bg l k = ys.length) := by rw [Hid, hkn]; exact GALL.out
                    clear hkn
                    have CT := hid (CAT.out wr a5 c5 R6.out)
                    generalize hgk : Ch.bg l k = g at *
                    have HG := hid hgk
                    clear hgk
                    obtain rfl := GE.out
                    go_wp2_with fail
                    refine CT.out.mono ?_
                    rintro e w9 ⟨rfl, hb9⟩
                    have A9 := hid (A6.out.1.below (hb9.mono (by exact Nat.le_refl _)))
                    have CV := A9.out.conv
                    have R9 := hid (R6.out.below hb9 (Nat.le_refl _))
                    have J9 := hid (below_on JB.out hb9)
                    clear hb9 CT A6 R6 JB GE HG
                    generalize Ch.tx (l.filter Ch.nb) = T at *
                    go_wp2_with fail
                    go_loopg [16] ys.length (fun m iv wr => ∃ k : Nat, k + m = ys.length ∧ iv = .int .i64 (k : Int) ∧ Hid (wr = w9))
                    case atStart => exact ⟨0, by omega, rfl, rfl⟩
                    case round =>
                      obtain ⟨k, hk, rfl, J⟩ := hrel
                      have J6 := J.out
                      subst J6
                      by_cases kl : k < ys.length
                      · have kli : (k : Int) < (ys.length : Int) := by omega
                        have kb : (k : Int) ≤ 1048576 := by have := YL.out; omega
                        obtain ⟨b, off, rfl, hc⟩ := R9.out.at k kl
                        obtain ⟨g1, g2⟩ := GOOD.out k kl
                        have XS := XSZ.out k kl
                        generalize ys.getD k ByteArray.empty = x at *
                        obtain ⟨m1, m2, m3⟩ := Ch.toList_ne (s := x) (by intro q; exact g1 (by have := Ch.size_len x; rw [q] at this; exact List.eq_nil_of_length_eq_zero this))
                        have GX := hid g2
                        have XB : Hid (∀ j (h : j < x.size), ((x[j]'h).toNat : Int) = ((x.data.toList.getD j 0).toNat : Int)) := fun j h => by rw [Ch.byte_at x j h]
                        have xsi : (x.size : Int) ≤ 1048576 := by omega
                        clear g1 g2 XS
                        go_wp2_with fail
                        go_loopg [17] x.size (fun m jv wz => ∃ j : Nat, j + m = x.size ∧ jv = .int .i64 (j : Int) ∧ Hid (wz = wr))
                        case atStart => exact ⟨0, by omega, rfl, rfl⟩
                        case round =>
                          obtain ⟨j, hj, rfl, J2⟩ := hrel
                          have J7 := J2.out
                          subst J7
                          by_cases jl : j < x.size
                          · have jli : (j : Int) < (x.size : Int) := by omega
                            have BJ := XB.out j
                            have LB := hid (lblank_any (x.data.toList.getD j 0))
                            rw [GX.out j jl] at LB
                            generalize x.data.toList.getD j 0 = c at *
                            go_wp2_with fail
                            refine (LB.out _).mono ?_
                            rintro e w7 ⟨rfl, hw7⟩
                            rw [hw7]
                            go_wp2_with fail
                            go_roundg (x.size - (j + 1))
                            case measure => omega
                            case rel => exact ⟨j + 1, by omega, by go_num, rfl⟩
                          · have jli : ¬ (j : Int) < (x.size : Int) := by omega
                            go_wp2_with fail
                            go_roundg (ys.length - (k + 1))
                            case measure => omega
                            case rel => exact ⟨k + 1, by omega, by go_num, rfl⟩
                      · have kli : ¬ (k : Int) < (ys.length : Int) := by omega
                        go_wp2_with fail
                        go_ret
                        exact ⟨rfl, J9.out⟩
end Go.Proofs.YtpdliogfeaafgaaDoor
