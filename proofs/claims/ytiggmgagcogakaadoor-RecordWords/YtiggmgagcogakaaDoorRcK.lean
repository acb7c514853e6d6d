/-
  law21: RecordWords.
-/
import Derived.Test.YtiggmgagcogakaaDoorRcJ
import Derived.Deep.RegionHeld3
import Derived.Deep.DeepCutAuto
namespace Go.Proofs.YtiggmgagcogakaaDoor
open Go Go.RowKit Go.Deep Go.Shelf

namespace Ch
theorem getD_mem1 {xs : List ByteArray} {i : Nat} (h : i < xs.length) : xs.getD i ByteArray.empty ∈ xs := by
  simp [List.getD, List.getElem?_eq_getElem h]
theorem byte_mem1 {s : ByteArray} {j : Nat} (h : j < s.size) : s.data.toList.getD j 0 ∈ s.data.toList := by
  have h' : j < s.data.toList.length := by rw [size_len]; exact h
  simp [List.getD, List.getElem?_eq_getElem h']
theorem jn_size1 (sep : L8) (xs : List ByteArray) (i : Nat) : (xs.getD i ByteArray.empty).size ≤ (jn sep xs).length := by
  by_cases h : i < xs.length
  · have h1 := jt_len_mono sep xs (show i + 1 ≤ xs.length by omega)
    rw [jt, List.length_append, List.length_append, size_len] at h1
    rw [jn]
    omega
  · rw [show xs.getD i ByteArray.empty = ByteArray.empty by simp [List.getD, List.getElem?_eq_none (show xs.length ≤ i by omega)]]
    exact Nat.zero_le _
theorem closedWords : wd ⟨#[32, 32, 97, 32, 98, 9, 10, 99, 32]⟩ = [⟨#[97]⟩, ⟨#[98]⟩, ⟨#[99]⟩] := by
  have e : wl [32, 32, 97, 32, 98, 9, 10, 99, 32] = [[97], [98], [99]] := by
    rw [wl_cons _ (by decide), wl_cons _ (by decide), show ([97, 32, 98, 9, 10, 99, 32] : L8) = [97] ++ 32 :: [98, 9, 10, 99, 32] from rfl, wl_app _ _ _ (by decide) (by decide),
      show ([98, 9, 10, 99, 32] : L8) = [98] ++ 9 :: [10, 99, 32] from rfl, wl_app _ _ _ (by decide) (by decide), wl_cons _ (by decide),
      show ([99, 32] : L8) = [99] ++ 32 :: [] from rfl, wl_app _ _ _ (by decide) (by decide), wl_nil]
    rfl
  show (wl [32, 32, 97, 32, 98, 9, 10, 99, 32]).map tx = _
  rw [e]
  rfl
def around (s : ByteArray) : ByteArray := ⟨#[32, 9, 13]⟩ ++ s ++ ⟨#[11, 12, 10, 32]⟩
theorem wd_around (s : ByteArray) : wd (around s) = wd s := by
  unfold wd around
  have e : (⟨#[32, 9, 13]⟩ ++ s ++ ⟨#[11, 12, 10, 32]⟩ : ByteArray).data.toList = [32, 9, 13] ++ s.data.toList ++ [11, 12, 10, 32] := by simp
  rw [e, wl_around]
theorem around_size (s : ByteArray) : (around s).size = s.size + 7 := by 
  unfold around
  rw [ByteArray.size_append, ByteArray.size_append]
  show 3 + s.size + 4 = s.size + 7
  omega
end Ch

set_option maxRecDepth 100000 in
set_option maxHeartbeats 8000000 in
theorem rwords_law (s : ByteArray) (w : World) (hm : ML w) (hs : s.size ≤ 140737488351232) :
    Calls Tryd.prog 3 #[.string s] w fun e w' => e = .returned (.bool true) ∧ Below w.heap.size w w' := by
  have hL := Ch.size_len s
  have F0 : Hid (Calls Tryd.prog 5 #[.string ⟨#[32, 32, 97, 32, 98, 9, 10, 99, 32]⟩, .string ⟨#[32]⟩] w fun e w' => (∃ a c, e = .returned (.slice a 3 c) ∧ TR w' a [⟨#[97]⟩, ⟨#[98]⟩, ⟨#[99]⟩]) ∧ Below w.heap.size w w') := by
    refine (rfields_words ⟨#[32, 32, 97, 32, 98, 9, 10, 99, 32]⟩ (by decide) w hm).mono ?_
    rintro e w' ⟨⟨v, xs, rfl, ht, h1, -⟩, b⟩
    rw [Ch.closedWords] at h1
    obtain rfl := h1 (by decide)
    obtain ⟨a, c, rfl, _, hr⟩ := ht.read
    exact ⟨⟨a, c, rfl, hr⟩, b⟩
  have MW : Hid (∀ w', Below w.heap.size w w' → ML w') := fun w' b => hm.b b
  have BA : Hid (∀ j (h : j < s.size), ((s[j]'h).toNat : Int) = ((s.data.toList.getD j 0).toNat : Int)) := fun j h => by rw [Ch.byte_at s j h]
  have hsi : (s.size : Int) ≤ 140737488351232 := by omega
  by_cases few : (Ch.wd s).length ≤ 32767
  · have F1 : Hid (∀ wx, ML wx → Calls Tryd.prog 5 #[.string s, .string ⟨#[32]⟩] wx fun e w' => (∃ a c, e = .returned (.slice a (Ch.wd s).length c) ∧ TR w' a (Ch.wd s)) ∧ Below wx.heap.size wx w') := fun wx hx => by
      refine (rfields_words s (by omega) wx hx).mono ?_
      rintro e w' ⟨⟨v, xs, rfl, ht, h1, -⟩, b⟩
      obtain rfl := h1 few
      obtain ⟨a, c, rfl, _, hr⟩ := ht.read
      exact ⟨⟨a, c, rfl, hr⟩, b⟩
    have F2 : Hid (∀ wx, ML wx → Calls Tryd.prog 5 #[.string (Ch.around s), .string ⟨#[32]⟩] wx fun e w' => (∃ a c, e = .returned (.slice a (Ch.wd s).length c) ∧ TR w' a (Ch.wd s)) ∧ Below wx.heap.size wx w') := fun wx hx => by
      refine (rfields_words (Ch.around s) (by rw [Ch.around_size]; omega) wx hx).mono ?_
      rintro e w' ⟨⟨v, xs, rfl, ht, h1, -⟩, b⟩
      rw [Ch.wd_around] at h1
      obtain rfl := h1 few
      obtain ⟨a, c, rfl, _, hr⟩ := ht.read
      exact ⟨⟨a, c, rfl, hr⟩, b⟩
    have FL : (s.data.toList.filter Ch.nb).length ≤ 140737488351232 := by have := List.length_filter_le Ch.nb s.data.toList; omega
    have XSZ : Hid (∀ i, i < (Ch.wd s).length → ((Ch.wd s).getD i ByteArray.empty).size ≤ 140737488351232) := fun i hi => by
      have h1 := Ch.jn_size1 [] (Ch.wd s) i
      rw [Ch.wd_join s] at h1
      omega
    have JN : Hid (∀ (wx : World) (a : Option Addr) (ca : Nat), TR wx a (Ch.wd s) → Calls Tryd.prog 7 #[.slice a (Ch.wd s).length ca, .string ⟨#[]⟩] wx fun e w' => e = .returned (.string (Ch.tx (s.data.toList.filter Ch.nb))) ∧ Below wx.heap.size wx w') := fun wx a ca ht => by
      have q := ljoined_any a ca (Ch.wd s) ⟨#[]⟩ wx ht (by omega) (by show (Ch.jn [] (Ch.wd s)).length ≤ _; rw [Ch.wd_join s]; exact FL)
      rw [show (⟨#[]⟩ : ByteArray).data.toList = [] from rfl, Ch.wd_join s] at q
      exact q
    have SM : Hid (∀ (wx : World) (a b : Option Addr) (ca cb : Nat), TR wx a (Ch.wd s) → TR wx b (Ch.wd s) → Calls Tryd.prog 8 #[.slice a (Ch.wd s).length ca, .slice b (Ch.wd s).length cb] wx fun e w' => e = .returned (.bool true) ∧ Below wx.heap.size wx w') := fun wx a b ca cb h1 h2 => lsame_yes a b ca cb _ wx h1 h2 (by omega)
    have GOOD : Hid (∀ i, i < (Ch.wd s).length → ((Ch.wd s).getD i ByteArray.empty).data.toList ≠ [] ∧ ∀ j, j < ((Ch.wd s).getD i ByteArray.empty).size → Ch.bl (((Ch.wd s).getD i ByteArray.empty).data.toList.getD j 0) = false) := fun i hi => by
      obtain ⟨q1, q2⟩ := Ch.wd_good s _ (Ch.getD_mem1 hi)
      exact ⟨q1, fun j hj => q2 _ (Ch.byte_mem1 hj)⟩
    have FTK : Hid (∀ k, k < s.size → (s.data.toList.take (k + 1)).filter Ch.nb = (s.data.toList.take k).filter Ch.nb ++ (if Ch.nb (s.data.toList.getD k 0) = true then [s.data.toList.getD k 0] else [])) := fun k hk => by
      have hk' : k < s.data.toList.length := by rw [hL]; exact hk
      have e : s.data.toList.getD k 0 = s.data.toList[k] := by simp [List.getD, List.getElem?_eq_getElem hk']
      rw [e, ← List.take_append_getElem hk', List.filter_append, List.filter_cons, List.filter_nil]
    have FLE : Hid (∀ k, k < s.size → ((s.data.toList.take k).filter Ch.nb).length < 140737488351232) := fun k hk => by
      have h1 := List.length_filter_le Ch.nb (s.data.toList.take k)
      have h3 : (s.data.toList.take k).length ≤ k := by rw [List.length_take]; omega
      omega
    have FALL : Hid ((s.data.toList.take s.size).filter Ch.nb = s.data.toList.filter Ch.nb) := by rw [Hid, List.take_of_length_le (by omega)]
    have GST : Hid (∀ k, Ch.bg s.data.toList (k + 1) = Ch.bg s.data.toList k + (if (Ch.nb (s.data.toList.getD k 0) && (decide (k = 0) || Ch.bl (s.data.toList.getD (k - 1) 0))) = true then 1 else 0)) := fun k => rfl
    have GLE := hid (Ch.bg_le s.data.toList)
    have GALL : Hid (Ch.bg s.data.toList s.size = (Ch.wd s).length) := (Ch.wd_len s).symm
    have G0 : Hid (Ch.bg s.data.toList 0 = 0) := rfl
    have AR : Hid ((⟨#[32, 9, 13]⟩ : ByteArray) ++ s ++ ⟨#[11, 12, 10, 32]⟩ = Ch.around s) := rfl
    generalize hY : Ch.wd s = ys at *
    clear hY
    have fewi : (ys.length : Int) ≤ 32767 := by omega
    generalize s.data.toList = l at *
    clear hm hs FL hL few
    go_enter Tryd.func3, Tryd.ntmps3
    go_wp2_with fail
    refine F0.out.mono ?_
    rintro e w1 ⟨⟨a1, c1, rfl, hr⟩, hb⟩
    have B1 := hid hb
    obtain ⟨b1, o1, rfl, y0⟩ := hr.at 0 (by decide)
    have x0 : w1.cell? ⟨b1, o1, none⟩ = some (.string ⟨#[97]⟩) := y0
    have x2 : w1.cell? ⟨b1, o1 + 2, none⟩ = some (.string ⟨#[99]⟩) := hr.addr 2 (by decide)
    clear y0
    clear hb hr F0
    go_wp2_with fail
    refine (F1.out w1 (MW.out _ B1.out)).mono ?_
    rintro e w5 ⟨⟨a5, c5, rfl, hr5⟩, hb⟩
    have R5 := hid hr5
    have B5 := hid (below_on B1.out hb)
    clear x0 x2 hb hr5 B1
    have A6 := alloc_b w5 (.cells #[] 5)
    have N50 : Hid (B8 w5.heap.size (w5.alloc (.cells #[] 5)) (.slice (some ⟨w5.heap.size, 0, none⟩) 0 0) ((l.take 0).filter Ch.nb) ∧ Below w5.heap.size w5 (w5.alloc (.cells #[] 5))) := ⟨B8.lit w5, A6⟩
    clear A6
    have fewd : decide ((32768 : Int) ≤ (ys.length : Int)) = false := decide_eq_false (by omega)
    have FEWI := hid fewi
    clear fewi
    go_upto_region 7 with fail
    clear fewd
    have fewi := FEWI.out
    go_wp2_with fail
    go_loopg [4, 5, 6] s.size (fun m av sv iv wr => ∃ k : Nat, k + m = s.size ∧ iv = .int .i64 (k : Int) ∧ sv = .int .i64 (Ch.bg l k : Int) ∧ Hid (B8 w5.heap.size wr av ((l.take k).filter Ch.nb) ∧ Below w5.heap.size w5 wr))
    case atStart => exact ⟨0, by omega, rfl, by rw [G0.out]; rfl, N50.out⟩
    case round =>
      obtain ⟨k, hk, rfl, rfl, J⟩ := hrel
      clear N50
      by_cases kl : k < s.size
      · have kli : (k : Int) < (s.size : Int) := by omega
        have BJ := BA.out k
        have LB := hid (sblank_any (l.getD k 0))
        have FT := FTK.out k kl
        have GS := GST.out k
        have GL := GLE.out k
        generalize l.getD k 0 = c at *
        have GLi : (Ch.bg l k : Int) ≤ (k : Int) := by omega
        have hki : (k : Int) ≤ 140737488351232 := by omega
        cases hbl : Ch.bl c with
        | true =>
          rw [hbl] at LB
          have E : Hid (Ch.bg l (k + 1) = Ch.bg l k) := by rw [Hid, GS, Ch.nb, hbl]; rfl
          have F : Hid (B8 w5.heap.size wr u4 ((l.take (k + 1)).filter Ch.nb) ∧ Below w5.heap.size w5 wr) := by
            rw [Hid, FT, Ch.nb, hbl]
            exact (List.append_nil ((l.take k).filter Ch.nb)).symm ▸ J.out
          clear hbl FT GS GL J
          generalize Ch.bg l k = g at *
          go_wp2_with fail
          refine (LB.out _).mono ?_
          rintro e w6 ⟨rfl, hw6⟩
          rw [hw6]
          go_wp2_with fail
          go_roundg (s.size - (k + 1))
          case measure => omega
          case rel => exact ⟨k + 1, by omega, by go_num, by rw [E.out], F⟩
        | false =>
          rw [hbl] at LB
          obtain ⟨mv', w', ap, h1, h2, h3⟩ := J.out.1.push c (FLE.out k kl) J.out.2.size
          have AP := hid ap
          have F : Hid (B8 w5.heap.size w' mv' ((l.take (k + 1)).filter Ch.nb) ∧ Below w5.heap.size w5 w') := by
            rw [Hid, FT, Ch.nb, hbl]
            exact ⟨h1, J.out.2.trans h3⟩
          clear FT J ap h1 h2 h3
          by_cases k0 : k = 0
          · have E : Hid (Ch.bg l (k + 1) = Ch.bg l k + 1) := by rw [Hid, GS, Ch.nb, hbl, k0]; rfl
            have k0b : ((k : Int) == 0) = true := by simpa using k0
            clear hbl GS GL k0
            generalize Ch.bg l k = g at *
            go_wp2_with fail
            refine (LB.out _).mono ?_
            rintro e w7 ⟨rfl, hw7⟩
            rw [hw7]
            go_wp2_with (at_builtin; refine wpList_append_d rfl _ _ rfl AP.out (by rfl) (by rfl) ?_; clear AP)
            go_roundg (s.size - (k + 1))
            case measure => omega
            case rel => exact ⟨k + 1, by omega, by go_num, by rw [E.out]; go_num, F⟩
          · have k0b : ((k : Int) == 0) = false := by rw [beq_eq_false_iff_ne]; omega
            have BJ1 := BA.out (k - 1)
            have LB1 := hid (sblank_any (l.getD (k - 1) 0))
            have k1a : (0 : Int) ≤ (k : Int) - 1 := by omega
            have k1b : (k : Int) - 1 < (s.size : Int) := by omega
            have k1t : ((k : Int) - 1).toNat = k - 1 := by omega
            have E0 : Hid (Ch.bg l (k + 1) = Ch.bg l k + (if Ch.bl (l.getD (k - 1) 0) = true then 1 else 0)) := by
              rw [Hid, GS, Ch.nb, hbl, decide_eq_false k0]
              cases Ch.bl (l.getD (k - 1) 0) <;> rfl
            generalize l.getD (k - 1) 0 = d at *
            clear hbl GS GL k0
            cases hbd : Ch.bl d with
            | true =>
              rw [hbd] at LB1
              have E : Hid (Ch.bg l (k + 1) = Ch.bg l k + 1) := by rw [Hid, E0.out, hbd]; rfl
              clear hbd E0
              generalize Ch.bg l k = g at *
              go_wp2_with fail
              refine (LB.out _).mono ?_
              rintro e w7 ⟨rfl, hw7⟩
              rw [hw7]
              go_wp2_with (at_builtin; refine wpList_append_d rfl _ _ rfl AP.out (by rfl) (by rfl) ?_; clear AP)
              refine (LB1.out _).mono ?_
              rintro e w8 ⟨rfl, hw8⟩
              rw [hw8]
              go_wp2_with fail
              go_roundg (s.size - (k + 1))
              case measure => omega
              case rel => exact ⟨k + 1, by omega, by go_num, by rw [E.out]; go_num, F⟩
            | false =>
              rw [hbd] at LB1
              have E : Hid (Ch.bg l (k + 1) = Ch.bg l k) := by rw [Hid, E0.out, hbd]; rfl
              clear hbd E0
              generalize Ch.bg l k = g at *
              go_wp2_with fail
              refine (LB.out _).mono ?_
              rintro e w7 ⟨rfl, hw7⟩
              rw [hw7]
              go_wp2_with (at_builtin; refine wpList_append_d rfl _ _ rfl AP.out (by rfl) (by rfl) ?_; clear AP)
              refine (LB1.out _).mono ?_
              rintro e w8 ⟨rfl, hw8⟩
              rw [hw8]
              go_wp2_with fail
              go_roundg (s.size - (k + 1))
              case measure => omega
              case rel => exact ⟨k + 1, by omega, by go_num, by rw [E.out], F⟩
      · have kli : ¬ (k : Int) < (s.size : Int) := by omega
        have hkn : k = s.size := by omega
        have JA := J.out
        have GE : Hid (Ch.bg l k = ys.length) := by rw [Hid, hkn]; exact GALL.out
        rw [hkn, FALL.out] at JA
        have A6 := hid JA.1
        have JB := hid (below_on B5.out JA.2)
        have R6 := hid (R5.out.below JA.2 (Nat.le_refl _))
        have DB : Below wr.heap.size wr wr.drew := ⟨rfl, rfl, rfl, Nat.le_refl _, fun _ _ => rfl⟩
        have CT := hid (JN.out wr.drew a5 c5 (R6.out.below DB (Nat.le_refl _)))
        have CV : Hid (∀ wx, Below wr.heap.size wr wx → (convert 24 9 u4).run Tryd.prog wx = .ok (.string (Ch.tx (l.filter Ch.nb))) wx) := fun wx b => (A6.out.below b).conv
        have U0 := hid DB
        have R7 : Hid (∀ wx, Below wr.heap.size wr wx → TR wx a5 ys ∧ Below w.heap.size w wx) := fun wx b => ⟨R6.out.below b (Nat.le_refl _), below_on JB.out b⟩
        clear J JA hkn R5 B5 A6 R6 JB DB
        generalize hgk : Ch.bg l k = g at *
        have HG := hid hgk
        clear hgk
        obtain rfl := GE.out
        clear GE HG
        generalize Ch.tx (l.filter Ch.nb) = T at *
        go_upto_region 16 with fail
        go_cut [72] (fun v wx => v = .bool false ∧ Hid (Below wr.heap.size wr wx))
        case first =>
          go_region_held3 (fun w' => (convert 24 9 u4).run Tryd.prog w' = .ok (.string T) w') (first | (with_reducible exact CV.out _ U1.out) | (with_reducible exact CV.out _ U0.out)) (first
            | (go_at_call 7; (with_reducible refine CT.out.mono ?_); rintro e v1 ⟨rfl, hB⟩; have U1 := hid (below_on U0.out hB); clear hB))
          all_goals
            go_wp2_with fail
            go_meet
            exact ⟨rfl, U1⟩
        case rest =>
        obtain ⟨h72, BC⟩ := hcut
        subst h72
        have R9 := hid (R7.out wc BC.out).1
        have J9 := hid (R7.out wc BC.out).2
        clear CT CV U0 R7 BC
        go_wp2_with fail
        generalize hwr : wc = w9 at *
        clear hwr
        go_loopg [7] ys.length (fun m iv wr => ∃ k : Nat, k + m = ys.length ∧ iv = .int .i64 (k : Int) ∧ Hid (wr = w9))
        case atStart => exact ⟨0, by omega, rfl, rfl⟩
        case round =>
          obtain ⟨k, hk, rfl, J⟩ := hrel
          have J6 := J.out
          subst J6
          by_cases kl : k < ys.length
          · have kli : (k : Int) < (ys.length : Int) := by omega
            have kb : (k : Int) ≤ 32768 := by omega
            obtain ⟨b, off, rfl, hc⟩ := R9.out.at k kl
            obtain ⟨g1, g2⟩ := GOOD.out k kl
            have XS := XSZ.out k kl
            generalize ys.getD k ByteArray.empty = x at *
            obtain ⟨m1, m2, m3⟩ := Ch.toList_ne (s := x) (by intro q; exact g1 (by have := Ch.size_len x; rw [q] at this; exact List.eq_nil_of_length_eq_zero this))
            have GX := hid g2
            have XB : Hid (∀ j (h : j < x.size), ((x[j]'h).toNat : Int) = ((x.data.toList.getD j 0).toNat : Int)) := fun j h => by rw [Ch.byte_at x j h]
            have xsi : (x.size : Int) ≤ 140737488351232 := by omega
            clear g1 g2 XS
            go_wp2_with fail
            go_loopg [8] x.size (fun m jv wz => ∃ j : Nat, j + m = x.size ∧ jv = .int .i64 (j : Int) ∧ Hid (wz = wr))
            case atStart => exact ⟨0, by omega, rfl, rfl⟩
            case round =>
              obtain ⟨j, hj, rfl, J2⟩ := hrel
              have J7 := J2.out
              subst J7
              by_cases jl : j < x.size
              · have jli : (j : Int) < (x.size : Int) := by omega
                have BJ := XB.out j
                have LB := hid (sblank_any (x.data.toList.getD j 0))
                rw [GX.out j jl] at LB
                generalize x.data.toList.getD j 0 = c at *
                go_wp2_with fail
                refine (LB.out _).mono ?_
                rintro e w7 ⟨rfl, hw7⟩
                rw [hw7]
                go_wp2_with fail
                go_roundg (x.size - (j + 1))
                case measure => omega
                case rel => exact ⟨j + 1, by omega, by go_num, rfl⟩
              · have jli : ¬ (j : Int) < (x.size : Int) := by omega
                go_wp2_with fail
                go_roundg (ys.length - (k + 1))
                case measure => omega
                case rel => exact ⟨k + 1, by omega, by go_num, rfl⟩
          · have kli : ¬ (k : Int) < (ys.length : Int) := by omega
            go_wp2_with fail
            refine (F2.out wr (MW.out _ J9.out)).mono ?_
            rintro e w8 ⟨⟨a8, c8, rfl, hr8⟩, hb⟩
            have SS := hid (SM.out w8 a5 a8 c5 c8 (R9.out.below hb (Nat.le_refl _)) hr8)
            have J10 := hid (below_on J9.out hb)
            clear hb hr8 F2 SM R9 J9
            go_wp2_with fail
            refine SS.out.mono ?_
            rintro e w10 ⟨rfl, hb⟩
            have J11 := hid (below_on J10.out hb)
            clear hb SS J10
            go_wp2_with fail
            go_ret
            exact ⟨rfl, J11.out⟩
  · have F1 : Hid (∀ wx, ML wx → Calls Tryd.prog 5 #[.string s, .string ⟨#[32]⟩] wx fun e w' => (∃ a c, e = .returned (.slice a 32768 c)) ∧ Below wx.heap.size wx w') := fun wx hx => by
      refine (rfields_words s (by omega) wx hx).mono ?_
      rintro e w' ⟨⟨v, xs, rfl, ht, -, h1⟩, b⟩
      have h2 := h1 (by omega)
      obtain ⟨a, c, rfl, _, hr⟩ := ht.read
      exact ⟨⟨a, c, by rw [h2]⟩, b⟩
    clear hm hs hL few BA hsi
    go_enter Tryd.func3, Tryd.ntmps3
    go_wp2_with fail
    refine F0.out.mono ?_
    rintro e w1 ⟨⟨a1, c1, rfl, hr⟩, hb⟩
    have B1 := hid hb
    obtain ⟨b1, o1, rfl, y0⟩ := hr.at 0 (by decide)
    have x0 : w1.cell? ⟨b1, o1, none⟩ = some (.string ⟨#[97]⟩) := y0
    have x2 : w1.cell? ⟨b1, o1 + 2, none⟩ = some (.string ⟨#[99]⟩) := hr.addr 2 (by decide)
    clear y0 hb hr F0
    go_wp2_with fail
    refine (F1.out w1 (MW.out _ B1.out)).mono ?_
    rintro e w5 ⟨⟨a5, c5, rfl⟩, hb⟩
    have B5 := hid (below_on B1.out hb)
    clear x0 x2 hb B1
    go_wp2_with fail
    go_ret
    exact ⟨rfl, B5.out⟩
end Go.Proofs.YtiggmgagcogakaaDoor
