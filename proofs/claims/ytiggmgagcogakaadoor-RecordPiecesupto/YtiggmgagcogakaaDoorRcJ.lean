/-
  record: fields at blanks are the words (mathematics); law21's joined, sameTexts.
-/
import Derived.Test.YtiggmgagcogakaaDoorRcH
import Derived.Test.YtiggmgagcogakaaDoorChRow
import Derived.Deep.LoopGhost
import Derived.BigQuiet
namespace Go.Proofs.YtiggmgagcogakaaDoor
open Go Go.RowKit Go.Deep Go.Shelf

theorem Rc.wp_texts {l : Ch.L8} {p : Nat} {ps : List (Nat × Nat)} (h : Rc.WP l p ps) : ps.map (fun x => (l.drop x.1).take (x.2 - x.1)) = Ch.wl (l.drop p) := by
  induction h with
  | done p hp => rw [List.drop_eq_nil_of_le hp, Ch.wl_nil]; rfl
  | skip p r hp hb _ ih =>
    have e : l.drop p = [] ++ l[p] :: l.drop (p + 1) := by rw [List.nil_append, List.drop_eq_getElem_cons hp]
    have g : l.getD p 0 = l[p] := by simp [List.getD, List.getElem?_eq_getElem hp]
    rw [g] at hb
    rw [ih, e, Ch.wl_app [] _ _ (by intro c hc; cases hc) hb]
    simp
  | word p q r h1 h2 hin hend _ ih =>
    have ht : ∀ c ∈ (l.drop p).take (q - p), Ch.nb c = true := by
      intro c hc
      obtain ⟨i, hi, rfl⟩ := List.mem_iff_getElem.1 hc
      have hi2 := hi
      rw [List.length_take, List.length_drop] at hi2
      have := hin (p + i) (by omega) (by omega)
      rw [List.getElem_take, List.getElem_drop]
      simpa [Ch.nb, List.getD, List.getElem?_eq_getElem (show p + i < l.length by omega)] using this
    have hn : (l.drop p).take (q - p) ≠ [] := by
      intro e
      have := congrArg List.length e
      rw [List.length_take, List.length_drop] at this
      simp at this
      omega
    rw [List.map_cons, ih]
    by_cases hq : q < l.length
    · have e : l.drop p = (l.drop p).take (q - p) ++ l[q] :: l.drop (q + 1) := by
        conv => lhs; rw [← List.take_append_drop (q - p) (l.drop p)]
        rw [List.drop_drop, show p + (q - p) = q by omega, List.drop_eq_getElem_cons hq]
      have g : l.getD q 0 = l[q] := by simp [List.getD, List.getElem?_eq_getElem hq]
      have hb := hend hq
      rw [g] at hb
      conv => rhs; rw [e]
      rw [Ch.wl_app _ _ _ ht hb, if_neg hn]
      rfl
    · have e : (l.drop p).take (q - p) = l.drop p := List.take_of_length_le (by rw [List.length_drop]; omega)
      have e2 : l.drop (q + 1) = [] := List.drop_eq_nil_of_le (by omega)
      rw [e2, Ch.wl_nil]
      show [(l.drop p).take (q - p)] = _
      rw [e] at ht hn ⊢
      rw [Ch.wl_all _ ht hn]
theorem Rc.pl_len {s : ByteArray} {ps : List (Nat × Nat)} (h : Rc.Pl s ⟨#[32]⟩ ps) : ps.length = (Ch.wd s).length := by
  unfold Rc.Pl at h
  rw [if_pos rfl] at h
  have e := Rc.wp_texts h
  rw [List.drop_zero] at e
  rw [Ch.wd, List.length_map, ← e, List.length_map]
theorem Rc.fl_words {s : ByteArray} {ps : List (Nat × Nat)} (h : Rc.Pl s ⟨#[32]⟩ ps) (hl : ps.length ≤ 32767) : Rc.fl s ⟨#[32]⟩ ps = Ch.wd s := by
  unfold Rc.Pl at h
  rw [if_pos rfl] at h
  have e := Rc.wp_texts h
  rw [List.drop_zero] at e
  rw [Ch.wd, ← e, List.map_map]
  have n : Rc.nf ps = ps.length := by unfold Rc.nf; omega
  refine List.ext_getElem (by simp [Rc.fl, n]) fun i h1 h2 => ?_
  have hi : i < ps.length := by simpa using h2
  simp only [Rc.fl, List.getElem_map, List.getElem_range, Function.comp]
  unfold Rc.tk
  rw [if_neg (by omega), Ch.tx_ext]
  unfold Rc.fr Rc.up
  simp [List.getD, List.getElem?_eq_getElem hi]
theorem Rc.fl_many {s fs : ByteArray} {ps : List (Nat × Nat)} (hl : 32768 ≤ ps.length) : (Rc.fl s fs ps).length = 32768 := by rw [Rc.fl_len]; unfold Rc.nf; omega
namespace Ch
theorem wl_cons {b : UInt8} (r : L8) (hb : bl b = true) : wl (b :: r) = wl r := by
  have := wl_app [] b r (by intro c hc; cases hc) hb
  simpa using this
theorem wl_snoc (l : L8) {b : UInt8} (hb : bl b = true) : wl (l ++ [b]) = wl l := by
  refine run_ind (P := fun l => wl (l ++ [b]) = wl l) ?_ ?_ ?_ l.length l (Nat.le_refl _)
  · rw [List.nil_append, wl_cons [] hb]
  · intro t ht hn
    rw [wl_app t b [] ht hb, wl_all t ht hn, wl_nil, if_neg hn]
    rfl
  · intro t c r ht hc ih
    rw [List.append_assoc, List.cons_append, wl_app t c _ ht hc, wl_app t c _ ht hc, ih]
theorem wl_around (l : L8) : wl ([32, 9, 13] ++ l ++ [11, 12, 10, 32]) = wl l := by
  have e : [32, 9, 13] ++ l ++ [11, 12, 10, 32] = 32 :: 9 :: 13 :: (l ++ [11] ++ [12] ++ [10] ++ [32]) := by simp
  rw [e, wl_cons _ (by decide), wl_cons _ (by decide), wl_cons _ (by decide), wl_snoc _ (by decide), wl_snoc _ (by decide), wl_snoc _ (by decide), wl_snoc _ (by decide)]
end Ch
/-- record.Fields at blanks. -/
theorem rfields_words (s : ByteArray) (hs : s.size ≤ 140737488355328) (w : World) (hm : ML w) :
    Calls Tryd.prog 5 #[.string s, .string ⟨#[32]⟩] w fun e w' => (∃ v xs, e = .returned v ∧ TO w.heap.size w' v xs ∧ ((Ch.wd s).length ≤ 32767 → xs = Ch.wd s) ∧ (32768 ≤ (Ch.wd s).length → xs.length = 32768)) ∧ Below w.heap.size w w' := by
  obtain ⟨ps, hp⟩ := Rc.pl_ex s ⟨#[32]⟩
  refine (rfields_any s ⟨#[32]⟩ ps hp hs (fun h => absurd rfl h) (by decide) w hm).mono ?_
  rintro e w' ⟨⟨v, rfl, ht⟩, hb⟩
  have n := Rc.pl_len hp
  exact ⟨⟨v, _, rfl, ht, fun h => Rc.fl_words hp (by omega), fun h => Rc.fl_many (by omega)⟩, hb⟩

theorem B8.lit (w : World) : B8 w.heap.size (w.alloc (.cells #[] 5)) (.slice (some ⟨w.heap.size, 0, none⟩) 0 0) [] :=
  World.ownsRow_lit (base := w.heap.size) (e := 5) (size := 1) w #[] 0 (Nat.le_refl _) (by simp only [maxLen]; omega) rfl

set_option maxRecDepth 100000 in
set_option maxHeartbeats 2000000 in
theorem ljoined_any (a : Option Addr) (cap : Nat) (xs : List ByteArray) (sep : ByteArray) (w : World) (h : TR w a xs) (hn : xs.length ≤ 8796093022208) (hl : (Ch.jn sep.data.toList xs).length ≤ 140737488351232) :
    Calls Tryd.prog 7 #[.slice a xs.length cap, .string sep] w fun e w' => e = .returned (.string (Ch.tx (Ch.jn sep.data.toList xs))) ∧ Below w.heap.size w w' := by
  have H := hid h
  have HN := hid hn
  have LE : Hid (∀ k, k ≤ xs.length → (Ch.jt sep.data.toList xs k).length ≤ 140737488351232) := fun k hk => Nat.le_trans (Ch.jt_len_mono _ _ hk) hl
  have JS : Hid (∀ k, Ch.jt sep.data.toList xs (k + 1) = Ch.jt sep.data.toList xs k ++ ((if k = 0 then [] else sep.data.toList) ++ (xs.getD k ByteArray.empty).data.toList)) := fun k => rfl
  have SL : Hid (sep.data.toList.length = sep.size) := Ch.size_len sep
  have F : Hid (Ch.jt sep.data.toList xs xs.length = Ch.jn sep.data.toList xs) := rfl
  have A1 := alloc_b w (.cells #[] 5)
  have S0 : Hid (B8 w.heap.size (w.alloc (.cells #[] 5)) (.slice (some ⟨w.heap.size, 0, none⟩) 0 0) (Ch.jt sep.data.toList xs 0) ∧ Below w.heap.size w (w.alloc (.cells #[] 5))) := ⟨B8.lit w, A1⟩
  clear h hn hl A1
  go_enter Tryd.func7, Tryd.ntmps7
  go_wp2_with fail
  go_loopg [5, 6] xs.length (fun m av iv wr => ∃ k : Nat, k + m = xs.length ∧ iv = .int .i64 (k : Int) ∧ Hid (B8 w.heap.size wr av (Ch.jt sep.data.toList xs k) ∧ Below w.heap.size w wr))
  case atStart => exact ⟨0, by omega, rfl, S0.out⟩
  case round =>
    obtain ⟨k, hk, rfl, J⟩ := hrel
    clear S0
    by_cases kl : k < xs.length
    · have kli : (k : Int) < (xs.length : Int) := by omega
      have kb : (k : Int) ≤ 8796093022208 := by have := HN.out; omega
      have L1 := LE.out (k + 1) kl
      rw [JS.out k, List.length_append, List.length_append, Ch.size_len] at L1
      by_cases k0 : k = 0
      · rw [if_pos k0, List.length_nil, Nat.zero_add] at L1
        obtain ⟨mv', w', ap, h1, h2, h3⟩ := J.out.1.cats (xs.getD k ByteArray.empty) (by omega) J.out.2.size
        obtain ⟨b1, o1, rfl, c1⟩ := (H.out.below J.out.2 (Nat.le_refl _)).at k kl
        have AP := hid ap
        have F1 : Hid (B8 w.heap.size w' mv' (Ch.jt sep.data.toList xs (k + 1)) ∧ Below w.heap.size w w') := by
          rw [Hid, JS.out k, if_pos k0, List.nil_append]
          exact ⟨h1, J.out.2.trans h3⟩
        have k1 : ¬ (0 : Int) < (k : Int) := by omega
        clear ap h1 h2 h3 L1 J k0
        generalize xs.getD k ByteArray.empty = x at *
        go_wp2_with (at_builtin; refine wpList_append_d rfl _ _ rfl AP.out (by rfl) (by rfl) ?_; clear AP)
        go_roundg (xs.length - (k + 1))
        case measure => omega
        case rel => exact ⟨k + 1, by omega, by go_num, F1⟩
      · rw [if_neg k0, SL.out] at L1
        obtain ⟨mv1, w1, ap1, g1, g2, g3⟩ := J.out.1.cats sep (by omega) J.out.2.size
        have b1' := J.out.2.trans g3
        obtain ⟨mv', w', ap, h1, h2, h3⟩ := g1.cats (xs.getD k ByteArray.empty) (by rw [List.length_append, SL.out]; omega) b1'.size
        have R1 := H.out.below b1' (Nat.le_refl _)
        obtain ⟨b1, o1, rfl, c1⟩ := R1.at k kl
        have AP1 := hid ap1
        have AP := hid ap
        have F1 : Hid (B8 w.heap.size w' mv' (Ch.jt sep.data.toList xs (k + 1)) ∧ Below w.heap.size w w') := by
          rw [Hid, JS.out k, if_neg k0, ← List.append_assoc]
          exact ⟨h1, b1'.trans h3⟩
        have k1 : (0 : Int) < (k : Int) := by omega
        clear ap ap1 h1 h2 h3 g1 g2 g3 L1 J b1' R1
        generalize xs.getD k ByteArray.empty = x at *
        go_wp2_with (at_builtin; first | (refine wpList_append_d rfl _ _ rfl AP1.out (by rfl) (by rfl) ?_; clear AP1) | (refine wpList_append_d rfl _ _ rfl AP.out (by rfl) (by rfl) ?_; clear AP))
        go_roundg (xs.length - (k + 1))
        case measure => omega
        case rel => exact ⟨k + 1, by omega, by go_num, F1⟩
    · have kli : ¬ (k : Int) < (xs.length : Int) := by omega
      have kn : k = xs.length := by omega
      have CV := J.out.1.conv
      rw [kn, F.out] at CV
      have B := hid J.out.2
      clear J
      obtain ⟨t, hT⟩ : ∃ t, t = Ch.tx (Ch.jn sep.data.toList xs) := ⟨_, rfl⟩
      rw [← hT] at CV
      have HT := hid hT
      clear hT
      go_wp2_with fail
      go_ret
      exact ⟨by rw [← HT.out]; rfl, B.out⟩

set_option maxRecDepth 100000 in
theorem lsame_yes (a b : Option Addr) (ca cb : Nat) (xs : List ByteArray) (w : World) (ha : TR w a xs) (hb : TR w b xs) (hn : xs.length ≤ 8796093022208) :
    Calls Tryd.prog 8 #[.slice a xs.length ca, .slice b xs.length cb] w fun e w' => e = .returned (.bool true) ∧ Below w.heap.size w w' := by
  have HA := hid ha
  have HB := hid hb
  have HN := hid hn
  have B0 := hid (Below.refl w.heap.size w)
  clear ha hb hn
  go_enter Tryd.func8, Tryd.ntmps8
  go_wp2_with fail
  go_loopg [5] xs.length (fun m iv wr => ∃ k : Nat, k + m = xs.length ∧ iv = .int .i64 (k : Int) ∧ Hid (Below w.heap.size w wr))
  case atStart => exact ⟨0, by omega, rfl, B0.out⟩
  case round =>
    obtain ⟨k, hk, rfl, J⟩ := hrel
    by_cases kl : k < xs.length
    · have kli : (k : Int) < (xs.length : Int) := by omega
      have kb : (k : Int) ≤ 8796093022208 := by have := HN.out; omega
      obtain ⟨b1, o1, rfl, c1⟩ := (HA.out.below J.out (Nat.le_refl _)).at k kl
      obtain ⟨b2, o2, rfl, c2⟩ := (HB.out.below J.out (Nat.le_refl _)).at k kl
      generalize xs.getD k ByteArray.empty = x at *
      have J2 := hid (below_drewN J.out)
      clear B0
      go_upto_region 6 with fail
      go_quiet (fail)
      go_wp2_with fail
      go_roundg (xs.length - (k + 1))
      case measure => omega
      case rel => exact ⟨k + 1, by omega, by go_num, J2.out _⟩
    · have kli : ¬ (k : Int) < (xs.length : Int) := by omega
      go_wp2_with fail
      go_ret
      exact ⟨rfl, J.out⟩
end Go.Proofs.YtiggmgagcogakaaDoor
