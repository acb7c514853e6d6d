/-
  abacusref20: Stands, Join, Cat.
-/
import Derived.Test.YtpdliogfeaafgaaDoorChB
import Derived.Test.YtpdliogfeaafgaaDoorChRow
namespace Go.Proofs.YtpdliogfeaafgaaDoor
open Go Go.RowKit Go.Deep Go.Shelf

theorem stands_occ (s t : ByteArray) (i : Nat) (hi : i + t.size ≤ s.size) : ((s.extract i (i + t.size)).toList == t.toList) = Lib.occAt s.data.toList t.data.toList i := (Lib.occ_of_piece s t i hi).symm
theorem occ_short (s t : ByteArray) (i : Nat) (h1 : 1 ≤ t.size) (hi : ¬ i + t.size ≤ s.size) : Lib.occAt s.data.toList t.data.toList i = false := by
  cases h : Lib.occAt s.data.toList t.data.toList i with
  | false => rfl
  | true =>
    rcases Lib.occAt_room h with q | q
    · rw [Ch.size_len, Ch.size_len] at q; exact absurd q hi
    · exact absurd q (Ch.sep_ne h1)
set_option maxRecDepth 100000 in
theorem rstands_any (s t : ByteArray) (i : Nat) (w : World) (hi : i ≤ s.size) (hs : s.size ≤ 140737488355328) (ht : t.size ≤ 140737488355328) :
    Calls Tryd.prog 22 #[.string s, .int .i64 (i : Int), .string t] w fun e w' => e = .returned (.bool (Lib.occAt s.data.toList t.data.toList i)) ∧ w' = w := by
  have hsi : (s.size : Int) ≤ 140737488355328 := by omega
  have hti : (t.size : Int) ≤ 140737488355328 := by omega
  have hii : (i : Int) ≤ (s.size : Int) := by omega
  by_cases h : i + t.size ≤ s.size
  · have E := stands_occ s t i h
    have hb : (t.size : Int) ≤ (s.size : Int) - (i : Int) := by omega
    have hc : (i : Int) + (t.size : Int) ≤ (s.size : Int) := by omega
    rw [← E]
    clear E hs ht h hi
    go_enter Tryd.func22, Tryd.ntmps22
    go_wp2_with fail
    go_ret
    exact ⟨rfl, rfl⟩
  · have hb : ¬ (t.size : Int) ≤ (s.size : Int) - (i : Int) := by omega
    rw [occ_short s t i (by omega) h]
    clear hs ht h hi
    go_enter Tryd.func22, Tryd.ntmps22
    go_wp2_with fail
    go_ret
    exact ⟨rfl, rfl⟩
set_option maxRecDepth 100000 in
set_option maxHeartbeats 2000000 in
theorem rjoin_any (a : Option Addr) (cap : Nat) (xs : List ByteArray) (sep : ByteArray) (w : World) (h : TR w a xs) (hn : xs.length ≤ 8796093022208) (hx : ∀ i, (xs.getD i ByteArray.empty).size ≤ 140737488355328) (hs : sep.size ≤ 140737488355328) :
    Calls Tryd.prog 19 #[.slice a xs.length cap, .string sep] w (JoTold sep.data.toList xs w) := by
  have H := hid h
  have HN := hid hn
  have HX := hid hx
  have JL : Hid (∀ k, (Ch.jt sep.data.toList xs (k + 1)).length = (Ch.jt sep.data.toList xs k).length + ((if k = 0 then 0 else sep.size) + (xs.getD k ByteArray.empty).size)) := fun k => by
    rw [Ch.jt, List.length_append, List.length_append, Ch.size_len]
    by_cases c : k = 0
    · simp [c]
    · rw [if_neg c, if_neg c, Ch.size_len]
  have JS : Hid (∀ k, Ch.jt sep.data.toList xs (k + 1) = Ch.jt sep.data.toList xs k ++ ((if k = 0 then [] else sep.data.toList) ++ (xs.getD k ByteArray.empty).data.toList)) := fun k => rfl
  have B0 := hid (Below.refl w.heap.size w)
  have F3 : Hid (∀ k, k < xs.length → 16777216 < (Ch.jt sep.data.toList xs (k + 1)).length → JoTold sep.data.toList xs w (.returned (.tuple #[.string ⟨#[]⟩, .int .i64 3])) w) := fun k hk hl => by
    have h1 := Ch.jt_len_mono sep.data.toList xs (show k + 1 ≤ xs.length by omega)
    have h2 : ¬ (Ch.jn sep.data.toList xs).length ≤ 16777216 := by rw [Ch.jn]; omega
    exact ⟨by rw [Ch.jS, Ch.jE, if_neg h2, if_neg h2]; rfl, Below.refl _ _⟩
  have F0 : Hid ((Ch.jt sep.data.toList xs xs.length).length ≤ 16777216 → ∀ w', Below w.heap.size w w' → JoTold sep.data.toList xs w (.returned (.tuple #[.string (Ch.tx (Ch.jt sep.data.toList xs xs.length)), .int .i64 0])) w') := fun hl w' b => by
    have h2 : (Ch.jn sep.data.toList xs).length ≤ 16777216 := hl
    exact ⟨by rw [Ch.jS, Ch.jE, if_pos h2, if_pos h2]; rfl, b⟩
  have LM : Hid (∀ k, k ≤ xs.length → (Ch.jt sep.data.toList xs k).length ≤ (Ch.jt sep.data.toList xs xs.length).length) := fun k hk => Ch.jt_len_mono _ _ hk
  have hsi : (sep.size : Int) ≤ 140737488355328 := by omega
  have N0 := hid (B8.nil w.heap.size w)
  clear h hn hx hs
  generalize hsp : sep.data.toList = sp at *
  have HSP := hid hsp
  clear hsp
  go_enter Tryd.func19, Tryd.ntmps19
  go_wp2_with fail
  go_loopg [6, 7] xs.length (fun m sv iv wr => ∃ k : Nat, k + m = xs.length ∧ iv = .int .i64 (k : Int) ∧ sv = .int .i64 ((Ch.jt sp xs k).length : Int) ∧ (Ch.jt sp xs k).length ≤ 16777216 ∧ Hid (wr = w))
  case atStart => exact ⟨0, by omega, rfl, rfl, Nat.zero_le _, rfl⟩
  case round =>
    obtain ⟨k, hk, rfl, rfl, hz, hw⟩ := hrel
    have hw' := hw.out
    subst hw'
    by_cases kl : k < xs.length
    · have kli : (k : Int) < (xs.length : Int) := by omega
      have kb : (k : Int) ≤ 8796093022208 := by have := HN.out; omega
      obtain ⟨b, off, rfl, hc⟩ := H.out.at k kl
      have hX := HX.out k
      have E := JL.out k
      have G := F3.out k kl
      generalize xs.getD k ByteArray.empty = x at *
      generalize hj : (Ch.jt sp xs k).length = z at *
      generalize hj2 : (Ch.jt sp xs (k + 1)).length = z2 at *
      have hZ : (z : Int) ≤ 16777216 := by omega
      have hXi : (x.size : Int) ≤ 140737488355328 := by omega
      have HJ2 := hid hj2
      clear hj hj2
      by_cases k0 : k = 0
      · rw [if_pos k0] at E
        have kz : ¬ (0 : Int) < (k : Int) := by omega
        by_cases hb : 16777216 < z2
        · have hbi : (16777216 : Int) < (z : Int) + (x.size : Int) := by omega
          have G1 := hid (G hb)
          clear E G hz k0 hb
          go_wp2_with fail
          go_ret2
          exact G1.out
        · have hbi : ¬ (16777216 : Int) < (z : Int) + (x.size : Int) := by omega
          have EZ : Hid ((z : Int) + (x.size : Int) = (z2 : Int)) := by rw [Hid]; omega
          have ZB : Hid (z2 ≤ 16777216) := by rw [Hid]; omega
          clear E G hz k0 hb
          go_wp2_with fail
          go_roundg (xs.length - (k + 1))
          case measure => omega
          case rel => exact ⟨k + 1, by omega, by go_num, by rw [HJ2.out, EZ.out], by rw [HJ2.out]; exact ZB.out, rfl⟩
      · rw [if_neg k0] at E
        have kz : (0 : Int) < (k : Int) := by omega
        by_cases hb : 16777216 < z2
        · have hbi : (16777216 : Int) < (z : Int) + (x.size : Int) + (sep.size : Int) := by omega
          have G1 := hid (G hb)
          clear E G hz k0 hb
          go_wp2_with fail
          go_ret2
          exact G1.out
        · have hbi : ¬ (16777216 : Int) < (z : Int) + (x.size : Int) + (sep.size : Int) := by omega
          have EZ : Hid ((z : Int) + (x.size : Int) + (sep.size : Int) = (z2 : Int)) := by rw [Hid]; omega
          have ZB : Hid (z2 ≤ 16777216) := by rw [Hid]; omega
          clear E G hz k0 hb
          go_wp2_with fail
          go_roundg (xs.length - (k + 1))
          case measure => omega
          case rel => exact ⟨k + 1, by omega, by go_num, by rw [HJ2.out, EZ.out], by rw [HJ2.out]; exact ZB.out, rfl⟩
    · have kli : ¬ (k : Int) < (xs.length : Int) := by omega
      have kn : k = xs.length := by omega
      have Z : Hid ((Ch.jt sp xs xs.length).length ≤ 16777216) := by rw [Hid, ← kn]; exact hz
      clear kn hz F3 JL hw
      generalize hwr : wr = w1 at *
      clear hwr
      generalize (Ch.jt sp xs k).length = z at *
      go_wp2_with fail
      go_loopg [8, 9] xs.length (fun m mv iv wz => ∃ k : Nat, k + m = xs.length ∧ iv = .int .i64 (k : Int) ∧ Hid (B8 w1.heap.size wz mv (Ch.jt sp xs k) ∧ Below w1.heap.size w1 wz))
      case atStart => exact ⟨0, by omega, rfl, N0.out, B0.out⟩
      case round =>
        obtain ⟨k, hk, rfl, J⟩ := hrel
        by_cases kl : k < xs.length
        · have kli : (k : Int) < (xs.length : Int) := by omega
          have kb : (k : Int) ≤ 8796093022208 := by have := HN.out; omega
          obtain ⟨b, off, rfl, hc⟩ := (H.out.below J.out.2 (Nat.le_refl _)).at k kl
          have E := JS.out k
          have M := Nat.le_trans (LM.out (k + 1) (by omega)) Z.out
          have XL := Ch.size_len (xs.getD k ByteArray.empty)
          generalize hx : xs.getD k ByteArray.empty = x at *
          have HXX := hid hx
          clear hx
          by_cases k0 : k = 0
          · rw [if_pos k0, List.nil_append] at E
            have kz : ¬ (0 : Int) < (k : Int) := by omega
            obtain ⟨mv', w', ap, h1, h2, h3⟩ := J.out.1.cats x (by rw [E, List.length_append, XL] at M; omega) J.out.2.size
            have AP := hid ap
            have F : Hid (B8 w1.heap.size w' mv' (Ch.jt sp xs (k + 1)) ∧ Below w1.heap.size w1 w') := by rw [E]; exact ⟨h1, J.out.2.trans h3⟩
            clear E M XL k0 J ap h1 h2 h3 N0 B0
            go_wp2_with (at_builtin; refine wpList_append_d rfl _ _ rfl AP.out (by rfl) (by rfl) ?_; clear AP)
            go_roundg (xs.length - (k + 1))
            case measure => omega
            case rel => exact ⟨k + 1, by omega, by go_num, F⟩
          · rw [if_neg k0, ← List.append_assoc] at E
            have kz : (0 : Int) < (k : Int) := by omega
            have SLL : sp.length = sep.size := by rw [← HSP.out, Ch.size_len]
            obtain ⟨mv', w', ap, h1, h2, h3⟩ := J.out.1.cats sep (by rw [E, List.length_append, List.length_append, XL] at M; omega) J.out.2.size
            rw [HSP.out] at h1
            obtain ⟨mv2, w2, ap2, g1, g2, g3⟩ := h1.cats x (by rw [E, List.length_append, XL] at M; omega) (Nat.le_trans J.out.2.size h2)
            have AP := hid ap
            have AP2 := hid ap2
            have hc2 := H.out.below (J.out.2.trans h3) (Nat.le_refl _) |>.addr k kl
            rw [HXX.out] at hc2
            have F : Hid (B8 w1.heap.size w2 mv2 (Ch.jt sp xs (k + 1)) ∧ Below w1.heap.size w1 w2) := by rw [E]; exact ⟨g1, (J.out.2.trans h3).trans g3⟩
            clear E M XL k0 J ap h1 h2 h3 ap2 g1 g2 g3 N0 B0 SLL
            go_wp2_with (at_builtin; first | (refine wpList_append_d rfl _ _ rfl AP.out (by rfl) (by rfl) ?_; clear AP) | (refine wpList_append_d rfl _ _ rfl AP2.out (by rfl) (by rfl) ?_; clear AP2))
            go_roundg (xs.length - (k + 1))
            case measure => omega
            case rel => exact ⟨k + 1, by omega, by go_num, F⟩
        · have kli : ¬ (k : Int) < (xs.length : Int) := by omega
          have kn : k = xs.length := by omega
          have CV := J.out.1.conv
          have FF := hid (F0.out Z.out _ J.out.2)
          rw [← kn] at FF
          clear kn J
          generalize Ch.tx (Ch.jt sp xs k) = TX at *
          go_wp2_with fail
          go_ret2
          exact FF.out
set_option maxRecDepth 100000 in
theorem rcat_any (a : Option Addr) (cap : Nat) (xs : List ByteArray) (w : World) (h : TR w a xs) (hn : xs.length ≤ 8796093022208) (hx : ∀ i, (xs.getD i ByteArray.empty).size ≤ 140737488355328) :
    Calls Tryd.prog 20 #[.slice a xs.length cap] w (JoTold [] xs w) := by
  have J : Hid (Calls Tryd.prog 19 #[.slice a xs.length cap, .string ⟨#[]⟩] w (JoTold [] xs w)) := rjoin_any a cap xs ⟨#[]⟩ w h hn hx (by decide)
  have F1 : Hid (∀ w', JoTold [] xs w (.returned (.tuple #[.string (Ch.jS [] xs), .int .i64 (Ch.jE [] xs)])) w' → JoTold [] xs w (.returned (.tuple #[.string (Ch.jS [] xs), .int .i64 (Ch.jE [] xs)])) w') := fun _ h => h
  clear h hn hx
  go_enter Tryd.func20, Tryd.ntmps20
  go_wp2_with fail
  refine J.out.mono ?_
  rintro e w1 ⟨rfl, hB⟩
  have G := hid (F1.out w1 ⟨rfl, hB⟩)
  clear hB J F1
  generalize Ch.jS [] xs = S at *
  generalize Ch.jE [] xs = E at *
  go_wp2_with fail
  go_ret2
  exact G.out
end Go.Proofs.YtpdliogfeaafgaaDoor
