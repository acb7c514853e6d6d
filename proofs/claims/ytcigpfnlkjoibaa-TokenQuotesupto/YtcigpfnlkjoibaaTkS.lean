/-
  abacusref23: Quote.
-/
import Derived.Test.YtcigpfnlkjoibaaTkR
namespace Go.Proofs.Ytcigpfnlkjoibaa
open Go Go.RowKit Go.Deep Go.Shelf

namespace Tk
def marks : Ch.L8 := [34, 92, 7, 8, 9, 10, 11, 12, 13]
def lets : Ch.L8 := [34, 92, 97, 98, 116, 110, 118, 102, 114]
/-- Which of the first j marks is n, or -1. -/
def kf (n : Int) : Nat → Int
  | 0 => -1
  | j + 1 => if ((marks.getD j 0).toNat : Int) = n then (j : Int) else kf n j
theorem kf_yes {n : Int} {j : Nat} (h : ((marks.getD j 0).toNat : Int) = n) : kf n (j + 1) = (j : Int) := by
  rw [kf, if_pos h]
theorem kf_no {n : Int} {j : Nat} (h : ¬ ((marks.getD j 0).toNat : Int) = n) : kf n (j + 1) = kf n j := by
  rw [kf, if_neg h]
theorem kf_pos (k : Nat) (hk : k < 9) : kf ((marks.getD k 0).toNat : Int) 9 = (k : Int) := by
  revert k
  decide +kernel
theorem kf_neg {n : Int} (h : ∀ j, j < 9 → ¬ ((marks.getD j 0).toNat : Int) = n) : kf n 9 = -1 := by
  simp only [kf, if_neg (h 8 (by omega)), if_neg (h 7 (by omega)), if_neg (h 6 (by omega)), if_neg (h 5 (by omega)), if_neg (h 4 (by omega)), if_neg (h 3 (by omega)), if_neg (h 2 (by omega)), if_neg (h 1 (by omega)), if_neg (h 0 (by omega))]
theorem esc_mark (c : UInt8) (k : Nat) (hk : k < 9) (h : c = marks.getD k 0) : esc c = [92, lets.getD k 0] := by
  subst h
  revert k
  decide +kernel
theorem mark_or (c : UInt8) : (∃ k : Nat, k < 9 ∧ c = marks.getD k 0) ∨ (¬ (c.toNat = 34 ∨ c.toNat = 92) ∧ ¬ (7 ≤ c.toNat ∧ c.toNat ≤ 13)) := by
  by_cases h : c.toNat = 34 ∨ c.toNat = 92
  · rcases h with h | h
    · exact .inl ⟨0, by omega, UInt8.toNat_inj.1 h⟩
    · exact .inl ⟨1, by omega, UInt8.toNat_inj.1 h⟩
  · by_cases h2 : 7 ≤ c.toNat ∧ c.toNat ≤ 13
    · have h3 : c.toNat = 7 ∨ c.toNat = 8 ∨ c.toNat = 9 ∨ c.toNat = 10 ∨ c.toNat = 11 ∨ c.toNat = 12 ∨ c.toNat = 13 := by omega
      rcases h3 with h | h | h | h | h | h | h
      · exact .inl ⟨2, by omega, UInt8.toNat_inj.1 h⟩
      · exact .inl ⟨3, by omega, UInt8.toNat_inj.1 h⟩
      · exact .inl ⟨4, by omega, UInt8.toNat_inj.1 h⟩
      · exact .inl ⟨5, by omega, UInt8.toNat_inj.1 h⟩
      · exact .inl ⟨6, by omega, UInt8.toNat_inj.1 h⟩
      · exact .inl ⟨7, by omega, UInt8.toNat_inj.1 h⟩
      · exact .inl ⟨8, by omega, UInt8.toNat_inj.1 h⟩
    · exact .inr ⟨h, h2⟩
theorem mark_no {c : UInt8} (h : ¬ (c.toNat = 34 ∨ c.toNat = 92)) (h2 : ¬ (7 ≤ c.toNat ∧ c.toNat ≤ 13)) : kf (c.toNat : Int) 9 = -1 := by
  refine kf_neg fun j hj => ?_
  have h3 : j = 0 ∨ j = 1 ∨ j = 2 ∨ j = 3 ∨ j = 4 ∨ j = 5 ∨ j = 6 ∨ j = 7 ∨ j = 8 := by omega
  rcases h3 with rfl | rfl | rfl | rfl | rfl | rfl | rfl | rfl | rfl
  · show ¬ (34 : Int) = (c.toNat : Int); omega
  · show ¬ (92 : Int) = (c.toNat : Int); omega
  · show ¬ (7 : Int) = (c.toNat : Int); omega
  · show ¬ (8 : Int) = (c.toNat : Int); omega
  · show ¬ (9 : Int) = (c.toNat : Int); omega
  · show ¬ (10 : Int) = (c.toNat : Int); omega
  · show ¬ (11 : Int) = (c.toNat : Int); omega
  · show ¬ (12 : Int) = (c.toNat : Int); omega
  · show ¬ (13 : Int) = (c.toNat : Int); omega
end Tk

set_option maxRecDepth 100000 in
set_option maxHeartbeats 4000000 in
theorem rquote_any (s : ByteArray) (w : World) (hs : s.size ≤ 30000000000000) :
    Calls Try.prog 5 #[.string s] w fun e w' => e = .returned (.string (Ch.tx (Tk.quote s.data.toList))) ∧ Below w.heap.size w w' := by
  have HL := hid (Ch.size_len s)
  have BA : Hid (∀ j (h : j < s.size), ((s[j]'h).toNat : Int) = ((s.data.toList.getD j 0).toNat : Int)) := fun j h => by rw [byte_getD s j h]
  have LB := hid (fun k => Tk.body_len (s.data.toList.take k))
  have MT := hid (Tk.body_take s.data.toList)
  have hsi : (s.size : Int) ≤ 30000000000000 := by omega
  have Q0 : Hid (B8 w.heap.size (w.alloc (.cells #[.int .u8 34] 5)) (.slice (some ⟨w.heap.size, 0, none⟩) 1 1) (Tk.body (s.data.toList.take 0)) ∧ Below w.heap.size w (w.alloc (.cells #[.int .u8 34] 5)) ∧ w.heap.size ≤ (w.alloc (.cells #[.int .u8 34] 5)).heap.size) :=
    ⟨B8.one w 34, (Below.refl _ _).alloc (Nat.le_refl _) _, by rw [World.size_alloc]; omega⟩
  have TL : Hid (∀ k, (s.data.toList.take k).length ≤ s.size) := fun k => by rw [List.length_take, Ch.size_len]; omega
  have LAST : Hid (Tk.quote s.data.toList = Tk.body (s.data.toList.take s.size) ++ [34]) := by
    show _ = _
    rw [List.take_of_length_le (by rw [Ch.size_len]; omega)]
    rfl
  generalize s.data.toList = l at *
  go_enter Try.func5, Try.ntmps5
  go_wp2_with fail
  go_loopg [5, 6] s.size (fun m ov iv wr => ∃ k : Nat, k + m = s.size ∧ iv = .int .i64 (k : Int) ∧ Hid (B8 w.heap.size wr ov (Tk.body (l.take k)) ∧ Below w.heap.size w wr ∧ w.heap.size ≤ wr.heap.size))
  case atStart => exact ⟨0, by omega, rfl, Q0⟩
  case round =>
    obtain ⟨k, hk, rfl, J⟩ := hrel
    clear Q0
    by_cases kl : k < s.size
    · have kli : (k : Int) < (s.size : Int) := by omega
      have BJ := BA.out k
      have E := hid (MT.out k (by rw [HL.out]; exact kl))
      have hn : Hid ((Tk.body (l.take k)).length + 4 ≤ 140737488351232) := by show _ ≤ _; have := LB.out k; have := TL.out k; omega
      generalize l.getD k 0 = c at *
      have b0 : (0 : Int) ≤ (c.toNat : Int) := by omega
      have b1 : (c.toNat : Int) < 256 := by have := c.toNat_lt; omega
      generalize hcn : (c.toNat : Int) = n at *
      have HN := hid hcn
      clear hcn
      go_wp2_with fail
      go_loopg [8, 9] 9 (fun m kv jv wq => ∃ j : Nat, j + m = 9 ∧ kv = .int .i64 (Tk.kf n j) ∧ jv = .int .i64 (j : Int) ∧ wq = wr)
      case atStart => exact ⟨0, rfl, rfl, rfl, rfl⟩
      case round =>
        obtain ⟨j, hj, rfl, rfl, hwq⟩ := hrel
        subst hwq
        by_cases jl : j < 9
        · have jli : (j : Int) < 9 := by omega
          have IX : ∀ h : j < (⟨#[34, 92, 7, 8, 9, 10, 11, 12, 13]⟩ : ByteArray).size, ((((⟨#[34, 92, 7, 8, 9, 10, 11, 12, 13]⟩ : ByteArray)[j]'h).toNat : Nat) : Int) = ((Tk.marks.getD j 0).toNat : Int) := fun h => by rw [byte_getD _ j h]; rfl
          have Y := hid (Tk.kf_yes (n := n) (j := j))
          have NO := hid (Tk.kf_no (n := n) (j := j))
          generalize ((Tk.marks.getD j 0).toNat : Int) = v at *
          by_cases e : v = n
          · have E2 := hid (Y.out e)
            generalize Tk.kf n j = kk at *
            clear Y NO
            go_wp2_with fail
            go_roundg (9 - (j + 1))
            case measure => omega
            case rel => exact ⟨j + 1, by omega, by rw [E2.out], by go_num, rfl⟩
          · have E2 := hid (NO.out e)
            generalize Tk.kf n j = kk at *
            clear Y NO
            go_wp2_with fail
            go_roundg (9 - (j + 1))
            case measure => omega
            case rel => exact ⟨j + 1, by omega, by rw [E2.out], by go_num, rfl⟩
        · have j9 : j = 9 := by omega
          subst j9
          rcases Tk.mark_or c with ⟨kk, hkk, hc⟩ | ⟨h1, h2⟩
          · obtain ⟨mv', w', ap, g1, g2, g3⟩ := J.out.1.esc2 (Tk.lets.getD kk 0) (by have := hn.out; omega) J.out.2.2
            rw [← Tk.esc_mark c kk hkk hc, ← E.out] at g1
            have F : Hid (B8 w.heap.size w' mv' (Tk.body (l.take (k + 1))) ∧ Below w.heap.size w w' ∧ w.heap.size ≤ w'.heap.size) := ⟨g1, J.out.2.1.trans g3, Nat.le_trans J.out.2.2 g2⟩
            have K9 : Tk.kf n 9 = (kk : Int) := by rw [← HN.out, hc]; exact Tk.kf_pos kk hkk
            rw [K9]
            have AP := hid ap
            clear K9 ap g1 g2 g3 hc J HN
            have kki : (kk : Int) < 9 := by omega
            have IX : ∀ h : kk < (⟨#[34, 92, 97, 98, 116, 110, 118, 102, 114]⟩ : ByteArray).size, ((((⟨#[34, 92, 97, 98, 116, 110, 118, 102, 114]⟩ : ByteArray)[kk]'h).toNat : Nat) : Int) = ((Tk.lets.getD kk 0).toNat : Int) := fun h => by rw [byte_getD _ kk h]; rfl
            generalize ((Tk.lets.getD kk 0).toNat : Int) = v at *
            go_wp2_with (at_builtin; refine wpList_append_d rfl _ _ rfl AP.out (by rfl) (by rfl) ?_; clear AP)
            go_roundg (s.size - (k + 1))
            case measure => omega
            case rel => exact ⟨k + 1, by omega, by go_num, F⟩
          · have K9 : Tk.kf n 9 = -1 := by rw [← HN.out]; exact Tk.mark_no h1 h2
            rw [K9]
            clear K9
            by_cases h3 : 32 ≤ c.toNat ∧ c.toNat ≤ 126
            · obtain ⟨mv', w', ap, g1, g2, g3⟩ := J.out.1.put1 c (by have := hn.out; omega) J.out.2.2
              rw [show ([c] : Ch.L8) = Tk.esc c by rw [Tk.esc, if_neg h1, if_neg h2, if_pos h3], ← E.out] at g1
              have F : Hid (B8 w.heap.size w' mv' (Tk.body (l.take (k + 1))) ∧ Below w.heap.size w w' ∧ w.heap.size ≤ w'.heap.size) := ⟨g1, J.out.2.1.trans g3, Nat.le_trans J.out.2.2 g2⟩
              have AP := hid ap
              have e5 : (32 : Int) ≤ n := by rw [← HN.out]; omega
              have e6 : n ≤ 126 := by rw [← HN.out]; omega
              rw [HN.out] at AP
              clear ap g1 g2 g3 J HN h1 h2 h3
              go_wp2_with (at_builtin; refine wpList_append_d rfl _ _ rfl AP.out (by rfl) (by rfl) ?_; clear AP)
              go_roundg (s.size - (k + 1))
              case measure => omega
              case rel => exact ⟨k + 1, by omega, by go_num, F⟩
            · obtain ⟨mv', w', ap, g1, g2, g3⟩ := J.out.1.esc4 c.toNat c.toNat_lt (by have := hn.out; omega) J.out.2.2
              rw [show ([92, UInt8.ofNat (48 + c.toNat / 64), UInt8.ofNat (48 + c.toNat / 8 % 8), UInt8.ofNat (48 + c.toNat % 8)] : Ch.L8) = Tk.esc c by rw [Tk.esc, if_neg h1, if_neg h2, if_neg h3], ← E.out] at g1
              have F : Hid (B8 w.heap.size w' mv' (Tk.body (l.take (k + 1))) ∧ Below w.heap.size w w' ∧ w.heap.size ≤ w'.heap.size) := ⟨g1, J.out.2.1.trans g3, Nat.le_trans J.out.2.2 g2⟩
              have AP := hid ap
              rw [HN.out] at AP
              by_cases h4 : 32 ≤ c.toNat
              · have e5 : (32 : Int) ≤ n := by rw [← HN.out]; omega
                have e6 : ¬ n ≤ 126 := by rw [← HN.out]; omega
                clear ap g1 g2 g3 J HN h1 h2 h3 h4
                go_wp2_with (at_builtin; refine wpList_append_d rfl _ _ rfl AP.out (by rfl) (by rfl) ?_; clear AP)
                go_roundg (s.size - (k + 1))
                case measure => omega
                case rel => exact ⟨k + 1, by omega, by go_num, F⟩
              · have e5 : ¬ (32 : Int) ≤ n := by rw [← HN.out]; omega
                clear ap g1 g2 g3 J HN h1 h2 h3 h4
                go_wp2_with (at_builtin; refine wpList_append_d rfl _ _ rfl AP.out (by rfl) (by rfl) ?_; clear AP)
                go_roundg (s.size - (k + 1))
                case measure => omega
                case rel => exact ⟨k + 1, by omega, by go_num, F⟩
    · have kli : ¬ (k : Int) < (s.size : Int) := by omega
      have kn : k = s.size := by omega
      subst kn
      obtain ⟨mv', w', ap, g1, g2, g3⟩ := J.out.1.put1 34 (by have := LB.out s.size; have := TL.out s.size; omega) J.out.2.2
      rw [← LAST.out] at g1
      have CV := g1.conv
      have AP := hid ap
      have F : Hid (Below w.heap.size w w') := J.out.2.1.trans g3
      clear g1 g2 g3 ap J
      generalize hTX : Ch.tx (Tk.quote l) = TX at *
      have HT := hid hTX
      clear hTX
      go_wp2_with (at_builtin; refine wpList_append_d rfl _ _ rfl AP.out (by rfl) (by rfl) ?_; clear AP)
      go_ret
      exact ⟨by rw [HT.out]; rfl, F.out⟩
end Go.Proofs.Ytcigpfnlkjoibaa
