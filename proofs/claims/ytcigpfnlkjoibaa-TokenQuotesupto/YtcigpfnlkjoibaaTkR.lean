/-
  token: Quote.
-/
import Derived.Test.YtcigpfnlkjoibaaTkQ
namespace Go.Proofs.Ytcigpfnlkjoibaa
open Go Go.RowKit Go.Deep Go.Shelf

theorem byte_getD (s : ByteArray) (j : Nat) (h : j < s.size) : s[j] = s.data.toList.getD j 0 := by
  have := Lib.data_getElem? s j h
  simp [List.getD, this]
set_option maxRecDepth 100000 in
set_option maxHeartbeats 2000000 in
theorem tquote_any (s : ByteArray) (w : World) (hs : s.size ≤ 30000000000000) :
    Calls Try.prog 4 #[.string s] w fun e w' => e = .returned (.string (Ch.tx (Tk.quote s.data.toList))) ∧ Below w.heap.size w w' := by
  have HL := hid (Ch.size_len s)
  have BA : Hid (∀ j (h : j < s.size), ((s[j]'h).toNat : Int) = ((s.data.toList.getD j 0).toNat : Int)) := fun j h => by rw [byte_getD s j h]
  have LB := hid (fun k => Tk.body_len (s.data.toList.take k))
  have MT := hid (Tk.body_take s.data.toList)
  have hsi : (s.size : Int) ≤ 30000000000000 := by omega
  have Q0 : Hid (B8 w.heap.size (w.alloc (.cells #[.int .u8 34] 5)) (.slice (some ⟨w.heap.size, 0, none⟩) 1 1) (Tk.body (s.data.toList.take 0)) ∧ Below w.heap.size w (w.alloc (.cells #[.int .u8 34] 5)) ∧ w.heap.size ≤ (w.alloc (.cells #[.int .u8 34] 5)).heap.size) :=
    ⟨B8.one w 34, (Below.refl _ _).alloc (Nat.le_refl _) _, by rw [World.size_alloc]; omega⟩
  have TL : Hid (∀ k, (s.data.toList.take k).length ≤ s.size) := fun k => by rw [List.length_take, Ch.size_len]; omega
  have LAST : Hid (Tk.quote s.data.toList = Tk.body (s.data.toList.take s.size) ++ [34]) := by
    show _ = _
    rw [List.take_of_length_le (by rw [Ch.size_len]; omega)]
    rfl
  generalize s.data.toList = l at *
  go_enter Try.func4, Try.ntmps4
  go_wp2_with fail
  go_loopg [3, 8] s.size (fun m ov iv wr => ∃ k : Nat, k + m = s.size ∧ iv = .int .i64 (k : Int) ∧ Hid (B8 w.heap.size wr ov (Tk.body (l.take k)) ∧ Below w.heap.size w wr ∧ w.heap.size ≤ wr.heap.size))
  case atStart => exact ⟨0, by omega, rfl, Q0⟩
  case round =>
    obtain ⟨k, hk, rfl, J⟩ := hrel
    clear Q0
    by_cases kl : k < s.size
    · have kli : (k : Int) < (s.size : Int) := by omega
      have BJ := BA.out k
      have E := MT.out k (by rw [HL.out]; exact kl)
      have W1 := hid (tput_any (l.getD k 0) J.out.1 (by have := LB.out k; have := TL.out k; omega) J.out.2.2)
      have JB := hid J.out.2.1
      rw [← E] at W1
      clear E J
      generalize l.getD k 0 = c at *
      go_wp2_with fail
      refine W1.out.mono ?_
      rintro e w2 ⟨mv', rfl, g1, g2, g3⟩
      have F : Hid (B8 w.heap.size w2 mv' (Tk.body (l.take (k + 1))) ∧ Below w.heap.size w w2 ∧ w.heap.size ≤ w2.heap.size) := ⟨g1, JB.out.trans g3, Nat.le_trans JB.out.size g2⟩
      clear g1 g2 g3 W1 JB
      go_wp2_with fail
      go_roundg (s.size - (k + 1))
      case measure => omega
      case rel => exact ⟨k + 1, by omega, by go_num, F⟩
    · have kli : ¬ (k : Int) < (s.size : Int) := by omega
      have kn : k = s.size := by omega
      subst kn
      obtain ⟨mv', w', ap, g1, g2, g3⟩ := J.out.1.put1 34 (by have := LB.out s.size; have := TL.out s.size; omega) J.out.2.2
      rw [← LAST.out] at g1
      have CV := g1.conv
      have AP := hid ap
      have F : Hid (Below w.heap.size w w') := J.out.2.1.trans g3
      clear g1 g2 g3 ap J
      generalize hTX : Ch.tx (Tk.quote l) = TX at *
      have HT := hid hTX
      clear hTX
      go_wp2_with (at_builtin; refine wpList_append_d rfl _ _ rfl AP.out (by rfl) (by rfl) ?_; clear AP)
      go_ret
      exact ⟨by rw [HT.out]; rfl, F.out⟩
end Go.Proofs.Ytcigpfnlkjoibaa
