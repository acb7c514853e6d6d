/-
  TokenQuotes.
-/
import Derived.Test.YtcigpfnlkjoibaaTkS
namespace Go.Proofs.Ytcigpfnlkjoibaa
open Go Go.RowKit Go.Deep Go.Shelf

theorem tquote_closed (w : World) : Calls Try.prog 4 #[.string ⟨#[97, 34, 0]⟩] w fun e w' => e = .returned (.string ⟨#[34, 97, 92, 34, 92, 48, 48, 48, 34]⟩) ∧ Below w.heap.size w w' := by
  have h := tquote_any ⟨#[97, 34, 0]⟩ w (by decide)
  rw [show Ch.tx (Tk.quote (⟨#[97, 34, 0]⟩ : ByteArray).data.toList) = ⟨#[34, 97, 92, 34, 92, 48, 48, 48, 34]⟩ by decide +kernel] at h
  exact h
set_option maxRecDepth 100000 in
set_option maxHeartbeats 4000000 in
theorem quotes_law (s : ByteArray) (w : World) (hs : s.size ≤ 30000000000000) :
    Calls Try.prog 3 #[.string s] w fun e w' => e = .returned (.bool true) ∧ Below w.heap.size w w' := by
  have A1 := hid (tquote_closed w)
  have A2 := hid (fun wx => tquote_any s wx hs)
  have A3 := hid (fun wx => rquote_any s wx hs)
  generalize Ch.tx (Tk.quote s.data.toList) = TX at *
  go_enter Try.func3, Try.ntmps3
  go_wp2_with fail
  refine A1.out.mono ?_
  rintro e w1 ⟨rfl, hB1⟩
  have B1 := hid hB1
  clear hB1 A1
  go_wp2_with fail
  refine (A2.out w1).mono ?_
  rintro e w2 ⟨rfl, hB2⟩
  have B2 := hid hB2
  clear hB2 A2
  go_wp2_with fail
  refine (A3.out w2).mono ?_
  rintro e w3 ⟨rfl, hB3⟩
  have B3 := hid hB3
  clear hB3 A3
  go_wp2_with fail
  go_ret
  exact ⟨rfl, (B1.out.trans (B2.out.mono B1.out.size)).trans (B3.out.mono (Nat.le_trans B1.out.size B2.out.size))⟩
end Go.Proofs.Ytcigpfnlkjoibaa
