/-
  TokenWords.
-/
import Derived.Test.YtcigpfnlkjoibaaDoorTkW3
namespace Go.Proofs.YtcigpfnlkjoibaaDoor
open Go Go.RowKit Go.Deep Go.Shelf

set_option maxRecDepth 100000 in
set_option maxHeartbeats 4000000 in
theorem words_law (s : ByteArray) (w : World) (hT : FT w) (hs : s.size ≤ 140737488355328) :
    Calls Tryd.prog 3 #[.string s] w fun e w' => e = .returned (.bool true) ∧ Below w.heap.size w w' := by
  have A1 : Hid (Calls Tryd.prog 4 #[.string ⟨#[97, 115, 111, 114, 116]⟩] w fun e w' => e = .returned (.int .i64 13) ∧ w' = w) := by
    have h := tfunc_any ⟨#[97, 115, 111, 114, 116]⟩ w hT
    rw [show Tk.fn ⟨#[97, 115, 111, 114, 116]⟩ = 13 by decide +kernel] at h
    exact h
  have A2 : Hid (Calls Tryd.prog 5 #[.string ⟨#[105, 110]⟩] w fun e w' => e = .returned (.int .i64 5) ∧ w' = w) := tword_k6 w
  have A3 : Hid (Calls Tryd.prog 5 #[.string ⟨#[95, 57]⟩] w fun e w' => e = .returned (.int .i64 3) ∧ w' = w) := by
    have h := tword_any ⟨#[95, 57]⟩ [95, 57] rfl w hT (by decide)
    rw [show Tk.wd ⟨#[95, 57]⟩ [95, 57] = 3 by decide +kernel] at h
    exact h
  have F := hid (tfunc_any s w hT)
  have R := hid (rfunc_any s w)
  have W1 := hid (fun (wx : World) (h : FT wx) => tword_any s _ (Str.self s) wx h hs)
  have R1 := hid (fun wx => rword_any s _ (Str.self s) wx hs)
  have T := hid hT
  generalize Tk.wd s (s.data.toList.map fun b => (b.toNat : Int)) = V at *
  generalize Tk.fn s = G at *
  clear hT hs
  go_enter Tryd.func3, Tryd.ntmps3
  go_wp2_with fail
  refine A1.out.mono ?_
  rintro e w1 ⟨rfl, hw⟩
  rw [hw]
  clear hw A1
  go_wp2_with fail
  refine A2.out.mono ?_
  rintro e w2 ⟨rfl, hw⟩
  rw [hw]
  clear hw A2
  go_wp2_with fail
  refine A3.out.mono ?_
  rintro e w3 ⟨rfl, hw⟩
  rw [hw]
  clear hw A3
  go_wp2_with fail
  refine F.out.mono ?_
  rintro e w4 ⟨rfl, hw⟩
  rw [hw]
  clear hw F
  go_wp2_with fail
  refine R.out.mono ?_
  rintro e w5 ⟨rfl, hB⟩
  have B5 := hid hB
  clear hB R
  go_wp2_with fail
  refine (W1.out w5 (T.out.below B5.out (Nat.le_refl _))).mono ?_
  rintro e w6 ⟨rfl, hw⟩
  rw [hw]
  clear hw W1
  go_wp2_with fail
  refine (R1.out w5).mono ?_
  rintro e w7 ⟨rfl, hB⟩
  have B7 := hid hB
  clear hB R1
  go_wp2_with fail
  go_ret
  exact ⟨rfl, B5.out.trans (B7.out.mono B5.out.size)⟩
end Go.Proofs.YtcigpfnlkjoibaaDoor
