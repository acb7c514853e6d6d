/-
  sort.Search, over a function that leaves what lies below as it was.
-/
import Derived.Test.YtjkefcikepnbpaaGreatDoorWalk5a
import Derived.Test.YtjkefcikepnbpaaGreatDoorV0
import Derived.Deep.LoopGhost
import Derived.Shelf.Abstract
namespace Go.Proofs.YtjkefcikepnbpaaGreatDoor
open Go Go.RowKit Go.Deep

/-- What the search tells. -/
def SrTold (p : Nat → Bool) (w : World) (e : Ending) (w' : World) : Prop := ∃ f : Nat, e = .returned (.int .i64 f) ∧ f ≤ 16 ∧ (0 < f → p (f - 1) = false) ∧ (f < 16 → p f = true) ∧ Below w.heap.size w w'

set_option maxRecDepth 100000 in
set_option maxHeartbeats 4000000 in
theorem search_any (g : Nat) (cb : Array Value) (p : Nat → Bool) (w : World) (eg : ∀ args w, (callFunc g args).run Tryz.prog w = .ok (.enter g args) w)
    (hf : ∀ (wx : World) (i : Nat), Below w.heap.size w wx → i < 16 → Calls Tryz.prog g (#[.int .i64 i] ++ cb) wx fun e w' => e = .returned (.bool (p i)) ∧ Below wx.heap.size wx w') :
    Calls Tryz.prog 26 #[.int .i64 16, .func (.func g) #[] cb] w fun e w' => SrTold p w e w' := by
  have HF := hid hf
  clear hf
  go_enter Tryz.func26, Tryz.ntmps26
  go_wp2_with fail
  go_loopg [5, 6] 16 (fun kx s5 s6 wr => ∃ (lo hi : Nat), s5 = .int .i64 lo ∧ s6 = .int .i64 hi ∧ lo ≤ hi ∧ hi ≤ 16 ∧ hi - lo ≤ kx ∧ Hid (Below w.heap.size w wr ∧ (0 < lo → p (lo - 1) = false) ∧ (hi < 16 → p hi = true)))
  case atStart => exact ⟨0, 16, rfl, rfl, by omega, by omega, by omega, (⟨Below.refl _ _, fun h => absurd h (by decide), fun h => absurd h (by decide)⟩ : Below w.heap.size w w ∧ (0 < 0 → p (0 - 1) = false) ∧ (16 < 16 → p 16 = true))⟩
  case round =>
    obtain ⟨lo, hi, rfl, rfl, hlh, hin, hg, I⟩ := hrel
    by_cases hlt : lo < hi
    · have hc := HF.out _ ((lo + hi) / 2) I.out.1 (by omega)
      rw [show (((lo + hi) / 2 : Nat) : Int) = ((lo : Int) + (hi : Int)) / 2 by omega] at hc
      cases hp : p ((lo + hi) / 2) <;> rw [hp] at hc
      · have HP := hid hp
        clear hp
        go_wp2_with (go_at_fn g; refine hc.mono ?_; rintro e w' ⟨rfl, hB⟩)
        go_roundg (hi - ((lo + hi) / 2 + 1))
        case measure => omega
        case rel =>
          have I2 : Hid (Below w.heap.size w w' ∧ (0 < (lo + hi) / 2 + 1 → p ((lo + hi) / 2 + 1 - 1) = false) ∧ (hi < 16 → p hi = true)) := ⟨I.out.1.trans (hB.mono I.out.1.size), fun _ => by rw [Nat.add_sub_cancel]; exact HP.out, I.out.2.2⟩
          exact ⟨(lo + hi) / 2 + 1, hi, by rw [show ((lo : Int) + (hi : Int)) / 2 + 1 = (((lo + hi) / 2 + 1 : Nat) : Int) by omega], rfl, by omega, hin, Nat.le_refl _, I2⟩
      · have HP := hid hp
        clear hp
        go_wp2_with (go_at_fn g; refine hc.mono ?_; rintro e w' ⟨rfl, hB⟩)
        go_roundg ((lo + hi) / 2 - lo)
        case measure => omega
        case rel =>
          have I2 : Hid (Below w.heap.size w w' ∧ (0 < lo → p (lo - 1) = false) ∧ ((lo + hi) / 2 < 16 → p ((lo + hi) / 2) = true)) := ⟨I.out.1.trans (hB.mono I.out.1.size), I.out.2.1, fun _ => HP.out⟩
          exact ⟨lo, (lo + hi) / 2, rfl, by rw [show ((lo : Int) + (hi : Int)) / 2 = (((lo + hi) / 2 : Nat) : Int) by omega], by omega, by omega, Nat.le_refl _, I2⟩
    · obtain rfl : hi = lo := by omega
      have K : Hid (SrTold p w (.returned (.int .i64 (hi : Int))) wr) := ⟨hi, rfl, hin, I.out.2.1, I.out.2.2, I.out.1⟩
      clear I HF
      go_wp2_with fail
      go_ret
      exact K.out
end Go.Proofs.YtjkefcikepnbpaaGreatDoor
