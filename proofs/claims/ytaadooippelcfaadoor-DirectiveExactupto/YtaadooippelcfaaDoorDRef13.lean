/-
  abacusref13's small functions: at, digit, number, bit, counted.
-/
import Derived.Test.YtaadooippelcfaaDoorV0
import Derived.Test.YtaadooippelcfaaDoorVStr
import Derived.Test.YtaadooippelcfaaDoorDBackN
import Derived.Deep.LoopGhost
import Derived.Deep.RegionHeld3
import Derived.Deep.CutBlock
import Derived.Deep.CutRange
import Derived.OwnWalk
namespace Go.Proofs.YtaadooippelcfaaDoor
open Go Go.RowKit Go.Deep

theorem idx_hit {c : Int} : ∀ {xs : List Int} {i : Nat}, (∀ t, t < i → xs.getD t 0 ≠ c) → i < xs.length → xs.getD i 0 = c → Dr.idx xs c = (i : Int)
  | [], i, _, h, _ => by simp at h
  | x :: l, 0, _, _, h => by
    rw [Dr.idx, if_pos (by simpa using h)]; rfl
  | x :: l, i + 1, h1, h2, h3 => by
    have ih := idx_hit (c := c) (xs := l) (i := i) (fun t ht => by have := h1 (t + 1) (by omega); simpa using this) (by simpa using h2) (by simpa using h3)
    have hx : ¬ x = c := by have := h1 0 (by omega); simpa using this
    rw [Dr.idx, if_neg hx, ih, if_neg (by omega)]
    omega
theorem idx_miss {c : Int} : ∀ {xs : List Int}, (∀ t, t < xs.length → xs.getD t 0 ≠ c) → Dr.idx xs c = -1
  | [], _ => rfl
  | x :: l, h => by
    have ih := idx_miss (c := c) (xs := l) (fun t ht => by have := h (t + 1) (by simp; omega); simpa using this)
    have hx : ¬ x = c := by have := h 0 (by simp); simpa using this
    rw [Dr.idx, if_neg hx, ih, if_pos (by omega)]

set_option maxRecDepth 100000 in
set_option maxHeartbeats 1000000 in
theorem rat_any (s : ByteArray) (xs : List Int) (c : Int) (w : World) (hs : Str s xs) (hl : xs.length ≤ 140737488355328) :
    Calls Tryd.prog 26 #[.string s, .int .u8 c] w fun e w' => e = .returned (.int .i64 (Dr.idx xs c)) ∧ w' = w := by
  have sx := hs.size
  have HL := hid hl
  have HS := hid hs
  have SX := hid sx
  clear hs hl sx
  go_enter Tryd.func26, Tryd.ntmps26
  go_wp2_with fail
  go_loopg [5] s.size (fun m k wr => ∃ i : Nat, i + m = s.size ∧ k = .int .i64 (i : Int) ∧ wr = w ∧ Hid (∀ t, t < i → xs.getD t 0 ≠ c))
  case atStart => exact ⟨0, by omega, rfl, rfl, fun t ht => by omega⟩
  case round =>
    obtain ⟨i, hi, rfl, rfl, I⟩ := hrel
    by_cases il : i < s.size
    · have ili : (i : Int) < (s.size : Int) := by omega
      have ib : (i : Int) ≤ 140737488355328 := by have := HL.out; have := SX.out; omega
      obtain ⟨x, hx⟩ : ∃ x, xs.getD i 0 = x := ⟨_, rfl⟩
      have ki : ∀ h : i < s.size, ((s[i]'h).toNat : Int) = x := fun h => hx ▸ HS.out.at i h
      by_cases hc : x = c
      · have R : Hid (Dr.idx xs c = (i : Int)) := idx_hit I.out (by have := SX.out; omega) (hx.trans hc)
        have hc1 : (x == c) = true := by simpa using hc
        clear I hx hc HS
        go_wp2_with fail
        go_ret
        exact ⟨by rw [R.out]; rfl, rfl⟩
      · have hc1 : (x == c) = false := by simpa using hc
        have I2 : Hid (∀ t, t < i + 1 → xs.getD t 0 ≠ c) := fun t ht => by
          by_cases e : t = i
          · subst e; rw [hx]; exact hc
          · exact I.out t (by omega)
        clear I hx hc HS
        go_wp2_with fail
        go_roundg (s.size - (i + 1))
        case measure => omega
        case rel => exact ⟨i + 1, by omega, by go_num, rfl, I2.out⟩
    · have ili : ¬ (i : Int) < (s.size : Int) := by omega
      have R : Hid (Dr.idx xs c = -1) := idx_miss (fun t ht => I.out t (by have := SX.out; omega))
      clear I HS
      go_wp2_with fail
      go_ret
      exact ⟨by rw [R.out]; rfl, rfl⟩

theorem rdigit_any (c : Int) (w : World) :
    Calls Tryd.prog 41 #[.int .u8 c] w fun e w' => e = .returned (.bool (Dr.isD c)) ∧ w' = w := by
  by_cases h : 48 ≤ c
  · have G : Hid (Dr.isD c = decide (c ≤ 57)) := by rw [Hid, Dr.isD, decide_eq_true h, Bool.true_and]
    go_enter Tryd.func41, Tryd.ntmps41
    go_wp2_with fail
    go_ret
    exact ⟨by rw [G.out]; rfl, rfl⟩
  · have G : Hid (Dr.isD c = false) := by rw [Hid, Dr.isD, decide_eq_false h, Bool.false_and]
    go_enter Tryd.func41, Tryd.ntmps41
    go_wp2_with fail
    go_ret
    exact ⟨by rw [G.out]; rfl, rfl⟩
end Go.Proofs.YtaadooippelcfaaDoor
