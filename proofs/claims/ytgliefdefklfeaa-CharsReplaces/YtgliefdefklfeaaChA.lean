/-
  chars: length, Join, Cat; Index; blanks; law20's alike.
-/
import Derived.Test.YtgliefdefklfeaaChMem
namespace Go.Proofs.Ytgliefdefklfeaa
open Go Go.RowKit Go.Deep Go.Shelf

namespace Ch
def jE (sep : L8) (xs : List ByteArray) : Int := if (jn sep xs).length ≤ 16777216 then 0 else 3
def jS (sep : L8) (xs : List ByteArray) : ByteArray := if (jn sep xs).length ≤ 16777216 then tx (jn sep xs) else tx []
end Ch
/-- What length tells. -/
def LnTold (sep : Ch.L8) (xs : List ByteArray) (w : World) (e : Ending) (w' : World) : Prop :=
  ∃ z : Nat, e = .returned (.int .i64 (z : Int)) ∧ w' = w ∧ ((Ch.jn sep xs).length ≤ 16777216 → z = (Ch.jn sep xs).length) ∧ (16777216 < (Ch.jn sep xs).length → 16777216 < z ∧ z ≤ 562949953421312)

set_option maxRecDepth 100000 in
set_option maxHeartbeats 2000000 in
theorem clength_any (a : Option Addr) (cap : Nat) (xs : List ByteArray) (sep : ByteArray) (w : World) (h : TR w a xs) (hn : xs.length ≤ 8796093022208) (hx : ∀ i, (xs.getD i ByteArray.empty).size ≤ 140737488355328) (hs : sep.size ≤ 140737488355328) :
    Calls Try.prog 22 #[.slice a xs.length cap, .string sep] w (LnTold sep.data.toList xs w) := by
  have H := hid h
  have HN := hid hn
  have HX := hid hx
  have JS : Hid (∀ k, (Ch.jt sep.data.toList xs (k + 1)).length = (Ch.jt sep.data.toList xs k).length + ((if k = 0 then 0 else sep.size) + (xs.getD k ByteArray.empty).size)) := fun k => by
    rw [Ch.jt, List.length_append, List.length_append, Ch.size_len]
    by_cases c : k = 0
    · simp [c]
    · rw [if_neg c, if_neg c, Ch.size_len]
  have F1 : Hid (∀ w', w' = w → (Ch.jt sep.data.toList xs xs.length).length ≤ 16777216 → LnTold sep.data.toList xs w (.returned (.int .i64 ((Ch.jt sep.data.toList xs xs.length).length : Int))) w') := fun w' hw hl =>
    ⟨_, rfl, hw, fun _ => rfl, fun c => by have : ¬ 16777216 < (Ch.jn sep.data.toList xs).length := by rw [Ch.jn]; omega
                                           exact absurd c this⟩
  have F2 : Hid (∀ k, k < xs.length → ∀ w', w' = w → 16777216 < (Ch.jt sep.data.toList xs (k + 1)).length → (Ch.jt sep.data.toList xs (k + 1)).length ≤ 562949953421312 → LnTold sep.data.toList xs w (.returned (.int .i64 ((Ch.jt sep.data.toList xs (k + 1)).length : Int))) w') := fun k hk w' hw hl hm =>
    ⟨_, rfl, hw, fun c => by have := Ch.jt_len_mono sep.data.toList xs (show k + 1 ≤ xs.length by omega); rw [Ch.jn] at c; omega, fun _ => ⟨hl, hm⟩⟩
  clear h hn hx
  generalize sep.data.toList = sp at *
  have hsi : (sep.size : Int) ≤ 140737488355328 := by omega
  go_enter Try.func22, Try.ntmps22
  go_wp2_with fail
  go_loopg [5, 10] xs.length (fun m sv iv wr => ∃ k : Nat, k + m = xs.length ∧ iv = .int .i64 (k : Int) ∧ sv = .int .i64 ((Ch.jt sp xs k).length : Int) ∧ (Ch.jt sp xs k).length ≤ 16777216 ∧ Hid (wr = w))
  case atStart => exact ⟨0, by omega, rfl, rfl, Nat.zero_le _, rfl⟩
  case round =>
    obtain ⟨k, hk, rfl, rfl, hz, hw⟩ := hrel
    by_cases kl : k < xs.length
    · have kli : (k : Int) < (xs.length : Int) := by omega
      have kb : (k : Int) ≤ 8796093022208 := by have := HN.out; omega
      obtain ⟨b, off, rfl, hc⟩ := (show TR wr a xs by rw [hw.out]; exact H.out).at k kl
      have hX := HX.out k
      have E := JS.out k
      have G := F2.out k kl
      generalize xs.getD k ByteArray.empty = x at *
      generalize hj : (Ch.jt sp xs k).length = z at *
      generalize hj2 : (Ch.jt sp xs (k + 1)).length = z2 at *
      have hZ : (z : Int) ≤ 16777216 := by omega
      have hXi : (x.size : Int) ≤ 140737488355328 := by omega
      have HJ2 := hid hj2
      clear hj hj2
      by_cases k0 : k = 0
      · rw [if_pos k0] at E
        have kz : ¬ (0 : Int) < (k : Int) := by omega
        by_cases hb : 16777216 < z2
        · have hbi : (16777216 : Int) < (z : Int) + (x.size : Int) := by omega
          have EZ : Hid ((z2 : Int) = (z : Int) + (x.size : Int)) := by rw [Hid]; omega
          have G1 := hid (G wr hw.out hb (by omega))
          clear E G hz k0 hb
          go_wp2_with fail
          go_ret
          have g := G1.out
          rw [EZ.out] at g
          exact g
        · have hbi : ¬ (16777216 : Int) < (z : Int) + (x.size : Int) := by omega
          have EZ : Hid ((z : Int) + (x.size : Int) = (z2 : Int)) := by rw [Hid]; omega
          have ZB : Hid (z2 ≤ 16777216) := by rw [Hid]; omega
          clear E G hz k0 hb
          go_wp2_with fail
          go_roundg (xs.length - (k + 1))
          case measure => omega
          case rel => exact ⟨k + 1, by omega, by go_num, by rw [HJ2.out, EZ.out], by rw [HJ2.out]; exact ZB.out, hw⟩
      · rw [if_neg k0] at E
        have kz : (0 : Int) < (k : Int) := by omega
        by_cases hb : 16777216 < z2
        · have hbi : (16777216 : Int) < (z : Int) + (sep.size : Int) + (x.size : Int) := by omega
          have EZ : Hid ((z2 : Int) = (z : Int) + (sep.size : Int) + (x.size : Int)) := by rw [Hid]; omega
          have G1 := hid (G wr hw.out hb (by omega))
          clear E G hz k0 hb
          go_wp2_with fail
          go_ret
          have g := G1.out
          rw [EZ.out] at g
          exact g
        · have hbi : ¬ (16777216 : Int) < (z : Int) + (sep.size : Int) + (x.size : Int) := by omega
          have EZ : Hid ((z : Int) + (sep.size : Int) + (x.size : Int) = (z2 : Int)) := by rw [Hid]; omega
          have ZB : Hid (z2 ≤ 16777216) := by rw [Hid]; omega
          clear E G hz k0 hb
          go_wp2_with fail
          go_roundg (xs.length - (k + 1))
          case measure => omega
          case rel => exact ⟨k + 1, by omega, by go_num, by rw [HJ2.out, EZ.out], by rw [HJ2.out]; exact ZB.out, hw⟩
    · have kli : ¬ (k : Int) < (xs.length : Int) := by omega
      have kn : k = xs.length := by omega
      have F3 : Hid (LnTold sp xs w (.returned (.int .i64 ((Ch.jt sp xs k).length : Int))) wr) := by
        have := F1.out wr hw.out
        rw [← kn] at this
        exact this hz
      clear kn hz
      generalize (Ch.jt sp xs k).length = z at *
      go_wp2_with fail
      go_ret
      exact F3.out
end Go.Proofs.Ytgliefdefklfeaa
