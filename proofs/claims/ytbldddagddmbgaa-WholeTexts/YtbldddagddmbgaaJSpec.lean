/-
  whole: has, check, checkVerb.
-/
import Derived.Test.YtbldddagddmbgaaJPadN
import Derived.Test.YtbldddagddmbgaaJLay
import Derived.Test.YtbldddagddmbgaaS4B
import Derived.Deep.LoopGhost
import Derived.Deep.RegionHeld3
import Derived.Deep.CutBlock
import Derived.OwnWalk
import Derived.Deep.CutRange
namespace Go.Proofs.Ytbldddagddmbgaa
open Go Go.RowKit Go.Deep Go.Shelf

/-- A text as the walk tells it. -/
theorem str_is {s : ByteArray} {xs : List Int} (h : Str s xs) : s = strOfNums xs := h.inj (Str.of_nums (fun _ hx => h.mem hx))

theorem bit_and (F k : Int) (h0 : 0 ≤ F) (h1 : F ≤ 31) (hk : k = 1 ∨ k = 2 ∨ k = 4 ∨ k = 8 ∨ k = 16) : (bits .and .i64 F k = 0 ∧ Wh.bit F k = false) ∨ (bits .and .i64 F k ≠ 0 ∧ Wh.bit F k = true) := by
  have key : ∀ t : Fin 32, ∀ j ∈ [(1 : Int), 2, 4, 8, 16], (bits .and .i64 (t.val : Int) j = 0 ∧ Wh.bit (t.val : Int) j = false) ∨ (bits .and .i64 (t.val : Int) j ≠ 0 ∧ Wh.bit (t.val : Int) j = true) := by decide
  have := key ⟨F.toNat, by omega⟩ k (by simp; omega)
  simp only at this
  rw [show ((F.toNat : Nat) : Int) = F by omega] at this
  exact this

set_option maxRecDepth 100000 in
theorem has_any (V F W P k : Int) (w : World) (h0 : 0 ≤ F) (h1 : F ≤ 31) (hk : k = 1 ∨ k = 2 ∨ k = 4 ∨ k = 8 ∨ k = 16) :
    Calls Try.prog 18 #[.agg #[.int .u8 V, .int .i64 F, .int .i64 W, .int .i64 P], .int .i64 k] w fun e w' => e = .returned (.bool (Wh.bit F k)) ∧ Below w.heap.size w w' := by
  have B := hid (alloc_b w (.cells #[.int .u8 V, .int .i64 F, .int .i64 W, .int .i64 P] 25))
  rcases bit_and F k h0 h1 hk with ⟨e, q⟩ | ⟨e, q⟩
  · rw [q]
    clear h0 h1 hk q
    go_enter Try.func18, Try.ntmps18
    go_wp2_with fail
    go_ret
    exact ⟨rfl, B.out⟩
  · rw [q]
    have e2 : (bits .and .i64 F k != 0) = true := by simpa using e
    clear h0 h1 hk q e
    go_enter Try.func18, Try.ntmps18
    go_wp2_with fail
    go_ret
    exact ⟨rfl, B.out⟩

set_option maxRecDepth 100000 in
theorem check_any (V F W P : Int) (w : World) :
    Calls Try.prog 17 #[.agg #[.int .u8 V, .int .i64 F, .int .i64 W, .int .i64 P]] w fun e w' => e = .returned (.int .i64 (Wh.chk F W P)) ∧ Below w.heap.size w w' := by
  have B := hid (alloc_b w (.cells #[.int .u8 V, .int .i64 F, .int .i64 W, .int .i64 P] 25))
  by_cases h : F < 0 ∨ 31 < F ∨ W < 0 ∨ P < -1
  · rw [show Wh.chk F W P = 1 from if_pos h]
    by_cases h1 : F < 0
    · clear h
      go_enter Try.func17, Try.ntmps17
      go_wp2_with fail
      go_ret
      exact ⟨rfl, B.out⟩
    · by_cases h2 : 31 < F
      · clear h
        go_enter Try.func17, Try.ntmps17
        go_wp2_with fail
        go_ret
        exact ⟨rfl, B.out⟩
      · by_cases h3 : W < 0
        · clear h
          go_enter Try.func17, Try.ntmps17
          go_wp2_with fail
          go_ret
          exact ⟨rfl, B.out⟩
        · have h4 : P < -1 := by omega
          clear h
          go_enter Try.func17, Try.ntmps17
          go_wp2_with fail
          go_ret
          exact ⟨rfl, B.out⟩
  · have h1 : ¬ F < 0 := by omega
    have h2 : ¬ 31 < F := by omega
    have h3 : ¬ W < 0 := by omega
    have h4 : ¬ P < -1 := by omega
    by_cases k : 4096 < W ∨ 4096 < P
    · rw [show Wh.chk F W P = 6 by rw [Wh.chk, if_neg h, if_pos k]]
      by_cases k1 : 4096 < W
      · clear h k
        go_enter Try.func17, Try.ntmps17
        go_wp2_with fail
        go_ret
        exact ⟨rfl, B.out⟩
      · have k2 : 4096 < P := by omega
        clear h k
        go_enter Try.func17, Try.ntmps17
        go_wp2_with fail
        go_ret
        exact ⟨rfl, B.out⟩
    · rw [show Wh.chk F W P = 0 by rw [Wh.chk, if_neg h, if_neg k]]
      have k1 : ¬ 4096 < W := by omega
      have k2 : ¬ 4096 < P := by omega
      clear h k
      go_enter Try.func17, Try.ntmps17
      go_wp2_with fail
      go_ret
      exact ⟨rfl, B.out⟩

set_option maxRecDepth 100000 in
theorem checkVerb_any (V F W P : Int) (s : ByteArray) (ok : Bool) (w : World) (hv : (Lib.indexByte s.data.toList V.toNat.toUInt8 < 0 ∧ ok = false) ∨ (0 ≤ Lib.indexByte s.data.toList V.toNat.toUInt8 ∧ ok = true)) :
    Calls Try.prog 15 #[.agg #[.int .u8 V, .int .i64 F, .int .i64 W, .int .i64 P], .string s] w fun e w' => e = .returned (.int .i64 (if ok = true then Wh.chk F W P else 140)) ∧ Below w.heap.size w w' := by
  have B := hid (alloc_b w (.cells #[.int .u8 V, .int .i64 F, .int .i64 W, .int .i64 P] 25))
  have IX := hid (fun w => Any.strings_IndexByte idxLays s V w)
  generalize Lib.indexByte s.data.toList V.toNat.toUInt8 = x at *
  rcases hv with ⟨h, rfl⟩ | ⟨h, rfl⟩
  · rw [if_neg Bool.false_ne_true]
    go_enter Try.func15, Try.ntmps15
    go_wp2_with (go_at_call 26; refine (IX.out _).mono ?_; rintro e w2 ⟨rfl, rfl⟩)
    go_ret
    exact ⟨rfl, B.out⟩
  · rw [if_pos rfl]
    have h' : ¬ x < 0 := by omega
    have CK := hid (fun w => check_any V F W P w)
    generalize Wh.chk F W P = E at *
    go_enter Try.func15, Try.ntmps15
    go_wp2_with (go_at_call 26; refine (IX.out _).mono ?_; rintro e w2 ⟨rfl, rfl⟩)
    refine (CK.out _).mono ?_
    rintro e w1 ⟨rfl, b1⟩
    have B1 := hid (below_on B.out b1)
    clear b1
    go_wp2_with fail
    go_ret
    exact ⟨rfl, B1.out⟩

set_option maxRecDepth 100000 in
/-- The verbs, by their texts. -/
theorem vb_c (V : Int) (h0 : 0 ≤ V) (h1 : V < 256) : (Lib.indexByte (⟨#[99]⟩ : ByteArray).data.toList V.toNat.toUInt8 < 0 ∧ decide (V = 99) = false) ∨ (0 ≤ Lib.indexByte (⟨#[99]⟩ : ByteArray).data.toList V.toNat.toUInt8 ∧ decide (V = 99) = true) := by
  have key : ∀ t : Fin 256, (Lib.indexByte [99] (t.val : Int).toNat.toUInt8 < 0 ∧ decide ((t.val : Int) = 99) = false) ∨ (0 ≤ Lib.indexByte [99] (t.val : Int).toNat.toUInt8 ∧ decide ((t.val : Int) = 99) = true) := by decide
  have := key ⟨V.toNat, by omega⟩
  simp only at this
  rw [show ((V.toNat : Nat) : Int) = V by omega] at this
  exact this
set_option maxRecDepth 100000 in
theorem vb_s (V : Int) (h0 : 0 ≤ V) (h1 : V < 256) : (Lib.indexByte (⟨#[115]⟩ : ByteArray).data.toList V.toNat.toUInt8 < 0 ∧ decide (V = 115) = false) ∨ (0 ≤ Lib.indexByte (⟨#[115]⟩ : ByteArray).data.toList V.toNat.toUInt8 ∧ decide (V = 115) = true) := by
  have key : ∀ t : Fin 256, (Lib.indexByte [115] (t.val : Int).toNat.toUInt8 < 0 ∧ decide ((t.val : Int) = 115) = false) ∨ (0 ≤ Lib.indexByte [115] (t.val : Int).toNat.toUInt8 ∧ decide ((t.val : Int) = 115) = true) := by decide
  have := key ⟨V.toNat, by omega⟩
  simp only at this
  rw [show ((V.toNat : Nat) : Int) = V by omega] at this
  exact this
set_option maxRecDepth 100000 in
theorem vb_di (V : Int) (h0 : 0 ≤ V) (h1 : V < 256) : (Lib.indexByte (⟨#[100, 105]⟩ : ByteArray).data.toList V.toNat.toUInt8 < 0 ∧ decide (V = 100 ∨ V = 105) = false) ∨ (0 ≤ Lib.indexByte (⟨#[100, 105]⟩ : ByteArray).data.toList V.toNat.toUInt8 ∧ decide (V = 100 ∨ V = 105) = true) := by
  have key : ∀ t : Fin 256, (Lib.indexByte [100, 105] (t.val : Int).toNat.toUInt8 < 0 ∧ decide ((t.val : Int) = 100 ∨ (t.val : Int) = 105) = false) ∨ (0 ≤ Lib.indexByte [100, 105] (t.val : Int).toNat.toUInt8 ∧ decide ((t.val : Int) = 100 ∨ (t.val : Int) = 105) = true) := by decide
  have := key ⟨V.toNat, by omega⟩
  simp only at this
  rw [show ((V.toNat : Nat) : Int) = V by omega] at this
  exact this
set_option maxRecDepth 100000 in
theorem vb_o (V : Int) (h0 : 0 ≤ V) (h1 : V < 256) : (Lib.indexByte (⟨#[111, 117, 120, 88]⟩ : ByteArray).data.toList V.toNat.toUInt8 < 0 ∧ decide (V = 111 ∨ V = 117 ∨ V = 120 ∨ V = 88) = false) ∨ (0 ≤ Lib.indexByte (⟨#[111, 117, 120, 88]⟩ : ByteArray).data.toList V.toNat.toUInt8 ∧ decide (V = 111 ∨ V = 117 ∨ V = 120 ∨ V = 88) = true) := by
  have key : ∀ t : Fin 256, (Lib.indexByte [111, 117, 120, 88] (t.val : Int).toNat.toUInt8 < 0 ∧ decide ((t.val : Int) = 111 ∨ (t.val : Int) = 117 ∨ (t.val : Int) = 120 ∨ (t.val : Int) = 88) = false) ∨ (0 ≤ Lib.indexByte [111, 117, 120, 88] (t.val : Int).toNat.toUInt8 ∧ decide ((t.val : Int) = 111 ∨ (t.val : Int) = 117 ∨ (t.val : Int) = 120 ∨ (t.val : Int) = 88) = true) := by decide
  have := key ⟨V.toNat, by omega⟩
  simp only at this
  rw [show ((V.toNat : Nat) : Int) = V by omega] at this
  exact this
end Go.Proofs.Ytbldddagddmbgaa
