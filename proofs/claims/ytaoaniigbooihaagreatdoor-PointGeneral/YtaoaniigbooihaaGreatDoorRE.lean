/-
  Texts put together: JLay, S4B, JSpec, JMem, FRep, FKept, FApi, FTop, FNearN, FCl2.
-/
import Derived.Test.YtaoaniigbooihaaGreatDoorVStr
import Derived.Shelf.Strings.Repeat
import Derived.Shelf.Small.Strs
import Derived.Test.YtaoaniigbooihaaGreatDoorV0
import Derived.Test.YtaoaniigbooihaaGreatDoorRD
import Derived.Deep.LoopGhost
import Derived.Deep.RegionHeld3
import Derived.Deep.CutBlock
import Derived.OwnWalk
import Derived.Deep.CutRange
import Derived.Laws.Concat
import Derived.Test.YtaoaniigbooihaaGreatDoorRC
import Derived.BigQuiet
namespace Go.Proofs.YtaoaniigbooihaaGreatDoor
open Go Go.RowKit Go.Deep Go.Shelf

def jren : Go.Shelf.Ren := ⟨fun | 105 => 45 | 212 => 78 | 99 => 79 | 165 => 55 | 166 => 56 | 170 => 80 | 169 => 57 | 263 => 112 | 264 => 113 | 206 => 114 | 240 => 93 | 241 => 94 | 276 => 121 | 277 => 122 | 158 => 82 | 167 => 115 | 230 => 116 | 203 => 117 | 197 => 139 | 118 => 140 | 168 => 141 | 270 => 142 | 262 => 143 | 260 => 164 | 242 => 165 | 313 => 166 | 278 => 190 | 274 => 191 | 275 => 192 | 137 => 30 | 217 => 52 | 266 => 92 | n => n, fun | 9 => 9 | 3 => 3 | 4 => 4 | 20 => 20 | 0 => 0 | 46 => 120 | 109 => 121 | 5 => 5 | 72 => 87 | 76 => 91 | 51 => 148 | 146 => 149 | 53 => 26 | 148 => 151 | 70 => 85 | 37 => 47 | 75 => 90 | 127 => 130 | 164 => 158 | 80 => 93 | 107 => 155 | 21 => 21 | 105 => 162 | 162 => 190 | 203 => 188 | 119 => 208 | 139 => 211 | 138 => 210 | 160 => 212 | 208 => 232 | 206 => 230 | n => n, fun | 13 => 2 | 3 => 3 | 4 => 4 | n => n⟩
theorem repLays : Go.Proofs.Lays.n105 Tryz.prog jren where
  mixed := by kernel_rfl
  f99 := Tryz.func79.trans (congrArg some (by kernel_rfl))
  f105 := Tryz.func45.trans (congrArg some (by kernel_rfl))
  f165 := Tryz.func55.trans (congrArg some (by kernel_rfl))
  f166 := Tryz.func56.trans (congrArg some (by kernel_rfl))
  f169 := Tryz.func57.trans (congrArg some (by kernel_rfl))
  f170 := Tryz.func80.trans (congrArg some (by kernel_rfl))
  f206 := Tryz.func114.trans (congrArg some (by kernel_rfl))
  f212 := Tryz.func78.trans (congrArg some (by kernel_rfl))
  f240 := Tryz.func93.trans (congrArg some (by kernel_rfl))
  f241 := Tryz.func94.trans (congrArg some (by kernel_rfl))
  f263 := Tryz.func112.trans (congrArg some (by kernel_rfl))
  f264 := Tryz.func113.trans (congrArg some (by kernel_rfl))
  f276 := Tryz.func121.trans (congrArg some (by kernel_rfl))
  f277 := Tryz.func122.trans (congrArg some (by kernel_rfl))
  t0 := by kernel_rfl
  a0 := fun _ => by kernel_rfl
  z0 := fun _ => by kernel_rfl
  v0 := fun _ => by kernel_rfl
  t3 := by kernel_rfl
  a3 := fun _ => by kernel_rfl
  z3 := fun _ => by kernel_rfl
  v3 := fun _ => by kernel_rfl
  t4 := by kernel_rfl
  a4 := fun _ => by kernel_rfl
  z4 := fun _ => by kernel_rfl
  v4 := fun _ => by kernel_rfl
  t5 := by kernel_rfl
  a5 := fun _ => by kernel_rfl
  z5 := fun _ => by kernel_rfl
  v5 := fun _ => by kernel_rfl
  t9 := by kernel_rfl
  a9 := fun _ => by kernel_rfl
  z9 := fun _ => by kernel_rfl
  v9 := fun _ => by kernel_rfl
  t20 := by kernel_rfl
  a20 := fun _ => by kernel_rfl
  z20 := fun _ => by kernel_rfl
  v20 := fun _ => by kernel_rfl
  t37 := by kernel_rfl
  a37 := fun _ => by kernel_rfl
  z37 := fun _ => by kernel_rfl
  v37 := fun _ => by kernel_rfl
  t46 := by kernel_rfl
  a46 := fun _ => by kernel_rfl
  z46 := fun _ => by kernel_rfl
  v46 := fun _ => by kernel_rfl
  t51 := by kernel_rfl
  a51 := fun _ => by kernel_rfl
  z51 := fun _ => by kernel_rfl
  v51 := fun _ => by kernel_rfl
  t53 := by kernel_rfl
  a53 := fun _ => by kernel_rfl
  z53 := fun _ => by kernel_rfl
  v53 := fun _ => by kernel_rfl
  t70 := by kernel_rfl
  a70 := fun _ => by kernel_rfl
  z70 := fun _ => by kernel_rfl
  v70 := fun _ => by kernel_rfl
  t72 := by kernel_rfl
  a72 := fun _ => by kernel_rfl
  z72 := fun _ => by kernel_rfl
  v72 := fun _ => by kernel_rfl
  t75 := by kernel_rfl
  a75 := fun _ => by kernel_rfl
  z75 := fun _ => by kernel_rfl
  v75 := fun _ => by kernel_rfl
  t76 := by kernel_rfl
  a76 := fun _ => by kernel_rfl
  z76 := fun _ => by kernel_rfl
  v76 := fun _ => by kernel_rfl
  t109 := by kernel_rfl
  a109 := fun _ => by kernel_rfl
  z109 := fun _ => by kernel_rfl
  v109 := fun _ => by kernel_rfl
  t127 := by kernel_rfl
  a127 := fun _ => by kernel_rfl
  z127 := fun _ => by kernel_rfl
  v127 := fun _ => by kernel_rfl
  t146 := by kernel_rfl
  a146 := fun _ => by kernel_rfl
  z146 := fun _ => by kernel_rfl
  v146 := fun _ => by kernel_rfl
  t148 := by kernel_rfl
  a148 := fun _ => by kernel_rfl
  z148 := fun _ => by kernel_rfl
  v148 := fun _ => by kernel_rfl
  t164 := by kernel_rfl
  a164 := fun _ => by kernel_rfl
  z164 := fun _ => by kernel_rfl
  v164 := fun _ => by kernel_rfl
theorem jwsLays : Go.Proofs.Lays.n166 Tryz.prog jren where
  mixed := by kernel_rfl
  f166 := Tryz.func56.trans (congrArg some (by kernel_rfl))
  f240 := Tryz.func93.trans (congrArg some (by kernel_rfl))
  f276 := Tryz.func121.trans (congrArg some (by kernel_rfl))
  t0 := by kernel_rfl
  a0 := fun _ => by kernel_rfl
  z0 := fun _ => by kernel_rfl
  v0 := fun _ => by kernel_rfl
  t3 := by kernel_rfl
  a3 := fun _ => by kernel_rfl
  z3 := fun _ => by kernel_rfl
  v3 := fun _ => by kernel_rfl
  t4 := by kernel_rfl
  a4 := fun _ => by kernel_rfl
  z4 := fun _ => by kernel_rfl
  v4 := fun _ => by kernel_rfl
  t9 := by kernel_rfl
  a9 := fun _ => by kernel_rfl
  z9 := fun _ => by kernel_rfl
  v9 := fun _ => by kernel_rfl
  t20 := by kernel_rfl
  a20 := fun _ => by kernel_rfl
  z20 := fun _ => by kernel_rfl
  v20 := fun _ => by kernel_rfl
  t37 := by kernel_rfl
  a37 := fun _ => by kernel_rfl
  z37 := fun _ => by kernel_rfl
  v37 := fun _ => by kernel_rfl
  t70 := by kernel_rfl
  a70 := fun _ => by kernel_rfl
  z70 := fun _ => by kernel_rfl
  v70 := fun _ => by kernel_rfl
  t72 := by kernel_rfl
  a72 := fun _ => by kernel_rfl
  z72 := fun _ => by kernel_rfl
  v72 := fun _ => by kernel_rfl
  t75 := by kernel_rfl
  a75 := fun _ => by kernel_rfl
  z75 := fun _ => by kernel_rfl
  v75 := fun _ => by kernel_rfl
  t164 := by kernel_rfl
  a164 := fun _ => by kernel_rfl
  z164 := fun _ => by kernel_rfl
  v164 := fun _ => by kernel_rfl
theorem idxLays : Go.Proofs.Lays.n137 Tryz.prog jren where
  mixed := by kernel_rfl
  f137 := Tryz.func30.trans (congrArg some (by kernel_rfl))
  f217 := Tryz.func52.trans (congrArg some (by kernel_rfl))
  f266 := Tryz.func92.trans (congrArg some (by kernel_rfl))
  t3 := by kernel_rfl
  a3 := fun _ => by kernel_rfl
  z3 := fun _ => by kernel_rfl
  v3 := fun _ => by kernel_rfl
  t5 := by kernel_rfl
  a5 := fun _ => by kernel_rfl
  z5 := fun _ => by kernel_rfl
  v5 := fun _ => by kernel_rfl
  t9 := by kernel_rfl
  a9 := fun _ => by kernel_rfl
  z9 := fun _ => by kernel_rfl
  v9 := fun _ => by kernel_rfl
theorem jExtra : Builder.Extra Tryz.prog jren where
  sizeBuilder := by kernel_rfl
  liesBuilder := by kernel_rfl
  t5 := by kernel_rfl
  a5 := fun _ => by kernel_rfl
  z5 := fun _ => by kernel_rfl
  v5 := fun _ => by kernel_rfl
  infoByte := by kernel_rfl
  cellsByte := by kernel_rfl
  sizeByte := by kernel_rfl
  neB5 := by decide
end Go.Proofs.YtaoaniigbooihaaGreatDoor

namespace Go.Proofs.YtaoaniigbooihaaGreatDoor
open Go Go.RowKit Go.Deep

/-- Four cells that may be written. -/
def S4 (w : World) (b : Nat) (v0 v1 v2 v3 : Value) : Prop := w.heap[b]? = some (.cells #[v0, v1, v2, v3] 25 (0, 0))
theorem S4.new (w : World) (v0 v1 v2 v3 : Value) : S4 (w.alloc (.cells #[v0, v1, v2, v3] 25)) w.heap.size v0 v1 v2 v3 := heap_alloc_new w _
theorem S4.lt {w : World} {b : Nat} {v0 v1 v2 v3 : Value} (h : S4 w b v0 v1 v2 v3) : b < w.heap.size := by
  rcases Nat.lt_or_ge b w.heap.size with hl | hl
  · exact hl
  · simp [S4, Array.getElem?_eq_none hl] at h
theorem S4.below {w w' : World} {b : Nat} {v0 v1 v2 v3 : Value} (h : S4 w b v0 v1 v2 v3) (hB : Below w.heap.size w w') : S4 w' b v0 v1 v2 v3 := by
  rw [S4, hB.block b h.lt]; exact h
theorem S4.cells {w : World} {b : Nat} {v0 v1 v2 v3 : Value} (h : S4 w b v0 v1 v2 v3) :
    (w.cell? ⟨b, 0, none⟩ = some v0 ∧ w.cell? ⟨b, 1, none⟩ = some v1 ∧ w.cell? ⟨b, 2, none⟩ = some v2 ∧ w.cell? ⟨b, 3, none⟩ = some v3) ∧
    (w.frozen? ⟨b, 0, none⟩ = false ∧ w.frozen? ⟨b, 1, none⟩ = false ∧ w.frozen? ⟨b, 2, none⟩ = false ∧ w.frozen? ⟨b, 3, none⟩ = false) := by
  simp only [S4] at h
  refine ⟨⟨?_, ?_, ?_, ?_⟩, ⟨?_, ?_, ?_, ?_⟩⟩ <;> simp [World.cell?, World.frozen?, h]

/-- A Spec's box among what stays. -/
structure SB (w0 : World) (bx : Nat) (V F W P : Int) (wk : World) : Prop where
  bel : Below w0.heap.size w0 wk
  box : S4 wk bx (.int .u8 V) (.int .i64 F) (.int .i64 W) (.int .i64 P)
theorem SB.new (w : World) (V F W P : Int) : SB w w.heap.size V F W P (w.alloc (.cells #[.int .u8 V, .int .i64 F, .int .i64 W, .int .i64 P] 25)) := ⟨alloc_b w _, S4.new w _ _ _ _⟩
theorem SB.on {w0 wk w' : World} {bx : Nat} {V F W P : Int} (h : SB w0 bx V F W P wk) (k : Below wk.heap.size wk w') : SB w0 bx V F W P w' := ⟨below_on h.bel k, h.box.below k⟩
theorem SB.drew {w0 wk : World} {bx : Nat} {V F W P : Int} (h : SB w0 bx V F W P wk) : SB w0 bx V F W P wk.drew := ⟨h.bel.drew, h.box⟩
theorem SB.flat {w0 wk : World} {bx : Nat} {V F W P : Int} (h : SB w0 bx V F W P wk) : wk.cell? ⟨bx, 0, none⟩ = some (.int .u8 V) ∧ wk.cell? ⟨bx, 1, none⟩ = some (.int .i64 F) ∧ wk.cell? ⟨bx, 2, none⟩ = some (.int .i64 W) ∧ wk.cell? ⟨bx, 3, none⟩ = some (.int .i64 P) := h.box.cells.1
end Go.Proofs.YtaoaniigbooihaaGreatDoor

namespace Go.Proofs.YtaoaniigbooihaaGreatDoor
open Go Go.RowKit Go.Deep Go.Shelf

/-- A text as the walk tells it. -/
theorem str_is {s : ByteArray} {xs : List Int} (h : Str s xs) : s = strOfNums xs := h.inj (Str.of_nums (fun _ hx => h.mem hx))

theorem bit_and (F k : Int) (h0 : 0 ≤ F) (h1 : F ≤ 31) (hk : k = 1 ∨ k = 2 ∨ k = 4 ∨ k = 8 ∨ k = 16) : (bits .and .i64 F k = 0 ∧ Wh.bit F k = false) ∨ (bits .and .i64 F k ≠ 0 ∧ Wh.bit F k = true) := by
  have key : ∀ t : Fin 32, ∀ j ∈ [(1 : Int), 2, 4, 8, 16], (bits .and .i64 (t.val : Int) j = 0 ∧ Wh.bit (t.val : Int) j = false) ∨ (bits .and .i64 (t.val : Int) j ≠ 0 ∧ Wh.bit (t.val : Int) j = true) := by decide
  have := key ⟨F.toNat, by omega⟩ k (by simp; omega)
  simp only at this
  rw [show ((F.toNat : Nat) : Int) = F by omega] at this
  exact this

set_option maxRecDepth 100000 in
theorem has_any (V F W P k : Int) (w : World) (h0 : 0 ≤ F) (h1 : F ≤ 31) (hk : k = 1 ∨ k = 2 ∨ k = 4 ∨ k = 8 ∨ k = 16) :
    Calls Tryz.prog 54 #[.agg #[.int .u8 V, .int .i64 F, .int .i64 W, .int .i64 P], .int .i64 k] w fun e w' => e = .returned (.bool (Wh.bit F k)) ∧ Below w.heap.size w w' := by
  have B := hid (alloc_b w (.cells #[.int .u8 V, .int .i64 F, .int .i64 W, .int .i64 P] 25))
  rcases bit_and F k h0 h1 hk with ⟨e, q⟩ | ⟨e, q⟩
  · rw [q]
    clear h0 h1 hk q
    go_enter Tryz.func54, Tryz.ntmps54
    go_wp2_with fail
    go_ret
    exact ⟨rfl, B.out⟩
  · rw [q]
    have e2 : (bits .and .i64 F k != 0) = true := by simpa using e
    clear h0 h1 hk q e
    go_enter Tryz.func54, Tryz.ntmps54
    go_wp2_with fail
    go_ret
    exact ⟨rfl, B.out⟩

set_option maxRecDepth 100000 in
theorem check_any (V F W P : Int) (w : World) :
    Calls Tryz.prog 53 #[.agg #[.int .u8 V, .int .i64 F, .int .i64 W, .int .i64 P]] w fun e w' => e = .returned (.int .i64 (Wh.chk F W P)) ∧ Below w.heap.size w w' := by
  have B := hid (alloc_b w (.cells #[.int .u8 V, .int .i64 F, .int .i64 W, .int .i64 P] 25))
  by_cases h : F < 0 ∨ 31 < F ∨ W < 0 ∨ P < -1
  · rw [show Wh.chk F W P = 1 from if_pos h]
    by_cases h1 : F < 0
    · clear h
      go_enter Tryz.func53, Tryz.ntmps53
      go_wp2_with fail
      go_ret
      exact ⟨rfl, B.out⟩
    · by_cases h2 : 31 < F
      · clear h
        go_enter Tryz.func53, Tryz.ntmps53
        go_wp2_with fail
        go_ret
        exact ⟨rfl, B.out⟩
      · by_cases h3 : W < 0
        · clear h
          go_enter Tryz.func53, Tryz.ntmps53
          go_wp2_with fail
          go_ret
          exact ⟨rfl, B.out⟩
        · have h4 : P < -1 := by omega
          clear h
          go_enter Tryz.func53, Tryz.ntmps53
          go_wp2_with fail
          go_ret
          exact ⟨rfl, B.out⟩
  · have h1 : ¬ F < 0 := by omega
    have h2 : ¬ 31 < F := by omega
    have h3 : ¬ W < 0 := by omega
    have h4 : ¬ P < -1 := by omega
    by_cases k : 4096 < W ∨ 4096 < P
    · rw [show Wh.chk F W P = 6 by rw [Wh.chk, if_neg h, if_pos k]]
      by_cases k1 : 4096 < W
      · clear h k
        go_enter Tryz.func53, Tryz.ntmps53
        go_wp2_with fail
        go_ret
        exact ⟨rfl, B.out⟩
      · have k2 : 4096 < P := by omega
        clear h k
        go_enter Tryz.func53, Tryz.ntmps53
        go_wp2_with fail
        go_ret
        exact ⟨rfl, B.out⟩
    · rw [show Wh.chk F W P = 0 by rw [Wh.chk, if_neg h, if_neg k]]
      have k1 : ¬ 4096 < W := by omega
      have k2 : ¬ 4096 < P := by omega
      clear h k
      go_enter Tryz.func53, Tryz.ntmps53
      go_wp2_with fail
      go_ret
      exact ⟨rfl, B.out⟩

set_option maxRecDepth 100000 in
theorem checkVerb_any (V F W P : Int) (s : ByteArray) (ok : Bool) (w : World) (hv : (Lib.indexByte s.data.toList V.toNat.toUInt8 < 0 ∧ ok = false) ∨ (0 ≤ Lib.indexByte s.data.toList V.toNat.toUInt8 ∧ ok = true)) :
    Calls Tryz.prog 150 #[.agg #[.int .u8 V, .int .i64 F, .int .i64 W, .int .i64 P], .string s] w fun e w' => e = .returned (.int .i64 (if ok = true then Wh.chk F W P else 140)) ∧ Below w.heap.size w w' := by
  have B := hid (alloc_b w (.cells #[.int .u8 V, .int .i64 F, .int .i64 W, .int .i64 P] 25))
  have IX := hid (fun w => Any.strings_IndexByte idxLays s V w)
  generalize Lib.indexByte s.data.toList V.toNat.toUInt8 = x at *
  rcases hv with ⟨h, rfl⟩ | ⟨h, rfl⟩
  · rw [if_neg Bool.false_ne_true]
    go_enter Tryz.func150, Tryz.ntmps150
    go_wp2_with (go_at_call 30; refine (IX.out _).mono ?_; rintro e w2 ⟨rfl, rfl⟩)
    go_ret
    exact ⟨rfl, B.out⟩
  · rw [if_pos rfl]
    have h' : ¬ x < 0 := by omega
    have CK := hid (fun w => check_any V F W P w)
    generalize Wh.chk F W P = E at *
    go_enter Tryz.func150, Tryz.ntmps150
    go_wp2_with (go_at_call 30; refine (IX.out _).mono ?_; rintro e w2 ⟨rfl, rfl⟩)
    refine (CK.out _).mono ?_
    rintro e w1 ⟨rfl, b1⟩
    have B1 := hid (below_on B.out b1)
    clear b1
    go_wp2_with fail
    go_ret
    exact ⟨rfl, B1.out⟩

set_option maxRecDepth 100000 in
/-- The verbs, by their texts. -/
theorem vb_c (V : Int) (h0 : 0 ≤ V) (h1 : V < 256) : (Lib.indexByte (⟨#[99]⟩ : ByteArray).data.toList V.toNat.toUInt8 < 0 ∧ decide (V = 99) = false) ∨ (0 ≤ Lib.indexByte (⟨#[99]⟩ : ByteArray).data.toList V.toNat.toUInt8 ∧ decide (V = 99) = true) := by
  have key : ∀ t : Fin 256, (Lib.indexByte [99] (t.val : Int).toNat.toUInt8 < 0 ∧ decide ((t.val : Int) = 99) = false) ∨ (0 ≤ Lib.indexByte [99] (t.val : Int).toNat.toUInt8 ∧ decide ((t.val : Int) = 99) = true) := by decide
  have := key ⟨V.toNat, by omega⟩
  simp only at this
  rw [show ((V.toNat : Nat) : Int) = V by omega] at this
  exact this
set_option maxRecDepth 100000 in
theorem vb_s (V : Int) (h0 : 0 ≤ V) (h1 : V < 256) : (Lib.indexByte (⟨#[115]⟩ : ByteArray).data.toList V.toNat.toUInt8 < 0 ∧ decide (V = 115) = false) ∨ (0 ≤ Lib.indexByte (⟨#[115]⟩ : ByteArray).data.toList V.toNat.toUInt8 ∧ decide (V = 115) = true) := by
  have key : ∀ t : Fin 256, (Lib.indexByte [115] (t.val : Int).toNat.toUInt8 < 0 ∧ decide ((t.val : Int) = 115) = false) ∨ (0 ≤ Lib.indexByte [115] (t.val : Int).toNat.toUInt8 ∧ decide ((t.val : Int) = 115) = true) := by decide
  have := key ⟨V.toNat, by omega⟩
  simp only at this
  rw [show ((V.toNat : Nat) : Int) = V by omega] at this
  exact this
set_option maxRecDepth 100000 in
theorem vb_di (V : Int) (h0 : 0 ≤ V) (h1 : V < 256) : (Lib.indexByte (⟨#[100, 105]⟩ : ByteArray).data.toList V.toNat.toUInt8 < 0 ∧ decide (V = 100 ∨ V = 105) = false) ∨ (0 ≤ Lib.indexByte (⟨#[100, 105]⟩ : ByteArray).data.toList V.toNat.toUInt8 ∧ decide (V = 100 ∨ V = 105) = true) := by
  have key : ∀ t : Fin 256, (Lib.indexByte [100, 105] (t.val : Int).toNat.toUInt8 < 0 ∧ decide ((t.val : Int) = 100 ∨ (t.val : Int) = 105) = false) ∨ (0 ≤ Lib.indexByte [100, 105] (t.val : Int).toNat.toUInt8 ∧ decide ((t.val : Int) = 100 ∨ (t.val : Int) = 105) = true) := by decide
  have := key ⟨V.toNat, by omega⟩
  simp only at this
  rw [show ((V.toNat : Nat) : Int) = V by omega] at this
  exact this
set_option maxRecDepth 100000 in
theorem vb_o (V : Int) (h0 : 0 ≤ V) (h1 : V < 256) : (Lib.indexByte (⟨#[111, 117, 120, 88]⟩ : ByteArray).data.toList V.toNat.toUInt8 < 0 ∧ decide (V = 111 ∨ V = 117 ∨ V = 120 ∨ V = 88) = false) ∨ (0 ≤ Lib.indexByte (⟨#[111, 117, 120, 88]⟩ : ByteArray).data.toList V.toNat.toUInt8 ∧ decide (V = 111 ∨ V = 117 ∨ V = 120 ∨ V = 88) = true) := by
  have key : ∀ t : Fin 256, (Lib.indexByte [111, 117, 120, 88] (t.val : Int).toNat.toUInt8 < 0 ∧ decide ((t.val : Int) = 111 ∨ (t.val : Int) = 117 ∨ (t.val : Int) = 120 ∨ (t.val : Int) = 88) = false) ∨ (0 ≤ Lib.indexByte [111, 117, 120, 88] (t.val : Int).toNat.toUInt8 ∧ decide ((t.val : Int) = 111 ∨ (t.val : Int) = 117 ∨ (t.val : Int) = 120 ∨ (t.val : Int) = 88) = true) := by decide
  have := key ⟨V.toNat, by omega⟩
  simp only at this
  rw [show ((V.toNat : Nat) : Int) = V by omega] at this
  exact this
end Go.Proofs.YtaoaniigbooihaaGreatDoor

namespace Go.Proofs.YtaoaniigbooihaaGreatDoor
open Go Go.RowKit Go.Deep Go.Shelf

theorem ret_str {a b : ByteArray} (h : a = b) : Ending.returned (.string a) = .returned (.string b) := by rw [h]
theorem str_cells {s : ByteArray} {xs : List Int} (h : Str s xs) : Lib.strCells s = xs.map (Value.int .u8) := by
  rw [← h, List.map_map]; rfl
def IsB (B b : Nat) (zs : List Int) (w : World) : Prop := Lib.IsBuilder 87 5 B b (zs.map (Value.int .u8)) w
theorem IsB.below {B b : Nat} {zs : List Int} {w w' : World} (h : IsB B b zs w) (k : Below w.heap.size w w') : IsB B b zs w' := by
  have key : ∀ p, Lib.BuilderAt 87 5 B b p (zs.map (Value.int .u8)) w → Lib.BuilderAt 87 5 B b p (zs.map (Value.int .u8)) w' := by
    rintro p ⟨h1, v, h2, h3, h4⟩
    have hl : b < w.heap.size := by
      rcases Nat.lt_or_ge b w.heap.size with c | c
      · exact c
      · simp [Array.getElem?_eq_none c] at h2
    exact ⟨h1, v, by rw [k.block b hl]; exact h2, World.ownsRow.kept (row := none) h3 ⟨k.os, k.tape, k.output, k.size, fun j hj _ => k.block j hj⟩ (by cases h : Value.ownBlock v <;> simp), h4⟩
  rcases h with h | h
  · exact .inl (key _ h)
  · exact .inr (key _ h)
theorem bwrite_any (B b : Nat) (zs xs : List Int) (s : ByteArray) (w : World) (h : IsB B b zs w) (hs : Str s xs) (hl : zs.length + xs.length ≤ 140737488355328) (hB : B ≤ w.heap.size) : Calls Tryz.prog 56 #[.pointer (some ⟨b, 0, none⟩), .string s] w fun e w' => e = .returned (.tuple #[.int .i64 s.size, .nilIface]) ∧ IsB B b (zs ++ xs) w' ∧ Below B w w' := by
  have q := Any.Builder_WriteString jwsLays jExtra B b (zs.map (Value.int .u8)) s w h (by have := hs.size; rw [List.length_map]; omega) hB
  rw [str_cells hs, ← List.map_append] at q
  refine q.mono ?_
  rintro e w' ⟨rfl, h1, h2⟩
  exact ⟨rfl, .inr h1, h2⟩
theorem bstr_any (B b : Nat) (zs : List Int) (w : World) (h : IsB B b zs w) (hz : ∀ x ∈ zs, 0 ≤ x ∧ x < 256) (hB : B ≤ w.heap.size) : Calls Tryz.prog 57 #[.pointer (some ⟨b, 0, none⟩)] w fun e w' => e = .returned (.string (strOfNums zs)) ∧ Below B w w' := by
  have S := Str.of_nums hz
  have e1 : zs.map (Value.int .u8) = Lib.byteCells (strOfNums zs).data.toList := by rw [← str_cells S]; rfl
  have h' : Lib.IsBuilder 87 5 B b (Lib.byteCells (strOfNums zs).data.toList) w := by rw [← e1]; exact h
  have q := Any.Builder_String_any { repLays with } jExtra B b (strOfNums zs).data.toList w h' hB
  have e2 : (⟨(strOfNums zs).data.toList.toArray⟩ : ByteArray) = strOfNums zs := by simp
  rw [e2] at q
  exact q
theorem bgrow_any (B b n : Nat) (w : World) (hB : B ≤ b) (hbk : w.heap[b]? = some (.cells #[.pointer none, .slice none 0 0] 87 (0, 0))) (hBw : B ≤ w.heap.size) (hn : n ≤ 281474976710656) : Calls Tryz.prog 55 #[.pointer (some ⟨b, 0, none⟩), .int .i64 n] w fun e w' => e = .returned (.tuple #[]) ∧ IsB B b [] w' ∧ Below B w w' := by
  refine (Any.Builder_Grow_fresh { repLays with } jExtra B b n w hB hbk hBw hn).mono ?_
  rintro e w' ⟨rfl, h1, h2⟩
  exact ⟨rfl, .inr h1, h2⟩

theorem rep_str (c : UInt8) (k : Nat) : Str ⟨(Lib.repeatL (#[c] : Array UInt8).toList k).toArray⟩ (List.replicate k (c.toNat : Int)) := by
  unfold Str
  simp only
  induction k with
  | zero => rfl
  | succ k ih =>
    rw [Lib.repeatL, List.replicate_succ]
    simpa using ih
theorem jrep (c : UInt8) (n : Nat) (w : World) (hn : n ≤ 100000) : Calls Tryz.prog 45 #[.string ⟨#[c]⟩, .int .i64 (n : Int)] w fun e w' => e = .returned (.string (strOfNums (Wh.rep (c.toNat : Int) (n : Int)))) ∧ Below w.heap.size w w' := by
  refine (Any.strings_Repeat repLays jExtra ⟨#[c]⟩ n w (by omega) (by have : (⟨#[c]⟩ : ByteArray).size = 1 := rfl; rw [this]; omega)).mono ?_
  rintro e w' ⟨rfl, hB⟩
  refine ⟨?_, hB⟩
  rw [Wh.rep, Int.toNat_natCast, ← str_is (rep_str c n)]
theorem jrep32 (n : Nat) (w : World) (hn : n ≤ 100000) : Calls Tryz.prog 45 #[.string ⟨#[32]⟩, .int .i64 (n : Int)] w fun e w' => e = .returned (.string (strOfNums (Wh.rep 32 (n : Int)))) ∧ Below w.heap.size w w' := jrep 32 n w hn
theorem jrep48 (n : Nat) (w : World) (hn : n ≤ 100000) : Calls Tryz.prog 45 #[.string ⟨#[48]⟩, .int .i64 (n : Int)] w fun e w' => e = .returned (.string (strOfNums (Wh.rep 48 (n : Int)))) ∧ Below w.heap.size w w' := jrep 48 n w hn

/-- A Builder of our own among what is new. -/
structure PS (w0 : World) (bb : Nat) (zs : List Int) (wk : World) : Prop where
  bel : Below w0.heap.size w0 wk
  isb : IsB bb bb zs wk
  sz : bb ≤ wk.heap.size
  lo : w0.heap.size ≤ bb
theorem PS.on {w0 wk w' : World} {bb : Nat} {zs : List Int} (h : PS w0 bb zs wk) (k : Below wk.heap.size wk w') : PS w0 bb zs w' :=
  ⟨below_on h.bel k, h.isb.below k, Nat.le_trans h.sz k.size, h.lo⟩
theorem PS.write {w0 wk : World} {bb : Nat} {zs : List Int} (h : PS w0 bb zs wk) (xs : List Int) (hx : Wh.By xs) (hl : zs.length + xs.length ≤ 140737488355328) :
    Calls Tryz.prog 56 #[.pointer (some ⟨bb, 0, none⟩), .string (strOfNums xs)] wk fun e w' => e = .returned (.tuple #[.int .i64 (strOfNums xs).size, .nilIface]) ∧ PS w0 bb (zs ++ xs) w' := by
  refine (bwrite_any bb bb zs xs _ wk h.isb (Str.of_nums hx) hl h.sz).mono ?_
  rintro e w' ⟨rfl, i, b⟩
  exact ⟨rfl, h.bel.trans (b.mono h.lo), i, Nat.le_trans h.sz b.size, h.lo⟩
theorem PS.str {w0 wk : World} {bb : Nat} {zs : List Int} (h : PS w0 bb zs wk) (hz : Wh.By zs) :
    Calls Tryz.prog 57 #[.pointer (some ⟨bb, 0, none⟩)] wk fun e w' => e = .returned (.string (strOfNums zs)) ∧ Below w0.heap.size w0 w' := by
  refine (bstr_any bb bb zs wk h.isb hz h.sz).mono ?_
  rintro e w' ⟨rfl, b⟩
  exact ⟨rfl, h.bel.trans (b.mono h.lo)⟩
theorem PS.grow {w0 w1 : World} (n : Nat) (h : Below w0.heap.size w0 w1) (hn : n ≤ 281474976710656) :
    Calls Tryz.prog 55 #[.pointer (some ⟨w1.heap.size, 0, none⟩), .int .i64 (n : Int)] (w1.alloc (.cells #[.pointer none, .slice none 0 0] 87)) fun e w' => e = .returned (.tuple #[]) ∧ PS w0 w1.heap.size [] w' := by
  have A := alloc_b w1 (.cells #[.pointer none, .slice none 0 0] 87)
  refine (bgrow_any w1.heap.size w1.heap.size n _ (Nat.le_refl _) (heap_alloc_new w1 _) A.size hn).mono ?_
  rintro e w' ⟨rfl, i, b⟩
  exact ⟨rfl, below_on h A |>.trans (b.mono h.size), i, Nat.le_trans A.size b.size, h.size⟩
end Go.Proofs.YtaoaniigbooihaaGreatDoor

namespace Go.Proofs.YtaoaniigbooihaaGreatDoor
open Go.RowKit Go.Deep Go.Shelf
theorem frepeat_any (c : Nat) (w : World) (hc : c ≤ 100000) :
    Calls Tryz.prog 45 #[.string ⟨#[48]⟩, .int .i64 (c : Int)] w fun e w' => ∃ s, e = .returned (.string s) ∧ Str s (List.replicate c 48) ∧ Below w.heap.size w w' := by
  refine (jrep48 c w hc).mono ?_
  rintro e w' ⟨rfl, hB⟩
  exact ⟨_, rfl, by have q := Str.of_nums (Wh.By.rep (c := 48) (n := (c : Int)) (by omega)); rw [Wh.rep, Int.toNat_natCast] at q ⊢; exact q, hB⟩
end Go.Proofs.YtaoaniigbooihaaGreatDoor

namespace Go.Proofs.YtaoaniigbooihaaGreatDoor
open Go Go.RowKit Go.Deep

theorem Str.app {a b : ByteArray} {xs ys : List Int} (h : Str a xs) (k : Str b ys) : Str (a ++ b) (xs ++ ys) := by
  unfold Str at *
  rw [← h, ← k, ← List.map_append]
  simp

theorem str_one : Str ⟨#[49]⟩ [49] := rfl

set_option maxRecDepth 100000 in
set_option maxHeartbeats 2000000 in
theorem kept_any (s : ByteArray) (xs : List Int) (c : Int) (w : World) (hs : Str s xs) (hd : Digs xs) (h0 : xs ≠ []) (hl : xs.length ≤ 3000) (hc : c ≤ 10000) :
    Calls Tryz.prog 44 #[.string s, .int .i64 c] w fun e w' => ∃ s', e = .returned (.string s') ∧ Str s' (Fx.kp xs c) ∧ Below w.heap.size w w' := by
  by_cases hn : c < 0
  · have F : Hid (Str ⟨#[]⟩ (Fx.kp xs c)) := by rw [Fx.kp_neg hn]; rfl
    clear hs hd h0 hl
    go_enter Tryz.func44, Tryz.ntmps44
    go_wp2_with fail
    go_ret
    exact ⟨_, rfl, F.out, Below.refl _ _⟩
  · obtain ⟨k, rfl⟩ := Int.eq_ofNat_of_zero_le (show 0 ≤ c by omega)
    have R := hid (round_any s xs k false w hs h0 hd (by omega) (by omega) (by omega))
    by_cases hg : xs.length ≤ k
    · obtain ⟨z, hz⟩ : ∃ z : Nat, (k : Int) - (s.size : Int) = (z : Int) := ⟨k - s.size, by rw [hs.size]; omega⟩
      have RE := hid (fun wx : World => frepeat_any z wx (by omega))
      have szb : (s.size : Int) ≤ 3000 := by rw [hs.size]; omega
      have kb : (k : Int) ≤ 10000 := hc
      have F : Hid (∀ b : ByteArray, Str b (List.replicate z 48) → Str (s ++ b) (Fx.kp xs k)) := by
        intro b hb
        rw [Fx.kp_full hg, show k - xs.length = z by have := hs.size; omega]
        exact hs.app hb
      have RT : Hid (∀ e, RoundTold s xs k false e → e = .returned (.tuple #[.string s, .bool false, .int .i64 0])) := fun e h => h.1 (by omega)
      clear hs hd h0 hl hg hn hc
      go_enter Tryz.func44, Tryz.ntmps44
      go_wp2_with fail
      refine R.out.mono ?_
      rintro e w1 ⟨h, B1⟩
      obtain rfl := RT.out e h
      have HB := hid B1
      clear h B1 RT R
      go_wp2_with fail
      refine (RE.out _).mono ?_
      rintro e w2 ⟨b, rfl, hb, B2⟩
      have K := hid (And.intro (F.out b hb) (HB.out.trans (B2.mono HB.out.size)))
      have szc : (b.size : Int) ≤ 10000 := by rw [hb.size, List.length_replicate]; omega
      clear hb B2 RE F HB
      go_wp2_with fail
      go_ret
      exact ⟨_, rfl, K.out.1, K.out.2⟩
    · have hk : k < xs.length := by omega
      have RE := hid (fun wx : World => frepeat_any 0 wx (by omega))
      have kb : (k : Int) ≤ 10000 := hc
      have RT : Hid (∀ e, RoundTold s xs k false e → ∃ s' c, e = .returned (.tuple #[.string s', .bool c, .int .i64 0]) ∧ s'.size = k ∧ Hid (∀ b, Str b [] → if c = true then Str (⟨#[49]⟩ ++ (s' ++ b)) (Fx.kp xs k) else Str (s' ++ b) (Fx.kp xs k))) := by
        intro e h
        obtain ⟨s', ds, c, rfl, h1, h2⟩ := h.2 (by omega)
        rw [Int.toNat_natCast] at h2
        refine ⟨s', c, rfl, by rw [h1.size, h2.2.1], fun b hb => ?_⟩
        have q := Fx.rd_round hd (by omega) h2
        rw [Fx.kp_cut hk, ← q]
        have a := h1.app hb
        rw [List.append_nil] at a
        cases c
        · exact a
        · exact str_one.app a
      clear hs hd h0 hl hg hn hc hk
      go_enter Tryz.func44, Tryz.ntmps44
      go_wp2_with fail
      refine R.out.mono ?_
      rintro e w1 ⟨h, B1⟩
      obtain ⟨s', c, rfl, hz, F⟩ := RT.out e h
      have HB := hid B1
      clear h B1 RT R
      go_wp2_with fail
      refine (RE.out _).mono ?_
      rintro e w2 ⟨b, rfl, hb, B2⟩
      have K := hid (F.out b hb)
      have HB2 := hid (HB.out.trans (B2.mono HB.out.size))
      have szc : b.size = 0 := by rw [hb.size]; rfl
      clear hb B2 RE F HB
      cases c
      · go_wp2_with fail
        go_ret
        exact ⟨_, rfl, K.out, HB2.out⟩
      · go_wp2_with fail
        go_ret
        exact ⟨_, rfl, K.out, HB2.out⟩
end Go.Proofs.YtaoaniigbooihaaGreatDoor

namespace Go.Proofs.YtaoaniigbooihaaGreatDoor
open Go Go.RowKit Go.Deep

namespace Fx
/-- The error. -/
def rf (d n l : Int) : Int := if Ie.fnt d = true then (if n < l ∨ 4200 < n then 1 else 0) else 5
theorem rf_zero {d n l : Int} : rf d n l = 0 ↔ Ie.fnt d = true ∧ l ≤ n ∧ n ≤ 4200 := by
  unfold rf
  by_cases h : Ie.fnt d = true
  · rw [if_pos h]
    by_cases g : n < l ∨ 4200 < n
    · rw [if_pos g]; omega
    · rw [if_neg g]; simp [h]; omega
  · rw [if_neg h]; simp [h]
/-- The whole number of Places, written. -/
noncomputable def W (d : Int) (n : Nat) : List Int := List.replicate (n + 1 - (kp (X d) ((X d).length + P d + n)).length) 48 ++ kp (X d) ((X d).length + P d + n)
noncomputable def pA (d n : Int) : List Int := if rf d n 0 = 0 then (W d n.toNat).take ((W d n.toNat).length - n.toNat) else []
noncomputable def pB (d n : Int) : List Int := if rf d n 0 = 0 then (W d n.toNat).drop ((W d n.toNat).length - n.toNat) else []
/-- What Figures answers. -/
noncomputable def gS (d n : Int) : List Int := if rf d n 1 = 0 then (kp (X d) n).take n.toNat else []
noncomputable def gK (d n : Int) : Int := if rf d n 1 = 0 then (X d).length - 1 + P d + (if n < (kp (X d) n).length then 1 else 0) else 0

theorem W_len (d : Int) (n : Nat) : n + 1 ≤ (W d n).length := by
  unfold W
  rw [List.length_append, List.length_replicate]
  omega
theorem kp_len_le {xs : List Int} {c : Int} {m : Nat} (hc : c ≤ m) (hx : xs.length ≤ m) : (kp xs c).length ≤ m + 1 := by
  unfold kp
  split
  · simp
  · split
    · rw [List.length_append, List.length_replicate]; omega
    · rw [rd_len]; split <;> omega
end Fx

set_option maxRecDepth 100000 in
theorem refused_any (d n l : Int) (w : World) (h0 : 0 ≤ d) (h1 : d < 18446744073709551616) :
    Calls Tryz.prog 43 #[.int .u64 d, .int .i64 n, .int .i64 l] w fun e w' => e = .returned (.int .i64 (Fx.rf d n l)) ∧ w' = w := by
  have FN := hid (fun wx : World => ffinite_any d wx h0 h1)
  have E : Hid (Fx.rf d n l = if Ie.fnt d = true then (if n < l ∨ 4200 < n then 1 else 0) else 5) := rfl
  generalize Ie.fnt d = f at *
  clear h0 h1
  cases f
  · have E2 : Hid (Fx.rf d n l = 5) := E.out
    clear E
    go_enter Tryz.func43, Tryz.ntmps43
    go_wp2_with fail
    refine (FN.out _).mono ?_
    rintro e w' ⟨rfl, rfl⟩
    go_wp2_with fail
    go_ret
    exact ⟨i_retI E2.out.symm, rfl⟩
  · have E2 : Hid (Fx.rf d n l = if n < l ∨ 4200 < n then 1 else 0) := E.out
    clear E
    rcases (show n < l ∨ (l ≤ n ∧ 4200 < n) ∨ (l ≤ n ∧ n ≤ 4200) by omega) with h | ⟨h, h'⟩ | ⟨h, h'⟩
    · have E3 : Hid (Fx.rf d n l = 1) := by rw [Hid, E2.out, if_pos (.inl h)]
      clear E2
      go_enter Tryz.func43, Tryz.ntmps43
      go_wp2_with fail
      refine (FN.out _).mono ?_
      rintro e w' ⟨rfl, rfl⟩
      go_wp2_with fail
      go_ret
      exact ⟨i_retI E3.out.symm, rfl⟩
    · have E3 : Hid (Fx.rf d n l = 1) := by rw [Hid, E2.out, if_pos (.inr h')]
      clear E2
      go_enter Tryz.func43, Tryz.ntmps43
      go_wp2_with fail
      refine (FN.out _).mono ?_
      rintro e w' ⟨rfl, rfl⟩
      go_wp2_with fail
      go_ret
      exact ⟨i_retI E3.out.symm, rfl⟩
    · have E3 : Hid (Fx.rf d n l = 0) := by rw [Hid, E2.out, if_neg (by omega)]
      clear E2
      go_enter Tryz.func43, Tryz.ntmps43
      go_wp2_with fail
      refine (FN.out _).mono ?_
      rintro e w' ⟨rfl, rfl⟩
      go_wp2_with fail
      go_ret
      exact ⟨i_retI E3.out.symm, rfl⟩

def PlacesTold (d n : Int) (w : World) (e : Ending) (w' : World) : Prop :=
  ∃ s t, e = .returned (.tuple #[.string s, .string t, .int .i64 (Fx.rf d n 0)]) ∧ Str s (Fx.pA d n) ∧ Str t (Fx.pB d n) ∧ Below w.heap.size w w'
def FiguresTold (d n : Int) (w : World) (e : Ending) (w' : World) : Prop :=
  ∃ s, e = .returned (.tuple #[.string s, .int .i64 (Fx.gK d n), .int .i64 (Fx.rf d n 1)]) ∧ Str s (Fx.gS d n) ∧ Below w.heap.size w w'

set_option maxRecDepth 100000 in
set_option maxHeartbeats 4000000 in
theorem places_any (d n : Int) (w : World) (hT : Tab w) (h0 : 0 ≤ d) (h1 : d < 18446744073709551616) :
    Calls Tryz.prog 23 #[.int .u64 d, .int .i64 n] w fun e w' => PlacesTold d n w e w' := by
  have RF := hid (refused_any d n 0 w h0 h1)
  by_cases hr : Fx.rf d n 0 = 0
  · obtain ⟨hf, hn0, hn1⟩ := Fx.rf_zero.1 hr
    obtain ⟨k, rfl⟩ := Int.eq_ofNat_of_zero_le hn0
    have EX := exact_any d w hT h0 h1 (of_decide_eq_true hf)
    unfold ExTold at EX
    rw [← Fx.X, ← Fx.P] at EX
    have HE := hid EX
    obtain ⟨r1, r2, r3, r4, r5⟩ := Fx.X_room hf
    have KE : Hid (∀ (wx : World) (s : ByteArray), Str s (Fx.X d) → Calls Tryz.prog 44 #[.string s, .int .i64 ((Fx.X d).length + Fx.P d + k)] wx fun e w' => ∃ s', e = .returned (.string s') ∧ Str s' (Fx.kp (Fx.X d) ((Fx.X d).length + Fx.P d + k)) ∧ Below wx.heap.size wx w') :=
      fun wx s hs => kept_any s _ _ wx hs (Fx.X_digs hf).1 (Fx.X_digs hf).2 (by omega) (by omega)
    have LB : (Fx.kp (Fx.X d) ((Fx.X d).length + Fx.P d + k)).length ≤ 6000 := by
      have := Fx.kp_len_le (xs := Fx.X d) (c := (Fx.X d).length + Fx.P d + k) (m := 5999) (by omega) (by omega)
      omega
    have G : Hid (∀ (w' : World) (a b : ByteArray), Str a (List.replicate (k + 1 - (Fx.kp (Fx.X d) ((Fx.X d).length + Fx.P d + k)).length) 48) → Str b (Fx.kp (Fx.X d) ((Fx.X d).length + Fx.P d + k)) → Below w.heap.size w w' → k ≤ (a ++ b).size ∧ (a ++ b).size ≤ 12000 ∧ PlacesTold d k w (.returned (.tuple #[.string ((a ++ b).extract 0 ((a ++ b).size - k)), .string ((a ++ b).extract ((a ++ b).size - k) (a ++ b).size), .int .i64 0])) w') := by
      intro w' a b ha hb hB
      have hab : Str (a ++ b) (Fx.W d k) := ha.app hb
      have hz := hab.size
      have hwl := Fx.W_len d k
      have e1 := hab.extract 0 ((a ++ b).size - k)
      have e2 := hab.extract ((a ++ b).size - k) (a ++ b).size
      rw [List.drop_zero, Nat.sub_zero] at e1
      rw [List.take_of_length_le (by rw [List.length_drop, hz]; omega)] at e2
      rw [hz] at e1 e2
      refine ⟨by omega, ?_, ⟨_, _, by rw [hr], ?_, ?_, hB⟩⟩
      · rw [hz]
        unfold Fx.W
        rw [List.length_append, List.length_replicate]
        omega
      · rw [Fx.pA, if_pos hr, Int.toNat_natCast, hz]; exact e1
      · rw [Fx.pB, if_pos hr, Int.toNat_natCast, hz]; exact e2
    rw [hr] at RF
    obtain ⟨L, hL⟩ : ∃ L, (Fx.X d).length = L := ⟨_, rfl⟩
    have LS : Hid (∀ s, Str s (Fx.X d) → s.size = L) := fun s hs => by rw [hs.size, hL]
    rw [hL] at KE LB G r1 r2 r4 r5
    generalize Fx.X d = X at *
    generalize Fx.P d = Q at *
    obtain ⟨c, hc⟩ : ∃ c, (L : Int) + Q + k = c := ⟨_, rfl⟩
    rw [hc] at KE LB G
    generalize hkp : Fx.kp X c = V at *
    clear hkp hf hr EX hT h0 h1 hL
    obtain ⟨v, hv⟩ : ∃ v, V.length = v := ⟨_, rfl⟩
    have VS : Hid (∀ s, Str s V → s.size = v) := fun s hs => by rw [hs.size, hv]
    rw [hv] at LB G
    clear hv
    obtain ⟨z, hz⟩ : ∃ z, k + 1 - v = z := ⟨_, rfl⟩
    rw [hz] at G
    have MX : max ((k : Int) + 1 - (v : Int)) 0 = (z : Int) := by omega
    have RE := hid (fun wx : World => frepeat_any z wx (by omega))
    have kb : (k : Int) ≤ 4200 := hn1
    have vb : (v : Int) ≤ 6000 := by omega
    clear hn0 hn1 LB
    go_enter Tryz.func23, Tryz.ntmps23
    go_wp2_with fail
    refine RF.out.mono ?_
    rintro e wz ⟨rfl, hz⟩
    replace hz := hz.symm
    subst hz
    go_wp2_with fail
    refine HE.out.mono ?_
    rintro e w1 ⟨s, rfl, hs, B1⟩
    have hsz := LS.out s hs
    have K1 := hid (KE.out w1 s hs)
    have HB := hid B1
    clear B1 hs KE HE LS RF
    go_wp2_with fail
    refine K1.out.mono ?_
    rintro e w2 ⟨t, rfl, ht, B2⟩
    have htz := VS.out t ht
    have HT2 := hid ht
    have HB2 := hid (HB.out.trans (B2.mono HB.out.size))
    clear B2 ht K1 HB VS
    go_wp2_with fail
    refine (RE.out _).mono ?_
    rintro e w3 ⟨a, rfl, ha, B3⟩
    have haz : a.size = z := by rw [ha.size, List.length_replicate]
    obtain ⟨g1, g2, -⟩ := G.out _ a t ha HT2.out (HB2.out.trans (B3.mono HB2.out.size))
    have HG := hid (fun q : Nat => (G.out _ a t ha HT2.out (below_drewN (HB2.out.trans (B3.mono HB2.out.size)) q)).2.2)
    clear ha B3 G HB2 RE
    go_upto_region 7 with fail
    generalize a ++ t = ab at *
    obtain ⟨N, hN⟩ : ∃ N, ab.size = N := ⟨_, rfl⟩
    rw [hN] at HG g1 g2
    obtain ⟨j, hj⟩ : ∃ j, N - k = j := ⟨_, rfl⟩
    rw [hj] at HG
    have nj : (N : Int) - (k : Int) = (j : Int) := by omega
    have jN : (j : Int) ≤ (N : Int) := by omega
    have nb : (N : Int) ≤ 12000 := by omega
    clear hj hz MX hc
    go_quiet (fail)
    go_wp2_with fail
    go_ret3
    exact HG.out _
  · have F : Hid (PlacesTold d n w (.returned (.tuple #[.string ⟨#[]⟩, .string ⟨#[]⟩, .int .i64 (Fx.rf d n 0)])) w) := ⟨_, _, rfl, by rw [Fx.pA, if_neg hr]; rfl, by rw [Fx.pB, if_neg hr]; rfl, Below.refl _ _⟩
    have hr' : (Fx.rf d n 0 == 0) = false := by rw [beq_eq_false_iff_ne]; exact hr
    have hr2 : (Fx.rf d n 0 != 0) = true := by simp [bne, hr']
    generalize Fx.rf d n 0 = r at *
    clear hr h0 h1 hT
    go_enter Tryz.func23, Tryz.ntmps23
    go_wp2_with fail
    refine RF.out.mono ?_
    rintro e wz ⟨rfl, hz⟩
    replace hz := hz.symm
    subst hz
    go_wp2_with fail
    go_ret3
    exact F.out

set_option maxRecDepth 100000 in
set_option maxHeartbeats 4000000 in
theorem figures_any (d n : Int) (w : World) (hT : Tab w) (h0 : 0 ≤ d) (h1 : d < 18446744073709551616) :
    Calls Tryz.prog 25 #[.int .u64 d, .int .i64 n] w fun e w' => FiguresTold d n w e w' := by
  have RF := hid (refused_any d n 1 w h0 h1)
  by_cases hr : Fx.rf d n 1 = 0
  · obtain ⟨hf, hn0, hn1⟩ := Fx.rf_zero.1 hr
    obtain ⟨k, rfl⟩ := Int.eq_ofNat_of_zero_le (show 0 ≤ n by omega)
    have EX := exact_any d w hT h0 h1 (of_decide_eq_true hf)
    unfold ExTold at EX
    rw [← Fx.X, ← Fx.P] at EX
    have HE := hid EX
    obtain ⟨r1, r2, r3, r4, r5⟩ := Fx.X_room hf
    have KE : Hid (∀ (wx : World) (s : ByteArray), Str s (Fx.X d) → Calls Tryz.prog 44 #[.string s, .int .i64 (k : Int)] wx fun e w' => ∃ s', e = .returned (.string s') ∧ Str s' (Fx.kp (Fx.X d) k) ∧ Below wx.heap.size wx w') :=
      fun wx s hs => kept_any s _ _ wx hs (Fx.X_digs hf).1 (Fx.X_digs hf).2 (by omega) (by omega)
    have LB : (Fx.kp (Fx.X d) k).length ≤ 6000 := by
      have := Fx.kp_len_le (xs := Fx.X d) (c := k) (m := 5999) (by omega) (by omega)
      omega
    have GA : Hid (∀ (w' : World) (b : ByteArray), Str b (Fx.kp (Fx.X d) k) → Below w.heap.size w w' → k < (Fx.kp (Fx.X d) k).length → FiguresTold d k w (.returned (.tuple #[.string (b.extract 0 k), .int .i64 ((Fx.X d).length - 1 + Fx.P d + 1), .int .i64 0])) w') := by
      intro w' b hb hB hl
      have e1 := hb.extract 0 k
      rw [List.drop_zero, Nat.sub_zero] at e1
      refine ⟨_, by rw [Fx.gK, if_pos hr, if_pos (by omega), hr], ?_, hB⟩
      rw [Fx.gS, if_pos hr, Int.toNat_natCast]
      exact e1
    have GB : Hid (∀ (w' : World) (b : ByteArray), Str b (Fx.kp (Fx.X d) k) → Below w.heap.size w w' → ¬ k < (Fx.kp (Fx.X d) k).length → FiguresTold d k w (.returned (.tuple #[.string b, .int .i64 ((Fx.X d).length - 1 + Fx.P d), .int .i64 0])) w') := by
      intro w' b hb hB hl
      refine ⟨_, by rw [Fx.gK, if_pos hr, if_neg (by omega), Int.add_zero, hr], ?_, hB⟩
      rw [Fx.gS, if_pos hr, Int.toNat_natCast, List.take_of_length_le (by omega)]
      exact hb
    rw [hr] at RF
    obtain ⟨L, hL⟩ : ∃ L, (Fx.X d).length = L := ⟨_, rfl⟩
    have LS : Hid (∀ s, Str s (Fx.X d) → s.size = L) := fun s hs => by rw [hs.size, hL]
    rw [hL] at GA GB r1 r2 r4 r5
    generalize Fx.X d = X at *
    generalize Fx.P d = Q at *
    generalize hkp : Fx.kp X k = V at *
    clear hkp hf hr EX hT h0 h1 hL
    obtain ⟨v, hv⟩ : ∃ v, V.length = v := ⟨_, rfl⟩
    have VS : Hid (∀ s, Str s V → s.size = v) := fun s hs => by rw [hs.size, hv]
    rw [hv] at LB GA GB
    clear hv
    have kb : (k : Int) ≤ 4200 := hn1
    have vb : (v : Int) ≤ 6000 := by omega
    have l1 : (1 : Int) ≤ (L : Int) := by omega
    have l2 : (L : Int) ≤ 1383 := by omega
    clear hn0 hn1 LB
    go_enter Tryz.func25, Tryz.ntmps25
    go_wp2_with fail
    refine RF.out.mono ?_
    rintro e wz ⟨rfl, hz⟩
    replace hz := hz.symm
    subst hz
    go_wp2_with fail
    refine HE.out.mono ?_
    rintro e w1 ⟨s, rfl, hs, B1⟩
    have hsz := LS.out s hs
    have K1 := hid (KE.out w1 s hs)
    have HB := hid B1
    clear B1 hs KE HE LS RF
    go_wp2_with fail
    refine K1.out.mono ?_
    rintro e w2 ⟨t, rfl, ht, B2⟩
    have htz := VS.out t ht
    have HB2 := hid (HB.out.trans (B2.mono HB.out.size))
    by_cases hvk : k < v
    · have K := hid (GA.out w2 t ht HB2.out hvk)
      have hvi : (k : Int) < (v : Int) := by omega
      clear B2 ht K1 HB VS GA GB
      go_wp2_with fail
      go_ret3
      exact K.out
    · have K := hid (GB.out w2 t ht HB2.out hvk)
      have hvi : ¬ (k : Int) < (v : Int) := by omega
      clear B2 ht K1 HB VS GA GB
      go_wp2_with fail
      go_ret3
      exact K.out
  · have F : Hid (FiguresTold d n w (.returned (.tuple #[.string ⟨#[]⟩, .int .i64 0, .int .i64 (Fx.rf d n 1)])) w) := ⟨_, by rw [Fx.gK, if_neg hr], by rw [Fx.gS, if_neg hr]; rfl, Below.refl _ _⟩
    have hr' : (Fx.rf d n 1 == 0) = false := by rw [beq_eq_false_iff_ne]; exact hr
    have hr2 : (Fx.rf d n 1 != 0) = true := by simp [bne, hr']
    generalize Fx.rf d n 1 = r at *
    clear hr h0 h1 hT
    go_enter Tryz.func25, Tryz.ntmps25
    go_wp2_with fail
    refine RF.out.mono ?_
    rintro e wz ⟨rfl, hz⟩
    replace hz := hz.symm
    subst hz
    go_wp2_with fail
    go_ret3
    exact F.out
end Go.Proofs.YtaoaniigbooihaaGreatDoor

namespace Go.Proofs.YtaoaniigbooihaaGreatDoor
open Go Go.RowKit Go.Deep

theorem fnt_abs (d : Int) : decide (d % 9223372036854775808 < 9218868437227405312) = Ie.fnt d := by
  unfold Ie.fnt Ie.cls Ie.fld
  by_cases h : d % 9223372036854775808 < 9218868437227405312
  · rw [decide_eq_true h]
    symm
    rw [decide_eq_true_iff]
    split
    · split <;> omega
    · rw [if_neg (by omega)]; omega
  · rw [decide_eq_false h]
    symm
    rw [decide_eq_false_iff_not]
    rw [if_neg (by omega), if_pos (by omega)]
    split <;> omega

namespace Fx
def top (d : Int) (n : Nat) : Int := Ie.dm d * 10 ^ n * 2 ^ (Ie.de d).toNat
def dn (d : Int) : Nat := (-(Ie.de d)).toNat
end Fx
end Go.Proofs.YtaoaniigbooihaaGreatDoor

namespace Go.Proofs.YtaoaniigbooihaaGreatDoor
open Go Go.RowKit Go.Deep
namespace Fx

/-- Twice the way to the number is below the unit, or just it, and the number is even. -/
def Nr (w A D : Int) : Prop := 2 * (w * D - A) ≤ D ∧ 2 * (A - w * D) ≤ D ∧ ((2 * (w * D - A) = D ∨ 2 * (A - w * D) = D) → w % 2 = 0)

theorem nr_exact {w A D : Int} (h : w * D = A) (hD : 0 < D) : Nr w A D := by
  refine ⟨by omega, by omega, ?_⟩
  rintro (c | c) <;> omega

theorem nr_of {w A D N T : Int} (hT : 0 < T) (hD : 0 < D) (h : N * D = A * T) (h1 : 2 * (w * T - N) ≤ T) (h2 : 2 * (N - w * T) ≤ T) (h3 : (2 * (w * T - N) = T ∨ 2 * (N - w * T) = T) → w % 2 = 0) : Nr w A D := by
  have e1 : (2 * (w * D - A)) * T = (2 * (w * T - N)) * D := by
    rw [Int.mul_assoc, Int.mul_assoc, Int.sub_mul, Int.sub_mul, ← h, Int.mul_right_comm]
  have e2 : (2 * (A - w * D)) * T = (2 * (N - w * T)) * D := by
    rw [Int.mul_assoc, Int.mul_assoc, Int.sub_mul, Int.sub_mul, ← h, Int.mul_right_comm w D T]
  refine ⟨?_, ?_, ?_⟩
  · refine Int.le_of_mul_le_mul_right ?_ hT
    rw [e1, Int.mul_comm D T]
    exact Int.mul_le_mul_of_nonneg_right h1 (Int.le_of_lt hD)
  · refine Int.le_of_mul_le_mul_right ?_ hT
    rw [e2, Int.mul_comm D T]
    exact Int.mul_le_mul_of_nonneg_right h2 (Int.le_of_lt hD)
  · intro c
    apply h3
    rcases c with c | c
    · left
      rw [c, Int.mul_comm] at e1
      exact (Int.eq_of_mul_eq_mul_right (by omega) e1).symm
    · right
      rw [c, Int.mul_comm] at e2
      exact (Int.eq_of_mul_eq_mul_right (by omega) e2).symm

/-- The first digits, rounded, as numbers. -/
theorem rn_near {xs : List Int} (hd : Digs xs) (k : Nat) :
    2 * (rn xs k * 10 ^ (xs.length - k) - dv xs) ≤ 10 ^ (xs.length - k) ∧ 2 * (dv xs - rn xs k * 10 ^ (xs.length - k)) ≤ 10 ^ (xs.length - k) ∧
    ((2 * (rn xs k * 10 ^ (xs.length - k) - dv xs) = 10 ^ (xs.length - k) ∨ 2 * (dv xs - rn xs k * 10 ^ (xs.length - k)) = 10 ^ (xs.length - k)) → rn xs k % 2 = 0) := by
  have e : dv xs = dv (xs.take k) * 10 ^ (xs.length - k) + dv (xs.drop k) := by
    conv => lhs; rw [← List.take_append_drop k xs, dv_append, List.length_drop]
  have b := dv_bd (ds := xs.drop k) (fun d h => hd d (List.mem_of_mem_drop h))
  rw [List.length_drop] at b
  unfold rn up
  generalize dv (xs.take k) = K at *
  generalize dv (xs.drop k) = R at *
  generalize (10 : Int) ^ (xs.length - k) = T at *
  by_cases c : T < 2 * R ∨ 2 * R = T ∧ K % 2 = 1
  · rw [decide_eq_true c, if_pos rfl, Int.add_mul, Int.one_mul, e]
    refine ⟨by omega, by omega, ?_⟩
    intro h
    rcases c with c | c <;> omega
  · rw [decide_eq_false c, if_neg Bool.false_ne_true, Int.add_zero, e]
    refine ⟨by omega, by omega, ?_⟩
    intro h
    omega

theorem W_digs {d : Int} (hf : Ie.fnt d = true) (n : Nat) : Digs (W d n) := by
  have hx := (X_digs hf).1
  intro x h
  rcases List.mem_append.1 h with h | h
  · have := List.eq_of_mem_replicate h; omega
  · unfold kp at h
    split at h
    · cases h
    · split at h
      · rcases List.mem_append.1 h with h | h
        · exact hx x h
        · have := List.eq_of_mem_replicate h; omega
      · exact rd_digs _ _ x h
theorem dv_W (d : Int) (n : Nat) : dv (W d n) = dv (kp (X d) ((X d).length + P d + n)) := by
  unfold W
  rw [dv_append, dv_zeros, Int.zero_mul, Int.zero_add]

/-- All powers of the double's value in one row. -/
theorem ex_pow {m e : Int} {xs : List Int} {E : Int} (hm : 0 < m) (he : -1074 ≤ e) (h : Ex m e xs E) : dv xs * 10 ^ (E + 1074).toNat * 2 ^ (-e).toNat = m * 2 ^ e.toNat * 10 ^ 1074 := by
  rw [h.eq hm, F5]
  have e1 : (e + 1074).toNat + (-e).toNat = e.toNat + 1074 := by omega
  have e2 : (2 : Int) ^ (e + 1074).toNat * 2 ^ (-e).toNat = 2 ^ e.toNat * 2 ^ 1074 := by rw [← Int.pow_add, ← Int.pow_add, e1]
  generalize 1074 = z at *
  rw [show (10 : Int) = 2 * 5 from rfl, Int.mul_pow]
  generalize (2 : Int) ^ (e + 1074).toNat = x1 at *
  generalize (2 : Int) ^ (-e).toNat = x2 at *
  generalize (2 : Int) ^ e.toNat = x3 at *
  generalize (2 : Int) ^ z = x4 at *
  generalize (5 : Int) ^ z = x5 at *
  rw [show m * x1 * x5 * x2 = m * (x1 * x2) * x5 by ac_rfl, e2]
  ac_rfl

theorem near_W {d : Int} (hf : Ie.fnt d = true) (n : Nat) : Nr (dv (W d n)) (top d n) (2 ^ dn d) := by
  obtain ⟨m0, m1, e0, e1, _⟩ := Ie.fdec d (of_decide_eq_true hf)
  have hD : (0 : Int) < 2 ^ dn d := Int.pow_pos (by omega)
  obtain ⟨r1, r2, r3, r4, r5⟩ := X_room hf
  rw [dv_W]
  have hx := (X_digs hf).1
  rcases (show Ie.dm d = 0 ∨ 0 < Ie.dm d by omega) with hz | hz
  · obtain ⟨a, b⟩ := X_zero hf hz
    rw [a, b]
    apply nr_exact _ hD
    have e : kp [48] (([48] : List Int).length + 0 + n) = 48 :: List.replicate n 48 := by
      have := kp_full (xs := [48]) (c := n + 1) (by simp)
      rw [show (([48] : List Int).length : Int) + 0 + n = ((n + 1 : Nat) : Int) by simp; omega, this]
      simp
    rw [e, show 48 :: List.replicate n 48 = List.replicate (n + 1) (48 : Int) from rfl, dv_zeros, top, hz]
    simp
  · have q := ex_pow hz e0 (X_ex hf)
    obtain ⟨a, ha⟩ : ∃ a : Nat, (P d + 1074).toNat = a := ⟨_, rfl⟩
    rw [ha] at q
    have q2 : dv (X d) * 10 ^ a * 2 ^ dn d * 10 ^ n = top d n * 10 ^ 1074 := by
      rw [dn, q, top]
      generalize (10 : Int) ^ 1074 = z
      ac_rfl
    rcases (show 0 ≤ P d + n ∨ P d + n < 0 by omega) with c | c
    · obtain ⟨j, hj⟩ : ∃ j : Nat, P d + n = (j : Int) := ⟨(P d + n).toNat, by omega⟩
      have e : (X d).length + P d + n = (((X d).length + j : Nat) : Int) := by omega
      rw [e, kp_full (by omega), Nat.add_sub_cancel_left, dv_append, dv_zeros, List.length_replicate, Int.add_zero]
      apply nr_exact _ hD
      have e2 : a + n = j + 1074 := by omega
      have e3 : (10 : Int) ^ a * 10 ^ n = 10 ^ j * 10 ^ 1074 := by rw [← Int.pow_add, ← Int.pow_add, e2]
      refine Int.eq_of_mul_eq_mul_right (a := 10 ^ 1074) (by have := p_pos 1074; omega) ?_
      rw [← q2]
      generalize (10 : Int) ^ 1074 = z at *
      rw [show dv (X d) * 10 ^ j * 2 ^ dn d * z = dv (X d) * 2 ^ dn d * (10 ^ j * z) by ac_rfl, ← e3]
      ac_rfl
    · obtain ⟨r, hr⟩ : ∃ r : Nat, -(P d + n) = (r : Int) := ⟨(-(P d + n)).toNat, by omega⟩
      have hN : dv (X d) * 2 ^ dn d = top d n * 10 ^ r := by
        have e2 : a + n + r = 1074 := by omega
        have e3 : (10 : Int) ^ (a + n) * 10 ^ r = 10 ^ 1074 := by rw [← Int.pow_add, e2]
        refine Int.eq_of_mul_eq_mul_right (a := 10 ^ (a + n)) (by have := p_pos (a + n); omega) ?_
        rw [Int.mul_assoc (top d n), Int.mul_comm (10 ^ r), e3, ← q2, Int.pow_add]
        ac_rfl
      rcases (show 0 ≤ (X d).length + P d + n ∨ (X d).length + P d + n < 0 by omega) with g | g
      · obtain ⟨k, hk⟩ : ∃ k : Nat, (X d).length + P d + n = (k : Int) := ⟨((X d).length + P d + n).toNat, by omega⟩
        have hkl : k < (X d).length := by omega
        rw [hk, kp_cut hkl, rd_dv hx (by omega)]
        have := rn_near hx k
        rw [show (X d).length - k = r by omega] at this
        exact nr_of (p_pos r) hD hN this.1 this.2.1 this.2.2
      · rw [kp_neg g]
        have b := (dv_bd hx).2
        have b0 := (dv_bd hx).1
        have l : (10 : Int) ^ ((X d).length + 1) ≤ 10 ^ r := p_le (by omega)
        rw [Int.pow_succ] at l
        have pp := p_pos (X d).length
        have z : dv [] = 0 := rfl
        rw [z]
        refine nr_of (N := dv (X d)) (p_pos r) hD hN ?_ ?_ ?_ <;> (generalize (10 : Int) ^ (X d).length = x1 at *; generalize (10 : Int) ^ r = x2 at *; omega)

theorem dv_W_room {d : Int} (hf : Ie.fnt d = true) {n : Nat} (hn : n ≤ 4200) : (W d n).length ≤ 6000 := by
  obtain ⟨r1, r2, r3, r4, r5⟩ := X_room hf
  have := kp_len_le (xs := X d) (c := (X d).length + P d + n) (m := 5000) (by omega) (by omega)
  unfold W
  rw [List.length_append, List.length_replicate]
  omega
end Fx
end Go.Proofs.YtaoaniigbooihaaGreatDoor

namespace Go.Proofs.YtaoaniigbooihaaGreatDoor
open Go Go.RowKit Go.Deep
namespace Fx

theorem fnt125 : Ie.fnt 4593671619917905920 = true := by decide
theorem pl125 : rf 4593671619917905920 2 0 = 0 ∧ pA 4593671619917905920 2 = [48] ∧ pB 4593671619917905920 2 = [49, 50] := by
  have r : rf 4593671619917905920 2 0 = 0 := by decide
  have w : W 4593671619917905920 2 = [48, 49, 50] := by
    unfold W
    rw [c125.1, c125.2]
    decide
  refine ⟨r, ?_, ?_⟩
  · rw [pA, if_pos r, show (2 : Int).toNat = 2 from rfl, w]
    decide
  · rw [pB, if_pos r, show (2 : Int).toNat = 2 from rfl, w]
    decide

theorem head_of_low {ds : List Int} {n : Nat} (h : Digs ds) (hn : ds.length = n + 1) (hl : 10 ^ n ≤ dv ds) : ds.getD 0 0 ≠ 48 := by
  match ds, hn with
  | x :: ys, hn =>
    intro c
    simp at c
    subst c
    have b := (dv_bd (ds := ys) (fun d hd => h d (by simp [hd]))).2
    have e : ys.length = n := by simpa using hn
    rw [dv_cons, e] at hl
    rw [e] at b
    omega

/-- The rounded digits begin with a digit that is no zero. -/
theorem rd_head {xs : List Int} (h : Nml xs) {k : Nat} (hk0 : 0 < k) (hk : k ≤ xs.length) : (rd xs k).getD 0 0 ≠ 48 := by
  obtain ⟨j, rfl⟩ : ∃ j, k = j + 1 := ⟨k - 1, by omega⟩
  have dk : Digs (xs.take (j + 1)) := fun d g => h.digs d (List.mem_of_mem_take g)
  have lk : (xs.take (j + 1)).length = j + 1 := by rw [List.length_take]; omega
  have low := head_low dk lk (by have := h.head; simpa [List.getD] using this)
  have b := rn_bd h.digs hk
  have v := rd_dv h.digs hk
  have l := rd_len xs (j + 1)
  have rl : 10 ^ j ≤ rn xs (j + 1) := by unfold rn; split <;> omega
  by_cases c : rn xs (j + 1) = 10 ^ (j + 1)
  · rw [if_pos c] at l
    exact head_of_low (rd_digs _ _) l (by omega)
  · rw [if_neg c] at l
    exact head_of_low (rd_digs _ _) l (by omega)

theorem W_head {d : Int} (hf : Ie.fnt d = true) (n : Nat) (h : n + 1 < (W d n).length) : (W d n).getD 0 0 ≠ 48 := by
  obtain ⟨m0, m1, e0, e1, _⟩ := Ie.fdec d (of_decide_eq_true hf)
  have hl : (W d n).length = (n + 1 - (kp (X d) ((X d).length + P d + n)).length) + (kp (X d) ((X d).length + P d + n)).length := by
    unfold W
    rw [List.length_append, List.length_replicate]
  have hk : n + 1 < (kp (X d) ((X d).length + P d + n)).length := by omega
  have e : W d n = kp (X d) ((X d).length + P d + n) := by
    unfold W
    rw [show n + 1 - (kp (X d) ((X d).length + P d + n)).length = 0 by omega]
    rfl
  rw [e]
  rcases (show Ie.dm d = 0 ∨ 0 < Ie.dm d by omega) with hz | hz
  · obtain ⟨a, b⟩ := X_zero hf hz
    rw [a, b] at hk
    have e : kp [48] (([48] : List Int).length + 0 + n) = 48 :: List.replicate n 48 := by
      have := kp_full (xs := [48]) (c := n + 1) (by simp)
      rw [show (([48] : List Int).length : Int) + 0 + n = ((n + 1 : Nat) : Int) by simp; omega, this]
      simp
    rw [e] at hk
    simp at hk
  · have nm := (X_ex hf).nml hz
    generalize (X d).length + P d + n = c at *
    rcases (show c < 0 ∨ 0 ≤ c by omega) with g | g
    · rw [kp_neg g] at hk
      simp at hk
    · obtain ⟨k, rfl⟩ := Int.eq_ofNat_of_zero_le g
      rcases Nat.lt_or_ge k (X d).length with g | g
      · rw [kp_cut g] at hk ⊢
        apply rd_head nm _ (by omega)
        rw [rd_len] at hk
        split at hk <;> omega
      · rw [kp_full g]
        have := nm.head
        obtain ⟨j, hj⟩ := nm.len
        match hx : X d, hj with
        | x :: ys, _ => rw [hx] at this; simpa using this

theorem pA_facts {d : Int} {n : Nat} (hf : Ie.fnt d = true) (hn : n ≤ 4200) :
    pA d n ++ pB d n = W d n ∧ (pB d n).length = n ∧ pA d n ≠ [] ∧ Digs (pA d n) ∧ Digs (pB d n) ∧ (pA d n).length ≤ 6000 ∧ (1 < (pA d n).length → (pA d n).getD 0 0 ≠ 48) := by
  have r : rf d n 0 = 0 := rf_zero.2 ⟨hf, by omega, by omega⟩
  have wl := W_len d n
  have wr := dv_W_room hf hn
  have wd := W_digs hf n
  have wh := W_head hf n
  unfold pA pB
  rw [if_pos r, if_pos r, Int.toNat_natCast]
  refine ⟨List.take_append_drop _ _, ?_, ?_, fun x h => wd x (List.mem_of_mem_take h), fun x h => wd x (List.mem_of_mem_drop h), ?_, ?_⟩
  · rw [List.length_drop]; omega
  · intro c
    have := congrArg List.length c
    rw [List.length_take, List.length_nil] at this
    omega
  · rw [List.length_take]; omega
  · intro c
    rw [List.length_take] at c
    rw [Nm.getD_take, if_pos (by omega)]
    exact wh (by omega)
end Fx
end Go.Proofs.YtaoaniigbooihaaGreatDoor
