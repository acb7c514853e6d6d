/-
  Texts put together: JPadN, JLay, S4B, JSpec, JMem, JPad.
-/
import Derived.Test.YtbldddagddmbgaaDoorVStr
import Derived.Shelf.Strings.Repeat
import Derived.Shelf.Small.Strs
import Derived.Test.YtbldddagddmbgaaDoorV0
import Derived.Deep.LoopGhost
import Derived.Deep.RegionHeld3
import Derived.Deep.CutBlock
import Derived.OwnWalk
import Derived.Deep.CutRange
namespace Go.Proofs.YtbldddagddmbgaaDoor
open Go.RowKit Go.Deep
namespace Wh

/-- The error of a raw directive, its verb left out. -/
def chk (F W P : Int) : Int := if F < 0 ∨ 31 < F ∨ W < 0 ∨ P < -1 then 1 else if 4096 < W ∨ 4096 < P then 6 else 0
theorem chk_ok {F W P : Int} (h : chk F W P = 0) : (0 ≤ F ∧ F ≤ 31) ∧ (0 ≤ W ∧ W ≤ 4096) ∧ (-1 ≤ P ∧ P ≤ 4096) := by
  unfold chk at h
  split at h
  · omega
  · split at h
    · omega
    · omega
theorem chk_of {F W P : Int} (h : (0 ≤ F ∧ F ≤ 31) ∧ (0 ≤ W ∧ W ≤ 4096) ∧ (-1 ≤ P ∧ P ≤ 4096)) : chk F W P = 0 := by
  unfold chk
  rw [if_neg (by omega), if_neg (by omega)]
theorem chk_three (F W P : Int) : chk F W P = 0 ∨ chk F W P = 1 ∨ chk F W P = 6 := by
  unfold chk
  split
  · omega
  · split <;> omega

/-- A flag of a sum of flags. -/
def bit (F k : Int) : Bool := decide (F / k % 2 = 1)
/-- n times the byte c. -/
def rep (c n : Int) : List Int := List.replicate n.toNat c
theorem rep_len (c n : Int) : (rep c n).length = n.toNat := List.length_replicate
theorem rep_neg {c n : Int} (h : n ≤ 0) : rep c n = [] := by
  rw [rep, show n.toNat = 0 by omega]; rfl
theorem rep_by {c n x : Int} (h0 : 0 ≤ c ∧ c < 256) (h : x ∈ rep c n) : 0 ≤ x ∧ x < 256 := by
  rw [rep, List.mem_replicate] at h
  rw [h.2]; exact h0

/-- A text's bytes. -/
def By (xs : List Int) : Prop := ∀ x ∈ xs, 0 ≤ x ∧ x < 256
theorem By.nil : By [] := by intro x h; simp at h
theorem By.app {a b : List Int} (h : By a) (k : By b) : By (a ++ b) := by
  intro x hx
  rcases List.mem_append.1 hx with q | q
  · exact h x q
  · exact k x q
theorem By.rep {c n : Int} (h0 : 0 ≤ c ∧ c < 256) : By (rep c n) := fun _ h => rep_by h0 h
theorem By.take {a : List Int} (h : By a) (k : Nat) : By (a.take k) := fun x hx => h x (List.mem_of_mem_take hx)
theorem By.cons {c : Int} {a : List Int} (h0 : 0 ≤ c ∧ c < 256) (h : By a) : By (c :: a) := by
  intro x hx
  rcases List.mem_cons.1 hx with q | q
  · rw [q]; exact h0
  · exact h x q

/-- Head and body brought to the width. -/
def padT (F W : Int) (z : Bool) (h b : List Int) : List Int :=
  if bit F 1 = true then h ++ b ++ rep 32 (W - h.length - b.length)
  else if bit F 16 = true ∧ z = true then h ++ rep 48 (W - h.length - b.length) ++ b
  else rep 32 (W - h.length - b.length) ++ h ++ b
def padE (F W P : Int) (h b : List Int) : Int := if chk F W P = 0 then (if 16777216 < h.length + b.length then 3 else 0) else chk F W P
def pad (F W P : Int) (z : Bool) (h b : List Int) : List Int := if padE F W P h b = 0 then padT F W z h b else []
theorem padT_by {F W : Int} {z : Bool} {h b : List Int} (hh : By h) (hb : By b) : By (padT F W z h b) := by
  unfold padT
  split
  · exact (hh.app hb).app (By.rep (by omega))
  · split
    · exact (hh.app (By.rep (by omega))).app hb
    · exact ((By.rep (by omega)).app hh).app hb
theorem padT_zero (F : Int) (z : Bool) (h b : List Int) : padT F 0 z h b = h ++ b := by
  have e : ∀ c, rep c (0 - (h.length : Int) - (b.length : Int)) = [] := fun c => rep_neg (by omega)
  unfold padT
  rw [e, e]
  split
  · simp
  · split <;> simp
theorem padT_len (F W : Int) (z : Bool) (h b : List Int) : (padT F W z h b).length = h.length + b.length + (W - h.length - b.length).toNat := by
  unfold padT
  split
  · simp [rep_len] <;> omega
  · split <;> simp [rep_len] <;> omega

/-- Char, Text. -/
def chrE (V F W P : Int) : Int := if V = 99 then chk F W P else 140
def chr (V F W P : Int) (t : List Int) : List Int := if chrE V F W P = 0 then padT F W false [] (t.take 1) else []
def cut (P : Int) (t : List Int) : List Int := if P = -1 then t else t.take P.toNat
def texE (V F W P : Int) (t : List Int) : Int := if V = 115 then padE F W P [] (cut P t) else 140
def tex (V F W P : Int) (t : List Int) : List Int := if texE V F W P t = 0 then padT F W false [] (cut P t) else []
end Wh
end Go.Proofs.YtbldddagddmbgaaDoor

namespace Go.Proofs.YtbldddagddmbgaaDoor
open Go Go.RowKit Go.Deep Go.Shelf

def jren : Go.Shelf.Ren := ⟨fun | 105 => 51 | 212 => 69 | 99 => 54 | 165 => 49 | 166 => 50 | 170 => 70 | 169 => 52 | 263 => 83 | 264 => 84 | 206 => 71 | 240 => 67 | 241 => 68 | 276 => 81 | 277 => 82 | 137 => 45 | 217 => 64 | 266 => 77 | n => n, fun | 9 => 9 | 3 => 3 | 4 => 4 | 20 => 20 | 0 => 0 | 46 => 85 | 109 => 89 | 5 => 5 | 72 => 69 | 76 => 73 | 51 => 106 | 146 => 107 | 53 => 27 | 148 => 109 | 70 => 67 | 37 => 64 | 75 => 72 | 127 => 92 | 164 => 103 | 80 => 75 | n => n, fun  | n => n⟩
theorem repLays : Go.Proofs.Lays.n105 Tryd.prog jren where
  mixed := by kernel_rfl
  f99 := Tryd.func54.trans (congrArg some (by kernel_rfl))
  f105 := Tryd.func51.trans (congrArg some (by kernel_rfl))
  f165 := Tryd.func49.trans (congrArg some (by kernel_rfl))
  f166 := Tryd.func50.trans (congrArg some (by kernel_rfl))
  f169 := Tryd.func52.trans (congrArg some (by kernel_rfl))
  f170 := Tryd.func70.trans (congrArg some (by kernel_rfl))
  f206 := Tryd.func71.trans (congrArg some (by kernel_rfl))
  f212 := Tryd.func69.trans (congrArg some (by kernel_rfl))
  f240 := Tryd.func67.trans (congrArg some (by kernel_rfl))
  f241 := Tryd.func68.trans (congrArg some (by kernel_rfl))
  f263 := Tryd.func83.trans (congrArg some (by kernel_rfl))
  f264 := Tryd.func84.trans (congrArg some (by kernel_rfl))
  f276 := Tryd.func81.trans (congrArg some (by kernel_rfl))
  f277 := Tryd.func82.trans (congrArg some (by kernel_rfl))
  t0 := by kernel_rfl
  a0 := fun _ => by kernel_rfl
  z0 := fun _ => by kernel_rfl
  v0 := fun _ => by kernel_rfl
  t3 := by kernel_rfl
  a3 := fun _ => by kernel_rfl
  z3 := fun _ => by kernel_rfl
  v3 := fun _ => by kernel_rfl
  t4 := by kernel_rfl
  a4 := fun _ => by kernel_rfl
  z4 := fun _ => by kernel_rfl
  v4 := fun _ => by kernel_rfl
  t5 := by kernel_rfl
  a5 := fun _ => by kernel_rfl
  z5 := fun _ => by kernel_rfl
  v5 := fun _ => by kernel_rfl
  t9 := by kernel_rfl
  a9 := fun _ => by kernel_rfl
  z9 := fun _ => by kernel_rfl
  v9 := fun _ => by kernel_rfl
  t20 := by kernel_rfl
  a20 := fun _ => by kernel_rfl
  z20 := fun _ => by kernel_rfl
  v20 := fun _ => by kernel_rfl
  t37 := by kernel_rfl
  a37 := fun _ => by kernel_rfl
  z37 := fun _ => by kernel_rfl
  v37 := fun _ => by kernel_rfl
  t46 := by kernel_rfl
  a46 := fun _ => by kernel_rfl
  z46 := fun _ => by kernel_rfl
  v46 := fun _ => by kernel_rfl
  t51 := by kernel_rfl
  a51 := fun _ => by kernel_rfl
  z51 := fun _ => by kernel_rfl
  v51 := fun _ => by kernel_rfl
  t53 := by kernel_rfl
  a53 := fun _ => by kernel_rfl
  z53 := fun _ => by kernel_rfl
  v53 := fun _ => by kernel_rfl
  t70 := by kernel_rfl
  a70 := fun _ => by kernel_rfl
  z70 := fun _ => by kernel_rfl
  v70 := fun _ => by kernel_rfl
  t72 := by kernel_rfl
  a72 := fun _ => by kernel_rfl
  z72 := fun _ => by kernel_rfl
  v72 := fun _ => by kernel_rfl
  t75 := by kernel_rfl
  a75 := fun _ => by kernel_rfl
  z75 := fun _ => by kernel_rfl
  v75 := fun _ => by kernel_rfl
  t76 := by kernel_rfl
  a76 := fun _ => by kernel_rfl
  z76 := fun _ => by kernel_rfl
  v76 := fun _ => by kernel_rfl
  t109 := by kernel_rfl
  a109 := fun _ => by kernel_rfl
  z109 := fun _ => by kernel_rfl
  v109 := fun _ => by kernel_rfl
  t127 := by kernel_rfl
  a127 := fun _ => by kernel_rfl
  z127 := fun _ => by kernel_rfl
  v127 := fun _ => by kernel_rfl
  t146 := by kernel_rfl
  a146 := fun _ => by kernel_rfl
  z146 := fun _ => by kernel_rfl
  v146 := fun _ => by kernel_rfl
  t148 := by kernel_rfl
  a148 := fun _ => by kernel_rfl
  z148 := fun _ => by kernel_rfl
  v148 := fun _ => by kernel_rfl
  t164 := by kernel_rfl
  a164 := fun _ => by kernel_rfl
  z164 := fun _ => by kernel_rfl
  v164 := fun _ => by kernel_rfl
theorem jwsLays : Go.Proofs.Lays.n166 Tryd.prog jren where
  mixed := by kernel_rfl
  f166 := Tryd.func50.trans (congrArg some (by kernel_rfl))
  f240 := Tryd.func67.trans (congrArg some (by kernel_rfl))
  f276 := Tryd.func81.trans (congrArg some (by kernel_rfl))
  t0 := by kernel_rfl
  a0 := fun _ => by kernel_rfl
  z0 := fun _ => by kernel_rfl
  v0 := fun _ => by kernel_rfl
  t3 := by kernel_rfl
  a3 := fun _ => by kernel_rfl
  z3 := fun _ => by kernel_rfl
  v3 := fun _ => by kernel_rfl
  t4 := by kernel_rfl
  a4 := fun _ => by kernel_rfl
  z4 := fun _ => by kernel_rfl
  v4 := fun _ => by kernel_rfl
  t9 := by kernel_rfl
  a9 := fun _ => by kernel_rfl
  z9 := fun _ => by kernel_rfl
  v9 := fun _ => by kernel_rfl
  t20 := by kernel_rfl
  a20 := fun _ => by kernel_rfl
  z20 := fun _ => by kernel_rfl
  v20 := fun _ => by kernel_rfl
  t37 := by kernel_rfl
  a37 := fun _ => by kernel_rfl
  z37 := fun _ => by kernel_rfl
  v37 := fun _ => by kernel_rfl
  t70 := by kernel_rfl
  a70 := fun _ => by kernel_rfl
  z70 := fun _ => by kernel_rfl
  v70 := fun _ => by kernel_rfl
  t72 := by kernel_rfl
  a72 := fun _ => by kernel_rfl
  z72 := fun _ => by kernel_rfl
  v72 := fun _ => by kernel_rfl
  t75 := by kernel_rfl
  a75 := fun _ => by kernel_rfl
  z75 := fun _ => by kernel_rfl
  v75 := fun _ => by kernel_rfl
  t164 := by kernel_rfl
  a164 := fun _ => by kernel_rfl
  z164 := fun _ => by kernel_rfl
  v164 := fun _ => by kernel_rfl
theorem idxLays : Go.Proofs.Lays.n137 Tryd.prog jren where
  mixed := by kernel_rfl
  f137 := Tryd.func45.trans (congrArg some (by kernel_rfl))
  f217 := Tryd.func64.trans (congrArg some (by kernel_rfl))
  f266 := Tryd.func77.trans (congrArg some (by kernel_rfl))
  t3 := by kernel_rfl
  a3 := fun _ => by kernel_rfl
  z3 := fun _ => by kernel_rfl
  v3 := fun _ => by kernel_rfl
  t5 := by kernel_rfl
  a5 := fun _ => by kernel_rfl
  z5 := fun _ => by kernel_rfl
  v5 := fun _ => by kernel_rfl
  t9 := by kernel_rfl
  a9 := fun _ => by kernel_rfl
  z9 := fun _ => by kernel_rfl
  v9 := fun _ => by kernel_rfl
theorem jExtra : Builder.Extra Tryd.prog jren where
  sizeBuilder := by kernel_rfl
  liesBuilder := by kernel_rfl
  t5 := by kernel_rfl
  a5 := fun _ => by kernel_rfl
  z5 := fun _ => by kernel_rfl
  v5 := fun _ => by kernel_rfl
  infoByte := by kernel_rfl
  cellsByte := by kernel_rfl
  sizeByte := by kernel_rfl
  neB5 := by decide
end Go.Proofs.YtbldddagddmbgaaDoor

namespace Go.Proofs.YtbldddagddmbgaaDoor
open Go Go.RowKit Go.Deep

/-- Four cells that may be written. -/
def S4 (w : World) (b : Nat) (v0 v1 v2 v3 : Value) : Prop := w.heap[b]? = some (.cells #[v0, v1, v2, v3] 25 (0, 0))
theorem S4.new (w : World) (v0 v1 v2 v3 : Value) : S4 (w.alloc (.cells #[v0, v1, v2, v3] 25)) w.heap.size v0 v1 v2 v3 := heap_alloc_new w _
theorem S4.lt {w : World} {b : Nat} {v0 v1 v2 v3 : Value} (h : S4 w b v0 v1 v2 v3) : b < w.heap.size := by
  rcases Nat.lt_or_ge b w.heap.size with hl | hl
  · exact hl
  · simp [S4, Array.getElem?_eq_none hl] at h
theorem S4.below {w w' : World} {b : Nat} {v0 v1 v2 v3 : Value} (h : S4 w b v0 v1 v2 v3) (hB : Below w.heap.size w w') : S4 w' b v0 v1 v2 v3 := by
  rw [S4, hB.block b h.lt]; exact h
theorem S4.cells {w : World} {b : Nat} {v0 v1 v2 v3 : Value} (h : S4 w b v0 v1 v2 v3) :
    (w.cell? ⟨b, 0, none⟩ = some v0 ∧ w.cell? ⟨b, 1, none⟩ = some v1 ∧ w.cell? ⟨b, 2, none⟩ = some v2 ∧ w.cell? ⟨b, 3, none⟩ = some v3) ∧
    (w.frozen? ⟨b, 0, none⟩ = false ∧ w.frozen? ⟨b, 1, none⟩ = false ∧ w.frozen? ⟨b, 2, none⟩ = false ∧ w.frozen? ⟨b, 3, none⟩ = false) := by
  simp only [S4] at h
  refine ⟨⟨?_, ?_, ?_, ?_⟩, ⟨?_, ?_, ?_, ?_⟩⟩ <;> simp [World.cell?, World.frozen?, h]

/-- A Spec's box among what stays. -/
structure SB (w0 : World) (bx : Nat) (V F W P : Int) (wk : World) : Prop where
  bel : Below w0.heap.size w0 wk
  box : S4 wk bx (.int .u8 V) (.int .i64 F) (.int .i64 W) (.int .i64 P)
theorem SB.new (w : World) (V F W P : Int) : SB w w.heap.size V F W P (w.alloc (.cells #[.int .u8 V, .int .i64 F, .int .i64 W, .int .i64 P] 25)) := ⟨alloc_b w _, S4.new w _ _ _ _⟩
theorem SB.on {w0 wk w' : World} {bx : Nat} {V F W P : Int} (h : SB w0 bx V F W P wk) (k : Below wk.heap.size wk w') : SB w0 bx V F W P w' := ⟨below_on h.bel k, h.box.below k⟩
theorem SB.drew {w0 wk : World} {bx : Nat} {V F W P : Int} (h : SB w0 bx V F W P wk) : SB w0 bx V F W P wk.drew := ⟨h.bel.drew, h.box⟩
theorem SB.flat {w0 wk : World} {bx : Nat} {V F W P : Int} (h : SB w0 bx V F W P wk) : wk.cell? ⟨bx, 0, none⟩ = some (.int .u8 V) ∧ wk.cell? ⟨bx, 1, none⟩ = some (.int .i64 F) ∧ wk.cell? ⟨bx, 2, none⟩ = some (.int .i64 W) ∧ wk.cell? ⟨bx, 3, none⟩ = some (.int .i64 P) := h.box.cells.1
end Go.Proofs.YtbldddagddmbgaaDoor

namespace Go.Proofs.YtbldddagddmbgaaDoor
open Go Go.RowKit Go.Deep Go.Shelf

/-- A text as the walk tells it. -/
theorem str_is {s : ByteArray} {xs : List Int} (h : Str s xs) : s = strOfNums xs := h.inj (Str.of_nums (fun _ hx => h.mem hx))

theorem bit_and (F k : Int) (h0 : 0 ≤ F) (h1 : F ≤ 31) (hk : k = 1 ∨ k = 2 ∨ k = 4 ∨ k = 8 ∨ k = 16) : (bits .and .i64 F k = 0 ∧ Wh.bit F k = false) ∨ (bits .and .i64 F k ≠ 0 ∧ Wh.bit F k = true) := by
  have key : ∀ t : Fin 32, ∀ j ∈ [(1 : Int), 2, 4, 8, 16], (bits .and .i64 (t.val : Int) j = 0 ∧ Wh.bit (t.val : Int) j = false) ∨ (bits .and .i64 (t.val : Int) j ≠ 0 ∧ Wh.bit (t.val : Int) j = true) := by decide
  have := key ⟨F.toNat, by omega⟩ k (by simp; omega)
  simp only at this
  rw [show ((F.toNat : Nat) : Int) = F by omega] at this
  exact this

set_option maxRecDepth 100000 in
theorem has_any (V F W P k : Int) (w : World) (h0 : 0 ≤ F) (h1 : F ≤ 31) (hk : k = 1 ∨ k = 2 ∨ k = 4 ∨ k = 8 ∨ k = 16) :
    Calls Tryd.prog 33 #[.agg #[.int .u8 V, .int .i64 F, .int .i64 W, .int .i64 P], .int .i64 k] w fun e w' => e = .returned (.bool (Wh.bit F k)) ∧ Below w.heap.size w w' := by
  have B := hid (alloc_b w (.cells #[.int .u8 V, .int .i64 F, .int .i64 W, .int .i64 P] 25))
  rcases bit_and F k h0 h1 hk with ⟨e, q⟩ | ⟨e, q⟩
  · rw [q]
    clear h0 h1 hk q
    go_enter Tryd.func33, Tryd.ntmps33
    go_wp2_with fail
    go_ret
    exact ⟨rfl, B.out⟩
  · rw [q]
    have e2 : (bits .and .i64 F k != 0) = true := by simpa using e
    clear h0 h1 hk q e
    go_enter Tryd.func33, Tryd.ntmps33
    go_wp2_with fail
    go_ret
    exact ⟨rfl, B.out⟩

set_option maxRecDepth 100000 in
theorem check_any (V F W P : Int) (w : World) :
    Calls Tryd.prog 46 #[.agg #[.int .u8 V, .int .i64 F, .int .i64 W, .int .i64 P]] w fun e w' => e = .returned (.int .i64 (Wh.chk F W P)) ∧ Below w.heap.size w w' := by
  have B := hid (alloc_b w (.cells #[.int .u8 V, .int .i64 F, .int .i64 W, .int .i64 P] 25))
  by_cases h : F < 0 ∨ 31 < F ∨ W < 0 ∨ P < -1
  · rw [show Wh.chk F W P = 1 from if_pos h]
    by_cases h1 : F < 0
    · clear h
      go_enter Tryd.func46, Tryd.ntmps46
      go_wp2_with fail
      go_ret
      exact ⟨rfl, B.out⟩
    · by_cases h2 : 31 < F
      · clear h
        go_enter Tryd.func46, Tryd.ntmps46
        go_wp2_with fail
        go_ret
        exact ⟨rfl, B.out⟩
      · by_cases h3 : W < 0
        · clear h
          go_enter Tryd.func46, Tryd.ntmps46
          go_wp2_with fail
          go_ret
          exact ⟨rfl, B.out⟩
        · have h4 : P < -1 := by omega
          clear h
          go_enter Tryd.func46, Tryd.ntmps46
          go_wp2_with fail
          go_ret
          exact ⟨rfl, B.out⟩
  · have h1 : ¬ F < 0 := by omega
    have h2 : ¬ 31 < F := by omega
    have h3 : ¬ W < 0 := by omega
    have h4 : ¬ P < -1 := by omega
    by_cases k : 4096 < W ∨ 4096 < P
    · rw [show Wh.chk F W P = 6 by rw [Wh.chk, if_neg h, if_pos k]]
      by_cases k1 : 4096 < W
      · clear h k
        go_enter Tryd.func46, Tryd.ntmps46
        go_wp2_with fail
        go_ret
        exact ⟨rfl, B.out⟩
      · have k2 : 4096 < P := by omega
        clear h k
        go_enter Tryd.func46, Tryd.ntmps46
        go_wp2_with fail
        go_ret
        exact ⟨rfl, B.out⟩
    · rw [show Wh.chk F W P = 0 by rw [Wh.chk, if_neg h, if_neg k]]
      have k1 : ¬ 4096 < W := by omega
      have k2 : ¬ 4096 < P := by omega
      clear h k
      go_enter Tryd.func46, Tryd.ntmps46
      go_wp2_with fail
      go_ret
      exact ⟨rfl, B.out⟩

set_option maxRecDepth 100000 in
theorem checkVerb_any (V F W P : Int) (s : ByteArray) (ok : Bool) (w : World) (hv : (Lib.indexByte s.data.toList V.toNat.toUInt8 < 0 ∧ ok = false) ∨ (0 ≤ Lib.indexByte s.data.toList V.toNat.toUInt8 ∧ ok = true)) :
    Calls Tryd.prog 26 #[.agg #[.int .u8 V, .int .i64 F, .int .i64 W, .int .i64 P], .string s] w fun e w' => e = .returned (.int .i64 (if ok = true then Wh.chk F W P else 140)) ∧ Below w.heap.size w w' := by
  have B := hid (alloc_b w (.cells #[.int .u8 V, .int .i64 F, .int .i64 W, .int .i64 P] 25))
  have IX := hid (fun w => Any.strings_IndexByte idxLays s V w)
  generalize Lib.indexByte s.data.toList V.toNat.toUInt8 = x at *
  rcases hv with ⟨h, rfl⟩ | ⟨h, rfl⟩
  · rw [if_neg Bool.false_ne_true]
    go_enter Tryd.func26, Tryd.ntmps26
    go_wp2_with (go_at_call 45; refine (IX.out _).mono ?_; rintro e w2 ⟨rfl, rfl⟩)
    go_ret
    exact ⟨rfl, B.out⟩
  · rw [if_pos rfl]
    have h' : ¬ x < 0 := by omega
    have CK := hid (fun w => check_any V F W P w)
    generalize Wh.chk F W P = E at *
    go_enter Tryd.func26, Tryd.ntmps26
    go_wp2_with (go_at_call 45; refine (IX.out _).mono ?_; rintro e w2 ⟨rfl, rfl⟩)
    refine (CK.out _).mono ?_
    rintro e w1 ⟨rfl, b1⟩
    have B1 := hid (below_on B.out b1)
    clear b1
    go_wp2_with fail
    go_ret
    exact ⟨rfl, B1.out⟩

set_option maxRecDepth 100000 in
/-- The verbs, by their texts. -/
theorem vb_c (V : Int) (h0 : 0 ≤ V) (h1 : V < 256) : (Lib.indexByte (⟨#[99]⟩ : ByteArray).data.toList V.toNat.toUInt8 < 0 ∧ decide (V = 99) = false) ∨ (0 ≤ Lib.indexByte (⟨#[99]⟩ : ByteArray).data.toList V.toNat.toUInt8 ∧ decide (V = 99) = true) := by
  have key : ∀ t : Fin 256, (Lib.indexByte [99] (t.val : Int).toNat.toUInt8 < 0 ∧ decide ((t.val : Int) = 99) = false) ∨ (0 ≤ Lib.indexByte [99] (t.val : Int).toNat.toUInt8 ∧ decide ((t.val : Int) = 99) = true) := by decide
  have := key ⟨V.toNat, by omega⟩
  simp only at this
  rw [show ((V.toNat : Nat) : Int) = V by omega] at this
  exact this
set_option maxRecDepth 100000 in
theorem vb_s (V : Int) (h0 : 0 ≤ V) (h1 : V < 256) : (Lib.indexByte (⟨#[115]⟩ : ByteArray).data.toList V.toNat.toUInt8 < 0 ∧ decide (V = 115) = false) ∨ (0 ≤ Lib.indexByte (⟨#[115]⟩ : ByteArray).data.toList V.toNat.toUInt8 ∧ decide (V = 115) = true) := by
  have key : ∀ t : Fin 256, (Lib.indexByte [115] (t.val : Int).toNat.toUInt8 < 0 ∧ decide ((t.val : Int) = 115) = false) ∨ (0 ≤ Lib.indexByte [115] (t.val : Int).toNat.toUInt8 ∧ decide ((t.val : Int) = 115) = true) := by decide
  have := key ⟨V.toNat, by omega⟩
  simp only at this
  rw [show ((V.toNat : Nat) : Int) = V by omega] at this
  exact this
set_option maxRecDepth 100000 in
theorem vb_di (V : Int) (h0 : 0 ≤ V) (h1 : V < 256) : (Lib.indexByte (⟨#[100, 105]⟩ : ByteArray).data.toList V.toNat.toUInt8 < 0 ∧ decide (V = 100 ∨ V = 105) = false) ∨ (0 ≤ Lib.indexByte (⟨#[100, 105]⟩ : ByteArray).data.toList V.toNat.toUInt8 ∧ decide (V = 100 ∨ V = 105) = true) := by
  have key : ∀ t : Fin 256, (Lib.indexByte [100, 105] (t.val : Int).toNat.toUInt8 < 0 ∧ decide ((t.val : Int) = 100 ∨ (t.val : Int) = 105) = false) ∨ (0 ≤ Lib.indexByte [100, 105] (t.val : Int).toNat.toUInt8 ∧ decide ((t.val : Int) = 100 ∨ (t.val : Int) = 105) = true) := by decide
  have := key ⟨V.toNat, by omega⟩
  simp only at this
  rw [show ((V.toNat : Nat) : Int) = V by omega] at this
  exact this
set_option maxRecDepth 100000 in
theorem vb_o (V : Int) (h0 : 0 ≤ V) (h1 : V < 256) : (Lib.indexByte (⟨#[111, 117, 120, 88]⟩ : ByteArray).data.toList V.toNat.toUInt8 < 0 ∧ decide (V = 111 ∨ V = 117 ∨ V = 120 ∨ V = 88) = false) ∨ (0 ≤ Lib.indexByte (⟨#[111, 117, 120, 88]⟩ : ByteArray).data.toList V.toNat.toUInt8 ∧ decide (V = 111 ∨ V = 117 ∨ V = 120 ∨ V = 88) = true) := by
  have key : ∀ t : Fin 256, (Lib.indexByte [111, 117, 120, 88] (t.val : Int).toNat.toUInt8 < 0 ∧ decide ((t.val : Int) = 111 ∨ (t.val : Int) = 117 ∨ (t.val : Int) = 120 ∨ (t.val : Int) = 88) = false) ∨ (0 ≤ Lib.indexByte [111, 117, 120, 88] (t.val : Int).toNat.toUInt8 ∧ decide ((t.val : Int) = 111 ∨ (t.val : Int) = 117 ∨ (t.val : Int) = 120 ∨ (t.val : Int) = 88) = true) := by decide
  have := key ⟨V.toNat, by omega⟩
  simp only at this
  rw [show ((V.toNat : Nat) : Int) = V by omega] at this
  exact this
end Go.Proofs.YtbldddagddmbgaaDoor

namespace Go.Proofs.YtbldddagddmbgaaDoor
open Go Go.RowKit Go.Deep Go.Shelf

theorem ret_str {a b : ByteArray} (h : a = b) : Ending.returned (.string a) = .returned (.string b) := by rw [h]
theorem str_cells {s : ByteArray} {xs : List Int} (h : Str s xs) : Lib.strCells s = xs.map (Value.int .u8) := by
  rw [← h, List.map_map]; rfl
def IsB (B b : Nat) (zs : List Int) (w : World) : Prop := Lib.IsBuilder 69 5 B b (zs.map (Value.int .u8)) w
theorem IsB.below {B b : Nat} {zs : List Int} {w w' : World} (h : IsB B b zs w) (k : Below w.heap.size w w') : IsB B b zs w' := by
  have key : ∀ p, Lib.BuilderAt 69 5 B b p (zs.map (Value.int .u8)) w → Lib.BuilderAt 69 5 B b p (zs.map (Value.int .u8)) w' := by
    rintro p ⟨h1, v, h2, h3, h4⟩
    have hl : b < w.heap.size := by
      rcases Nat.lt_or_ge b w.heap.size with c | c
      · exact c
      · simp [Array.getElem?_eq_none c] at h2
    exact ⟨h1, v, by rw [k.block b hl]; exact h2, World.ownsRow.kept (row := none) h3 ⟨k.os, k.tape, k.output, k.size, fun j hj _ => k.block j hj⟩ (by cases h : Value.ownBlock v <;> simp), h4⟩
  rcases h with h | h
  · exact .inl (key _ h)
  · exact .inr (key _ h)
theorem bwrite_any (B b : Nat) (zs xs : List Int) (s : ByteArray) (w : World) (h : IsB B b zs w) (hs : Str s xs) (hl : zs.length + xs.length ≤ 140737488355328) (hB : B ≤ w.heap.size) : Calls Tryd.prog 50 #[.pointer (some ⟨b, 0, none⟩), .string s] w fun e w' => e = .returned (.tuple #[.int .i64 s.size, .nilIface]) ∧ IsB B b (zs ++ xs) w' ∧ Below B w w' := by
  have q := Any.Builder_WriteString jwsLays jExtra B b (zs.map (Value.int .u8)) s w h (by have := hs.size; rw [List.length_map]; omega) hB
  rw [str_cells hs, ← List.map_append] at q
  refine q.mono ?_
  rintro e w' ⟨rfl, h1, h2⟩
  exact ⟨rfl, .inr h1, h2⟩
theorem bstr_any (B b : Nat) (zs : List Int) (w : World) (h : IsB B b zs w) (hz : ∀ x ∈ zs, 0 ≤ x ∧ x < 256) (hB : B ≤ w.heap.size) : Calls Tryd.prog 52 #[.pointer (some ⟨b, 0, none⟩)] w fun e w' => e = .returned (.string (strOfNums zs)) ∧ Below B w w' := by
  have S := Str.of_nums hz
  have e1 : zs.map (Value.int .u8) = Lib.byteCells (strOfNums zs).data.toList := by rw [← str_cells S]; rfl
  have h' : Lib.IsBuilder 69 5 B b (Lib.byteCells (strOfNums zs).data.toList) w := by rw [← e1]; exact h
  have q := Any.Builder_String_any { repLays with } jExtra B b (strOfNums zs).data.toList w h' hB
  have e2 : (⟨(strOfNums zs).data.toList.toArray⟩ : ByteArray) = strOfNums zs := by simp
  rw [e2] at q
  exact q
theorem bgrow_any (B b n : Nat) (w : World) (hB : B ≤ b) (hbk : w.heap[b]? = some (.cells #[.pointer none, .slice none 0 0] 69 (0, 0))) (hBw : B ≤ w.heap.size) (hn : n ≤ 281474976710656) : Calls Tryd.prog 49 #[.pointer (some ⟨b, 0, none⟩), .int .i64 n] w fun e w' => e = .returned (.tuple #[]) ∧ IsB B b [] w' ∧ Below B w w' := by
  refine (Any.Builder_Grow_fresh { repLays with } jExtra B b n w hB hbk hBw hn).mono ?_
  rintro e w' ⟨rfl, h1, h2⟩
  exact ⟨rfl, .inr h1, h2⟩

theorem rep_str (c : UInt8) (k : Nat) : Str ⟨(Lib.repeatL (#[c] : Array UInt8).toList k).toArray⟩ (List.replicate k (c.toNat : Int)) := by
  unfold Str
  simp only
  induction k with
  | zero => rfl
  | succ k ih =>
    rw [Lib.repeatL, List.replicate_succ]
    simpa using ih
theorem jrep (c : UInt8) (n : Nat) (w : World) (hn : n ≤ 100000) : Calls Tryd.prog 51 #[.string ⟨#[c]⟩, .int .i64 (n : Int)] w fun e w' => e = .returned (.string (strOfNums (Wh.rep (c.toNat : Int) (n : Int)))) ∧ Below w.heap.size w w' := by
  refine (Any.strings_Repeat repLays jExtra ⟨#[c]⟩ n w (by omega) (by have : (⟨#[c]⟩ : ByteArray).size = 1 := rfl; rw [this]; omega)).mono ?_
  rintro e w' ⟨rfl, hB⟩
  refine ⟨?_, hB⟩
  rw [Wh.rep, Int.toNat_natCast, ← str_is (rep_str c n)]
theorem jrep32 (n : Nat) (w : World) (hn : n ≤ 100000) : Calls Tryd.prog 51 #[.string ⟨#[32]⟩, .int .i64 (n : Int)] w fun e w' => e = .returned (.string (strOfNums (Wh.rep 32 (n : Int)))) ∧ Below w.heap.size w w' := jrep 32 n w hn
theorem jrep48 (n : Nat) (w : World) (hn : n ≤ 100000) : Calls Tryd.prog 51 #[.string ⟨#[48]⟩, .int .i64 (n : Int)] w fun e w' => e = .returned (.string (strOfNums (Wh.rep 48 (n : Int)))) ∧ Below w.heap.size w w' := jrep 48 n w hn

/-- A Builder of our own among what is new. -/
structure PS (w0 : World) (bb : Nat) (zs : List Int) (wk : World) : Prop where
  bel : Below w0.heap.size w0 wk
  isb : IsB bb bb zs wk
  sz : bb ≤ wk.heap.size
  lo : w0.heap.size ≤ bb
theorem PS.on {w0 wk w' : World} {bb : Nat} {zs : List Int} (h : PS w0 bb zs wk) (k : Below wk.heap.size wk w') : PS w0 bb zs w' :=
  ⟨below_on h.bel k, h.isb.below k, Nat.le_trans h.sz k.size, h.lo⟩
theorem PS.write {w0 wk : World} {bb : Nat} {zs : List Int} (h : PS w0 bb zs wk) (xs : List Int) (hx : Wh.By xs) (hl : zs.length + xs.length ≤ 140737488355328) :
    Calls Tryd.prog 50 #[.pointer (some ⟨bb, 0, none⟩), .string (strOfNums xs)] wk fun e w' => e = .returned (.tuple #[.int .i64 (strOfNums xs).size, .nilIface]) ∧ PS w0 bb (zs ++ xs) w' := by
  refine (bwrite_any bb bb zs xs _ wk h.isb (Str.of_nums hx) hl h.sz).mono ?_
  rintro e w' ⟨rfl, i, b⟩
  exact ⟨rfl, h.bel.trans (b.mono h.lo), i, Nat.le_trans h.sz b.size, h.lo⟩
theorem PS.str {w0 wk : World} {bb : Nat} {zs : List Int} (h : PS w0 bb zs wk) (hz : Wh.By zs) :
    Calls Tryd.prog 52 #[.pointer (some ⟨bb, 0, none⟩)] wk fun e w' => e = .returned (.string (strOfNums zs)) ∧ Below w0.heap.size w0 w' := by
  refine (bstr_any bb bb zs wk h.isb hz h.sz).mono ?_
  rintro e w' ⟨rfl, b⟩
  exact ⟨rfl, h.bel.trans (b.mono h.lo)⟩
theorem PS.grow {w0 w1 : World} (n : Nat) (h : Below w0.heap.size w0 w1) (hn : n ≤ 281474976710656) :
    Calls Tryd.prog 49 #[.pointer (some ⟨w1.heap.size, 0, none⟩), .int .i64 (n : Int)] (w1.alloc (.cells #[.pointer none, .slice none 0 0] 69)) fun e w' => e = .returned (.tuple #[]) ∧ PS w0 w1.heap.size [] w' := by
  have A := alloc_b w1 (.cells #[.pointer none, .slice none 0 0] 69)
  refine (bgrow_any w1.heap.size w1.heap.size n _ (Nat.le_refl _) (heap_alloc_new w1 _) A.size hn).mono ?_
  rintro e w' ⟨rfl, i, b⟩
  exact ⟨rfl, below_on h A |>.trans (b.mono h.size), i, Nat.le_trans A.size b.size, h.size⟩
end Go.Proofs.YtbldddagddmbgaaDoor

namespace Go.Proofs.YtbldddagddmbgaaDoor
open Go Go.RowKit Go.Deep Go.Shelf

def PadTold (F W P : Int) (z : Bool) (h b : List Int) (w : World) (e : Ending) (w' : World) : Prop := e = .returned (.tuple #[.string (strOfNums (Wh.pad F W P z h b)), .int .i64 (Wh.padE F W P h b)]) ∧ Below w.heap.size w w'
theorem PadTold.bel {F W P : Int} {z : Bool} {h b : List Int} {w : World} {e : Ending} {w' : World} (k : PadTold F W P z h b w e w') : Below w.heap.size w w' := k.2

set_option maxRecDepth 100000 in
set_option maxHeartbeats 4000000 in
theorem pad_any (V F W P : Int) (h b : List Int) (z : Bool) (w : World) (hh : Wh.By h) (hb : Wh.By b) (lh : h.length ≤ 140737488355328) (lb : b.length ≤ 140737488355328) :
    Calls Tryd.prog 29 #[.agg #[.int .u8 V, .int .i64 F, .int .i64 W, .int .i64 P], .string (strOfNums h), .string (strOfNums b), .bool z] w fun e w' => PadTold F W P z h b w e w' := by
  have B0 := hid (alloc_b w (.cells #[.int .u8 V, .int .i64 F, .int .i64 W, .int .i64 P] 25))
  have CK := hid (fun W' => check_any V F W P W')
  by_cases hc : Wh.chk F W P = 0
  · obtain ⟨⟨f0, f1⟩, ⟨wl, wu⟩, ⟨p0, p1⟩⟩ := Wh.chk_ok hc
    rw [hc] at CK
    have sh : (strOfNums h).size = h.length := strOfNums_size h
    have sb : (strOfNums b).size = b.length := strOfNums_size b
    have S0 := hid (S4.new w (.int .u8 V) (.int .i64 F) (.int .i64 W) (.int .i64 P))
    by_cases hl : 16777216 < h.length + b.length
    · have hE : Wh.padE F W P h b = 3 := by rw [Wh.padE, if_pos hc, if_pos hl]
      have G : Hid (∀ w', Below w.heap.size w w' → PadTold F W P z h b w (.returned (.tuple #[.string ⟨#[]⟩, .int .i64 3])) w') := fun w' k => ⟨by rw [Wh.pad, hE, if_neg (by decide)]; rfl, k⟩
      have l1 : (16777216 : Int) - (h.length : Int) < (b.length : Int) := by omega
      have l2 : (h.length : Int) ≤ 140737488355328 := by omega
      have l3 : (b.length : Int) ≤ 140737488355328 := by omega
      clear hh hb lh lb hc hl hE f0 f1 wl wu p0 p1 S0
      go_enter Tryd.func29, Tryd.ntmps29
      go_wp2_with fail
      refine (CK.out _).mono ?_
      rintro e w1 ⟨rfl, b1⟩
      have B1 := hid (below_on B0.out b1)
      clear b1 CK
      go_wp2_with fail
      go_ret2
      exact G.out _ B1.out
    · have hE : Wh.padE F W P h b = 0 := by rw [Wh.padE, if_pos hc, if_neg hl]
      have hP : Wh.pad F W P z h b = Wh.padT F W z h b := by rw [Wh.pad, hE, if_pos rfl]
      have BY := hid (Wh.padT_by (F := F) (W := W) (z := z) hh hb)
      have PL := hid (Wh.padT_len F W z h b)
      have l1 : ¬ (16777216 : Int) - (h.length : Int) < (b.length : Int) := by omega
      have l2 : (h.length : Int) ≤ 16777216 := by omega
      have l3 : (b.length : Int) ≤ 16777216 := by omega
      have n2 : h.length ≤ 16777216 := by omega
      have n3 : b.length ≤ 16777216 := by omega
      obtain ⟨M, hM⟩ : ∃ M : Nat, M = (W - h.length - b.length).toNat := ⟨_, rfl⟩
      have M1 : M ≤ 4096 := by omega
      have mx : max 0 (W - (h.length : Int) - (b.length : Int)) = (M : Int) := by rw [hM]; omega
      have rp : ∀ c, Wh.rep c (W - h.length - b.length) = Wh.rep c (M : Int) := by intro c; rw [Wh.rep, Wh.rep, hM]; rfl
      have R0 : Hid (∀ W', Calls Tryd.prog 51 #[.string ⟨#[32]⟩, .int .i64 0] W' fun e w' => e = .returned (.string (strOfNums [])) ∧ Below W'.heap.size W' w') := fun W' => jrep32 0 W' (by omega)
      have R1 := hid (fun W' => jrep32 M W' (by omega))
      have Q0 : Hid (∀ W', Calls Tryd.prog 51 #[.string ⟨#[48]⟩, .int .i64 0] W' fun e w' => e = .returned (.string (strOfNums [])) ∧ Below W'.heap.size W' w') := fun W' => jrep48 0 W' (by omega)
      have Q1 := hid (fun W' => jrep48 M W' (by omega))
      have H1 := hid (fun W' => has_any V F W P 1 W' f0 f1 (by omega))
      have H2 := hid (fun W' => has_any V F W P 16 W' f0 f1 (by omega))
      have GR := hid (fun (w1 : World) (k : Below w.heap.size w w1) => PS.grow (h.length + b.length + M) k (by omega))
      have WT := hid (fun (wk : World) bb zs xs (k : PS w bb zs wk) hx hl => PS.write k xs hx hl)
      have WS := hid (fun (wk : World) bb zs (k : PS w bb zs wk) hx => PS.str k hx)
      have gm : ((h.length + b.length + M : Nat) : Int) = (h.length : Int) + (b.length : Int) + (M : Int) := by omega
      have m0 : (M : Int) ≤ 4096 := by omega
      have y1 : Hid (Wh.By (Wh.rep 32 (M : Int)) ∧ (Wh.rep 32 (M : Int)).length = M) := ⟨Wh.By.rep (by omega), by rw [Wh.rep_len]; omega⟩
      have y2 : Hid (Wh.By (Wh.rep 48 (M : Int)) ∧ (Wh.rep 48 (M : Int)).length = M) := ⟨Wh.By.rep (by omega), by rw [Wh.rep_len]; omega⟩
      have YH := hid hh
      have YB := hid hb
      have N2 := hid n2
      have N3 := hid n3
      have G : Hid (∀ w', Below w.heap.size w w' → PadTold F W P z h b w (.returned (.tuple #[.string (strOfNums (Wh.padT F W z h b)), .int .i64 0])) w') := fun w' k => ⟨by rw [hE, hP], k⟩
      cases hb1 : Wh.bit F 1 with
      | true =>
        have EQ : Hid (Wh.padT F W z h b = h ++ b ++ Wh.rep 32 (M : Int)) := by rw [Hid]; rw [Wh.padT, if_pos hb1, rp]
        clear hh hb lh lb hc hl hE hP hM rp f0 f1 p0 p1 n2 n3
        go_enter Tryd.func29, Tryd.ntmps29
        go_wp2_with fail
        refine (CK.out _).mono ?_
        rintro e w1 ⟨rfl, b1⟩
        have B1 := hid (below_on B0.out b1)
        obtain ⟨⟨c0, c1, c2, c3⟩, -⟩ := (S0.out.below b1).cells
        have S1 := hid (S0.out.below b1)
        clear b1 CK S0 B0
        go_wp2_with fail
        refine (H1.out _).mono ?_
        rintro e w2 ⟨rfl, b2⟩
        have B2 := hid (below_on B1.out b2)
        obtain ⟨⟨d0, d1, d2, d3⟩, -⟩ := (S1.out.below b2).cells
        have S2 := hid (S1.out.below b2)
        clear b2 c0 c1 c2 c3 B1 S1
        rw [hb1]
        go_wp2_with fail
        have GG := GR.out _ B2.out
        rw [gm] at GG
        with_reducible refine GG.mono ?_
        rintro e wa ⟨rfl, q⟩
        have Qa := hid q
        clear q GG GR
        go_wp2_with fail
        generalize w2.heap.size = bb at *
        with_reducible refine (R0.out _).mono ?_
        rintro e wr ⟨rfl, br⟩
        have Qr := hid (Qa.out.on br)
        clear br
        go_wp2_with fail
        with_reducible refine (WT.out _ _ _ [] Qr.out Wh.By.nil (by have := N2.out; have := N3.out; have := y1.out.2; have := y2.out.2; simp only [List.length_nil]; omega)).mono ?_
        rintro e Qbw ⟨rfl, q⟩
        have Qb := hid q
        clear q Qr wr
        go_wp2_with fail
        with_reducible refine (WT.out _ _ _ h Qb.out YH.out (by have := N2.out; have := N3.out; have := y1.out.2; have := y2.out.2; simp only [List.length_append, List.length_nil]; omega)).mono ?_
        rintro e Qcw ⟨rfl, q⟩
        have Qc := hid q
        clear q
        go_wp2_with fail
        with_reducible refine (Q0.out _).mono ?_
        rintro e wr ⟨rfl, br⟩
        have Qr := hid (Qc.out.on br)
        clear br
        go_wp2_with fail
        with_reducible refine (WT.out _ _ _ [] Qr.out Wh.By.nil (by have := N2.out; have := N3.out; have := y1.out.2; have := y2.out.2; simp only [List.length_append, List.length_nil]; omega)).mono ?_
        rintro e Qdw ⟨rfl, q⟩
        have Qd := hid q
        clear q Qr wr
        go_wp2_with fail
        with_reducible refine (WT.out _ _ _ b Qd.out YB.out (by have := N2.out; have := N3.out; have := y1.out.2; have := y2.out.2; simp only [List.length_append, List.length_nil]; omega)).mono ?_
        rintro e Qew ⟨rfl, q⟩
        have Qe := hid q
        clear q
        go_wp2_with fail
        with_reducible refine (R1.out _).mono ?_
        rintro e wr ⟨rfl, br⟩
        have Qr := hid (Qe.out.on br)
        clear br
        go_wp2_with fail
        with_reducible refine (WT.out _ _ _ (Wh.rep 32 (M : Int)) Qr.out y1.out.1 (by have := N2.out; have := N3.out; have := y1.out.2; have := y2.out.2; simp only [List.length_append, List.length_nil]; omega)).mono ?_
        rintro e Qfw ⟨rfl, q⟩
        have Qf := hid q
        clear q Qr wr
        go_wp2_with fail
        have QF : Hid (PS w bb (Wh.padT F W z h b) Qfw) := by
          have q := Qf.out
          simp only [List.nil_append, List.append_nil] at q
          rw [EQ.out]; exact q
        with_reducible refine (WS.out _ _ _ QF.out BY.out).mono ?_
        rintro e wz ⟨rfl, bz⟩
        have BZ := hid (G.out _ bz)
        clear bz QF Qf
        go_wp2_with fail
        go_ret2
        exact BZ.out
      | false =>
        cases hb2 : Wh.bit F 16 with
        | true =>
          cases z with
          | true =>
            have EQ : Hid (Wh.padT F W true h b = h ++ Wh.rep 48 (M : Int) ++ b) := by rw [Hid]; rw [Wh.padT, hb1, if_neg Bool.false_ne_true, if_pos ⟨hb2, rfl⟩, rp]
            clear hh hb lh lb hc hl hE hP hM rp f0 f1 p0 p1 n2 n3
            go_enter Tryd.func29, Tryd.ntmps29
            go_wp2_with fail
            refine (CK.out _).mono ?_
            rintro e w1 ⟨rfl, b1⟩
            have B1 := hid (below_on B0.out b1)
            obtain ⟨⟨c0, c1, c2, c3⟩, -⟩ := (S0.out.below b1).cells
            have S1 := hid (S0.out.below b1)
            clear b1 CK S0 B0
            go_wp2_with fail
            refine (H1.out _).mono ?_
            rintro e w2 ⟨rfl, b2⟩
            have B2 := hid (below_on B1.out b2)
            obtain ⟨⟨d0, d1, d2, d3⟩, -⟩ := (S1.out.below b2).cells
            have S2 := hid (S1.out.below b2)
            clear b2 c0 c1 c2 c3 B1 S1
            rw [hb1]
            go_wp2_with fail
            refine (H2.out _).mono ?_
            rintro e w3 ⟨rfl, b3⟩
            have B3 := hid (below_on B2.out b3)
            obtain ⟨⟨c0, c1, c2, c3⟩, -⟩ := (S2.out.below b3).cells
            clear b3 d0 d1 d2 d3 B2 S2
            rw [hb2]
            go_wp2_with fail
            have GG := GR.out _ B3.out
            rw [gm] at GG
            with_reducible refine GG.mono ?_
            rintro e wa ⟨rfl, q⟩
            have Qa := hid q
            clear q GG GR
            go_wp2_with fail
            generalize w3.heap.size = bb at *
            with_reducible refine (R0.out _).mono ?_
            rintro e wr ⟨rfl, br⟩
            have Qr := hid (Qa.out.on br)
            clear br
            go_wp2_with fail
            with_reducible refine (WT.out _ _ _ [] Qr.out Wh.By.nil (by have := N2.out; have := N3.out; have := y1.out.2; have := y2.out.2; simp only [List.length_nil]; omega)).mono ?_
            rintro e Qbw ⟨rfl, q⟩
            have Qb := hid q
            clear q Qr wr
            go_wp2_with fail
            with_reducible refine (WT.out _ _ _ h Qb.out YH.out (by have := N2.out; have := N3.out; have := y1.out.2; have := y2.out.2; simp only [List.length_append, List.length_nil]; omega)).mono ?_
            rintro e Qcw ⟨rfl, q⟩
            have Qc := hid q
            clear q
            go_wp2_with fail
            with_reducible refine (Q1.out _).mono ?_
            rintro e wr ⟨rfl, br⟩
            have Qr := hid (Qc.out.on br)
            clear br
            go_wp2_with fail
            with_reducible refine (WT.out _ _ _ (Wh.rep 48 (M : Int)) Qr.out y2.out.1 (by have := N2.out; have := N3.out; have := y1.out.2; have := y2.out.2; simp only [List.length_append, List.length_nil]; omega)).mono ?_
            rintro e Qdw ⟨rfl, q⟩
            have Qd := hid q
            clear q Qr wr
            go_wp2_with fail
            with_reducible refine (WT.out _ _ _ b Qd.out YB.out (by have := N2.out; have := N3.out; have := y1.out.2; have := y2.out.2; simp only [List.length_append, List.length_nil]; omega)).mono ?_
            rintro e Qew ⟨rfl, q⟩
            have Qe := hid q
            clear q
            go_wp2_with fail
            with_reducible refine (R0.out _).mono ?_
            rintro e wr ⟨rfl, br⟩
            have Qr := hid (Qe.out.on br)
            clear br
            go_wp2_with fail
            with_reducible refine (WT.out _ _ _ [] Qr.out Wh.By.nil (by have := N2.out; have := N3.out; have := y1.out.2; have := y2.out.2; simp only [List.length_append, List.length_nil]; omega)).mono ?_
            rintro e Qfw ⟨rfl, q⟩
            have Qf := hid q
            clear q Qr wr
            go_wp2_with fail
            have QF : Hid (PS w bb (Wh.padT F W true h b) Qfw) := by
              have q := Qf.out
              simp only [List.nil_append, List.append_nil] at q
              rw [EQ.out]; exact q
            with_reducible refine (WS.out _ _ _ QF.out BY.out).mono ?_
            rintro e wz ⟨rfl, bz⟩
            have BZ := hid (G.out _ bz)
            clear bz QF Qf
            go_wp2_with fail
            go_ret2
            exact BZ.out
          | false =>
            have EQ : Hid (Wh.padT F W false h b = Wh.rep 32 (M : Int) ++ h ++ b) := by rw [Hid]; rw [Wh.padT, hb1, if_neg Bool.false_ne_true, if_neg (fun q => Bool.false_ne_true q.2), rp]
            clear hh hb lh lb hc hl hE hP hM rp f0 f1 p0 p1 n2 n3
            go_enter Tryd.func29, Tryd.ntmps29
            go_wp2_with fail
            refine (CK.out _).mono ?_
            rintro e w1 ⟨rfl, b1⟩
            have B1 := hid (below_on B0.out b1)
            obtain ⟨⟨c0, c1, c2, c3⟩, -⟩ := (S0.out.below b1).cells
            have S1 := hid (S0.out.below b1)
            clear b1 CK S0 B0
            go_wp2_with fail
            refine (H1.out _).mono ?_
            rintro e w2 ⟨rfl, b2⟩
            have B2 := hid (below_on B1.out b2)
            obtain ⟨⟨d0, d1, d2, d3⟩, -⟩ := (S1.out.below b2).cells
            have S2 := hid (S1.out.below b2)
            clear b2 c0 c1 c2 c3 B1 S1
            rw [hb1]
            go_wp2_with fail
            refine (H2.out _).mono ?_
            rintro e w3 ⟨rfl, b3⟩
            have B3 := hid (below_on B2.out b3)
            obtain ⟨⟨c0, c1, c2, c3⟩, -⟩ := (S2.out.below b3).cells
            clear b3 d0 d1 d2 d3 B2 S2
            rw [hb2]
            go_wp2_with fail
            have GG := GR.out _ B3.out
            rw [gm] at GG
            with_reducible refine GG.mono ?_
            rintro e wa ⟨rfl, q⟩
            have Qa := hid q
            clear q GG GR
            go_wp2_with fail
            generalize w3.heap.size = bb at *
            with_reducible refine (R1.out _).mono ?_
            rintro e wr ⟨rfl, br⟩
            have Qr := hid (Qa.out.on br)
            clear br
            go_wp2_with fail
            with_reducible refine (WT.out _ _ _ (Wh.rep 32 (M : Int)) Qr.out y1.out.1 (by have := N2.out; have := N3.out; have := y1.out.2; have := y2.out.2; simp only [List.length_nil]; omega)).mono ?_
            rintro e Qbw ⟨rfl, q⟩
            have Qb := hid q
            clear q Qr wr
            go_wp2_with fail
            with_reducible refine (WT.out _ _ _ h Qb.out YH.out (by have := N2.out; have := N3.out; have := y1.out.2; have := y2.out.2; simp only [List.length_append, List.length_nil]; omega)).mono ?_
            rintro e Qcw ⟨rfl, q⟩
            have Qc := hid q
            clear q
            go_wp2_with fail
            with_reducible refine (Q0.out _).mono ?_
            rintro e wr ⟨rfl, br⟩
            have Qr := hid (Qc.out.on br)
            clear br
            go_wp2_with fail
            with_reducible refine (WT.out _ _ _ [] Qr.out Wh.By.nil (by have := N2.out; have := N3.out; have := y1.out.2; have := y2.out.2; simp only [List.length_append, List.length_nil]; omega)).mono ?_
            rintro e Qdw ⟨rfl, q⟩
            have Qd := hid q
            clear q Qr wr
            go_wp2_with fail
            with_reducible refine (WT.out _ _ _ b Qd.out YB.out (by have := N2.out; have := N3.out; have := y1.out.2; have := y2.out.2; simp only [List.length_append, List.length_nil]; omega)).mono ?_
            rintro e Qew ⟨rfl, q⟩
            have Qe := hid q
            clear q
            go_wp2_with fail
            with_reducible refine (R0.out _).mono ?_
            rintro e wr ⟨rfl, br⟩
            have Qr := hid (Qe.out.on br)
            clear br
            go_wp2_with fail
            with_reducible refine (WT.out _ _ _ [] Qr.out Wh.By.nil (by have := N2.out; have := N3.out; have := y1.out.2; have := y2.out.2; simp only [List.length_append, List.length_nil]; omega)).mono ?_
            rintro e Qfw ⟨rfl, q⟩
            have Qf := hid q
            clear q Qr wr
            go_wp2_with fail
            have QF : Hid (PS w bb (Wh.padT F W false h b) Qfw) := by
              have q := Qf.out
              simp only [List.nil_append, List.append_nil] at q
              rw [EQ.out]; exact q
            with_reducible refine (WS.out _ _ _ QF.out BY.out).mono ?_
            rintro e wz ⟨rfl, bz⟩
            have BZ := hid (G.out _ bz)
            clear bz QF Qf
            go_wp2_with fail
            go_ret2
            exact BZ.out
        | false =>
          have EQ : Hid (Wh.padT F W z h b = Wh.rep 32 (M : Int) ++ h ++ b) := by rw [Hid]; rw [Wh.padT, hb1, if_neg Bool.false_ne_true, hb2, if_neg (fun q => Bool.false_ne_true q.1), rp]
          clear hh hb lh lb hc hl hE hP hM rp f0 f1 p0 p1 n2 n3
          go_enter Tryd.func29, Tryd.ntmps29
          go_wp2_with fail
          refine (CK.out _).mono ?_
          rintro e w1 ⟨rfl, b1⟩
          have B1 := hid (below_on B0.out b1)
          obtain ⟨⟨c0, c1, c2, c3⟩, -⟩ := (S0.out.below b1).cells
          have S1 := hid (S0.out.below b1)
          clear b1 CK S0 B0
          go_wp2_with fail
          refine (H1.out _).mono ?_
          rintro e w2 ⟨rfl, b2⟩
          have B2 := hid (below_on B1.out b2)
          obtain ⟨⟨d0, d1, d2, d3⟩, -⟩ := (S1.out.below b2).cells
          have S2 := hid (S1.out.below b2)
          clear b2 c0 c1 c2 c3 B1 S1
          rw [hb1]
          go_wp2_with fail
          refine (H2.out _).mono ?_
          rintro e w3 ⟨rfl, b3⟩
          have B3 := hid (below_on B2.out b3)
          obtain ⟨⟨c0, c1, c2, c3⟩, -⟩ := (S2.out.below b3).cells
          clear b3 d0 d1 d2 d3 B2 S2
          rw [hb2]
          go_wp2_with fail
          have GG := GR.out _ B3.out
          rw [gm] at GG
          with_reducible refine GG.mono ?_
          rintro e wa ⟨rfl, q⟩
          have Qa := hid q
          clear q GG GR
          go_wp2_with fail
          generalize w3.heap.size = bb at *
          with_reducible refine (R1.out _).mono ?_
          rintro e wr ⟨rfl, br⟩
          have Qr := hid (Qa.out.on br)
          clear br
          go_wp2_with fail
          with_reducible refine (WT.out _ _ _ (Wh.rep 32 (M : Int)) Qr.out y1.out.1 (by have := N2.out; have := N3.out; have := y1.out.2; have := y2.out.2; simp only [List.length_nil]; omega)).mono ?_
          rintro e Qbw ⟨rfl, q⟩
          have Qb := hid q
          clear q Qr wr
          go_wp2_with fail
          with_reducible refine (WT.out _ _ _ h Qb.out YH.out (by have := N2.out; have := N3.out; have := y1.out.2; have := y2.out.2; simp only [List.length_append, List.length_nil]; omega)).mono ?_
          rintro e Qcw ⟨rfl, q⟩
          have Qc := hid q
          clear q
          go_wp2_with fail
          with_reducible refine (Q0.out _).mono ?_
          rintro e wr ⟨rfl, br⟩
          have Qr := hid (Qc.out.on br)
          clear br
          go_wp2_with fail
          with_reducible refine (WT.out _ _ _ [] Qr.out Wh.By.nil (by have := N2.out; have := N3.out; have := y1.out.2; have := y2.out.2; simp only [List.length_append, List.length_nil]; omega)).mono ?_
          rintro e Qdw ⟨rfl, q⟩
          have Qd := hid q
          clear q Qr wr
          go_wp2_with fail
          with_reducible refine (WT.out _ _ _ b Qd.out YB.out (by have := N2.out; have := N3.out; have := y1.out.2; have := y2.out.2; simp only [List.length_append, List.length_nil]; omega)).mono ?_
          rintro e Qew ⟨rfl, q⟩
          have Qe := hid q
          clear q
          go_wp2_with fail
          with_reducible refine (R0.out _).mono ?_
          rintro e wr ⟨rfl, br⟩
          have Qr := hid (Qe.out.on br)
          clear br
          go_wp2_with fail
          with_reducible refine (WT.out _ _ _ [] Qr.out Wh.By.nil (by have := N2.out; have := N3.out; have := y1.out.2; have := y2.out.2; simp only [List.length_append, List.length_nil]; omega)).mono ?_
          rintro e Qfw ⟨rfl, q⟩
          have Qf := hid q
          clear q Qr wr
          go_wp2_with fail
          have QF : Hid (PS w bb (Wh.padT F W z h b) Qfw) := by
            have q := Qf.out
            simp only [List.nil_append, List.append_nil] at q
            rw [EQ.out]; exact q
          with_reducible refine (WS.out _ _ _ QF.out BY.out).mono ?_
          rintro e wz ⟨rfl, bz⟩
          have BZ := hid (G.out _ bz)
          clear bz QF Qf
          go_wp2_with fail
          go_ret2
          exact BZ.out
  · have hE : Wh.padE F W P h b = Wh.chk F W P := by rw [Wh.padE, if_neg hc]
    have G : Hid (∀ w', Below w.heap.size w w' → PadTold F W P z h b w (.returned (.tuple #[.string ⟨#[]⟩, .int .i64 (Wh.chk F W P)])) w') := fun w' k => ⟨by rw [Wh.pad, hE, if_neg hc]; rfl, k⟩
    have hne : (Wh.chk F W P == 0) = false := by simpa using hc
    clear hh hb lh lb hc hE
    generalize Wh.chk F W P = E at *
    go_enter Tryd.func29, Tryd.ntmps29
    go_wp2_with fail
    refine (CK.out _).mono ?_
    rintro e w1 ⟨rfl, b1⟩
    have B1 := hid (below_on B0.out b1)
    clear b1 CK
    go_wp2_with fail
    go_ret2
    exact G.out _ B1.out
end Go.Proofs.YtbldddagddmbgaaDoor
