/-
  Texts put together: S4B, JSpec, JMem, FRep, FKept, FApi, FTop, FNearN, FCl2, FHeadsN, FRdN, FCutsN, NGood, SOne2, JNum.
-/
import Derived.Test.YtaoaniigbooihaaGreatDoorV0
import Derived.Test.YtaoaniigbooihaaGreatDoorRC
import Derived.Deep.LoopGhost
import Derived.Deep.RegionHeld3
import Derived.Deep.CutBlock
import Derived.OwnWalk
import Derived.Deep.CutRange
import Derived.Laws.Concat
import Derived.BigQuiet
import Derived.Test.YtaoaniigbooihaaGreatDoorRB
import Derived.Test.YtaoaniigbooihaaGreatDoorNDigit
import Derived.Test.YtaoaniigbooihaaGreatDoorNDv
namespace Go.Proofs.YtaoaniigbooihaaGreatDoor
open Go Go.RowKit Go.Deep

/-- Four cells that may be written. -/
def S4 (w : World) (b : Nat) (v0 v1 v2 v3 : Value) : Prop := w.heap[b]? = some (.cells #[v0, v1, v2, v3] 25 (0, 0))
theorem S4.new (w : World) (v0 v1 v2 v3 : Value) : S4 (w.alloc (.cells #[v0, v1, v2, v3] 25)) w.heap.size v0 v1 v2 v3 := heap_alloc_new w _
theorem S4.lt {w : World} {b : Nat} {v0 v1 v2 v3 : Value} (h : S4 w b v0 v1 v2 v3) : b < w.heap.size := by
  rcases Nat.lt_or_ge b w.heap.size with hl | hl
  · exact hl
  · simp [S4, Array.getElem?_eq_none hl] at h
theorem S4.below {w w' : World} {b : Nat} {v0 v1 v2 v3 : Value} (h : S4 w b v0 v1 v2 v3) (hB : Below w.heap.size w w') : S4 w' b v0 v1 v2 v3 := by
  rw [S4, hB.block b h.lt]; exact h
theorem S4.cells {w : World} {b : Nat} {v0 v1 v2 v3 : Value} (h : S4 w b v0 v1 v2 v3) :
    (w.cell? ⟨b, 0, none⟩ = some v0 ∧ w.cell? ⟨b, 1, none⟩ = some v1 ∧ w.cell? ⟨b, 2, none⟩ = some v2 ∧ w.cell? ⟨b, 3, none⟩ = some v3) ∧
    (w.frozen? ⟨b, 0, none⟩ = false ∧ w.frozen? ⟨b, 1, none⟩ = false ∧ w.frozen? ⟨b, 2, none⟩ = false ∧ w.frozen? ⟨b, 3, none⟩ = false) := by
  simp only [S4] at h
  refine ⟨⟨?_, ?_, ?_, ?_⟩, ⟨?_, ?_, ?_, ?_⟩⟩ <;> simp [World.cell?, World.frozen?, h]

/-- A Spec's box among what stays. -/
structure SB (w0 : World) (bx : Nat) (V F W P : Int) (wk : World) : Prop where
  bel : Below w0.heap.size w0 wk
  box : S4 wk bx (.int .u8 V) (.int .i64 F) (.int .i64 W) (.int .i64 P)
theorem SB.new (w : World) (V F W P : Int) : SB w w.heap.size V F W P (w.alloc (.cells #[.int .u8 V, .int .i64 F, .int .i64 W, .int .i64 P] 25)) := ⟨alloc_b w _, S4.new w _ _ _ _⟩
theorem SB.on {w0 wk w' : World} {bx : Nat} {V F W P : Int} (h : SB w0 bx V F W P wk) (k : Below wk.heap.size wk w') : SB w0 bx V F W P w' := ⟨below_on h.bel k, h.box.below k⟩
theorem SB.drew {w0 wk : World} {bx : Nat} {V F W P : Int} (h : SB w0 bx V F W P wk) : SB w0 bx V F W P wk.drew := ⟨h.bel.drew, h.box⟩
theorem SB.flat {w0 wk : World} {bx : Nat} {V F W P : Int} (h : SB w0 bx V F W P wk) : wk.cell? ⟨bx, 0, none⟩ = some (.int .u8 V) ∧ wk.cell? ⟨bx, 1, none⟩ = some (.int .i64 F) ∧ wk.cell? ⟨bx, 2, none⟩ = some (.int .i64 W) ∧ wk.cell? ⟨bx, 3, none⟩ = some (.int .i64 P) := h.box.cells.1
end Go.Proofs.YtaoaniigbooihaaGreatDoor

namespace Go.Proofs.YtaoaniigbooihaaGreatDoor
open Go Go.RowKit Go.Deep Go.Shelf

/-- A text as the walk tells it. -/
theorem str_is {s : ByteArray} {xs : List Int} (h : Str s xs) : s = strOfNums xs := h.inj (Str.of_nums (fun _ hx => h.mem hx))

theorem bit_and (F k : Int) (h0 : 0 ≤ F) (h1 : F ≤ 31) (hk : k = 1 ∨ k = 2 ∨ k = 4 ∨ k = 8 ∨ k = 16) : (bits .and .i64 F k = 0 ∧ Wh.bit F k = false) ∨ (bits .and .i64 F k ≠ 0 ∧ Wh.bit F k = true) := by
  have key : ∀ t : Fin 32, ∀ j ∈ [(1 : Int), 2, 4, 8, 16], (bits .and .i64 (t.val : Int) j = 0 ∧ Wh.bit (t.val : Int) j = false) ∨ (bits .and .i64 (t.val : Int) j ≠ 0 ∧ Wh.bit (t.val : Int) j = true) := by decide
  have := key ⟨F.toNat, by omega⟩ k (by simp; omega)
  simp only at this
  rw [show ((F.toNat : Nat) : Int) = F by omega] at this
  exact this

set_option maxRecDepth 100000 in
theorem has_any (V F W P k : Int) (w : World) (h0 : 0 ≤ F) (h1 : F ≤ 31) (hk : k = 1 ∨ k = 2 ∨ k = 4 ∨ k = 8 ∨ k = 16) :
    Calls Tryz.prog 54 #[.agg #[.int .u8 V, .int .i64 F, .int .i64 W, .int .i64 P], .int .i64 k] w fun e w' => e = .returned (.bool (Wh.bit F k)) ∧ Below w.heap.size w w' := by
  have B := hid (alloc_b w (.cells #[.int .u8 V, .int .i64 F, .int .i64 W, .int .i64 P] 25))
  rcases bit_and F k h0 h1 hk with ⟨e, q⟩ | ⟨e, q⟩
  · rw [q]
    clear h0 h1 hk q
    go_enter Tryz.func54, Tryz.ntmps54
    go_wp2_with fail
    go_ret
    exact ⟨rfl, B.out⟩
  · rw [q]
    have e2 : (bits .and .i64 F k != 0) = true := by simpa using e
    clear h0 h1 hk q e
    go_enter Tryz.func54, Tryz.ntmps54
    go_wp2_with fail
    go_ret
    exact ⟨rfl, B.out⟩

set_option maxRecDepth 100000 in
theorem check_any (V F W P : Int) (w : World) :
    Calls Tryz.prog 53 #[.agg #[.int .u8 V, .int .i64 F, .int .i64 W, .int .i64 P]] w fun e w' => e = .returned (.int .i64 (Wh.chk F W P)) ∧ Below w.heap.size w w' := by
  have B := hid (alloc_b w (.cells #[.int .u8 V, .int .i64 F, .int .i64 W, .int .i64 P] 25))
  by_cases h : F < 0 ∨ 31 < F ∨ W < 0 ∨ P < -1
  · rw [show Wh.chk F W P = 1 from if_pos h]
    by_cases h1 : F < 0
    · clear h
      go_enter Tryz.func53, Tryz.ntmps53
      go_wp2_with fail
      go_ret
      exact ⟨rfl, B.out⟩
    · by_cases h2 : 31 < F
      · clear h
        go_enter Tryz.func53, Tryz.ntmps53
        go_wp2_with fail
        go_ret
        exact ⟨rfl, B.out⟩
      · by_cases h3 : W < 0
        · clear h
          go_enter Tryz.func53, Tryz.ntmps53
          go_wp2_with fail
          go_ret
          exact ⟨rfl, B.out⟩
        · have h4 : P < -1 := by omega
          clear h
          go_enter Tryz.func53, Tryz.ntmps53
          go_wp2_with fail
          go_ret
          exact ⟨rfl, B.out⟩
  · have h1 : ¬ F < 0 := by omega
    have h2 : ¬ 31 < F := by omega
    have h3 : ¬ W < 0 := by omega
    have h4 : ¬ P < -1 := by omega
    by_cases k : 4096 < W ∨ 4096 < P
    · rw [show Wh.chk F W P = 6 by rw [Wh.chk, if_neg h, if_pos k]]
      by_cases k1 : 4096 < W
      · clear h k
        go_enter Tryz.func53, Tryz.ntmps53
        go_wp2_with fail
        go_ret
        exact ⟨rfl, B.out⟩
      · have k2 : 4096 < P := by omega
        clear h k
        go_enter Tryz.func53, Tryz.ntmps53
        go_wp2_with fail
        go_ret
        exact ⟨rfl, B.out⟩
    · rw [show Wh.chk F W P = 0 by rw [Wh.chk, if_neg h, if_neg k]]
      have k1 : ¬ 4096 < W := by omega
      have k2 : ¬ 4096 < P := by omega
      clear h k
      go_enter Tryz.func53, Tryz.ntmps53
      go_wp2_with fail
      go_ret
      exact ⟨rfl, B.out⟩

set_option maxRecDepth 100000 in
theorem checkVerb_any (V F W P : Int) (s : ByteArray) (ok : Bool) (w : World) (hv : (Lib.indexByte s.data.toList V.toNat.toUInt8 < 0 ∧ ok = false) ∨ (0 ≤ Lib.indexByte s.data.toList V.toNat.toUInt8 ∧ ok = true)) :
    Calls Tryz.prog 150 #[.agg #[.int .u8 V, .int .i64 F, .int .i64 W, .int .i64 P], .string s] w fun e w' => e = .returned (.int .i64 (if ok = true then Wh.chk F W P else 140)) ∧ Below w.heap.size w w' := by
  have B := hid (alloc_b w (.cells #[.int .u8 V, .int .i64 F, .int .i64 W, .int .i64 P] 25))
  have IX := hid (fun w => Any.strings_IndexByte idxLays s V w)
  generalize Lib.indexByte s.data.toList V.toNat.toUInt8 = x at *
  rcases hv with ⟨h, rfl⟩ | ⟨h, rfl⟩
  · rw [if_neg Bool.false_ne_true]
    go_enter Tryz.func150, Tryz.ntmps150
    go_wp2_with (go_at_call 30; refine (IX.out _).mono ?_; rintro e w2 ⟨rfl, rfl⟩)
    go_ret
    exact ⟨rfl, B.out⟩
  · rw [if_pos rfl]
    have h' : ¬ x < 0 := by omega
    have CK := hid (fun w => check_any V F W P w)
    generalize Wh.chk F W P = E at *
    go_enter Tryz.func150, Tryz.ntmps150
    go_wp2_with (go_at_call 30; refine (IX.out _).mono ?_; rintro e w2 ⟨rfl, rfl⟩)
    refine (CK.out _).mono ?_
    rintro e w1 ⟨rfl, b1⟩
    have B1 := hid (below_on B.out b1)
    clear b1
    go_wp2_with fail
    go_ret
    exact ⟨rfl, B1.out⟩

set_option maxRecDepth 100000 in
/-- The verbs, by their texts. -/
theorem vb_c (V : Int) (h0 : 0 ≤ V) (h1 : V < 256) : (Lib.indexByte (⟨#[99]⟩ : ByteArray).data.toList V.toNat.toUInt8 < 0 ∧ decide (V = 99) = false) ∨ (0 ≤ Lib.indexByte (⟨#[99]⟩ : ByteArray).data.toList V.toNat.toUInt8 ∧ decide (V = 99) = true) := by
  have key : ∀ t : Fin 256, (Lib.indexByte [99] (t.val : Int).toNat.toUInt8 < 0 ∧ decide ((t.val : Int) = 99) = false) ∨ (0 ≤ Lib.indexByte [99] (t.val : Int).toNat.toUInt8 ∧ decide ((t.val : Int) = 99) = true) := by decide
  have := key ⟨V.toNat, by omega⟩
  simp only at this
  rw [show ((V.toNat : Nat) : Int) = V by omega] at this
  exact this
set_option maxRecDepth 100000 in
theorem vb_s (V : Int) (h0 : 0 ≤ V) (h1 : V < 256) : (Lib.indexByte (⟨#[115]⟩ : ByteArray).data.toList V.toNat.toUInt8 < 0 ∧ decide (V = 115) = false) ∨ (0 ≤ Lib.indexByte (⟨#[115]⟩ : ByteArray).data.toList V.toNat.toUInt8 ∧ decide (V = 115) = true) := by
  have key : ∀ t : Fin 256, (Lib.indexByte [115] (t.val : Int).toNat.toUInt8 < 0 ∧ decide ((t.val : Int) = 115) = false) ∨ (0 ≤ Lib.indexByte [115] (t.val : Int).toNat.toUInt8 ∧ decide ((t.val : Int) = 115) = true) := by decide
  have := key ⟨V.toNat, by omega⟩
  simp only at this
  rw [show ((V.toNat : Nat) : Int) = V by omega] at this
  exact this
set_option maxRecDepth 100000 in
theorem vb_di (V : Int) (h0 : 0 ≤ V) (h1 : V < 256) : (Lib.indexByte (⟨#[100, 105]⟩ : ByteArray).data.toList V.toNat.toUInt8 < 0 ∧ decide (V = 100 ∨ V = 105) = false) ∨ (0 ≤ Lib.indexByte (⟨#[100, 105]⟩ : ByteArray).data.toList V.toNat.toUInt8 ∧ decide (V = 100 ∨ V = 105) = true) := by
  have key : ∀ t : Fin 256, (Lib.indexByte [100, 105] (t.val : Int).toNat.toUInt8 < 0 ∧ decide ((t.val : Int) = 100 ∨ (t.val : Int) = 105) = false) ∨ (0 ≤ Lib.indexByte [100, 105] (t.val : Int).toNat.toUInt8 ∧ decide ((t.val : Int) = 100 ∨ (t.val : Int) = 105) = true) := by decide
  have := key ⟨V.toNat, by omega⟩
  simp only at this
  rw [show ((V.toNat : Nat) : Int) = V by omega] at this
  exact this
set_option maxRecDepth 100000 in
theorem vb_o (V : Int) (h0 : 0 ≤ V) (h1 : V < 256) : (Lib.indexByte (⟨#[111, 117, 120, 88]⟩ : ByteArray).data.toList V.toNat.toUInt8 < 0 ∧ decide (V = 111 ∨ V = 117 ∨ V = 120 ∨ V = 88) = false) ∨ (0 ≤ Lib.indexByte (⟨#[111, 117, 120, 88]⟩ : ByteArray).data.toList V.toNat.toUInt8 ∧ decide (V = 111 ∨ V = 117 ∨ V = 120 ∨ V = 88) = true) := by
  have key : ∀ t : Fin 256, (Lib.indexByte [111, 117, 120, 88] (t.val : Int).toNat.toUInt8 < 0 ∧ decide ((t.val : Int) = 111 ∨ (t.val : Int) = 117 ∨ (t.val : Int) = 120 ∨ (t.val : Int) = 88) = false) ∨ (0 ≤ Lib.indexByte [111, 117, 120, 88] (t.val : Int).toNat.toUInt8 ∧ decide ((t.val : Int) = 111 ∨ (t.val : Int) = 117 ∨ (t.val : Int) = 120 ∨ (t.val : Int) = 88) = true) := by decide
  have := key ⟨V.toNat, by omega⟩
  simp only at this
  rw [show ((V.toNat : Nat) : Int) = V by omega] at this
  exact this
end Go.Proofs.YtaoaniigbooihaaGreatDoor

namespace Go.Proofs.YtaoaniigbooihaaGreatDoor
open Go Go.RowKit Go.Deep Go.Shelf

theorem ret_str {a b : ByteArray} (h : a = b) : Ending.returned (.string a) = .returned (.string b) := by rw [h]
theorem str_cells {s : ByteArray} {xs : List Int} (h : Str s xs) : Lib.strCells s = xs.map (Value.int .u8) := by
  rw [← h, List.map_map]; rfl
def IsB (B b : Nat) (zs : List Int) (w : World) : Prop := Lib.IsBuilder 87 5 B b (zs.map (Value.int .u8)) w
theorem IsB.below {B b : Nat} {zs : List Int} {w w' : World} (h : IsB B b zs w) (k : Below w.heap.size w w') : IsB B b zs w' := by
  have key : ∀ p, Lib.BuilderAt 87 5 B b p (zs.map (Value.int .u8)) w → Lib.BuilderAt 87 5 B b p (zs.map (Value.int .u8)) w' := by
    rintro p ⟨h1, v, h2, h3, h4⟩
    have hl : b < w.heap.size := by
      rcases Nat.lt_or_ge b w.heap.size with c | c
      · exact c
      · simp [Array.getElem?_eq_none c] at h2
    exact ⟨h1, v, by rw [k.block b hl]; exact h2, World.ownsRow.kept (row := none) h3 ⟨k.os, k.tape, k.output, k.size, fun j hj _ => k.block j hj⟩ (by cases h : Value.ownBlock v <;> simp), h4⟩
  rcases h with h | h
  · exact .inl (key _ h)
  · exact .inr (key _ h)
theorem bwrite_any (B b : Nat) (zs xs : List Int) (s : ByteArray) (w : World) (h : IsB B b zs w) (hs : Str s xs) (hl : zs.length + xs.length ≤ 140737488355328) (hB : B ≤ w.heap.size) : Calls Tryz.prog 56 #[.pointer (some ⟨b, 0, none⟩), .string s] w fun e w' => e = .returned (.tuple #[.int .i64 s.size, .nilIface]) ∧ IsB B b (zs ++ xs) w' ∧ Below B w w' := by
  have q := Any.Builder_WriteString jwsLays jExtra B b (zs.map (Value.int .u8)) s w h (by have := hs.size; rw [List.length_map]; omega) hB
  rw [str_cells hs, ← List.map_append] at q
  refine q.mono ?_
  rintro e w' ⟨rfl, h1, h2⟩
  exact ⟨rfl, .inr h1, h2⟩
theorem bstr_any (B b : Nat) (zs : List Int) (w : World) (h : IsB B b zs w) (hz : ∀ x ∈ zs, 0 ≤ x ∧ x < 256) (hB : B ≤ w.heap.size) : Calls Tryz.prog 57 #[.pointer (some ⟨b, 0, none⟩)] w fun e w' => e = .returned (.string (strOfNums zs)) ∧ Below B w w' := by
  have S := Str.of_nums hz
  have e1 : zs.map (Value.int .u8) = Lib.byteCells (strOfNums zs).data.toList := by rw [← str_cells S]; rfl
  have h' : Lib.IsBuilder 87 5 B b (Lib.byteCells (strOfNums zs).data.toList) w := by rw [← e1]; exact h
  have q := Any.Builder_String_any { repLays with } jExtra B b (strOfNums zs).data.toList w h' hB
  have e2 : (⟨(strOfNums zs).data.toList.toArray⟩ : ByteArray) = strOfNums zs := by simp
  rw [e2] at q
  exact q
theorem bgrow_any (B b n : Nat) (w : World) (hB : B ≤ b) (hbk : w.heap[b]? = some (.cells #[.pointer none, .slice none 0 0] 87 (0, 0))) (hBw : B ≤ w.heap.size) (hn : n ≤ 281474976710656) : Calls Tryz.prog 55 #[.pointer (some ⟨b, 0, none⟩), .int .i64 n] w fun e w' => e = .returned (.tuple #[]) ∧ IsB B b [] w' ∧ Below B w w' := by
  refine (Any.Builder_Grow_fresh { repLays with } jExtra B b n w hB hbk hBw hn).mono ?_
  rintro e w' ⟨rfl, h1, h2⟩
  exact ⟨rfl, .inr h1, h2⟩

theorem rep_str (c : UInt8) (k : Nat) : Str ⟨(Lib.repeatL (#[c] : Array UInt8).toList k).toArray⟩ (List.replicate k (c.toNat : Int)) := by
  unfold Str
  simp only
  induction k with
  | zero => rfl
  | succ k ih =>
    rw [Lib.repeatL, List.replicate_succ]
    simpa using ih
theorem jrep (c : UInt8) (n : Nat) (w : World) (hn : n ≤ 100000) : Calls Tryz.prog 45 #[.string ⟨#[c]⟩, .int .i64 (n : Int)] w fun e w' => e = .returned (.string (strOfNums (Wh.rep (c.toNat : Int) (n : Int)))) ∧ Below w.heap.size w w' := by
  refine (Any.strings_Repeat repLays jExtra ⟨#[c]⟩ n w (by omega) (by have : (⟨#[c]⟩ : ByteArray).size = 1 := rfl; rw [this]; omega)).mono ?_
  rintro e w' ⟨rfl, hB⟩
  refine ⟨?_, hB⟩
  rw [Wh.rep, Int.toNat_natCast, ← str_is (rep_str c n)]
theorem jrep32 (n : Nat) (w : World) (hn : n ≤ 100000) : Calls Tryz.prog 45 #[.string ⟨#[32]⟩, .int .i64 (n : Int)] w fun e w' => e = .returned (.string (strOfNums (Wh.rep 32 (n : Int)))) ∧ Below w.heap.size w w' := jrep 32 n w hn
theorem jrep48 (n : Nat) (w : World) (hn : n ≤ 100000) : Calls Tryz.prog 45 #[.string ⟨#[48]⟩, .int .i64 (n : Int)] w fun e w' => e = .returned (.string (strOfNums (Wh.rep 48 (n : Int)))) ∧ Below w.heap.size w w' := jrep 48 n w hn

/-- A Builder of our own among what is new. -/
structure PS (w0 : World) (bb : Nat) (zs : List Int) (wk : World) : Prop where
  bel : Below w0.heap.size w0 wk
  isb : IsB bb bb zs wk
  sz : bb ≤ wk.heap.size
  lo : w0.heap.size ≤ bb
theorem PS.on {w0 wk w' : World} {bb : Nat} {zs : List Int} (h : PS w0 bb zs wk) (k : Below wk.heap.size wk w') : PS w0 bb zs w' :=
  ⟨below_on h.bel k, h.isb.below k, Nat.le_trans h.sz k.size, h.lo⟩
theorem PS.write {w0 wk : World} {bb : Nat} {zs : List Int} (h : PS w0 bb zs wk) (xs : List Int) (hx : Wh.By xs) (hl : zs.length + xs.length ≤ 140737488355328) :
    Calls Tryz.prog 56 #[.pointer (some ⟨bb, 0, none⟩), .string (strOfNums xs)] wk fun e w' => e = .returned (.tuple #[.int .i64 (strOfNums xs).size, .nilIface]) ∧ PS w0 bb (zs ++ xs) w' := by
  refine (bwrite_any bb bb zs xs _ wk h.isb (Str.of_nums hx) hl h.sz).mono ?_
  rintro e w' ⟨rfl, i, b⟩
  exact ⟨rfl, h.bel.trans (b.mono h.lo), i, Nat.le_trans h.sz b.size, h.lo⟩
theorem PS.str {w0 wk : World} {bb : Nat} {zs : List Int} (h : PS w0 bb zs wk) (hz : Wh.By zs) :
    Calls Tryz.prog 57 #[.pointer (some ⟨bb, 0, none⟩)] wk fun e w' => e = .returned (.string (strOfNums zs)) ∧ Below w0.heap.size w0 w' := by
  refine (bstr_any bb bb zs wk h.isb hz h.sz).mono ?_
  rintro e w' ⟨rfl, b⟩
  exact ⟨rfl, h.bel.trans (b.mono h.lo)⟩
theorem PS.grow {w0 w1 : World} (n : Nat) (h : Below w0.heap.size w0 w1) (hn : n ≤ 281474976710656) :
    Calls Tryz.prog 55 #[.pointer (some ⟨w1.heap.size, 0, none⟩), .int .i64 (n : Int)] (w1.alloc (.cells #[.pointer none, .slice none 0 0] 87)) fun e w' => e = .returned (.tuple #[]) ∧ PS w0 w1.heap.size [] w' := by
  have A := alloc_b w1 (.cells #[.pointer none, .slice none 0 0] 87)
  refine (bgrow_any w1.heap.size w1.heap.size n _ (Nat.le_refl _) (heap_alloc_new w1 _) A.size hn).mono ?_
  rintro e w' ⟨rfl, i, b⟩
  exact ⟨rfl, below_on h A |>.trans (b.mono h.size), i, Nat.le_trans A.size b.size, h.size⟩
end Go.Proofs.YtaoaniigbooihaaGreatDoor

namespace Go.Proofs.YtaoaniigbooihaaGreatDoor
open Go.RowKit Go.Deep Go.Shelf
theorem frepeat_any (c : Nat) (w : World) (hc : c ≤ 100000) :
    Calls Tryz.prog 45 #[.string ⟨#[48]⟩, .int .i64 (c : Int)] w fun e w' => ∃ s, e = .returned (.string s) ∧ Str s (List.replicate c 48) ∧ Below w.heap.size w w' := by
  refine (jrep48 c w hc).mono ?_
  rintro e w' ⟨rfl, hB⟩
  exact ⟨_, rfl, by have q := Str.of_nums (Wh.By.rep (c := 48) (n := (c : Int)) (by omega)); rw [Wh.rep, Int.toNat_natCast] at q ⊢; exact q, hB⟩
end Go.Proofs.YtaoaniigbooihaaGreatDoor

namespace Go.Proofs.YtaoaniigbooihaaGreatDoor
open Go Go.RowKit Go.Deep

theorem Str.app {a b : ByteArray} {xs ys : List Int} (h : Str a xs) (k : Str b ys) : Str (a ++ b) (xs ++ ys) := by
  unfold Str at *
  rw [← h, ← k, ← List.map_append]
  simp

theorem str_one : Str ⟨#[49]⟩ [49] := rfl

set_option maxRecDepth 100000 in
set_option maxHeartbeats 2000000 in
theorem kept_any (s : ByteArray) (xs : List Int) (c : Int) (w : World) (hs : Str s xs) (hd : Digs xs) (h0 : xs ≠ []) (hl : xs.length ≤ 3000) (hc : c ≤ 10000) :
    Calls Tryz.prog 44 #[.string s, .int .i64 c] w fun e w' => ∃ s', e = .returned (.string s') ∧ Str s' (Fx.kp xs c) ∧ Below w.heap.size w w' := by
  by_cases hn : c < 0
  · have F : Hid (Str ⟨#[]⟩ (Fx.kp xs c)) := by rw [Fx.kp_neg hn]; rfl
    clear hs hd h0 hl
    go_enter Tryz.func44, Tryz.ntmps44
    go_wp2_with fail
    go_ret
    exact ⟨_, rfl, F.out, Below.refl _ _⟩
  · obtain ⟨k, rfl⟩ := Int.eq_ofNat_of_zero_le (show 0 ≤ c by omega)
    have R := hid (round_any s xs k false w hs h0 hd (by omega) (by omega) (by omega))
    by_cases hg : xs.length ≤ k
    · obtain ⟨z, hz⟩ : ∃ z : Nat, (k : Int) - (s.size : Int) = (z : Int) := ⟨k - s.size, by rw [hs.size]; omega⟩
      have RE := hid (fun wx : World => frepeat_any z wx (by omega))
      have szb : (s.size : Int) ≤ 3000 := by rw [hs.size]; omega
      have kb : (k : Int) ≤ 10000 := hc
      have F : Hid (∀ b : ByteArray, Str b (List.replicate z 48) → Str (s ++ b) (Fx.kp xs k)) := by
        intro b hb
        rw [Fx.kp_full hg, show k - xs.length = z by have := hs.size; omega]
        exact hs.app hb
      have RT : Hid (∀ e, RoundTold s xs k false e → e = .returned (.tuple #[.string s, .bool false, .int .i64 0])) := fun e h => h.1 (by omega)
      clear hs hd h0 hl hg hn hc
      go_enter Tryz.func44, Tryz.ntmps44
      go_wp2_with fail
      refine R.out.mono ?_
      rintro e w1 ⟨h, B1⟩
      obtain rfl := RT.out e h
      have HB := hid B1
      clear h B1 RT R
      go_wp2_with fail
      refine (RE.out _).mono ?_
      rintro e w2 ⟨b, rfl, hb, B2⟩
      have K := hid (And.intro (F.out b hb) (HB.out.trans (B2.mono HB.out.size)))
      have szc : (b.size : Int) ≤ 10000 := by rw [hb.size, List.length_replicate]; omega
      clear hb B2 RE F HB
      go_wp2_with fail
      go_ret
      exact ⟨_, rfl, K.out.1, K.out.2⟩
    · have hk : k < xs.length := by omega
      have RE := hid (fun wx : World => frepeat_any 0 wx (by omega))
      have kb : (k : Int) ≤ 10000 := hc
      have RT : Hid (∀ e, RoundTold s xs k false e → ∃ s' c, e = .returned (.tuple #[.string s', .bool c, .int .i64 0]) ∧ s'.size = k ∧ Hid (∀ b, Str b [] → if c = true then Str (⟨#[49]⟩ ++ (s' ++ b)) (Fx.kp xs k) else Str (s' ++ b) (Fx.kp xs k))) := by
        intro e h
        obtain ⟨s', ds, c, rfl, h1, h2⟩ := h.2 (by omega)
        rw [Int.toNat_natCast] at h2
        refine ⟨s', c, rfl, by rw [h1.size, h2.2.1], fun b hb => ?_⟩
        have q := Fx.rd_round hd (by omega) h2
        rw [Fx.kp_cut hk, ← q]
        have a := h1.app hb
        rw [List.append_nil] at a
        cases c
        · exact a
        · exact str_one.app a
      clear hs hd h0 hl hg hn hc hk
      go_enter Tryz.func44, Tryz.ntmps44
      go_wp2_with fail
      refine R.out.mono ?_
      rintro e w1 ⟨h, B1⟩
      obtain ⟨s', c, rfl, hz, F⟩ := RT.out e h
      have HB := hid B1
      clear h B1 RT R
      go_wp2_with fail
      refine (RE.out _).mono ?_
      rintro e w2 ⟨b, rfl, hb, B2⟩
      have K := hid (F.out b hb)
      have HB2 := hid (HB.out.trans (B2.mono HB.out.size))
      have szc : b.size = 0 := by rw [hb.size]; rfl
      clear hb B2 RE F HB
      cases c
      · go_wp2_with fail
        go_ret
        exact ⟨_, rfl, K.out, HB2.out⟩
      · go_wp2_with fail
        go_ret
        exact ⟨_, rfl, K.out, HB2.out⟩
end Go.Proofs.YtaoaniigbooihaaGreatDoor

namespace Go.Proofs.YtaoaniigbooihaaGreatDoor
open Go Go.RowKit Go.Deep

namespace Fx
/-- The error. -/
def rf (d n l : Int) : Int := if Ie.fnt d = true then (if n < l ∨ 4200 < n then 1 else 0) else 5
theorem rf_zero {d n l : Int} : rf d n l = 0 ↔ Ie.fnt d = true ∧ l ≤ n ∧ n ≤ 4200 := by
  unfold rf
  by_cases h : Ie.fnt d = true
  · rw [if_pos h]
    by_cases g : n < l ∨ 4200 < n
    · rw [if_pos g]; omega
    · rw [if_neg g]; simp [h]; omega
  · rw [if_neg h]; simp [h]
/-- The whole number of Places, written. -/
noncomputable def W (d : Int) (n : Nat) : List Int := List.replicate (n + 1 - (kp (X d) ((X d).length + P d + n)).length) 48 ++ kp (X d) ((X d).length + P d + n)
noncomputable def pA (d n : Int) : List Int := if rf d n 0 = 0 then (W d n.toNat).take ((W d n.toNat).length - n.toNat) else []
noncomputable def pB (d n : Int) : List Int := if rf d n 0 = 0 then (W d n.toNat).drop ((W d n.toNat).length - n.toNat) else []
/-- What Figures answers. -/
noncomputable def gS (d n : Int) : List Int := if rf d n 1 = 0 then (kp (X d) n).take n.toNat else []
noncomputable def gK (d n : Int) : Int := if rf d n 1 = 0 then (X d).length - 1 + P d + (if n < (kp (X d) n).length then 1 else 0) else 0

theorem W_len (d : Int) (n : Nat) : n + 1 ≤ (W d n).length := by
  unfold W
  rw [List.length_append, List.length_replicate]
  omega
theorem kp_len_le {xs : List Int} {c : Int} {m : Nat} (hc : c ≤ m) (hx : xs.length ≤ m) : (kp xs c).length ≤ m + 1 := by
  unfold kp
  split
  · simp
  · split
    · rw [List.length_append, List.length_replicate]; omega
    · rw [rd_len]; split <;> omega
end Fx

set_option maxRecDepth 100000 in
theorem refused_any (d n l : Int) (w : World) (h0 : 0 ≤ d) (h1 : d < 18446744073709551616) :
    Calls Tryz.prog 43 #[.int .u64 d, .int .i64 n, .int .i64 l] w fun e w' => e = .returned (.int .i64 (Fx.rf d n l)) ∧ w' = w := by
  have FN := hid (fun wx : World => ffinite_any d wx h0 h1)
  have E : Hid (Fx.rf d n l = if Ie.fnt d = true then (if n < l ∨ 4200 < n then 1 else 0) else 5) := rfl
  generalize Ie.fnt d = f at *
  clear h0 h1
  cases f
  · have E2 : Hid (Fx.rf d n l = 5) := E.out
    clear E
    go_enter Tryz.func43, Tryz.ntmps43
    go_wp2_with fail
    refine (FN.out _).mono ?_
    rintro e w' ⟨rfl, rfl⟩
    go_wp2_with fail
    go_ret
    exact ⟨i_retI E2.out.symm, rfl⟩
  · have E2 : Hid (Fx.rf d n l = if n < l ∨ 4200 < n then 1 else 0) := E.out
    clear E
    rcases (show n < l ∨ (l ≤ n ∧ 4200 < n) ∨ (l ≤ n ∧ n ≤ 4200) by omega) with h | ⟨h, h'⟩ | ⟨h, h'⟩
    · have E3 : Hid (Fx.rf d n l = 1) := by rw [Hid, E2.out, if_pos (.inl h)]
      clear E2
      go_enter Tryz.func43, Tryz.ntmps43
      go_wp2_with fail
      refine (FN.out _).mono ?_
      rintro e w' ⟨rfl, rfl⟩
      go_wp2_with fail
      go_ret
      exact ⟨i_retI E3.out.symm, rfl⟩
    · have E3 : Hid (Fx.rf d n l = 1) := by rw [Hid, E2.out, if_pos (.inr h')]
      clear E2
      go_enter Tryz.func43, Tryz.ntmps43
      go_wp2_with fail
      refine (FN.out _).mono ?_
      rintro e w' ⟨rfl, rfl⟩
      go_wp2_with fail
      go_ret
      exact ⟨i_retI E3.out.symm, rfl⟩
    · have E3 : Hid (Fx.rf d n l = 0) := by rw [Hid, E2.out, if_neg (by omega)]
      clear E2
      go_enter Tryz.func43, Tryz.ntmps43
      go_wp2_with fail
      refine (FN.out _).mono ?_
      rintro e w' ⟨rfl, rfl⟩
      go_wp2_with fail
      go_ret
      exact ⟨i_retI E3.out.symm, rfl⟩

def PlacesTold (d n : Int) (w : World) (e : Ending) (w' : World) : Prop :=
  ∃ s t, e = .returned (.tuple #[.string s, .string t, .int .i64 (Fx.rf d n 0)]) ∧ Str s (Fx.pA d n) ∧ Str t (Fx.pB d n) ∧ Below w.heap.size w w'
def FiguresTold (d n : Int) (w : World) (e : Ending) (w' : World) : Prop :=
  ∃ s, e = .returned (.tuple #[.string s, .int .i64 (Fx.gK d n), .int .i64 (Fx.rf d n 1)]) ∧ Str s (Fx.gS d n) ∧ Below w.heap.size w w'

set_option maxRecDepth 100000 in
set_option maxHeartbeats 4000000 in
theorem places_any (d n : Int) (w : World) (hT : Tab w) (h0 : 0 ≤ d) (h1 : d < 18446744073709551616) :
    Calls Tryz.prog 23 #[.int .u64 d, .int .i64 n] w fun e w' => PlacesTold d n w e w' := by
  have RF := hid (refused_any d n 0 w h0 h1)
  by_cases hr : Fx.rf d n 0 = 0
  · obtain ⟨hf, hn0, hn1⟩ := Fx.rf_zero.1 hr
    obtain ⟨k, rfl⟩ := Int.eq_ofNat_of_zero_le hn0
    have EX := exact_any d w hT h0 h1 (of_decide_eq_true hf)
    unfold ExTold at EX
    rw [← Fx.X, ← Fx.P] at EX
    have HE := hid EX
    obtain ⟨r1, r2, r3, r4, r5⟩ := Fx.X_room hf
    have KE : Hid (∀ (wx : World) (s : ByteArray), Str s (Fx.X d) → Calls Tryz.prog 44 #[.string s, .int .i64 ((Fx.X d).length + Fx.P d + k)] wx fun e w' => ∃ s', e = .returned (.string s') ∧ Str s' (Fx.kp (Fx.X d) ((Fx.X d).length + Fx.P d + k)) ∧ Below wx.heap.size wx w') :=
      fun wx s hs => kept_any s _ _ wx hs (Fx.X_digs hf).1 (Fx.X_digs hf).2 (by omega) (by omega)
    have LB : (Fx.kp (Fx.X d) ((Fx.X d).length + Fx.P d + k)).length ≤ 6000 := by
      have := Fx.kp_len_le (xs := Fx.X d) (c := (Fx.X d).length + Fx.P d + k) (m := 5999) (by omega) (by omega)
      omega
    have G : Hid (∀ (w' : World) (a b : ByteArray), Str a (List.replicate (k + 1 - (Fx.kp (Fx.X d) ((Fx.X d).length + Fx.P d + k)).length) 48) → Str b (Fx.kp (Fx.X d) ((Fx.X d).length + Fx.P d + k)) → Below w.heap.size w w' → k ≤ (a ++ b).size ∧ (a ++ b).size ≤ 12000 ∧ PlacesTold d k w (.returned (.tuple #[.string ((a ++ b).extract 0 ((a ++ b).size - k)), .string ((a ++ b).extract ((a ++ b).size - k) (a ++ b).size), .int .i64 0])) w') := by
      intro w' a b ha hb hB
      have hab : Str (a ++ b) (Fx.W d k) := ha.app hb
      have hz := hab.size
      have hwl := Fx.W_len d k
      have e1 := hab.extract 0 ((a ++ b).size - k)
      have e2 := hab.extract ((a ++ b).size - k) (a ++ b).size
      rw [List.drop_zero, Nat.sub_zero] at e1
      rw [List.take_of_length_le (by rw [List.length_drop, hz]; omega)] at e2
      rw [hz] at e1 e2
      refine ⟨by omega, ?_, ⟨_, _, by rw [hr], ?_, ?_, hB⟩⟩
      · rw [hz]
        unfold Fx.W
        rw [List.length_append, List.length_replicate]
        omega
      · rw [Fx.pA, if_pos hr, Int.toNat_natCast, hz]; exact e1
      · rw [Fx.pB, if_pos hr, Int.toNat_natCast, hz]; exact e2
    rw [hr] at RF
    obtain ⟨L, hL⟩ : ∃ L, (Fx.X d).length = L := ⟨_, rfl⟩
    have LS : Hid (∀ s, Str s (Fx.X d) → s.size = L) := fun s hs => by rw [hs.size, hL]
    rw [hL] at KE LB G r1 r2 r4 r5
    generalize Fx.X d = X at *
    generalize Fx.P d = Q at *
    obtain ⟨c, hc⟩ : ∃ c, (L : Int) + Q + k = c := ⟨_, rfl⟩
    rw [hc] at KE LB G
    generalize hkp : Fx.kp X c = V at *
    clear hkp hf hr EX hT h0 h1 hL
    obtain ⟨v, hv⟩ : ∃ v, V.length = v := ⟨_, rfl⟩
    have VS : Hid (∀ s, Str s V → s.size = v) := fun s hs => by rw [hs.size, hv]
    rw [hv] at LB G
    clear hv
    obtain ⟨z, hz⟩ : ∃ z, k + 1 - v = z := ⟨_, rfl⟩
    rw [hz] at G
    have MX : max ((k : Int) + 1 - (v : Int)) 0 = (z : Int) := by omega
    have RE := hid (fun wx : World => frepeat_any z wx (by omega))
    have kb : (k : Int) ≤ 4200 := hn1
    have vb : (v : Int) ≤ 6000 := by omega
    clear hn0 hn1 LB
    go_enter Tryz.func23, Tryz.ntmps23
    go_wp2_with fail
    refine RF.out.mono ?_
    rintro e wz ⟨rfl, hz⟩
    replace hz := hz.symm
    subst hz
    go_wp2_with fail
    refine HE.out.mono ?_
    rintro e w1 ⟨s, rfl, hs, B1⟩
    have hsz := LS.out s hs
    have K1 := hid (KE.out w1 s hs)
    have HB := hid B1
    clear B1 hs KE HE LS RF
    go_wp2_with fail
    refine K1.out.mono ?_
    rintro e w2 ⟨t, rfl, ht, B2⟩
    have htz := VS.out t ht
    have HT2 := hid ht
    have HB2 := hid (HB.out.trans (B2.mono HB.out.size))
    clear B2 ht K1 HB VS
    go_wp2_with fail
    refine (RE.out _).mono ?_
    rintro e w3 ⟨a, rfl, ha, B3⟩
    have haz : a.size = z := by rw [ha.size, List.length_replicate]
    obtain ⟨g1, g2, -⟩ := G.out _ a t ha HT2.out (HB2.out.trans (B3.mono HB2.out.size))
    have HG := hid (fun q : Nat => (G.out _ a t ha HT2.out (below_drewN (HB2.out.trans (B3.mono HB2.out.size)) q)).2.2)
    clear ha B3 G HB2 RE
    go_upto_region 7 with fail
    generalize a ++ t = ab at *
    obtain ⟨N, hN⟩ : ∃ N, ab.size = N := ⟨_, rfl⟩
    rw [hN] at HG g1 g2
    obtain ⟨j, hj⟩ : ∃ j, N - k = j := ⟨_, rfl⟩
    rw [hj] at HG
    have nj : (N : Int) - (k : Int) = (j : Int) := by omega
    have jN : (j : Int) ≤ (N : Int) := by omega
    have nb : (N : Int) ≤ 12000 := by omega
    clear hj hz MX hc
    go_quiet (fail)
    go_wp2_with fail
    go_ret3
    exact HG.out _
  · have F : Hid (PlacesTold d n w (.returned (.tuple #[.string ⟨#[]⟩, .string ⟨#[]⟩, .int .i64 (Fx.rf d n 0)])) w) := ⟨_, _, rfl, by rw [Fx.pA, if_neg hr]; rfl, by rw [Fx.pB, if_neg hr]; rfl, Below.refl _ _⟩
    have hr' : (Fx.rf d n 0 == 0) = false := by rw [beq_eq_false_iff_ne]; exact hr
    have hr2 : (Fx.rf d n 0 != 0) = true := by simp [bne, hr']
    generalize Fx.rf d n 0 = r at *
    clear hr h0 h1 hT
    go_enter Tryz.func23, Tryz.ntmps23
    go_wp2_with fail
    refine RF.out.mono ?_
    rintro e wz ⟨rfl, hz⟩
    replace hz := hz.symm
    subst hz
    go_wp2_with fail
    go_ret3
    exact F.out

set_option maxRecDepth 100000 in
set_option maxHeartbeats 4000000 in
theorem figures_any (d n : Int) (w : World) (hT : Tab w) (h0 : 0 ≤ d) (h1 : d < 18446744073709551616) :
    Calls Tryz.prog 25 #[.int .u64 d, .int .i64 n] w fun e w' => FiguresTold d n w e w' := by
  have RF := hid (refused_any d n 1 w h0 h1)
  by_cases hr : Fx.rf d n 1 = 0
  · obtain ⟨hf, hn0, hn1⟩ := Fx.rf_zero.1 hr
    obtain ⟨k, rfl⟩ := Int.eq_ofNat_of_zero_le (show 0 ≤ n by omega)
    have EX := exact_any d w hT h0 h1 (of_decide_eq_true hf)
    unfold ExTold at EX
    rw [← Fx.X, ← Fx.P] at EX
    have HE := hid EX
    obtain ⟨r1, r2, r3, r4, r5⟩ := Fx.X_room hf
    have KE : Hid (∀ (wx : World) (s : ByteArray), Str s (Fx.X d) → Calls Tryz.prog 44 #[.string s, .int .i64 (k : Int)] wx fun e w' => ∃ s', e = .returned (.string s') ∧ Str s' (Fx.kp (Fx.X d) k) ∧ Below wx.heap.size wx w') :=
      fun wx s hs => kept_any s _ _ wx hs (Fx.X_digs hf).1 (Fx.X_digs hf).2 (by omega) (by omega)
    have LB : (Fx.kp (Fx.X d) k).length ≤ 6000 := by
      have := Fx.kp_len_le (xs := Fx.X d) (c := k) (m := 5999) (by omega) (by omega)
      omega
    have GA : Hid (∀ (w' : World) (b : ByteArray), Str b (Fx.kp (Fx.X d) k) → Below w.heap.size w w' → k < (Fx.kp (Fx.X d) k).length → FiguresTold d k w (.returned (.tuple #[.string (b.extract 0 k), .int .i64 ((Fx.X d).length - 1 + Fx.P d + 1), .int .i64 0])) w') := by
      intro w' b hb hB hl
      have e1 := hb.extract 0 k
      rw [List.drop_zero, Nat.sub_zero] at e1
      refine ⟨_, by rw [Fx.gK, if_pos hr, if_pos (by omega), hr], ?_, hB⟩
      rw [Fx.gS, if_pos hr, Int.toNat_natCast]
      exact e1
    have GB : Hid (∀ (w' : World) (b : ByteArray), Str b (Fx.kp (Fx.X d) k) → Below w.heap.size w w' → ¬ k < (Fx.kp (Fx.X d) k).length → FiguresTold d k w (.returned (.tuple #[.string b, .int .i64 ((Fx.X d).length - 1 + Fx.P d), .int .i64 0])) w') := by
      intro w' b hb hB hl
      refine ⟨_, by rw [Fx.gK, if_pos hr, if_neg (by omega), Int.add_zero, hr], ?_, hB⟩
      rw [Fx.gS, if_pos hr, Int.toNat_natCast, List.take_of_length_le (by omega)]
      exact hb
    rw [hr] at RF
    obtain ⟨L, hL⟩ : ∃ L, (Fx.X d).length = L := ⟨_, rfl⟩
    have LS : Hid (∀ s, Str s (Fx.X d) → s.size = L) := fun s hs => by rw [hs.size, hL]
    rw [hL] at GA GB r1 r2 r4 r5
    generalize Fx.X d = X at *
    generalize Fx.P d = Q at *
    generalize hkp : Fx.kp X k = V at *
    clear hkp hf hr EX hT h0 h1 hL
    obtain ⟨v, hv⟩ : ∃ v, V.length = v := ⟨_, rfl⟩
    have VS : Hid (∀ s, Str s V → s.size = v) := fun s hs => by rw [hs.size, hv]
    rw [hv] at LB GA GB
    clear hv
    have kb : (k : Int) ≤ 4200 := hn1
    have vb : (v : Int) ≤ 6000 := by omega
    have l1 : (1 : Int) ≤ (L : Int) := by omega
    have l2 : (L : Int) ≤ 1383 := by omega
    clear hn0 hn1 LB
    go_enter Tryz.func25, Tryz.ntmps25
    go_wp2_with fail
    refine RF.out.mono ?_
    rintro e wz ⟨rfl, hz⟩
    replace hz := hz.symm
    subst hz
    go_wp2_with fail
    refine HE.out.mono ?_
    rintro e w1 ⟨s, rfl, hs, B1⟩
    have hsz := LS.out s hs
    have K1 := hid (KE.out w1 s hs)
    have HB := hid B1
    clear B1 hs KE HE LS RF
    go_wp2_with fail
    refine K1.out.mono ?_
    rintro e w2 ⟨t, rfl, ht, B2⟩
    have htz := VS.out t ht
    have HB2 := hid (HB.out.trans (B2.mono HB.out.size))
    by_cases hvk : k < v
    · have K := hid (GA.out w2 t ht HB2.out hvk)
      have hvi : (k : Int) < (v : Int) := by omega
      clear B2 ht K1 HB VS GA GB
      go_wp2_with fail
      go_ret3
      exact K.out
    · have K := hid (GB.out w2 t ht HB2.out hvk)
      have hvi : ¬ (k : Int) < (v : Int) := by omega
      clear B2 ht K1 HB VS GA GB
      go_wp2_with fail
      go_ret3
      exact K.out
  · have F : Hid (FiguresTold d n w (.returned (.tuple #[.string ⟨#[]⟩, .int .i64 0, .int .i64 (Fx.rf d n 1)])) w) := ⟨_, by rw [Fx.gK, if_neg hr], by rw [Fx.gS, if_neg hr]; rfl, Below.refl _ _⟩
    have hr' : (Fx.rf d n 1 == 0) = false := by rw [beq_eq_false_iff_ne]; exact hr
    have hr2 : (Fx.rf d n 1 != 0) = true := by simp [bne, hr']
    generalize Fx.rf d n 1 = r at *
    clear hr h0 h1 hT
    go_enter Tryz.func25, Tryz.ntmps25
    go_wp2_with fail
    refine RF.out.mono ?_
    rintro e wz ⟨rfl, hz⟩
    replace hz := hz.symm
    subst hz
    go_wp2_with fail
    go_ret3
    exact F.out
end Go.Proofs.YtaoaniigbooihaaGreatDoor

namespace Go.Proofs.YtaoaniigbooihaaGreatDoor
open Go Go.RowKit Go.Deep

theorem fnt_abs (d : Int) : decide (d % 9223372036854775808 < 9218868437227405312) = Ie.fnt d := by
  unfold Ie.fnt Ie.cls Ie.fld
  by_cases h : d % 9223372036854775808 < 9218868437227405312
  · rw [decide_eq_true h]
    symm
    rw [decide_eq_true_iff]
    split
    · split <;> omega
    · rw [if_neg (by omega)]; omega
  · rw [decide_eq_false h]
    symm
    rw [decide_eq_false_iff_not]
    rw [if_neg (by omega), if_pos (by omega)]
    split <;> omega

namespace Fx
def top (d : Int) (n : Nat) : Int := Ie.dm d * 10 ^ n * 2 ^ (Ie.de d).toNat
def dn (d : Int) : Nat := (-(Ie.de d)).toNat
end Fx
end Go.Proofs.YtaoaniigbooihaaGreatDoor

namespace Go.Proofs.YtaoaniigbooihaaGreatDoor
open Go Go.RowKit Go.Deep
namespace Fx

/-- Twice the way to the number is below the unit, or just it, and the number is even. -/
def Nr (w A D : Int) : Prop := 2 * (w * D - A) ≤ D ∧ 2 * (A - w * D) ≤ D ∧ ((2 * (w * D - A) = D ∨ 2 * (A - w * D) = D) → w % 2 = 0)

theorem nr_exact {w A D : Int} (h : w * D = A) (hD : 0 < D) : Nr w A D := by
  refine ⟨by omega, by omega, ?_⟩
  rintro (c | c) <;> omega

theorem nr_of {w A D N T : Int} (hT : 0 < T) (hD : 0 < D) (h : N * D = A * T) (h1 : 2 * (w * T - N) ≤ T) (h2 : 2 * (N - w * T) ≤ T) (h3 : (2 * (w * T - N) = T ∨ 2 * (N - w * T) = T) → w % 2 = 0) : Nr w A D := by
  have e1 : (2 * (w * D - A)) * T = (2 * (w * T - N)) * D := by
    rw [Int.mul_assoc, Int.mul_assoc, Int.sub_mul, Int.sub_mul, ← h, Int.mul_right_comm]
  have e2 : (2 * (A - w * D)) * T = (2 * (N - w * T)) * D := by
    rw [Int.mul_assoc, Int.mul_assoc, Int.sub_mul, Int.sub_mul, ← h, Int.mul_right_comm w D T]
  refine ⟨?_, ?_, ?_⟩
  · refine Int.le_of_mul_le_mul_right ?_ hT
    rw [e1, Int.mul_comm D T]
    exact Int.mul_le_mul_of_nonneg_right h1 (Int.le_of_lt hD)
  · refine Int.le_of_mul_le_mul_right ?_ hT
    rw [e2, Int.mul_comm D T]
    exact Int.mul_le_mul_of_nonneg_right h2 (Int.le_of_lt hD)
  · intro c
    apply h3
    rcases c with c | c
    · left
      rw [c, Int.mul_comm] at e1
      exact (Int.eq_of_mul_eq_mul_right (by omega) e1).symm
    · right
      rw [c, Int.mul_comm] at e2
      exact (Int.eq_of_mul_eq_mul_right (by omega) e2).symm

/-- The first digits, rounded, as numbers. -/
theorem rn_near {xs : List Int} (hd : Digs xs) (k : Nat) :
    2 * (rn xs k * 10 ^ (xs.length - k) - dv xs) ≤ 10 ^ (xs.length - k) ∧ 2 * (dv xs - rn xs k * 10 ^ (xs.length - k)) ≤ 10 ^ (xs.length - k) ∧
    ((2 * (rn xs k * 10 ^ (xs.length - k) - dv xs) = 10 ^ (xs.length - k) ∨ 2 * (dv xs - rn xs k * 10 ^ (xs.length - k)) = 10 ^ (xs.length - k)) → rn xs k % 2 = 0) := by
  have e : dv xs = dv (xs.take k) * 10 ^ (xs.length - k) + dv (xs.drop k) := by
    conv => lhs; rw [← List.take_append_drop k xs, dv_append, List.length_drop]
  have b := dv_bd (ds := xs.drop k) (fun d h => hd d (List.mem_of_mem_drop h))
  rw [List.length_drop] at b
  unfold rn up
  generalize dv (xs.take k) = K at *
  generalize dv (xs.drop k) = R at *
  generalize (10 : Int) ^ (xs.length - k) = T at *
  by_cases c : T < 2 * R ∨ 2 * R = T ∧ K % 2 = 1
  · rw [decide_eq_true c, if_pos rfl, Int.add_mul, Int.one_mul, e]
    refine ⟨by omega, by omega, ?_⟩
    intro h
    rcases c with c | c <;> omega
  · rw [decide_eq_false c, if_neg Bool.false_ne_true, Int.add_zero, e]
    refine ⟨by omega, by omega, ?_⟩
    intro h
    omega

theorem W_digs {d : Int} (hf : Ie.fnt d = true) (n : Nat) : Digs (W d n) := by
  have hx := (X_digs hf).1
  intro x h
  rcases List.mem_append.1 h with h | h
  · have := List.eq_of_mem_replicate h; omega
  · unfold kp at h
    split at h
    · cases h
    · split at h
      · rcases List.mem_append.1 h with h | h
        · exact hx x h
        · have := List.eq_of_mem_replicate h; omega
      · exact rd_digs _ _ x h
theorem dv_W (d : Int) (n : Nat) : dv (W d n) = dv (kp (X d) ((X d).length + P d + n)) := by
  unfold W
  rw [dv_append, dv_zeros, Int.zero_mul, Int.zero_add]

/-- All powers of the double's value in one row. -/
theorem ex_pow {m e : Int} {xs : List Int} {E : Int} (hm : 0 < m) (he : -1074 ≤ e) (h : Ex m e xs E) : dv xs * 10 ^ (E + 1074).toNat * 2 ^ (-e).toNat = m * 2 ^ e.toNat * 10 ^ 1074 := by
  rw [h.eq hm, F5]
  have e1 : (e + 1074).toNat + (-e).toNat = e.toNat + 1074 := by omega
  have e2 : (2 : Int) ^ (e + 1074).toNat * 2 ^ (-e).toNat = 2 ^ e.toNat * 2 ^ 1074 := by rw [← Int.pow_add, ← Int.pow_add, e1]
  generalize 1074 = z at *
  rw [show (10 : Int) = 2 * 5 from rfl, Int.mul_pow]
  generalize (2 : Int) ^ (e + 1074).toNat = x1 at *
  generalize (2 : Int) ^ (-e).toNat = x2 at *
  generalize (2 : Int) ^ e.toNat = x3 at *
  generalize (2 : Int) ^ z = x4 at *
  generalize (5 : Int) ^ z = x5 at *
  rw [show m * x1 * x5 * x2 = m * (x1 * x2) * x5 by ac_rfl, e2]
  ac_rfl

theorem near_W {d : Int} (hf : Ie.fnt d = true) (n : Nat) : Nr (dv (W d n)) (top d n) (2 ^ dn d) := by
  obtain ⟨m0, m1, e0, e1, _⟩ := Ie.fdec d (of_decide_eq_true hf)
  have hD : (0 : Int) < 2 ^ dn d := Int.pow_pos (by omega)
  obtain ⟨r1, r2, r3, r4, r5⟩ := X_room hf
  rw [dv_W]
  have hx := (X_digs hf).1
  rcases (show Ie.dm d = 0 ∨ 0 < Ie.dm d by omega) with hz | hz
  · obtain ⟨a, b⟩ := X_zero hf hz
    rw [a, b]
    apply nr_exact _ hD
    have e : kp [48] (([48] : List Int).length + 0 + n) = 48 :: List.replicate n 48 := by
      have := kp_full (xs := [48]) (c := n + 1) (by simp)
      rw [show (([48] : List Int).length : Int) + 0 + n = ((n + 1 : Nat) : Int) by simp; omega, this]
      simp
    rw [e, show 48 :: List.replicate n 48 = List.replicate (n + 1) (48 : Int) from rfl, dv_zeros, top, hz]
    simp
  · have q := ex_pow hz e0 (X_ex hf)
    obtain ⟨a, ha⟩ : ∃ a : Nat, (P d + 1074).toNat = a := ⟨_, rfl⟩
    rw [ha] at q
    have q2 : dv (X d) * 10 ^ a * 2 ^ dn d * 10 ^ n = top d n * 10 ^ 1074 := by
      rw [dn, q, top]
      generalize (10 : Int) ^ 1074 = z
      ac_rfl
    rcases (show 0 ≤ P d + n ∨ P d + n < 0 by omega) with c | c
    · obtain ⟨j, hj⟩ : ∃ j : Nat, P d + n = (j : Int) := ⟨(P d + n).toNat, by omega⟩
      have e : (X d).length + P d + n = (((X d).length + j : Nat) : Int) := by omega
      rw [e, kp_full (by omega), Nat.add_sub_cancel_left, dv_append, dv_zeros, List.length_replicate, Int.add_zero]
      apply nr_exact _ hD
      have e2 : a + n = j + 1074 := by omega
      have e3 : (10 : Int) ^ a * 10 ^ n = 10 ^ j * 10 ^ 1074 := by rw [← Int.pow_add, ← Int.pow_add, e2]
      refine Int.eq_of_mul_eq_mul_right (a := 10 ^ 1074) (by have := p_pos 1074; omega) ?_
      rw [← q2]
      generalize (10 : Int) ^ 1074 = z at *
      rw [show dv (X d) * 10 ^ j * 2 ^ dn d * z = dv (X d) * 2 ^ dn d * (10 ^ j * z) by ac_rfl, ← e3]
      ac_rfl
    · obtain ⟨r, hr⟩ : ∃ r : Nat, -(P d + n) = (r : Int) := ⟨(-(P d + n)).toNat, by omega⟩
      have hN : dv (X d) * 2 ^ dn d = top d n * 10 ^ r := by
        have e2 : a + n + r = 1074 := by omega
        have e3 : (10 : Int) ^ (a + n) * 10 ^ r = 10 ^ 1074 := by rw [← Int.pow_add, e2]
        refine Int.eq_of_mul_eq_mul_right (a := 10 ^ (a + n)) (by have := p_pos (a + n); omega) ?_
        rw [Int.mul_assoc (top d n), Int.mul_comm (10 ^ r), e3, ← q2, Int.pow_add]
        ac_rfl
      rcases (show 0 ≤ (X d).length + P d + n ∨ (X d).length + P d + n < 0 by omega) with g | g
      · obtain ⟨k, hk⟩ : ∃ k : Nat, (X d).length + P d + n = (k : Int) := ⟨((X d).length + P d + n).toNat, by omega⟩
        have hkl : k < (X d).length := by omega
        rw [hk, kp_cut hkl, rd_dv hx (by omega)]
        have := rn_near hx k
        rw [show (X d).length - k = r by omega] at this
        exact nr_of (p_pos r) hD hN this.1 this.2.1 this.2.2
      · rw [kp_neg g]
        have b := (dv_bd hx).2
        have b0 := (dv_bd hx).1
        have l : (10 : Int) ^ ((X d).length + 1) ≤ 10 ^ r := p_le (by omega)
        rw [Int.pow_succ] at l
        have pp := p_pos (X d).length
        have z : dv [] = 0 := rfl
        rw [z]
        refine nr_of (N := dv (X d)) (p_pos r) hD hN ?_ ?_ ?_ <;> (generalize (10 : Int) ^ (X d).length = x1 at *; generalize (10 : Int) ^ r = x2 at *; omega)

theorem dv_W_room {d : Int} (hf : Ie.fnt d = true) {n : Nat} (hn : n ≤ 4200) : (W d n).length ≤ 6000 := by
  obtain ⟨r1, r2, r3, r4, r5⟩ := X_room hf
  have := kp_len_le (xs := X d) (c := (X d).length + P d + n) (m := 5000) (by omega) (by omega)
  unfold W
  rw [List.length_append, List.length_replicate]
  omega
end Fx
end Go.Proofs.YtaoaniigbooihaaGreatDoor

namespace Go.Proofs.YtaoaniigbooihaaGreatDoor
open Go Go.RowKit Go.Deep
namespace Fx

theorem fnt125 : Ie.fnt 4593671619917905920 = true := by decide
theorem pl125 : rf 4593671619917905920 2 0 = 0 ∧ pA 4593671619917905920 2 = [48] ∧ pB 4593671619917905920 2 = [49, 50] := by
  have r : rf 4593671619917905920 2 0 = 0 := by decide
  have w : W 4593671619917905920 2 = [48, 49, 50] := by
    unfold W
    rw [c125.1, c125.2]
    decide
  refine ⟨r, ?_, ?_⟩
  · rw [pA, if_pos r, show (2 : Int).toNat = 2 from rfl, w]
    decide
  · rw [pB, if_pos r, show (2 : Int).toNat = 2 from rfl, w]
    decide

theorem head_of_low {ds : List Int} {n : Nat} (h : Digs ds) (hn : ds.length = n + 1) (hl : 10 ^ n ≤ dv ds) : ds.getD 0 0 ≠ 48 := by
  match ds, hn with
  | x :: ys, hn =>
    intro c
    simp at c
    subst c
    have b := (dv_bd (ds := ys) (fun d hd => h d (by simp [hd]))).2
    have e : ys.length = n := by simpa using hn
    rw [dv_cons, e] at hl
    rw [e] at b
    omega

/-- The rounded digits begin with a digit that is no zero. -/
theorem rd_head {xs : List Int} (h : Nml xs) {k : Nat} (hk0 : 0 < k) (hk : k ≤ xs.length) : (rd xs k).getD 0 0 ≠ 48 := by
  obtain ⟨j, rfl⟩ : ∃ j, k = j + 1 := ⟨k - 1, by omega⟩
  have dk : Digs (xs.take (j + 1)) := fun d g => h.digs d (List.mem_of_mem_take g)
  have lk : (xs.take (j + 1)).length = j + 1 := by rw [List.length_take]; omega
  have low := head_low dk lk (by have := h.head; simpa [List.getD] using this)
  have b := rn_bd h.digs hk
  have v := rd_dv h.digs hk
  have l := rd_len xs (j + 1)
  have rl : 10 ^ j ≤ rn xs (j + 1) := by unfold rn; split <;> omega
  by_cases c : rn xs (j + 1) = 10 ^ (j + 1)
  · rw [if_pos c] at l
    exact head_of_low (rd_digs _ _) l (by omega)
  · rw [if_neg c] at l
    exact head_of_low (rd_digs _ _) l (by omega)

theorem W_head {d : Int} (hf : Ie.fnt d = true) (n : Nat) (h : n + 1 < (W d n).length) : (W d n).getD 0 0 ≠ 48 := by
  obtain ⟨m0, m1, e0, e1, _⟩ := Ie.fdec d (of_decide_eq_true hf)
  have hl : (W d n).length = (n + 1 - (kp (X d) ((X d).length + P d + n)).length) + (kp (X d) ((X d).length + P d + n)).length := by
    unfold W
    rw [List.length_append, List.length_replicate]
  have hk : n + 1 < (kp (X d) ((X d).length + P d + n)).length := by omega
  have e : W d n = kp (X d) ((X d).length + P d + n) := by
    unfold W
    rw [show n + 1 - (kp (X d) ((X d).length + P d + n)).length = 0 by omega]
    rfl
  rw [e]
  rcases (show Ie.dm d = 0 ∨ 0 < Ie.dm d by omega) with hz | hz
  · obtain ⟨a, b⟩ := X_zero hf hz
    rw [a, b] at hk
    have e : kp [48] (([48] : List Int).length + 0 + n) = 48 :: List.replicate n 48 := by
      have := kp_full (xs := [48]) (c := n + 1) (by simp)
      rw [show (([48] : List Int).length : Int) + 0 + n = ((n + 1 : Nat) : Int) by simp; omega, this]
      simp
    rw [e] at hk
    simp at hk
  · have nm := (X_ex hf).nml hz
    generalize (X d).length + P d + n = c at *
    rcases (show c < 0 ∨ 0 ≤ c by omega) with g | g
    · rw [kp_neg g] at hk
      simp at hk
    · obtain ⟨k, rfl⟩ := Int.eq_ofNat_of_zero_le g
      rcases Nat.lt_or_ge k (X d).length with g | g
      · rw [kp_cut g] at hk ⊢
        apply rd_head nm _ (by omega)
        rw [rd_len] at hk
        split at hk <;> omega
      · rw [kp_full g]
        have := nm.head
        obtain ⟨j, hj⟩ := nm.len
        match hx : X d, hj with
        | x :: ys, _ => rw [hx] at this; simpa using this

theorem pA_facts {d : Int} {n : Nat} (hf : Ie.fnt d = true) (hn : n ≤ 4200) :
    pA d n ++ pB d n = W d n ∧ (pB d n).length = n ∧ pA d n ≠ [] ∧ Digs (pA d n) ∧ Digs (pB d n) ∧ (pA d n).length ≤ 6000 ∧ (1 < (pA d n).length → (pA d n).getD 0 0 ≠ 48) := by
  have r : rf d n 0 = 0 := rf_zero.2 ⟨hf, by omega, by omega⟩
  have wl := W_len d n
  have wr := dv_W_room hf hn
  have wd := W_digs hf n
  have wh := W_head hf n
  unfold pA pB
  rw [if_pos r, if_pos r, Int.toNat_natCast]
  refine ⟨List.take_append_drop _ _, ?_, ?_, fun x h => wd x (List.mem_of_mem_take h), fun x h => wd x (List.mem_of_mem_drop h), ?_, ?_⟩
  · rw [List.length_drop]; omega
  · intro c
    have := congrArg List.length c
    rw [List.length_take, List.length_nil] at this
    omega
  · rw [List.length_take]; omega
  · intro c
    rw [List.length_take] at c
    rw [Nm.getD_take, if_pos (by omega)]
    exact wh (by omega)
end Fx
end Go.Proofs.YtaoaniigbooihaaGreatDoor

namespace Go.Proofs.YtaoaniigbooihaaGreatDoor
open Go Go.RowKit Go.Deep
namespace Fx

theorem rn_carry {xs : List Int} (hd : Digs xs) {k : Nat} (hk : k < xs.length) (h : rn xs (k + 1) = 10 ^ (k + 1)) : rn xs k = 10 ^ k := by
  have dk : Digs (xs.take (k + 1)) := fun d g => hd d (List.mem_of_mem_take g)
  have lk : (xs.take (k + 1)).length = k + 1 := by rw [List.length_take]; omega
  have b := dv_bd dk
  rw [lk] at b
  have T : dv (xs.take (k + 1)) = 10 ^ (k + 1) - 1 := by unfold rn at h; split at h <;> omega
  have e1 := take_last lk
  have x1 := digs_getD dk (show k < (xs.take (k + 1)).length by omega)
  rw [List.take_take, show min k (k + 1) = k by omega] at e1
  generalize hx : (xs.take (k + 1)).getD k 0 = x at *
  rw [e1, dv_snoc] at T
  have b2 := dv_bd (ds := xs.take k) (fun d g => hd d (List.mem_of_mem_take g))
  rw [List.length_take, Nat.min_eq_left (by omega)] at b2
  rw [Int.pow_succ] at T
  have T1 : dv (xs.take k) = 10 ^ k - 1 := by omega
  have T2 : x = 57 := by omega
  have e2 : xs.drop k = 57 :: xs.drop (k + 1) := by
    rw [List.drop_eq_getElem_cons hk]
    congr 1
    rw [Nm.getD_take, if_pos (by omega)] at hx
    rw [← T2, ← hx]
    simp [List.getD, hk]
  have u : up xs k = true := by
    unfold up
    rw [decide_eq_true_iff]
    left
    rw [e2, dv_cons, List.length_drop, show xs.length - k = (xs.length - (k + 1)) + 1 by omega, Int.pow_succ]
    have := (dv_bd (ds := xs.drop (k + 1)) (fun d g => hd d (List.mem_of_mem_drop g))).1
    have := p_pos (xs.length - (k + 1))
    omega
  unfold rn
  rw [u, if_pos rfl, T1]
  omega

theorem tx_ten (k : Nat) : tx (k + 1) (10 ^ k) = 49 :: List.replicate k 48 := by
  have l : (49 :: List.replicate k (48 : Int)).length = k + 1 := by simp
  have d : Digs (49 :: List.replicate k (48 : Int)) := by
    intro x h
    rcases List.mem_cons.1 h with rfl | h
    · omega
    · have := List.eq_of_mem_replicate h; omega
  have v : dv (49 :: List.replicate k (48 : Int)) = 10 ^ k := by
    rw [dv_cons, dv_zeros, List.length_replicate]
    omega
  have := eq_tx d
  rw [l, v] at this
  exact this.symm

/-- What Figures tells of a double that is not 0. -/
theorem fig_facts {d : Int} {k : Nat} (hf : Ie.fnt d = true) (hm : 0 < Ie.dm d) (h1 : 1 ≤ k) (h2 : k ≤ 4200) :
    (gS d k).length = k ∧ Digs (gS d k) ∧ (gS d k).getD 0 0 ≠ 48 ∧ -324 ≤ gK d k ∧ gK d k ≤ 308 ∧
    (∀ q : Nat, (q : Int) = k - 1 - gK d k → ∃ z, W d q = List.replicate z 48 ++ gS d k) := by
  have r : rf d k 1 = 0 := rf_zero.2 ⟨hf, by omega, by omega⟩
  obtain ⟨m0, m1, e0, e1, _⟩ := Ie.fdec d (of_decide_eq_true hf)
  have ex := X_ex hf
  have nm := ex.nml hm
  obtain ⟨r1, r2, r3⟩ := ex.room hm m1 e1
  obtain ⟨-, -, p3, p4, p5⟩ := X_room hf
  have rX : (X d).length + P d ≤ 309 := r2
  unfold gS gK
  rw [if_pos r, if_pos r, Int.toNat_natCast]
  rcases Nat.lt_or_ge k (X d).length with g | g
  · rw [kp_cut g]
    have hl := rd_len (X d) k
    have hh := rd_head nm (show 0 < k by omega) (show k ≤ (X d).length by omega)
    have dd := rd_digs (X d) k
    obtain ⟨j, rfl⟩ : ∃ j, k = j + 1 := ⟨k - 1, by omega⟩
    by_cases c : rn (X d) (j + 1) = 10 ^ (j + 1)
    · rw [if_pos c] at hl
      have rdv : rd (X d) (j + 1) = 49 :: List.replicate (j + 1) 48 := by unfold rd; rw [c, if_pos rfl, tx_ten]
      have lt308 : (X d).length + P d ≠ 309 := by
        intro hE
        have b := r3 hE
        have dk : Digs ((X d).take (j + 1)) := fun x g => nm.digs x (List.mem_of_mem_take g)
        have lk : ((X d).take (j + 1)).length = j + 1 := by rw [List.length_take]; omega
        have T : 10 ^ (j + 1) - 1 ≤ dv ((X d).take (j + 1)) := by unfold rn at c; split at c <;> omega
        have e : dv (X d) = dv ((X d).take (j + 1)) * 10 ^ ((X d).length - (j + 1)) + dv ((X d).drop (j + 1)) := by
          conv => lhs; rw [← List.take_append_drop (j + 1) (X d), dv_append, List.length_drop]
        have b2 := (dv_bd (ds := (X d).drop (j + 1)) (fun x g => nm.digs x (List.mem_of_mem_drop g))).1
        have pz := p_pos ((X d).length - (j + 1))
        have f1 : (10 ^ (j + 1) - 1) * 10 ^ ((X d).length - (j + 1)) ≤ dv ((X d).take (j + 1)) * 10 ^ ((X d).length - (j + 1)) := Int.mul_le_mul_of_nonneg_right T (Int.le_of_lt pz)
        have f2 : (X d).length - 1 = j + ((X d).length - (j + 1)) := by omega
        rw [f2, Int.pow_add] at b
        have f3 : ((9 : Int) * 10 ^ j) * 10 ^ ((X d).length - (j + 1)) ≤ (10 ^ (j + 1) - 1) * 10 ^ ((X d).length - (j + 1)) := by
          refine Int.mul_le_mul_of_nonneg_right ?_ (Int.le_of_lt pz)
          rw [Int.pow_succ]
          have := p_pos j
          omega
        have f4 : 0 < 10 ^ j * (10 : Int) ^ ((X d).length - (j + 1)) := Int.mul_pos (p_pos j) pz
        rw [Int.mul_assoc] at f3
        generalize 10 ^ j * (10 : Int) ^ ((X d).length - (j + 1)) = y at *
        omega
      rw [if_pos (by rw [hl]; omega), rdv]
      have tk : (49 :: List.replicate (j + 1) (48 : Int)).take (j + 1) = 49 :: List.replicate j 48 := by
        rw [List.take_succ_cons, List.take_replicate, Nat.min_eq_left (by omega)]
      rw [tk]
      refine ⟨by simp, ?_, by simp, by omega, by omega, ?_⟩
      · intro x h
        rcases List.mem_cons.1 h with rfl | h
        · omega
        · have := List.eq_of_mem_replicate h; omega
      · intro q hq
        refine ⟨q + 1 - (j + 1), ?_⟩
        have cq : ((X d).length : Int) + P d + q = (j : Int) := by omega
        unfold W
        rw [cq, kp_cut (by omega)]
        have rj := rn_carry nm.digs (show j < (X d).length by omega) c
        have rdj : rd (X d) j = 49 :: List.replicate j 48 := by unfold rd; rw [rj, if_pos rfl, tx_ten]
        rw [rdj]
        simp
    · rw [if_neg c] at hl
      rw [if_neg (by rw [hl]; omega), List.take_of_length_le (by omega)]
      refine ⟨hl, dd, hh, by omega, by omega, ?_⟩
      intro q hq
      refine ⟨q + 1 - (j + 1), ?_⟩
      have cq : ((X d).length : Int) + P d + q = ((j + 1 : Nat) : Int) := by omega
      unfold W
      rw [cq, kp_cut g, hl]
  · rw [kp_full g]
    have hl : (X d ++ List.replicate (k - (X d).length) 48).length = k := by rw [List.length_append, List.length_replicate]; omega
    rw [if_neg (by rw [hl]; omega), List.take_of_length_le (by omega)]
    refine ⟨hl, ?_, ?_, by omega, by omega, ?_⟩
    · intro x h
      rcases List.mem_append.1 h with h | h
      · exact nm.digs x h
      · have := List.eq_of_mem_replicate h; omega
    · have := nm.head
      obtain ⟨j, hj⟩ := nm.len
      match hx : X d, hj with
      | x :: ys, _ => rw [hx] at this; simpa using this
    · intro q hq
      refine ⟨q + 1 - k, ?_⟩
      have cq : ((X d).length : Int) + P d + q = (k : Int) := by omega
      unfold W
      rw [cq, kp_full g, hl]

theorem fig_zero {d : Int} {k : Nat} (hf : Ie.fnt d = true) (hm : Ie.dm d = 0) (h1 : 1 ≤ k) (h2 : k ≤ 4200) : gS d k = List.replicate k 48 ∧ gK d k = 0 := by
  have r : rf d k 1 = 0 := rf_zero.2 ⟨hf, by omega, by omega⟩
  obtain ⟨a, b⟩ := X_zero hf hm
  have e : kp [48] (k : Int) = List.replicate k 48 := by
    rw [kp_full (by simp; omega)]
    obtain ⟨j, rfl⟩ : ∃ j, k = j + 1 := ⟨k - 1, by omega⟩
    rw [List.replicate_succ]
    simp
  unfold gS gK
  rw [if_pos r, if_pos r, a, b, e, Int.toNat_natCast]
  simp

theorem fnt9995 : Ie.fnt 4652002910794678272 = true := by decide
theorem fg9995 : rf 4652002910794678272 3 1 = 0 ∧ gS 4652002910794678272 3 = [49, 48, 48] ∧ gK 4652002910794678272 3 = 3 := by
  have r : rf 4652002910794678272 3 1 = 0 := by decide
  refine ⟨r, ?_, ?_⟩
  · rw [gS, if_pos r, c9995.1]
    decide
  · rw [gK, if_pos r, c9995.1, c9995.2]
    decide
end Fx
end Go.Proofs.YtaoaniigbooihaaGreatDoor

namespace Go.Proofs.YtaoaniigbooihaaGreatDoor
open Go Go.RowKit Go.Deep
namespace Fx

theorem rd_keep {xs : List Int} {k : Nat} (hd : Digs xs) (hk : k ≤ xs.length) (h : up xs k = false) : rd xs k = xs.take k := by
  have dk : Digs (xs.take k) := fun d g => hd d (List.mem_of_mem_take g)
  have b := dv_bd dk
  have lk : (xs.take k).length = k := by rw [List.length_take]; omega
  rw [lk] at b
  have r : rn xs k = dv (xs.take k) := by unfold rn; rw [h]; simp
  exact (rd_of dk r.symm (by rw [if_neg (by omega), lk])).symm
theorem rd_more {xs ds : List Int} {k : Nat} {c : Bool} (hd : Digs xs) (hk : k ≤ xs.length) (h : UpIs (xs.take k) (xs.drop k) false true) (R : Raised (xs.take k) ds c) : (if c = true then 49 :: ds else ds) = rd xs k := by
  have lk : (xs.take k).length = k := by rw [List.length_take]; omega
  obtain ⟨r1, r2, r3⟩ := R
  rw [lk] at r2 r3
  exact rd_round hd hk ⟨r1, r2, true, h, by rw [if_pos (rfl : true = true)]; exact r3⟩
theorem up_full (xs : List Int) : up xs xs.length = false := by
  unfold up
  rw [decide_eq_false_iff_not]
  rw [Nat.sub_self, List.drop_length, show dv [] = 0 from rfl]
  simp
theorem rd_self {xs : List Int} (hd : Digs xs) : rd xs xs.length = xs := by
  rw [rd_keep hd (Nat.le_refl _) (up_full xs), List.take_length]
theorem up_of {xs : List Int} {k : Nat} {u : Bool} (h : UpIs (xs.take k) (xs.drop k) false u) : up xs k = u := (up_is h).symm
end Fx

theorem own_str {g k cap : Nat} {W : World} {fs : List Int} (o : OwnF W g fs) (hl : k ≤ fs.length) (hd : Digs (fs.take k)) :
    ∃ s, Str s (fs.take k) ∧ (convert 47 9 (.slice (some ⟨g, 0, none⟩) k cap)).run Tryz.prog W = .ok (.string s) W := by
  have hlen : (fs.take k).length = k := by simp; omega
  refine ⟨strOfNums (fs.take k), Str.of_nums (fun x hx => by have := hd x hx; omega), run_convert_bytes_arg (P := Tryz.prog) W 47 5 Tryz.underlying47 Tryz.underlying5 g 0 k cap (fs.take k) hlen (fun i hi => ?_) 9 Tryz.underlying9⟩
  rw [Nat.zero_add, o.cell i (by omega)]
  simp [List.getD, hi]

theorem Str.ne' {s : ByteArray} {xs : List Int} (h : Str s xs) (hx : xs ≠ []) : (s.toList == []) = false ∧ s.toList.isEmpty = false := by
  have e1 : s.toList ≠ [] := by
    intro c
    apply hx
    rw [ByteArray.toList_eq] at c
    rw [← h, c]
    rfl
  exact ⟨by rw [beq_eq_false_iff_ne]; exact e1, by rw [List.isEmpty_eq_false_iff]; exact e1⟩

/-- []byte(s): the block, its cells, and the run. -/
theorem bytes_made {s : ByteArray} {xs : List Int} (hs : Str s xs) (w : World) :
    ∃ (cap : Nat) (es : List Int) (w1 : World), (convert 9 47 (.string s)).run Tryz.prog w = .ok (.slice (some ⟨w.heap.size, 0, none⟩) s.size cap) w1 ∧ OwnF w1 w.heap.size es ∧ es.take xs.length = xs ∧ xs.length ≤ es.length ∧ Below w.heap.size w w1 := by
  have CV := run_bytes_of_string (P := Tryz.prog) w 9 47 5 s Tryz.underlying9 Tryz.underlying47 Tryz.underlying5
  obtain ⟨cap, hcap⟩ : ∃ cap, grownCap w s.size 0 5 = cap := ⟨_, rfl⟩
  rw [hcap] at CV
  refine ⟨cap, xs ++ List.replicate (cap - xs.length) 0, _, CV, bytes_own hs w cap, ?_, by simp, (below_drewN (Below.refl _ _) 1).alloc (Nat.le_refl _) _⟩
  rw [List.take_append_of_le_length (by omega), List.take_length]
end Go.Proofs.YtaoaniigbooihaaGreatDoor

namespace Go.Proofs.YtaoaniigbooihaaGreatDoor
open Go Go.RowKit Go.Deep
namespace Fx

theorem digs_z {xs : List Int} (hd : Digs xs) (z : Nat) : Digs (xs ++ List.replicate z 48) := by
  intro x h
  rcases List.mem_append.1 h with h | h
  · exact hd x h
  · have := List.eq_of_mem_replicate h; omega

theorem rd_z {xs : List Int} (hd : Digs xs) {z k : Nat} (hk : k ≤ xs.length + z) : rd (xs ++ List.replicate z 48) k = kp xs (k : Int) := by
  have dz := digs_z hd z
  have lz : (xs ++ List.replicate z (48 : Int)).length = xs.length + z := by simp
  rcases Nat.lt_or_ge k xs.length with c | c
  · rw [kp_cut c]
    have e1 : (xs ++ List.replicate z (48 : Int)).take k = xs.take k := List.take_append_of_le_length (by omega)
    have e2 : (xs ++ List.replicate z (48 : Int)).drop k = xs.drop k ++ List.replicate z 48 := List.drop_append_of_le_length (by omega)
    have e3 : dv ((xs ++ List.replicate z (48 : Int)).drop k) = dv (xs.drop k) * 10 ^ z := by rw [e2, dv_append, dv_zeros, List.length_replicate, Int.add_zero]
    have u : up (xs ++ List.replicate z (48 : Int)) k = up xs k := by
      unfold up
      rw [e1, e3, lz, show xs.length + z - k = xs.length - k + z by omega, Int.pow_add]
      have pz := p_pos z
      generalize (10 : Int) ^ z = T at *
      generalize (10 : Int) ^ (xs.length - k) = A at *
      generalize dv (xs.drop k) = R at *
      congr 1
      apply propext
      have f1 : 2 * (R * T) = (2 * R) * T := by rw [Int.mul_assoc]
      rw [f1]
      constructor
      · rintro (h | ⟨h, g⟩)
        · exact .inl (Int.lt_of_mul_lt_mul_right h (Int.le_of_lt pz))
        · exact .inr ⟨Int.eq_of_mul_eq_mul_right (by omega) h, g⟩
      · rintro (h | ⟨h, g⟩)
        · exact .inl (Int.mul_lt_mul_of_pos_right h pz)
        · exact .inr ⟨by rw [h], g⟩
    unfold rd rn
    rw [u, e1]
  · rw [kp_full c]
    have e : xs ++ List.replicate z (48 : Int) = (xs ++ List.replicate (k - xs.length) 48) ++ List.replicate (xs.length + z - k) 48 := by
      rw [List.append_assoc, List.replicate_append_replicate]
      congr 2
      omega
    have lk : (xs ++ List.replicate (k - xs.length) (48 : Int)).length = k := by simp; omega
    have tk : (xs ++ List.replicate z (48 : Int)).take k = xs ++ List.replicate (k - xs.length) 48 := by rw [e, List.take_append_of_le_length (by omega), List.take_of_length_le (by omega)]
    have dk : (xs ++ List.replicate z (48 : Int)).drop k = List.replicate (xs.length + z - k) 48 := by rw [e, List.drop_append_of_le_length (by omega), List.drop_of_length_le (by omega)]; rfl
    have u : up (xs ++ List.replicate z (48 : Int)) k = false := by
      unfold up
      rw [decide_eq_false_iff_not, dk, dv_zeros]
      have := p_pos ((xs ++ List.replicate z (48 : Int)).length - k)
      omega
    rw [rd_keep dz (by omega) u, tk]

/-- What Figures tells, out of the rounded row. -/
theorem fig_cut {d : Int} {n : Nat} (hf : Ie.fnt d = true) (h1 : 1 ≤ n) (h2 : n ≤ 4200) :
    gS d n = (kp (X d) n).take n ∧ gK d n = (X d).length - 1 + P d + (kp (X d) n).length - n ∧ n ≤ (kp (X d) n).length ∧ (kp (X d) n).length ≤ n + 1 := by
  have r : rf d n 1 = 0 := rf_zero.2 ⟨hf, by omega, by omega⟩
  have hl : n ≤ (kp (X d) n).length ∧ (kp (X d) n).length ≤ n + 1 := by
    rcases Nat.lt_or_ge n (X d).length with c | c
    · rw [kp_cut c, rd_len]; split <;> omega
    · rw [kp_full c, List.length_append, List.length_replicate]; omega
  unfold gS gK
  rw [if_pos r, if_pos r, Int.toNat_natCast]
  refine ⟨rfl, ?_, hl⟩
  split <;> omega
theorem al9995 : aN 4652002910794678272 = false ∧ aS 4652002910794678272 = [57, 57, 57, 53] ∧ aE 4652002910794678272 = -1 ∧ aR 4652002910794678272 = 0 := by
  refine ⟨by decide, ?_, ?_, by decide⟩
  · rw [aS, if_pos fnt9995, c9995.1]
  · rw [aE, if_pos fnt9995, c9995.2]
end Fx
end Go.Proofs.YtaoaniigbooihaaGreatDoor

namespace Go.Proofs.YtaoaniigbooihaaGreatDoor
open Go.RowKit Go.Deep

theorem cap_facts : ∀ k : Fin 36, wv (capL.getD k.val 0) = (k.val : Int) ∧ ¬ (97 ≤ capL.getD k.val 0 ∧ capL.getD k.val 0 ≤ 122) ∧ (capL.getD k.val 0 = 48 → k.val = 0) := by decide
theorem small_facts : ∀ k : Fin 36, wv (smallL.getD k.val 0) = (k.val : Int) ∧ ¬ (65 ≤ smallL.getD k.val 0 ∧ smallL.getD k.val 0 ≤ 90) ∧ (smallL.getD k.val 0 = 48 → k.val = 0) := by decide

/-- A letter, by the digit. -/
theorem letter_facts (up : Bool) (d : Int) (h0 : 0 ≤ d) (h1 : d < 36) : wv ((lettersOf up).getD d.toNat 0) = d ∧ (up = true → ¬ (97 ≤ (lettersOf up).getD d.toNat 0 ∧ (lettersOf up).getD d.toNat 0 ≤ 122)) ∧ (up = false → ¬ (65 ≤ (lettersOf up).getD d.toNat 0 ∧ (lettersOf up).getD d.toNat 0 ≤ 90)) ∧ ((lettersOf up).getD d.toNat 0 = 48 → d = 0) := by
  cases up with
  | true =>
    have k := cap_facts ⟨d.toNat, by omega⟩
    simp only at k
    rw [show lettersOf true = capL from rfl]
    exact ⟨by rw [k.1]; omega, fun _ => k.2.1, fun h => absurd h (by decide), fun h => by have := k.2.2 h; omega⟩
  | false =>
    have k := small_facts ⟨d.toNat, by omega⟩
    simp only at k
    rw [show lettersOf false = smallL from rfl]
    exact ⟨by rw [k.1]; omega, fun h => absurd h (by decide), fun _ => k.2.1, fun h => by have := k.2.2 h; omega⟩

/-- What a text that InBase wrote is like. -/
structure Good (zs : List Int) (B : Int) (up : Bool) (xs : List Int) : Prop where
  ne : xs ≠ []
  len : xs.length ≤ 262144
  case_ : ∀ i, i < xs.length → (up = true → ¬ (97 ≤ xs.getD i 0 ∧ xs.getD i 0 ≤ 122)) ∧ (up = false → ¬ (65 ≤ xs.getD i 0 ∧ xs.getD i 0 ≤ 90))
  dig : ∀ i, i < xs.length → wv (xs.getD i 0) < B
  val : Dn.tv B 0 (xs.map wv) = Nm.val zs
  head : 0 < Nm.tsize zs → xs.getD 0 0 ≠ 48
  zero : Nm.tsize zs = 0 → xs = [48]

theorem good_zero {zs : List Int} {B : Int} {up : Bool} (hz : Nm.Limbs zs) (h : Nm.tsize zs = 0) (hB : 2 ≤ B) : Good zs B up [48] := by
  refine ⟨by simp, by simp, fun i hi => ?_, fun i hi => ?_, ?_, fun c => by omega, fun _ => rfl⟩
  · obtain rfl : i = 0 := by simpa using hi
    exact ⟨fun _ => by simp, fun _ => by simp⟩
  · obtain rfl : i = 0 := by simpa using hi
    show wv 48 < B
    rw [show wv 48 = 0 by decide]
    omega
  · rw [(Nm.tsize_zero_iff hz).1 h, show [48].map wv = [0] by decide]
    simp [Dn.tv]

theorem map_wv_lets {up : Bool} {B : Int} (h36 : B ≤ 36) (ds : List Int) (hd : ∀ d ∈ ds, 0 ≤ d ∧ d < B) : (lets (lettersOf up) ds).map wv = ds := by
  unfold lets
  rw [List.map_map]
  conv => rhs; rw [← List.map_id ds]
  apply List.map_congr_left
  intro d h
  have := hd d h
  exact (letter_facts up d this.1 (by omega)).1

theorem good_ok {zs : List Int} {B : Int} {up : Bool} {L : Nat} (hz : Nm.Limbs zs) (h0 : 0 < Nm.tsize zs) (h1 : Nm.tsize zs ≤ 4096) (h2 : 2 ≤ B) (h36 : B ≤ 36) (hL : Nm.val zs < B ^ L) : Good zs B up (lets (lettersOf up) (Dn.strip (Dn.dg B L (Nm.val zs)))) := by
  have hB : 0 < B := by omega
  have hv0 := (Nm.val_bd zs hz).1
  have hvz : Nm.val zs ≠ 0 := fun c => by have := (Nm.tsize_zero_iff hz).2 c; omega
  have hL2 : Nm.val zs < B ^ 262144 := by
    have e1 := (Nm.tsize_le_iff hz 4096).1 h1
    rw [Nm.pw_two 4096, show 64 * 4096 = 262144 from rfl] at e1
    exact Int.lt_of_lt_of_le e1 (Pn.pow_base (by omega) h2 262144)
  rw [Dn.strip_dg hB hv0 hL hL2]
  obtain ⟨ds, hds⟩ : ∃ ds, Dn.strip (Dn.dg B 262144 (Nm.val zs)) = ds := ⟨_, rfl⟩
  have hm : ∀ d ∈ ds, 0 ≤ d ∧ d < B := fun d hd => by
    rw [← hds] at hd
    exact Dn.dg_mem hB _ _ d (Dn.strip_mem hd)
  have htv : Dn.tv B 0 ds = Nm.val zs := by rw [← hds, Dn.tv_strip, Dn.tv_dg hB _ _ hv0 hL2]
  have hlen : ds.length ≤ 262144 := by
    have := (List.dropWhile_sublist (fun d : Int => decide (d = 0)) (l := Dn.dg B 262144 (Nm.val zs))).length_le
    rw [Dn.dg_length] at this
    rw [← hds]
    exact this
  have hne : ds ≠ [] := fun c => by rw [c] at htv; exact hvz htv.symm
  rw [hds]
  have hg : ∀ i, i < ds.length → (lets (lettersOf up) ds).getD i 0 = (lettersOf up).getD (ds.getD i 0).toNat 0 := fun i hi => by simp [lets, List.getD, hi]
  have hl : (lets (lettersOf up) ds).length = ds.length := by simp [lets]
  have hat : ∀ i, i < ds.length → 0 ≤ ds.getD i 0 ∧ ds.getD i 0 < B := fun i hi => by
    have e : ds.getD i 0 = ds[i] := by simp [List.getD, hi]
    rw [e]
    exact hm _ (List.getElem_mem hi)
  refine ⟨fun c => hne (by simpa [lets] using c), by rw [hl]; exact hlen, fun i hi => ?_, fun i hi => ?_, by rw [map_wv_lets h36 ds hm, htv], fun _ => ?_, fun c => by omega⟩
  · rw [hl] at hi
    rw [hg i hi]
    have := hat i hi
    have f := letter_facts up (ds.getD i 0) this.1 (by omega)
    exact ⟨f.2.1, f.2.2.1⟩
  · rw [hl] at hi
    rw [hg i hi]
    have := hat i hi
    rw [(letter_facts up (ds.getD i 0) this.1 (by omega)).1]
    exact this.2
  · have hi : 0 < ds.length := by
      rcases Nat.eq_zero_or_pos ds.length with c | c
      · exact absurd (List.eq_nil_of_length_eq_zero c) hne
      · exact c
    rw [hg 0 hi]
    have hb := hat 0 hi
    intro c
    have := (letter_facts up (ds.getD 0 0) hb.1 (by omega)).2.2.2 c
    obtain ⟨d, rest, hdr⟩ : ∃ d rest, ds = d :: rest := List.exists_cons_of_ne_nil hne
    have k := Dn.strip_head (ds := Dn.dg B 262144 (Nm.val zs)) (by rw [hds]; exact hdr)
    rw [hdr] at this
    exact k (by simpa using this)
end Go.Proofs.YtaoaniigbooihaaGreatDoor

namespace Go.Proofs.YtaoaniigbooihaaGreatDoor

theorem InIs.one {zs : List Int} {B : Int} {up : Bool} {xs ys : List Int} {E F : Int} (hz : Nm.Limbs zs) (h : InIs zs B up xs E) (k : InIs zs B up ys F) : xs = ys ∧ E = F := by
  cases h with
  | big h1 => cases k <;> first | exact ⟨rfl, rfl⟩ | (exfalso; omega)
  | base h1 h2 => cases k <;> first | exact ⟨rfl, rfl⟩ | (exfalso; omega)
  | zero h1 h2 h3 => cases k <;> first | exact ⟨rfl, rfl⟩ | (exfalso; omega)
  | ok L h1 h2 h3 h4 h5 =>
    cases k with
    | big k1 => exfalso; omega
    | base k1 k2 => exfalso; omega
    | zero k1 k2 k3 => exfalso; omega
    | ok M k1 k2 k3 k4 k5 => exact ⟨by rw [Dn.strip_dg (by omega) (Nm.val_bd zs hz).1 h5 k5], rfl⟩
end Go.Proofs.YtaoaniigbooihaaGreatDoor

namespace Go.Proofs.YtaoaniigbooihaaGreatDoor
open Go.RowKit Go.Deep
namespace Wh
/-- The digits of a number, none of nothing. -/
def dig (B : Int) (up : Bool) (v : Int) : List Int := if v = 0 then [] else lets (lettersOf up) (Dn.strip (Dn.dg B v.toNat v))
theorem lt_pow {B : Int} (hB : 2 ≤ B) (n : Nat) : (n : Int) < B ^ n := by
  induction n with
  | zero => simp
  | succ n ih =>
    rw [Int.pow_succ]
    have p : (1 : Int) ≤ B ^ n := Pn.pow_pos' (by omega) n
    have : B ^ n * 2 ≤ B ^ n * B := Int.mul_le_mul_of_nonneg_left hB (by omega)
    omega
theorem dig_is {zs : List Int} {B : Int} {up : Bool} {xs : List Int} {E : Int} (hz : Nm.Limbs zs) (h0 : 0 < Nm.val zs) (h1 : Nm.tsize zs ≤ 4096) (hB : 2 ≤ B) (h36 : B ≤ 36) (h : InIs zs B up xs E) : xs = dig B up (Nm.val zs) ∧ E = 0 := by
  have t0 : 0 < Nm.tsize zs := by have := Nm.tsize_zero_iff hz; omega
  have hl : Nm.val zs < B ^ (Nm.val zs).toNat := by have := lt_pow hB (Nm.val zs).toNat; omega
  have q := h.one hz (.ok (Nm.val zs).toNat t0 h1 hB h36 hl)
  rw [dig, if_neg (by omega)]
  exact q

/-- What the digits of a number are like. -/
structure Dg (B : Int) (up : Bool) (v : Int) (xs : List Int) : Prop where
  ne : xs ≠ []
  len : xs.length ≤ 262144
  case_ : ∀ i, i < xs.length → (up = true → ¬ (97 ≤ xs.getD i 0 ∧ xs.getD i 0 ≤ 122)) ∧ (up = false → ¬ (65 ≤ xs.getD i 0 ∧ xs.getD i 0 ≤ 90))
  dig : ∀ i, i < xs.length → wv (xs.getD i 0) < B
  val : Dn.tv B 0 (xs.map wv) = v
  head : xs.getD 0 0 ≠ 48
theorem dig_good {zs : List Int} {B : Int} {up : Bool} (hz : Nm.Limbs zs) (h0 : 0 < Nm.val zs) (h1 : Nm.tsize zs ≤ 4096) (hB : 2 ≤ B) (h36 : B ≤ 36) : Dg B up (Nm.val zs) (dig B up (Nm.val zs)) := by
  have t0 : 0 < Nm.tsize zs := by have := Nm.tsize_zero_iff hz; omega
  have hl : Nm.val zs < B ^ (Nm.val zs).toNat := by have := lt_pow hB (Nm.val zs).toNat; omega
  have g := good_ok (up := up) hz t0 h1 hB h36 hl
  rw [dig, if_neg (by omega)]
  exact ⟨g.ne, g.len, g.case_, g.dig, g.val, g.head t0⟩
theorem lets_by (up : Bool) (ds : List Int) : By (lets (lettersOf up) ds) := by
  intro x hx
  obtain ⟨d, _, rfl⟩ := List.mem_map.1 hx
  have k : ∀ (l : List Int), (∀ y ∈ l, 0 ≤ y ∧ y < 256) → 0 ≤ l.getD d.toNat 0 ∧ l.getD d.toNat 0 < 256 := by
    intro l hl
    rw [List.getD_eq_getElem?_getD]
    cases h : l[d.toNat]? with
    | none => simp
    | some y => exact hl y (List.mem_of_getElem? h)
  apply k
  cases up
  · show ∀ y ∈ smallL, _
    decide
  · show ∀ y ∈ capL, _
    decide
theorem dig_by (B : Int) (up : Bool) (v : Int) : By (dig B up v) := by
  unfold dig
  split
  · exact By.nil
  · exact lets_by _ _

/-- Digits brought to the precision. -/
def fil (P : Int) (d : List Int) : List Int := rep 48 ((if P = -1 then 1 else P) - d.length) ++ d
theorem fil_by {P : Int} {d : List Int} (h : By d) : By (fil P d) := (By.rep (by omega)).app h
theorem fil_len (P : Int) (d : List Int) : (fil P d).length = ((if P = -1 then 1 else P) - d.length).toNat + d.length := by
  rw [fil, List.length_append, rep_len]

/-- The sign. -/
def sgn (F : Int) (below : Bool) : List Int := if below = true then [45] else if bit F 2 = true then [43] else if bit F 4 = true then [32] else []
theorem sgn_by (F : Int) (b : Bool) : By (sgn F b) := by
  unfold sgn
  split
  · intro x hx; simp at hx; omega
  · split
    · intro x hx; simp at hx; omega
    · split
      · intro x hx; simp at hx; omega
      · exact By.nil
theorem sgn_len (F : Int) (b : Bool) : (sgn F b).length ≤ 1 := by
  unfold sgn
  split
  · simp
  · split
    · simp
    · split <;> simp

/-- Signed. -/
def sigE (V F W P : Int) (t : Nat) : Int := if V = 100 ∨ V = 105 then (if chk F W P = 0 then (if 4096 < t then 2 else 0) else chk F W P) else 140
def sigT (F W P : Int) (neg : Bool) (v : Int) : List Int := padT F W (decide (P = -1)) (sgn F (neg && decide (v ≠ 0))) (fil P (dig 10 false v))
def sig (V F W P : Int) (neg : Bool) (zs : List Int) : List Int := if sigE V F W P (Nm.tsize zs) = 0 then sigT F W P neg (Nm.val zs) else []

/-- Unsigned. -/
def base (V : Int) : Int := if V = 111 then 8 else if V = 120 ∨ V = 88 then 16 else 10
def ubody (V P u : Int) : List Int := fil P (dig (base V) (decide (V = 88)) u)
def umark (V F P u : Int) : Bool := bit F 8 && decide (V = 111) && decide ((ubody V P u).getD 0 0 ≠ 48)
def uhead (V F u : Int) : List Int := if bit F 8 = true ∧ u ≠ 0 ∧ V = 120 then [48, 120] else if bit F 8 = true ∧ u ≠ 0 ∧ V = 88 then [48, 88] else []
def utext (V F P u : Int) : List Int := if umark V F P u = true then 48 :: ubody V P u else ubody V P u
def unsE (V F W P : Int) : Int := if V = 111 ∨ V = 117 ∨ V = 120 ∨ V = 88 then chk F W P else 140
def unsT (V F W P u : Int) : List Int := padT F W (decide (P = -1)) (uhead V F u) (utext V F P u)
def uns (V F W P u : Int) : List Int := if unsE V F W P = 0 then unsT V F W P u else []

end Wh
end Go.Proofs.YtaoaniigbooihaaGreatDoor
