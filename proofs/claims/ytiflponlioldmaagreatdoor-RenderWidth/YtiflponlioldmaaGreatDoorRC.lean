/-
  Texts put together: JSpec, JMem, FRep, FKept, FRow3, FAll, FTop, FApi, FNearN, FClosed, FCl2, FHeadsN, FRdN, FCutsN, VNum2, VOrd, VDl, DNum, DBackN, NGood, SOne2, JNum.
-/
import Derived.Test.YtiflponlioldmaaGreatDoorRB
import Derived.Deep.LoopGhost
import Derived.Deep.RegionHeld3
import Derived.Deep.CutBlock
import Derived.OwnWalk
import Derived.Deep.CutRange
import Derived.Laws.Concat
import Derived.Test.YtiflponlioldmaaGreatDoorXMem
import Derived.Laws.ResultCell
import Derived.BigQuiet
import Derived.Test.YtiflponlioldmaaGreatDoorRA
import Derived.Lib.ItoaNum
namespace Go.Proofs.YtiflponlioldmaaGreatDoor
open Go Go.RowKit Go.Deep Go.Shelf

/-- A text as the walk tells it. -/
theorem str_is {s : ByteArray} {xs : List Int} (h : Str s xs) : s = strOfNums xs := h.inj (Str.of_nums (fun _ hx => h.mem hx))

theorem bit_and (F k : Int) (h0 : 0 ≤ F) (h1 : F ≤ 31) (hk : k = 1 ∨ k = 2 ∨ k = 4 ∨ k = 8 ∨ k = 16) : (bits .and .i64 F k = 0 ∧ Wh.bit F k = false) ∨ (bits .and .i64 F k ≠ 0 ∧ Wh.bit F k = true) := by
  have key : ∀ t : Fin 32, ∀ j ∈ [(1 : Int), 2, 4, 8, 16], (bits .and .i64 (t.val : Int) j = 0 ∧ Wh.bit (t.val : Int) j = false) ∨ (bits .and .i64 (t.val : Int) j ≠ 0 ∧ Wh.bit (t.val : Int) j = true) := by decide
  have := key ⟨F.toNat, by omega⟩ k (by simp; omega)
  simp only at this
  rw [show ((F.toNat : Nat) : Int) = F by omega] at this
  exact this

set_option maxRecDepth 100000 in
theorem has_any (V F W P k : Int) (w : World) (h0 : 0 ≤ F) (h1 : F ≤ 31) (hk : k = 1 ∨ k = 2 ∨ k = 4 ∨ k = 8 ∨ k = 16) :
    Calls Tryz.prog 145 #[.agg #[.int .u8 V, .int .i64 F, .int .i64 W, .int .i64 P], .int .i64 k] w fun e w' => e = .returned (.bool (Wh.bit F k)) ∧ Below w.heap.size w w' := by
  have B := hid (alloc_b w (.cells #[.int .u8 V, .int .i64 F, .int .i64 W, .int .i64 P] 25))
  rcases bit_and F k h0 h1 hk with ⟨e, q⟩ | ⟨e, q⟩
  · rw [q]
    clear h0 h1 hk q
    go_enter Tryz.func145, Tryz.ntmps145
    go_wp2_with fail
    go_ret
    exact ⟨rfl, B.out⟩
  · rw [q]
    have e2 : (bits .and .i64 F k != 0) = true := by simpa using e
    clear h0 h1 hk q e
    go_enter Tryz.func145, Tryz.ntmps145
    go_wp2_with fail
    go_ret
    exact ⟨rfl, B.out⟩

set_option maxRecDepth 100000 in
theorem check_any (V F W P : Int) (w : World) :
    Calls Tryz.prog 144 #[.agg #[.int .u8 V, .int .i64 F, .int .i64 W, .int .i64 P]] w fun e w' => e = .returned (.int .i64 (Wh.chk F W P)) ∧ Below w.heap.size w w' := by
  have B := hid (alloc_b w (.cells #[.int .u8 V, .int .i64 F, .int .i64 W, .int .i64 P] 25))
  by_cases h : F < 0 ∨ 31 < F ∨ W < 0 ∨ P < -1
  · rw [show Wh.chk F W P = 1 from if_pos h]
    by_cases h1 : F < 0
    · clear h
      go_enter Tryz.func144, Tryz.ntmps144
      go_wp2_with fail
      go_ret
      exact ⟨rfl, B.out⟩
    · by_cases h2 : 31 < F
      · clear h
        go_enter Tryz.func144, Tryz.ntmps144
        go_wp2_with fail
        go_ret
        exact ⟨rfl, B.out⟩
      · by_cases h3 : W < 0
        · clear h
          go_enter Tryz.func144, Tryz.ntmps144
          go_wp2_with fail
          go_ret
          exact ⟨rfl, B.out⟩
        · have h4 : P < -1 := by omega
          clear h
          go_enter Tryz.func144, Tryz.ntmps144
          go_wp2_with fail
          go_ret
          exact ⟨rfl, B.out⟩
  · have h1 : ¬ F < 0 := by omega
    have h2 : ¬ 31 < F := by omega
    have h3 : ¬ W < 0 := by omega
    have h4 : ¬ P < -1 := by omega
    by_cases k : 4096 < W ∨ 4096 < P
    · rw [show Wh.chk F W P = 6 by rw [Wh.chk, if_neg h, if_pos k]]
      by_cases k1 : 4096 < W
      · clear h k
        go_enter Tryz.func144, Tryz.ntmps144
        go_wp2_with fail
        go_ret
        exact ⟨rfl, B.out⟩
      · have k2 : 4096 < P := by omega
        clear h k
        go_enter Tryz.func144, Tryz.ntmps144
        go_wp2_with fail
        go_ret
        exact ⟨rfl, B.out⟩
    · rw [show Wh.chk F W P = 0 by rw [Wh.chk, if_neg h, if_neg k]]
      have k1 : ¬ 4096 < W := by omega
      have k2 : ¬ 4096 < P := by omega
      clear h k
      go_enter Tryz.func144, Tryz.ntmps144
      go_wp2_with fail
      go_ret
      exact ⟨rfl, B.out⟩

set_option maxRecDepth 100000 in
theorem checkVerb_any (V F W P : Int) (s : ByteArray) (ok : Bool) (w : World) (hv : (Lib.indexByte s.data.toList V.toNat.toUInt8 < 0 ∧ ok = false) ∨ (0 ≤ Lib.indexByte s.data.toList V.toNat.toUInt8 ∧ ok = true)) :
    Calls Tryz.prog 95 #[.agg #[.int .u8 V, .int .i64 F, .int .i64 W, .int .i64 P], .string s] w fun e w' => e = .returned (.int .i64 (if ok = true then Wh.chk F W P else 140)) ∧ Below w.heap.size w w' := by
  have B := hid (alloc_b w (.cells #[.int .u8 V, .int .i64 F, .int .i64 W, .int .i64 P] 25))
  have IX := hid (fun w => Any.strings_IndexByte idxLays s V w)
  generalize Lib.indexByte s.data.toList V.toNat.toUInt8 = x at *
  rcases hv with ⟨h, rfl⟩ | ⟨h, rfl⟩
  · rw [if_neg Bool.false_ne_true]
    go_enter Tryz.func95, Tryz.ntmps95
    go_wp2_with (go_at_call 54; refine (IX.out _).mono ?_; rintro e w2 ⟨rfl, rfl⟩)
    go_ret
    exact ⟨rfl, B.out⟩
  · rw [if_pos rfl]
    have h' : ¬ x < 0 := by omega
    have CK := hid (fun w => check_any V F W P w)
    generalize Wh.chk F W P = E at *
    go_enter Tryz.func95, Tryz.ntmps95
    go_wp2_with (go_at_call 54; refine (IX.out _).mono ?_; rintro e w2 ⟨rfl, rfl⟩)
    refine (CK.out _).mono ?_
    rintro e w1 ⟨rfl, b1⟩
    have B1 := hid (below_on B.out b1)
    clear b1
    go_wp2_with fail
    go_ret
    exact ⟨rfl, B1.out⟩

set_option maxRecDepth 100000 in
/-- The verbs, by their texts. -/
theorem vb_c (V : Int) (h0 : 0 ≤ V) (h1 : V < 256) : (Lib.indexByte (⟨#[99]⟩ : ByteArray).data.toList V.toNat.toUInt8 < 0 ∧ decide (V = 99) = false) ∨ (0 ≤ Lib.indexByte (⟨#[99]⟩ : ByteArray).data.toList V.toNat.toUInt8 ∧ decide (V = 99) = true) := by
  have key : ∀ t : Fin 256, (Lib.indexByte [99] (t.val : Int).toNat.toUInt8 < 0 ∧ decide ((t.val : Int) = 99) = false) ∨ (0 ≤ Lib.indexByte [99] (t.val : Int).toNat.toUInt8 ∧ decide ((t.val : Int) = 99) = true) := by decide
  have := key ⟨V.toNat, by omega⟩
  simp only at this
  rw [show ((V.toNat : Nat) : Int) = V by omega] at this
  exact this
set_option maxRecDepth 100000 in
theorem vb_s (V : Int) (h0 : 0 ≤ V) (h1 : V < 256) : (Lib.indexByte (⟨#[115]⟩ : ByteArray).data.toList V.toNat.toUInt8 < 0 ∧ decide (V = 115) = false) ∨ (0 ≤ Lib.indexByte (⟨#[115]⟩ : ByteArray).data.toList V.toNat.toUInt8 ∧ decide (V = 115) = true) := by
  have key : ∀ t : Fin 256, (Lib.indexByte [115] (t.val : Int).toNat.toUInt8 < 0 ∧ decide ((t.val : Int) = 115) = false) ∨ (0 ≤ Lib.indexByte [115] (t.val : Int).toNat.toUInt8 ∧ decide ((t.val : Int) = 115) = true) := by decide
  have := key ⟨V.toNat, by omega⟩
  simp only at this
  rw [show ((V.toNat : Nat) : Int) = V by omega] at this
  exact this
set_option maxRecDepth 100000 in
theorem vb_di (V : Int) (h0 : 0 ≤ V) (h1 : V < 256) : (Lib.indexByte (⟨#[100, 105]⟩ : ByteArray).data.toList V.toNat.toUInt8 < 0 ∧ decide (V = 100 ∨ V = 105) = false) ∨ (0 ≤ Lib.indexByte (⟨#[100, 105]⟩ : ByteArray).data.toList V.toNat.toUInt8 ∧ decide (V = 100 ∨ V = 105) = true) := by
  have key : ∀ t : Fin 256, (Lib.indexByte [100, 105] (t.val : Int).toNat.toUInt8 < 0 ∧ decide ((t.val : Int) = 100 ∨ (t.val : Int) = 105) = false) ∨ (0 ≤ Lib.indexByte [100, 105] (t.val : Int).toNat.toUInt8 ∧ decide ((t.val : Int) = 100 ∨ (t.val : Int) = 105) = true) := by decide
  have := key ⟨V.toNat, by omega⟩
  simp only at this
  rw [show ((V.toNat : Nat) : Int) = V by omega] at this
  exact this
set_option maxRecDepth 100000 in
theorem vb_o (V : Int) (h0 : 0 ≤ V) (h1 : V < 256) : (Lib.indexByte (⟨#[111, 117, 120, 88]⟩ : ByteArray).data.toList V.toNat.toUInt8 < 0 ∧ decide (V = 111 ∨ V = 117 ∨ V = 120 ∨ V = 88) = false) ∨ (0 ≤ Lib.indexByte (⟨#[111, 117, 120, 88]⟩ : ByteArray).data.toList V.toNat.toUInt8 ∧ decide (V = 111 ∨ V = 117 ∨ V = 120 ∨ V = 88) = true) := by
  have key : ∀ t : Fin 256, (Lib.indexByte [111, 117, 120, 88] (t.val : Int).toNat.toUInt8 < 0 ∧ decide ((t.val : Int) = 111 ∨ (t.val : Int) = 117 ∨ (t.val : Int) = 120 ∨ (t.val : Int) = 88) = false) ∨ (0 ≤ Lib.indexByte [111, 117, 120, 88] (t.val : Int).toNat.toUInt8 ∧ decide ((t.val : Int) = 111 ∨ (t.val : Int) = 117 ∨ (t.val : Int) = 120 ∨ (t.val : Int) = 88) = true) := by decide
  have := key ⟨V.toNat, by omega⟩
  simp only at this
  rw [show ((V.toNat : Nat) : Int) = V by omega] at this
  exact this
end Go.Proofs.YtiflponlioldmaaGreatDoor

namespace Go.Proofs.YtiflponlioldmaaGreatDoor
open Go Go.RowKit Go.Deep Go.Shelf

theorem ret_str {a b : ByteArray} (h : a = b) : Ending.returned (.string a) = .returned (.string b) := by rw [h]
theorem str_cells {s : ByteArray} {xs : List Int} (h : Str s xs) : Lib.strCells s = xs.map (Value.int .u8) := by
  rw [← h, List.map_map]; rfl
def IsB (B b : Nat) (zs : List Int) (w : World) : Prop := Lib.IsBuilder 81 5 B b (zs.map (Value.int .u8)) w
theorem IsB.below {B b : Nat} {zs : List Int} {w w' : World} (h : IsB B b zs w) (k : Below w.heap.size w w') : IsB B b zs w' := by
  have key : ∀ p, Lib.BuilderAt 81 5 B b p (zs.map (Value.int .u8)) w → Lib.BuilderAt 81 5 B b p (zs.map (Value.int .u8)) w' := by
    rintro p ⟨h1, v, h2, h3, h4⟩
    have hl : b < w.heap.size := by
      rcases Nat.lt_or_ge b w.heap.size with c | c
      · exact c
      · simp [Array.getElem?_eq_none c] at h2
    exact ⟨h1, v, by rw [k.block b hl]; exact h2, World.ownsRow.kept (row := none) h3 ⟨k.os, k.tape, k.output, k.size, fun j hj _ => k.block j hj⟩ (by cases h : Value.ownBlock v <;> simp), h4⟩
  rcases h with h | h
  · exact .inl (key _ h)
  · exact .inr (key _ h)
theorem bwrite_any (B b : Nat) (zs xs : List Int) (s : ByteArray) (w : World) (h : IsB B b zs w) (hs : Str s xs) (hl : zs.length + xs.length ≤ 140737488355328) (hB : B ≤ w.heap.size) : Calls Tryz.prog 48 #[.pointer (some ⟨b, 0, none⟩), .string s] w fun e w' => e = .returned (.tuple #[.int .i64 s.size, .nilIface]) ∧ IsB B b (zs ++ xs) w' ∧ Below B w w' := by
  have q := Any.Builder_WriteString jwsLays jExtra B b (zs.map (Value.int .u8)) s w h (by have := hs.size; rw [List.length_map]; omega) hB
  rw [str_cells hs, ← List.map_append] at q
  refine q.mono ?_
  rintro e w' ⟨rfl, h1, h2⟩
  exact ⟨rfl, .inr h1, h2⟩
theorem bstr_any (B b : Nat) (zs : List Int) (w : World) (h : IsB B b zs w) (hz : ∀ x ∈ zs, 0 ≤ x ∧ x < 256) (hB : B ≤ w.heap.size) : Calls Tryz.prog 42 #[.pointer (some ⟨b, 0, none⟩)] w fun e w' => e = .returned (.string (strOfNums zs)) ∧ Below B w w' := by
  have S := Str.of_nums hz
  have e1 : zs.map (Value.int .u8) = Lib.byteCells (strOfNums zs).data.toList := by rw [← str_cells S]; rfl
  have h' : Lib.IsBuilder 81 5 B b (Lib.byteCells (strOfNums zs).data.toList) w := by rw [← e1]; exact h
  have q := Any.Builder_String_any { repLays with } jExtra B b (strOfNums zs).data.toList w h' hB
  have e2 : (⟨(strOfNums zs).data.toList.toArray⟩ : ByteArray) = strOfNums zs := by simp
  rw [e2] at q
  exact q
theorem bgrow_any (B b n : Nat) (w : World) (hB : B ≤ b) (hbk : w.heap[b]? = some (.cells #[.pointer none, .slice none 0 0] 81 (0, 0))) (hBw : B ≤ w.heap.size) (hn : n ≤ 281474976710656) : Calls Tryz.prog 146 #[.pointer (some ⟨b, 0, none⟩), .int .i64 n] w fun e w' => e = .returned (.tuple #[]) ∧ IsB B b [] w' ∧ Below B w w' := by
  refine (Any.Builder_Grow_fresh { repLays with } jExtra B b n w hB hbk hBw hn).mono ?_
  rintro e w' ⟨rfl, h1, h2⟩
  exact ⟨rfl, .inr h1, h2⟩

theorem rep_str (c : UInt8) (k : Nat) : Str ⟨(Lib.repeatL (#[c] : Array UInt8).toList k).toArray⟩ (List.replicate k (c.toNat : Int)) := by
  unfold Str
  simp only
  induction k with
  | zero => rfl
  | succ k ih =>
    rw [Lib.repeatL, List.replicate_succ]
    simpa using ih
theorem jrep (c : UInt8) (n : Nat) (w : World) (hn : n ≤ 100000) : Calls Tryz.prog 147 #[.string ⟨#[c]⟩, .int .i64 (n : Int)] w fun e w' => e = .returned (.string (strOfNums (Wh.rep (c.toNat : Int) (n : Int)))) ∧ Below w.heap.size w w' := by
  refine (Any.strings_Repeat repLays jExtra ⟨#[c]⟩ n w (by omega) (by have : (⟨#[c]⟩ : ByteArray).size = 1 := rfl; rw [this]; omega)).mono ?_
  rintro e w' ⟨rfl, hB⟩
  refine ⟨?_, hB⟩
  rw [Wh.rep, Int.toNat_natCast, ← str_is (rep_str c n)]
theorem jrep32 (n : Nat) (w : World) (hn : n ≤ 100000) : Calls Tryz.prog 147 #[.string ⟨#[32]⟩, .int .i64 (n : Int)] w fun e w' => e = .returned (.string (strOfNums (Wh.rep 32 (n : Int)))) ∧ Below w.heap.size w w' := jrep 32 n w hn
theorem jrep48 (n : Nat) (w : World) (hn : n ≤ 100000) : Calls Tryz.prog 147 #[.string ⟨#[48]⟩, .int .i64 (n : Int)] w fun e w' => e = .returned (.string (strOfNums (Wh.rep 48 (n : Int)))) ∧ Below w.heap.size w w' := jrep 48 n w hn

/-- A Builder of our own among what is new. -/
structure PS (w0 : World) (bb : Nat) (zs : List Int) (wk : World) : Prop where
  bel : Below w0.heap.size w0 wk
  isb : IsB bb bb zs wk
  sz : bb ≤ wk.heap.size
  lo : w0.heap.size ≤ bb
theorem PS.on {w0 wk w' : World} {bb : Nat} {zs : List Int} (h : PS w0 bb zs wk) (k : Below wk.heap.size wk w') : PS w0 bb zs w' :=
  ⟨below_on h.bel k, h.isb.below k, Nat.le_trans h.sz k.size, h.lo⟩
theorem PS.write {w0 wk : World} {bb : Nat} {zs : List Int} (h : PS w0 bb zs wk) (xs : List Int) (hx : Wh.By xs) (hl : zs.length + xs.length ≤ 140737488355328) :
    Calls Tryz.prog 48 #[.pointer (some ⟨bb, 0, none⟩), .string (strOfNums xs)] wk fun e w' => e = .returned (.tuple #[.int .i64 (strOfNums xs).size, .nilIface]) ∧ PS w0 bb (zs ++ xs) w' := by
  refine (bwrite_any bb bb zs xs _ wk h.isb (Str.of_nums hx) hl h.sz).mono ?_
  rintro e w' ⟨rfl, i, b⟩
  exact ⟨rfl, h.bel.trans (b.mono h.lo), i, Nat.le_trans h.sz b.size, h.lo⟩
theorem PS.str {w0 wk : World} {bb : Nat} {zs : List Int} (h : PS w0 bb zs wk) (hz : Wh.By zs) :
    Calls Tryz.prog 42 #[.pointer (some ⟨bb, 0, none⟩)] wk fun e w' => e = .returned (.string (strOfNums zs)) ∧ Below w0.heap.size w0 w' := by
  refine (bstr_any bb bb zs wk h.isb hz h.sz).mono ?_
  rintro e w' ⟨rfl, b⟩
  exact ⟨rfl, h.bel.trans (b.mono h.lo)⟩
theorem PS.grow {w0 w1 : World} (n : Nat) (h : Below w0.heap.size w0 w1) (hn : n ≤ 281474976710656) :
    Calls Tryz.prog 146 #[.pointer (some ⟨w1.heap.size, 0, none⟩), .int .i64 (n : Int)] (w1.alloc (.cells #[.pointer none, .slice none 0 0] 81)) fun e w' => e = .returned (.tuple #[]) ∧ PS w0 w1.heap.size [] w' := by
  have A := alloc_b w1 (.cells #[.pointer none, .slice none 0 0] 81)
  refine (bgrow_any w1.heap.size w1.heap.size n _ (Nat.le_refl _) (heap_alloc_new w1 _) A.size hn).mono ?_
  rintro e w' ⟨rfl, i, b⟩
  exact ⟨rfl, below_on h A |>.trans (b.mono h.size), i, Nat.le_trans A.size b.size, h.size⟩
end Go.Proofs.YtiflponlioldmaaGreatDoor

namespace Go.Proofs.YtiflponlioldmaaGreatDoor
open Go.RowKit Go.Deep Go.Shelf
theorem frepeat_any (c : Nat) (w : World) (hc : c ≤ 100000) :
    Calls Tryz.prog 147 #[.string ⟨#[48]⟩, .int .i64 (c : Int)] w fun e w' => ∃ s, e = .returned (.string s) ∧ Str s (List.replicate c 48) ∧ Below w.heap.size w w' := by
  refine (jrep48 c w hc).mono ?_
  rintro e w' ⟨rfl, hB⟩
  exact ⟨_, rfl, by have q := Str.of_nums (Wh.By.rep (c := 48) (n := (c : Int)) (by omega)); rw [Wh.rep, Int.toNat_natCast] at q ⊢; exact q, hB⟩
end Go.Proofs.YtiflponlioldmaaGreatDoor

namespace Go.Proofs.YtiflponlioldmaaGreatDoor
open Go Go.RowKit Go.Deep

theorem Str.app {a b : ByteArray} {xs ys : List Int} (h : Str a xs) (k : Str b ys) : Str (a ++ b) (xs ++ ys) := by
  unfold Str at *
  rw [← h, ← k, ← List.map_append]
  simp

theorem str_one : Str ⟨#[49]⟩ [49] := rfl

set_option maxRecDepth 100000 in
set_option maxHeartbeats 2000000 in
theorem kept_any (s : ByteArray) (xs : List Int) (c : Int) (w : World) (hs : Str s xs) (hd : Digs xs) (h0 : xs ≠ []) (hl : xs.length ≤ 3000) (hc : c ≤ 10000) :
    Calls Tryz.prog 241 #[.string s, .int .i64 c] w fun e w' => ∃ s', e = .returned (.string s') ∧ Str s' (Fx.kp xs c) ∧ Below w.heap.size w w' := by
  by_cases hn : c < 0
  · have F : Hid (Str ⟨#[]⟩ (Fx.kp xs c)) := by rw [Fx.kp_neg hn]; rfl
    clear hs hd h0 hl
    go_enter Tryz.func241, Tryz.ntmps241
    go_wp2_with fail
    go_ret
    exact ⟨_, rfl, F.out, Below.refl _ _⟩
  · obtain ⟨k, rfl⟩ := Int.eq_ofNat_of_zero_le (show 0 ≤ c by omega)
    have R := hid (round_any s xs k false w hs h0 hd (by omega) (by omega) (by omega))
    by_cases hg : xs.length ≤ k
    · obtain ⟨z, hz⟩ : ∃ z : Nat, (k : Int) - (s.size : Int) = (z : Int) := ⟨k - s.size, by rw [hs.size]; omega⟩
      have RE := hid (fun wx : World => frepeat_any z wx (by omega))
      have szb : (s.size : Int) ≤ 3000 := by rw [hs.size]; omega
      have kb : (k : Int) ≤ 10000 := hc
      have F : Hid (∀ b : ByteArray, Str b (List.replicate z 48) → Str (s ++ b) (Fx.kp xs k)) := by
        intro b hb
        rw [Fx.kp_full hg, show k - xs.length = z by have := hs.size; omega]
        exact hs.app hb
      have RT : Hid (∀ e, RoundTold s xs k false e → e = .returned (.tuple #[.string s, .bool false, .int .i64 0])) := fun e h => h.1 (by omega)
      clear hs hd h0 hl hg hn hc
      go_enter Tryz.func241, Tryz.ntmps241
      go_wp2_with fail
      refine R.out.mono ?_
      rintro e w1 ⟨h, B1⟩
      obtain rfl := RT.out e h
      have HB := hid B1
      clear h B1 RT R
      go_wp2_with fail
      refine (RE.out _).mono ?_
      rintro e w2 ⟨b, rfl, hb, B2⟩
      have K := hid (And.intro (F.out b hb) (HB.out.trans (B2.mono HB.out.size)))
      have szc : (b.size : Int) ≤ 10000 := by rw [hb.size, List.length_replicate]; omega
      clear hb B2 RE F HB
      go_wp2_with fail
      go_ret
      exact ⟨_, rfl, K.out.1, K.out.2⟩
    · have hk : k < xs.length := by omega
      have RE := hid (fun wx : World => frepeat_any 0 wx (by omega))
      have kb : (k : Int) ≤ 10000 := hc
      have RT : Hid (∀ e, RoundTold s xs k false e → ∃ s' c, e = .returned (.tuple #[.string s', .bool c, .int .i64 0]) ∧ s'.size = k ∧ Hid (∀ b, Str b [] → if c = true then Str (⟨#[49]⟩ ++ (s' ++ b)) (Fx.kp xs k) else Str (s' ++ b) (Fx.kp xs k))) := by
        intro e h
        obtain ⟨s', ds, c, rfl, h1, h2⟩ := h.2 (by omega)
        rw [Int.toNat_natCast] at h2
        refine ⟨s', c, rfl, by rw [h1.size, h2.2.1], fun b hb => ?_⟩
        have q := Fx.rd_round hd (by omega) h2
        rw [Fx.kp_cut hk, ← q]
        have a := h1.app hb
        rw [List.append_nil] at a
        cases c
        · exact a
        · exact str_one.app a
      clear hs hd h0 hl hg hn hc hk
      go_enter Tryz.func241, Tryz.ntmps241
      go_wp2_with fail
      refine R.out.mono ?_
      rintro e w1 ⟨h, B1⟩
      obtain ⟨s', c, rfl, hz, F⟩ := RT.out e h
      have HB := hid B1
      clear h B1 RT R
      go_wp2_with fail
      refine (RE.out _).mono ?_
      rintro e w2 ⟨b, rfl, hb, B2⟩
      have K := hid (F.out b hb)
      have HB2 := hid (HB.out.trans (B2.mono HB.out.size))
      have szc : b.size = 0 := by rw [hb.size]; rfl
      clear hb B2 RE F HB
      cases c
      · go_wp2_with fail
        go_ret
        exact ⟨_, rfl, K.out, HB2.out⟩
      · go_wp2_with fail
        go_ret
        exact ⟨_, rfl, K.out, HB2.out⟩
end Go.Proofs.YtiflponlioldmaaGreatDoor

namespace Go.Proofs.YtiflponlioldmaaGreatDoor
open Go Go.RowKit Go.Deep

theorem fset1 {w : World} {b o t : Nat} {v : Value} {c c' : Array Value} (h : w.heap[b]? = some (.cells c t (0, 0))) (e : c.setIfInBounds o v = c') : (w.setCell ⟨b, o, none⟩ v).heap[b]? = some (.cells c' t (0, 0)) := by
  subst e
  simp [World.setCell, Array.getElem?_modify, h]


/-- Three cells that may be written. -/
def FR3 (w : World) (b : Nat) (v0 v1 v2 : Value) : Prop := w.heap[b]? = some (.cells #[v0, v1, v2] 105 (0, 0))
theorem FR3.new (w : World) (v0 v1 v2 : Value) : FR3 (w.alloc (.cells #[v0, v1, v2] 105)) w.heap.size v0 v1 v2 := heap_alloc_new w _
theorem FR3.below {B : Nat} {w w' : World} {b : Nat} {v0 v1 v2 : Value} (h : FR3 w b v0 v1 v2) (hB : Below B w w') (hb : b < B) : FR3 w' b v0 v1 v2 := by
  rw [FR3, hB.block b hb]; exact h
theorem FR3.lt {w : World} {b : Nat} {v0 v1 v2 : Value} (h : FR3 w b v0 v1 v2) : b < w.heap.size := by
  rcases Nat.lt_or_ge b w.heap.size with hl | hl
  · exact hl
  · simp [FR3, Array.getElem?_eq_none hl] at h
theorem FR3.cells {w : World} {b : Nat} {v0 v1 v2 : Value} (h : FR3 w b v0 v1 v2) :
    (w.cell? ⟨b, 0, none⟩ = some v0 ∧ w.cell? ⟨b, 1, none⟩ = some v1 ∧ w.cell? ⟨b, 2, none⟩ = some v2) ∧
    (w.frozen? ⟨b, 0, none⟩ = false ∧ w.frozen? ⟨b, 1, none⟩ = false ∧ w.frozen? ⟨b, 2, none⟩ = false) := by
  simp only [FR3] at h
  refine ⟨⟨?_, ?_, ?_⟩, ⟨?_, ?_, ?_⟩⟩ <;> simp [World.cell?, World.frozen?, h]
theorem FR3.put {w : World} {b : Nat} {v0 v1 v2 : Value} (h : FR3 w b v0 v1 v2) (u0 u1 u2 : Value) :
    FR3 (((w.setCell ⟨b, 0, none⟩ u0).setCell ⟨b, 1, none⟩ u1).setCell ⟨b, 2, none⟩ u2) b u0 u1 u2 := by
  have h0 := fset1 (o := 0) (v := u0) (c' := #[u0, v1, v2]) h (by simp [Array.setIfInBounds])
  have h1 := fset1 (o := 1) (v := u1) (c' := #[u0, u1, v2]) h0 (by simp [Array.setIfInBounds])
  exact fset1 (o := 2) (v := u2) (c' := #[u0, u1, u2]) h1 (by simp [Array.setIfInBounds])
theorem FR3.far {w : World} {b c o : Nat} {v v0 v1 v2 : Value} (h : FR3 w b v0 v1 v2) (hc : c ≠ b) : FR3 (w.setCell ⟨c, o, none⟩ v) b v0 v1 v2 := by
  simp only [FR3] at *
  simp only [World.setCell, Array.getElem?_modify]
  rw [if_neg hc]; exact h
theorem fset3_below {B : Nat} {w w' : World} {b : Nat} {u0 u1 u2 : Value} (h : Below B w w') (hb : B ≤ b) : Below B w (((w'.setCell ⟨b, 0, none⟩ u0).setCell ⟨b, 1, none⟩ u1).setCell ⟨b, 2, none⟩ u2) :=
  ((h.setCell (p := ⟨b, 0, none⟩) hb u0).setCell (p := ⟨b, 1, none⟩) hb u1).setCell (p := ⟨b, 2, none⟩) hb u2


theorem fresults_row_tmp {P : Program} {fn : Func} {p u : Tmp} {ty : TypeId} (h : fn.results = #[.cell p ty, .tmp u]) (tmps : Array Value) (w : World) (g : Nat) (t : TypeId) (cs : Array Value) (fr : Nat × Nat) (d : TypeDesc)
    (hp : tmps.getD p undef = .pointer (some ⟨g, 0, none⟩)) (hg : w.heap[g]? = some (.cells cs t fr))
    (hu : P.underlying ty = some d) (hd : (match d with | .struct _ | .array _ _ => true | _ => false) = true) (hi : (P.info? ty).map (·.size) = some cs.size) :
    (results fn tmps).run P w = .ok (.tuple #[.agg cs, tmps.getD u undef]) w := by
  rw [results_cell_tmp h, hp]
  simp [asAddr, run_loadVar_row w g t ty cs fr d hg hu hd hi, Result.andThen]

end Go.Proofs.YtiflponlioldmaaGreatDoor

namespace Go.Proofs.YtiflponlioldmaaGreatDoor
open Go Go.RowKit Go.Deep

namespace Fx
/-- The exact digits of a double, and their power. -/
noncomputable def X (d : Int) : List Int := xd (Ie.dm d) (Ie.de d)
noncomputable def P (d : Int) : Int := ed (Ie.dm d) (Ie.de d)
/-- What All answers. -/
noncomputable def aS (d : Int) : List Int := if Ie.fnt d = true then X d else []
noncomputable def aE (d : Int) : Int := if Ie.fnt d = true then P d else 0
def aN (d : Int) : Bool := Ie.fnt d && decide (9223372036854775808 ≤ d)
def aR (d : Int) : Int := if Ie.fnt d = true then 0 else 5

theorem X_ex {d : Int} (h : Ie.fnt d = true) : Ex (Ie.dm d) (Ie.de d) (X d) (P d) := ex_is (Ie.fdec d (of_decide_eq_true h)).1
theorem X_digs {d : Int} (h : Ie.fnt d = true) : Digs (X d) ∧ X d ≠ [] := (X_ex h).digs (Ie.fdec d (of_decide_eq_true h)).1
theorem X_zero {d : Int} (h : Ie.fnt d = true) (hz : Ie.dm d = 0) : X d = [48] ∧ P d = 0 := (X_ex h).zero hz
theorem X_room {d : Int} (h : Ie.fnt d = true) : -323 ≤ (X d).length + P d ∧ (X d).length + P d ≤ 309 ∧ -1074 ≤ P d ∧ (X d).length ≤ 1383 ∧ 1 ≤ (X d).length := by
  obtain ⟨m0, m1, e0, e1, _⟩ := Ie.fdec d (of_decide_eq_true h)
  have lo := (X_ex h).lo
  have l1 := List.length_pos_iff.2 (X_digs h).2
  rcases (show Ie.dm d = 0 ∨ 0 < Ie.dm d by omega) with c | c
  · obtain ⟨a, b⟩ := X_zero h c
    rw [a, b] at *
    simp
  · have r := (X_ex h).room c m1 e1
    omega
end Fx

def AllTold (d : Int) (w : World) (e : Ending) (w' : World) : Prop :=
  ∃ s, e = .returned (.tuple #[.agg #[.bool (Fx.aN d), .string s, .int .i64 (Fx.aE d)], .int .i64 (Fx.aR d)]) ∧ Str s (Fx.aS d) ∧ Below w.heap.size w w'

theorem and_sign (d : Int) (h0 : 0 ≤ d) (h1 : d < 18446744073709551616) : (bits .and .u64 d 9223372036854775808 != 0) = decide (9223372036854775808 ≤ d) := by
  rw [Ib.sign_and d h0 h1]
  rcases (show d < 9223372036854775808 ∨ 9223372036854775808 ≤ d by omega) with c | c
  · have e : d / 9223372036854775808 = 0 := by omega
    rw [e]
    simp
    omega
  · have e : d / 9223372036854775808 = 1 := by omega
    rw [e]
    simp [c]

end Go.Proofs.YtiflponlioldmaaGreatDoor

namespace Go.Proofs.YtiflponlioldmaaGreatDoor
open Go Go.RowKit Go.Deep

theorem fnt_abs (d : Int) : decide (d % 9223372036854775808 < 9218868437227405312) = Ie.fnt d := by
  unfold Ie.fnt Ie.cls Ie.fld
  by_cases h : d % 9223372036854775808 < 9218868437227405312
  · rw [decide_eq_true h]
    symm
    rw [decide_eq_true_iff]
    split
    · split <;> omega
    · rw [if_neg (by omega)]; omega
  · rw [decide_eq_false h]
    symm
    rw [decide_eq_false_iff_not]
    rw [if_neg (by omega), if_pos (by omega)]
    split <;> omega

namespace Fx
def top (d : Int) (n : Nat) : Int := Ie.dm d * 10 ^ n * 2 ^ (Ie.de d).toNat
def dn (d : Int) : Nat := (-(Ie.de d)).toNat
end Fx
end Go.Proofs.YtiflponlioldmaaGreatDoor

namespace Go.Proofs.YtiflponlioldmaaGreatDoor
open Go Go.RowKit Go.Deep

namespace Fx
/-- The error. -/
def rf (d n l : Int) : Int := if Ie.fnt d = true then (if n < l ∨ 4200 < n then 1 else 0) else 5
theorem rf_zero {d n l : Int} : rf d n l = 0 ↔ Ie.fnt d = true ∧ l ≤ n ∧ n ≤ 4200 := by
  unfold rf
  by_cases h : Ie.fnt d = true
  · rw [if_pos h]
    by_cases g : n < l ∨ 4200 < n
    · rw [if_pos g]; omega
    · rw [if_neg g]; simp [h]; omega
  · rw [if_neg h]; simp [h]
/-- The whole number of Places, written. -/
noncomputable def W (d : Int) (n : Nat) : List Int := List.replicate (n + 1 - (kp (X d) ((X d).length + P d + n)).length) 48 ++ kp (X d) ((X d).length + P d + n)
noncomputable def pA (d n : Int) : List Int := if rf d n 0 = 0 then (W d n.toNat).take ((W d n.toNat).length - n.toNat) else []
noncomputable def pB (d n : Int) : List Int := if rf d n 0 = 0 then (W d n.toNat).drop ((W d n.toNat).length - n.toNat) else []
/-- What Figures answers. -/
noncomputable def gS (d n : Int) : List Int := if rf d n 1 = 0 then (kp (X d) n).take n.toNat else []
noncomputable def gK (d n : Int) : Int := if rf d n 1 = 0 then (X d).length - 1 + P d + (if n < (kp (X d) n).length then 1 else 0) else 0

theorem W_len (d : Int) (n : Nat) : n + 1 ≤ (W d n).length := by
  unfold W
  rw [List.length_append, List.length_replicate]
  omega
theorem kp_len_le {xs : List Int} {c : Int} {m : Nat} (hc : c ≤ m) (hx : xs.length ≤ m) : (kp xs c).length ≤ m + 1 := by
  unfold kp
  split
  · simp
  · split
    · rw [List.length_append, List.length_replicate]; omega
    · rw [rd_len]; split <;> omega
end Fx

set_option maxRecDepth 100000 in
theorem refused_any (d n l : Int) (w : World) (h0 : 0 ≤ d) (h1 : d < 18446744073709551616) :
    Calls Tryz.prog 239 #[.int .u64 d, .int .i64 n, .int .i64 l] w fun e w' => e = .returned (.int .i64 (Fx.rf d n l)) ∧ w' = w := by
  have FN := hid (fun wx : World => ffinite_any d wx h0 h1)
  have E : Hid (Fx.rf d n l = if Ie.fnt d = true then (if n < l ∨ 4200 < n then 1 else 0) else 5) := rfl
  generalize Ie.fnt d = f at *
  clear h0 h1
  cases f
  · have E2 : Hid (Fx.rf d n l = 5) := E.out
    clear E
    go_enter Tryz.func239, Tryz.ntmps239
    go_wp2_with fail
    refine (FN.out _).mono ?_
    rintro e w' ⟨rfl, rfl⟩
    go_wp2_with fail
    go_ret
    exact ⟨i_retI E2.out.symm, rfl⟩
  · have E2 : Hid (Fx.rf d n l = if n < l ∨ 4200 < n then 1 else 0) := E.out
    clear E
    rcases (show n < l ∨ (l ≤ n ∧ 4200 < n) ∨ (l ≤ n ∧ n ≤ 4200) by omega) with h | ⟨h, h'⟩ | ⟨h, h'⟩
    · have E3 : Hid (Fx.rf d n l = 1) := by rw [Hid, E2.out, if_pos (.inl h)]
      clear E2
      go_enter Tryz.func239, Tryz.ntmps239
      go_wp2_with fail
      refine (FN.out _).mono ?_
      rintro e w' ⟨rfl, rfl⟩
      go_wp2_with fail
      go_ret
      exact ⟨i_retI E3.out.symm, rfl⟩
    · have E3 : Hid (Fx.rf d n l = 1) := by rw [Hid, E2.out, if_pos (.inr h')]
      clear E2
      go_enter Tryz.func239, Tryz.ntmps239
      go_wp2_with fail
      refine (FN.out _).mono ?_
      rintro e w' ⟨rfl, rfl⟩
      go_wp2_with fail
      go_ret
      exact ⟨i_retI E3.out.symm, rfl⟩
    · have E3 : Hid (Fx.rf d n l = 0) := by rw [Hid, E2.out, if_neg (by omega)]
      clear E2
      go_enter Tryz.func239, Tryz.ntmps239
      go_wp2_with fail
      refine (FN.out _).mono ?_
      rintro e w' ⟨rfl, rfl⟩
      go_wp2_with fail
      go_ret
      exact ⟨i_retI E3.out.symm, rfl⟩

def PlacesTold (d n : Int) (w : World) (e : Ending) (w' : World) : Prop :=
  ∃ s t, e = .returned (.tuple #[.string s, .string t, .int .i64 (Fx.rf d n 0)]) ∧ Str s (Fx.pA d n) ∧ Str t (Fx.pB d n) ∧ Below w.heap.size w w'
def FiguresTold (d n : Int) (w : World) (e : Ending) (w' : World) : Prop :=
  ∃ s, e = .returned (.tuple #[.string s, .int .i64 (Fx.gK d n), .int .i64 (Fx.rf d n 1)]) ∧ Str s (Fx.gS d n) ∧ Below w.heap.size w w'

set_option maxRecDepth 100000 in
set_option maxHeartbeats 4000000 in
theorem places_any (d n : Int) (w : World) (hT : Tab w) (h0 : 0 ≤ d) (h1 : d < 18446744073709551616) :
    Calls Tryz.prog 207 #[.int .u64 d, .int .i64 n] w fun e w' => PlacesTold d n w e w' := by
  have RF := hid (refused_any d n 0 w h0 h1)
  by_cases hr : Fx.rf d n 0 = 0
  · obtain ⟨hf, hn0, hn1⟩ := Fx.rf_zero.1 hr
    obtain ⟨k, rfl⟩ := Int.eq_ofNat_of_zero_le hn0
    have EX := exact_any d w hT h0 h1 (of_decide_eq_true hf)
    unfold ExTold at EX
    rw [← Fx.X, ← Fx.P] at EX
    have HE := hid EX
    obtain ⟨r1, r2, r3, r4, r5⟩ := Fx.X_room hf
    have KE : Hid (∀ (wx : World) (s : ByteArray), Str s (Fx.X d) → Calls Tryz.prog 241 #[.string s, .int .i64 ((Fx.X d).length + Fx.P d + k)] wx fun e w' => ∃ s', e = .returned (.string s') ∧ Str s' (Fx.kp (Fx.X d) ((Fx.X d).length + Fx.P d + k)) ∧ Below wx.heap.size wx w') :=
      fun wx s hs => kept_any s _ _ wx hs (Fx.X_digs hf).1 (Fx.X_digs hf).2 (by omega) (by omega)
    have LB : (Fx.kp (Fx.X d) ((Fx.X d).length + Fx.P d + k)).length ≤ 6000 := by
      have := Fx.kp_len_le (xs := Fx.X d) (c := (Fx.X d).length + Fx.P d + k) (m := 5999) (by omega) (by omega)
      omega
    have G : Hid (∀ (w' : World) (a b : ByteArray), Str a (List.replicate (k + 1 - (Fx.kp (Fx.X d) ((Fx.X d).length + Fx.P d + k)).length) 48) → Str b (Fx.kp (Fx.X d) ((Fx.X d).length + Fx.P d + k)) → Below w.heap.size w w' → k ≤ (a ++ b).size ∧ (a ++ b).size ≤ 12000 ∧ PlacesTold d k w (.returned (.tuple #[.string ((a ++ b).extract 0 ((a ++ b).size - k)), .string ((a ++ b).extract ((a ++ b).size - k) (a ++ b).size), .int .i64 0])) w') := by
      intro w' a b ha hb hB
      have hab : Str (a ++ b) (Fx.W d k) := ha.app hb
      have hz := hab.size
      have hwl := Fx.W_len d k
      have e1 := hab.extract 0 ((a ++ b).size - k)
      have e2 := hab.extract ((a ++ b).size - k) (a ++ b).size
      rw [List.drop_zero, Nat.sub_zero] at e1
      rw [List.take_of_length_le (by rw [List.length_drop, hz]; omega)] at e2
      rw [hz] at e1 e2
      refine ⟨by omega, ?_, ⟨_, _, by rw [hr], ?_, ?_, hB⟩⟩
      · rw [hz]
        unfold Fx.W
        rw [List.length_append, List.length_replicate]
        omega
      · rw [Fx.pA, if_pos hr, Int.toNat_natCast, hz]; exact e1
      · rw [Fx.pB, if_pos hr, Int.toNat_natCast, hz]; exact e2
    rw [hr] at RF
    obtain ⟨L, hL⟩ : ∃ L, (Fx.X d).length = L := ⟨_, rfl⟩
    have LS : Hid (∀ s, Str s (Fx.X d) → s.size = L) := fun s hs => by rw [hs.size, hL]
    rw [hL] at KE LB G r1 r2 r4 r5
    generalize Fx.X d = X at *
    generalize Fx.P d = Q at *
    obtain ⟨c, hc⟩ : ∃ c, (L : Int) + Q + k = c := ⟨_, rfl⟩
    rw [hc] at KE LB G
    generalize hkp : Fx.kp X c = V at *
    clear hkp hf hr EX hT h0 h1 hL
    obtain ⟨v, hv⟩ : ∃ v, V.length = v := ⟨_, rfl⟩
    have VS : Hid (∀ s, Str s V → s.size = v) := fun s hs => by rw [hs.size, hv]
    rw [hv] at LB G
    clear hv
    obtain ⟨z, hz⟩ : ∃ z, k + 1 - v = z := ⟨_, rfl⟩
    rw [hz] at G
    have MX : max ((k : Int) + 1 - (v : Int)) 0 = (z : Int) := by omega
    have RE := hid (fun wx : World => frepeat_any z wx (by omega))
    have kb : (k : Int) ≤ 4200 := hn1
    have vb : (v : Int) ≤ 6000 := by omega
    clear hn0 hn1 LB
    go_enter Tryz.func207, Tryz.ntmps207
    go_wp2_with fail
    refine RF.out.mono ?_
    rintro e wz ⟨rfl, hz⟩
    replace hz := hz.symm
    subst hz
    go_wp2_with fail
    refine HE.out.mono ?_
    rintro e w1 ⟨s, rfl, hs, B1⟩
    have hsz := LS.out s hs
    have K1 := hid (KE.out w1 s hs)
    have HB := hid B1
    clear B1 hs KE HE LS RF
    go_wp2_with fail
    refine K1.out.mono ?_
    rintro e w2 ⟨t, rfl, ht, B2⟩
    have htz := VS.out t ht
    have HT2 := hid ht
    have HB2 := hid (HB.out.trans (B2.mono HB.out.size))
    clear B2 ht K1 HB VS
    go_wp2_with fail
    refine (RE.out _).mono ?_
    rintro e w3 ⟨a, rfl, ha, B3⟩
    have haz : a.size = z := by rw [ha.size, List.length_replicate]
    obtain ⟨g1, g2, -⟩ := G.out _ a t ha HT2.out (HB2.out.trans (B3.mono HB2.out.size))
    have HG := hid (fun q : Nat => (G.out _ a t ha HT2.out (below_drewN (HB2.out.trans (B3.mono HB2.out.size)) q)).2.2)
    clear ha B3 G HB2 RE
    go_upto_region 7 with fail
    generalize a ++ t = ab at *
    obtain ⟨N, hN⟩ : ∃ N, ab.size = N := ⟨_, rfl⟩
    rw [hN] at HG g1 g2
    obtain ⟨j, hj⟩ : ∃ j, N - k = j := ⟨_, rfl⟩
    rw [hj] at HG
    have nj : (N : Int) - (k : Int) = (j : Int) := by omega
    have jN : (j : Int) ≤ (N : Int) := by omega
    have nb : (N : Int) ≤ 12000 := by omega
    clear hj hz MX hc
    go_quiet (fail)
    go_wp2_with fail
    go_ret3
    exact HG.out _
  · have F : Hid (PlacesTold d n w (.returned (.tuple #[.string ⟨#[]⟩, .string ⟨#[]⟩, .int .i64 (Fx.rf d n 0)])) w) := ⟨_, _, rfl, by rw [Fx.pA, if_neg hr]; rfl, by rw [Fx.pB, if_neg hr]; rfl, Below.refl _ _⟩
    have hr' : (Fx.rf d n 0 == 0) = false := by rw [beq_eq_false_iff_ne]; exact hr
    have hr2 : (Fx.rf d n 0 != 0) = true := by simp [bne, hr']
    generalize Fx.rf d n 0 = r at *
    clear hr h0 h1 hT
    go_enter Tryz.func207, Tryz.ntmps207
    go_wp2_with fail
    refine RF.out.mono ?_
    rintro e wz ⟨rfl, hz⟩
    replace hz := hz.symm
    subst hz
    go_wp2_with fail
    go_ret3
    exact F.out

set_option maxRecDepth 100000 in
set_option maxHeartbeats 4000000 in
theorem figures_any (d n : Int) (w : World) (hT : Tab w) (h0 : 0 ≤ d) (h1 : d < 18446744073709551616) :
    Calls Tryz.prog 208 #[.int .u64 d, .int .i64 n] w fun e w' => FiguresTold d n w e w' := by
  have RF := hid (refused_any d n 1 w h0 h1)
  by_cases hr : Fx.rf d n 1 = 0
  · obtain ⟨hf, hn0, hn1⟩ := Fx.rf_zero.1 hr
    obtain ⟨k, rfl⟩ := Int.eq_ofNat_of_zero_le (show 0 ≤ n by omega)
    have EX := exact_any d w hT h0 h1 (of_decide_eq_true hf)
    unfold ExTold at EX
    rw [← Fx.X, ← Fx.P] at EX
    have HE := hid EX
    obtain ⟨r1, r2, r3, r4, r5⟩ := Fx.X_room hf
    have KE : Hid (∀ (wx : World) (s : ByteArray), Str s (Fx.X d) → Calls Tryz.prog 241 #[.string s, .int .i64 (k : Int)] wx fun e w' => ∃ s', e = .returned (.string s') ∧ Str s' (Fx.kp (Fx.X d) k) ∧ Below wx.heap.size wx w') :=
      fun wx s hs => kept_any s _ _ wx hs (Fx.X_digs hf).1 (Fx.X_digs hf).2 (by omega) (by omega)
    have LB : (Fx.kp (Fx.X d) k).length ≤ 6000 := by
      have := Fx.kp_len_le (xs := Fx.X d) (c := k) (m := 5999) (by omega) (by omega)
      omega
    have GA : Hid (∀ (w' : World) (b : ByteArray), Str b (Fx.kp (Fx.X d) k) → Below w.heap.size w w' → k < (Fx.kp (Fx.X d) k).length → FiguresTold d k w (.returned (.tuple #[.string (b.extract 0 k), .int .i64 ((Fx.X d).length - 1 + Fx.P d + 1), .int .i64 0])) w') := by
      intro w' b hb hB hl
      have e1 := hb.extract 0 k
      rw [List.drop_zero, Nat.sub_zero] at e1
      refine ⟨_, by rw [Fx.gK, if_pos hr, if_pos (by omega), hr], ?_, hB⟩
      rw [Fx.gS, if_pos hr, Int.toNat_natCast]
      exact e1
    have GB : Hid (∀ (w' : World) (b : ByteArray), Str b (Fx.kp (Fx.X d) k) → Below w.heap.size w w' → ¬ k < (Fx.kp (Fx.X d) k).length → FiguresTold d k w (.returned (.tuple #[.string b, .int .i64 ((Fx.X d).length - 1 + Fx.P d), .int .i64 0])) w') := by
      intro w' b hb hB hl
      refine ⟨_, by rw [Fx.gK, if_pos hr, if_neg (by omega), Int.add_zero, hr], ?_, hB⟩
      rw [Fx.gS, if_pos hr, Int.toNat_natCast, List.take_of_length_le (by omega)]
      exact hb
    rw [hr] at RF
    obtain ⟨L, hL⟩ : ∃ L, (Fx.X d).length = L := ⟨_, rfl⟩
    have LS : Hid (∀ s, Str s (Fx.X d) → s.size = L) := fun s hs => by rw [hs.size, hL]
    rw [hL] at GA GB r1 r2 r4 r5
    generalize Fx.X d = X at *
    generalize Fx.P d = Q at *
    generalize hkp : Fx.kp X k = V at *
    clear hkp hf hr EX hT h0 h1 hL
    obtain ⟨v, hv⟩ : ∃ v, V.length = v := ⟨_, rfl⟩
    have VS : Hid (∀ s, Str s V → s.size = v) := fun s hs => by rw [hs.size, hv]
    rw [hv] at LB GA GB
    clear hv
    have kb : (k : Int) ≤ 4200 := hn1
    have vb : (v : Int) ≤ 6000 := by omega
    have l1 : (1 : Int) ≤ (L : Int) := by omega
    have l2 : (L : Int) ≤ 1383 := by omega
    clear hn0 hn1 LB
    go_enter Tryz.func208, Tryz.ntmps208
    go_wp2_with fail
    refine RF.out.mono ?_
    rintro e wz ⟨rfl, hz⟩
    replace hz := hz.symm
    subst hz
    go_wp2_with fail
    refine HE.out.mono ?_
    rintro e w1 ⟨s, rfl, hs, B1⟩
    have hsz := LS.out s hs
    have K1 := hid (KE.out w1 s hs)
    have HB := hid B1
    clear B1 hs KE HE LS RF
    go_wp2_with fail
    refine K1.out.mono ?_
    rintro e w2 ⟨t, rfl, ht, B2⟩
    have htz := VS.out t ht
    have HB2 := hid (HB.out.trans (B2.mono HB.out.size))
    by_cases hvk : k < v
    · have K := hid (GA.out w2 t ht HB2.out hvk)
      have hvi : (k : Int) < (v : Int) := by omega
      clear B2 ht K1 HB VS GA GB
      go_wp2_with fail
      go_ret3
      exact K.out
    · have K := hid (GB.out w2 t ht HB2.out hvk)
      have hvi : ¬ (k : Int) < (v : Int) := by omega
      clear B2 ht K1 HB VS GA GB
      go_wp2_with fail
      go_ret3
      exact K.out
  · have F : Hid (FiguresTold d n w (.returned (.tuple #[.string ⟨#[]⟩, .int .i64 0, .int .i64 (Fx.rf d n 1)])) w) := ⟨_, by rw [Fx.gK, if_neg hr], by rw [Fx.gS, if_neg hr]; rfl, Below.refl _ _⟩
    have hr' : (Fx.rf d n 1 == 0) = false := by rw [beq_eq_false_iff_ne]; exact hr
    have hr2 : (Fx.rf d n 1 != 0) = true := by simp [bne, hr']
    generalize Fx.rf d n 1 = r at *
    clear hr h0 h1 hT
    go_enter Tryz.func208, Tryz.ntmps208
    go_wp2_with fail
    refine RF.out.mono ?_
    rintro e wz ⟨rfl, hz⟩
    replace hz := hz.symm
    subst hz
    go_wp2_with fail
    go_ret3
    exact F.out
end Go.Proofs.YtiflponlioldmaaGreatDoor

namespace Go.Proofs.YtiflponlioldmaaGreatDoor
open Go Go.RowKit Go.Deep
namespace Fx

/-- Twice the way to the number is below the unit, or just it, and the number is even. -/
def Nr (w A D : Int) : Prop := 2 * (w * D - A) ≤ D ∧ 2 * (A - w * D) ≤ D ∧ ((2 * (w * D - A) = D ∨ 2 * (A - w * D) = D) → w % 2 = 0)

theorem nr_exact {w A D : Int} (h : w * D = A) (hD : 0 < D) : Nr w A D := by
  refine ⟨by omega, by omega, ?_⟩
  rintro (c | c) <;> omega

theorem nr_of {w A D N T : Int} (hT : 0 < T) (hD : 0 < D) (h : N * D = A * T) (h1 : 2 * (w * T - N) ≤ T) (h2 : 2 * (N - w * T) ≤ T) (h3 : (2 * (w * T - N) = T ∨ 2 * (N - w * T) = T) → w % 2 = 0) : Nr w A D := by
  have e1 : (2 * (w * D - A)) * T = (2 * (w * T - N)) * D := by
    rw [Int.mul_assoc, Int.mul_assoc, Int.sub_mul, Int.sub_mul, ← h, Int.mul_right_comm]
  have e2 : (2 * (A - w * D)) * T = (2 * (N - w * T)) * D := by
    rw [Int.mul_assoc, Int.mul_assoc, Int.sub_mul, Int.sub_mul, ← h, Int.mul_right_comm w D T]
  refine ⟨?_, ?_, ?_⟩
  · refine Int.le_of_mul_le_mul_right ?_ hT
    rw [e1, Int.mul_comm D T]
    exact Int.mul_le_mul_of_nonneg_right h1 (Int.le_of_lt hD)
  · refine Int.le_of_mul_le_mul_right ?_ hT
    rw [e2, Int.mul_comm D T]
    exact Int.mul_le_mul_of_nonneg_right h2 (Int.le_of_lt hD)
  · intro c
    apply h3
    rcases c with c | c
    · left
      rw [c, Int.mul_comm] at e1
      exact (Int.eq_of_mul_eq_mul_right (by omega) e1).symm
    · right
      rw [c, Int.mul_comm] at e2
      exact (Int.eq_of_mul_eq_mul_right (by omega) e2).symm

/-- The first digits, rounded, as numbers. -/
theorem rn_near {xs : List Int} (hd : Digs xs) (k : Nat) :
    2 * (rn xs k * 10 ^ (xs.length - k) - dv xs) ≤ 10 ^ (xs.length - k) ∧ 2 * (dv xs - rn xs k * 10 ^ (xs.length - k)) ≤ 10 ^ (xs.length - k) ∧
    ((2 * (rn xs k * 10 ^ (xs.length - k) - dv xs) = 10 ^ (xs.length - k) ∨ 2 * (dv xs - rn xs k * 10 ^ (xs.length - k)) = 10 ^ (xs.length - k)) → rn xs k % 2 = 0) := by
  have e : dv xs = dv (xs.take k) * 10 ^ (xs.length - k) + dv (xs.drop k) := by
    conv => lhs; rw [← List.take_append_drop k xs, dv_append, List.length_drop]
  have b := dv_bd (ds := xs.drop k) (fun d h => hd d (List.mem_of_mem_drop h))
  rw [List.length_drop] at b
  unfold rn up
  generalize dv (xs.take k) = K at *
  generalize dv (xs.drop k) = R at *
  generalize (10 : Int) ^ (xs.length - k) = T at *
  by_cases c : T < 2 * R ∨ 2 * R = T ∧ K % 2 = 1
  · rw [decide_eq_true c, if_pos rfl, Int.add_mul, Int.one_mul, e]
    refine ⟨by omega, by omega, ?_⟩
    intro h
    rcases c with c | c <;> omega
  · rw [decide_eq_false c, if_neg Bool.false_ne_true, Int.add_zero, e]
    refine ⟨by omega, by omega, ?_⟩
    intro h
    omega

theorem W_digs {d : Int} (hf : Ie.fnt d = true) (n : Nat) : Digs (W d n) := by
  have hx := (X_digs hf).1
  intro x h
  rcases List.mem_append.1 h with h | h
  · have := List.eq_of_mem_replicate h; omega
  · unfold kp at h
    split at h
    · cases h
    · split at h
      · rcases List.mem_append.1 h with h | h
        · exact hx x h
        · have := List.eq_of_mem_replicate h; omega
      · exact rd_digs _ _ x h
theorem dv_W (d : Int) (n : Nat) : dv (W d n) = dv (kp (X d) ((X d).length + P d + n)) := by
  unfold W
  rw [dv_append, dv_zeros, Int.zero_mul, Int.zero_add]

/-- All powers of the double's value in one row. -/
theorem ex_pow {m e : Int} {xs : List Int} {E : Int} (hm : 0 < m) (he : -1074 ≤ e) (h : Ex m e xs E) : dv xs * 10 ^ (E + 1074).toNat * 2 ^ (-e).toNat = m * 2 ^ e.toNat * 10 ^ 1074 := by
  rw [h.eq hm, F5]
  have e1 : (e + 1074).toNat + (-e).toNat = e.toNat + 1074 := by omega
  have e2 : (2 : Int) ^ (e + 1074).toNat * 2 ^ (-e).toNat = 2 ^ e.toNat * 2 ^ 1074 := by rw [← Int.pow_add, ← Int.pow_add, e1]
  generalize 1074 = z at *
  rw [show (10 : Int) = 2 * 5 from rfl, Int.mul_pow]
  generalize (2 : Int) ^ (e + 1074).toNat = x1 at *
  generalize (2 : Int) ^ (-e).toNat = x2 at *
  generalize (2 : Int) ^ e.toNat = x3 at *
  generalize (2 : Int) ^ z = x4 at *
  generalize (5 : Int) ^ z = x5 at *
  rw [show m * x1 * x5 * x2 = m * (x1 * x2) * x5 by ac_rfl, e2]
  ac_rfl

theorem near_W {d : Int} (hf : Ie.fnt d = true) (n : Nat) : Nr (dv (W d n)) (top d n) (2 ^ dn d) := by
  obtain ⟨m0, m1, e0, e1, _⟩ := Ie.fdec d (of_decide_eq_true hf)
  have hD : (0 : Int) < 2 ^ dn d := Int.pow_pos (by omega)
  obtain ⟨r1, r2, r3, r4, r5⟩ := X_room hf
  rw [dv_W]
  have hx := (X_digs hf).1
  rcases (show Ie.dm d = 0 ∨ 0 < Ie.dm d by omega) with hz | hz
  · obtain ⟨a, b⟩ := X_zero hf hz
    rw [a, b]
    apply nr_exact _ hD
    have e : kp [48] (([48] : List Int).length + 0 + n) = 48 :: List.replicate n 48 := by
      have := kp_full (xs := [48]) (c := n + 1) (by simp)
      rw [show (([48] : List Int).length : Int) + 0 + n = ((n + 1 : Nat) : Int) by simp; omega, this]
      simp
    rw [e, show 48 :: List.replicate n 48 = List.replicate (n + 1) (48 : Int) from rfl, dv_zeros, top, hz]
    simp
  · have q := ex_pow hz e0 (X_ex hf)
    obtain ⟨a, ha⟩ : ∃ a : Nat, (P d + 1074).toNat = a := ⟨_, rfl⟩
    rw [ha] at q
    have q2 : dv (X d) * 10 ^ a * 2 ^ dn d * 10 ^ n = top d n * 10 ^ 1074 := by
      rw [dn, q, top]
      generalize (10 : Int) ^ 1074 = z
      ac_rfl
    rcases (show 0 ≤ P d + n ∨ P d + n < 0 by omega) with c | c
    · obtain ⟨j, hj⟩ : ∃ j : Nat, P d + n = (j : Int) := ⟨(P d + n).toNat, by omega⟩
      have e : (X d).length + P d + n = (((X d).length + j : Nat) : Int) := by omega
      rw [e, kp_full (by omega), Nat.add_sub_cancel_left, dv_append, dv_zeros, List.length_replicate, Int.add_zero]
      apply nr_exact _ hD
      have e2 : a + n = j + 1074 := by omega
      have e3 : (10 : Int) ^ a * 10 ^ n = 10 ^ j * 10 ^ 1074 := by rw [← Int.pow_add, ← Int.pow_add, e2]
      refine Int.eq_of_mul_eq_mul_right (a := 10 ^ 1074) (by have := p_pos 1074; omega) ?_
      rw [← q2]
      generalize (10 : Int) ^ 1074 = z at *
      rw [show dv (X d) * 10 ^ j * 2 ^ dn d * z = dv (X d) * 2 ^ dn d * (10 ^ j * z) by ac_rfl, ← e3]
      ac_rfl
    · obtain ⟨r, hr⟩ : ∃ r : Nat, -(P d + n) = (r : Int) := ⟨(-(P d + n)).toNat, by omega⟩
      have hN : dv (X d) * 2 ^ dn d = top d n * 10 ^ r := by
        have e2 : a + n + r = 1074 := by omega
        have e3 : (10 : Int) ^ (a + n) * 10 ^ r = 10 ^ 1074 := by rw [← Int.pow_add, e2]
        refine Int.eq_of_mul_eq_mul_right (a := 10 ^ (a + n)) (by have := p_pos (a + n); omega) ?_
        rw [Int.mul_assoc (top d n), Int.mul_comm (10 ^ r), e3, ← q2, Int.pow_add]
        ac_rfl
      rcases (show 0 ≤ (X d).length + P d + n ∨ (X d).length + P d + n < 0 by omega) with g | g
      · obtain ⟨k, hk⟩ : ∃ k : Nat, (X d).length + P d + n = (k : Int) := ⟨((X d).length + P d + n).toNat, by omega⟩
        have hkl : k < (X d).length := by omega
        rw [hk, kp_cut hkl, rd_dv hx (by omega)]
        have := rn_near hx k
        rw [show (X d).length - k = r by omega] at this
        exact nr_of (p_pos r) hD hN this.1 this.2.1 this.2.2
      · rw [kp_neg g]
        have b := (dv_bd hx).2
        have b0 := (dv_bd hx).1
        have l : (10 : Int) ^ ((X d).length + 1) ≤ 10 ^ r := p_le (by omega)
        rw [Int.pow_succ] at l
        have pp := p_pos (X d).length
        have z : dv [] = 0 := rfl
        rw [z]
        refine nr_of (N := dv (X d)) (p_pos r) hD hN ?_ ?_ ?_ <;> (generalize (10 : Int) ^ (X d).length = x1 at *; generalize (10 : Int) ^ r = x2 at *; omega)

theorem dv_W_room {d : Int} (hf : Ie.fnt d = true) {n : Nat} (hn : n ≤ 4200) : (W d n).length ≤ 6000 := by
  obtain ⟨r1, r2, r3, r4, r5⟩ := X_room hf
  have := kp_len_le (xs := X d) (c := (X d).length + P d + n) (m := 5000) (by omega) (by omega)
  unfold W
  rw [List.length_append, List.length_replicate]
  omega
end Fx
end Go.Proofs.YtiflponlioldmaaGreatDoor

namespace Go.Proofs.YtiflponlioldmaaGreatDoor
open Go Go.RowKit Go.Deep
namespace Fx

theorem X_of {d : Int} {xs : List Int} {E : Int} (m0 : 0 ≤ Ie.dm d) (h : Ex (Ie.dm d) (Ie.de d) xs E) : X d = xs ∧ P d = E := by
  obtain ⟨a, b⟩ := h.is m0
  exact ⟨a.symm, b.symm⟩

theorem dig_c {T : Int} {xs : List Int} (hd : Digs xs) (hv : dv xs = T) (hh : xs.getD 0 0 ≠ 48) (hn : xs ≠ []) (hl : xs.length ≤ 3000) : ∃ s, DigT T s xs := by
  refine ⟨⟨(xs.map (fun x => UInt8.ofNat x.toNat)).toArray⟩, ?_, hd, hv, hh, hn, hl⟩
  unfold Str
  simp only [List.map_map]
  conv => rhs; rw [← List.map_id xs]
  apply List.map_congr_left
  intro x hx
  have := hd x hx
  simp
  omega

theorem c125 : X 4593671619917905920 = [49, 50, 53] ∧ P 4593671619917905920 = -3 := by
  obtain ⟨s, D⟩ := dig_c (T := 1 * 5 ^ 3) (xs := [49, 50, 53]) (fun d h => by simp at h; omega) (by decide) (by decide) (by decide) (by decide)
  have m : Ie.dm 4593671619917905920 = 4503599627370496 := by decide
  have e : Ie.de 4593671619917905920 = -55 := by decide
  refine X_of (by rw [m]; omega) ?_
  rw [m, e]
  exact ex_odd (t := 52) (q := 1) (n := 3) (by decide) (by omega) (by decide) (by omega) (by decide) D

theorem c995 : X 4636702106982547456 = [57, 57, 53] ∧ P 4636702106982547456 = -1 := by
  obtain ⟨s, D⟩ := dig_c (T := 199 * 5 ^ 1) (xs := [57, 57, 53]) (fun d h => by simp at h; omega) (by decide) (by decide) (by decide) (by decide)
  have m : Ie.dm 4636702106982547456 = 7001690045677568 := by decide
  have e : Ie.de 4636702106982547456 = -46 := by decide
  refine X_of (by rw [m]; omega) ?_
  rw [m, e]
  exact ex_odd (t := 45) (q := 199) (n := 1) (by decide) (by omega) (by decide) (by omega) (by decide) D

theorem c9995 : X 4652002910794678272 = [57, 57, 57, 53] ∧ P 4652002910794678272 = -1 := by
  obtain ⟨s, D⟩ := dig_c (T := 1999 * 5 ^ 1) (xs := [57, 57, 57, 53]) (fun d h => by simp at h; omega) (by decide) (by decide) (by decide) (by decide)
  have m : Ie.dm 4652002910794678272 = 8791694975696896 := by decide
  have e : Ie.de 4652002910794678272 = -43 := by decide
  refine X_of (by rw [m]; omega) ?_
  rw [m, e]
  exact ex_odd (t := 42) (q := 1999) (n := 1) (by decide) (by omega) (by decide) (by omega) (by decide) D

theorem c85 : X 4620974692658839552 = [56, 53] ∧ P 4620974692658839552 = -1 := by
  obtain ⟨s, D⟩ := dig_c (T := 17 * 5 ^ 1) (xs := [56, 53]) (fun d h => by simp at h; omega) (by decide) (by decide) (by decide) (by decide)
  have m : Ie.dm 4620974692658839552 = 4785074604081152 := by decide
  have e : Ie.de 4620974692658839552 = -49 := by decide
  refine X_of (by rw [m]; omega) ?_
  rw [m, e]
  exact ex_odd (t := 48) (q := 17) (n := 1) (by decide) (by omega) (by decide) (by omega) (by decide) D

theorem c1200 : X 13876364508114452480 = [49, 50] ∧ P 13876364508114452480 = 2 := by
  obtain ⟨s, D⟩ := dig_c (T := 75 * 2 ^ 4) (xs := [49, 50, 48, 48]) (fun d h => by simp at h; omega) (by decide) (by decide) (by decide) (by decide)
  have m : Ie.dm 13876364508114452480 = 5277655813324800 := by decide
  have e : Ie.de 13876364508114452480 = -42 := by decide
  refine X_of (by rw [m]; omega) ?_
  rw [m, e]
  exact ex_whole (t := 46) (q := 75) (n := 4) (k := 2) (xs := [49, 50, 48, 48]) (by decide) (by omega) (by omega) (by decide) D (by decide) (fun i h1 h2 => by
    match i, h1, h2 with
    | 2, _, _ => rfl
    | 3, _, _ => rfl
    | i + 4, _, h2 => simp at h2; omega) (fun _ => by decide)
end Fx
end Go.Proofs.YtiflponlioldmaaGreatDoor

namespace Go.Proofs.YtiflponlioldmaaGreatDoor
open Go Go.RowKit Go.Deep
namespace Fx

theorem fnt125 : Ie.fnt 4593671619917905920 = true := by decide
theorem pl125 : rf 4593671619917905920 2 0 = 0 ∧ pA 4593671619917905920 2 = [48] ∧ pB 4593671619917905920 2 = [49, 50] := by
  have r : rf 4593671619917905920 2 0 = 0 := by decide
  have w : W 4593671619917905920 2 = [48, 49, 50] := by
    unfold W
    rw [c125.1, c125.2]
    decide
  refine ⟨r, ?_, ?_⟩
  · rw [pA, if_pos r, show (2 : Int).toNat = 2 from rfl, w]
    decide
  · rw [pB, if_pos r, show (2 : Int).toNat = 2 from rfl, w]
    decide

theorem head_of_low {ds : List Int} {n : Nat} (h : Digs ds) (hn : ds.length = n + 1) (hl : 10 ^ n ≤ dv ds) : ds.getD 0 0 ≠ 48 := by
  match ds, hn with
  | x :: ys, hn =>
    intro c
    simp at c
    subst c
    have b := (dv_bd (ds := ys) (fun d hd => h d (by simp [hd]))).2
    have e : ys.length = n := by simpa using hn
    rw [dv_cons, e] at hl
    rw [e] at b
    omega

/-- The rounded digits begin with a digit that is no zero. -/
theorem rd_head {xs : List Int} (h : Nml xs) {k : Nat} (hk0 : 0 < k) (hk : k ≤ xs.length) : (rd xs k).getD 0 0 ≠ 48 := by
  obtain ⟨j, rfl⟩ : ∃ j, k = j + 1 := ⟨k - 1, by omega⟩
  have dk : Digs (xs.take (j + 1)) := fun d g => h.digs d (List.mem_of_mem_take g)
  have lk : (xs.take (j + 1)).length = j + 1 := by rw [List.length_take]; omega
  have low := head_low dk lk (by have := h.head; simpa [List.getD] using this)
  have b := rn_bd h.digs hk
  have v := rd_dv h.digs hk
  have l := rd_len xs (j + 1)
  have rl : 10 ^ j ≤ rn xs (j + 1) := by unfold rn; split <;> omega
  by_cases c : rn xs (j + 1) = 10 ^ (j + 1)
  · rw [if_pos c] at l
    exact head_of_low (rd_digs _ _) l (by omega)
  · rw [if_neg c] at l
    exact head_of_low (rd_digs _ _) l (by omega)

theorem W_head {d : Int} (hf : Ie.fnt d = true) (n : Nat) (h : n + 1 < (W d n).length) : (W d n).getD 0 0 ≠ 48 := by
  obtain ⟨m0, m1, e0, e1, _⟩ := Ie.fdec d (of_decide_eq_true hf)
  have hl : (W d n).length = (n + 1 - (kp (X d) ((X d).length + P d + n)).length) + (kp (X d) ((X d).length + P d + n)).length := by
    unfold W
    rw [List.length_append, List.length_replicate]
  have hk : n + 1 < (kp (X d) ((X d).length + P d + n)).length := by omega
  have e : W d n = kp (X d) ((X d).length + P d + n) := by
    unfold W
    rw [show n + 1 - (kp (X d) ((X d).length + P d + n)).length = 0 by omega]
    rfl
  rw [e]
  rcases (show Ie.dm d = 0 ∨ 0 < Ie.dm d by omega) with hz | hz
  · obtain ⟨a, b⟩ := X_zero hf hz
    rw [a, b] at hk
    have e : kp [48] (([48] : List Int).length + 0 + n) = 48 :: List.replicate n 48 := by
      have := kp_full (xs := [48]) (c := n + 1) (by simp)
      rw [show (([48] : List Int).length : Int) + 0 + n = ((n + 1 : Nat) : Int) by simp; omega, this]
      simp
    rw [e] at hk
    simp at hk
  · have nm := (X_ex hf).nml hz
    generalize (X d).length + P d + n = c at *
    rcases (show c < 0 ∨ 0 ≤ c by omega) with g | g
    · rw [kp_neg g] at hk
      simp at hk
    · obtain ⟨k, rfl⟩ := Int.eq_ofNat_of_zero_le g
      rcases Nat.lt_or_ge k (X d).length with g | g
      · rw [kp_cut g] at hk ⊢
        apply rd_head nm _ (by omega)
        rw [rd_len] at hk
        split at hk <;> omega
      · rw [kp_full g]
        have := nm.head
        obtain ⟨j, hj⟩ := nm.len
        match hx : X d, hj with
        | x :: ys, _ => rw [hx] at this; simpa using this

theorem pA_facts {d : Int} {n : Nat} (hf : Ie.fnt d = true) (hn : n ≤ 4200) :
    pA d n ++ pB d n = W d n ∧ (pB d n).length = n ∧ pA d n ≠ [] ∧ Digs (pA d n) ∧ Digs (pB d n) ∧ (pA d n).length ≤ 6000 ∧ (1 < (pA d n).length → (pA d n).getD 0 0 ≠ 48) := by
  have r : rf d n 0 = 0 := rf_zero.2 ⟨hf, by omega, by omega⟩
  have wl := W_len d n
  have wr := dv_W_room hf hn
  have wd := W_digs hf n
  have wh := W_head hf n
  unfold pA pB
  rw [if_pos r, if_pos r, Int.toNat_natCast]
  refine ⟨List.take_append_drop _ _, ?_, ?_, fun x h => wd x (List.mem_of_mem_take h), fun x h => wd x (List.mem_of_mem_drop h), ?_, ?_⟩
  · rw [List.length_drop]; omega
  · intro c
    have := congrArg List.length c
    rw [List.length_take, List.length_nil] at this
    omega
  · rw [List.length_take]; omega
  · intro c
    rw [List.length_take] at c
    rw [Nm.getD_take, if_pos (by omega)]
    exact wh (by omega)
end Fx
end Go.Proofs.YtiflponlioldmaaGreatDoor

namespace Go.Proofs.YtiflponlioldmaaGreatDoor
open Go Go.RowKit Go.Deep
namespace Fx

theorem rn_carry {xs : List Int} (hd : Digs xs) {k : Nat} (hk : k < xs.length) (h : rn xs (k + 1) = 10 ^ (k + 1)) : rn xs k = 10 ^ k := by
  have dk : Digs (xs.take (k + 1)) := fun d g => hd d (List.mem_of_mem_take g)
  have lk : (xs.take (k + 1)).length = k + 1 := by rw [List.length_take]; omega
  have b := dv_bd dk
  rw [lk] at b
  have T : dv (xs.take (k + 1)) = 10 ^ (k + 1) - 1 := by unfold rn at h; split at h <;> omega
  have e1 := take_last lk
  have x1 := digs_getD dk (show k < (xs.take (k + 1)).length by omega)
  rw [List.take_take, show min k (k + 1) = k by omega] at e1
  generalize hx : (xs.take (k + 1)).getD k 0 = x at *
  rw [e1, dv_snoc] at T
  have b2 := dv_bd (ds := xs.take k) (fun d g => hd d (List.mem_of_mem_take g))
  rw [List.length_take, Nat.min_eq_left (by omega)] at b2
  rw [Int.pow_succ] at T
  have T1 : dv (xs.take k) = 10 ^ k - 1 := by omega
  have T2 : x = 57 := by omega
  have e2 : xs.drop k = 57 :: xs.drop (k + 1) := by
    rw [List.drop_eq_getElem_cons hk]
    congr 1
    rw [Nm.getD_take, if_pos (by omega)] at hx
    rw [← T2, ← hx]
    simp [List.getD, hk]
  have u : up xs k = true := by
    unfold up
    rw [decide_eq_true_iff]
    left
    rw [e2, dv_cons, List.length_drop, show xs.length - k = (xs.length - (k + 1)) + 1 by omega, Int.pow_succ]
    have := (dv_bd (ds := xs.drop (k + 1)) (fun d g => hd d (List.mem_of_mem_drop g))).1
    have := p_pos (xs.length - (k + 1))
    omega
  unfold rn
  rw [u, if_pos rfl, T1]
  omega

theorem tx_ten (k : Nat) : tx (k + 1) (10 ^ k) = 49 :: List.replicate k 48 := by
  have l : (49 :: List.replicate k (48 : Int)).length = k + 1 := by simp
  have d : Digs (49 :: List.replicate k (48 : Int)) := by
    intro x h
    rcases List.mem_cons.1 h with rfl | h
    · omega
    · have := List.eq_of_mem_replicate h; omega
  have v : dv (49 :: List.replicate k (48 : Int)) = 10 ^ k := by
    rw [dv_cons, dv_zeros, List.length_replicate]
    omega
  have := eq_tx d
  rw [l, v] at this
  exact this.symm

/-- What Figures tells of a double that is not 0. -/
theorem fig_facts {d : Int} {k : Nat} (hf : Ie.fnt d = true) (hm : 0 < Ie.dm d) (h1 : 1 ≤ k) (h2 : k ≤ 4200) :
    (gS d k).length = k ∧ Digs (gS d k) ∧ (gS d k).getD 0 0 ≠ 48 ∧ -324 ≤ gK d k ∧ gK d k ≤ 308 ∧
    (∀ q : Nat, (q : Int) = k - 1 - gK d k → ∃ z, W d q = List.replicate z 48 ++ gS d k) := by
  have r : rf d k 1 = 0 := rf_zero.2 ⟨hf, by omega, by omega⟩
  obtain ⟨m0, m1, e0, e1, _⟩ := Ie.fdec d (of_decide_eq_true hf)
  have ex := X_ex hf
  have nm := ex.nml hm
  obtain ⟨r1, r2, r3⟩ := ex.room hm m1 e1
  obtain ⟨-, -, p3, p4, p5⟩ := X_room hf
  have rX : (X d).length + P d ≤ 309 := r2
  unfold gS gK
  rw [if_pos r, if_pos r, Int.toNat_natCast]
  rcases Nat.lt_or_ge k (X d).length with g | g
  · rw [kp_cut g]
    have hl := rd_len (X d) k
    have hh := rd_head nm (show 0 < k by omega) (show k ≤ (X d).length by omega)
    have dd := rd_digs (X d) k
    obtain ⟨j, rfl⟩ : ∃ j, k = j + 1 := ⟨k - 1, by omega⟩
    by_cases c : rn (X d) (j + 1) = 10 ^ (j + 1)
    · rw [if_pos c] at hl
      have rdv : rd (X d) (j + 1) = 49 :: List.replicate (j + 1) 48 := by unfold rd; rw [c, if_pos rfl, tx_ten]
      have lt308 : (X d).length + P d ≠ 309 := by
        intro hE
        have b := r3 hE
        have dk : Digs ((X d).take (j + 1)) := fun x g => nm.digs x (List.mem_of_mem_take g)
        have lk : ((X d).take (j + 1)).length = j + 1 := by rw [List.length_take]; omega
        have T : 10 ^ (j + 1) - 1 ≤ dv ((X d).take (j + 1)) := by unfold rn at c; split at c <;> omega
        have e : dv (X d) = dv ((X d).take (j + 1)) * 10 ^ ((X d).length - (j + 1)) + dv ((X d).drop (j + 1)) := by
          conv => lhs; rw [← List.take_append_drop (j + 1) (X d), dv_append, List.length_drop]
        have b2 := (dv_bd (ds := (X d).drop (j + 1)) (fun x g => nm.digs x (List.mem_of_mem_drop g))).1
        have pz := p_pos ((X d).length - (j + 1))
        have f1 : (10 ^ (j + 1) - 1) * 10 ^ ((X d).length - (j + 1)) ≤ dv ((X d).take (j + 1)) * 10 ^ ((X d).length - (j + 1)) := Int.mul_le_mul_of_nonneg_right T (Int.le_of_lt pz)
        have f2 : (X d).length - 1 = j + ((X d).length - (j + 1)) := by omega
        rw [f2, Int.pow_add] at b
        have f3 : ((9 : Int) * 10 ^ j) * 10 ^ ((X d).length - (j + 1)) ≤ (10 ^ (j + 1) - 1) * 10 ^ ((X d).length - (j + 1)) := by
          refine Int.mul_le_mul_of_nonneg_right ?_ (Int.le_of_lt pz)
          rw [Int.pow_succ]
          have := p_pos j
          omega
        have f4 : 0 < 10 ^ j * (10 : Int) ^ ((X d).length - (j + 1)) := Int.mul_pos (p_pos j) pz
        rw [Int.mul_assoc] at f3
        generalize 10 ^ j * (10 : Int) ^ ((X d).length - (j + 1)) = y at *
        omega
      rw [if_pos (by rw [hl]; omega), rdv]
      have tk : (49 :: List.replicate (j + 1) (48 : Int)).take (j + 1) = 49 :: List.replicate j 48 := by
        rw [List.take_succ_cons, List.take_replicate, Nat.min_eq_left (by omega)]
      rw [tk]
      refine ⟨by simp, ?_, by simp, by omega, by omega, ?_⟩
      · intro x h
        rcases List.mem_cons.1 h with rfl | h
        · omega
        · have := List.eq_of_mem_replicate h; omega
      · intro q hq
        refine ⟨q + 1 - (j + 1), ?_⟩
        have cq : ((X d).length : Int) + P d + q = (j : Int) := by omega
        unfold W
        rw [cq, kp_cut (by omega)]
        have rj := rn_carry nm.digs (show j < (X d).length by omega) c
        have rdj : rd (X d) j = 49 :: List.replicate j 48 := by unfold rd; rw [rj, if_pos rfl, tx_ten]
        rw [rdj]
        simp
    · rw [if_neg c] at hl
      rw [if_neg (by rw [hl]; omega), List.take_of_length_le (by omega)]
      refine ⟨hl, dd, hh, by omega, by omega, ?_⟩
      intro q hq
      refine ⟨q + 1 - (j + 1), ?_⟩
      have cq : ((X d).length : Int) + P d + q = ((j + 1 : Nat) : Int) := by omega
      unfold W
      rw [cq, kp_cut g, hl]
  · rw [kp_full g]
    have hl : (X d ++ List.replicate (k - (X d).length) 48).length = k := by rw [List.length_append, List.length_replicate]; omega
    rw [if_neg (by rw [hl]; omega), List.take_of_length_le (by omega)]
    refine ⟨hl, ?_, ?_, by omega, by omega, ?_⟩
    · intro x h
      rcases List.mem_append.1 h with h | h
      · exact nm.digs x h
      · have := List.eq_of_mem_replicate h; omega
    · have := nm.head
      obtain ⟨j, hj⟩ := nm.len
      match hx : X d, hj with
      | x :: ys, _ => rw [hx] at this; simpa using this
    · intro q hq
      refine ⟨q + 1 - k, ?_⟩
      have cq : ((X d).length : Int) + P d + q = (k : Int) := by omega
      unfold W
      rw [cq, kp_full g, hl]

theorem fig_zero {d : Int} {k : Nat} (hf : Ie.fnt d = true) (hm : Ie.dm d = 0) (h1 : 1 ≤ k) (h2 : k ≤ 4200) : gS d k = List.replicate k 48 ∧ gK d k = 0 := by
  have r : rf d k 1 = 0 := rf_zero.2 ⟨hf, by omega, by omega⟩
  obtain ⟨a, b⟩ := X_zero hf hm
  have e : kp [48] (k : Int) = List.replicate k 48 := by
    rw [kp_full (by simp; omega)]
    obtain ⟨j, rfl⟩ : ∃ j, k = j + 1 := ⟨k - 1, by omega⟩
    rw [List.replicate_succ]
    simp
  unfold gS gK
  rw [if_pos r, if_pos r, a, b, e, Int.toNat_natCast]
  simp

theorem fnt9995 : Ie.fnt 4652002910794678272 = true := by decide
theorem fg9995 : rf 4652002910794678272 3 1 = 0 ∧ gS 4652002910794678272 3 = [49, 48, 48] ∧ gK 4652002910794678272 3 = 3 := by
  have r : rf 4652002910794678272 3 1 = 0 := by decide
  refine ⟨r, ?_, ?_⟩
  · rw [gS, if_pos r, c9995.1]
    decide
  · rw [gK, if_pos r, c9995.1, c9995.2]
    decide
end Fx
end Go.Proofs.YtiflponlioldmaaGreatDoor

namespace Go.Proofs.YtiflponlioldmaaGreatDoor
open Go Go.RowKit Go.Deep
namespace Fx

theorem rd_keep {xs : List Int} {k : Nat} (hd : Digs xs) (hk : k ≤ xs.length) (h : up xs k = false) : rd xs k = xs.take k := by
  have dk : Digs (xs.take k) := fun d g => hd d (List.mem_of_mem_take g)
  have b := dv_bd dk
  have lk : (xs.take k).length = k := by rw [List.length_take]; omega
  rw [lk] at b
  have r : rn xs k = dv (xs.take k) := by unfold rn; rw [h]; simp
  exact (rd_of dk r.symm (by rw [if_neg (by omega), lk])).symm
theorem rd_more {xs ds : List Int} {k : Nat} {c : Bool} (hd : Digs xs) (hk : k ≤ xs.length) (h : UpIs (xs.take k) (xs.drop k) false true) (R : Raised (xs.take k) ds c) : (if c = true then 49 :: ds else ds) = rd xs k := by
  have lk : (xs.take k).length = k := by rw [List.length_take]; omega
  obtain ⟨r1, r2, r3⟩ := R
  rw [lk] at r2 r3
  exact rd_round hd hk ⟨r1, r2, true, h, by rw [if_pos (rfl : true = true)]; exact r3⟩
theorem up_full (xs : List Int) : up xs xs.length = false := by
  unfold up
  rw [decide_eq_false_iff_not]
  rw [Nat.sub_self, List.drop_length, show dv [] = 0 from rfl]
  simp
theorem rd_self {xs : List Int} (hd : Digs xs) : rd xs xs.length = xs := by
  rw [rd_keep hd (Nat.le_refl _) (up_full xs), List.take_length]
theorem up_of {xs : List Int} {k : Nat} {u : Bool} (h : UpIs (xs.take k) (xs.drop k) false u) : up xs k = u := (up_is h).symm
end Fx

theorem own_str {g k cap : Nat} {W : World} {fs : List Int} (o : OwnF W g fs) (hl : k ≤ fs.length) (hd : Digs (fs.take k)) :
    ∃ s, Str s (fs.take k) ∧ (convert 70 9 (.slice (some ⟨g, 0, none⟩) k cap)).run Tryz.prog W = .ok (.string s) W := by
  have hlen : (fs.take k).length = k := by simp; omega
  refine ⟨strOfNums (fs.take k), Str.of_nums (fun x hx => by have := hd x hx; omega), run_convert_bytes_arg (P := Tryz.prog) W 70 5 Tryz.underlying70 Tryz.underlying5 g 0 k cap (fs.take k) hlen (fun i hi => ?_) 9 Tryz.underlying9⟩
  rw [Nat.zero_add, o.cell i (by omega)]
  simp [List.getD, hi]

theorem Str.ne' {s : ByteArray} {xs : List Int} (h : Str s xs) (hx : xs ≠ []) : (s.toList == []) = false ∧ s.toList.isEmpty = false := by
  have e1 : s.toList ≠ [] := by
    intro c
    apply hx
    rw [ByteArray.toList_eq] at c
    rw [← h, c]
    rfl
  exact ⟨by rw [beq_eq_false_iff_ne]; exact e1, by rw [List.isEmpty_eq_false_iff]; exact e1⟩

/-- []byte(s): the block, its cells, and the run. -/
theorem bytes_made {s : ByteArray} {xs : List Int} (hs : Str s xs) (w : World) :
    ∃ (cap : Nat) (es : List Int) (w1 : World), (convert 9 70 (.string s)).run Tryz.prog w = .ok (.slice (some ⟨w.heap.size, 0, none⟩) s.size cap) w1 ∧ OwnF w1 w.heap.size es ∧ es.take xs.length = xs ∧ xs.length ≤ es.length ∧ Below w.heap.size w w1 := by
  have CV := run_bytes_of_string (P := Tryz.prog) w 9 70 5 s Tryz.underlying9 Tryz.underlying70 Tryz.underlying5
  obtain ⟨cap, hcap⟩ : ∃ cap, grownCap w s.size 0 5 = cap := ⟨_, rfl⟩
  rw [hcap] at CV
  refine ⟨cap, xs ++ List.replicate (cap - xs.length) 0, _, CV, bytes_own hs w cap, ?_, by simp, (below_drewN (Below.refl _ _) 1).alloc (Nat.le_refl _) _⟩
  rw [List.take_append_of_le_length (by omega), List.take_length]
end Go.Proofs.YtiflponlioldmaaGreatDoor

namespace Go.Proofs.YtiflponlioldmaaGreatDoor
open Go Go.RowKit Go.Deep
namespace Fx

theorem digs_z {xs : List Int} (hd : Digs xs) (z : Nat) : Digs (xs ++ List.replicate z 48) := by
  intro x h
  rcases List.mem_append.1 h with h | h
  · exact hd x h
  · have := List.eq_of_mem_replicate h; omega

theorem rd_z {xs : List Int} (hd : Digs xs) {z k : Nat} (hk : k ≤ xs.length + z) : rd (xs ++ List.replicate z 48) k = kp xs (k : Int) := by
  have dz := digs_z hd z
  have lz : (xs ++ List.replicate z (48 : Int)).length = xs.length + z := by simp
  rcases Nat.lt_or_ge k xs.length with c | c
  · rw [kp_cut c]
    have e1 : (xs ++ List.replicate z (48 : Int)).take k = xs.take k := List.take_append_of_le_length (by omega)
    have e2 : (xs ++ List.replicate z (48 : Int)).drop k = xs.drop k ++ List.replicate z 48 := List.drop_append_of_le_length (by omega)
    have e3 : dv ((xs ++ List.replicate z (48 : Int)).drop k) = dv (xs.drop k) * 10 ^ z := by rw [e2, dv_append, dv_zeros, List.length_replicate, Int.add_zero]
    have u : up (xs ++ List.replicate z (48 : Int)) k = up xs k := by
      unfold up
      rw [e1, e3, lz, show xs.length + z - k = xs.length - k + z by omega, Int.pow_add]
      have pz := p_pos z
      generalize (10 : Int) ^ z = T at *
      generalize (10 : Int) ^ (xs.length - k) = A at *
      generalize dv (xs.drop k) = R at *
      congr 1
      apply propext
      have f1 : 2 * (R * T) = (2 * R) * T := by rw [Int.mul_assoc]
      rw [f1]
      constructor
      · rintro (h | ⟨h, g⟩)
        · exact .inl (Int.lt_of_mul_lt_mul_right h (Int.le_of_lt pz))
        · exact .inr ⟨Int.eq_of_mul_eq_mul_right (by omega) h, g⟩
      · rintro (h | ⟨h, g⟩)
        · exact .inl (Int.mul_lt_mul_of_pos_right h pz)
        · exact .inr ⟨by rw [h], g⟩
    unfold rd rn
    rw [u, e1]
  · rw [kp_full c]
    have e : xs ++ List.replicate z (48 : Int) = (xs ++ List.replicate (k - xs.length) 48) ++ List.replicate (xs.length + z - k) 48 := by
      rw [List.append_assoc, List.replicate_append_replicate]
      congr 2
      omega
    have lk : (xs ++ List.replicate (k - xs.length) (48 : Int)).length = k := by simp; omega
    have tk : (xs ++ List.replicate z (48 : Int)).take k = xs ++ List.replicate (k - xs.length) 48 := by rw [e, List.take_append_of_le_length (by omega), List.take_of_length_le (by omega)]
    have dk : (xs ++ List.replicate z (48 : Int)).drop k = List.replicate (xs.length + z - k) 48 := by rw [e, List.drop_append_of_le_length (by omega), List.drop_of_length_le (by omega)]; rfl
    have u : up (xs ++ List.replicate z (48 : Int)) k = false := by
      unfold up
      rw [decide_eq_false_iff_not, dk, dv_zeros]
      have := p_pos ((xs ++ List.replicate z (48 : Int)).length - k)
      omega
    rw [rd_keep dz (by omega) u, tk]

/-- What Figures tells, out of the rounded row. -/
theorem fig_cut {d : Int} {n : Nat} (hf : Ie.fnt d = true) (h1 : 1 ≤ n) (h2 : n ≤ 4200) :
    gS d n = (kp (X d) n).take n ∧ gK d n = (X d).length - 1 + P d + (kp (X d) n).length - n ∧ n ≤ (kp (X d) n).length ∧ (kp (X d) n).length ≤ n + 1 := by
  have r : rf d n 1 = 0 := rf_zero.2 ⟨hf, by omega, by omega⟩
  have hl : n ≤ (kp (X d) n).length ∧ (kp (X d) n).length ≤ n + 1 := by
    rcases Nat.lt_or_ge n (X d).length with c | c
    · rw [kp_cut c, rd_len]; split <;> omega
    · rw [kp_full c, List.length_append, List.length_replicate]; omega
  unfold gS gK
  rw [if_pos r, if_pos r, Int.toNat_natCast]
  refine ⟨rfl, ?_, hl⟩
  split <;> omega
theorem al9995 : aN 4652002910794678272 = false ∧ aS 4652002910794678272 = [57, 57, 57, 53] ∧ aE 4652002910794678272 = -1 ∧ aR 4652002910794678272 = 0 := by
  refine ⟨by decide, ?_, ?_, by decide⟩
  · rw [aS, if_pos fnt9995, c9995.1]
  · rw [aE, if_pos fnt9995, c9995.2]
end Fx
end Go.Proofs.YtiflponlioldmaaGreatDoor

namespace Go.Proofs.YtiflponlioldmaaGreatDoor
namespace Sc

theorem z_iff {x : Int} : z x = true ↔ x = 48 := by simp [z]
theorem z_not {x : Int} : z x = false ↔ x ≠ 48 := by simp [z]
theorem z0 : z 0 = false := rfl
theorem lz_run (ds : List Int) : lz ds = run z ds 0 := by simp [lz, run]
theorem pk_rev (ds : List Int) (i : Nat) (h : i < ds.length) : pk ds.reverse i = pk ds (ds.length - 1 - i) := by
  simp only [pk, List.getD]
  rw [List.getElem?_reverse h]
theorem lz_is {ds : List Int} {j : Nat} (h1 : ∀ i, i < j → pk ds i = 48) (h2 : pk ds j ≠ 48) : lz ds = j := by
  rw [lz_run]
  apply run_is z0
  · intro i hi; rw [Nat.zero_add, z_iff]; exact h1 i hi
  · rw [Nat.zero_add, z_not]; exact h2
theorem tz_is {ds : List Int} {k : Nat} (hk : k ≤ ds.length) (h1 : ∀ i, k ≤ i → i < ds.length → pk ds i = 48) (h2 : 0 < k → pk ds (k - 1) ≠ 48) : tz ds = ds.length - k := by
  unfold tz
  apply lz_is
  · intro i hi; rw [pk_rev ds i (by omega)]; exact h1 _ (by omega) (by omega)
  · by_cases c : k = 0
    · subst c; rw [pk_ge (by simp)]; omega
    · rw [pk_rev ds _ (by omega), show ds.length - 1 - (ds.length - k) = k - 1 by omega]; exact h2 (by omega)
theorem lz_le (ds : List Int) : lz ds ≤ ds.length := by rw [lz_run]; have := run_le z ds 0; omega
theorem lz_at {ds : List Int} {i : Nat} (h : i < lz ds) : pk ds i = 48 := by
  rw [lz_run] at h
  have := run_all i h
  rw [Nat.zero_add, z_iff] at this; exact this
theorem lz_end (ds : List Int) : pk ds (lz ds) ≠ 48 := by
  rw [lz_run]
  have := run_end z0 (xs := ds) _ 0 rfl
  rw [Nat.zero_add, z_not] at this; exact this
theorem tz_le (ds : List Int) : tz ds ≤ ds.length := by unfold tz; have := lz_le ds.reverse; simpa using this
theorem tz_at {ds : List Int} {i : Nat} (h : ds.length - tz ds ≤ i) (hi : i < ds.length) : pk ds i = 48 := by
  have := lz_at (ds := ds.reverse) (i := ds.length - 1 - i) (by unfold tz at h; have := tz_le ds; unfold tz at this; omega)
  rw [pk_rev ds _ (by omega)] at this
  rw [show ds.length - 1 - (ds.length - 1 - i) = i by omega] at this; exact this
theorem tz_end {ds : List Int} (h : tz ds < ds.length) : pk ds (ds.length - tz ds - 1) ≠ 48 := by
  have := lz_end ds.reverse
  unfold tz at *
  rw [pk_rev ds _ h] at this
  rw [show ds.length - lz ds.reverse - 1 = ds.length - 1 - lz ds.reverse by omega]; exact this
/-- Where not all digits are zeros, the zeros at the head and at the end don't meet. -/
theorem lz_tz {ds : List Int} (h : lz ds ≠ ds.length) : lz ds + tz ds < ds.length := by
  have h1 := lz_le ds
  have h2 := lz_end ds
  have h3 := tz_le ds
  rcases Nat.lt_or_ge (lz ds + tz ds) ds.length with c | c
  · exact c
  · exact absurd (tz_at (ds := ds) (i := lz ds) (by omega) (by omega)) h2

theorem nrm_zero {neg : Bool} {ds : List Int} {e : Int} (h : lz ds = ds.length) : nrm neg ds e = ⟨neg, [48], 0⟩ := by unfold nrm; rw [if_pos h]
theorem nrm_pos {neg : Bool} {ds : List Int} {e : Int} (h : lz ds ≠ ds.length) : nrm neg ds e = ⟨neg, (ds.drop (lz ds)).take (ds.length - tz ds - lz ds), e + tz ds⟩ := by unfold nrm; rw [if_neg h]
theorem nrm_neg (neg : Bool) (ds : List Int) (e : Int) : (nrm neg ds e).neg = neg := by unfold nrm; split <;> rfl

/-- What two trims leave is the normal form. -/
theorem nrm_of_trims {neg : Bool} {ds : List Int} {e : Int} {j k : Nat} (hj : j < ds.length) (h1 : ∀ i, i < j → ds.getD i 0 = 48) (h2 : ds.getD j 0 ≠ 48)
    (hk : k ≤ (ds.drop j).length) (h3 : ∀ i, k ≤ i → i < (ds.drop j).length → (ds.drop j).getD i 0 = 48) (h4 : 0 < k → (ds.drop j).getD (k - 1) 0 ≠ 48) :
    nrm neg ds e = ⟨neg, (ds.drop j).take k, e + (ds.drop j).length - k⟩ ∧ 0 < k := by
  have e1 : lz ds = j := lz_is h1 h2
  have hd : ∀ i, (ds.drop j).getD i 0 = pk ds (j + i) := fun i => pk_drop ds j i
  rw [List.length_drop] at *
  have k0 : 0 < k := by
    rcases Nat.eq_zero_or_pos k with c | c
    · subst c
      have := h3 0 (Nat.le_refl _) (by omega)
      rw [hd] at this
      exact absurd this h2
    · exact c
  have e2 : tz ds = ds.length - (j + k) := by
    apply tz_is (by omega)
    · intro i hi1 hi2
      have := h3 (i - j) (by omega) (by omega)
      rw [hd, show j + (i - j) = i by omega] at this; exact this
    · intro _
      have := h4 k0
      rw [hd, show j + (k - 1) = j + k - 1 by omega] at this; exact this
  refine ⟨?_, k0⟩
  rw [nrm_pos (by omega), e1, e2, show ds.length - (ds.length - (j + k)) - j = k by omega]
  congr 1
  omega
theorem nrm_of_none {neg : Bool} {ds : List Int} {e : Int} (h : ∀ i, i < ds.length → ds.getD i 0 = 48) : nrm neg ds e = ⟨neg, [48], 0⟩ := by
  apply nrm_zero
  have h1 := lz_le ds
  have h2 := lz_end ds
  rcases Nat.lt_or_ge (lz ds) ds.length with c | c
  · exact absurd (h _ c) h2
  · omega

/-- What Number answers: the Dec and the place. -/
def num (xs : List Int) : D × Nat := if some? xs (run bl xs 0) then ((lit xs (run bl xs 0)).d, (lit xs (run bl xs 0)).en) else (⟨false, [], 0⟩, 0)
/-- What Whole answers. -/
def whl (xs : List Int) : D × Bool := if some? xs (run bl xs 0) ∧ (lit xs (run bl xs 0)).en + run bl xs (lit xs (run bl xs 0)).en = xs.length then ((lit xs (run bl xs 0)).d, true) else (⟨false, [], 0⟩, false)
theorem nrm_len (neg : Bool) (ds : List Int) (e : Int) : (nrm neg ds e).ds.length ≤ ds.length + 1 := by
  unfold nrm
  split
  · simp
  · simp only [List.length_take, List.length_drop]; omega
theorem nrm_e (neg : Bool) (ds : List Int) (e : Int) : (nrm neg ds e).e = 0 ∨ (e ≤ (nrm neg ds e).e ∧ (nrm neg ds e).e ≤ e + ds.length) := by
  unfold nrm
  split
  · exact .inl rfl
  · have := tz_le ds
    refine .inr ⟨?_, ?_⟩
    · show e ≤ e + tz ds; omega
    · show e + (tz ds : Int) ≤ e + ds.length; omega
theorem lit_len (xs : List Int) (k : Nat) : (lit xs k).ah.length + (lit xs k).bh.length ≤ xs.length := by
  show ((xs.drop _).take _).length + ((xs.drop _).take _).length ≤ _
  simp only [List.length_take, List.length_drop]
  have : p1 xs k + run dg xs (p1 xs k) = p2 xs k := rfl
  omega
theorem lit_sc (xs : List Int) (k : Nat) : -1000000000000000 ≤ (lit xs k).sc ∧ (lit xs k).sc ≤ 1000000000000000 := by
  have h : 0 ≤ cap ((xs.drop (p4 xs (p3 xs k))).take (run dg xs (p4 xs (p3 xs k)))) ∧ cap ((xs.drop (p4 xs (p3 xs k))).take (run dg xs (p4 xs (p3 xs k)))) ≤ 1000000000000000 := by
    apply cap_b
    intro x hx
    obtain ⟨i, hi, rfl⟩ := List.mem_iff_getElem.1 hx
    rw [List.length_take, List.length_drop] at hi
    have := run_all (p := dg) (xs := xs) (i := p4 xs (p3 xs k)) i (by omega)
    have e : pk xs (p4 xs (p3 xs k) + i) = ((xs.drop (p4 xs (p3 xs k))).take (run dg xs (p4 xs (p3 xs k))))[i] := by
      have hi2 : p4 xs (p3 xs k) + i < xs.length := by omega
      simp [pk, List.getD, hi2]
    rw [← e]; exact this
  unfold lit
  simp only
  split
  · split <;> omega
  · omega

/-- THE LONGEST: what Number takes is whole, and no longer beginning is, but for blanks. -/
theorem run_bl_take (xs : List Int) (m : Nat) : run bl (xs.take m) 0 = min (run bl xs 0) m := by rw [run_take bl0]; simp
theorem num_zero {xs : List Int} (h : (num xs).2 = 0) : num xs = (⟨false, [], 0⟩, 0) ∧ ∀ m, whl (xs.take m) = (⟨false, [], 0⟩, false) := by
  have hn : ¬ some? xs (run bl xs 0) := by
    intro c
    unfold num at h
    rw [if_pos c] at h
    have := (lit_last c).1
    simp only at h
    omega
  refine ⟨by unfold num; rw [if_neg hn], fun m => ?_⟩
  unfold whl
  rw [if_neg]
  rintro ⟨c, -⟩
  rw [run_bl_take] at c
  rcases Nat.lt_or_ge (run bl xs 0) m with d | d
  · rw [show min (run bl xs 0) m = run bl xs 0 by omega] at c
    exact rd_none_take hn d c
  · rw [show min (run bl xs 0) m = m by omega] at c
    exact rd_none_past (Nat.le_refl _) c
theorem num_pos {xs : List Int} (h : 0 < (num xs).2) : some? xs (run bl xs 0) ∧ num xs = ((lit xs (run bl xs 0)).d, (lit xs (run bl xs 0)).en) := by
  by_cases c : some? xs (run bl xs 0)
  · exact ⟨c, by unfold num; rw [if_pos c]⟩
  · unfold num at h; rw [if_neg c] at h; simp at h
theorem num_le (xs : List Int) : (num xs).2 ≤ xs.length := by
  unfold num
  split
  · exact en_le xs _ (by have := run_le bl xs 0; omega)
  · exact Nat.zero_le _
theorem whl_take {xs : List Int} {m : Nat} (h : 0 < (num xs).2) (hm : (num xs).2 ≤ m) (hl : m ≤ xs.length) :
    (whl (xs.take m)).2 = decide ((num xs).2 + run bl (xs.take m) (num xs).2 = m) ∧ ((whl (xs.take m)).2 = true → (whl (xs.take m)).1 = (num xs).1) := by
  obtain ⟨hs, e⟩ := num_pos h
  rw [e] at hm ⊢
  simp only at hm ⊢
  obtain ⟨l1, l2⟩ := lit_take hs hm
  have hk : min (run bl xs 0) m = run bl xs 0 := by have := (lit_last hs).1; omega
  have hle : (xs.take m).length = m := by simp; omega
  unfold whl
  rw [run_bl_take, hk, l2, hle]
  by_cases c : (lit xs (run bl xs 0)).en + run bl (xs.take m) (lit xs (run bl xs 0)).en = m
  · rw [if_pos ⟨l1, c⟩]; exact ⟨by simp [c], fun _ => rfl⟩
  · rw [if_neg (fun d => c d.2)]; exact ⟨by simp [c], fun d => by simp at d⟩
theorem whl_at {xs : List Int} (h : 0 < (num xs).2) : whl (xs.take (num xs).2) = ((num xs).1, true) := by
  obtain ⟨h1, h2⟩ := whl_take h (Nat.le_refl _) (num_le xs)
  have h3 : (whl (xs.take (num xs).2)).2 = true := by
    rw [h1, run_take bl0]; simp
  exact Prod.ext (h2 h3) h3
theorem num_last {xs : List Int} (h : 0 < (num xs).2) : bl (pk xs ((num xs).2 - 1)) = false := by
  obtain ⟨hs, e⟩ := num_pos h
  rw [e]
  exact (lit_last hs).2
theorem whl_more {xs : List Int} {m : Nat} (h : 0 < (num xs).2) (hm : (num xs).2 < m) (hl : m ≤ xs.length) (hb : bl (pk xs (m - 1)) = false) : (whl (xs.take m)).2 = false := by
  rw [(whl_take h (by omega) hl).1, decide_eq_false_iff_not]
  intro c
  have := run_all (p := bl) (xs := xs.take m) (i := (num xs).2) (m - 1 - (num xs).2) (by omega)
  rw [show (num xs).2 + (m - 1 - (num xs).2) = m - 1 by omega, pk_take, if_pos (by omega), hb] at this
  exact absurd this (by simp)
end Sc
end Go.Proofs.YtiflponlioldmaaGreatDoor

namespace Go.Proofs.YtiflponlioldmaaGreatDoor
namespace Sc

def big : Int := 1152921504606846976
/-- A Dec, by the chapter's words. -/
def IsDec (ds : List Int) (e : Int) : Prop := ds ≠ [] ∧ -1152921504606846976 ≤ e ∧ e ≤ 1152921504606846976 ∧ (∀ x ∈ ds, dg x = true) ∧ (lz ds ≠ ds.length → e + tz ds ≤ 1152921504606846976)
instance (ds : List Int) (e : Int) : Decidable (IsDec ds e) := inferInstanceAs (Decidable (_ ∧ _ ∧ _ ∧ _ ∧ _))

def cmpI (x y : Int) : Int := if x < y then -1 else if y < x then 1 else 0
theorem cmpI_c (x y : Int) : (x < y ∧ cmpI x y = -1) ∨ (x = y ∧ cmpI x y = 0) ∨ (y < x ∧ cmpI x y = 1) := by
  unfold cmpI
  rcases Int.lt_trichotomy x y with h | h | h
  · exact .inl ⟨h, by rw [if_pos h]⟩
  · exact .inr (.inl ⟨h, by rw [if_neg (by omega), if_neg (by omega)]⟩)
  · exact .inr (.inr ⟨h, by rw [if_neg (by omega), if_pos h]⟩)
def lex : List Int → List Int → Int
  | [], [] => 0
  | [], _ :: _ => -1
  | _ :: _, [] => 1
  | a :: as_, b :: bs => if a < b then -1 else if b < a then 1 else lex as_ bs
theorem lex_b (a b : List Int) : lex a b = -1 ∨ lex a b = 0 ∨ lex a b = 1 := by
  induction a generalizing b with
  | nil => cases b <;> simp [lex]
  | cons x a ih =>
    cases b with
    | nil => simp [lex]
    | cons y b => simp only [lex]; split; · simp
                  · split; · simp
                    · exact ih b
theorem lex_anti (a b : List Int) : lex b a = - lex a b := by
  induction a generalizing b with
  | nil => cases b <;> simp [lex]
  | cons x a ih =>
    cases b with
    | nil => simp [lex]
    | cons y b =>
      simp only [lex]
      rcases Int.lt_trichotomy x y with h | h | h
      · rw [if_neg (by omega), if_pos h, if_pos h]; rfl
      · rw [if_neg (by omega), if_neg (by omega), if_neg (by omega), if_neg (by omega)]; exact ih b
      · rw [if_pos h, if_neg (by omega), if_pos h]
theorem lex_zero (a b : List Int) : lex a b = 0 ↔ a = b := by
  induction a generalizing b with
  | nil => cases b <;> simp [lex]
  | cons x a ih =>
    cases b with
    | nil => simp [lex]
    | cons y b =>
      simp only [lex]
      rcases Int.lt_trichotomy x y with h | h | h
      · rw [if_pos h]; simp; omega
      · subst h; simp [ih]
      · rw [if_neg (by omega), if_pos h]; simp; omega
theorem lex_trans (a b c : List Int) : lex a b ≤ 0 → lex b c ≤ 0 → lex a c ≤ 0 ∧ (lex a c = 0 → lex a b = 0 ∧ lex b c = 0) := by
  induction a generalizing b c with
  | nil =>
    cases b with
    | nil => cases c <;> simp [lex]
    | cons y b => cases c <;> simp [lex]
  | cons x a ih =>
    cases b with
    | nil => simp [lex]
    | cons y b =>
      cases c with
      | nil => simp [lex]
      | cons z c =>
        simp only [lex]
        rcases Int.lt_trichotomy x y with h | h | h
        · rcases Int.lt_trichotomy y z with k | k | k
          · rw [if_pos h, if_pos k, if_pos (show x < z by omega)]; simp
          · rw [if_pos h, if_neg (show ¬ y < z by omega), if_neg (show ¬ z < y by omega), if_pos (show x < z by omega)]; simp
          · rw [if_neg (show ¬ y < z by omega), if_pos k]; simp
        · subst h
          rw [if_neg (show ¬ x < x by omega), if_neg (show ¬ x < x by omega)]
          rcases Int.lt_trichotomy x z with k | k | k
          · simp [k]
          · subst k; simp only [Int.lt_irrefl, if_false]; exact ih b c
          · simp [show ¬ x < z by omega, k]
        · rw [if_neg (show ¬ x < y by omega), if_pos h]; simp

/-- Sizes alone. -/
def pl (d : D) : Int := d.e + d.ds.length
def mc (a b : D) : Int := if pl a ≠ pl b then cmpI (pl a) (pl b) else lex a.ds b.ds
def sgn (d : D) : Int := if d.ds = [48] then 0 else if d.neg = true then -1 else 1
/-- What Cmp answers of two normal Decs. -/
def cmpD (a b : D) : Int := if sgn a ≠ sgn b then cmpI (sgn a) (sgn b) else if a.neg = true then mc b a else mc a b

theorem mc_b (a b : D) : mc a b = -1 ∨ mc a b = 0 ∨ mc a b = 1 := by
  unfold mc
  split
  · rcases cmpI_c (pl a) (pl b) with h | h | h <;> omega
  · exact lex_b _ _
theorem mc_anti (a b : D) : mc b a = - mc a b := by
  unfold mc
  by_cases h : pl a = pl b
  · rw [if_neg (by omega), if_neg (by omega)]; exact lex_anti _ _
  · rw [if_pos (by omega), if_pos h]
    rcases cmpI_c (pl a) (pl b) with k | k | k <;> rcases cmpI_c (pl b) (pl a) with l | l | l <;> omega
theorem mc_zero (a b : D) : mc a b = 0 ↔ a.ds = b.ds ∧ a.e = b.e := by
  unfold mc
  by_cases h : pl a = pl b
  · rw [if_neg (by omega), lex_zero]
    unfold pl at h
    constructor
    · intro k; rw [k] at h; exact ⟨k, by omega⟩
    · exact fun k => k.1
  · rw [if_pos h]
    constructor
    · intro k; rcases cmpI_c (pl a) (pl b) with l | l | l <;> omega
    · intro k; exfalso; apply h; unfold pl; rw [k.1, k.2]
theorem mc_trans (a b c : D) : mc a b ≤ 0 → mc b c ≤ 0 → mc a c ≤ 0 ∧ (mc a c = 0 → mc a b = 0 ∧ mc b c = 0) := by
  unfold mc
  have h1 := cmpI_c (pl a) (pl b)
  have h2 := cmpI_c (pl b) (pl c)
  have h3 := cmpI_c (pl a) (pl c)
  have l1 := lex_trans a.ds b.ds c.ds
  split <;> split <;> split <;> omega

/-- A normal Dec. -/
def Nrm (d : D) : Prop := (d.ds = [48] ∧ d.e = 0) ∨ d.ds ≠ [48]
theorem sgn_c (d : D) : (d.ds = [48] ∧ sgn d = 0) ∨ (d.ds ≠ [48] ∧ d.neg = true ∧ sgn d = -1) ∨ (d.ds ≠ [48] ∧ d.neg = false ∧ sgn d = 1) := by
  unfold sgn
  by_cases h : d.ds = [48]
  · exact .inl ⟨h, by rw [if_pos h]⟩
  · cases k : d.neg with
    | true => exact .inr (.inl ⟨h, rfl, by rw [if_neg h]; rfl⟩)
    | false => exact .inr (.inr ⟨h, rfl, by rw [if_neg h]; rfl⟩)
theorem mc_both {a b : D} (ha : Nrm a) (hb : Nrm b) (h1 : a.ds = [48]) (h2 : b.ds = [48]) : mc a b = 0 := by
  rw [mc_zero]
  rcases ha with ha | ha
  · rcases hb with hb | hb
    · exact ⟨by rw [h1, h2], by rw [ha.2, hb.2]⟩
    · exact absurd h2 hb
  · exact absurd h1 ha
/-- Cmp by cases. -/
theorem cmpD_c {a b : D} (ha : Nrm a) (hb : Nrm b) :
    (sgn a < sgn b ∧ cmpD a b = -1) ∨ (sgn b < sgn a ∧ cmpD a b = 1) ∨ (sgn a = 0 ∧ sgn b = 0 ∧ cmpD a b = 0) ∨ (sgn a = -1 ∧ sgn b = -1 ∧ cmpD a b = - mc a b) ∨ (sgn a = 1 ∧ sgn b = 1 ∧ cmpD a b = mc a b) := by
  have e := mc_anti a b
  have z := mc_both ha hb
  unfold cmpD
  rcases sgn_c a with ⟨a1, a2⟩ | ⟨a1, a3, a2⟩ | ⟨a1, a3, a2⟩ <;> rcases sgn_c b with ⟨b1, b2⟩ | ⟨b1, b3, b2⟩ | ⟨b1, b3, b2⟩
  all_goals rw [a2, b2]
  · have := z a1 b1
    rw [if_neg (by omega)]
    split <;> omega
  · rw [if_pos (by omega)]; exact .inr (.inl ⟨by omega, rfl⟩)
  · rw [if_pos (by omega)]; exact .inl ⟨by omega, rfl⟩
  · rw [if_pos (by omega)]; exact .inl ⟨by omega, rfl⟩
  · rw [if_neg (by omega), if_pos a3]; omega
  · rw [if_pos (by omega)]; exact .inl ⟨by omega, rfl⟩
  · rw [if_pos (by omega)]; exact .inr (.inl ⟨by omega, rfl⟩)
  · rw [if_pos (by omega)]; exact .inr (.inl ⟨by omega, rfl⟩)
  · rw [if_neg (by omega), if_neg (by rw [a3]; simp)]; omega

theorem cmpD_b {a b : D} (ha : Nrm a) (hb : Nrm b) : -1 ≤ cmpD a b ∧ cmpD a b ≤ 1 := by
  have h := cmpD_c ha hb
  have k := mc_b a b
  omega
theorem cmpD_anti {a b : D} (ha : Nrm a) (hb : Nrm b) : cmpD b a = - cmpD a b := by
  have h := cmpD_c ha hb
  have k := cmpD_c hb ha
  have e := mc_anti a b
  omega
theorem cmpD_trans {a b c : D} (ha : Nrm a) (hb : Nrm b) (hc : Nrm c) : cmpD a b ≤ 0 → cmpD b c ≤ 0 → cmpD a c ≤ 0 ∧ (cmpD a c = 0 → cmpD a b = 0 ∧ cmpD b c = 0) := by
  have h1 := cmpD_c ha hb
  have h2 := cmpD_c hb hc
  have h3 := cmpD_c ha hc
  have t1 := mc_trans a b c
  have t2 := mc_trans c b a
  have e1 := mc_anti a b
  have e2 := mc_anti b c
  have e3 := mc_anti a c
  have s1 := sgn_c a
  have s2 := sgn_c b
  have s3 := sgn_c c
  omega
theorem cmpD_zero {a b : D} (ha : Nrm a) (hb : Nrm b) : cmpD a b = 0 ↔ (a = b ∨ (a.ds = [48] ∧ b.ds = [48])) := by
  have h1 := cmpD_c ha hb
  have z := mc_zero a b
  constructor
  · intro h
    rcases sgn_c a with ⟨a1, a2⟩ | ⟨a1, a3, a2⟩ | ⟨a1, a3, a2⟩ <;> rcases sgn_c b with ⟨b1, b2⟩ | ⟨b1, b3, b2⟩ | ⟨b1, b3, b2⟩ <;> first | exact .inr ⟨a1, b1⟩ | (exfalso; omega) | skip
    · obtain ⟨z1, z2⟩ := z.1 (by omega)
      left
      cases a; cases b; simp_all
    · obtain ⟨z1, z2⟩ := z.1 (by omega)
      left
      cases a; cases b; simp_all
  · rintro (rfl | ⟨a1, b1⟩)
    · have := z.2 ⟨rfl, rfl⟩
      omega
    · have s1 : sgn a = 0 := by unfold sgn; rw [if_pos a1]
      have s2 : sgn b = 0 := by unfold sgn; rw [if_pos b1]
      omega
/-- The same sizes, the same signs: one answer. -/
theorem cmpD_alike {a b a' b' : D} (ha : Nrm a) (hb : Nrm b) (ha' : Nrm a') (hb' : Nrm b') (h1 : sgn a' = sgn a) (h2 : sgn b' = sgn b) (h : sgn a ≠ 0 → sgn b ≠ 0 → mc a' b' = mc a b) : cmpD a' b' = cmpD a b := by
  have k := cmpD_c ha hb
  have l := cmpD_c ha' hb'
  by_cases c1 : sgn a = 0
  · omega
  · by_cases c2 : sgn b = 0
    · omega
    · have := h c1 c2; omega
theorem cmpD_turn {a b a' b' : D} (ha : Nrm a) (hb : Nrm b) (ha' : Nrm a') (hb' : Nrm b') (h1 : sgn a' = - sgn a) (h2 : sgn b' = - sgn b) (h : sgn a ≠ 0 → sgn b ≠ 0 → mc a' b' = mc a b) : cmpD a' b' = - cmpD a b := by
  have k := cmpD_c ha hb
  have l := cmpD_c ha' hb'
  by_cases c1 : sgn a = 0
  · omega
  · by_cases c2 : sgn b = 0
    · omega
    · have := h c1 c2; omega

theorem nrm_is (neg : Bool) (ds : List Int) (e : Int) : Nrm (nrm neg ds e) := by
  by_cases h : lz ds = ds.length
  · rw [nrm_zero h]; exact .inl ⟨rfl, rfl⟩
  · rw [nrm_pos h]
    right
    intro c
    have h1 := lz_end ds
    have h2 := lz_tz h
    have : pk ((ds.drop (lz ds)).take (ds.length - tz ds - lz ds)) 0 = pk ds (lz ds) := by
      rw [pk_take, if_pos (by omega), pk_drop]; rfl
    simp only at c
    rw [c] at this
    exact h1 this.symm
theorem nrm_ds_one {neg : Bool} {ds : List Int} {e : Int} : (nrm neg ds e).ds = [48] ↔ lz ds = ds.length := by
  constructor
  · intro h
    by_cases c : lz ds = ds.length
    · exact c
    · exfalso
      have := nrm_is neg ds e
      rw [nrm_pos c] at this h
      rcases this with k | k
      · have h1 := lz_end ds
        have h2 := lz_tz c
        have e2 : pk ((ds.drop (lz ds)).take (ds.length - tz ds - lz ds)) 0 = pk ds (lz ds) := by
          rw [pk_take, if_pos (by omega), pk_drop]; rfl
        simp only at h
        rw [h] at e2
        exact h1 e2.symm
      · exact k h
  · intro h; rw [nrm_zero h]
theorem sgn_nrm (neg : Bool) (ds : List Int) (e : Int) : sgn (nrm neg ds e) = if lz ds = ds.length then 0 else if neg = true then -1 else 1 := by
  unfold sgn
  rw [nrm_neg]
  by_cases c : lz ds = ds.length
  · rw [if_pos c, if_pos (nrm_ds_one.2 c)]
  · rw [if_neg c, if_neg (fun h => c (nrm_ds_one.1 h))]
theorem mc_moved {n1 n2 m1 m2 : Bool} {d1 d2 : List Int} {e1 e2 k : Int} (h1 : lz d1 ≠ d1.length) (h2 : lz d2 ≠ d2.length) : mc (nrm m1 d1 (e1 + k)) (nrm m2 d2 (e2 + k)) = mc (nrm n1 d1 e1) (nrm n2 d2 e2) := by
  rw [nrm_pos h1, nrm_pos h2, nrm_pos h1, nrm_pos h2]
  unfold mc pl cmpI
  simp only
  generalize List.length _ = x
  generalize List.length _ = y
  by_cases c : e1 + tz d1 + x = e2 + tz d2 + y
  · rw [if_neg (by omega), if_neg (by omega)]
  · rw [if_pos (by omega), if_pos c]
    by_cases g : e1 + tz d1 + x < e2 + tz d2 + y
    · rw [if_pos (by omega), if_pos g]
    · rw [if_neg (by omega), if_neg g, if_pos (by omega), if_pos (by omega)]
theorem nrm_tail (neg : Bool) (ds : List Int) (e : Int) : nrm neg ([48, 48] ++ ds ++ [48, 48, 48]) (e - 3) = nrm neg ds e := by
  by_cases c : lz ds = ds.length
  · rw [nrm_zero c]
    apply nrm_of_none
    intro i hi
    show pk _ i = 48
    rw [pk_append]
    split
    · rw [pk_append]
      split
      · next h1 h2 => simp at h2; rcases (show i = 0 ∨ i = 1 by omega) with rfl | rfl <;> rfl
      · next h1 h2 => simp at h1 h2; exact lz_at (by simp; omega)
    · next h1 =>
      simp at h1 hi ⊢
      rcases (show i - (ds.length + 1 + 1) = 0 ∨ i - (ds.length + 1 + 1) = 1 ∨ i - (ds.length + 1 + 1) = 2 by omega) with h | h | h <;> rw [h] <;> rfl
  · have h1 := lz_tz c
    have h2 := lz_le ds
    have e1 : lz ([48, 48] ++ ds ++ [48, 48, 48]) = lz ds + 2 := by
      apply lz_is
      · intro i hi
        rw [pk_append, if_pos (by simp; omega), pk_append]
        split
        · next h => simp at h; rcases (show i = 0 ∨ i = 1 by omega) with rfl | rfl <;> rfl
        · next h => simp at h; exact lz_at (by simp; omega)
      · rw [pk_append, if_pos (by simp; omega), pk_append, if_neg (by simp)]
        simp only [List.length_cons, List.length_nil, Nat.add_sub_cancel]
        exact lz_end ds
    have e2 : tz ([48, 48] ++ ds ++ [48, 48, 48]) = tz ds + 3 := by
      have h3 := tz_le ds
      have := tz_is (ds := [48, 48] ++ ds ++ [48, 48, 48]) (k := ds.length - tz ds + 2) (by simp; omega) ?_ ?_
      · rw [this]; simp; omega
      · intro i hi1 hi2
        rw [pk_append]
        split
        · next h =>
          simp at h
          rw [pk_append, if_neg (by simp; omega)]
          exact tz_at (by simp; omega) (by simp; omega)
        · next h =>
          simp at h hi2 ⊢
          rcases (show i - (ds.length + 1 + 1) = 0 ∨ i - (ds.length + 1 + 1) = 1 ∨ i - (ds.length + 1 + 1) = 2 by omega) with h | h | h <;> rw [h] <;> rfl
      · intro _
        rw [pk_append, if_pos (by simp; omega), pk_append, if_neg (by simp; omega)]
        have := tz_end (ds := ds) (by omega)
        simp only [List.length_cons, List.length_nil]
        rw [show ds.length - tz ds + 2 - 1 - (0 + 1 + 1) = ds.length - tz ds - 1 by omega]; exact this
    rw [nrm_pos (by rw [e1]; simp; omega), nrm_pos c, e1, e2]
    have el : ([48, 48] ++ ds ++ [48, 48, 48]).length - (tz ds + 3) - (lz ds + 2) = ds.length - tz ds - lz ds := by simp; omega
    rw [el]
    have ed : (List.drop (lz ds + 2) ([48, 48] ++ ds ++ [48, 48, 48])).take (ds.length - tz ds - lz ds) = (ds.drop (lz ds)).take (ds.length - tz ds - lz ds) := by
      rw [List.append_assoc, List.drop_append, List.drop_of_length_le (by simp)]
      simp only [List.length_cons, List.length_nil, List.nil_append]
      rw [show lz ds + 2 - (0 + 1 + 1) = lz ds by omega, List.drop_append_of_le_length h2, List.take_append_of_le_length (by simp; omega)]
    rw [ed]
    congr 1
    push_cast
    omega
end Sc
end Go.Proofs.YtiflponlioldmaaGreatDoor

namespace Go.Proofs.YtiflponlioldmaaGreatDoor
namespace Sc

/-- A number's digits, as bytes. -/
def dl (u : Nat) : List Int := (Lib.decDigits u).map fun b => (b.toNat : Int)
theorem dl_small {u : Nat} (h : u < 10) : dl u = [48 + (u : Int)] := by
  unfold dl
  rw [Lib.decDigits_one h]
  simp only [List.map_cons, List.map_nil]
  rw [UInt8.toNat_ofNat_of_lt' (by show 48 + u < 256; omega)]
  simp
theorem dl_big {u : Nat} (h : ¬ u < 10) : dl u = dl (u / 10) ++ [48 + ((u % 10 : Nat) : Int)] := by
  unfold dl
  rw [Lib.decDigits, dif_neg h, List.map_append]
  simp only [List.map_cons, List.map_nil]
  rw [UInt8.toNat_ofNat_of_lt' (by show 48 + u % 10 < 256; omega)]
  simp
theorem dl_is (u : Nat) : (∀ x ∈ dl u, dg x = true) ∧ dl u ≠ [] ∧ cap (dl u) = min (u : Int) 1000000000000000 := by
  induction u using Nat.strongRecOn with
  | _ u ih =>
    by_cases h : u < 10
    · rw [dl_small h]
      refine ⟨fun x hx => ?_, by simp, ?_⟩
      · rw [List.mem_singleton] at hx; subst hx; rw [dg_iff]; omega
      · have := cap_snoc [] (48 + (u : Int))
        rw [List.nil_append, cap_nil] at this
        rw [this]; omega
    · obtain ⟨h1, h2, h3⟩ := ih (u / 10) (by omega)
      rw [dl_big h]
      refine ⟨fun x hx => ?_, by simp, ?_⟩
      · rw [List.mem_append, List.mem_singleton] at hx
        rcases hx with hx | hx
        · exact h1 x hx
        · subst hx; rw [dg_iff]; omega
      · rw [cap_snoc, h3]; omega

theorem run_app {p : Int → Bool} (hp : p 0 = false) {as' bs cs : List Int} (h1 : ∀ x ∈ bs, p x = true) (h2 : p (pk cs 0) = false) : run p (as' ++ bs ++ cs) as'.length = bs.length := by
  apply run_is hp
  · intro j hj
    rw [pk_append, if_pos (by simp; omega), pk_append, if_neg (by omega), show as'.length + j - as'.length = j by omega]
    apply h1
    simp [pk, List.getD, hj]
  · rw [pk_append, if_neg (by simp), show as'.length + bs.length - (as' ++ bs).length = 0 by simp]
    exact h2
theorem take_app {as' bs cs : List Int} : ((as' ++ bs ++ cs).drop as'.length).take bs.length = bs := by
  rw [List.append_assoc, List.drop_left, List.take_left]

/-- Digits that are there, all digits. -/
def Dig (ds : List Int) : Prop := ds ≠ [] ∧ ∀ x ∈ ds, dg x = true
theorem Dig.pk0 {ds : List Int} (h : Dig ds) : dg (pk ds 0) = true := by
  obtain ⟨h1, h2⟩ := h
  cases ds with
  | nil => exact absurd rfl h1
  | cons x l => exact h2 x (by simp)

end Sc
end Go.Proofs.YtiflponlioldmaaGreatDoor

namespace Go.Proofs.YtiflponlioldmaaGreatDoor
namespace Dr

/-- A piece of a format. -/
structure Pc where
  t : List Int
  v : Int
  fl : Int
  wk : Int
  wd : Int
  pk : Int
  pr : Int

def Pc.no : Pc := ⟨[], 0, 0, 0, 0, 0, 0⟩

/-- The byte at a place, 0 behind the end. -/
def nx (xs : List Int) (j : Nat) : Int := xs.getD j 0

/-- The place of c in l, or -1. -/
def idx : List Int → Int → Int
  | [], _ => -1
  | x :: l, c => if x = c then 0 else if idx l c < 0 then -1 else idx l c + 1

theorem idx_ge (l : List Int) (c : Int) : -1 ≤ idx l c := by
  induction l with
  | nil => simp [idx]
  | cons x l ih => rw [idx]; split <;> (try split) <;> omega
theorem idx_lt (l : List Int) (c : Int) : idx l c < l.length := by
  induction l with
  | nil => simp [idx]
  | cons x l ih => rw [idx, List.length_cons]; split <;> (try split) <;> omega

def marks : List Int := [45, 43, 32, 35, 48]
def verbs : List Int := [100, 105, 111, 117, 120, 88, 99, 115, 101, 69, 102, 70, 103, 71]

/-- c is a flag. -/
def isF (c : Int) : Bool := decide (0 ≤ idx marks c)
def isD (c : Int) : Bool := decide (48 ≤ c) && decide (c ≤ 57)

theorem isD_iff {c : Int} : isD c = true ↔ 48 ≤ c ∧ c ≤ 57 := by simp [isD]
theorem isD_not {c : Int} : isD c = false ↔ ¬ (48 ≤ c ∧ c ≤ 57) := by
  rw [← isD_iff]; simp

/-- How many of the first elements have p. -/
def ct (p : Int → Bool) : List Int → Nat
  | [] => 0
  | c :: l => if p c = true then ct p l + 1 else 0

theorem ct_le (p : Int → Bool) (l : List Int) : ct p l ≤ l.length := by
  induction l with
  | nil => simp [ct]
  | cons c l ih => rw [ct, List.length_cons]; split <;> omega

theorem ct_app {p : Int → Bool} {a b : List Int} (h : ∀ x ∈ a, p x = true) : ct p (a ++ b) = a.length + ct p b := by
  induction a with
  | nil => simp
  | cons c l ih =>
    rw [List.cons_append, ct, if_pos (h c (by simp)), ih (fun x hx => h x (by simp [hx])), List.length_cons]
    omega
theorem ct_zero {p : Int → Bool} {l : List Int} (h : p (l.headD 0) = false) : ct p l = 0 := by
  cases l with
  | nil => rfl
  | cons c l => rw [ct, if_neg (by simp only [List.headD_cons] at h; rw [h]; simp)]

/-- The sum of the flags at the head. -/
def fS (s : Nat) : List Int → Nat
  | [] => s
  | c :: l => if isF c = true then fS (s ||| 2 ^ (idx marks c).toNat) l else s

/-- What the digits at the head write, capped. -/
def dN (n : Int) : List Int → Int
  | [] => n
  | c :: l => if isD c = true then dN (min (10 * n + (c - 48)) 4097) l else n

/-- A number: its kind, its value, its bytes, its error. -/
def nk (l : List Int) : Int := if l.headD 0 = 42 then 2 else if ct isD l = 0 then 0 else if 4096 < dN 0 l then 0 else 1
def nv (l : List Int) : Int := if l.headD 0 = 42 then 0 else if ct isD l = 0 then 0 else if 4096 < dN 0 l then 0 else dN 0 l
def nu (l : List Int) : Nat := if l.headD 0 = 42 then 1 else if ct isD l = 0 then 0 else if 4096 < dN 0 l then 0 else ct isD l
def ne (l : List Int) : Int := if l.headD 0 = 42 then 0 else if ct isD l = 0 then 0 else if 4096 < dN 0 l then 6 else 0

/-- A precision: likewise. -/
def pk (l : List Int) : Int := if l.headD 0 = 46 then (if ne l.tail = 0 ∧ nk l.tail = 0 then 1 else nk l.tail) else 0
def pv (l : List Int) : Int := if l.headD 0 = 46 then nv l.tail else 0
def pu (l : List Int) : Nat := if l.headD 0 = 46 then 1 + nu l.tail else 0
def pe (l : List Int) : Int := if l.headD 0 = 46 then ne l.tail else 0

/-- A verb. -/
def ve (l : List Int) : Int := if l = [] then 131 else if idx verbs (l.headD 0) < 0 then 130 else 0
def vv (l : List Int) : Int := if ve l = 0 then l.headD 0 else 0
def vu (l : List Int) : Nat := if ve l = 0 then 1 else 0

/-- The rest behind flags, width, precision. -/
def l1 (l : List Int) : List Int := l.drop (ct isF l)
def l2 (l : List Int) : List Int := (l1 l).drop (nu (l1 l))
def l3 (l : List Int) : List Int := (l2 l).drop (pu (l2 l))

/-- A directive behind its percent. -/
def de (l : List Int) : Int := if ne (l1 l) ≠ 0 then ne (l1 l) else if pe (l2 l) ≠ 0 then pe (l2 l) else ve (l3 l)
def dp (l : List Int) : Pc := if de l = 0 then ⟨[], vv (l3 l), fS 0 l, nk (l1 l), nv (l1 l), pk (l2 l), pv (l2 l)⟩ else Pc.no
def du (l : List Int) : Nat := if ne (l1 l) ≠ 0 then ct isF l else if pe (l2 l) ≠ 0 then ct isF l + nu (l1 l) + pu (l2 l) else ct isF l + nu (l1 l) + pu (l2 l) + vu (l3 l)

def isX (c : Int) : Bool := decide (c ≠ 37)

/-- A piece. -/
def qe (l : List Int) : Int := if l.headD 0 ≠ 37 then 0 else if l.tail.headD 0 = 37 then 0 else de l.tail
def qp (l : List Int) : Pc := if l.headD 0 ≠ 37 then ⟨l.take (ct isX l), 0, 0, 0, 0, 0, 0⟩ else if l.tail.headD 0 = 37 then ⟨[], 37, 0, 0, 0, 0, 0⟩ else dp l.tail
def qu (l : List Int) : Nat := if l.headD 0 ≠ 37 then ct isX l else if l.tail.headD 0 = 37 then 2 else 1 + du l.tail

/-- The pieces of a format, the place of its fault, the fault. -/
def pr : Nat → List Int → List Pc × Nat × Int
  | 0, _ => ([], 0, 0)
  | n + 1, l => if l = [] then ([], 0, 0) else if qe l ≠ 0 then ([], qu l, qe l) else if (pr n (l.drop (qu l))).2.2 = 0 then (qp l :: (pr n (l.drop (qu l))).1, 0, 0) else ([], qu l + (pr n (l.drop (qu l))).2.1, (pr n (l.drop (qu l))).2.2)

def prs (l : List Int) : List Pc × Nat × Int := pr (l.length + 1) l

theorem ve_len {l : List Int} (h : ve l = 0) : 1 ≤ l.length := by
  cases l with
  | nil => simp [ve] at h
  | cons c l => simp
theorem headD_len {l : List Int} {c : Int} (hc : c ≠ 0) (h : l.headD 0 = c) : 1 ≤ l.length := by
  cases l with
  | nil => simp at h; omega
  | cons c l => simp
theorem nu_le (l : List Int) : nu l ≤ l.length := by
  unfold nu
  have := ct_le isD l
  split
  · rename_i h; exact headD_len (by decide) h
  · split
    · omega
    · split <;> omega
theorem pu_le (l : List Int) : pu l ≤ l.length := by
  unfold pu
  split
  · rename_i h
    have := headD_len (by decide) h
    have := nu_le l.tail
    rw [List.length_tail] at this
    omega
  · omega
theorem vu_le (l : List Int) : vu l ≤ l.length := by
  unfold vu; split
  · rename_i h; exact ve_len h
  · omega
theorem du_le (l : List Int) : du l ≤ l.length := by
  have a := ct_le isF l
  have b := nu_le (l1 l)
  have c := pu_le (l2 l)
  have d := vu_le (l3 l)
  unfold du
  unfold l3 l2 l1 at *
  simp only [List.length_drop] at *
  split
  · omega
  · split <;> omega
theorem qu_le {l : List Int} (hl : l ≠ []) : qu l ≤ l.length := by
  unfold qu
  have := List.length_pos_iff.2 hl
  split
  · exact ct_le _ _
  · split
    · rename_i h
      have := headD_len (by decide) h
      rw [List.length_tail] at this
      omega
    · have := du_le l.tail
      rw [List.length_tail] at this
      omega
theorem qu_pos {l : List Int} (hl : l ≠ []) : 1 ≤ qu l := by
  unfold qu
  split
  · rename_i h
    cases l with
    | nil => exact absurd rfl hl
    | cons c l => simp only [List.headD_cons] at h; rw [ct, if_pos (by simp [isX, h])]; omega
  · split <;> omega

theorem pr_fuel (n m : Nat) (l : List Int) (hn : l.length < n) (hm : l.length < m) : pr n l = pr m l := by
  induction n generalizing m l with
  | zero => omega
  | succ n ih =>
    cases m with
    | zero => omega
    | succ m =>
      by_cases hl : l = []
      · simp [pr, hl]
      · have p := qu_pos hl
        have q := qu_le hl
        have e := ih m (l.drop (qu l)) (by rw [List.length_drop]; omega) (by rw [List.length_drop]; omega)
        simp only [pr, e]
theorem prs_nil : prs [] = ([], 0, 0) := by simp [prs, pr]
theorem prs_err {l : List Int} (hl : l ≠ []) (h : qe l ≠ 0) : prs l = ([], qu l, qe l) := by
  rw [prs, pr, if_neg hl, if_pos h]
theorem prs_cons {l : List Int} (hl : l ≠ []) (h : qe l = 0) : prs l = if (prs (l.drop (qu l))).2.2 = 0 then (qp l :: (prs (l.drop (qu l))).1, 0, 0) else ([], qu l + (prs (l.drop (qu l))).2.1, (prs (l.drop (qu l))).2.2) := by
  have p := qu_pos hl
  have q := qu_le hl
  have e : pr l.length (l.drop (qu l)) = prs (l.drop (qu l)) := pr_fuel _ _ _ (by rw [List.length_drop]; omega) (by omega)
  rw [prs, pr, if_neg hl, if_neg (by simp [h]), e]
end Dr
end Go.Proofs.YtiflponlioldmaaGreatDoor

namespace Go.Proofs.YtiflponlioldmaaGreatDoor
namespace Dr

/-- The flags' marks. -/
def ms (f : Int) : List Int := (if f.toNat % 2 = 1 then [45] else []) ++ (if f.toNat / 2 % 2 = 1 then [43] else []) ++ (if f.toNat / 4 % 2 = 1 then [32] else []) ++ (if f.toNat / 8 % 2 = 1 then [35] else []) ++ (if f.toNat / 16 % 2 = 1 then [48] else [])
def wn (k n : Int) : List Int := if k = 1 then Sc.dl n.toNat else if k = 2 then [42] else []
/-- A piece as a format has it. -/
def wr (p : Pc) : List Int := if p.v = 0 then p.t else if p.v = 37 then [37, 37] else 37 :: (ms p.fl ++ wn p.wk p.wd ++ (if p.pk ≠ 0 then 46 :: wn p.pk p.pr else []) ++ [p.v])

/-- In form. -/
def num (k n l : Int) : Prop := ((k = 0 ∨ k = 2) ∧ n = 0) ∨ (k = 1 ∧ l ≤ n ∧ n ≤ 4096)
def isT (p : Pc) : Prop := p.t ≠ [] ∧ p.v = 0 ∧ p.fl = 0 ∧ p.wk = 0 ∧ p.wd = 0 ∧ p.pk = 0 ∧ p.pr = 0 ∧ idx p.t 37 < 0
def isP (p : Pc) : Prop := p.t = [] ∧ p.v = 37 ∧ p.fl = 0 ∧ p.wk = 0 ∧ p.wd = 0 ∧ p.pk = 0 ∧ p.pr = 0
def isR (p : Pc) : Prop := 0 ≤ idx verbs p.v ∧ p.t = [] ∧ 0 ≤ p.fl ∧ p.fl ≤ 31 ∧ num p.wk p.wd 1 ∧ num p.pk p.pr 0
def ok (p : Pc) : Prop := isT p ∨ isP p ∨ isR p
instance (k n l : Int) : Decidable (num k n l) := inferInstanceAs (Decidable (_ ∨ _))
instance (p : Pc) : Decidable (isT p) := inferInstanceAs (Decidable (_ ∧ _))
instance (p : Pc) : Decidable (isP p) := inferInstanceAs (Decidable (_ ∧ _))
instance (p : Pc) : Decidable (isR p) := inferInstanceAs (Decidable (_ ∧ _))
instance (p : Pc) : Decidable (ok p) := inferInstanceAs (Decidable (_ ∨ _))

theorem Pc.eq {p q : Pc} (h1 : p.t = q.t) (h2 : p.v = q.v) (h3 : p.fl = q.fl) (h4 : p.wk = q.wk) (h5 : p.wd = q.wd) (h6 : p.pk = q.pk) (h7 : p.pr = q.pr) : p = q := by
  cases p; cases q; simp_all

theorem idx_cons {x c : Int} {l : List Int} (h : 0 ≤ idx (x :: l) c) : c = x ∨ 0 ≤ idx l c := by
  rw [idx] at h
  split at h
  · rename_i e; exact .inl e.symm
  · split at h
    · omega
    · exact .inr (by omega)
theorem verb_cases {c : Int} (h : 0 ≤ idx verbs c) : c = 100 ∨ c = 105 ∨ c = 111 ∨ c = 117 ∨ c = 120 ∨ c = 88 ∨ c = 99 ∨ c = 115 ∨ c = 101 ∨ c = 69 ∨ c = 102 ∨ c = 70 ∨ c = 103 ∨ c = 71 := by
  unfold verbs at h
  iterate 13 (rcases idx_cons h with h | h; · omega)
  rcases idx_cons h with h | h
  · omega
  · simp [idx] at h
theorem verb_ne {c : Int} (h : 0 ≤ idx verbs c) : c ≠ 0 ∧ c ≠ 37 ∧ c ≠ 42 ∧ c ≠ 46 ∧ isD c = false ∧ isF c = false ∧ 0 ≤ c ∧ c < 256 := by
  rcases verb_cases h with h | h | h | h | h | h | h | h | h | h | h | h | h | h <;> subst h <;> decide

theorem isF_cases {c : Int} : isF c = true ↔ c = 45 ∨ c = 43 ∨ c = 32 ∨ c = 35 ∨ c = 48 := by
  constructor
  · intro h
    simp only [isF, decide_eq_true_eq] at h
    unfold marks at h
    iterate 4 (rcases idx_cons h with h | h; · omega)
    rcases idx_cons h with h | h
    · omega
    · simp [idx] at h
  · rintro (h | h | h | h | h) <;> subst h <;> decide
theorem isF_no {c : Int} (h1 : c ≠ 45) (h2 : c ≠ 43) (h3 : c ≠ 32) (h4 : c ≠ 35) (h5 : c ≠ 48) : isF c = false := by
  cases h : isF c
  · rfl
  · rcases isF_cases.1 h with h | h | h | h | h <;> contradiction

theorem fS_stop {s : Nat} {r : List Int} (h : isF (r.headD 0) = false) : fS s r = s := by
  cases r with
  | nil => rfl
  | cons c l => rw [fS, if_neg (by simp only [List.headD_cons] at h; rw [h]; simp)]
theorem ms_read {f : Int} {r : List Int} (h0 : 0 ≤ f) (h1 : f ≤ 31) (h : isF (r.headD 0) = false) : ct isF (ms f ++ r) = (ms f).length ∧ (fS 0 (ms f ++ r) : Int) = f ∧ (ms f ++ r).drop (ms f).length = r := by
  refine ⟨?_, ?_, List.drop_left⟩
  · rw [ct_app, ct_zero h]
    · rfl
    · intro x hx
      have : x = 45 ∨ x = 43 ∨ x = 32 ∨ x = 35 ∨ x = 48 := by
        unfold ms at hx
        simp only [List.mem_append] at hx
        rcases hx with (((hx | hx) | hx) | hx) | hx <;> (split at hx <;> simp at hx) <;> omega
      exact isF_cases.2 this
  · have e : ∀ f : Fin 32, fS 0 (ms (f.val : Int) ++ r) = f.val := by
      intro f
      have key : ∀ (g : Fin 32) (c : Nat), (∀ s, fS s r = s) → fS 0 (ms (g.val : Int) ++ r) = g.val ∨ c = 1 := by
        intro g c hs
        left
        rcases g with ⟨g, hg⟩
        have : g = 0 ∨ g = 1 ∨ g = 2 ∨ g = 3 ∨ g = 4 ∨ g = 5 ∨ g = 6 ∨ g = 7 ∨ g = 8 ∨ g = 9 ∨ g = 10 ∨ g = 11 ∨ g = 12 ∨ g = 13 ∨ g = 14 ∨ g = 15 ∨ g = 16 ∨ g = 17 ∨ g = 18 ∨ g = 19 ∨ g = 20 ∨ g = 21 ∨ g = 22 ∨ g = 23 ∨ g = 24 ∨ g = 25 ∨ g = 26 ∨ g = 27 ∨ g = 28 ∨ g = 29 ∨ g = 30 ∨ g = 31 := by omega
        rcases this with h | h | h | h | h | h | h | h | h | h | h | h | h | h | h | h | h | h | h | h | h | h | h | h | h | h | h | h | h | h | h | h <;> subst h <;> simp [ms, fS, isF, marks, idx, hs]
      rcases key f 0 (fun s => fS_stop h) with h | h
      · exact h
      · omega
    have := e ⟨f.toNat, by omega⟩
    simp only at this
    rw [show ((f.toNat : Nat) : Int) = f by omega] at this
    rw [this]; omega

/-- Digits' value, uncapped. -/
def dw (n : Int) : List Int → Int
  | [] => n
  | c :: l => dw (10 * n + (c - 48)) l
theorem dw_ge {n : Int} {l : List Int} (h0 : 0 ≤ n) (h : ∀ x ∈ l, isD x = true) : n ≤ dw n l := by
  induction l generalizing n with
  | nil => simp [dw]
  | cons c l ih =>
    have := isD_iff.1 (h c (by simp))
    have := ih (n := 10 * n + (c - 48)) (by omega) (fun x hx => h x (by simp [hx]))
    rw [dw]; omega
theorem dN_dw {n : Int} {l r : List Int} (h0 : 0 ≤ n) (h : ∀ x ∈ l, isD x = true) (hr : isD (r.headD 0) = false) (hb : dw n l ≤ 4096) : dN n (l ++ r) = dw n l := by
  induction l generalizing n with
  | nil =>
    cases r with
    | nil => rfl
    | cons c r => rw [List.nil_append, dN, if_neg (by simp only [List.headD_cons] at hr; rw [hr]; simp), dw]
  | cons c l ih =>
    have hc := h c (by simp)
    have := isD_iff.1 hc
    have k : ∀ x ∈ l, isD x = true := fun x hx => h x (by simp [hx])
    rw [dw] at hb
    have := dw_ge (n := 10 * n + (c - 48)) (by omega) k
    rw [List.cons_append, dN, if_pos hc, Int.min_eq_left (by omega), ih (by omega) k hb, dw]
theorem dw_app {n : Int} {a b : List Int} : dw n (a ++ b) = dw (dw n a) b := by
  induction a generalizing n with
  | nil => rfl
  | cons c l ih => rw [List.cons_append, dw, dw, ih]
theorem dl_D (u : Nat) : ∀ x ∈ Sc.dl u, isD x = true := fun x hx => by
  have := Sc.dg_iff.1 ((Sc.dl_is u).1 x hx)
  exact isD_iff.2 this
theorem dl_dw (u : Nat) : dw 0 (Sc.dl u) = u := by
  induction u using Nat.strongRecOn with
  | _ u ih =>
    by_cases h : u < 10
    · rw [Sc.dl_small h]; simp only [dw]; omega
    · rw [Sc.dl_big h, dw_app, ih (u / 10) (by omega)]; simp only [dw]; omega
theorem dl_head (u : Nat) (h1 : 1 ≤ u) : ∃ c l, Sc.dl u = c :: l ∧ 49 ≤ c ∧ c ≤ 57 := by
  induction u using Nat.strongRecOn with
  | _ u ih =>
    by_cases h : u < 10
    · exact ⟨_, _, Sc.dl_small h, by omega, by omega⟩
    · obtain ⟨c, l, e, h2, h3⟩ := ih (u / 10) (by omega) (by omega)
      exact ⟨c, l ++ [48 + ((u % 10 : Nat) : Int)], by rw [Sc.dl_big h, e]; rfl, h2, h3⟩
theorem dl_cons (u : Nat) : ∃ c l, Sc.dl u = c :: l ∧ 48 ≤ c ∧ c ≤ 57 := by
  cases h : Sc.dl u with
  | nil => exact absurd h (Sc.dl_is u).2.1
  | cons c l =>
    have := isD_iff.1 (dl_D u c (by rw [h]; simp))
    exact ⟨c, l, rfl, this⟩

/-- A number as it is written, read back. -/
theorem wn_read {k n l : Int} {r : List Int} (h : num k n l) (hl : 0 ≤ l) (hr : isD (r.headD 0) = false) (hs : k = 0 → r.headD 0 ≠ 42) : ne (wn k n ++ r) = 0 ∧ nk (wn k n ++ r) = k ∧ nv (wn k n ++ r) = n ∧ nu (wn k n ++ r) = (wn k n).length := by
  rcases h with ⟨hk | hk, hn⟩ | ⟨hk, h1, h2⟩
  · subst hk; subst hn
    have c0 := ct_zero (p := isD) hr
    have hs := hs rfl
    have e : wn 0 0 = [] := rfl
    rw [e, List.nil_append]
    unfold ne nk nv nu
    rw [if_neg hs, if_neg hs, if_neg hs, if_neg hs, if_pos c0, if_pos c0, if_pos c0, if_pos c0]
    simp
  · subst hk; subst hn
    simp [wn, ne, nk, nv, nu]
  · subst hk
    have e : wn 1 n = Sc.dl n.toNat := rfl
    obtain ⟨c, m, ec, c1, c2⟩ := dl_cons n.toNat
    have a1 : ct isD (wn 1 n ++ r) = (wn 1 n).length := by
      rw [e, ct_app (dl_D _), ct_zero hr]; rfl
    have a2 : dN 0 (wn 1 n ++ r) = n := by
      have := dl_dw n.toNat
      rw [e, dN_dw (by omega) (dl_D _) hr (by omega), this]; omega
    have a3 : ¬ (wn 1 n ++ r).headD 0 = 42 := by rw [e, ec]; simp; omega
    have a4 : ¬ (wn 1 n).length = 0 := by rw [e, ec]; simp
    unfold ne nk nv nu
    rw [a1, a2]
    simp only [if_neg a3, if_neg a4, if_neg (show ¬ 4096 < n by omega)]
    exact ⟨trivial, trivial, trivial, trivial⟩
theorem wn_head {k n l : Int} {r : List Int} (h : num k n l) (hl : l = 1) (hk : k = 0 → isF (r.headD 0) = false) : isF ((wn k n ++ r).headD 0) = false := by
  rcases h with ⟨c | c, hn⟩ | ⟨c, h1, h2⟩
  · subst c; subst hn; exact hk rfl
  · subst c; subst hn; simp [wn]; decide
  · subst c
    obtain ⟨c, m, ec, c1, c2⟩ := dl_head n.toNat (by omega)
    have : wn 1 n = c :: m := ec
    rw [this]
    simp only [List.cons_append, List.headD_cons]
    exact isF_no (by omega) (by omega) (by omega) (by omega) (by omega)

/-- A precision as it is written, read back. -/
theorem wp_read {k n : Int} {r : List Int} (h : num k n 0) (hr : isD (r.headD 0) = false) (h6 : r.headD 0 ≠ 46) : pe ((if k ≠ 0 then 46 :: wn k n else []) ++ r) = 0 ∧ pk ((if k ≠ 0 then 46 :: wn k n else []) ++ r) = k ∧ pv ((if k ≠ 0 then 46 :: wn k n else []) ++ r) = n ∧ pu ((if k ≠ 0 then 46 :: wn k n else []) ++ r) = (if k ≠ 0 then 46 :: wn k n else []).length := by
  by_cases hk : k = 0
  · have hn : n = 0 := by rcases h with ⟨_, h⟩ | ⟨h, _⟩ <;> omega
    subst hk; subst hn
    rw [if_neg (by simp), List.nil_append]
    unfold pe pk pv pu
    rw [if_neg h6, if_neg h6, if_neg h6, if_neg h6]
    simp
  · obtain ⟨a, b, c, d⟩ := wn_read (r := r) h (by omega) hr (fun e => absurd e hk)
    rw [if_pos hk, List.cons_append]
    have z : (46 :: (wn k n ++ r)).headD 0 = 46 := rfl
    have y : (46 :: (wn k n ++ r)).tail = wn k n ++ r := rfl
    unfold pe pk pv pu
    rw [if_pos z, if_pos z, if_pos z, if_pos z, y, if_neg (by rw [b]; exact fun e => hk e.2)]
    refine ⟨a, b, c, ?_⟩
    rw [d, List.length_cons]; omega
/-- A directive, read back, whatever stands behind it. -/
theorem dir_read {p : Pc} (h : isR p) (r : List Int) : qe (wr p ++ r) = 0 ∧ qp (wr p ++ r) = p ∧ qu (wr p ++ r) = (wr p).length := by
  obtain ⟨hv, ht, f0, f1, hw, hp⟩ := h
  obtain ⟨v0, v37, v42, v46, vd, vf, _, _⟩ := verb_ne hv
  let D := p.v :: r
  let C := (if p.pk ≠ 0 then 46 :: wn p.pk p.pr else []) ++ D
  let B := wn p.wk p.wd ++ C
  let A := ms p.fl ++ B
  have eA : wr p ++ r = 37 :: A := by
    show wr p ++ r = 37 :: (ms p.fl ++ (wn p.wk p.wd ++ ((if p.pk ≠ 0 then 46 :: wn p.pk p.pr else []) ++ p.v :: r)))
    rw [wr, if_neg v0, if_neg v37]; simp
  have len : (wr p).length = 1 + ((ms p.fl).length + ((wn p.wk p.wd).length + ((if p.pk ≠ 0 then 46 :: wn p.pk p.pr else []).length + 1))) := by
    rw [wr, if_neg v0, if_neg v37]; simp; omega
  have hD : D.headD 0 = p.v := rfl
  have hC : isD (C.headD 0) = false ∧ C.headD 0 ≠ 42 ∧ isF (C.headD 0) = false ∧ C.headD 0 ≠ 37 := by
    show isD (((if p.pk ≠ 0 then 46 :: wn p.pk p.pr else []) ++ D).headD 0) = false ∧ ((if p.pk ≠ 0 then 46 :: wn p.pk p.pr else []) ++ D).headD 0 ≠ 42 ∧ isF (((if p.pk ≠ 0 then 46 :: wn p.pk p.pr else []) ++ D).headD 0) = false ∧ ((if p.pk ≠ 0 then 46 :: wn p.pk p.pr else []) ++ D).headD 0 ≠ 37
    by_cases hk : p.pk = 0
    · rw [if_neg (by simp [hk]), List.nil_append, hD]; exact ⟨vd, v42, vf, v37⟩
    · rw [if_pos hk]; simp only [List.cons_append, List.headD_cons]; decide
  obtain ⟨n1, n2, n3, n4⟩ := wn_read (r := C) hw (by omega) hC.1 (fun _ => hC.2.1)
  have hB : isF (B.headD 0) = false := wn_head hw rfl (fun _ => hC.2.2.1)
  obtain ⟨m1, m2, m3⟩ := ms_read (r := B) f0 f1 hB
  obtain ⟨q1, q2, q3, q4⟩ := wp_read (r := D) hp (by rw [hD]; exact vd) (by rw [hD]; exact v46)
  have e1 : l1 A = B := by rw [l1, m1]; exact m3
  have e2 : l2 A = C := by rw [l2, e1, n4]; exact List.drop_left
  have e3 : l3 A = D := by rw [l3, e2, q4]; exact List.drop_left
  have ev : ve D = 0 := by rw [ve, if_neg (by simp [D]), hD, if_neg (by omega)]
  have ed : de A = 0 := by rw [de, e1, e2, e3, n1, q1, ev]; simp
  have eu : du A = (ms p.fl).length + (wn p.wk p.wd).length + (if p.pk ≠ 0 then 46 :: wn p.pk p.pr else []).length + 1 := by
    rw [du, e1, e2, e3, n1, q1, vu, ev, n4, q4, m1]; simp
  have ep : dp A = p := by
    rw [dp, if_pos ed, e1, e2, e3]
    exact Pc.eq ht.symm (by rw [vv, if_pos ev, hD]) m2 n2 n3 q2 q3
  have hA : A.headD 0 ≠ 37 := by
    show (ms p.fl ++ B).headD 0 ≠ 37
    cases hm : ms p.fl with
    | cons c l =>
      have : isF c = true := by
        have : ct isF (c :: l ++ B) = (c :: l).length := by rw [← hm]; exact m1
        by_cases hf : isF c = true
        · exact hf
        · rw [List.cons_append, ct, if_neg hf] at this; simp at this
      simp only [List.cons_append, List.headD_cons]
      rcases isF_cases.1 this with h | h | h | h | h <;> omega
    | nil =>
      rw [List.nil_append]
      show (wn p.wk p.wd ++ C).headD 0 ≠ 37
      rcases hw with ⟨c | c, hn⟩ | ⟨c, h1, h2⟩
      · rw [c, hn]; exact hC.2.2.2
      · rw [c, hn]; simp [wn]
      · rw [c]
        obtain ⟨x, m, ec, c1, c2⟩ := dl_head p.wd.toNat (by omega)
        have : wn 1 p.wd = x :: m := ec
        rw [this]
        simp only [List.cons_append, List.headD_cons]; omega
  rw [eA]
  have z : ¬ (37 :: A).headD 0 ≠ 37 := by simp
  have y : ¬ (37 :: A).tail.headD 0 = 37 := hA
  unfold qe qp qu
  rw [if_neg z, if_neg z, if_neg z, if_neg y, if_neg y, if_neg y]
  exact ⟨ed, ep, by rw [List.tail_cons, eu, len]; omega⟩

theorem pct_read {p : Pc} (h : isP p) (r : List Int) : qe (wr p ++ r) = 0 ∧ qp (wr p ++ r) = p ∧ qu (wr p ++ r) = (wr p).length := by
  obtain ⟨h1, h2, h3, h4, h5, h6, h7⟩ := h
  have e : wr p = [37, 37] := by rw [wr, h2]; simp
  rw [e]
  refine ⟨by simp [qe], ?_, by simp [qu]⟩
  rw [qp]
  simp only [List.cons_append, List.headD_cons, List.tail_cons, ne_eq, not_true_eq_false, if_false, if_true]
  exact Pc.eq h1.symm h2.symm h3.symm h4.symm h5.symm h6.symm h7.symm

theorem isX_of {t : List Int} (h : idx t 37 < 0) : ∀ x ∈ t, isX x = true := by
  induction t with
  | nil => simp
  | cons c l ih =>
    rw [idx] at h
    split at h
    · omega
    · rename_i hc
      have : idx l 37 < 0 := by split at h <;> omega
      intro x hx
      rcases List.mem_cons.1 hx with rfl | hx
      · simp [isX, hc]
      · exact ih this x hx
theorem txt_read {p : Pc} (h : isT p) (r : List Int) (hr : r = [] ∨ r.headD 0 = 37) : qe (wr p ++ r) = 0 ∧ qp (wr p ++ r) = p ∧ qu (wr p ++ r) = (wr p).length := by
  obtain ⟨h1, h2, h3, h4, h5, h6, h7, h8⟩ := h
  have e : wr p = p.t := by rw [wr, if_pos h2]
  have hx := isX_of h8
  have hc : ct isX (p.t ++ r) = p.t.length := by
    rw [ct_app hx]
    rcases hr with hr | hr
    · rw [hr]; rfl
    · rw [ct_zero (by rw [hr]; decide)]; rfl
  have hd : (p.t ++ r).headD 0 ≠ 37 := by
    cases ht : p.t with
    | nil => exact absurd ht h1
    | cons c l =>
      have := hx c (by rw [ht]; simp)
      simpa [isX] using this
  rw [e]
  unfold qe qp qu
  rw [if_pos hd, if_pos hd, if_pos hd, hc]
  exact ⟨rfl, Pc.eq (by simp) h2.symm h3.symm h4.symm h5.symm h6.symm h7.symm, rfl⟩
end Dr
end Go.Proofs.YtiflponlioldmaaGreatDoor

namespace Go.Proofs.YtiflponlioldmaaGreatDoor
open Go.RowKit Go.Deep

theorem cap_facts : ∀ k : Fin 36, wv (capL.getD k.val 0) = (k.val : Int) ∧ ¬ (97 ≤ capL.getD k.val 0 ∧ capL.getD k.val 0 ≤ 122) ∧ (capL.getD k.val 0 = 48 → k.val = 0) := by decide
theorem small_facts : ∀ k : Fin 36, wv (smallL.getD k.val 0) = (k.val : Int) ∧ ¬ (65 ≤ smallL.getD k.val 0 ∧ smallL.getD k.val 0 ≤ 90) ∧ (smallL.getD k.val 0 = 48 → k.val = 0) := by decide

/-- A letter, by the digit. -/
theorem letter_facts (up : Bool) (d : Int) (h0 : 0 ≤ d) (h1 : d < 36) : wv ((lettersOf up).getD d.toNat 0) = d ∧ (up = true → ¬ (97 ≤ (lettersOf up).getD d.toNat 0 ∧ (lettersOf up).getD d.toNat 0 ≤ 122)) ∧ (up = false → ¬ (65 ≤ (lettersOf up).getD d.toNat 0 ∧ (lettersOf up).getD d.toNat 0 ≤ 90)) ∧ ((lettersOf up).getD d.toNat 0 = 48 → d = 0) := by
  cases up with
  | true =>
    have k := cap_facts ⟨d.toNat, by omega⟩
    simp only at k
    rw [show lettersOf true = capL from rfl]
    exact ⟨by rw [k.1]; omega, fun _ => k.2.1, fun h => absurd h (by decide), fun h => by have := k.2.2 h; omega⟩
  | false =>
    have k := small_facts ⟨d.toNat, by omega⟩
    simp only at k
    rw [show lettersOf false = smallL from rfl]
    exact ⟨by rw [k.1]; omega, fun h => absurd h (by decide), fun _ => k.2.1, fun h => by have := k.2.2 h; omega⟩

/-- What a text that InBase wrote is like. -/
structure Good (zs : List Int) (B : Int) (up : Bool) (xs : List Int) : Prop where
  ne : xs ≠ []
  len : xs.length ≤ 262144
  case_ : ∀ i, i < xs.length → (up = true → ¬ (97 ≤ xs.getD i 0 ∧ xs.getD i 0 ≤ 122)) ∧ (up = false → ¬ (65 ≤ xs.getD i 0 ∧ xs.getD i 0 ≤ 90))
  dig : ∀ i, i < xs.length → wv (xs.getD i 0) < B
  val : Dn.tv B 0 (xs.map wv) = Nm.val zs
  head : 0 < Nm.tsize zs → xs.getD 0 0 ≠ 48
  zero : Nm.tsize zs = 0 → xs = [48]

theorem good_zero {zs : List Int} {B : Int} {up : Bool} (hz : Nm.Limbs zs) (h : Nm.tsize zs = 0) (hB : 2 ≤ B) : Good zs B up [48] := by
  refine ⟨by simp, by simp, fun i hi => ?_, fun i hi => ?_, ?_, fun c => by omega, fun _ => rfl⟩
  · obtain rfl : i = 0 := by simpa using hi
    exact ⟨fun _ => by simp, fun _ => by simp⟩
  · obtain rfl : i = 0 := by simpa using hi
    show wv 48 < B
    rw [show wv 48 = 0 by decide]
    omega
  · rw [(Nm.tsize_zero_iff hz).1 h, show [48].map wv = [0] by decide]
    simp [Dn.tv]

theorem map_wv_lets {up : Bool} {B : Int} (h36 : B ≤ 36) (ds : List Int) (hd : ∀ d ∈ ds, 0 ≤ d ∧ d < B) : (lets (lettersOf up) ds).map wv = ds := by
  unfold lets
  rw [List.map_map]
  conv => rhs; rw [← List.map_id ds]
  apply List.map_congr_left
  intro d h
  have := hd d h
  exact (letter_facts up d this.1 (by omega)).1

theorem good_ok {zs : List Int} {B : Int} {up : Bool} {L : Nat} (hz : Nm.Limbs zs) (h0 : 0 < Nm.tsize zs) (h1 : Nm.tsize zs ≤ 4096) (h2 : 2 ≤ B) (h36 : B ≤ 36) (hL : Nm.val zs < B ^ L) : Good zs B up (lets (lettersOf up) (Dn.strip (Dn.dg B L (Nm.val zs)))) := by
  have hB : 0 < B := by omega
  have hv0 := (Nm.val_bd zs hz).1
  have hvz : Nm.val zs ≠ 0 := fun c => by have := (Nm.tsize_zero_iff hz).2 c; omega
  have hL2 : Nm.val zs < B ^ 262144 := by
    have e1 := (Nm.tsize_le_iff hz 4096).1 h1
    rw [Nm.pw_two 4096, show 64 * 4096 = 262144 from rfl] at e1
    exact Int.lt_of_lt_of_le e1 (Pn.pow_base (by omega) h2 262144)
  rw [Dn.strip_dg hB hv0 hL hL2]
  obtain ⟨ds, hds⟩ : ∃ ds, Dn.strip (Dn.dg B 262144 (Nm.val zs)) = ds := ⟨_, rfl⟩
  have hm : ∀ d ∈ ds, 0 ≤ d ∧ d < B := fun d hd => by
    rw [← hds] at hd
    exact Dn.dg_mem hB _ _ d (Dn.strip_mem hd)
  have htv : Dn.tv B 0 ds = Nm.val zs := by rw [← hds, Dn.tv_strip, Dn.tv_dg hB _ _ hv0 hL2]
  have hlen : ds.length ≤ 262144 := by
    have := (List.dropWhile_sublist (fun d : Int => decide (d = 0)) (l := Dn.dg B 262144 (Nm.val zs))).length_le
    rw [Dn.dg_length] at this
    rw [← hds]
    exact this
  have hne : ds ≠ [] := fun c => by rw [c] at htv; exact hvz htv.symm
  rw [hds]
  have hg : ∀ i, i < ds.length → (lets (lettersOf up) ds).getD i 0 = (lettersOf up).getD (ds.getD i 0).toNat 0 := fun i hi => by simp [lets, List.getD, hi]
  have hl : (lets (lettersOf up) ds).length = ds.length := by simp [lets]
  have hat : ∀ i, i < ds.length → 0 ≤ ds.getD i 0 ∧ ds.getD i 0 < B := fun i hi => by
    have e : ds.getD i 0 = ds[i] := by simp [List.getD, hi]
    rw [e]
    exact hm _ (List.getElem_mem hi)
  refine ⟨fun c => hne (by simpa [lets] using c), by rw [hl]; exact hlen, fun i hi => ?_, fun i hi => ?_, by rw [map_wv_lets h36 ds hm, htv], fun _ => ?_, fun c => by omega⟩
  · rw [hl] at hi
    rw [hg i hi]
    have := hat i hi
    have f := letter_facts up (ds.getD i 0) this.1 (by omega)
    exact ⟨f.2.1, f.2.2.1⟩
  · rw [hl] at hi
    rw [hg i hi]
    have := hat i hi
    rw [(letter_facts up (ds.getD i 0) this.1 (by omega)).1]
    exact this.2
  · have hi : 0 < ds.length := by
      rcases Nat.eq_zero_or_pos ds.length with c | c
      · exact absurd (List.eq_nil_of_length_eq_zero c) hne
      · exact c
    rw [hg 0 hi]
    have hb := hat 0 hi
    intro c
    have := (letter_facts up (ds.getD 0 0) hb.1 (by omega)).2.2.2 c
    obtain ⟨d, rest, hdr⟩ : ∃ d rest, ds = d :: rest := List.exists_cons_of_ne_nil hne
    have k := Dn.strip_head (ds := Dn.dg B 262144 (Nm.val zs)) (by rw [hds]; exact hdr)
    rw [hdr] at this
    exact k (by simpa using this)
end Go.Proofs.YtiflponlioldmaaGreatDoor

namespace Go.Proofs.YtiflponlioldmaaGreatDoor

theorem InIs.one {zs : List Int} {B : Int} {up : Bool} {xs ys : List Int} {E F : Int} (hz : Nm.Limbs zs) (h : InIs zs B up xs E) (k : InIs zs B up ys F) : xs = ys ∧ E = F := by
  cases h with
  | big h1 => cases k <;> first | exact ⟨rfl, rfl⟩ | (exfalso; omega)
  | base h1 h2 => cases k <;> first | exact ⟨rfl, rfl⟩ | (exfalso; omega)
  | zero h1 h2 h3 => cases k <;> first | exact ⟨rfl, rfl⟩ | (exfalso; omega)
  | ok L h1 h2 h3 h4 h5 =>
    cases k with
    | big k1 => exfalso; omega
    | base k1 k2 => exfalso; omega
    | zero k1 k2 k3 => exfalso; omega
    | ok M k1 k2 k3 k4 k5 => exact ⟨by rw [Dn.strip_dg (by omega) (Nm.val_bd zs hz).1 h5 k5], rfl⟩
end Go.Proofs.YtiflponlioldmaaGreatDoor

namespace Go.Proofs.YtiflponlioldmaaGreatDoor
open Go.RowKit Go.Deep
namespace Wh
/-- The digits of a number, none of nothing. -/
def dig (B : Int) (up : Bool) (v : Int) : List Int := if v = 0 then [] else lets (lettersOf up) (Dn.strip (Dn.dg B v.toNat v))
theorem lt_pow {B : Int} (hB : 2 ≤ B) (n : Nat) : (n : Int) < B ^ n := by
  induction n with
  | zero => simp
  | succ n ih =>
    rw [Int.pow_succ]
    have p : (1 : Int) ≤ B ^ n := Pn.pow_pos' (by omega) n
    have : B ^ n * 2 ≤ B ^ n * B := Int.mul_le_mul_of_nonneg_left hB (by omega)
    omega
theorem dig_is {zs : List Int} {B : Int} {up : Bool} {xs : List Int} {E : Int} (hz : Nm.Limbs zs) (h0 : 0 < Nm.val zs) (h1 : Nm.tsize zs ≤ 4096) (hB : 2 ≤ B) (h36 : B ≤ 36) (h : InIs zs B up xs E) : xs = dig B up (Nm.val zs) ∧ E = 0 := by
  have t0 : 0 < Nm.tsize zs := by have := Nm.tsize_zero_iff hz; omega
  have hl : Nm.val zs < B ^ (Nm.val zs).toNat := by have := lt_pow hB (Nm.val zs).toNat; omega
  have q := h.one hz (.ok (Nm.val zs).toNat t0 h1 hB h36 hl)
  rw [dig, if_neg (by omega)]
  exact q

/-- What the digits of a number are like. -/
structure Dg (B : Int) (up : Bool) (v : Int) (xs : List Int) : Prop where
  ne : xs ≠ []
  len : xs.length ≤ 262144
  case_ : ∀ i, i < xs.length → (up = true → ¬ (97 ≤ xs.getD i 0 ∧ xs.getD i 0 ≤ 122)) ∧ (up = false → ¬ (65 ≤ xs.getD i 0 ∧ xs.getD i 0 ≤ 90))
  dig : ∀ i, i < xs.length → wv (xs.getD i 0) < B
  val : Dn.tv B 0 (xs.map wv) = v
  head : xs.getD 0 0 ≠ 48
theorem dig_good {zs : List Int} {B : Int} {up : Bool} (hz : Nm.Limbs zs) (h0 : 0 < Nm.val zs) (h1 : Nm.tsize zs ≤ 4096) (hB : 2 ≤ B) (h36 : B ≤ 36) : Dg B up (Nm.val zs) (dig B up (Nm.val zs)) := by
  have t0 : 0 < Nm.tsize zs := by have := Nm.tsize_zero_iff hz; omega
  have hl : Nm.val zs < B ^ (Nm.val zs).toNat := by have := lt_pow hB (Nm.val zs).toNat; omega
  have g := good_ok (up := up) hz t0 h1 hB h36 hl
  rw [dig, if_neg (by omega)]
  exact ⟨g.ne, g.len, g.case_, g.dig, g.val, g.head t0⟩
theorem lets_by (up : Bool) (ds : List Int) : By (lets (lettersOf up) ds) := by
  intro x hx
  obtain ⟨d, _, rfl⟩ := List.mem_map.1 hx
  have k : ∀ (l : List Int), (∀ y ∈ l, 0 ≤ y ∧ y < 256) → 0 ≤ l.getD d.toNat 0 ∧ l.getD d.toNat 0 < 256 := by
    intro l hl
    rw [List.getD_eq_getElem?_getD]
    cases h : l[d.toNat]? with
    | none => simp
    | some y => exact hl y (List.mem_of_getElem? h)
  apply k
  cases up
  · show ∀ y ∈ smallL, _
    decide
  · show ∀ y ∈ capL, _
    decide
theorem dig_by (B : Int) (up : Bool) (v : Int) : By (dig B up v) := by
  unfold dig
  split
  · exact By.nil
  · exact lets_by _ _

/-- Digits brought to the precision. -/
def fil (P : Int) (d : List Int) : List Int := rep 48 ((if P = -1 then 1 else P) - d.length) ++ d
theorem fil_by {P : Int} {d : List Int} (h : By d) : By (fil P d) := (By.rep (by omega)).app h
theorem fil_len (P : Int) (d : List Int) : (fil P d).length = ((if P = -1 then 1 else P) - d.length).toNat + d.length := by
  rw [fil, List.length_append, rep_len]

/-- The sign. -/
def sgn (F : Int) (below : Bool) : List Int := if below = true then [45] else if bit F 2 = true then [43] else if bit F 4 = true then [32] else []
theorem sgn_by (F : Int) (b : Bool) : By (sgn F b) := by
  unfold sgn
  split
  · intro x hx; simp at hx; omega
  · split
    · intro x hx; simp at hx; omega
    · split
      · intro x hx; simp at hx; omega
      · exact By.nil
theorem sgn_len (F : Int) (b : Bool) : (sgn F b).length ≤ 1 := by
  unfold sgn
  split
  · simp
  · split
    · simp
    · split <;> simp

/-- Signed. -/
def sigE (V F W P : Int) (t : Nat) : Int := if V = 100 ∨ V = 105 then (if chk F W P = 0 then (if 4096 < t then 2 else 0) else chk F W P) else 140
def sigT (F W P : Int) (neg : Bool) (v : Int) : List Int := padT F W (decide (P = -1)) (sgn F (neg && decide (v ≠ 0))) (fil P (dig 10 false v))
def sig (V F W P : Int) (neg : Bool) (zs : List Int) : List Int := if sigE V F W P (Nm.tsize zs) = 0 then sigT F W P neg (Nm.val zs) else []

/-- Unsigned. -/
def base (V : Int) : Int := if V = 111 then 8 else if V = 120 ∨ V = 88 then 16 else 10
def ubody (V P u : Int) : List Int := fil P (dig (base V) (decide (V = 88)) u)
def umark (V F P u : Int) : Bool := bit F 8 && decide (V = 111) && decide ((ubody V P u).getD 0 0 ≠ 48)
def uhead (V F u : Int) : List Int := if bit F 8 = true ∧ u ≠ 0 ∧ V = 120 then [48, 120] else if bit F 8 = true ∧ u ≠ 0 ∧ V = 88 then [48, 88] else []
def utext (V F P u : Int) : List Int := if umark V F P u = true then 48 :: ubody V P u else ubody V P u
def unsE (V F W P : Int) : Int := if V = 111 ∨ V = 117 ∨ V = 120 ∨ V = 88 then chk F W P else 140
def unsT (V F W P u : Int) : List Int := padT F W (decide (P = -1)) (uhead V F u) (utext V F P u)
def uns (V F W P u : Int) : List Int := if unsE V F W P = 0 then unsT V F W P u else []

end Wh
end Go.Proofs.YtiflponlioldmaaGreatDoor
