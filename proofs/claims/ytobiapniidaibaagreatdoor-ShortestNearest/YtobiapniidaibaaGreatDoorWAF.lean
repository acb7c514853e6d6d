/-
  Texts put together: NMem, V0, VStr, NStr, NSpread0, NBTrim, VTrimL, VClone, VDig, VCompare, VCmpI, LSearch.
-/
import Derived.Test.YtobiapniidaibaaGreatDoorWAD
import Derived.Test.YtobiapniidaibaaGreatDoorNums
import Derived.Test.YtobiapniidaibaaGreatDoorRows
import Derived.WalkKit
import Derived.WalkSpells
import Derived.Deep.OwnRows
import Derived.Laws.CopyRow
import Derived.Laws.IdiomCopy
import Derived.Laws.AppendOwn
import Derived.Laws.MakeOwn
import Derived.Laws.Rows
import Derived.Laws.Concat
import Derived.OpenShut
import Derived.Deep.QuietTactic
import Derived.BigQuiet
import Derived.WalkMore
import Derived.ScopeJumps
import Derived.Deep.RegionWith
import Derived.Laws.ResultCell
import Derived.Test.YtobiapniidaibaaGreatDoorWAB
import Derived.Laws.BytesArg
import Derived.Laws.IdiomStrings
import Derived.Laws.Strings3
import Derived.Laws.DeepStrings4
import Derived.BigRegion
import Derived.Shelf.Pu.Clone
import Derived.Shelf.Small.Strs
import Derived.Deep.LoopGhost
import Derived.Shelf.Abstract
namespace Go.Proofs.YtobiapniidaibaaGreatDoor
open Go.RowKit Go.Deep

def OwnB (w : World) (g : Nat) (zs : List Int) : Prop := w.heap[g]? = some (.cells (zs.map (Value.int .u8)).toArray 5 (0, 0))

theorem OwnB.cell {w : World} {g : Nat} {zs : List Int} (h : OwnB w g zs) (i : Nat) (hi : i < zs.length) : w.cell? ⟨g, i, none⟩ = some (.int .u8 (zs.getD i 0)) := by
  simp only [OwnB] at h
  simp [World.cell?, h, List.getD, hi]

theorem OwnB.free {w : World} {g : Nat} {zs : List Int} (h : OwnB w g zs) (i : Nat) : w.frozen? ⟨g, i, none⟩ = false := by
  simp only [OwnB] at h
  simp [World.frozen?, h]

theorem OwnB.lt {w : World} {g : Nat} {zs : List Int} (h : OwnB w g zs) : g < w.heap.size := by
  rcases Nat.lt_or_ge g w.heap.size with hl | hl
  · exact hl
  · simp [OwnB, Array.getElem?_eq_none hl] at h

theorem OwnB.set {w : World} {g : Nat} {zs : List Int} (h : OwnB w g zs) (i : Nat) (s : Int) : OwnB (w.setCell ⟨g, i, none⟩ (.int .u8 s)) g (zs.set i s) := by
  have hl := h.lt
  simp only [OwnB] at h ⊢
  simp [World.setCell, Array.getElem?_modify, h, List.map_set]

theorem OwnB.below {w w' : World} {B g : Nat} {zs : List Int} (h : OwnB w g zs) (hb : Below B w w') (hg : g < B) : OwnB w' g zs := by
  simp only [OwnB] at h ⊢
  rw [hb.block g hg, h]

theorem OwnB.drewN {w : World} {g : Nat} {zs : List Int} (h : OwnB w g zs) (n : Nat) : OwnB (w.drewN n) g zs := h

theorem OwnB.alloc (w : World) (zs : List Int) : OwnB (w.alloc (.cells (zs.map (Value.int .u8)).toArray 5)) w.heap.size zs := by
  show (w.heap.push _)[w.heap.size]? = _
  rw [Array.getElem?_push, if_pos rfl]

theorem made_zero8 (n : Nat) : madeCells #[Value.int .u8 0] n = ((List.replicate n (0 : Int)).map (Value.int .u8)).toArray := by
  apply Array.toList_inj.1
  rw [toList_madeCells_one]
  simp

theorem info8 : (Tryz.prog.info? 5).map (fun i => (i.zero, i.size, i.bytes)) = some (some (.int .u8 0), 1, 1) := by kernel_rfl

/-- make([]byte, n). -/
theorem make8 (n : Nat) (h : n ≤ 35184372088832) (w : World) :
    (Instr.makeSlice 32 (.int .i64 (n : Int)) (.int .i64 (n : Int))).run Tryz.prog w = .ok (.slice (some ⟨w.heap.size, 0, none⟩) n n) (w.alloc (.cells (madeCells #[.int .u8 0] n) 5)) :=
  run_make_row' 32 5 (.int .u8 0) 1 Tryz.underlying32 info8 rfl .i64 .i64 n (by omega) (by omega) w

/-- Only the block g, and new ones, have changed. -/
structure Only (g : Nat) (w w' : World) : Prop where
  os : w'.os = w.os
  tape : w'.tape = w.tape
  output : w'.output = w.output
  size : w.heap.size ≤ w'.heap.size
  block : ∀ j, j < w.heap.size → j ≠ g → w'.heap[j]? = w.heap[j]?

theorem Only.refl (g : Nat) (w : World) : Only g w w := ⟨rfl, rfl, rfl, Nat.le_refl _, fun _ _ _ => rfl⟩
theorem Only.trans {g : Nat} {a b c : World} (h : Only g a b) (k : Only g b c) : Only g a c :=
  ⟨k.os.trans h.os, k.tape.trans h.tape, k.output.trans h.output, Nat.le_trans h.size k.size, fun i hi hs => (k.block i (Nat.lt_of_lt_of_le hi h.size) hs).trans (h.block i hi hs)⟩
theorem Only.of_below {g : Nat} {a b : World} (h : Below a.heap.size a b) : Only g a b := ⟨h.os, h.tape, h.output, h.size, fun i hi _ => h.block i hi⟩
theorem Only.below {g B : Nat} {a b : World} (h : Only g a b) (hg : B ≤ g) (hB : B ≤ a.heap.size) : Below B a b := ⟨h.os, h.tape, h.output, h.size, fun i hi => h.block i (by omega) (by omega)⟩
theorem Only.set {w : World} {g : Nat} (i : Nat) (v : Value) : Only g w (w.setCell ⟨g, i, none⟩ v) := by
  refine ⟨rfl, rfl, rfl, by simp [World.setCell], fun j _ hne => ?_⟩
  simp only [World.setCell, Array.getElem?_modify]
  rw [if_neg (fun h => hne h.symm)]
theorem Only.drewN {g : Nat} {a b : World} (h : Only g a b) (n : Nat) : Only g a (b.drewN n) := ⟨h.os, h.tape, h.output, h.size, h.block⟩
theorem Only.cell {g : Nat} {a b : World} (h : Only g a b) {p : Addr} {v : Value} (hc : a.cell? p = some v) (hp : p.block ≠ g) : b.cell? p = some v := by
  have := h.block p.block (cell_lt hc) hp
  rw [← hc]
  simp only [World.cell?, this]

theorem Lies.only {w w' : World} {g : Nat} {p : Option Addr} {zs : List Int} (h : Lies w p zs) (k : Only g w w') (hp : ∀ a, p = some a → a.block ≠ g) : Lies w' p zs := by
  rcases h with h | ⟨b, off, rfl, h⟩
  · exact .inl h
  · exact .inr ⟨b, off, rfl, fun i hi => k.cell (h i hi) (hp ⟨b, off, none⟩ rfl)⟩

theorem Arg.only {w w' : World} {g : Nat} {p : Option Addr} {n cap : Nat} {zs : List Int} (h : Arg w p n cap zs) (k : Only g w w') (hp : ∀ a, p = some a → a.block ≠ g) : Arg w' p n cap zs := ⟨h.1, h.2.1, h.2.2.1, h.2.2.2.1.only k hp, h.2.2.2.2⟩

/-- Digits written into a row of bytes, from a place on. -/
def put (ds : List Int) (o : Nat) (xs : List Int) : List Int := ds.take o ++ xs ++ ds.drop (o + xs.length)

theorem put_length (ds : List Int) (o : Nat) (xs : List Int) (h : o + xs.length ≤ ds.length) : (put ds o xs).length = ds.length := by
  simp [put]
  omega

theorem put_nil (ds : List Int) (o : Nat) : put ds o [] = ds := by simp [put]

/-- One more at the head. -/
theorem put_head (ds : List Int) (o : Nat) (x : Int) (xs : List Int) (h : o + 1 + xs.length ≤ ds.length) : (put ds (o + 1) xs).set o x = put ds o (x :: xs) := by
  have h1 : ds.take (o + 1) = ds.take o ++ [ds.getD o 0] := by
    rw [List.take_add_one]
    simp [List.getElem?_eq_getElem (show o < ds.length by omega)]
  simp only [put, h1, List.length_cons]
  rw [List.append_assoc, List.append_assoc, List.set_append_right _ _ (by simp; omega)]
  simp [show min o ds.length = o by omega, show o + 1 + xs.length = o + (xs.length + 1) by omega]

/-- Two rows side by side. -/
theorem put_two (ds : List Int) (o : Nat) (xs ys : List Int) (h : o + xs.length + ys.length ≤ ds.length) : put (put ds o xs) (o + xs.length) ys = put ds o (xs ++ ys) := by
  have hl : (ds.take o ++ xs).length = o + xs.length := by simp; omega
  simp only [put]
  rw [List.take_append_of_le_length (by omega), List.take_of_length_le (by omega), ← hl, List.drop_append, List.drop_of_length_le (by omega), List.nil_append, List.drop_drop]
  simp only [hl, List.length_append, List.append_assoc]
  congr 4
  omega
end Go.Proofs.YtobiapniidaibaaGreatDoor

namespace Go.Proofs.YtobiapniidaibaaGreatDoor
open Go Go.RowKit Go.Deep

theorem alloc_b (w : World) (A : Obj) : Below w.heap.size w (w.alloc A) := Below.alloc (w := w) (Below.refl w.heap.size w) (Nat.le_refl _) A

theorem below_on {a b c : World} (h : Below a.heap.size a b) (k : Below b.heap.size b c) : Below a.heap.size a c := h.trans (k.mono h.size)

/-- Five cells that may be written. -/
def Row5 (w : World) (b t : Nat) (v0 v1 v2 v3 v4 : Value) : Prop := w.heap[b]? = some (.cells #[v0, v1, v2, v3, v4] t (0, 0))

theorem Row5.below {B : Nat} {w w' : World} {b t : Nat} {v0 v1 v2 v3 v4 : Value} (h : Row5 w b t v0 v1 v2 v3 v4) (hB : Below B w w') (hb : b < B) : Row5 w' b t v0 v1 v2 v3 v4 := by
  rw [Row5, hB.block b hb]; exact h

theorem Row5.lt {w : World} {b t : Nat} {v0 v1 v2 v3 v4 : Value} (h : Row5 w b t v0 v1 v2 v3 v4) : b < w.heap.size := by
  rcases Nat.lt_or_ge b w.heap.size with hl | hl
  · exact hl
  · simp [Row5, Array.getElem?_eq_none hl] at h

theorem Row5.cells {w : World} {b t : Nat} {v0 v1 v2 v3 v4 : Value} (h : Row5 w b t v0 v1 v2 v3 v4) :
    (w.cell? ⟨b, 0, none⟩ = some v0 ∧ w.cell? ⟨b, 1, none⟩ = some v1 ∧ w.cell? ⟨b, 2, none⟩ = some v2 ∧ w.cell? ⟨b, 3, none⟩ = some v3 ∧ w.cell? ⟨b, 4, none⟩ = some v4) ∧
    (w.frozen? ⟨b, 0, none⟩ = false ∧ w.frozen? ⟨b, 1, none⟩ = false ∧ w.frozen? ⟨b, 2, none⟩ = false ∧ w.frozen? ⟨b, 3, none⟩ = false ∧ w.frozen? ⟨b, 4, none⟩ = false) := by
  simp only [Row5] at h
  refine ⟨⟨?_, ?_, ?_, ?_, ?_⟩, ⟨?_, ?_, ?_, ?_, ?_⟩⟩ <;> simp [World.cell?, World.frozen?, h]

theorem Row5.new (w : World) (t : Nat) (v0 v1 v2 v3 v4 : Value) : Row5 (w.alloc (.cells #[v0, v1, v2, v3, v4] t)) w.heap.size t v0 v1 v2 v3 v4 := heap_alloc_new w _

theorem set1 {w : World} {b o t : Nat} {v : Value} {c c' : Array Value} (h : w.heap[b]? = some (.cells c t (0, 0))) (e : c.setIfInBounds o v = c') : (w.setCell ⟨b, o, none⟩ v).heap[b]? = some (.cells c' t (0, 0)) := by
  subst e
  simp [World.setCell, Array.getElem?_modify, h]

theorem Row5.set_far {w : World} {b t c o : Nat} {v v0 v1 v2 v3 v4 : Value} (h : Row5 w b t v0 v1 v2 v3 v4) (hc : c ≠ b) : Row5 (w.setCell ⟨c, o, none⟩ v) b t v0 v1 v2 v3 v4 := by
  simp only [Row5] at *
  simp only [World.setCell, Array.getElem?_modify]
  rw [if_neg hc]; exact h

def Exit.jumps (J : Nat → Act → World → Prop) (Q : Exit → Act → World → Prop) : Exit → Act → World → Prop
  | .goto l, a, w => J l a w
  | e, a, w => Q e a w

/-- A scope with labels: what holds at every jump to each (J), and a measure that every pass from a label lowers. -/
theorem wp_scope_labels {P : Program} {a : Act} {w : World} {Q : Exit → Act → World → Prop} {c : Code} (J : Nat → Act → World → Prop) (μ : Nat → Act → World → Nat)
    (first : c.wp P (Exit.jumps J Q) a w)
    (pass : ∀ l a w, J l a w → ∃ rest, findLabel c l = some rest ∧ rest.wp P (Exit.jumps (fun l' a' w' => J l' a' w' ∧ μ l' a' w' < μ l a w) Q) a w) : (Code.scope c).wp P Q a w := by
  intro b k cs
  have key : ∀ n l a w, μ l a w = n → J l a w → ∃ rest, findLabel c l = some rest ∧ ∃ e a' w', Q e a' w' ∧ Arrives P (lone (b.at a (.code rest :: .inScope c :: k)) cs w) b k cs e a' w' := by
    intro n
    induction n using Nat.strongRecOn with
    | _ n ih =>
      intro l a w hn hJ
      obtain ⟨rest, hf, hp⟩ := pass l a w hJ
      refine ⟨rest, hf, ?_⟩
      obtain ⟨e, a₁, w₁, hq, harr⟩ := hp b (.inScope c :: k) cs
      cases e with
      | normal => exact ⟨.normal, a₁, w₁, hq, Steps.trans harr (.one step_inScope)⟩
      | exit id => exact ⟨.exit id, a₁, w₁, hq, fun k' hk => harr k' (by simp [exitTo, hk])⟩
      | goto l' =>
        obtain ⟨hJ', hlt⟩ := hq
        obtain ⟨rest', hf', e₂, a₂, w₂, hq₂, harr₂⟩ := ih _ (by omega) l' a₁ w₁ rfl hJ'
        have hg : gotoIn l' (.inScope c :: k) = some (.code rest' :: .inScope c :: k) := by simp [gotoIn, hf']
        exact ⟨e₂, a₂, w₂, hq₂, .of_steps (harr _ hg) harr₂⟩
      | ret => exact ⟨_, a₁, w₁, hq, harr⟩
      | panic ch => exact ⟨_, a₁, w₁, hq, harr⟩
      | outgrown => exact ⟨_, a₁, w₁, hq, harr⟩
  obtain ⟨e, a₁, w₁, hq, harr⟩ := first b (.inScope c :: k) cs
  cases e with
  | normal => exact ⟨.normal, a₁, w₁, hq, .head step_scope (Steps.trans harr (.one step_inScope))⟩
  | exit id => exact ⟨.exit id, a₁, w₁, hq, fun k' hk => .head step_scope (harr k' (by simp [exitTo, hk]))⟩
  | goto l' =>
    obtain ⟨rest', hf', e₂, a₂, w₂, hq₂, harr₂⟩ := key _ l' a₁ w₁ rfl hq
    have hg : gotoIn l' (.inScope c :: k) = some (.code rest' :: .inScope c :: k) := by simp [gotoIn, hf']
    exact ⟨e₂, a₂, w₂, hq₂, .of_steps (.head step_scope (harr _ hg)) harr₂⟩
  | ret => exact ⟨_, a₁, w₁, hq, .of_steps (.one step_scope) harr⟩
  | panic ch => exact ⟨_, a₁, w₁, hq, .of_steps (.one step_scope) harr⟩
  | outgrown => exact ⟨_, a₁, w₁, hq, .of_steps (.one step_scope) harr⟩
theorem results_row_tmp {P : Program} {fn : Func} {p u : Tmp} {ty : TypeId} (h : fn.results = #[.cell p ty, .tmp u]) (tmps : Array Value) (w : World) (g : Nat) (t : TypeId) (cs : Array Value) (fr : Nat × Nat) (d : TypeDesc)
    (hp : tmps.getD p undef = .pointer (some ⟨g, 0, none⟩)) (hg : w.heap[g]? = some (.cells cs t fr))
    (hu : P.underlying ty = some d) (hd : (match d with | .struct _ | .array _ _ => true | _ => false) = true) (hi : (P.info? ty).map (·.size) = some cs.size) :
    (results fn tmps).run P w = .ok (.tuple #[.agg cs, tmps.getD u undef]) w := by
  rw [results_cell_tmp h, hp]
  simp [asAddr, run_loadVar_row w g t ty cs fr d hg hu hd hi, Result.andThen]

end Go.Proofs.YtobiapniidaibaaGreatDoor

namespace Go.Proofs.YtobiapniidaibaaGreatDoor
open Go.RowKit Go.Deep

/-- s has just these bytes. -/
def Str (s : ByteArray) (xs : List Int) : Prop := s.data.toList.map (fun b => (b.toNat : Int)) = xs

theorem Str.self (s : ByteArray) : Str s (s.data.toList.map (fun b => (b.toNat : Int))) := rfl

theorem Str.size {s : ByteArray} {xs : List Int} (h : Str s xs) : s.size = xs.length := by
  rw [← h, List.length_map, Array.length_toList]
  rfl

theorem Str.at {s : ByteArray} {xs : List Int} (h : Str s xs) (t : Nat) (ht : t < s.size) : ((s[t]'ht).toNat : Int) = xs.getD t 0 := by
  rw [← h]
  have : t < s.data.toList.length := by rw [Array.length_toList]; exact ht
  simp only [List.getD_eq_getElem?_getD, List.getElem?_map, List.getElem?_eq_getElem this, Option.map_some, Option.getD_some]
  rfl

theorem Str.mem {s : ByteArray} {xs : List Int} (h : Str s xs) {x : Int} (hx : x ∈ xs) : 0 ≤ x ∧ x < 256 := by
  rw [← h] at hx
  obtain ⟨b, _, rfl⟩ := List.mem_map.1 hx
  have := b.toNat_lt
  omega

theorem Str.atb {s : ByteArray} {xs : List Int} (h : Str s xs) (t : Nat) : 0 ≤ xs.getD t 0 ∧ xs.getD t 0 < 256 := by
  by_cases ht : t < xs.length
  · have : xs.getD t 0 = xs[t] := by simp [List.getD, ht]
    rw [this]
    exact h.mem (List.getElem_mem ht)
  · rw [show xs.getD t 0 = 0 by simp [List.getD, List.getElem?_eq_none (show xs.length ≤ t by omega)]]
    omega

theorem Str.extract {s : ByteArray} {xs : List Int} (h : Str s xs) (a b : Nat) : Str (s.extract a b) ((xs.drop a).take (b - a)) := by
  unfold Str at *
  rw [← h, ByteArray.data_extract]
  simp [List.map_drop, List.map_take]

theorem Str.of_nums {xs : List Int} (h : ∀ x ∈ xs, 0 ≤ x ∧ x < 256) : Str (strOfNums xs) xs := by
  unfold Str
  rw [strOfNums_data, List.map_map]
  conv => rhs; rw [← List.map_id xs]
  apply List.map_congr_left
  intro x hx
  have := h x hx
  simp only [Function.comp, id]
  rw [UInt8.toNat_ofNat_of_lt' (by show x.toNat < 256; omega)]
  omega

theorem Str.inj {s t : ByteArray} {xs : List Int} (h : Str s xs) (k : Str t xs) : s = t := by
  unfold Str at h k
  have e : s.data.toList = t.data.toList := by
    rw [← k] at h
    exact List.map_inj_right (fun a b hab => by
      have : a.toNat = b.toNat := by omega
      exact UInt8.toNat_inj.1 this) |>.1 h
  cases s
  cases t
  simp only at e
  rw [Array.toList_inj.1 e]

/-- s == t, asked by the bytes. -/
theorem Str.eq {s t : ByteArray} {xs ys : List Int} (h : Str s xs) (k : Str t ys) : (s.toList == t.toList) = decide (xs = ys) := by
  by_cases e : xs = ys
  · subst e
    rw [h.inj k]
    simp
  · rw [decide_eq_false e, beq_eq_false_iff_ne]
    intro c
    apply e
    rw [ByteArray.toList_eq, ByteArray.toList_eq] at c
    rw [← h, ← k, c]
theorem str_nil0 : Str ⟨#[]⟩ [] := rfl
end Go.Proofs.YtobiapniidaibaaGreatDoor



namespace Go.Proofs.YtobiapniidaibaaGreatDoor
open Go.RowKit Go.Deep

set_option maxRecDepth 100000 in
set_option maxHeartbeats 4000000 in
theorem spread_zero (B : Int) (W g o cap cp n c : Nat) (p pm : Option Addr) (za ds : List Int) (V : Int) (w : World) (h2 : 2 ≤ B) (h36 : B ≤ 36) (hW : W ≤ 63) (hd : OwnB w g ds) (hol : o + W ≤ ds.length) (ha : Arg w p n c za) (hV : Nm.val za = V) (hV1 : V < 18446744073709551616) :
    Calls Tryz.prog 117 #[.slice (some ⟨g, o, none⟩) W cap, .slice p n c, .slice pm 0 cp, .int .u64 B] w fun e w' => e = .returned (.tuple #[]) ∧ OwnB w' g (put ds o (Dn.dg B W V)) ∧ Only g w w' := by
  have hB0 : (B == 0) = false := by rw [beq_eq_false_iff_ne]; omega
  have hV0 : 0 ≤ V := by rw [← hV]; exact (Nm.val_bd za ha.2.2.2.2).1
  have TU : Hid (Calls Tryz.prog 136 #[.slice p n c] w fun e w' => e = .returned (.tuple #[.int .u64 V, .bool (decide (Nm.tsize za ≤ 1))]) ∧ w' = w) := by
    have := toUint_any p n c za w ha
    rw [toU_val ha.2.2.2.2 (by rw [hV]; exact hV1), hV] at this
    exact this
  have hWi : (W : Int) ≤ 63 := by omega
  have OB := hid hd
  have HOL := hid hol
  clear ha hV hd hol
  go_enter Tryz.func117, Tryz.ntmps117
  go_wp2_with fail
  refine TU.out.mono ?_
  rintro e w' ⟨rfl, rfl⟩
  clear TU
  go_wp2_with fail
  go_loopw [8, 10] (fun a i wr => ∃ (j : Nat) (N : Int), a = .int .u64 N ∧ i = .int .i64 ((j : Int) - 1) ∧ j ≤ W ∧ 0 ≤ N ∧ N < 18446744073709551616 ∧ Hid (N = V / B ^ (W - j) ∧ OwnB wr g (put ds (o + j) (Dn.dg B (W - j) V)) ∧ Only g w' wr)) (fun _ i _ => (intOf i + 1).toNat)
  case atStart =>
    refine ⟨W, V, rfl, rfl, Nat.le_refl _, hV0, hV1, ?_, ?_, Only.refl _ _⟩
    · rw [Nat.sub_self, Int.pow_zero, Int.ediv_one]
    · rw [Nat.sub_self, Dn.dg, put_nil]
      exact OB.out
  case round =>
    obtain ⟨j, N, rfl, rfl, hj, hN0, hN1, I⟩ := hrel
    cases j with
    | zero =>
      have F : Hid (OwnB wr g (put ds o (Dn.dg B W V)) ∧ Only g w' wr) := ⟨I.out.2.1, I.out.2.2⟩
      clear I
      go_wp2_with fail
      (try simp only [Exit.inBlock, Exit.then])
      refine bodyPost_ret (results_none rfl _ _ _) rfl ?_
      exact ⟨rfl, F.out⟩
    | succ u =>
      rw [show ((u + 1 : Nat) : Int) - 1 = (u : Int) by omega]
      have hu : (u : Int) < (W : Int) := by omega
      have hB1 : 0 < B := by omega
      obtain ⟨d, hd⟩ : ∃ d, N % B = d := ⟨_, rfl⟩
      obtain ⟨M, hM⟩ : ∃ M, N / B = M := ⟨_, rfl⟩
      have hd0 : 0 ≤ d := by rw [← hd]; exact Int.emod_nonneg _ (by omega)
      have hd1 : d < 36 := by have := Int.emod_lt_of_pos N hB1; omega
      have hM0 : 0 ≤ M := by rw [← hM]; exact Int.ediv_nonneg hN0 (by omega)
      have hM1 : M < 18446744073709551616 := by have := Int.ediv_le_self B hN0; omega
      have hlen : (put ds (o + (u + 1)) (Dn.dg B (W - (u + 1)) V)).length = ds.length := put_length _ _ _ (by rw [Dn.dg_length]; have := HOL.out; omega)
      have ST : Hid (∀ wq, Below wr.heap.size wr wq → OwnB (wq.setCell ⟨g, o + u, none⟩ (.int .u8 d)) g (put ds (o + u) (Dn.dg B (W - u) V)) ∧ Only g w' (wq.setCell ⟨g, o + u, none⟩ (.int .u8 d))) := by
        intro wq hb
        have h1 := (I.out.2.1.below hb I.out.2.1.lt).set (o + u) d
        rw [show o + (u + 1) = o + u + 1 by omega, put_head _ _ _ _ (by rw [Dn.dg_length]; have := HOL.out; omega)] at h1
        have e1 : d :: Dn.dg B (W - (u + 1)) V = Dn.dg B (W - u) V := by
          rw [show W - u = W - (u + 1) + 1 by omega, Dn.dg_head hB1, ← I.out.1, hd, Dn.dg_mod hB1]
        rw [e1] at h1
        exact ⟨h1, (I.out.2.2.trans (Only.of_below hb)).trans (Only.set _ _)⟩
      have EM : Hid (M = V / B ^ (W - u)) := by
        show _ = _
        rw [← hM, I.out.1, show W - u = W - (u + 1) + 1 by omega, Int.pow_succ, Int.ediv_ediv_of_nonneg (Int.le_of_lt (Int.pow_pos hB1))]
      obtain ⟨y, hy⟩ : ∃ y, wr.cell? ⟨g, o + u, none⟩ = some (.int .u8 y) := ⟨_, I.out.2.1.cell (o + u) (by rw [hlen]; have := HOL.out; omega)⟩
      have hfr := I.out.2.1.free (o + u)
      clear I hlen
      go_wp2_with fail
      go_region
      all_goals
        go_wp2
        go_roundw
        case rel => exact ⟨u, M, by first | rfl | rw [hM], by go_num, by omega, hM0, hM1, EM.out, ST.out _ (below_drewN (Below.refl _ _) _)⟩
        case measure => simp [intOf]
end Go.Proofs.YtobiapniidaibaaGreatDoor

namespace Go.Proofs.YtobiapniidaibaaGreatDoor
open Go.RowKit Go.Deep

/-- j zeros stand at the head, and then another digit. -/
structure Lead (ds : List Int) (j : Nat) : Prop where
  zero : ∀ i, i < j → ds.getD i 0 = 0
  next : ds.getD j 0 ≠ 0

theorem Lead.strip : ∀ {ds : List Int} {j : Nat}, Lead ds j → Dn.strip ds = ds.drop j
  | [], j, h => absurd (by simp) h.next
  | d :: ds, 0, h => by
    have := h.next
    simp at this
    simp [Dn.strip, this]
  | d :: ds, j + 1, h => by
    have h0 := h.zero 0 (by omega)
    simp at h0
    subst h0
    have ih : Lead ds j := ⟨fun i hi => by have := h.zero (i + 1) (by omega); simpa using this, by have := h.next; simpa using this⟩
    have := Lead.strip ih
    simp only [Dn.strip, List.dropWhile_cons, decide_true, if_true, List.drop_succ_cons] at this ⊢
    exact this

theorem Lead.lt {ds : List Int} {j : Nat} (h : Lead ds j) : j < ds.length := by
  rcases Nat.lt_or_ge j ds.length with c | c
  · exact c
  · exact absurd (by simp [List.getD, List.getElem?_eq_none c]) h.next

theorem Lead.ex : ∀ {ds : List Int}, Dn.strip ds ≠ [] → ∃ j, Lead ds j
  | [], h => absurd rfl h
  | d :: ds, h => by
    by_cases c : d = 0
    · subst c
      have : Dn.strip ds ≠ [] := by simpa [Dn.strip] using h
      obtain ⟨j, hj⟩ := Lead.ex this
      refine ⟨j + 1, fun i hi => ?_, by simpa using hj.next⟩
      cases i with
      | zero => simp
      | succ i => simpa using hj.zero i (by omega)
    · exact ⟨0, fun i hi => by omega, by simpa using c⟩

set_option maxRecDepth 100000 in
set_option maxHeartbeats 1000000 in
theorem btrim1_any (g n J : Nat) (ds : List Int) (w : World) (hd : OwnB w g ds) (hn : ds.length = n) (hJ : Lead ds J) :
    Calls Tryz.prog 138 #[.slice (some ⟨g, 0, none⟩) n n, .int .u8 0] w fun e w' => e = .returned (.slice (some ⟨g, J, none⟩) (n - J) (n - J)) ∧ w' = w := by
  have HJ := hid hJ
  have HL : Hid (J < n) := by show _ < _; have := hJ.lt; omega
  have HO := hid hd
  have HN := hid hn
  clear hd hn hJ
  go_enter Tryz.func138, Tryz.ntmps138
  go_wp2_with fail
  go_loop [0] (fun s => ∃ j m : Nat, s = .slice (some ⟨g, j, none⟩) m m ∧ j ≤ J ∧ Hid (j + m = n)) (fun s => match s with | .slice _ m _ => m | _ => 0)
  case atStart => exact ⟨0, n, rfl, Nat.zero_le _, by show _ = _; omega⟩
  case round =>
    obtain ⟨j, m, rfl, hj, E⟩ := hrel
    have hm : 0 < m := by have := E.out; have := HL.out; omega
    have hmi : (0 : Int) < (m : Int) := by omega
    have hmz : ((m : Int) == 0) = false := by rw [beq_eq_false_iff_ne]; omega
    have hm1 : 1 ≤ m := by omega
    obtain ⟨x, hx, X⟩ : ∃ x, w.cell? ⟨g, j, none⟩ = some (.int .u8 x) ∧ Hid (x = ds.getD j 0) := ⟨_, HO.out.cell j (by have := E.out; have := HN.out; omega), rfl⟩
    by_cases hlt : j < J
    · have hx0 : x = 0 := by rw [X.out]; exact HJ.out.zero j hlt
      subst hx0
      go_wp2_with fail
      go_round
      case rel => exact ⟨j + 1, m - 1, by rw [if_neg (by have := E.out; have := HL.out; omega)], by omega, by show _ = _; have := E.out; omega⟩
      case measure => simp; omega
    · obtain rfl : j = J := by omega
      have hx0 : (x == 0) = false := by rw [beq_eq_false_iff_ne, X.out]; exact HJ.out.next
      obtain rfl : m = n - j := by have := E.out; omega
      go_wp2_with fail
      go_ret
      exact ⟨rfl, rfl⟩

set_option maxRecDepth 100000 in
theorem btrim_any (g n J : Nat) (ds : List Int) (w : World) (hd : OwnB w g ds) (hn : ds.length = n) (hJ : Lead ds J) :
    Calls Tryz.prog 118 #[.slice (some ⟨g, 0, none⟩) n n, .string ⟨#[0]⟩] w fun e w' => e = .returned (.slice (some ⟨g, J, none⟩) (n - J) (n - J)) ∧ w' = w := by
  have T := hid (btrim1_any g n J ds w hd hn hJ)
  have hz : ((n : Int) == 0) = false := by rw [beq_eq_false_iff_ne]; have := hJ.lt; omega
  clear hd hn hJ
  go_enter Tryz.func118, Tryz.ntmps118
  go_wp2_with fail
  refine T.out.mono ?_
  rintro e w' ⟨rfl, rfl⟩
  go_wp2_with fail
  go_ret
  exact ⟨rfl, rfl⟩
end Go.Proofs.YtobiapniidaibaaGreatDoor

namespace Go.Proofs.YtobiapniidaibaaGreatDoor
open Go.RowKit Go.Deep

/-- s' is s without some zeros at its head, and opens with none. -/
def Bared (xs : List Int) (s' : ByteArray) (j : Nat) : Prop := Str s' (xs.drop j) ∧ j ≤ xs.length ∧ (∀ i, i < j → xs.getD i 0 = 48)

def STold (xs : List Int) (e : Ending) : Prop := ∃ s' j, e = .returned (.string s') ∧ Bared xs s' j ∧ (j < xs.length → xs.getD j 0 ≠ 48)

set_option maxRecDepth 100000 in
set_option maxHeartbeats 1000000 in
theorem strim1_any (s : ByteArray) (xs : List Int) (w : World) (hs : Str s xs) (hn1 : xs.length ≤ 562949953421312) :
    Calls Tryz.prog 122 #[.string s, .int .u8 48] w fun e w' => STold xs e ∧ w' = w := by
  have HS := hid hs
  have HN := hid hn1
  clear hs hn1
  go_enter Tryz.func122, Tryz.ntmps122
  go_wp2_with fail
  go_loop [0] (fun c => ∃ s' j, c = .string s' ∧ Hid (Bared xs s' j)) (fun c => match c with | .string s' => s'.size | _ => 0)
  case atStart => exact ⟨s, 0, rfl, HS.out, Nat.zero_le _, fun i hi => by omega⟩
  case round =>
    obtain ⟨s', j, rfl, I⟩ := hrel
    obtain ⟨m, HM⟩ : ∃ m, Hid (s'.size = m) := ⟨_, rfl⟩
    have hsz : s'.size = m := HM.out
    have hjm : Hid (j + m = xs.length) := by show _ = _; have := I.out.1.size; have := I.out.2.1; have := HM.out; simp at *; omega
    have hmb : (m : Int) ≤ 562949953421312 := by have := HN.out; have := hjm.out; omega
    by_cases h0 : m = 0
    · subst h0
      have F : Hid (STold xs (.returned (.string s'))) := ⟨s', j, rfl, I.out, fun h => by have := hjm.out; omega⟩
      clear I
      go_wp2_with fail
      go_ret
      exact ⟨F.out, rfl⟩
    · have hm : 0 < m := by omega
      have hmi : (0 : Int) < (m : Int) := by omega
      obtain ⟨x, X⟩ : ∃ x, Hid (xs.getD j 0 = x) := ⟨_, rfl⟩
      have hx : ∀ h : 0 < s'.size, ((s'[0]'h).toNat : Int) = x := fun h => by rw [I.out.1.at 0 h, ← X.out]; simp [List.getD]
      by_cases hd : x = 48
      · subst hd
        have F : Hid (Bared xs (s'.extract 1 s'.size) (j + 1)) := by
          refine ⟨?_, by have := hjm.out; omega, fun i hi => ?_⟩
          · have := I.out.1.extract 1 s'.size
            rw [List.drop_drop, List.take_of_length_le (by have := hjm.out; have := HM.out; simp; omega)] at this
            exact this
          · by_cases e : i = j
            · subst e; exact X.out
            · exact I.out.2.2 i (by omega)
        rw [hsz] at F
        have SZ : Hid ((s'.extract 1 m).size < s'.size) := by
          show _ < _
          have e1 := F.out.1.size
          have e2 := HM.out
          have e3 := hjm.out
          simp only [List.length_drop] at e1
          omega
        clear I
        go_wp2_with fail
        go_round
        case rel => exact ⟨_, _, rfl, F.out⟩
        case measure => exact SZ.out
      · have hd2 : (x == 48) = false := by rw [beq_eq_false_iff_ne]; exact hd
        have F : Hid (STold xs (.returned (.string s'))) := ⟨s', j, rfl, I.out, fun _ => by rw [X.out]; exact hd⟩
        clear I
        go_wp2_with fail
        go_ret
        exact ⟨F.out, rfl⟩

set_option maxRecDepth 100000 in
theorem strim_any (s : ByteArray) (xs : List Int) (w : World) (hs : Str s xs) (hn1 : xs.length ≤ 562949953421312) :
    Calls Tryz.prog 93 #[.string s, .string ⟨#[48]⟩] w fun e w' => STold xs e ∧ w' = w := by
  have T := hid (strim1_any s xs w hs hn1)
  by_cases h : xs = []
  · have F : Hid (STold xs (.returned (.string s))) := ⟨s, 0, rfl, ⟨by simpa using hs, Nat.zero_le _, fun i hi => by omega⟩, fun hlt => by rw [h] at hlt; simp at hlt⟩
    have hs0 : s = ⟨#[]⟩ := hs.inj (by rw [h]; rfl)
    subst hs0
    clear hs hn1 h
    go_enter Tryz.func93, Tryz.ntmps93
    go_wp2_with fail
    go_ret
    exact ⟨F.out, rfl⟩
  · have e0 := hs.eq (t := ⟨#[]⟩) (ys := []) rfl
    rw [decide_eq_false h] at e0
    have e1 : s.toList ≠ [] := by
      intro c
      apply h
      rw [ByteArray.toList_eq] at c
      rw [← hs, c]
      rfl
    have e2 : (s.toList == []) = false := by rw [beq_eq_false_iff_ne]; exact e1
    have e3 : s.toList.isEmpty = false := by rw [List.isEmpty_eq_false_iff]; exact e1
    clear hs hn1 h
    go_enter Tryz.func93, Tryz.ntmps93
    go_wp2_with fail
    refine T.out.mono ?_
    rintro e w' ⟨h1, rfl⟩
    obtain ⟨s', j, rfl, h2⟩ := h1
    have F : Hid (STold xs (.returned (.string s'))) := ⟨s', j, rfl, h2⟩
    clear h2 T
    go_wp2_with fail
    go_ret
    exact ⟨F.out, rfl⟩
end Go.Proofs.YtobiapniidaibaaGreatDoor

namespace Go.Proofs.YtobiapniidaibaaGreatDoor
open Go.RowKit Go.Deep Go.Shelf

def vcloneRen : Go.Shelf.Ren := ⟨fun _ => 94, fun t => if t = 37 then 32 else if t = 47 then 160 else if t = 5 then 5 else if t = 9 then 9 else if t = 3 then 3 else t, fun g => g⟩
theorem vcloneLays : LaysPu.n25 Tryz.prog vcloneRen where
  mixed := by kernel_rfl
  f25 := by kernel_rfl
  t0 := by kernel_rfl
  a0 := fun _ => by kernel_rfl
  z0 := fun _ => by kernel_rfl
  v0 := fun _ => by kernel_rfl
  i0 := by kernel_rfl
  t3 := by kernel_rfl
  a3 := fun _ => by kernel_rfl
  z3 := fun _ => by kernel_rfl
  v3 := fun _ => by kernel_rfl
  i3 := by kernel_rfl
  t4 := by kernel_rfl
  a4 := fun _ => by kernel_rfl
  z4 := fun _ => by kernel_rfl
  v4 := fun _ => by kernel_rfl
  i4 := by kernel_rfl
  t5 := by kernel_rfl
  a5 := fun _ => by kernel_rfl
  z5 := fun _ => by kernel_rfl
  v5 := fun _ => by kernel_rfl
  i5 := by kernel_rfl
  t9 := by kernel_rfl
  a9 := fun _ => by kernel_rfl
  z9 := fun _ => by kernel_rfl
  v9 := fun _ => by kernel_rfl
  i9 := by kernel_rfl
  t37 := by kernel_rfl
  a37 := fun _ => by kernel_rfl
  z37 := fun _ => by kernel_rfl
  v37 := fun _ => by kernel_rfl
  i37 := by kernel_rfl
  t47 := by kernel_rfl
  a47 := fun _ => by kernel_rfl
  z47 := fun _ => by kernel_rfl
  v47 := fun _ => by kernel_rfl
  i47 := by kernel_rfl

theorem vclone_any (s : ByteArray) (w : World) (hs : s.size ≤ 281474976710656) : Calls Tryz.prog 70 #[.string s] w fun e w' => e = .returned (.string s) ∧ Below w.heap.size w w' := by
  have C : Hid (Calls Tryz.prog 94 #[.string s] w fun e w' => e = .returned (.string s) ∧ Below w.heap.size w w') := AnyPu.stringslite_Clone vcloneLays s w (by omega)
  go_enter Tryz.func70, Tryz.ntmps70
  go_wp2_with fail
  refine C.out.mono ?_
  rintro e w1 ⟨rfl, d1⟩
  have D := hid d1
  clear d1
  go_wp2_with fail
  go_ret
  exact ⟨rfl, D.out⟩
end Go.Proofs.YtobiapniidaibaaGreatDoor

namespace Go.Proofs.YtobiapniidaibaaGreatDoor
open Go Go.RowKit Go.Deep

theorem vret_bool {a b : Bool} (h : a = b) : Ending.returned (.bool a) = .returned (.bool b) := by rw [h]

theorem digit_any (x : Int) (w : World) (h0 : 0 ≤ x) (h1 : x < 256) : Calls Tryz.prog 68 #[.int .u8 x] w fun e w' => e = .returned (.bool (Sc.dg x)) ∧ w' = w := by
  go_enter Tryz.func68, Tryz.ntmps68
  go_wp2
  all_goals (go_ret; refine ⟨vret_bool ?_, rfl⟩)
  all_goals (rw [Bool.eq_iff_iff]; simp [Sc.dg]; omega)

theorem Str.pk {s : ByteArray} {xs : List Int} (h : Str s xs) (t : Nat) : ∀ ht : t < s.size, ((s[t]'ht).toNat : Int) = Sc.pk xs t := fun ht => h.at t ht
end Go.Proofs.YtobiapniidaibaaGreatDoor

namespace Go.Proofs.YtobiapniidaibaaGreatDoor
open Go Go.RowKit Go.Deep Go.Shelf

def compLays_ren : Go.Shelf.Ren := ⟨fun | 106 => 97 | 213 => 126 | 265 => 147 | n => n, fun | 9 => 9 | 3 => 3 | n => n, fun | n => n⟩
theorem compLays : Go.Proofs.Lays.n106 Tryz.prog compLays_ren := {
  mixed := by kernel_rfl
  f106 := Tryz.func97.trans (congrArg some (by kernel_rfl))
  f213 := Tryz.func126.trans (congrArg some (by kernel_rfl))
  f265 := Tryz.func147.trans (congrArg some (by kernel_rfl))
  t3 := Tryz.underlying3
  a3 := Tryz.isAgg3
  z3 := Tryz.sizeOf3
  v3 := Tryz.zeroValue3
  t9 := Tryz.underlying9
  a9 := Tryz.isAgg9
  z9 := Tryz.sizeOf9
  v9 := Tryz.zeroValue9 }

theorem lex_bytes (a b : List UInt8) : Lib.compareBytes a b = Sc.lex (a.map fun x => (x.toNat : Int)) (b.map fun x => (x.toNat : Int)) := by
  induction a generalizing b with
  | nil => cases b <;> rfl
  | cons x a ih =>
    cases b with
    | nil => rfl
    | cons y b =>
      simp only [Lib.compareBytes, List.map_cons, Sc.lex, ih]
      have h1 : (x < y) ↔ ((x.toNat : Int) < (y.toNat : Int)) := by rw [UInt8.lt_iff_toNat_lt]; omega
      have h2 : (y < x) ↔ ((y.toNat : Int) < (x.toNat : Int)) := by rw [UInt8.lt_iff_toNat_lt]; omega
      simp only [h1, h2]

theorem scompare_any (s t : ByteArray) (xs ys : List Int) (w : World) (hs : Str s xs) (ht : Str t ys) :
    Calls Tryz.prog 97 #[.string s, .string t] w fun e w' => e = .returned (.int .i64 (Sc.lex xs ys)) ∧ w' = w := by
  refine (Any.strings_Compare compLays s t w).mono ?_
  rintro e w' ⟨rfl, rfl⟩
  rw [lex_bytes]
  unfold Str at hs ht
  rw [hs, ht]
  exact ⟨rfl, rfl⟩
end Go.Proofs.YtobiapniidaibaaGreatDoor

namespace Go.Proofs.YtobiapniidaibaaGreatDoor
open Go Go.RowKit Go.Deep

theorem isnan_any (x : Int) (w : World) : Calls Tryz.prog 125 #[.int .i64 x] w fun e w' => e = .returned (.bool false) ∧ w' = w := by
  have h : (x != x) = false := by simp
  go_enter Tryz.func125, Tryz.ntmps125
  go_wp2_with fail
  go_ret
  exact ⟨by simp, rfl⟩

theorem cmpint_any (x y : Int) (w : World) : Calls Tryz.prog 96 #[.int .i64 x, .int .i64 y] w fun e w' => e = .returned (.int .i64 (Sc.cmpI x y)) ∧ w' = w := by
  have X := hid (fun wx => isnan_any x wx)
  have Y := hid (fun wx => isnan_any y wx)
  have C := hid (Sc.cmpI_c x y)
  go_enter Tryz.func96, Tryz.ntmps96
  go_wp2_with fail
  refine (X.out _).mono ?_
  rintro e w1 ⟨rfl, rfl⟩
  go_wp2_with fail
  refine (Y.out _).mono ?_
  rintro e w1 ⟨rfl, rfl⟩
  go_wp2_with fail
  all_goals (go_ret; exact ⟨congrArg (fun z => Ending.returned (.int .i64 z)) (by have := C.out; omega), rfl⟩)
end Go.Proofs.YtobiapniidaibaaGreatDoor

namespace Go.Proofs.YtobiapniidaibaaGreatDoor
open Go Go.RowKit Go.Deep

/-- What the search tells. -/
def SrTold (p : Nat → Bool) (w : World) (e : Ending) (w' : World) : Prop := ∃ f : Nat, e = .returned (.int .i64 f) ∧ f ≤ 16 ∧ (0 < f → p (f - 1) = false) ∧ (f < 16 → p f = true) ∧ Below w.heap.size w w'

set_option maxRecDepth 100000 in
set_option maxHeartbeats 4000000 in
theorem search_any (g : Nat) (cb : Array Value) (p : Nat → Bool) (w : World) (eg : ∀ args w, (callFunc g args).run Tryz.prog w = .ok (.enter g args) w)
    (hf : ∀ (wx : World) (i : Nat), Below w.heap.size w wx → i < 16 → Calls Tryz.prog g (#[.int .i64 i] ++ cb) wx fun e w' => e = .returned (.bool (p i)) ∧ Below wx.heap.size wx w') :
    Calls Tryz.prog 20 #[.int .i64 16, .func (.func g) #[] cb] w fun e w' => SrTold p w e w' := by
  have HF := hid hf
  clear hf
  go_enter Tryz.func20, Tryz.ntmps20
  go_wp2_with fail
  go_loopg [5, 6] 16 (fun kx s5 s6 wr => ∃ (lo hi : Nat), s5 = .int .i64 lo ∧ s6 = .int .i64 hi ∧ lo ≤ hi ∧ hi ≤ 16 ∧ hi - lo ≤ kx ∧ Hid (Below w.heap.size w wr ∧ (0 < lo → p (lo - 1) = false) ∧ (hi < 16 → p hi = true)))
  case atStart => exact ⟨0, 16, rfl, rfl, by omega, by omega, by omega, (⟨Below.refl _ _, fun h => absurd h (by decide), fun h => absurd h (by decide)⟩ : Below w.heap.size w w ∧ (0 < 0 → p (0 - 1) = false) ∧ (16 < 16 → p 16 = true))⟩
  case round =>
    obtain ⟨lo, hi, rfl, rfl, hlh, hin, hg, I⟩ := hrel
    by_cases hlt : lo < hi
    · have hc := HF.out _ ((lo + hi) / 2) I.out.1 (by omega)
      rw [show (((lo + hi) / 2 : Nat) : Int) = ((lo : Int) + (hi : Int)) / 2 by omega] at hc
      cases hp : p ((lo + hi) / 2) <;> rw [hp] at hc
      · have HP := hid hp
        clear hp
        go_wp2_with (go_at_fn g; refine hc.mono ?_; rintro e w' ⟨rfl, hB⟩)
        go_roundg (hi - ((lo + hi) / 2 + 1))
        case measure => omega
        case rel =>
          have I2 : Hid (Below w.heap.size w w' ∧ (0 < (lo + hi) / 2 + 1 → p ((lo + hi) / 2 + 1 - 1) = false) ∧ (hi < 16 → p hi = true)) := ⟨I.out.1.trans (hB.mono I.out.1.size), fun _ => by rw [Nat.add_sub_cancel]; exact HP.out, I.out.2.2⟩
          exact ⟨(lo + hi) / 2 + 1, hi, by rw [show ((lo : Int) + (hi : Int)) / 2 + 1 = (((lo + hi) / 2 + 1 : Nat) : Int) by omega], rfl, by omega, hin, Nat.le_refl _, I2⟩
      · have HP := hid hp
        clear hp
        go_wp2_with (go_at_fn g; refine hc.mono ?_; rintro e w' ⟨rfl, hB⟩)
        go_roundg ((lo + hi) / 2 - lo)
        case measure => omega
        case rel =>
          have I2 : Hid (Below w.heap.size w w' ∧ (0 < lo → p (lo - 1) = false) ∧ ((lo + hi) / 2 < 16 → p ((lo + hi) / 2) = true)) := ⟨I.out.1.trans (hB.mono I.out.1.size), I.out.2.1, fun _ => HP.out⟩
          exact ⟨lo, (lo + hi) / 2, rfl, by rw [show ((lo : Int) + (hi : Int)) / 2 = (((lo + hi) / 2 : Nat) : Int) by omega], by omega, by omega, Nat.le_refl _, I2⟩
    · obtain rfl : hi = lo := by omega
      have K : Hid (SrTold p w (.returned (.int .i64 (hi : Int))) wr) := ⟨hi, rfl, hin, I.out.2.1, I.out.2.2, I.out.1⟩
      clear I HF
      go_wp2_with fail
      go_ret
      exact K.out
end Go.Proofs.YtobiapniidaibaaGreatDoor
