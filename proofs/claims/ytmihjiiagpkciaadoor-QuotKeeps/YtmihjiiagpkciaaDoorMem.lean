/-
  WHAT LIES IN MEMORY: a list of limbs that is only read (Lies), a list in a block of the call's own (Own); what stays of both behind other work.
-/
import Derived.Test.YtmihjiiagpkciaaDoorRows
import Derived.Test.YtmihjiiagpkciaaDoorNums
import Derived.WalkKit
import Derived.WalkSpells
import Derived.Deep.OwnRows
import Derived.Laws.CopyRow
import Derived.Laws.IdiomCopy
import Derived.Laws.AppendOwn
import Derived.Laws.MakeOwn
import Derived.OpenShut
namespace Go.Proofs.YtmihjiiagpkciaaDoor
open Go.RowKit Go.Deep

theorem hid {p : Prop} (h : p) : Hid p := h

theorem cell_lt {w : World} {a : Addr} {v : Value} (h : w.cell? a = some v) : a.block < w.heap.size := by
  rcases Nat.lt_or_ge a.block w.heap.size with hl | hl
  · exact hl
  · simp [World.cell?, Array.getElem?_eq_none hl] at h

/-- The limbs zs lie at p (nowhere, where there are none). -/
def Lies (w : World) (p : Option Addr) (zs : List Int) : Prop :=
  zs = [] ∨ ∃ b off, p = some ⟨b, off, none⟩ ∧ ∀ i, i < zs.length → w.cell? ⟨b, off + i, none⟩ = some (.int .u64 (zs.getD i 0))

/-- The limbs zs are the whole of block g, which may be written. -/
def Own (w : World) (g : Nat) (zs : List Int) : Prop := w.heap[g]? = some (.cells (zs.map (Value.int .u64)).toArray 26 (0, 0))

theorem Lies.nil (w : World) (p : Option Addr) : Lies w p [] := .inl rfl

theorem Lies.take {w : World} {p : Option Addr} {zs : List Int} (h : Lies w p zs) (k : Nat) : Lies w p (zs.take k) := by
  rcases h with rfl | ⟨b, off, hp, h⟩
  · exact .inl (by simp)
  · refine .inr ⟨b, off, hp, fun i hi => ?_⟩
    rw [List.length_take] at hi
    rw [h i (by omega), Nm.getD_take, if_pos (by omega)]

theorem Lies.trim {w : World} {p : Option Addr} {zs : List Int} (h : Lies w p zs) : Lies w p (Nm.trim zs) := h.take _

theorem Lies.below {w w' : World} {B : Nat} {p : Option Addr} {zs : List Int} (h : Lies w p zs) (hb : Below B w w') (hB : w.heap.size ≤ B) : Lies w' p zs := by
  rcases h with rfl | ⟨b, off, hp, h⟩
  · exact .inl rfl
  · refine .inr ⟨b, off, hp, fun i hi => ?_⟩
    have hc := h i hi
    have hlt : b < w.heap.size := cell_lt hc
    rw [hb.cell (p := ⟨b, off + i, none⟩) (Nat.lt_of_lt_of_le hlt hB)]
    exact hc

theorem Own.cell {w : World} {g : Nat} {zs : List Int} (h : Own w g zs) (i : Nat) (hi : i < zs.length) : w.cell? ⟨g, i, none⟩ = some (.int .u64 (zs.getD i 0)) := by
  simp only [Own] at h
  simp [World.cell?, h, List.getD, hi]

theorem Own.free {w : World} {g : Nat} {zs : List Int} (h : Own w g zs) (i : Nat) : w.frozen? ⟨g, i, none⟩ = false := by
  simp only [Own] at h
  simp [World.frozen?, h]

theorem Own.lies {w : World} {g : Nat} {zs : List Int} (h : Own w g zs) : Lies w (some ⟨g, 0, none⟩) zs :=
  .inr ⟨g, 0, rfl, fun i hi => by rw [Nat.zero_add]; exact h.cell i hi⟩

theorem Own.lt {w : World} {g : Nat} {zs : List Int} (h : Own w g zs) : g < w.heap.size := by
  rcases Nat.lt_or_ge g w.heap.size with hl | hl
  · exact hl
  · simp [Own, Array.getElem?_eq_none hl] at h

theorem Own.set {w : World} {g : Nat} {zs : List Int} (h : Own w g zs) (i : Nat) (s : Int) : Own (w.setCell ⟨g, i, none⟩ (.int .u64 s)) g (zs.set i s) := by
  have hl := h.lt
  simp only [Own] at h ⊢
  simp [World.setCell, Array.getElem?_modify, h, List.map_set]

theorem Own.below {w w' : World} {B g : Nat} {zs : List Int} (h : Own w g zs) (hb : Below B w w') (hg : g < B) : Own w' g zs := by
  simp only [Own] at h ⊢
  rw [hb.block g hg, h]

theorem Own.alloc (w : World) (zs : List Int) : Own (w.alloc (.cells (zs.map (Value.int .u64)).toArray 26)) w.heap.size zs := by
  show (w.heap.push _)[w.heap.size]? = _
  rw [Array.getElem?_push, if_pos rfl]

theorem made_zero (n : Nat) : madeCells #[Value.int .u64 0] n = ((List.replicate n (0 : Int)).map (Value.int .u64)).toArray := by
  apply Array.toList_inj.1
  rw [toList_madeCells_one]
  simp

/-- The longest list that can come in has at most 2^44 limbs. -/
def Arg (w : World) (p : Option Addr) (n cap : Nat) (zs : List Int) : Prop := zs.length = n ∧ n ≤ cap ∧ cap ≤ 17592186044000 ∧ Lies w p zs ∧ Nm.Limbs zs

theorem Arg.below {B : Nat} {w w' : World} {p : Option Addr} {n cap : Nat} {zs : List Int} (h : Arg w p n cap zs) (hb : Below B w w') (hB : w.heap.size ≤ B) : Arg w' p n cap zs :=
  ⟨h.1, h.2.1, h.2.2.1, h.2.2.2.1.below hb hB, h.2.2.2.2⟩

theorem Lies.lt {w : World} {p : Option Addr} {zs : List Int} (h : Lies w p zs) (h0 : 0 < zs.length) : ∀ a, p = some a → a.block < w.heap.size := by
  intro a ha
  rcases h with rfl | ⟨b, off, hp, h⟩
  · simp at h0
  · rw [hp] at ha
    cases ha
    exact cell_lt (h 0 h0)

/-- What is answered: the trimmed list of the number n, in memory that is new since block B. -/
def Ans (B : Nat) (w : World) (p : Option Addr) (ys : List Int) (n : Int) : Prop :=
  Lies w p ys ∧ Nm.Limbs ys ∧ Nm.tsize ys = ys.length ∧ Nm.val ys = n ∧ ∀ a, p = some a → B ≤ a.block ∧ (0 < ys.length → ∀ o, w.frozen? ⟨a.block, o, none⟩ = false)

theorem Ans.below {B B' : Nat} {w w' : World} {p : Option Addr} {ys : List Int} {n : Int} (h : Ans B w p ys n) (hb : Below B' w w') (hB : w.heap.size ≤ B') : Ans B w' p ys n :=
  ⟨h.1.below hb hB, h.2.1, h.2.2.1, h.2.2.2.1, fun a ha => ⟨(h.2.2.2.2 a ha).1, fun h0 o => by
    have hf := (h.2.2.2.2 a ha).2 h0 o
    have hlt : a.block < w.heap.size := by
      rcases h.1 with c | ⟨b, off, hp, hc⟩
      · rw [c] at h0; simp at h0
      · rw [hp] at ha
        cases ha
        exact cell_lt (hc 0 h0)
    rw [hb.frozen (p := ⟨a.block, o, none⟩) (Nat.lt_of_lt_of_le hlt hB)]
    exact hf⟩⟩

theorem Ans.arg {B : Nat} {w : World} {p : Option Addr} {ys : List Int} {n : Int} (h : Ans B w p ys n) (hs : ys.length ≤ 17592186044000) : Arg w p ys.length ys.length ys :=
  ⟨rfl, Nat.le_refl _, hs, h.1, h.2.1⟩

theorem info64 : (Tryd.prog.info? 26).map (fun i => (i.zero, i.size, i.bytes)) = some (some (.int .u64 0), 1, 8) := by kernel_rfl
theorem size64 : (Tryd.prog.info? 26).map (·.size) = some 1 := by kernel_rfl

/-- make([]uint64, n), n a natural. -/
theorem make64 (n : Nat) (h : n ≤ 35184372088832) (w : World) :
    (Instr.makeSlice 24 (.int .i64 (n : Int)) (.int .i64 (n : Int))).run Tryd.prog w = .ok (.slice (some ⟨w.heap.size, 0, none⟩) n n) (w.alloc (.cells (madeCells #[.int .u64 0] n) 26)) :=
  run_make_row' 24 26 (.int .u64 0) 8 Tryd.underlying24 info64 rfl .i64 .i64 n (by omega) (by omega) w

theorem ints_oneCell64 (zs : List Int) : ∀ v ∈ zs.map (Value.int .u64), v.oneCell' = true := by
  intro v hv
  obtain ⟨z, _, rfl⟩ := List.mem_map.1 hv
  rfl

/-- copy(out, a): out a block of our own, at least as long. -/
theorem copy64 (g k : Nat) (ds : List Int) (p : Option Addr) (n cap : Nat) (zs : List Int) (ty : TypeId) (w : World) (hk : ds.length = k) (hn : zs.length = n) (hle : n ≤ k) (ho : Own w g ds) (hl : Lies w p zs) :
    ∃ w', (Builtin.copy_ #[24, 24] ty #[.slice (some ⟨g, 0, none⟩) k k, .slice p n cap]).run Tryd.prog w = .ok (.int .i64 (n : Int)) w' ∧ Own w' g (zs ++ ds.drop n) ∧ Below g w w' ∧ w'.heap.size = w.heap.size := by
  rcases hl with rfl | ⟨b, off, rfl, hcell⟩
  · have hn0 : n = 0 := by simpa using hn.symm
    subst hn0
    refine ⟨w, ?_, by simpa using ho, Below.refl _ _, rfl⟩
    exact run_copy_none w 24 24 ty 26 _ _ _ _ _ _ Tryd.underlying24 size64 (by simp)
  · have hr := run_copy_row (P := Tryd.prog) w 24 24 ty 26 g 0 k k ⟨b, off, none⟩ n cap (ds.map (Value.int .u64)).toArray 26 (zs.map (Value.int .u64)) Tryd.underlying24 size64 ho
      (by rw [List.length_map, hn]; exact (Nat.min_eq_left hle).symm)
      (fun j v hv => by
        simp only [List.getElem?_map, Option.map_eq_some_iff] at hv
        obtain ⟨z, hz, rfl⟩ := hv
        have hj : j < zs.length := (List.getElem?_eq_some_iff.1 hz).1
        rw [Go.WideShapes.add_plain, hcell j hj]
        simp [List.getD, hz])
      (by simp; omega) (ints_oneCell64 zs)
    rw [List.length_map, hn] at hr
    have hsh := setRow_heap w g (ds.map (Value.int .u64)).toArray ((zs ++ ds.drop n).map (Value.int .u64)).toArray 26 (0, 0) ho
    have e : (((ds.map (Value.int .u64)).toArray.toList.take 0 ++ zs.map (Value.int .u64) ++ (ds.map (Value.int .u64)).toArray.toList.drop (0 + n)).toArray) = ((zs ++ ds.drop n).map (Value.int .u64)).toArray := by
      simp [List.map_append, List.map_drop]
    rw [e] at hr
    refine ⟨_, hr, hsh, ⟨rfl, rfl, rfl, by simp [World.setRow], fun j hj => ?_⟩, by simp [World.setRow]⟩
    simp only [World.setRow, Array.getElem?_modify]
    rw [if_neg (by omega)]

/-- make([]uint64, 0, c). -/
theorem make64_room (c : Nat) (h : c ≤ 35184372088832) (w : World) :
    (Instr.makeSlice 24 (.int .i64 0) (.int .i64 (c : Int))).run Tryd.prog w = .ok (.slice (some ⟨w.heap.size, 0, none⟩) 0 c) (w.alloc (.cells (madeCells #[.int .u64 0] c) 26)) := by
  obtain ⟨i, hi, hz⟩ := Option.map_eq_some_iff.1 info64
  simp only [Prod.mk.injEq] at hz
  obtain ⟨z1, z2, z3⟩ := hz
  have hr := run_make (P := Tryd.prog) w 24 26 i (.int .u64 0) Tryd.underlying24 hi z1 .i64 .i64 0 (c : Int) (by omega) (by omega) (by rw [z3]; omega) (by omega)
  simp only [Int.toNat_natCast, z2, Nat.mul_one] at hr
  exact hr

/-- append(l, a...): l a block of our own with room enough. -/
theorem append64 (g cap n : Nat) (zs : List Int) (p : Option Addr) (m c : Nat) (ys : List Int) (ty : TypeId) (w : World) (hk : zs.length = cap) (hm : ys.length = m) (hroom : n + m ≤ cap) (ho : Own w g zs) (hl : Lies w p ys) :
    ∃ w', (Builtin.append_ #[24, 24] ty #[.slice (some ⟨g, 0, none⟩) n cap, .slice p m c]).run Tryd.prog w = .ok (.slice (some ⟨g, 0, none⟩) (n + m) cap) w' ∧ Own w' g (zs.take n ++ ys ++ zs.drop (n + m)) ∧ Below g w w' ∧ w'.heap.size = w.heap.size := by
  obtain ⟨i, hi, hz⟩ := Option.map_eq_some_iff.1 info64
  simp only [Prod.mk.injEq] at hz
  obtain ⟨z1, z2, z3⟩ := hz
  have key : ∀ a : Addr, p = some a → (∀ j v, (ys.map (Value.int .u64))[j]? = some v → w.cell? (a.add j) = some v) →
      ∃ w', (Builtin.append_ #[24, 24] ty #[.slice (some ⟨g, 0, none⟩) n cap, .slice p m c]).run Tryd.prog w = .ok (.slice (some ⟨g, 0, none⟩) (n + m) cap) w' ∧ Own w' g (zs.take n ++ ys ++ zs.drop (n + m)) ∧ Below g w w' ∧ w'.heap.size = w.heap.size := by
    rintro a rfl hsrc
    have hr := run_append_room (P := Tryd.prog) w 24 ty 26 i Tryd.underlying24 hi g n cap (zs.map (Value.int .u64)).toArray ho a m c (ys.map (Value.int .u64)) (by rw [z2]; simpa using hm) hsrc (ints_oneCell64 ys) hroom (by rw [z2]; simp; omega)
    have e : ((zs.map (Value.int .u64)).toArray.toList.take (n * i.size) ++ ys.map (Value.int .u64) ++ (zs.map (Value.int .u64)).toArray.toList.drop (n * i.size + (ys.map (Value.int .u64)).length)).toArray = ((zs.take n ++ ys ++ zs.drop (n + m)).map (Value.int .u64)).toArray := by
      simp [z2, hm, List.map_append, List.map_drop, List.map_take]
    rw [e] at hr
    refine ⟨_, hr, setRow_heap w g _ _ 26 (0, 0) ho, ⟨rfl, rfl, rfl, by simp [World.setRow], fun j hj => ?_⟩, by simp [World.setRow]⟩
    simp only [World.setRow, Array.getElem?_modify]
    rw [if_neg (by omega)]
  rcases hl with rfl | ⟨b, off, hp, hcell⟩
  · cases p with
    | some a => exact key a rfl (fun j v h => by simp at h)
    | none =>
      have hm0 : m = 0 := by simpa using hm.symm
      subst hm0
      refine ⟨w, ?_, by simpa using ho, Below.refl _ _, rfl⟩
      simp [Builtin.append_, run_underlying Tryd.underlying24, sizeOf, typeInfo, hi, Builtin.lenOf, Builtin.firstCells, show n ≤ cap from hroom, storeCells]
  · refine key _ hp (fun j v hv => ?_)
    simp only [List.getElem?_map, Option.map_eq_some_iff] at hv
    obtain ⟨z, hz, rfl⟩ := hv
    have hj : j < ys.length := (List.getElem?_eq_some_iff.1 hz).1
    rw [Go.WideShapes.add_plain, hcell j hj]
    simp [List.getD, hz]

/-- An argument, as the row's reading gives it. -/
theorem arg_open {w : World} {x : Addr} {len cap : Nat} {zs : List Int} (hl : len ≤ cap) (hz : zs.length = cap) (hb : cap ≤ 17592186043904) (hcell : ∀ i, i < zs.length → w.cell? (x.add i) = some (.int .u64 (zs.getD i 0)))
    (hw : ∀ n ∈ zs, (Lit.int .u64 n).wf = true) : Arg w (some x) len cap (zs.take len) := by
  have hlim : Nm.Limbs zs := fun z h => by have := bounds_u64 (hw z h); omega
  refine ⟨by simp; omega, hl, by omega, Lies.take ?_ len, hlim.take len⟩
  by_cases h0 : zs.length = 0
  · rw [List.eq_nil_of_length_eq_zero h0]
    exact Lies.nil _ _
  · obtain ⟨b, off, hx, hc⟩ := ints_at hcell (by omega)
    subst hx
    exact .inr ⟨b, off, rfl, hc⟩
end Go.Proofs.YtmihjiiagpkciaaDoor
