/-
  Texts put together: Mem, Walk1, Walk5a, IBit, IWalk1C, IWalk1B, XMem, FRow3, LEqD, BitsA, Bits, ShA, Len, BitLenW, SmallA, NToU, FromW, TrimW, QRows, NGroup, IWalk1A, IOrdD, IUp, IDown, IWalk1.
-/
import Derived.Test.YtobiapniidaibaaGreatDoorRows
import Derived.Test.YtobiapniidaibaaGreatDoorNums
import Derived.WalkKit
import Derived.WalkSpells
import Derived.Deep.OwnRows
import Derived.Laws.CopyRow
import Derived.Laws.IdiomCopy
import Derived.Laws.AppendOwn
import Derived.Laws.MakeOwn
import Derived.OpenShut
import Derived.Deep.QuietTactic
import Derived.BigQuiet
import Derived.Laws.BitsAllLaws
import Derived.Laws.Rows
import Derived.Laws.ResultCell
import Derived.Laws.Externs
import Derived.Shelf.Bits.Mul64
import Derived.Shelf.Strconv.Itoa0
import Derived.Laws.OwnMore
namespace Go.Proofs.YtobiapniidaibaaGreatDoor
open Go.RowKit Go.Deep

theorem hid {p : Prop} (h : p) : Hid p := h

theorem cell_lt {w : World} {a : Addr} {v : Value} (h : w.cell? a = some v) : a.block < w.heap.size := by
  rcases Nat.lt_or_ge a.block w.heap.size with hl | hl
  · exact hl
  · simp [World.cell?, Array.getElem?_eq_none hl] at h

/-- The limbs zs lie at p (nowhere, where there are none). -/
def Lies (w : World) (p : Option Addr) (zs : List Int) : Prop :=
  zs = [] ∨ ∃ b off, p = some ⟨b, off, none⟩ ∧ ∀ i, i < zs.length → w.cell? ⟨b, off + i, none⟩ = some (.int .u64 (zs.getD i 0))

/-- The limbs zs are the whole of block g, which may be written. -/
def Own (w : World) (g : Nat) (zs : List Int) : Prop := w.heap[g]? = some (.cells (zs.map (Value.int .u64)).toArray 22 (0, 0))

theorem Lies.nil (w : World) (p : Option Addr) : Lies w p [] := .inl rfl

theorem Lies.take {w : World} {p : Option Addr} {zs : List Int} (h : Lies w p zs) (k : Nat) : Lies w p (zs.take k) := by
  rcases h with rfl | ⟨b, off, hp, h⟩
  · exact .inl (by simp)
  · refine .inr ⟨b, off, hp, fun i hi => ?_⟩
    rw [List.length_take] at hi
    rw [h i (by omega), Nm.getD_take, if_pos (by omega)]

theorem Lies.trim {w : World} {p : Option Addr} {zs : List Int} (h : Lies w p zs) : Lies w p (Nm.trim zs) := h.take _

theorem Lies.below {w w' : World} {B : Nat} {p : Option Addr} {zs : List Int} (h : Lies w p zs) (hb : Below B w w') (hB : w.heap.size ≤ B) : Lies w' p zs := by
  rcases h with rfl | ⟨b, off, hp, h⟩
  · exact .inl rfl
  · refine .inr ⟨b, off, hp, fun i hi => ?_⟩
    have hc := h i hi
    have hlt : b < w.heap.size := cell_lt hc
    rw [hb.cell (p := ⟨b, off + i, none⟩) (Nat.lt_of_lt_of_le hlt hB)]
    exact hc

theorem Own.cell {w : World} {g : Nat} {zs : List Int} (h : Own w g zs) (i : Nat) (hi : i < zs.length) : w.cell? ⟨g, i, none⟩ = some (.int .u64 (zs.getD i 0)) := by
  simp only [Own] at h
  simp [World.cell?, h, List.getD, hi]

theorem Own.free {w : World} {g : Nat} {zs : List Int} (h : Own w g zs) (i : Nat) : w.frozen? ⟨g, i, none⟩ = false := by
  simp only [Own] at h
  simp [World.frozen?, h]

theorem Own.lies {w : World} {g : Nat} {zs : List Int} (h : Own w g zs) : Lies w (some ⟨g, 0, none⟩) zs :=
  .inr ⟨g, 0, rfl, fun i hi => by rw [Nat.zero_add]; exact h.cell i hi⟩

theorem Own.lt {w : World} {g : Nat} {zs : List Int} (h : Own w g zs) : g < w.heap.size := by
  rcases Nat.lt_or_ge g w.heap.size with hl | hl
  · exact hl
  · simp [Own, Array.getElem?_eq_none hl] at h

theorem Own.set {w : World} {g : Nat} {zs : List Int} (h : Own w g zs) (i : Nat) (s : Int) : Own (w.setCell ⟨g, i, none⟩ (.int .u64 s)) g (zs.set i s) := by
  have hl := h.lt
  simp only [Own] at h ⊢
  simp [World.setCell, Array.getElem?_modify, h, List.map_set]

theorem Own.below {w w' : World} {B g : Nat} {zs : List Int} (h : Own w g zs) (hb : Below B w w') (hg : g < B) : Own w' g zs := by
  simp only [Own] at h ⊢
  rw [hb.block g hg, h]

theorem Own.alloc (w : World) (zs : List Int) : Own (w.alloc (.cells (zs.map (Value.int .u64)).toArray 22)) w.heap.size zs := by
  show (w.heap.push _)[w.heap.size]? = _
  rw [Array.getElem?_push, if_pos rfl]

theorem made_zero (n : Nat) : madeCells #[Value.int .u64 0] n = ((List.replicate n (0 : Int)).map (Value.int .u64)).toArray := by
  apply Array.toList_inj.1
  rw [toList_madeCells_one]
  simp

/-- The longest list that can come in has at most 2^44 limbs. -/
def Arg (w : World) (p : Option Addr) (n cap : Nat) (zs : List Int) : Prop := zs.length = n ∧ n ≤ cap ∧ cap ≤ 17592186044416 ∧ Lies w p zs ∧ Nm.Limbs zs

theorem Arg.below {B : Nat} {w w' : World} {p : Option Addr} {n cap : Nat} {zs : List Int} (h : Arg w p n cap zs) (hb : Below B w w') (hB : w.heap.size ≤ B) : Arg w' p n cap zs :=
  ⟨h.1, h.2.1, h.2.2.1, h.2.2.2.1.below hb hB, h.2.2.2.2⟩

theorem Lies.lt {w : World} {p : Option Addr} {zs : List Int} (h : Lies w p zs) (h0 : 0 < zs.length) : ∀ a, p = some a → a.block < w.heap.size := by
  intro a ha
  rcases h with rfl | ⟨b, off, hp, h⟩
  · simp at h0
  · rw [hp] at ha
    cases ha
    exact cell_lt (h 0 h0)

/-- What is answered: the trimmed list of the number n, in memory that is new since block B. -/
def Ans (B : Nat) (w : World) (p : Option Addr) (ys : List Int) (n : Int) : Prop :=
  Lies w p ys ∧ Nm.Limbs ys ∧ Nm.tsize ys = ys.length ∧ Nm.val ys = n ∧ ∀ a, p = some a → B ≤ a.block

theorem Ans.below {B B' : Nat} {w w' : World} {p : Option Addr} {ys : List Int} {n : Int} (h : Ans B w p ys n) (hb : Below B' w w') (hB : w.heap.size ≤ B') : Ans B w' p ys n :=
  ⟨h.1.below hb hB, h.2⟩

theorem Ans.arg {B : Nat} {w : World} {p : Option Addr} {ys : List Int} {n : Int} (h : Ans B w p ys n) (hs : ys.length ≤ 17592186044416) : Arg w p ys.length ys.length ys :=
  ⟨rfl, Nat.le_refl _, hs, h.1, h.2.1⟩

theorem info64 : (Tryz.prog.info? 22).map (fun i => (i.zero, i.size, i.bytes)) = some (some (.int .u64 0), 1, 8) := by kernel_rfl
theorem size64 : (Tryz.prog.info? 22).map (·.size) = some 1 := by kernel_rfl

/-- make([]uint64, n), n a natural. -/
theorem make64 (n : Nat) (h : n ≤ 35184372088832) (w : World) :
    (Instr.makeSlice 75 (.int .i64 (n : Int)) (.int .i64 (n : Int))).run Tryz.prog w = .ok (.slice (some ⟨w.heap.size, 0, none⟩) n n) (w.alloc (.cells (madeCells #[.int .u64 0] n) 22)) :=
  run_make_row' 75 22 (.int .u64 0) 8 Tryz.underlying75 info64 rfl .i64 .i64 n (by omega) (by omega) w

theorem ints_oneCell64 (zs : List Int) : ∀ v ∈ zs.map (Value.int .u64), v.oneCell' = true := by
  intro v hv
  obtain ⟨z, _, rfl⟩ := List.mem_map.1 hv
  rfl

/-- copy(out, a): out a block of our own, at least as long. -/
theorem copy64 (g k : Nat) (ds : List Int) (p : Option Addr) (n cap : Nat) (zs : List Int) (ty : TypeId) (w : World) (hk : ds.length = k) (hn : zs.length = n) (hle : n ≤ k) (ho : Own w g ds) (hl : Lies w p zs) :
    ∃ w', (Builtin.copy_ #[75, 75] ty #[.slice (some ⟨g, 0, none⟩) k k, .slice p n cap]).run Tryz.prog w = .ok (.int .i64 (n : Int)) w' ∧ Own w' g (zs ++ ds.drop n) ∧ Below g w w' ∧ w'.heap.size = w.heap.size := by
  rcases hl with rfl | ⟨b, off, rfl, hcell⟩
  · have hn0 : n = 0 := by simpa using hn.symm
    subst hn0
    refine ⟨w, ?_, by simpa using ho, Below.refl _ _, rfl⟩
    exact run_copy_none w 75 75 ty 22 _ _ _ _ _ _ Tryz.underlying75 size64 (by simp)
  · have hr := run_copy_row (P := Tryz.prog) w 75 75 ty 22 g 0 k k ⟨b, off, none⟩ n cap (ds.map (Value.int .u64)).toArray 22 (zs.map (Value.int .u64)) Tryz.underlying75 size64 ho
      (by rw [List.length_map, hn]; exact (Nat.min_eq_left hle).symm)
      (fun j v hv => by
        simp only [List.getElem?_map, Option.map_eq_some_iff] at hv
        obtain ⟨z, hz, rfl⟩ := hv
        have hj : j < zs.length := (List.getElem?_eq_some_iff.1 hz).1
        rw [Go.WideShapes.add_plain, hcell j hj]
        simp [List.getD, hz])
      (by simp; omega) (ints_oneCell64 zs)
    rw [List.length_map, hn] at hr
    have hsh := setRow_heap w g (ds.map (Value.int .u64)).toArray ((zs ++ ds.drop n).map (Value.int .u64)).toArray 22 (0, 0) ho
    have e : (((ds.map (Value.int .u64)).toArray.toList.take 0 ++ zs.map (Value.int .u64) ++ (ds.map (Value.int .u64)).toArray.toList.drop (0 + n)).toArray) = ((zs ++ ds.drop n).map (Value.int .u64)).toArray := by
      simp [List.map_append, List.map_drop]
    rw [e] at hr
    refine ⟨_, hr, hsh, ⟨rfl, rfl, rfl, by simp [World.setRow], fun j hj => ?_⟩, by simp [World.setRow]⟩
    simp only [World.setRow, Array.getElem?_modify]
    rw [if_neg (by omega)]

/-- make([]uint64, 0, c). -/
theorem make64_room (c : Nat) (h : c ≤ 35184372088832) (w : World) :
    (Instr.makeSlice 75 (.int .i64 0) (.int .i64 (c : Int))).run Tryz.prog w = .ok (.slice (some ⟨w.heap.size, 0, none⟩) 0 c) (w.alloc (.cells (madeCells #[.int .u64 0] c) 22)) := by
  obtain ⟨i, hi, hz⟩ := Option.map_eq_some_iff.1 info64
  simp only [Prod.mk.injEq] at hz
  obtain ⟨z1, z2, z3⟩ := hz
  have hr := run_make (P := Tryz.prog) w 75 22 i (.int .u64 0) Tryz.underlying75 hi z1 .i64 .i64 0 (c : Int) (by omega) (by omega) (by rw [z3]; omega) (by omega)
  simp only [Int.toNat_natCast, z2, Nat.mul_one] at hr
  exact hr

/-- append(l, a...): l a block of our own with room enough. -/
theorem append64 (g cap n : Nat) (zs : List Int) (p : Option Addr) (m c : Nat) (ys : List Int) (ty : TypeId) (w : World) (hk : zs.length = cap) (hm : ys.length = m) (hroom : n + m ≤ cap) (ho : Own w g zs) (hl : Lies w p ys) :
    ∃ w', (Builtin.append_ #[75, 75] ty #[.slice (some ⟨g, 0, none⟩) n cap, .slice p m c]).run Tryz.prog w = .ok (.slice (some ⟨g, 0, none⟩) (n + m) cap) w' ∧ Own w' g (zs.take n ++ ys ++ zs.drop (n + m)) ∧ Below g w w' ∧ w'.heap.size = w.heap.size := by
  obtain ⟨i, hi, hz⟩ := Option.map_eq_some_iff.1 info64
  simp only [Prod.mk.injEq] at hz
  obtain ⟨z1, z2, z3⟩ := hz
  have key : ∀ a : Addr, p = some a → (∀ j v, (ys.map (Value.int .u64))[j]? = some v → w.cell? (a.add j) = some v) →
      ∃ w', (Builtin.append_ #[75, 75] ty #[.slice (some ⟨g, 0, none⟩) n cap, .slice p m c]).run Tryz.prog w = .ok (.slice (some ⟨g, 0, none⟩) (n + m) cap) w' ∧ Own w' g (zs.take n ++ ys ++ zs.drop (n + m)) ∧ Below g w w' ∧ w'.heap.size = w.heap.size := by
    rintro a rfl hsrc
    have hr := run_append_room (P := Tryz.prog) w 75 ty 22 i Tryz.underlying75 hi g n cap (zs.map (Value.int .u64)).toArray ho a m c (ys.map (Value.int .u64)) (by rw [z2]; simpa using hm) hsrc (ints_oneCell64 ys) hroom (by rw [z2]; simp; omega)
    have e : ((zs.map (Value.int .u64)).toArray.toList.take (n * i.size) ++ ys.map (Value.int .u64) ++ (zs.map (Value.int .u64)).toArray.toList.drop (n * i.size + (ys.map (Value.int .u64)).length)).toArray = ((zs.take n ++ ys ++ zs.drop (n + m)).map (Value.int .u64)).toArray := by
      simp [z2, hm, List.map_append, List.map_drop, List.map_take]
    rw [e] at hr
    refine ⟨_, hr, setRow_heap w g _ _ 22 (0, 0) ho, ⟨rfl, rfl, rfl, by simp [World.setRow], fun j hj => ?_⟩, by simp [World.setRow]⟩
    simp only [World.setRow, Array.getElem?_modify]
    rw [if_neg (by omega)]
  rcases hl with rfl | ⟨b, off, hp, hcell⟩
  · cases p with
    | some a => exact key a rfl (fun j v h => by simp at h)
    | none =>
      have hm0 : m = 0 := by simpa using hm.symm
      subst hm0
      refine ⟨w, ?_, by simpa using ho, Below.refl _ _, rfl⟩
      simp [Builtin.append_, run_underlying Tryz.underlying75, sizeOf, typeInfo, hi, Builtin.lenOf, Builtin.firstCells, show n ≤ cap from hroom, storeCells]
  · refine key _ hp (fun j v hv => ?_)
    simp only [List.getElem?_map, Option.map_eq_some_iff] at hv
    obtain ⟨z, hz, rfl⟩ := hv
    have hj : j < ys.length := (List.getElem?_eq_some_iff.1 hz).1
    rw [Go.WideShapes.add_plain, hcell j hj]
    simp [List.getD, hz]

/-- An argument, as the row's reading gives it. -/
theorem arg_open {w : World} {x : Addr} {len cap : Nat} {zs : List Int} (hl : len ≤ cap) (hz : zs.length = cap) (hb : cap ≤ 17592186043904) (hcell : ∀ i, i < zs.length → w.cell? (x.add i) = some (.int .u64 (zs.getD i 0)))
    (hw : ∀ n ∈ zs, (Lit.int .u64 n).wf = true) : Arg w (some x) len cap (zs.take len) := by
  have hlim : Nm.Limbs zs := fun z h => by have := bounds_u64 (hw z h); omega
  refine ⟨by simp; omega, hl, by omega, Lies.take ?_ len, hlim.take len⟩
  by_cases h0 : zs.length = 0
  · rw [List.eq_nil_of_length_eq_zero h0]
    exact Lies.nil _ _
  · obtain ⟨b, off, hx, hc⟩ := ints_at hcell (by omega)
    subst hx
    exact .inr ⟨b, off, rfl, hc⟩
end Go.Proofs.YtobiapniidaibaaGreatDoor

namespace Go.Proofs.YtobiapniidaibaaGreatDoor
open Go.RowKit Go.Deep

theorem ret_slice {p : Option Addr} {a b : Nat} (h : a = b) : Ending.returned (.slice p a a) = .returned (.slice p b b) := by rw [h]

set_option maxHeartbeats 400000 in
theorem trimmed_any (p : Option Addr) (n cap : Nat) (zs : List Int) (w : World) (hn : zs.length = n) (hc : n ≤ cap) (hm : cap ≤ 140737488355328) (h : Lies w p zs) :
    Calls Tryz.prog 62 #[.slice p n cap] w fun e w' => e = .returned (.slice p (Nm.tsize zs) (Nm.tsize zs)) ∧ w' = w := by
  rcases h with rfl | ⟨b, off, rfl, hcell⟩
  · have hn0 : n = 0 := by simpa using hn.symm
    subst hn0
    go_enter Tryz.func62, Tryz.ntmps62
    go_wp2
    refine wp_loop_rounds 1 ?_
    rw [rounds_succ]
    go_wp2
    go_ret
    exact ⟨rfl, rfl⟩
  · have H : Hid (zs.length = n) := hn
    have HC : Hid (∀ i, i < zs.length → w.cell? ⟨b, off + i, none⟩ = some (.int .u64 (zs.getD i 0))) := hcell
    clear hn hcell
    go_enter Tryz.func62, Tryz.ntmps62
    go_wp2
    go_loop [3] (fun t => ∃ k : Nat, k ≤ n ∧ t = .int .i64 k ∧ Hid (∀ j, k ≤ j → zs.getD j 0 = 0)) (fun t => (intOf t).toNat)
    case atStart => exact ⟨n, Nat.le_refl _, rfl, fun j hj => by simp [List.getD, List.getElem?_eq_none (show zs.length ≤ j by have := H.out; omega)]⟩
    case round =>
      obtain ⟨k, hk, rfl, hz⟩ := hrel
      by_cases h0 : k = 0
      · subst h0
        go_wp2
        go_ret
        exact ⟨ret_slice (Nm.tsize_unique zs 0 hz.out (.inl rfl)).symm, rfl⟩
      · obtain ⟨j, rfl⟩ : ∃ j, k = j + 1 := ⟨k - 1, by omega⟩
        obtain ⟨x, hx, X⟩ : ∃ x, w.cell? ⟨b, off + j, none⟩ = some (.int .u64 x) ∧ Hid (x = zs.getD j 0) := ⟨_, HC.out j (by have := H.out; omega), rfl⟩
        by_cases hx0 : x = 0
        · subst hx0
          go_wp2
          go_round
          case rel =>
            refine ⟨j, by omega, rfl, fun i hi => ?_⟩
            by_cases e : i = j
            · subst e; exact X.out.symm
            · exact hz.out i (by omega)
          case measure => simp [intOf]
        · go_wp2
          go_ret
          exact ⟨ret_slice (Nm.tsize_unique zs (j + 1) hz.out (.inr (by rw [Nat.add_sub_cancel, ← X.out]; exact hx0))).symm, rfl⟩

/-- Of an operand that is not too big: trimmed, to be read. -/
theorem limited_ok (p : Option Addr) (n cap : Nat) (zs : List Int) (w : World) (hn : zs.length = n) (hc : n ≤ cap) (hm : cap ≤ 140737488355328) (h : Lies w p zs) (hs : Nm.tsize zs ≤ 4096) :
    Calls Tryz.prog 77 #[.slice p n cap] w fun e w' => e = .returned (.tuple #[.slice p (Nm.tsize zs) (Nm.tsize zs), .int .i64 0]) ∧ w' = w := by
  have hsz : (Nm.tsize zs : Int) ≤ 4096 := by omega
  go_enter Tryz.func77, Tryz.ntmps77
  go_wp2_with (go_at_call 62; refine (trimmed_any p n cap zs _ hn hc hm h).mono ?_; rintro e w' ⟨rfl, rfl⟩)
  go_ret2
  exact ⟨rfl, rfl⟩

theorem limited_big (p : Option Addr) (n cap : Nat) (zs : List Int) (w : World) (hn : zs.length = n) (hc : n ≤ cap) (hm : cap ≤ 140737488355328) (h : Lies w p zs) (hs : 4096 < Nm.tsize zs) :
    Calls Tryz.prog 77 #[.slice p n cap] w fun e w' => e = .returned (.tuple #[.slice none 0 0, .int .i64 2]) ∧ w' = w := by
  have hsz : (4096 : Int) < (Nm.tsize zs : Int) := by omega
  go_enter Tryz.func77, Tryz.ntmps77
  go_wp2_with (go_at_call 62; refine (trimmed_any p n cap zs _ hn hc hm h).mono ?_; rintro e w' ⟨rfl, rfl⟩)
  go_ret2
  exact ⟨rfl, rfl⟩

/-- A copy with m limbs 0 on top, in a new block. -/
theorem widened_any (p : Option Addr) (n cap m : Nat) (mi : Int) (zs : List Int) (w : World) (hmi : mi = (m : Int)) (hn : zs.length = n) (hnm : n + m ≤ 35184372088832) (h : Lies w p zs) :
    Calls Tryz.prog 132 #[.slice p n cap, .int .i64 mi] w fun e w' => e = .returned (.slice (some ⟨w.heap.size, 0, none⟩) (n + m) (n + m)) ∧ Own w' w.heap.size (zs ++ List.replicate m 0) ∧ Below w.heap.size w w' ∧ w'.heap.size = w.heap.size + 1 := by
  subst hmi
  have hmk := make64 (n + m) hnm w
  have em : ((n + m : Nat) : Int) = (n : Int) + (m : Int) := by omega
  rw [em] at hmk
  clear em
  have hb0 : Below w.heap.size w (w.alloc (.cells (madeCells #[.int .u64 0] (n + m)) 22)) := (Below.refl _ _).alloc (Nat.le_refl _) _
  have ho : Own (w.alloc (.cells (madeCells #[.int .u64 0] (n + m)) 22)) w.heap.size (List.replicate (n + m) 0) := by
    rw [made_zero]; exact Own.alloc w _
  obtain ⟨w1, hcp, ho1, hb1, hz1⟩ := copy64 w.heap.size (n + m) (List.replicate (n + m) 0) p n cap zs 3 _ (by simp) hn (by omega) ho (h.below hb0 (Nat.le_refl _))
  have E : Hid (Own w1 w.heap.size (zs ++ List.replicate m 0)) := by
    have e : List.drop n (List.replicate (n + m) (0 : Int)) = List.replicate m 0 := by simp
    rw [e] at ho1
    exact ho1
  have F : Hid (Below w.heap.size w w1) := hb0.trans hb1
  have G : Hid (w1.heap.size = w.heap.size + 1) := hz1.trans (World.size_alloc _ _)
  clear hb0 ho ho1 hb1 hz1 h hn
  go_enter Tryz.func132, Tryz.ntmps132
  go_wp2
  go_ret
  exact ⟨rfl, E.out, F.out, G.out⟩

theorem pair_ok (p q : Option Addr) (n cap m cap' : Nat) (zs ys : List Int) (w : World) (hn : zs.length = n) (hc : n ≤ cap) (hm : cap ≤ 140737488355328) (h : Lies w p zs) (hs : Nm.tsize zs ≤ 4096)
    (hn' : ys.length = m) (hc' : m ≤ cap') (hm' : cap' ≤ 140737488355328) (h' : Lies w q ys) (hs' : Nm.tsize ys ≤ 4096) :
    Calls Tryz.prog 75 #[.slice p n cap, .slice q m cap'] w fun e w' => e = .returned (.tuple #[.slice p (Nm.tsize zs) (Nm.tsize zs), .slice q (Nm.tsize ys) (Nm.tsize ys), .int .i64 0]) ∧ w' = w := by
  go_enter Tryz.func75, Tryz.ntmps75
  go_wp2_with fail
  refine (limited_ok p n cap zs _ hn hc hm h hs).mono ?_
  rintro e w' ⟨rfl, rfl⟩
  go_wp2_with fail
  refine (limited_ok q m cap' ys _ hn' hc' hm' h' hs').mono ?_
  rintro e w' ⟨rfl, rfl⟩
  go_wp2_with fail
  go_ret3
  exact ⟨rfl, rfl⟩

theorem pair_big (p q : Option Addr) (n cap m cap' : Nat) (zs ys : List Int) (w : World) (hn : zs.length = n) (hc : n ≤ cap) (hm : cap ≤ 140737488355328) (h : Lies w p zs)
    (hn' : ys.length = m) (hc' : m ≤ cap') (hm' : cap' ≤ 140737488355328) (h' : Lies w q ys) (hs : 4096 < Nm.tsize zs ∨ 4096 < Nm.tsize ys) :
    Calls Tryz.prog 75 #[.slice p n cap, .slice q m cap'] w fun e w' => e = .returned (.tuple #[.slice none 0 0, .slice none 0 0, .int .i64 2]) ∧ w' = w := by
  by_cases h1 : 4096 < Nm.tsize zs
  · go_enter Tryz.func75, Tryz.ntmps75
    go_wp2_with fail
    refine (limited_big p n cap zs _ hn hc hm h h1).mono ?_
    rintro e w' ⟨rfl, rfl⟩
    go_wp2_with fail
    go_ret3
    exact ⟨rfl, rfl⟩
  · have h2 : 4096 < Nm.tsize ys := by omega
    go_enter Tryz.func75, Tryz.ntmps75
    go_wp2_with fail
    refine (limited_ok p n cap zs _ hn hc hm h (by omega)).mono ?_
    rintro e w' ⟨rfl, rfl⟩
    go_wp2_with fail
    refine (limited_big q m cap' ys _ hn' hc' hm' h' h2).mono ?_
    rintro e w' ⟨rfl, rfl⟩
    go_wp2_with fail
    go_ret3
    exact ⟨rfl, rfl⟩

/-- Of a list of our own: answered trimmed, if it isn't too big. -/
theorem limited_own (g n : Nat) (zs : List Int) (w : World) (hn : zs.length = n) (hm : n ≤ 140737488355328) (h : Own w g zs) (hl : Nm.Limbs zs) (B : Nat) (hB : B ≤ g) (hs : Nm.val zs < Nm.pw 4096) :
    Calls Tryz.prog 77 #[.slice (some ⟨g, 0, none⟩) n n] w fun e w' => ∃ p ys, e = .returned (.tuple #[.slice p (List.length ys) (List.length ys), .int .i64 0]) ∧ Ans B w p ys (Nm.val zs) ∧ w' = w := by
  refine (limited_ok (some ⟨g, 0, none⟩) n n zs w hn (Nat.le_refl _) hm h.lies ((Nm.tsize_le_iff hl 4096).2 hs)).mono ?_
  rintro e w' ⟨rfl, rfl⟩
  refine ⟨some ⟨g, 0, none⟩, Nm.trim zs, ?_, ⟨h.lies.take _, hl.take _, ?_, Nm.val_trim zs, ?_⟩, rfl⟩
  · rw [Nm.trim_length]
  · rw [Nm.trim_trim, Nm.trim_length]
  · intro a ha
    cases ha
    exact hB

theorem limited_own_big (g n : Nat) (zs : List Int) (w : World) (hn : zs.length = n) (hm : n ≤ 140737488355328) (h : Own w g zs) (hl : Nm.Limbs zs) (hs : Nm.pw 4096 ≤ Nm.val zs) :
    Calls Tryz.prog 77 #[.slice (some ⟨g, 0, none⟩) n n] w fun e w' => e = .returned (.tuple #[.slice none 0 0, .int .i64 2]) ∧ w' = w := by
  refine limited_big (some ⟨g, 0, none⟩) n n zs w hn (Nat.le_refl _) hm h.lies ?_
  have := Nm.tsize_le_iff hl 4096
  omega

end Go.Proofs.YtobiapniidaibaaGreatDoor

namespace Go.Proofs.YtobiapniidaibaaGreatDoor
open Go.RowKit Go.Deep

/-- -1, 0 or 1. -/
def cmpI (x y : Int) : Int := if x < y then -1 else if x = y then 0 else 1

theorem cmpI_lt {x y : Int} (h : x < y) : cmpI x y = -1 := by rw [cmpI, if_pos h]
theorem cmpI_eq {x y : Int} (h : x = y) : cmpI x y = 0 := by rw [cmpI, if_neg (by omega), if_pos h]
theorem cmpI_gt {x y : Int} (h : y < x) : cmpI x y = 1 := by rw [cmpI, if_neg (by omega), if_neg (by omega)]

theorem below_drewN {B : Nat} {a w : World} (h : Below B a w) : ∀ n, Below B a (w.drewN n) := by
  intro n
  exact ⟨h.os, h.tape, h.output, h.size, h.block⟩

/-- A slice with an element in it has an address. -/
theorem Lies.at {w : World} {p : Option Addr} {zs : List Int} (h : Lies w p zs) (h0 : 0 < zs.length) :
    ∃ b off, p = some ⟨b, off, none⟩ ∧ b < w.heap.size ∧ Hid (∀ i, i < zs.length → w.cell? ⟨b, off + i, none⟩ = some (.int .u64 (zs.getD i 0))) := by
  rcases h with rfl | ⟨b, off, hp, h⟩
  · simp at h0
  · exact ⟨b, off, hp, cell_lt (h 0 h0), h⟩

theorem val_lt_of_tsize {zs ys : List Int} (hz : Nm.Limbs zs) (hy : Nm.Limbs ys) (h : Nm.tsize zs < Nm.tsize ys) : Nm.val zs < Nm.val ys := by
  have h1 := Nm.val_lt_tsize hz
  have h2 := Nm.val_ge_top hy (by omega)
  have h3 := Nm.pw_mono (show Nm.tsize zs ≤ Nm.tsize ys - 1 by omega)
  omega

theorem ret_bool {a b : Bool} (h : a = b) : Ending.returned (.bool a) = .returned (.bool b) := by rw [h]

theorem ret_i64 {a b : Int} (h : a = b) : Ending.returned (.int .i64 a) = .returned (.int .i64 b) := by rw [h]
end Go.Proofs.YtobiapniidaibaaGreatDoor

/-
  The bits of a double as numbers.
-/
namespace Go.Proofs.YtobiapniidaibaaGreatDoor
open Go
namespace Ib
theorem sign_and (d : Int) (h0 : 0 ≤ d) (h1 : d < 18446744073709551616) : bits .and .u64 d 9223372036854775808 = d / 9223372036854775808 * 9223372036854775808 := by
  obtain ⟨a, rfl⟩ := Int.eq_ofNat_of_zero_le h0
  have h := u64_and_nat a 9223372036854775808 (by omega) (by omega)
  rw [show ((9223372036854775808 : Nat) : Int) = 9223372036854775808 from rfl] at h
  rw [h, show (9223372036854775808 : Nat) = 2 ^ 63 from rfl, nat_bit]
  omega

theorem frac_and (d : Int) (h0 : 0 ≤ d) (h1 : d < 18446744073709551616) : bits .and .u64 d 4503599627370495 = d % 4503599627370496 := by
  obtain ⟨a, rfl⟩ := Int.eq_ofNat_of_zero_le h0
  have h := u64_and_nat a 4503599627370495 (by omega) (by omega)
  rw [show ((4503599627370495 : Nat) : Int) = 4503599627370495 from rfl] at h
  rw [h, nat_mask52]
  omega

theorem field_and (d : Int) (h0 : 0 ≤ d) (h1 : d < 18446744073709551616) : bits .and .u64 d 2047 = d % 2048 := by
  obtain ⟨a, rfl⟩ := Int.eq_ofNat_of_zero_le h0
  have h := u64_and_nat a 2047 (by omega) (by omega)
  rw [show ((2047 : Nat) : Int) = 2047 from rfl] at h
  rw [h, nat_mask11]
  omega

theorem one_and (d : Int) (h0 : 0 ≤ d) (h1 : d < 18446744073709551616) : bits .and .u64 d 1 = d % 2 := by
  obtain ⟨a, rfl⟩ := Int.eq_ofNat_of_zero_le h0
  have h := u64_and_nat a 1 (by omega) (by omega)
  rw [show ((1 : Nat) : Int) = 1 from rfl] at h
  rw [h, nat_mask1]
  omega

theorem hidden_or (d : Int) (h0 : 0 ≤ d) (h1 : d < 4503599627370496) : bits .or .u64 4503599627370496 d = 4503599627370496 + d := by
  obtain ⟨a, rfl⟩ := Int.eq_ofNat_of_zero_le h0
  have h := u64_or_nat 4503599627370496 a (by omega) (by omega)
  rw [show ((4503599627370496 : Nat) : Int) = 4503599627370496 from rfl] at h
  rw [h, nat_join 52 _ _ (by decide) (by omega)]
  omega

theorem sign_or (d : Int) (h0 : 0 ≤ d) (h1 : d < 9223372036854775808) : bits .or .u64 d 9223372036854775808 = d + 9223372036854775808 := by
  obtain ⟨a, rfl⟩ := Int.eq_ofNat_of_zero_le h0
  have h := u64_or_nat a 9223372036854775808 (by omega) (by omega)
  rw [show ((9223372036854775808 : Nat) : Int) = 9223372036854775808 from rfl] at h
  rw [h, Nat.or_comm, nat_join 63 _ _ (by decide) (by omega)]
  omega

/-- What lies in the fraction and what lies in the field don't meet. -/
theorem field_or (d f : Int) (h0 : 0 ≤ d) (h1 : d < 4503599627370496) (f0 : 0 ≤ f) (f1 : f < 4096) : bits .or .u64 d (f * 4503599627370496) = d + f * 4503599627370496 := by
  obtain ⟨a, rfl⟩ := Int.eq_ofNat_of_zero_le h0
  obtain ⟨b, rfl⟩ := Int.eq_ofNat_of_zero_le f0
  have h := u64_or_nat a (b * 4503599627370496) (by omega) (by omega)
  rw [show ((b * 4503599627370496 : Nat) : Int) = (b : Int) * 4503599627370496 by omega] at h
  rw [h, Nat.or_comm, nat_join 52 _ _ (by omega) (by omega)]
  omega

theorem xor_lo (a : Nat) (h : a < 2 ^ 63) : a ^^^ 2 ^ 63 = a + 2 ^ 63 := by
  have hj : 2 ^ 63 ||| a = 2 ^ 63 + a := nat_join 63 _ _ (by decide) h
  rw [Nat.add_comm, ← hj]
  apply Nat.eq_of_testBit_eq
  intro j
  rw [Nat.testBit_xor, Nat.testBit_or, Nat.testBit_two_pow]
  by_cases e : 63 = j
  · subst e
    rw [Nat.testBit_lt_two_pow h]
    decide
  · simp [e]

theorem sign_xor (d : Int) (h0 : 0 ≤ d) (h1 : d < 18446744073709551616) : bits .xor .u64 d 9223372036854775808 = if d < 9223372036854775808 then d + 9223372036854775808 else d - 9223372036854775808 := by
  obtain ⟨a, rfl⟩ := Int.eq_ofNat_of_zero_le h0
  have h := u64_xor_nat a 9223372036854775808 (by omega) (by omega)
  rw [show ((9223372036854775808 : Nat) : Int) = 9223372036854775808 from rfl] at h
  rw [h, show (9223372036854775808 : Nat) = 2 ^ 63 from rfl]
  by_cases ha : a < 2 ^ 63
  · rw [xor_lo a ha, if_pos (by omega)]
    omega
  · obtain ⟨b, rfl⟩ : ∃ b, a = b + 2 ^ 63 := ⟨a - 2 ^ 63, by omega⟩
    rw [← xor_lo b (by omega), Nat.xor_assoc, Nat.xor_self, Nat.xor_zero, xor_lo b (by omega), if_neg (by omega)]
    omega

theorem sign_andNot (d : Int) (h0 : 0 ≤ d) (h1 : d < 18446744073709551616) : bits .andNot .u64 d 9223372036854775808 = d % 9223372036854775808 := by
  obtain ⟨a, rfl⟩ := Int.eq_ofNat_of_zero_le h0
  have h := u64_andNot_nat a 9223372036854775808 (by omega) (by omega)
  rw [show ((9223372036854775808 : Nat) : Int) = 9223372036854775808 from rfl] at h
  rw [h, show (18446744073709551615 - 9223372036854775808 : Nat) = 2 ^ 63 - 1 from rfl, Nat.and_two_pow_sub_one_eq_mod]
  omega

theorem xor_hi (a : Nat) (h : a < 2 ^ 63) : a ^^^ (2 ^ 63 - 1) = 2 ^ 63 - 1 - a := by
  have := BitVec.toNat_xor (BitVec.ofNat 63 a) (BitVec.allOnes 63)
  have e : BitVec.ofNat 63 a ^^^ BitVec.allOnes 63 = ~~~ BitVec.ofNat 63 a := BitVec.xor_allOnes
  rw [e, BitVec.toNat_not, BitVec.toNat_ofNat, BitVec.toNat_allOnes, Nat.mod_eq_of_lt h] at this
  exact this.symm

/-- Below nothing the patterns count downward. -/
theorem low_xor (d : Int) (h0 : 9223372036854775808 ≤ d) (h1 : d < 18446744073709551616) : bits .xor .u64 d 9223372036854775807 = 27670116110564327423 - d := by
  obtain ⟨b, rfl⟩ : ∃ b : Nat, d = ((b + 2 ^ 63 : Nat) : Int) := ⟨(d - 9223372036854775808).toNat, by omega⟩
  have h := u64_xor_nat (b + 2 ^ 63) 9223372036854775807 (by omega) (by omega)
  rw [show ((9223372036854775807 : Nat) : Int) = 9223372036854775807 from rfl] at h
  rw [h, ← xor_lo b (by omega), Nat.xor_assoc, Nat.xor_comm (2 ^ 63), ← Nat.xor_assoc, show (9223372036854775807 : Nat) = 2 ^ 63 - 1 from rfl, xor_hi b (by omega), xor_lo _ (by omega)]
  rw [xor_lo b (by omega)]
  omega
end Ib
end Go.Proofs.YtobiapniidaibaaGreatDoor

/-
  ieee: field, Class, signed, within, Neg, Abs, place; cmp.Compare of two int64.
-/
namespace Go.Proofs.YtobiapniidaibaaGreatDoor
open Go Go.RowKit Go.Deep

namespace Ie
/-- The exponent field. -/
def fld (d : Int) : Int := d / 4503599627370496 % 2048

/-- The class. -/
def cls (d : Int) : Int :=
  if fld d = 0 then (if d % 4503599627370496 = 0 then 0 else 1)
  else if fld d = 2047 then (if d % 4503599627370496 = 0 then 3 else 4) else 2
end Ie

theorem i_retI {a b : Int} (h : a = b) : Ending.returned (.int .i64 a) = .returned (.int .i64 b) := by rw [h]
theorem i_retU {a b : Int} (h : a = b) : Ending.returned (.int .u64 a) = .returned (.int .u64 b) := by rw [h]

/-- The bits of a double with a sign. -/
def Ie.sg (neg : Bool) (x : Int) : Int := if neg = true then x + 9223372036854775808 else x

set_option maxRecDepth 100000 in
theorem signed_any (neg : Bool) (d : Int) (w : World) (h0 : 0 ≤ d) (h1 : d < 9223372036854775808) :
    Calls Tryz.prog 190 #[.bool neg, .int .u64 d] w fun e w' => e = .returned (.int .u64 (Ie.sg neg d)) ∧ w' = w := by
  have B := Ib.sign_or d h0 h1
  cases neg
  · go_enter Tryz.func190, Tryz.ntmps190
    go_wp2
    go_ret
    exact ⟨rfl, rfl⟩
  · go_enter Tryz.func190, Tryz.ntmps190
    go_wp2
    go_ret
    exact ⟨rfl, rfl⟩

/-- An exponent held near to 0. -/
def Ie.win (e : Int) : Int := min (max e (-2097152)) 2097152

set_option maxRecDepth 100000 in
theorem within_any (x : Int) (w : World) :
    Calls Tryz.prog 193 #[.int .i64 x] w fun e w' => e = .returned (.int .i64 (Ie.win x)) ∧ w' = w := by
  rcases (show x < -2097152 ∨ (-2097152 ≤ x ∧ x ≤ 2097152) ∨ 2097152 < x by omega) with h | ⟨h, h'⟩ | h
  · have E : Hid (Ie.win x = -2097152) := by rw [Hid, Ie.win]; omega
    go_enter Tryz.func193, Tryz.ntmps193
    go_wp2
    go_ret
    exact ⟨i_retI E.out.symm, rfl⟩
  · have E : Hid (Ie.win x = x) := by rw [Hid, Ie.win]; omega
    go_enter Tryz.func193, Tryz.ntmps193
    go_wp2
    go_ret
    exact ⟨i_retI E.out.symm, rfl⟩
  · have E : Hid (Ie.win x = 2097152) := by rw [Hid, Ie.win]; omega
    go_enter Tryz.func193, Tryz.ntmps193
    go_wp2
    go_ret
    exact ⟨i_retI E.out.symm, rfl⟩


/-- The sign bit turned. -/
def Ie.ng (d : Int) : Int := if d < 9223372036854775808 then d + 9223372036854775808 else d - 9223372036854775808
end Go.Proofs.YtobiapniidaibaaGreatDoor

/-
  ieee: field, Class.
-/
namespace Go.Proofs.YtobiapniidaibaaGreatDoor
open Go Go.RowKit Go.Deep

set_option maxRecDepth 100000 in
set_option maxHeartbeats 1000000 in
theorem field_any (d : Int) (w : World) (h0 : 0 ≤ d) (h1 : d < 18446744073709551616) :
    Calls Tryz.prog 50 #[.int .u64 d] w fun e w' => e = .returned (.int .i64 (Ie.fld d)) ∧ w' = w := by
  obtain ⟨q, hq⟩ : ∃ q, d / 4503599627370496 = q := ⟨_, rfl⟩
  have q0 : 0 ≤ q := by omega
  have q1 : q < 18446744073709551616 := by omega
  have B := Ib.field_and q q0 q1
  have E : Hid (Ie.fld d = q % 2048) := by rw [Hid, Ie.fld, hq]
  have m0 : 0 ≤ q % 2048 := by omega
  have m1 : q % 2048 ≤ 2047 := by omega
  go_enter Tryz.func50, Tryz.ntmps50
  go_wp2
  go_ret
  exact ⟨i_retI E.out.symm, rfl⟩

set_option maxRecDepth 100000 in
set_option maxHeartbeats 1000000 in
theorem class_any (d : Int) (w : World) (h0 : 0 ≤ d) (h1 : d < 18446744073709551616) :
    Calls Tryz.prog 30 #[.int .u64 d] w fun e w' => e = .returned (.int .i64 (Ie.cls d)) ∧ w' = w := by
  have B := Ib.frac_and d h0 h1
  have F := hid (field_any d w h0 h1)
  obtain ⟨f, hf⟩ : ∃ f, Ie.fld d = f := ⟨_, rfl⟩
  rw [hf] at F
  have f0 : 0 ≤ f ∧ f < 2048 := by rw [← hf]; simp only [Ie.fld]; omega
  by_cases hz : d % 4503599627370496 = 0
  · by_cases e1 : f = 0
    · subst e1
      have E : Hid (Ie.cls d = 0) := by rw [Hid, Ie.cls, if_pos hf, if_pos hz]
      clear hf f0
      go_enter Tryz.func30, Tryz.ntmps30
      go_wp2_with fail
      refine F.out.mono ?_
      rintro e w' ⟨rfl, rfl⟩
      go_wp2_with fail
      go_ret
      exact ⟨i_retI E.out.symm, rfl⟩
    · by_cases e2 : f = 2047
      · subst e2
        have E : Hid (Ie.cls d = 3) := by rw [Hid, Ie.cls, if_neg (by omega), if_pos hf, if_pos hz]
        clear hf f0 e1
        go_enter Tryz.func30, Tryz.ntmps30
        go_wp2_with fail
        refine F.out.mono ?_
        rintro e w' ⟨rfl, rfl⟩
        go_wp2_with fail
        go_ret
        exact ⟨i_retI E.out.symm, rfl⟩
      · have E : Hid (Ie.cls d = 2) := by rw [Hid, Ie.cls, if_neg (by omega), if_neg (by omega)]
        have e1' : (f == 0) = false := by rw [beq_eq_false_iff_ne]; exact e1
        have e2' : (f == 2047) = false := by rw [beq_eq_false_iff_ne]; exact e2
        clear hf f0
        go_enter Tryz.func30, Tryz.ntmps30
        go_wp2_with fail
        refine F.out.mono ?_
        rintro e w' ⟨rfl, rfl⟩
        go_wp2_with fail
        go_ret
        exact ⟨i_retI E.out.symm, rfl⟩
  · have hz' : (d % 4503599627370496 == 0) = false := by rw [beq_eq_false_iff_ne]; exact hz
    by_cases e1 : f = 0
    · subst e1
      have E : Hid (Ie.cls d = 1) := by rw [Hid, Ie.cls, if_pos hf, if_neg hz]
      clear hf f0
      go_enter Tryz.func30, Tryz.ntmps30
      go_wp2_with fail
      refine F.out.mono ?_
      rintro e w' ⟨rfl, rfl⟩
      go_wp2_with fail
      go_ret
      exact ⟨i_retI E.out.symm, rfl⟩
    · by_cases e2 : f = 2047
      · subst e2
        have E : Hid (Ie.cls d = 4) := by rw [Hid, Ie.cls, if_neg (by omega), if_pos hf, if_neg hz]
        clear hf f0 e1
        go_enter Tryz.func30, Tryz.ntmps30
        go_wp2_with fail
        refine F.out.mono ?_
        rintro e w' ⟨rfl, rfl⟩
        go_wp2_with fail
        go_ret
        exact ⟨i_retI E.out.symm, rfl⟩
      · have E : Hid (Ie.cls d = 2) := by rw [Hid, Ie.cls, if_neg (by omega), if_neg (by omega)]
        have e1' : (f == 0) = false := by rw [beq_eq_false_iff_ne]; exact e1
        have e2' : (f == 2047) = false := by rw [beq_eq_false_iff_ne]; exact e2
        clear hf f0
        go_enter Tryz.func30, Tryz.ntmps30
        go_wp2_with fail
        refine F.out.mono ?_
        rintro e w' ⟨rfl, rfl⟩
        go_wp2_with fail
        go_ret
        exact ⟨i_retI E.out.symm, rfl⟩

end Go.Proofs.YtobiapniidaibaaGreatDoor

/-
  Small structs in memory: an exact (four cells), a num (two).
-/
namespace Go.Proofs.YtobiapniidaibaaGreatDoor
open Go Go.RowKit Go.Deep

/-- An exact, as Go has it. -/
def exactOf (neg : Bool) (p : Option Addr) (n cap : Nat) (e : Int) (more : Bool) : Value := .agg #[.bool neg, .slice p n cap, .int .i64 e, .bool more]

/-- Four cells that may be written. -/
def Row4 (w : World) (b t : Nat) (v0 v1 v2 v3 : Value) : Prop := w.heap[b]? = some (.cells #[v0, v1, v2, v3] t (0, 0))

theorem Row4.below {B : Nat} {w w' : World} {b t : Nat} {v0 v1 v2 v3 : Value} (h : Row4 w b t v0 v1 v2 v3) (hB : Below B w w') (hb : b < B) : Row4 w' b t v0 v1 v2 v3 := by
  rw [Row4, hB.block b hb]; exact h

theorem Row4.lt {w : World} {b t : Nat} {v0 v1 v2 v3 : Value} (h : Row4 w b t v0 v1 v2 v3) : b < w.heap.size := by
  rcases Nat.lt_or_ge b w.heap.size with hl | hl
  · exact hl
  · simp [Row4, Array.getElem?_eq_none hl] at h

theorem Row4.cells {w : World} {b t : Nat} {v0 v1 v2 v3 : Value} (h : Row4 w b t v0 v1 v2 v3) :
    (w.cell? ⟨b, 0, none⟩ = some v0 ∧ w.cell? ⟨b, 1, none⟩ = some v1 ∧ w.cell? ⟨b, 2, none⟩ = some v2 ∧ w.cell? ⟨b, 3, none⟩ = some v3) ∧
    (w.frozen? ⟨b, 0, none⟩ = false ∧ w.frozen? ⟨b, 1, none⟩ = false ∧ w.frozen? ⟨b, 2, none⟩ = false ∧ w.frozen? ⟨b, 3, none⟩ = false) := by
  simp only [Row4] at h
  refine ⟨⟨?_, ?_, ?_, ?_⟩, ⟨?_, ?_, ?_, ?_⟩⟩ <;> simp [World.cell?, World.frozen?, h]

theorem Row4.heap {w w' : World} {b t : Nat} {v0 v1 v2 v3 : Value} (h : Row4 w b t v0 v1 v2 v3) (e : w'.heap = w.heap) : Row4 w' b t v0 v1 v2 v3 := by
  rw [Row4, e]; exact h

theorem Row4.new (w : World) (t : Nat) (v0 v1 v2 v3 : Value) : Row4 (w.alloc (.cells #[v0, v1, v2, v3] t)) w.heap.size t v0 v1 v2 v3 := heap_alloc_new w _

theorem set1 {w : World} {b o t : Nat} {v : Value} {c c' : Array Value} (h : w.heap[b]? = some (.cells c t (0, 0))) (e : c.setIfInBounds o v = c') : (w.setCell ⟨b, o, none⟩ v).heap[b]? = some (.cells c' t (0, 0)) := by
  subst e
  simp [World.setCell, Array.getElem?_modify, h]

theorem Row4.set {w : World} {b t : Nat} {v0 v1 v2 v3 u0 u1 u2 u3 : Value} (h : Row4 w b t v0 v1 v2 v3) :
    Row4 ((((w.setCell ⟨b, 0, none⟩ u0).setCell ⟨b, 1, none⟩ u1).setCell ⟨b, 2, none⟩ u2).setCell ⟨b, 3, none⟩ u3) b t u0 u1 u2 u3 := by
  have h0 := set1 (o := 0) (v := u0) (c' := #[u0, v1, v2, v3]) h (by simp [Array.setIfInBounds])
  have h1 := set1 (o := 1) (v := u1) (c' := #[u0, u1, v2, v3]) h0 (by simp [Array.setIfInBounds])
  have h2 := set1 (o := 2) (v := u2) (c' := #[u0, u1, u2, v3]) h1 (by simp [Array.setIfInBounds])
  exact set1 (o := 3) (v := u3) (c' := #[u0, u1, u2, u3]) h2 (by simp [Array.setIfInBounds])

theorem set4_below {B : Nat} {w w' : World} {b : Nat} {u0 u1 u2 u3 : Value} (h : Below B w w') (hb : B ≤ b) :
    Below B w ((((w'.setCell ⟨b, 0, none⟩ u0).setCell ⟨b, 1, none⟩ u1).setCell ⟨b, 2, none⟩ u2).setCell ⟨b, 3, none⟩ u3) :=
  (((h.setCell (p := ⟨b, 0, none⟩) hb u0).setCell (p := ⟨b, 1, none⟩) hb u1).setCell (p := ⟨b, 2, none⟩) hb u2).setCell (p := ⟨b, 3, none⟩) hb u3

/-- A list somewhere else stays. -/
theorem Lies.set {w : World} {p : Option Addr} {zs : List Int} {b o : Nat} {v : Value} (h : Lies w p zs) (hne : ∀ a, p = some a → a.block ≠ b) : Lies (w.setCell ⟨b, o, none⟩ v) p zs := by
  rcases h with rfl | ⟨b', off, hp, h⟩
  · exact .inl rfl
  · refine .inr ⟨b', off, hp, fun i hi => ?_⟩
    rw [← h i hi]
    have := hne _ hp
    simp only [World.cell?, World.setCell, Array.getElem?_modify]
    rw [if_neg (by simp only at this; omega)]

theorem Ans.set4 {B : Nat} {w : World} {p : Option Addr} {ys : List Int} {n : Int} {b : Nat} {u0 u1 u2 u3 : Value} (h : Ans B w p ys n) (hb : b < B) :
    Ans B ((((w.setCell ⟨b, 0, none⟩ u0).setCell ⟨b, 1, none⟩ u1).setCell ⟨b, 2, none⟩ u2).setCell ⟨b, 3, none⟩ u3) p ys n := by
  have hne : ∀ a, p = some a → a.block ≠ b := fun a ha => by have := h.2.2.2.2 a ha; omega
  exact ⟨(((h.1.set hne).set hne).set hne).set hne, h.2⟩

/-- Two cells that may be written. -/
def Row2 (w : World) (b t : Nat) (v0 v1 : Value) : Prop := w.heap[b]? = some (.cells #[v0, v1] t (0, 0))

theorem Row2.below {B : Nat} {w w' : World} {b t : Nat} {v0 v1 : Value} (h : Row2 w b t v0 v1) (hB : Below B w w') (hb : b < B) : Row2 w' b t v0 v1 := by
  rw [Row2, hB.block b hb]; exact h

theorem Row2.lt {w : World} {b t : Nat} {v0 v1 : Value} (h : Row2 w b t v0 v1) : b < w.heap.size := by
  rcases Nat.lt_or_ge b w.heap.size with hl | hl
  · exact hl
  · simp [Row2, Array.getElem?_eq_none hl] at h

theorem Row2.cells {w : World} {b t : Nat} {v0 v1 : Value} (h : Row2 w b t v0 v1) :
    (w.cell? ⟨b, 0, none⟩ = some v0 ∧ w.cell? ⟨b, 1, none⟩ = some v1) ∧ (w.frozen? ⟨b, 0, none⟩ = false ∧ w.frozen? ⟨b, 1, none⟩ = false) := by
  simp only [Row2] at h
  refine ⟨⟨?_, ?_⟩, ⟨?_, ?_⟩⟩ <;> simp [World.cell?, World.frozen?, h]

theorem Row2.new (w : World) (t : Nat) (v0 v1 : Value) : Row2 (w.alloc (.cells #[v0, v1] t)) w.heap.size t v0 v1 := heap_alloc_new w _

theorem Row2.set {w : World} {b t : Nat} {v0 v1 u0 u1 : Value} (h : Row2 w b t v0 v1) : Row2 ((w.setCell ⟨b, 0, none⟩ u0).setCell ⟨b, 1, none⟩ u1) b t u0 u1 := by
  have h0 := set1 (o := 0) (v := u0) (c' := #[u0, v1]) h (by simp [Array.setIfInBounds])
  exact set1 (o := 1) (v := u1) (c' := #[u0, u1]) h0 (by simp [Array.setIfInBounds])

theorem set2_below {B : Nat} {w w' : World} {b : Nat} {u0 u1 : Value} (h : Below B w w') (hb : B ≤ b) : Below B w ((w'.setCell ⟨b, 0, none⟩ u0).setCell ⟨b, 1, none⟩ u1) :=
  (h.setCell (p := ⟨b, 0, none⟩) hb u0).setCell (p := ⟨b, 1, none⟩) hb u1

theorem Ans.set2 {B : Nat} {w : World} {p : Option Addr} {ys : List Int} {n : Int} {b : Nat} {u0 u1 : Value} (h : Ans B w p ys n) (hb : b < B) : Ans B ((w.setCell ⟨b, 0, none⟩ u0).setCell ⟨b, 1, none⟩ u1) p ys n := by
  have hne : ∀ a, p = some a → a.block ≠ b := fun a ha => by have := h.2.2.2.2 a ha; omega
  exact ⟨(h.1.set hne).set hne, h.2⟩

theorem alloc_b (w : World) (A : Obj) : Below w.heap.size w (w.alloc A) := Below.alloc (w := w) (Below.refl w.heap.size w) (Nat.le_refl _) A

theorem drew_b {B : Nat} {w w' : World} (h : Below B w w') : Below B w w'.drew := ⟨h.1, h.2, h.3, h.4, h.5⟩
end Go.Proofs.YtobiapniidaibaaGreatDoor

namespace Go.Proofs.YtobiapniidaibaaGreatDoor
open Go Go.RowKit Go.Deep

theorem fset1 {w : World} {b o t : Nat} {v : Value} {c c' : Array Value} (h : w.heap[b]? = some (.cells c t (0, 0))) (e : c.setIfInBounds o v = c') : (w.setCell ⟨b, o, none⟩ v).heap[b]? = some (.cells c' t (0, 0)) := by
  subst e
  simp [World.setCell, Array.getElem?_modify, h]


/-- Three cells that may be written. -/
def FR3 (w : World) (b : Nat) (v0 v1 v2 : Value) : Prop := w.heap[b]? = some (.cells #[v0, v1, v2] 25 (0, 0))
theorem FR3.new (w : World) (v0 v1 v2 : Value) : FR3 (w.alloc (.cells #[v0, v1, v2] 25)) w.heap.size v0 v1 v2 := heap_alloc_new w _
theorem FR3.below {B : Nat} {w w' : World} {b : Nat} {v0 v1 v2 : Value} (h : FR3 w b v0 v1 v2) (hB : Below B w w') (hb : b < B) : FR3 w' b v0 v1 v2 := by
  rw [FR3, hB.block b hb]; exact h
theorem FR3.lt {w : World} {b : Nat} {v0 v1 v2 : Value} (h : FR3 w b v0 v1 v2) : b < w.heap.size := by
  rcases Nat.lt_or_ge b w.heap.size with hl | hl
  · exact hl
  · simp [FR3, Array.getElem?_eq_none hl] at h
theorem FR3.cells {w : World} {b : Nat} {v0 v1 v2 : Value} (h : FR3 w b v0 v1 v2) :
    (w.cell? ⟨b, 0, none⟩ = some v0 ∧ w.cell? ⟨b, 1, none⟩ = some v1 ∧ w.cell? ⟨b, 2, none⟩ = some v2) ∧
    (w.frozen? ⟨b, 0, none⟩ = false ∧ w.frozen? ⟨b, 1, none⟩ = false ∧ w.frozen? ⟨b, 2, none⟩ = false) := by
  simp only [FR3] at h
  refine ⟨⟨?_, ?_, ?_⟩, ⟨?_, ?_, ?_⟩⟩ <;> simp [World.cell?, World.frozen?, h]
theorem FR3.put {w : World} {b : Nat} {v0 v1 v2 : Value} (h : FR3 w b v0 v1 v2) (u0 u1 u2 : Value) :
    FR3 (((w.setCell ⟨b, 0, none⟩ u0).setCell ⟨b, 1, none⟩ u1).setCell ⟨b, 2, none⟩ u2) b u0 u1 u2 := by
  have h0 := fset1 (o := 0) (v := u0) (c' := #[u0, v1, v2]) h (by simp [Array.setIfInBounds])
  have h1 := fset1 (o := 1) (v := u1) (c' := #[u0, u1, v2]) h0 (by simp [Array.setIfInBounds])
  exact fset1 (o := 2) (v := u2) (c' := #[u0, u1, u2]) h1 (by simp [Array.setIfInBounds])
theorem FR3.far {w : World} {b c o : Nat} {v v0 v1 v2 : Value} (h : FR3 w b v0 v1 v2) (hc : c ≠ b) : FR3 (w.setCell ⟨c, o, none⟩ v) b v0 v1 v2 := by
  simp only [FR3] at *
  simp only [World.setCell, Array.getElem?_modify]
  rw [if_neg hc]; exact h
theorem fset3_below {B : Nat} {w w' : World} {b : Nat} {u0 u1 u2 : Value} (h : Below B w w') (hb : B ≤ b) : Below B w (((w'.setCell ⟨b, 0, none⟩ u0).setCell ⟨b, 1, none⟩ u1).setCell ⟨b, 2, none⟩ u2) :=
  ((h.setCell (p := ⟨b, 0, none⟩) hb u0).setCell (p := ⟨b, 1, none⟩) hb u1).setCell (p := ⟨b, 2, none⟩) hb u2


theorem fresults_row_tmp {P : Program} {fn : Func} {p u : Tmp} {ty : TypeId} (h : fn.results = #[.cell p ty, .tmp u]) (tmps : Array Value) (w : World) (g : Nat) (t : TypeId) (cs : Array Value) (fr : Nat × Nat) (d : TypeDesc)
    (hp : tmps.getD p undef = .pointer (some ⟨g, 0, none⟩)) (hg : w.heap[g]? = some (.cells cs t fr))
    (hu : P.underlying ty = some d) (hd : (match d with | .struct _ | .array _ _ => true | _ => false) = true) (hi : (P.info? ty).map (·.size) = some cs.size) :
    (results fn tmps).run P w = .ok (.tuple #[.agg cs, tmps.getD u undef]) w := by
  rw [results_cell_tmp h, hp]
  simp [asAddr, run_loadVar_row w g t ty cs fr d hg hu hd hi, Result.andThen]

end Go.Proofs.YtobiapniidaibaaGreatDoor

namespace Go.Proofs.YtobiapniidaibaaGreatDoor
open Go Go.RowKit Go.Deep

theorem leq_dec (a : Bool) (s : ByteArray) (e : Int) (w : World) : (Op.equalIn 10000 25 (.agg #[.bool a, .string s, .int .i64 e]) (.agg #[.bool a, .string s, .int .i64 e])).run Tryz.prog w = .ok true w := by
  have u3 := Tryz.underlying3
  have a3 := Tryz.isAgg3
  have z3 := Tryz.sizeOf3
  have u4 := Tryz.underlying4
  have a4 := Tryz.isAgg4
  have z4 := Tryz.sizeOf4
  have u9 := Tryz.underlying9
  have a9 := Tryz.isAgg9
  have z9 := Tryz.sizeOf9
  have hS : Tryz.prog.underlying 25 = some (.struct (Tryz.prog.fieldsOf 25)) := by kernel_rfl
  rw [show (10000 : Nat) = 9999 + 1 from rfl, run_equalIn_struct w 9999 25 _ _ hS (by kernel_rfl)]
  simp only [Program.fieldsOf, Tryz.underlying25]
  go_simp

end Go.Proofs.YtobiapniidaibaaGreatDoor

namespace Go.Proofs.YtobiapniidaibaaGreatDoor
open Go.RowKit Go.Deep

theorem add64 (x y c : Int) (hx : 0 ≤ x) (hy : 0 ≤ y) (hc0 : 0 ≤ c) (hc : c ≤ 1) (w : World) :
    (callFunc 109 #[.int .u64 x, .int .u64 y, .int .u64 c]).run Tryz.prog w = .ok (.value (.tuple #[.int .u64 ((x + y + c) % 18446744073709551616), .int .u64 ((x + y + c) / 18446744073709551616)])) w := by
  rw [run_callFunc_extern Tryz.func109 (by kernel_rfl) (by kernel_rfl) (by kernel_rfl) (e := add64Entry) (by kernel_rfl), run_add64 x y c hx hy hc0 hc]
  rfl

/-- Its two answers under names. -/
theorem add64' (x y c s c' : Int) (hx : 0 ≤ x) (hy : 0 ≤ y) (hc0 : 0 ≤ c) (hc : c ≤ 1) (hs : s = (x + y + c) % 18446744073709551616) (hc' : c' = (x + y + c) / 18446744073709551616) (w : World) :
    (callFunc 109 #[.int .u64 x, .int .u64 y, .int .u64 c]).run Tryz.prog w = .ok (.value (.tuple #[.int .u64 s, .int .u64 c'])) w := by
  rw [hs, hc']
  exact add64 x y c hx hy hc0 hc w
end Go.Proofs.YtobiapniidaibaaGreatDoor

namespace Go.Proofs.YtobiapniidaibaaGreatDoor
open Go.RowKit Go.Deep

/-- The kit's contract for Mul64, laid at this program. -/
def mulRen : Go.Shelf.Ren := ⟨fun _ => 108, fun t => if t = 53 then 22 else 67, fun g => g⟩
theorem mulLays : Lays.n264 Tryz.prog mulRen where
  mixed := by kernel_rfl
  f264 := by kernel_rfl
  t46 := by kernel_rfl
  a46 := fun _ => by kernel_rfl
  z46 := fun _ => by kernel_rfl
  v46 := fun _ => by kernel_rfl
  t53 := by kernel_rfl
  a53 := fun _ => by kernel_rfl
  z53 := fun _ => by kernel_rfl
  v53 := fun _ => by kernel_rfl

theorem mul64_nat (x y : Nat) (hx : x < 18446744073709551616) (hy : y < 18446744073709551616) (w : World) :
    Calls Tryz.prog 108 #[.int .u64 x, .int .u64 y] w fun e w' => e = .returned (.tuple #[.int .u64 ((x * y / 18446744073709551616 : Nat) : Int), .int .u64 ((x * y % 18446744073709551616 : Nat) : Int)]) ∧ w' = w :=
  Any.bits_Mul64 mulLays x y hx hy w

/-- Mul64: the two limbs of the product, under names. -/
theorem mul64 (x y : Int) (hx : 0 ≤ x) (hx' : x < 18446744073709551616) (hy : 0 ≤ y) (hy' : y < 18446744073709551616) (w : World) :
    Calls Tryz.prog 108 #[.int .u64 x, .int .u64 y] w fun e w' => ∃ h l : Int, e = .returned (.tuple #[.int .u64 h, .int .u64 l]) ∧ (0 ≤ h ∧ h ≤ 18446744073709551614 ∧ 0 ≤ l ∧ l < 18446744073709551616) ∧ Hid (l + 18446744073709551616 * h = x * y) ∧ Hid (h = x * y / 18446744073709551616) ∧ w' = w := by
  obtain ⟨x, rfl⟩ := Int.eq_ofNat_of_zero_le hx
  obtain ⟨y, rfl⟩ := Int.eq_ofNat_of_zero_le hy
  refine (mul64_nat x y (by omega) (by omega) w).mono ?_
  rintro e w' ⟨rfl, rfl⟩
  have hb : x * y ≤ 18446744073709551615 * 18446744073709551615 := Nat.mul_le_mul (by omega) (by omega)
  have hc : ((x * y : Nat) : Int) = (x : Int) * (y : Int) := Int.natCast_mul x y
  rw [← hc]
  refine ⟨_, _, rfl, ?_, ?_, ?_, rfl⟩
  · generalize x * y = t at hb
    omega
  · show _ = _
    generalize x * y = t
    omega
  · show _ = _
    generalize x * y = t
    omega
end Go.Proofs.YtobiapniidaibaaGreatDoor

namespace Go.Proofs.YtobiapniidaibaaGreatDoor
open Go.RowKit Go.Deep

namespace Sh
theorem wrap_mod (x : Int) : IntKind.u64.wrap x = x % 18446744073709551616 := by rw [IntKind.wrap_u64]

/-- Digits that don't meet: 'or' is a sum. -/
theorem or_sum (hi c : Int) (s : Nat) (h0 : 0 ≤ hi) (hc0 : 0 ≤ c) (hc : c < 2 ^ s) (h1 : hi * 2 ^ s < 18446744073709551616) (h2 : c < 18446744073709551616) : bits .or .u64 (hi * 2 ^ s) c = hi * 2 ^ s + c := by
  obtain ⟨a, rfl⟩ := Int.eq_ofNat_of_zero_le h0
  obtain ⟨b, rfl⟩ := Int.eq_ofNat_of_zero_le hc0
  have hP : (2 : Int) ^ s = ((2 ^ s : Nat) : Int) := by simp
  rw [hP] at hc h1 ⊢
  have hb : b < 2 ^ s := by omega
  rw [← Int.natCast_mul] at h1 ⊢
  have h := bits_or_u64_nat (a * 2 ^ s) b (by omega) (by omega)
  rw [h, Nat.mul_comm a, ← Nat.two_pow_add_eq_or_of_lt hb a]
  omega

theorem split64 (r : Nat) (hr : r ≤ 63) : (2 : Int) ^ r * 2 ^ (64 - r) = 18446744073709551616 := by
  rw [← Nm.two_add, show r + (64 - r) = 64 by omega, Nm.two_64]

/-- One limb moved up by r binary digits, with what came up from below: the limb s, and what goes on. -/
theorem up (x sp : Int) (r : Nat) (hr : r ≤ 63) (x0 : 0 ≤ x) (x1 : x < 18446744073709551616) (s0 : 0 ≤ sp) (s1 : sp < 2 ^ r) :
    ∃ A s sp', IntKind.u64.wrap (x * 2 ^ r) = A ∧ bits .or .u64 A sp = s ∧ x / 2 ^ (64 - r) = sp' ∧ (0 ≤ s ∧ s < 18446744073709551616) ∧ (0 ≤ sp' ∧ sp' < 2 ^ r) ∧ Hid (s + 18446744073709551616 * sp' = x * 2 ^ r + sp) := by
  have hP := Nm.two_pos r
  have hQ := Nm.two_pos (64 - r)
  have hPQ := split64 r hr
  obtain ⟨P, hPe⟩ : ∃ P : Int, 2 ^ r = P := ⟨_, rfl⟩
  obtain ⟨Q, hQe⟩ : ∃ Q : Int, 2 ^ (64 - r) = Q := ⟨_, rfl⟩
  have d1 := Int.emod_add_mul_ediv x Q
  have d2 := Int.emod_nonneg x (show Q ≠ 0 by omega)
  have d3 := Int.emod_lt_of_pos x (show 0 < Q by omega)
  have a0 : 0 ≤ x / Q := Int.ediv_nonneg x0 (by omega)
  rw [hPe] at hP s1 hPQ
  rw [hQe] at hQ hPQ
  have a1 : x / Q < P := by
    rw [Int.ediv_lt_iff_lt_mul hQ, hPQ]
    exact x1
  have a4 : x * P = x % Q * P + 18446744073709551616 * (x / Q) := by
    have : (x % Q + Q * (x / Q)) * P = x * P := by rw [d1]
    rw [Int.add_mul, Int.mul_right_comm, Int.mul_comm Q P, hPQ] at this
    omega
  have a5 : (x % Q + 1) * P ≤ Q * P := Int.mul_le_mul_of_nonneg_right (by omega) (by omega)
  rw [Int.add_mul, Int.one_mul, Int.mul_comm Q P, hPQ] at a5
  have a6 : 0 ≤ x % Q * P := Int.mul_nonneg d2 (by omega)
  have hA : IntKind.u64.wrap (x * P) = x % Q * P := by rw [wrap_mod]; omega
  have hO := or_sum (x % Q) sp r d2 s0 (by rw [hPe]; exact s1) (by rw [hPe]; omega) (by omega)
  rw [hPe] at hO
  rw [hPe, hQe]
  exact ⟨_, _, _, hA, hO, rfl, by omega, ⟨a0, a1⟩, show _ = _ by omega⟩
end Sh
end Go.Proofs.YtobiapniidaibaaGreatDoor

namespace Go.Proofs.YtobiapniidaibaaGreatDoor
open Go.RowKit Go.Deep

/-- The kit's contract for Len64, laid at this program. -/
def lenRen : Go.Shelf.Ren := ⟨fun _ => 88, fun t => if t = 53 then 22 else if t = 46 then 67 else if t = 5 then 5 else if t = 9 then 9 else if t = 4 then 4 else 3, fun g => g⟩
theorem lenLays : Lays.n129 Tryz.prog lenRen where
  mixed := by kernel_rfl
  f129 := by kernel_rfl
  t3 := by kernel_rfl
  a3 := fun _ => by kernel_rfl
  z3 := fun _ => by kernel_rfl
  v3 := fun _ => by kernel_rfl
  t4 := by kernel_rfl
  a4 := fun _ => by kernel_rfl
  z4 := fun _ => by kernel_rfl
  v4 := fun _ => by kernel_rfl
  t5 := by kernel_rfl
  a5 := fun _ => by kernel_rfl
  z5 := fun _ => by kernel_rfl
  v5 := fun _ => by kernel_rfl
  t9 := by kernel_rfl
  a9 := fun _ => by kernel_rfl
  z9 := fun _ => by kernel_rfl
  v9 := fun _ => by kernel_rfl
  t46 := by kernel_rfl
  a46 := fun _ => by kernel_rfl
  z46 := fun _ => by kernel_rfl
  v46 := fun _ => by kernel_rfl
  t53 := by kernel_rfl
  a53 := fun _ => by kernel_rfl
  z53 := fun _ => by kernel_rfl
  v53 := fun _ => by kernel_rfl

theorem len64 (x : Int) (w : World) (h0 : 0 ≤ x) (h1 : x < 18446744073709551616) :
    Calls Tryz.prog 88 #[.int .u64 x] w fun e w' => e = .returned (.int .i64 (Lib.bitLen x.toNat)) ∧ w' = w :=
  Any.bits_Len64 lenLays x w h0 (by omega)

theorem bitLen_small (x : Nat) (h : x < 18446744073709551616) : Lib.bitLen x ≤ 64 := Lib.bitLen_le x 64 (Nat.le_refl _) (by simpa using h)

end Go.Proofs.YtobiapniidaibaaGreatDoor

namespace Go.Proofs.YtobiapniidaibaaGreatDoor
open Go.RowKit Go.Deep

/-- The number of binary digits. -/
def blen (zs : List Int) : Int := if Nm.tsize zs = 0 then 0 else ((Nm.tsize zs : Int) - 1) * 64 + Lib.bitLen (zs.getD (Nm.tsize zs - 1) 0).toNat

theorem blen_trim (zs : List Int) (t : Nat) (ht : Nm.tsize zs = t + 1) : blen zs = (t : Int) * 64 + Lib.bitLen ((Nm.trim zs).getD t 0).toNat := by
  have e : (Nm.trim zs).getD t 0 = zs.getD t 0 := by rw [Nm.trim, Nm.getD_take, if_pos (by omega)]
  rw [blen, if_neg (by omega), e, ht]
  simp

theorem retI {a b : Int} (h : a = b) : Ending.returned (.int .i64 a) = .returned (.int .i64 b) := by rw [h]

set_option maxRecDepth 100000 in
set_option maxHeartbeats 1000000 in
theorem bitLen_any (p : Option Addr) (n cap : Nat) (zs : List Int) (w : World) (ha : Arg w p n cap zs) :
    Calls Tryz.prog 61 #[.slice p n cap] w fun e w' => e = .returned (.int .i64 (blen zs)) ∧ w' = w := by
  obtain ⟨a1, a2, a3, a4, a5⟩ := ha
  have tl := Nm.tsize_le zs
  by_cases h0 : Nm.tsize zs = 0
  · have h0' : ((Nm.tsize zs : Int) == 0) = true := by simp [h0]
    have E : Hid (blen zs = 0) := by rw [Hid, blen, if_pos h0]
    clear h0 tl
    go_enter Tryz.func61, Tryz.ntmps61
    go_wp2_with fail
    refine (trimmed_any p n cap zs _ a1 a2 (by omega) a4).mono ?_
    rintro e w' ⟨rfl, rfl⟩
    go_wp2_with fail
    go_ret
    exact ⟨retI E.out.symm, rfl⟩
  · obtain ⟨t, ht⟩ : ∃ t, Nm.tsize zs = t + 1 := ⟨Nm.tsize zs - 1, by omega⟩
    have T1 := trimmed_any p n cap zs w a1 a2 (by omega) a4
    rw [ht] at T1
    have h0' : ((t : Int) + 1 == 0) = false := by rw [beq_eq_false_iff_ne]; omega
    have E := hid (blen_trim zs t ht)
    have L := hid ((Nm.trim_length zs).trans ht)
    obtain ⟨b, off, rfl, hc⟩ : ∃ b off, p = some ⟨b, off, none⟩ ∧ w.cell? ⟨b, off + t, none⟩ = some (.int .u64 ((Nm.trim zs).getD t 0)) := by
      have l := L.out
      rcases a4.trim with h | ⟨b, off, hp, h⟩
      · rw [h] at l
        simp at l
      · exact ⟨b, off, hp, h t (by omega)⟩
    obtain ⟨x, X⟩ : ∃ x, Hid (x = (Nm.trim zs).getD t 0) := ⟨_, rfl⟩
    rw [← X.out] at hc
    have hx0 := a5.trim.at t
    rw [← X.out] at hx0
    obtain ⟨hx0, hx1⟩ := hx0
    have E2 : Hid (blen zs = (t : Int) * 64 + Lib.bitLen x.toNat) := by rw [Hid, X.out]; exact E.out
    obtain ⟨l, hl⟩ : ∃ l, Lib.bitLen x.toNat = l := ⟨_, rfl⟩
    have hl64 : l ≤ 64 := by rw [← hl]; exact bitLen_small _ (by omega)
    have hl64' : (l : Int) ≤ 64 := by omega
    have L64 := len64 x w hx0 hx1
    rw [hl] at L64 E2
    have HT := hid T1
    have HL := hid L64
    have ht44 : (t : Int) < 17592186044416 := by omega
    clear T1 L64 hl E X h0 ht tl a1 a2 a4 a5 L
    go_enter Tryz.func61, Tryz.ntmps61
    go_wp2_with fail
    refine HT.out.mono ?_
    rintro e w' ⟨rfl, rfl⟩
    go_wp2_with fail
    refine HL.out.mono ?_
    rintro e w' ⟨rfl, rfl⟩
    go_wp2_with fail
    go_ret
    exact ⟨retI E2.out.symm, rfl⟩
end Go.Proofs.YtobiapniidaibaaGreatDoor

namespace Go.Proofs.YtobiapniidaibaaGreatDoor
open Go.RowKit Go.Deep

theorem chain {B : Nat} {w w1 w2 : World} (h : Below B w w1) (k : Below w1.heap.size w1 w2) (hB : B ≤ w.heap.size) : Below B w w2 := h.trans (k.mono (by have := h.size; omega))

theorem Arg.tl {w : World} {p : Option Addr} {n cap : Nat} {zs : List Int} (h : Arg w p n cap zs) : Nm.tsize zs ≤ n := by have := Nm.tsize_le zs; have := h.1; omega

/-- The number of an answer's limbs, by the number itself. -/
theorem Ans.len {B : Nat} {w : World} {p : Option Addr} {ys zs : List Int} {n : Int} (h : Ans B w p ys n) (hz : Nm.Limbs zs) (hv : n = Nm.val zs) : ys.length = Nm.tsize zs := by
  rw [← h.2.2.1]
  exact Nm.tsize_congr h.2.1 hz (h.2.2.2.1.trans hv)
end Go.Proofs.YtobiapniidaibaaGreatDoor

namespace Go.Proofs.YtobiapniidaibaaGreatDoor
open Go.RowKit Go.Deep

/-- What ToUint answers: the limb, and whether it is one. -/
def toU (zs : List Int) : Int := if Nm.tsize zs = 1 then zs.getD 0 0 else 0

theorem ret_to {a b : Int} {c d : Bool} (h : a = b) (k : c = d) : Ending.returned (.tuple #[.int .u64 a, .bool c]) = .returned (.tuple #[.int .u64 b, .bool d]) := by rw [h, k]

theorem toUint_any (p : Option Addr) (n cap : Nat) (zs : List Int) (w : World) (ha : Arg w p n cap zs) :
    Calls Tryz.prog 136 #[.slice p n cap] w fun e w' => e = .returned (.tuple #[.int .u64 (toU zs), .bool (decide (Nm.tsize zs ≤ 1))]) ∧ w' = w := by
  obtain ⟨a1, a2, a3, a4, a5⟩ := ha
  have tl := Nm.tsize_le zs
  have S1 := trimmed_any p n cap zs w a1 a2 (by omega) a4
  rcases (show Nm.tsize zs = 0 ∨ Nm.tsize zs = 1 ∨ 1 < Nm.tsize zs by omega) with h | h | h
  · have E : Hid (0 = toU zs ∧ true = decide (Nm.tsize zs ≤ 1)) := by simp [Hid, toU, h]
    rw [h] at S1
    have HS := hid S1
    clear S1 h
    go_enter Tryz.func136, Tryz.ntmps136
    go_wp2_with fail
    refine HS.out.mono ?_
    rintro e w' ⟨rfl, rfl⟩
    go_wp2
    go_ret2
    exact ⟨ret_to E.out.1 E.out.2, rfl⟩
  · have E : Hid (zs.getD 0 0 = toU zs ∧ true = decide (Nm.tsize zs ≤ 1)) := by simp [Hid, toU, h]
    obtain ⟨b, off, rfl, hbw, HC⟩ := a4.at (by omega)
    have hc := HC.out 0 (by omega)
    rw [Nat.add_zero] at hc
    rw [h] at S1
    have HS := hid S1
    clear S1 h
    go_enter Tryz.func136, Tryz.ntmps136
    go_wp2_with fail
    refine HS.out.mono ?_
    rintro e w' ⟨rfl, rfl⟩
    go_wp2
    go_ret2
    exact ⟨ret_to E.out.1 E.out.2, rfl⟩
  · have E : Hid (0 = toU zs ∧ false = decide (Nm.tsize zs ≤ 1)) := by
      refine ⟨?_, ?_⟩
      · rw [toU, if_neg (by omega)]
      · simp; omega
    have h1 : ((Nm.tsize zs : Int) == 0) = false := by rw [beq_eq_false_iff_ne]; omega
    have h2 : ((Nm.tsize zs : Int) == 1) = false := by rw [beq_eq_false_iff_ne]; omega
    have HS := hid S1
    clear S1 h
    go_enter Tryz.func136, Tryz.ntmps136
    go_wp2_with fail
    refine HS.out.mono ?_
    rintro e w' ⟨rfl, rfl⟩
    go_wp2
    go_ret2
    exact ⟨ret_to E.out.1 E.out.2, rfl⟩

theorem toU_val {zs : List Int} (hl : Nm.Limbs zs) (hv : Nm.val zs < 18446744073709551616) : toU zs = Nm.val zs := by
  have h1 : Nm.tsize zs ≤ 1 := (Nm.tsize_le_iff hl 1).2 (by simpa [Nm.pw] using hv)
  by_cases h : Nm.tsize zs = 1
  · rw [toU, if_pos h, ← Nm.val_trim zs, Nm.trim, h]
    cases zs with
    | nil => simp [Nm.val]
    | cons z zs => simp [Nm.val]
  · have h0 : Nm.tsize zs = 0 := by omega
    rw [toU, if_neg h, ← Nm.val_trim zs, Nm.trim, h0]
    simp [Nm.val]
end Go.Proofs.YtobiapniidaibaaGreatDoor

namespace Go.Proofs.YtobiapniidaibaaGreatDoor
open Go.RowKit Go.Deep

theorem ans_none (B : Nat) (w : World) (p : Option Addr) (h : ∀ a, p = some a → B ≤ a.block) : Ans B w p [] 0 :=
  ⟨Lies.nil _ _, Nm.Limbs.nil, rfl, rfl, h⟩

theorem limb_one {x : Int} (h : 0 ≤ x ∧ x < 18446744073709551616) : Nm.Limbs [x] := Nm.Limbs.mk h.1 h.2 Nm.Limbs.nil

theorem fromUint_any (x : Int) (w : World) (h0 : 0 ≤ x) (h1 : x < 18446744073709551616) :
    Calls Tryz.prog 41 #[.int .u64 x] w fun e w' => ∃ r os, e = .returned (.slice r (List.length os) (List.length os)) ∧ Ans w.heap.size w' r os x ∧ Below w.heap.size w w' := by
  by_cases hx : x = 0
  · subst hx
    go_enter Tryz.func41, Tryz.ntmps41
    go_wp2
    go_ret
    exact ⟨none, [], rfl, ans_none _ _ _ (fun a h => by cases h), Below.refl _ _⟩
  · have hx' : (x == 0) = false := by rw [beq_eq_false_iff_ne]; exact hx
    have D : Hid (Below w.heap.size w (w.alloc (.cells #[.int .u64 x] 22))) := (Below.refl _ _).alloc (Nat.le_refl _) _
    have A : Hid (Ans w.heap.size (w.alloc (.cells #[.int .u64 x] 22)) (some ⟨w.heap.size, 0, none⟩) [x] x) := ⟨(Own.alloc w [x]).lies, limb_one ⟨h0, h1⟩, by simp [Nm.tsize, hx], by simp [Nm.val], fun a h => by cases h; exact Nat.le_refl _⟩
    go_enter Tryz.func41, Tryz.ntmps41
    go_wp2
    go_ret
    exact ⟨some ⟨w.heap.size, 0, none⟩, [x], rfl, A.out, D.out⟩
end Go.Proofs.YtobiapniidaibaaGreatDoor

namespace Go.Proofs.YtobiapniidaibaaGreatDoor
open Go.RowKit Go.Deep

/-- Trim: the trimmed list, in new memory. -/
theorem trim_any (p : Option Addr) (n cap : Nat) (zs : List Int) (w : World) (ha : Arg w p n cap zs) :
    Calls Tryz.prog 106 #[.slice p n cap] w fun e w' => ∃ r os, e = .returned (.slice r (List.length os) (List.length os)) ∧ os = Nm.trim zs ∧ Ans w.heap.size w' r os (Nm.val zs) ∧ Below w.heap.size w w' := by
  obtain ⟨a1, a2, a3, a4, a5⟩ := ha
  have tl := Nm.tsize_le zs
  go_enter Tryz.func106, Tryz.ntmps106
  go_wp2_with fail
  refine (trimmed_any p n cap zs _ a1 a2 (by omega) a4).mono ?_
  rintro e w' ⟨rfl, rfl⟩
  go_wp2_with fail
  refine (widened_any p (Nm.tsize zs) (Nm.tsize zs) 0 0 (Nm.trim zs) _ rfl (Nm.trim_length zs) (by omega) a4.trim).mono ?_
  rintro e w1 ⟨rfl, ho, hb1, hz1⟩
  have HO := hid ho
  have HB := hid hb1
  clear ho hb1 hz1 tl
  go_wp2
  go_ret
  refine ⟨some ⟨w'.heap.size, 0, none⟩, Nm.trim zs, ?_, rfl, ⟨?_, a5.trim, ?_, Nm.val_trim zs, ?_⟩, HB.out⟩
  · rw [Nm.trim_length]; rfl
  · have := HO.out
    simp only [List.replicate_zero, List.append_nil] at this
    exact this.lies
  · rw [Nm.trim_trim, Nm.trim_length]
  · intro a h
    cases h
    exact Nat.le_refl _
end Go.Proofs.YtobiapniidaibaaGreatDoor

namespace Go.Proofs.YtobiapniidaibaaGreatDoor
open Go.RowKit Go.Deep

theorem info64r : (Tryz.prog.info? 75).map (fun i => (i.zero, i.size, i.bytes)) = some (some (.slice none 0 0), 1, 24) := by kernel_rfl

/-- The list of headers, behind another one is appended: in its block, or in a new one at the heap's end. -/
theorem pushRow (base n : Nat) (mv : Value) (xs : List Value) (v : Value) (w : World) (hn : n ≤ 1000) (hv : v.oneCell' = true) (hb : base ≤ w.heap.size) (ho : w.ownsRow base 75 1 mv n xs) :
    ∃ mv' w', (Builtin.append_ #[155, 155] 155 #[mv, .slice (some ⟨w.heap.size, 0, none⟩) 1 1]).run Tryz.prog (w.alloc (.cells #[v] 75)) = .ok mv' w' ∧ w'.ownsRow base 75 1 mv' (n + 1) (xs ++ [v]) ∧ Below base w w' ∧ w.heap.size ≤ w'.heap.size ∧
      (∀ j, j < w.heap.size → some j ≠ mv.ownBlock → w'.heap[j]? = w.heap[j]?) ∧ (∀ k, mv'.ownBlock = some k → mv.ownBlock = some k ∨ w.heap.size ≤ k) := by
  obtain ⟨i, hi, hz⟩ := Option.map_eq_some_iff.1 info64r
  simp only [Prod.mk.injEq] at hz
  obtain ⟨z1, z2, z3⟩ := hz
  have bm : Below w.heap.size w (w.alloc (.cells #[v] 75)) := (Below.refl _ _).alloc (Nat.le_refl _) _
  have hs : (w.alloc (.cells #[v] 75)).heap.size = w.heap.size + 1 := World.size_alloc _ _
  have ho' := ho.alloc (.cells #[v] 75)
  have hcell : (w.alloc (.cells #[v] 75)).cell? ⟨w.heap.size, 0, none⟩ = some v := by
    have : (w.alloc (.cells #[v] 75)).heap[w.heap.size]? = some (.cells #[v] 75 (0, 0)) := by
      show (w.heap.push _)[w.heap.size]? = _
      rw [Array.getElem?_push, if_pos rfl]
    simp only [World.cell?, this]
    rfl
  have hnews : ∀ j u, [v][j]? = some u → (w.alloc (.cells #[v] 75)).cell? ((⟨w.heap.size, 0, none⟩ : Addr).add j) = some u := fun j u hu => by
    cases j with
    | zero =>
      simp at hu
      subst hu
      rw [Go.WideShapes.add_plain]
      exact hcell
    | succ j => simp at hu
  have h1v : ∀ u ∈ [v], u.oneCell' = true := fun u hu => by simp at hu; subst hu; exact hv
  obtain ⟨v', w', hr, h1, h2, _⟩ := run_append_own (P := Tryz.prog) (w.alloc (.cells #[v] 75)) base 155 155 75 i (.slice none 0 0) 1 24 Tryz.underlying155 hi z1 z2 z3 rfl (by omega) mv n xs ho'
    ⟨w.heap.size, 0, none⟩ 1 1 [v] rfl hnews h1v (by simp only [maxLen]; omega) (by omega) (by rw [hs]; omega)
  refine ⟨v', w', hr, h1, ?_, by have := h2.size; omega, fun j hj hne => ?_, ?_⟩
  · have hb2 : Below base (w.alloc (.cells #[v] 75)) w' := by
      refine ⟨h2.os, h2.tape, h2.output, h2.size, fun j hj => h2.block j (by rw [hs]; omega) ?_⟩
      intro hk
      have := (ho'.lt j hk.symm).1
      omega
    exact (bm.mono hb).trans hb2
  · rw [h2.block j (by rw [hs]; omega) hne]
    exact bm.block j hj
  · intro k hk
    rcases ho'.2 with ⟨rfl, h0⟩ | ⟨g, cap, cur, rfl, _, hcur, hnc, hcm, hcs, htk⟩
    · right
      subst h0
      have hr2 := run_append_nil (P := Tryz.prog) (w.alloc (.cells #[v] 75)) 155 155 75 i (.slice none 0 0) Tryz.underlying155 hi z1 ⟨w.heap.size, 0, none⟩ 1 1 [v] (by rw [z2]; rfl) hnews (by omega) (by omega) (by rw [z3]; omega)
      rw [hr] at hr2
      simp only [Result.ok.injEq] at hr2
      obtain ⟨rfl, _⟩ := hr2
      simp only [Value.ownBlock, Option.some.injEq] at hk
      omega
    · by_cases hroom : n + 1 ≤ cap
      · left
        have hr2 := run_append_room (P := Tryz.prog) (w.alloc (.cells #[v] 75)) 155 155 75 i Tryz.underlying155 hi g n cap cur hcur ⟨w.heap.size, 0, none⟩ 1 1 [v] (by rw [z2]; rfl) hnews h1v hroom (by rw [z2, hcs]; simp; omega)
        rw [hr] at hr2
        simp only [Result.ok.injEq] at hr2
        obtain ⟨rfl, _⟩ := hr2
        simpa [Value.ownBlock] using hk
      · right
        have holds : ∀ j u, xs[j]? = some u → (w.alloc (.cells #[v] 75)).cell? ((⟨g, 0, none⟩ : Addr).add j) = some u := ho'.cells (g := g) rfl
        have hr2 := run_append_grow (P := Tryz.prog) (w.alloc (.cells #[v] 75)) 155 155 75 i (.slice none 0 0) Tryz.underlying155 hi z1 ⟨g, 0, none⟩ n cap xs (by rw [z2]; exact ho.1) holds ⟨w.heap.size, 0, none⟩ 1 1 [v] (by rw [z2]; rfl) hnews (by omega) (by omega) (growslice_fits (by omega) (by rw [z3]; omega))
        rw [hr] at hr2
        simp only [Result.ok.injEq] at hr2
        obtain ⟨rfl, _⟩ := hr2
        simp only [Value.ownBlock, Option.some.injEq] at hk
        omega

/-- A row: a trimmed list of the number V, in another block than the headers. -/
def RowIn (w : World) (mv : Value) (e : Option Addr × List Int) (V : Int) : Prop :=
  Lies w e.1 e.2 ∧ Nm.Limbs e.2 ∧ Nm.tsize e.2 = e.2.length ∧ Nm.val e.2 = V ∧ ∀ a, e.1 = some a → a.block < w.heap.size ∧ some a.block ≠ mv.ownBlock

def rowV (e : Option Addr × List Int) : Value := .slice e.1 e.2.length e.2.length

theorem RowIn.below {w w' : World} {mv : Value} {e : Option Addr × List Int} {V : Int} (h : RowIn w mv e V) (hb : Below w.heap.size w w') : RowIn w' mv e V :=
  ⟨h.1.below hb (Nat.le_refl _), h.2.1, h.2.2.1, h.2.2.2.1, fun a ha => ⟨Nat.lt_of_lt_of_le (h.2.2.2.2 a ha).1 hb.size, (h.2.2.2.2 a ha).2⟩⟩

theorem RowIn.pushed {w w' : World} {mv mv' : Value} {e : Option Addr × List Int} {V : Int} (h : RowIn w mv e V) (hz : w.heap.size ≤ w'.heap.size) (hb : ∀ j, j < w.heap.size → some j ≠ mv.ownBlock → w'.heap[j]? = w.heap[j]?) (hk : ∀ k, mv'.ownBlock = some k → mv.ownBlock = some k ∨ w.heap.size ≤ k) : RowIn w' mv' e V := by
  obtain ⟨h1, h2, h3, h4, h5⟩ := h
  refine ⟨?_, h2, h3, h4, fun a ha => ⟨Nat.lt_of_lt_of_le (h5 a ha).1 hz, fun hc => ?_⟩⟩
  · rcases h1 with h1 | ⟨b, off, hp, h1⟩
    · exact .inl h1
    · refine .inr ⟨b, off, hp, fun i hi => ?_⟩
      have h6 := h5 _ hp
      have := hb b h6.1 h6.2
      rw [← h1 i hi]
      simp only [World.cell?, this]
  · have h6 := h5 a ha
    rcases hk a.block hc.symm with c | c
    · exact h6.2 c.symm
    · omega

theorem RowIn.arg {w : World} {mv : Value} {e : Option Addr × List Int} {V : Int} (h : RowIn w mv e V) (hl : e.2.length ≤ 17592186044416) : Arg w e.1 e.2.length e.2.length e.2 := ⟨rfl, Nat.le_refl _, hl, h.1, h.2.1⟩

/-- An answer that is newer than the headers is such a row. -/
theorem Ans.row {B base n : Nat} {w w' : World} {r : Option Addr} {os : List Int} {V : Int} {mv : Value} {xs : List Value} (h : Ans B w' r os V) (hB : B = w.heap.size) (ho : w.ownsRow base 75 1 mv n xs) (h0 : 0 < V) : RowIn w' mv (r, os) V := by
  refine ⟨h.1, h.2.1, h.2.2.1, h.2.2.2.1, fun a ha => ⟨?_, fun hc => ?_⟩⟩
  · have hne : 0 < os.length := by
      rcases Nat.eq_zero_or_pos os.length with c | c
      · have := h.2.2.2.1
        rw [List.eq_nil_of_length_eq_zero c] at this
        simp [Nm.val] at this
        omega
      · exact c
    exact h.1.lt hne a ha
  · have h1 := h.2.2.2.2 a ha
    have h2 := ho.lt a.block hc.symm
    omega
end Go.Proofs.YtobiapniidaibaaGreatDoor

namespace Go.Proofs.YtobiapniidaibaaGreatDoor
open Go.RowKit Go.Deep

structure ShutG (p : Prop) : Prop where
  out : p

/-- So many digits a limb holds. -/
theorem few64 {B : Int} {W : Nat} (hB : 2 ≤ B) (h : B ^ W < 18446744073709551616) : W ≤ 63 := by
  have := Ln.small (A := B ^ W) (L := 64) hB (Int.le_refl _) (by rw [show (2 : Int) ^ 64 = 18446744073709551616 by decide]; exact h)
  omega

set_option maxRecDepth 100000 in
set_option maxHeartbeats 1000000 in
theorem group_any (B : Int) (w : World) (h2 : 2 ≤ B) (h36 : B ≤ 36) :
    Calls Tryz.prog 115 #[.int .u64 B] w fun e w' => (∃ (W : Nat) (P : Int), e = .returned (.tuple #[.int .u64 P, .int .i64 (W : Int)]) ∧ P = B ^ W ∧ 1 ≤ W ∧ W ≤ 63 ∧ P < 18446744073709551616) ∧ w' = w := by
  have hB0 : (B == 0) = false := by rw [beq_eq_false_iff_ne]; omega
  go_enter Tryz.func115, Tryz.ntmps115
  go_wp2_with fail
  go_loop [4, 5] (fun p c => ∃ (P : Int) (W : Nat), p = .int .u64 P ∧ c = .int .i64 (W : Int) ∧ 1 ≤ P ∧ P ≤ 18446744073709551615 ∧ Hid (P = B ^ W ∧ 1 ≤ W ∧ W ≤ 63)) (fun _ c => 64 - (intOf c).toNat)
  case atStart => exact ⟨B, 1, rfl, rfl, by omega, by omega, by rw [Int.pow_succ, Int.pow_zero, Int.one_mul], by omega, by omega⟩
  case round =>
    obtain ⟨P, W, rfl, rfl, hP1, hP2, F⟩ := hrel
    have hW : (W : Int) ≤ 63 := by have := F.out.2.2; omega
    by_cases hle : P ≤ 18446744073709551615 / B
    · have hm : P * B ≤ 18446744073709551615 := (Int.le_ediv_iff_mul_le (by omega)).1 hle
      have hm0 : 0 ≤ P * B := Int.mul_nonneg (by omega) (by omega)
      have hm1 : 1 ≤ P * B := by have := Int.mul_le_mul (a := 1) (b := 1) hP1 (show 1 ≤ B by omega) (by omega) (by omega); omega
      have q1 : IntKind.u64.wrap (P * B) = P * B := by rw [IntKind.wrap_u64]; omega
      have W2 : Hid (W + 1 ≤ 63) := few64 h2 (by rw [Int.pow_succ, ← F.out.1]; omega)
      have HM := hid hm
      have HM1 := hid hm1
      clear hm hm0 hm1
      go_wp2_with fail
      go_round
      case rel => exact ⟨P * B, W + 1, rfl, by go_num, HM1.out, HM.out, by rw [Int.pow_succ, ← F.out.1], by omega, W2.out⟩
      case measure => simp [intOf]; have := F.out.2; omega
    · go_wp2_with fail
      go_ret2
      exact ⟨⟨W, P, rfl, F.out.1, F.out.2.1, F.out.2.2, by omega⟩, rfl⟩
end Go.Proofs.YtobiapniidaibaaGreatDoor

/-
  ieee: Neg.
-/
namespace Go.Proofs.YtobiapniidaibaaGreatDoor
open Go Go.RowKit Go.Deep

set_option maxRecDepth 100000 in
theorem neg_any (d : Int) (w : World) (h0 : 0 ≤ d) (h1 : d < 18446744073709551616) :
    Calls Tryz.prog 55 #[.int .u64 d] w fun e w' => e = .returned (.int .u64 (Ie.ng d)) ∧ w' = w := by
  have B : bits .xor .u64 d 9223372036854775808 = Ie.ng d := Ib.sign_xor d h0 h1
  go_enter Tryz.func55, Tryz.ntmps55
  go_wp2
  go_ret
  exact ⟨rfl, rfl⟩
end Go.Proofs.YtobiapniidaibaaGreatDoor

/-
  ieee: the order of doubles, in numbers.
-/
namespace Go.Proofs.YtobiapniidaibaaGreatDoor
open Go Go.RowKit Go.Deep

namespace Ie
/-- No NaN. -/
def okd (d : Int) : Bool := decide (d % 9223372036854775808 ≤ 9218868437227405312)
/-- The rank. -/
def rk (d : Int) : Int := if d < 9223372036854775808 then d else 9223372036854775808 - d
theorem cls4 (d : Int) : cls d = 4 ↔ okd d = false := by
  rw [okd, decide_eq_false_iff_not, cls]
  by_cases a : fld d = 0
  · rw [if_pos a]
    simp only [fld] at a
    by_cases b : d % 4503599627370496 = 0
    · rw [if_pos b]; omega
    · rw [if_neg b]; omega
  · rw [if_neg a]
    by_cases c : fld d = 2047
    · rw [if_pos c]
      simp only [fld] at a c
      by_cases b : d % 4503599627370496 = 0
      · rw [if_pos b]; omega
      · rw [if_neg b]; omega
    · rw [if_neg c]
      simp only [fld] at a c
      omega
/-- Rank's number. -/
def rkv (d : Int) : Int := if okd d = true then rk d else 0
/-- The next one above. -/
def upd (d : Int) : Int :=
  if okd d = false then 9221120237041090560 else if d = 9218868437227405312 then d else if d = 9223372036854775808 then 1 else if 9223372036854775808 < d then d - 1 else d + 1
/-- The next one below. -/
def dnd (d : Int) : Int := if okd d = false then 9221120237041090560 else ng (upd (ng d))
/-- The double at a rank. -/
def atr (i : Int) : Int := if i < 0 then 9223372036854775808 - i else i
end Ie

theorem ret_i64b {a b : Int} {c d : Bool} (h : a = b) (k : c = d) : Ending.returned (.tuple #[.int .i64 a, .bool c]) = .returned (.tuple #[.int .i64 b, .bool d]) := by rw [h, k]
theorem ret_u64b {a b : Int} {c d : Bool} (h : a = b) (k : c = d) : Ending.returned (.tuple #[.int .u64 a, .bool c]) = .returned (.tuple #[.int .u64 b, .bool d]) := by rw [h, k]
end Go.Proofs.YtobiapniidaibaaGreatDoor

/-
  ieee: Up, Down.
-/
namespace Go.Proofs.YtobiapniidaibaaGreatDoor
open Go Go.RowKit Go.Deep

set_option maxRecDepth 100000 in
set_option maxHeartbeats 2000000 in
theorem up_any (d : Int) (w : World) (h0 : 0 ≤ d) (h1 : d < 18446744073709551616) :
    Calls Tryz.prog 56 #[.int .u64 d] w fun e w' => e = .returned (.int .u64 (Ie.upd d)) ∧ w' = w := by
  have B := Ib.sign_and d h0 h1
  have CL := hid (class_any d w h0 h1)
  have c4 := Ie.cls4 d
  obtain ⟨c, hc⟩ : ∃ c, Ie.cls d = c := ⟨_, rfl⟩
  rw [hc] at CL c4
  obtain ⟨sv, hsv⟩ : ∃ sv, d / 9223372036854775808 * 9223372036854775808 = sv := ⟨_, rfl⟩
  rw [hsv] at B
  by_cases hn : c = 4
  · have E : Hid (9221120237041090560 = Ie.upd d) := by rw [Hid, Ie.upd, if_pos (c4.1 hn)]
    subst hn
    clear hc hsv c4
    go_enter Tryz.func56, Tryz.ntmps56
    go_wp2_with fail
    refine CL.out.mono ?_
    rintro e w' ⟨rfl, rfl⟩
    go_wp2_with fail
    go_ret
    exact ⟨i_retU E.out, rfl⟩
  · have ok : Ie.okd d = true := by
      cases h : Ie.okd d
      · exact absurd (c4.2 h) hn
      · rfl
    have hn' : (c == 4) = false := by rw [beq_eq_false_iff_ne]; exact hn
    have E0 : Ie.upd d = if d = 9218868437227405312 then d else if d = 9223372036854775808 then 1 else if 9223372036854775808 < d then d - 1 else d + 1 := by rw [Ie.upd, ok, if_neg (by decide)]
    by_cases e1 : d = 9218868437227405312
    · subst e1
      rw [if_pos rfl] at E0
      have E := hid E0
      clear hc hsv c4 ok E0 hn
      go_enter Tryz.func56, Tryz.ntmps56
      go_wp2_with fail
      refine CL.out.mono ?_
      rintro e w' ⟨rfl, rfl⟩
      go_wp2_with fail
      go_ret
      exact ⟨i_retU E.out.symm, rfl⟩
    · have e1' : (d == 9218868437227405312) = false := by rw [beq_eq_false_iff_ne]; exact e1
      rw [if_neg e1] at E0
      by_cases e2 : d = 9223372036854775808
      · subst e2
        rw [if_pos rfl] at E0
        have E := hid E0
        clear hc hsv c4 ok E0 hn
        go_enter Tryz.func56, Tryz.ntmps56
        go_wp2_with fail
        refine CL.out.mono ?_
        rintro e w' ⟨rfl, rfl⟩
        go_wp2_with fail
        go_ret
        exact ⟨i_retU E.out.symm, rfl⟩
      · have e2' : (d == 9223372036854775808) = false := by rw [beq_eq_false_iff_ne]; exact e2
        rw [if_neg e2] at E0
        by_cases e3 : 9223372036854775808 < d
        · rw [if_pos e3] at E0
          have E := hid E0
          have hz : sv = 9223372036854775808 := by omega
          subst hz
          clear hc hsv c4 ok E0 hn e1 e2
          go_enter Tryz.func56, Tryz.ntmps56
          go_wp2_with fail
          refine CL.out.mono ?_
          rintro e w' ⟨rfl, rfl⟩
          go_wp2_with fail
          go_ret
          exact ⟨i_retU E.out.symm, rfl⟩
        · rw [if_neg e3] at E0
          have E := hid E0
          have hz : sv = 0 := by omega
          subst hz
          have lt : d < 9223372036854775808 := by omega
          clear hc hsv c4 ok E0 hn e1 e2 e3
          go_enter Tryz.func56, Tryz.ntmps56
          go_wp2_with fail
          refine CL.out.mono ?_
          rintro e w' ⟨rfl, rfl⟩
          go_wp2_with fail
          go_ret
          exact ⟨i_retU E.out.symm, rfl⟩

end Go.Proofs.YtobiapniidaibaaGreatDoor

/-
  ieee: Down.
-/
namespace Go.Proofs.YtobiapniidaibaaGreatDoor
open Go Go.RowKit Go.Deep

theorem Ie.ng_bd (d : Int) (h0 : 0 ≤ d) (h1 : d < 18446744073709551616) : 0 ≤ Ie.ng d ∧ Ie.ng d < 18446744073709551616 := by
  simp only [Ie.ng]; split <;> omega

theorem Ie.upd_bd (d : Int) (h0 : 0 ≤ d) (h1 : d < 18446744073709551616) : 0 ≤ Ie.upd d ∧ Ie.upd d < 18446744073709551616 := by
  simp only [Ie.upd]
  split
  · omega
  · split
    · omega
    · split
      · omega
      · split <;> omega

set_option maxRecDepth 100000 in
set_option maxHeartbeats 2000000 in
theorem down_any (d : Int) (w : World) (h0 : 0 ≤ d) (h1 : d < 18446744073709551616) :
    Calls Tryz.prog 36 #[.int .u64 d] w fun e w' => e = .returned (.int .u64 (Ie.dnd d)) ∧ w' = w := by
  have CL := hid (class_any d w h0 h1)
  have c4 := Ie.cls4 d
  obtain ⟨c, hc⟩ : ∃ c, Ie.cls d = c := ⟨_, rfl⟩
  rw [hc] at CL c4
  by_cases hn : c = 4
  · have E : Hid (9221120237041090560 = Ie.dnd d) := by rw [Hid, Ie.dnd, if_pos (c4.1 hn)]
    subst hn
    clear hc c4
    go_enter Tryz.func36, Tryz.ntmps36
    go_wp2_with fail
    refine CL.out.mono ?_
    rintro e w' ⟨rfl, rfl⟩
    go_wp2_with fail
    go_ret
    exact ⟨i_retU E.out, rfl⟩
  · have ok : Ie.okd d = true := by
      cases h : Ie.okd d
      · exact absurd (c4.2 h) hn
      · rfl
    have hn' : (c == 4) = false := by rw [beq_eq_false_iff_ne]; exact hn
    have E : Hid (Ie.dnd d = Ie.ng (Ie.upd (Ie.ng d))) := by rw [Hid, Ie.dnd, ok, if_neg (by decide)]
    have b1 := Ie.ng_bd d h0 h1
    have b2 := Ie.upd_bd _ b1.1 b1.2
    have N1 := hid (neg_any d w h0 h1)
    have U1 := hid (up_any _ w b1.1 b1.2)
    have N2 := hid (neg_any _ w b2.1 b2.2)
    clear hc c4 ok hn b1 b2
    go_enter Tryz.func36, Tryz.ntmps36
    go_wp2_with fail
    refine CL.out.mono ?_
    rintro e w' ⟨rfl, rfl⟩
    go_wp2_with fail
    refine N1.out.mono ?_
    rintro e w' ⟨rfl, rfl⟩
    go_wp2_with fail
    refine U1.out.mono ?_
    rintro e w' ⟨rfl, rfl⟩
    go_wp2_with fail
    refine N2.out.mono ?_
    rintro e w' ⟨rfl, rfl⟩
    go_wp2_with fail
    go_ret
    exact ⟨i_retU E.out.symm, rfl⟩
end Go.Proofs.YtobiapniidaibaaGreatDoor

/-
  ieee: Abs.
-/
namespace Go.Proofs.YtobiapniidaibaaGreatDoor
open Go Go.RowKit Go.Deep

set_option maxRecDepth 100000 in
theorem abs_any (d : Int) (w : World) (h0 : 0 ≤ d) (h1 : d < 18446744073709551616) :
    Calls Tryz.prog 32 #[.int .u64 d] w fun e w' => e = .returned (.int .u64 (d % 9223372036854775808)) ∧ w' = w := by
  have B := Ib.sign_andNot d h0 h1
  go_enter Tryz.func32, Tryz.ntmps32
  go_wp2
  go_ret
  exact ⟨rfl, rfl⟩
end Go.Proofs.YtobiapniidaibaaGreatDoor
