/-
  Texts put together: RnW, RnWr, RnNext, RnCut, RnChk.
-/
import Derived.Test.YtiflponlioldmaaGreatDoorRC
import Derived.Test.YtiflponlioldmaaGreatDoorRL
import Derived.Defers
import Derived.Recover
import Derived.WalkLawsBesides
import Derived.Laws.Pointers
import Derived.Test.YtiflponlioldmaaGreatDoorRE
import Derived.Test.YtiflponlioldmaaGreatDoorRB
import Derived.Test.YtiflponlioldmaaGreatDoorRH
namespace Go.Proofs.YtiflponlioldmaaGreatDoor
open Go Go.RowKit Go.Deep Go.Shelf

theorem nums_app (a b : List Int) : strOfNums (a ++ b) = strOfNums a ++ strOfNums b := by
  apply ByteArray.ext
  simp [strOfNums, ByteArray.data_append]
theorem cells_app (a b : List Int) : Lib.strCells (strOfNums (a ++ b)) = Lib.strCells (strOfNums a) ++ Lib.strCells (strOfNums b) := by
  rw [nums_app]; simp [Lib.strCells, ByteArray.data_append]

/-- The writer in block b, p what the Builder's 'addr' holds. -/
def WrAt (B b : Nat) (A p : Value) (zs : List Int) (w : World) : Prop :=
  B ≤ b ∧ ∃ v, w.heap[b]? = some (.cells #[A, p, v] 83 (0, 0)) ∧ w.ownsRow B 5 1 v zs.length (Lib.strCells (strOfNums zs)) ∧ v.ownBlock ≠ some b
def IsW (B b : Nat) (A : Value) (zs : List Int) (w : World) : Prop := WrAt B b A (.pointer none) zs w ∨ WrAt B b A (.pointer (some ⟨b, 1, none⟩)) zs w
theorem wr_lt {B b : Nat} {A p : Value} {zs : List Int} {w : World} (h : WrAt B b A p zs w) : b < w.heap.size := by
  obtain ⟨_, v, hb, _⟩ := h
  rcases Nat.lt_or_ge b w.heap.size with h' | h'
  · exact h'
  · simp [Array.getElem?_eq_none h'] at hb
theorem IsW.any {B b : Nat} {A : Value} {zs : List Int} {w : World} (h : IsW B b A zs w) : ∃ p, WrAt B b A p zs w := by
  rcases h with h | h
  · exact ⟨_, h⟩
  · exact ⟨_, h⟩
theorem IsW.lt {B b : Nat} {A : Value} {zs : List Int} {w : World} (h : IsW B b A zs w) : b < w.heap.size := by
  obtain ⟨p, h⟩ := h.any
  exact wr_lt h
theorem WrAt.below {B b : Nat} {A p : Value} {zs : List Int} {w w' : World} (h : WrAt B b A p zs w) (k : Below w.heap.size w w') : WrAt B b A p zs w' := by
  have hl := wr_lt h
  obtain ⟨h1, v, h2, h3, h4⟩ := h
  exact ⟨h1, v, by rw [k.block b hl]; exact h2, World.ownsRow.kept (row := none) h3 ⟨k.os, k.tape, k.output, k.size, fun j hj _ => k.block j hj⟩ (by cases h : Value.ownBlock v <;> simp), h4⟩
theorem IsW.below {B b : Nat} {A : Value} {zs : List Int} {w w' : World} (h : IsW B b A zs w) (k : Below w.heap.size w w') : IsW B b A zs w' := by
  rcases h with h | h
  · exact .inl (h.below k)
  · exact .inr (h.below k)
theorem IsW.cell0 {B b : Nat} {A : Value} {zs : List Int} {w : World} (h : IsW B b A zs w) : w.cell? ⟨b, 0, none⟩ = some A ∧ w.frozen? ⟨b, 0, none⟩ = false := by
  obtain ⟨p, _, v, hb, _⟩ := h.any
  exact ⟨by rw [Lib.cell_of_heap hb]; rfl, Lib.frozen_of_heap hb 0⟩
theorem WrAt.set0 {B b : Nat} {A p : Value} {zs : List Int} {w : World} (h : WrAt B b A p zs w) (A' : Value) : WrAt B b A' p zs (w.setCell ⟨b, 0, none⟩ A') := by
  obtain ⟨h1, v, h2, h3, h4⟩ := h
  refine ⟨h1, v, by simp [World.setCell, Array.getElem?_modify, h2], ?_, h4⟩
  exact h3.kept (row := some b) ⟨rfl, rfl, rfl, by simp [World.setCell], fun k _ hk => Below.heap_setCell _ _ _ _ (fun e => hk (by simp [e]))⟩ (Or.inr h4)
theorem IsW.set0 {B b : Nat} {A : Value} {zs : List Int} {w : World} (h : IsW B b A zs w) (A' : Value) : IsW B b A' zs (w.setCell ⟨b, 0, none⟩ A') := by
  rcases h with h | h
  · exact .inl (h.set0 A')
  · exact .inr (h.set0 A')
theorem IsW.new (w : World) (A : Value) : IsW w.heap.size w.heap.size A [] (w.alloc (.cells #[A, .pointer none, .slice none 0 0] 83)) :=
  .inl ⟨Nat.le_refl _, .slice none 0 0, heap_alloc_new w _, World.ownsRow_nil _ _ _ _, by simp [Value.ownBlock]⟩
theorem IsW.mono {B B' b : Nat} {A : Value} {zs : List Int} {w : World} (h : IsW B b A zs w) (hb : B' ≤ B) : IsW B' b A zs w := by
  have key : ∀ p, WrAt B b A p zs w → WrAt B' b A p zs w := by
    rintro p ⟨h1, v, h2, ⟨h3, h5⟩, h4⟩
    refine ⟨by omega, v, h2, ⟨h3, ?_⟩, h4⟩
    rcases h5 with q | ⟨g, cap, cur, e1, e2, q⟩
    · exact .inl q
    · exact .inr ⟨g, cap, cur, e1, by omega, q⟩
  rcases h with h | h
  · exact .inl (key _ h)
  · exact .inr (key _ h)

theorem wsize : (Tryz.prog.info? 81).map (·.size) = some 2 := by kernel_rfl
theorem wlies : liesAt Tryz.prog Tryz.prog.depth 83 (3 / Tryz.prog.cellsOf 83) 1 81 1 = true := by kernel_rfl

set_option maxHeartbeats 1000000 in
set_option maxRecDepth 100000 in
theorem wcopy_used (b : Nat) (w : World) (h0 : w.cell? ⟨b, 1, none⟩ = some (.pointer (some ⟨b, 1, none⟩))) :
    Calls Tryz.prog 93 #[.pointer (some ⟨b, 1, none⟩)] w fun e w' => e = .returned (.tuple #[]) ∧ w' = w := by
  obtain ⟨j, hj, _⟩ := Option.map_eq_some_iff.1 wsize
  go_enter Tryz.func93, Tryz.ntmps93
  go_wp2
  rw [Lib.run_neq_ptr_same w _ Tryz.underlying79 hj]
  go_wp2
  go_end0
  exact ⟨rfl, rfl⟩

set_option maxHeartbeats 1000000 in
set_option maxRecDepth 100000 in
theorem wcopy_fresh (b : Nat) (w : World) (h0 : w.cell? ⟨b, 1, none⟩ = some (.pointer none)) (hsh : w.shape? b = some (83, 3)) (hfz : w.frozen? ⟨b, 1, none⟩ = false) :
    Calls Tryz.prog 93 #[.pointer (some ⟨b, 1, none⟩)] w fun e w' => e = .returned (.tuple #[]) ∧ w' = w.setCell ⟨b, 1, none⟩ (.pointer (some ⟨b, 1, none⟩)) := by
  obtain ⟨j, hj, hjs⟩ := Option.map_eq_some_iff.1 wsize
  go_enter Tryz.func93, Tryz.ntmps93
  go_wp2
  rw [Lib.run_to_unsafe w ⟨b, 1, none⟩ Tryz.underlying79 Tryz.underlying176 hj (by rw [hjs]; decide) hsh (show 1 < 3 by decide)]
  simp only [Result.andThen]
  rw [Oper.upon_value]
  go_wp2
  rw [run_callFunc_extern Tryz.func143 (by kernel_rfl) (by kernel_rfl) (by kernel_rfl) (e := Extern.AbiNoEscape.same) (by kernel_rfl)]
  rw [Lib.run_noEscape]
  simp only [Result.andThen]
  rw [Oper.upon_value]
  go_wp2
  rw [Lib.run_from_unsafe w ⟨b, 1, none⟩ Tryz.underlying176 Tryz.underlying79 hj hsh wlies]
  simp only [Result.andThen]
  rw [Oper.upon_value]
  go_wp2
  go_end0
  exact ⟨rfl, rfl⟩

theorem wcopy_any (B b : Nat) (A : Value) (zs : List Int) (w : World) (h : IsW B b A zs w) :
    Calls Tryz.prog 93 #[.pointer (some ⟨b, 1, none⟩)] w fun e w' => e = .returned (.tuple #[]) ∧ WrAt B b A (.pointer (some ⟨b, 1, none⟩)) zs w' ∧ Below B w w' := by
  rcases h with h | h
  · obtain ⟨hB, v, hb, hown, hne⟩ := h
    refine (wcopy_fresh b w (by rw [Lib.cell_of_heap hb]; rfl) (by simp [World.shape?, hb]) (Lib.frozen_of_heap hb 1)).mono ?_
    rintro e w' ⟨rfl, rfl⟩
    refine ⟨rfl, ⟨hB, v, by simp [World.setCell, Array.getElem?_modify, hb], ?_, hne⟩, (Below.refl B w).setCell (p := ⟨b, 1, none⟩) hB _⟩
    exact hown.kept (row := some b) ⟨rfl, rfl, rfl, by simp [World.setCell], fun k _ hk => Below.heap_setCell _ _ _ _ (fun e => hk (by simp [e]))⟩ (Or.inr hne)
  · obtain ⟨hB, v, hb, hown, hne⟩ := h
    refine (wcopy_used b w (by rw [Lib.cell_of_heap hb]; rfl)).mono ?_
    rintro e w' ⟨rfl, rfl⟩
    exact ⟨rfl, ⟨hB, v, hb, hown, hne⟩, Below.refl B _⟩

set_option maxHeartbeats 1000000 in
set_option maxRecDepth 100000 in
theorem wlen_any (B b : Nat) (A : Value) (zs : List Int) (w : World) (h : IsW B b A zs w) :
    Calls Tryz.prog 47 #[.pointer (some ⟨b, 1, none⟩)] w fun e w' => e = .returned (.int .i64 (zs.length : Int)) ∧ w' = w := by
  obtain ⟨p, hB, v, hbk, hown, hne⟩ := h.any
  obtain ⟨ao, cap, rfl⟩ : ∃ ao cap, v = .slice ao zs.length cap := by
    rcases hown.2 with ⟨hv, h0⟩ | ⟨g, cap, cur, hv, _⟩
    · exact ⟨none, 0, by rw [hv, h0]⟩
    · exact ⟨_, _, hv⟩
  have c1 : w.cell? ⟨b, 2, none⟩ = some (.slice ao zs.length cap) := by rw [Lib.cell_of_heap hbk]; rfl
  clear hown hbk hne h
  go_enter Tryz.func47, Tryz.ntmps47
  go_wp2
  go_ret
  exact ⟨rfl, rfl⟩

set_option maxHeartbeats 2000000 in
set_option maxRecDepth 100000 in
theorem wwrite_any (B b : Nat) (A : Value) (zs xs : List Int) (w : World) (h : IsW B b A zs w) (hl : zs.length + xs.length ≤ 16777216) (hBw : B ≤ w.heap.size) :
    Calls Tryz.prog 48 #[.pointer (some ⟨b, 1, none⟩), .string (strOfNums xs)] w fun e w' => e = .returned (.tuple #[.int .i64 (xs.length : Int), .nilIface]) ∧ IsW B b A (zs ++ xs) w' ∧ Below B w w' := by
  obtain ⟨i0, hi, hz⟩ := Option.map_eq_some_iff.1 (show (Tryz.prog.info? 5).map (fun i => (i.zero, i.size, i.bytes)) = some (some (.int .u8 0), 1, 1) by kernel_rfl)
  simp only [Prod.mk.injEq] at hz
  obtain ⟨hz0, hz1, hz2⟩ := hz
  have sx := strOfNums_size xs
  go_enter Tryz.func48, Tryz.ntmps48
  go_wp2_with (go_at_call 93; refine (wcopy_any B b A zs _ h).mono ?_)
  rintro e w1 ⟨rfl, h1, hb1⟩
  obtain ⟨hB, v, hbk, hown, hne⟩ := h1
  have c0 : w1.cell? ⟨b, 1, none⟩ = some (.pointer (some ⟨b, 1, none⟩)) := by rw [Lib.cell_of_heap hbk]; rfl
  have c1 : w1.cell? ⟨b, 2, none⟩ = some v := by rw [Lib.cell_of_heap hbk]; rfl
  go_wp2_with (at_builtin; refine Lib.wpList_append_own_string _ rfl _ _ 70 9 rfl B 5 i0 Tryz.underlying70 Tryz.underlying9 hi hz0 hz1 hz2 _ _ _ rfl hown (strOfNums xs) rfl ?c3 ?c4 ?c5 ?_)
  case c3 => unfold maxLen; omega
  case c4 => omega
  case c5 => have := hb1.size; omega
  intro v' w2 hown' hgrow _
  have hlt : b < w1.heap.size := by
    rcases Nat.lt_or_ge b w1.heap.size with h' | h'
    · exact h'
    · simp [Array.getElem?_eq_none h'] at hbk
  have hb2 : w2.heap[b]? = some (.cells #[A, .pointer (some ⟨b, 1, none⟩), v] 83 (0, 0)) := by
    rw [hgrow.block b hlt (fun e => hne e.symm)]
    exact hbk
  have d1 : w2.cell? ⟨b, 2, none⟩ = some v := by rw [Lib.cell_of_heap hb2]; rfl
  have f1 : w2.frozen? ⟨b, 2, none⟩ = false := Lib.frozen_of_heap hb2 2
  obtain ⟨ao, n', cap, rfl⟩ : ∃ ao n' cap, v' = .slice ao n' cap := by
    rcases hown'.2 with ⟨hv, _⟩ | ⟨g, cap, cur, hv, _⟩
    · exact ⟨_, _, _, hv⟩
    · exact ⟨_, _, _, hv⟩
  go_wp2
  go_ret2
  refine ⟨rfl, .inr ?_, ?_⟩
  · have hne' := Lib.ownBlock_ne hown' hb2 (by decide)
    have hown2 : w2.ownsRow B 5 1 (.slice ao n' cap) (zs ++ xs).length (Lib.strCells (strOfNums (zs ++ xs))) := by
      rw [cells_app, List.length_append]
      exact hown'
    refine ⟨hB, _, by simp [World.setCell, Array.getElem?_modify, hb2], ?_, hne'⟩
    exact hown2.kept (row := some b) ⟨rfl, rfl, rfl, by simp [World.setCell], fun k _ hk => Below.heap_setCell _ _ _ _ (fun e => hk (by simp [e]))⟩ (Or.inr hne')
  · exact (hb1.grown hgrow (by have := hb1.size; omega) (fun k hk => (hown.lt k hk).1)).setCell (p := ⟨b, 2, none⟩) hB _
set_option maxHeartbeats 2000000 in
set_option maxRecDepth 100000 in
theorem wstr_row (B b : Nat) (A : Value) (x : Int) (xs : List Int) (w : World) (h : IsW B b A (x :: xs) w) :
    Calls Tryz.prog 42 #[.pointer (some ⟨b, 1, none⟩)] w fun e w' => e = .returned (.string (strOfNums (x :: xs))) ∧ Below B w w' := by
  obtain ⟨p, hB, v, hbk, hown, hne⟩ := h.any
  clear h
  have l8 : (strOfNums (x :: xs)).data.toList.length = (x :: xs).length := by rw [strOfNums_data, List.length_map]
  have l9 : (strOfNums (x :: xs)).data.toList ≠ [] := by rw [strOfNums_data]; simp
  have e8 : (⟨(strOfNums (x :: xs)).data.toList.toArray⟩ : ByteArray) = strOfNums (x :: xs) := by simp
  have sc : Lib.strCells (strOfNums (x :: xs)) = Lib.byteCells (strOfNums (x :: xs)).data.toList := rfl
  rw [sc, ← l8] at hown
  rw [← e8]
  generalize (strOfNums (x :: xs)).data.toList = l at *
  clear l8 e8 sc
  have hl0 : l.length ≠ 0 := by simpa using l9
  obtain ⟨g, cap, cur, rfl, hbg, hg, hnc, hcm, hcs, htake⟩ : ∃ g cap cur, v = .slice (some ⟨g, 0, none⟩) l.length cap ∧ B ≤ g ∧ w.heap[g]? = some (.cells cur 5 (0, 0)) ∧ l.length ≤ cap ∧ cap ≤ maxLen ∧ cur.size = cap * 1 ∧ cur.toList.take (l.length * 1) = Lib.byteCells l := by
    rcases hown.2 with ⟨_, hz⟩ | ⟨g, cap, cur, hv, r⟩
    · exact absurd hz hl0
    · exact ⟨g, cap, cur, hv, r⟩
  have c1 : w.drew.cell? ⟨b, 2, none⟩ = some (.slice (some ⟨g, 0, none⟩) l.length cap) := by
    have : w.drew.heap[b]? = some (.cells #[A, p, .slice (some ⟨g, 0, none⟩) l.length cap] 83 (0, 0)) := hbk
    rw [Lib.cell_of_heap this]; rfl
  have hSD : (Builtin.unsafeSliceData_ #[70] 129 #[.slice (some ⟨g, 0, none⟩) l.length cap]).run Tryz.prog w.drew = .ok (.pointer (some ⟨g, 0, none⟩)) w.drew :=
    Lib.run_unsafeSliceData_row _ _ _ _ _ _ (by omega)
  have hUS : (Builtin.unsafeString_ #[129, 3] 9 #[.pointer (some ⟨g, 0, none⟩), .int .i64 l.length]).run Tryz.prog w.drew = .ok (.string ⟨l.toArray⟩) (w.drew.freeze ⟨g, 0, none⟩ l.length) := by
    refine Lib.run_unsafeString_row w.drew 129 3 9 5 Tryz.underlying129 (by kernel_rfl) g cur.size (by have hg' : w.drew.heap[g]? = some (.cells cur 5 (0, 0)) := hg; simp [World.shape?, hg']) l l9 (by omega) (by unfold maxLen at hcm; omega) ?_
    intro j x hx
    have := hown.cells (g := g) rfl j (.int .u8 x.toNat) (by simp [Lib.byteCells, hx])
    exact this
  clear hown htake hcs hcm hnc hg hbk hne hl0 l9
  go_enter Tryz.func42, Tryz.ntmps42
  go_wp2
  go_region
  all_goals (go_wp2; go_ret; exact ⟨rfl, Lib.below_freeze (Below.drew (Below.refl B w)) (p := ⟨g, 0, none⟩) hbg _⟩)

set_option maxHeartbeats 2000000 in
set_option maxRecDepth 100000 in
theorem wstr_nil (B b : Nat) (A : Value) (w : World) (h : IsW B b A [] w) (hBw : B ≤ w.heap.size) :
    Calls Tryz.prog 42 #[.pointer (some ⟨b, 1, none⟩)] w fun e w' => e = .returned (.string ⟨#[]⟩) ∧ Below B w w' := by
  obtain ⟨p, hB, v, hbk, hown, hne⟩ := h.any
  have hlt := h.lt
  clear h
  have hUS : ∀ (W : World) (q : Option Addr), (Builtin.unsafeString_ #[129, 3] 9 #[.pointer q, .int .i64 0]).run Tryz.prog W = .ok (.string .empty) W := fun W q => Lib.run_unsafeString_none W _ _ _ q
  rcases hown.2 with ⟨rfl, _⟩ | ⟨g, cap, cur, rfl, hbg, hg, _, _, _, _⟩
  · have c1 : w.drew.cell? ⟨b, 2, none⟩ = some (.slice none 0 0) := by
      have : w.drew.heap[b]? = some (.cells #[A, p, .slice none 0 0] 83 (0, 0)) := hbk
      rw [Lib.cell_of_heap this]; rfl
    have hSD : (Builtin.unsafeSliceData_ #[70] 129 #[.slice none 0 0]).run Tryz.prog w.drew = .ok (.pointer none) w.drew := rfl
    clear hown hbk hne
    go_enter Tryz.func42, Tryz.ntmps42
    go_wp2
    go_region
    all_goals (go_wp2; go_ret; exact ⟨rfl, Below.drew (Below.refl B w)⟩)
  · by_cases hc0 : cap = 0
    · subst hc0
      have c1 : w.drew.cell? ⟨b, 2, none⟩ = some (.slice (some ⟨g, 0, none⟩) 0 0) := by
        have : w.drew.heap[b]? = some (.cells #[A, p, .slice (some ⟨g, 0, none⟩) 0 0] 83 (0, 0)) := hbk
        rw [Lib.cell_of_heap this]; rfl
      have hSD : (Builtin.unsafeSliceData_ #[70] 129 #[.slice (some ⟨g, 0, none⟩) 0 0]).run Tryz.prog w.drew = .ok (.pointer (some ⟨w.drew.heap.size, 0, none⟩)) (w.drew.alloc (.view ⟨g, 0, none⟩ 5)) :=
        Lib.run_unsafeSliceData_zero w.drew _ _ 5 Tryz.underlying129 ⟨g, 0, none⟩ 0 (5, cur.size) (by have hg' : w.drew.heap[g]? = some (.cells cur 5 (0, 0)) := hg; simp [World.shape?, hg'])
      have c2 : (w.drew.alloc (.view ⟨g, 0, none⟩ 5)).cell? ⟨b, 2, none⟩ = some (.slice (some ⟨g, 0, none⟩) 0 0) := by
        have : (w.drew.alloc (.view ⟨g, 0, none⟩ 5)).heap[b]? = _ := (Lib.alloc_old w.drew _ b hlt).trans hbk
        rw [Lib.cell_of_heap this]; rfl
      have c3 : (w.alloc (.view ⟨g, 0, none⟩ 5)).drew.cell? ⟨b, 2, none⟩ = some (.slice (some ⟨g, 0, none⟩) 0 0) := c2
      have c0 : w.cell? ⟨b, 2, none⟩ = some (.slice (some ⟨g, 0, none⟩) 0 0) := c1
      clear hown hbk hne hg
      go_enter Tryz.func42, Tryz.ntmps42
      go_wp2
      go_region
      all_goals (go_wp2; go_ret; exact ⟨rfl, (Below.drew (Below.refl B w)).alloc hBw _⟩)
    · have c1 : w.drew.cell? ⟨b, 2, none⟩ = some (.slice (some ⟨g, 0, none⟩) 0 cap) := by
        have : w.drew.heap[b]? = some (.cells #[A, p, .slice (some ⟨g, 0, none⟩) 0 cap] 83 (0, 0)) := hbk
        rw [Lib.cell_of_heap this]; rfl
      have hSD : (Builtin.unsafeSliceData_ #[70] 129 #[.slice (some ⟨g, 0, none⟩) 0 cap]).run Tryz.prog w.drew = .ok (.pointer (some ⟨g, 0, none⟩)) w.drew :=
        Lib.run_unsafeSliceData_row _ _ _ _ _ _ hc0
      clear hown hbk hne hg hc0
      go_enter Tryz.func42, Tryz.ntmps42
      go_wp2
      go_region
      all_goals (go_wp2; go_ret; exact ⟨rfl, Below.drew (Below.refl B w)⟩)

theorem wstr_any (B b : Nat) (A : Value) (zs : List Int) (w : World) (h : IsW B b A zs w) (hBw : B ≤ w.heap.size) :
    Calls Tryz.prog 42 #[.pointer (some ⟨b, 1, none⟩)] w fun e w' => e = .returned (.string (strOfNums zs)) ∧ Below B w w' := by
  cases zs with
  | nil => exact wstr_nil B b A w h hBw
  | cons x xs => exact wstr_row B b A x xs w h
end Go.Proofs.YtiflponlioldmaaGreatDoor

namespace Go.Proofs.YtiflponlioldmaaGreatDoor
open Go Go.RowKit Go.Deep Go.Shelf

/-- What a fault panics with. -/
def flt (e : Int) : List PanicEntry := [{ v := .iface 123 (.agg #[.int .i64 e]), recovered := false }]

set_option maxRecDepth 100000 in
theorem giveUp_any (e : Int) (w : World) : Calls Tryz.prog 87 #[.int .i64 e] w fun r w' => r = .panicked (flt e) ∧ w' = w := by
  go_enter Tryz.func87, Tryz.ntmps87
  go_wp2
  exact ⟨rfl, rfl, rfl⟩

set_option maxRecDepth 100000 in
theorem told_any (e : Int) (w : World) : Calls Tryz.prog 38 #[.iface 123 (.agg #[.int .i64 e])] w fun r w' => r = .returned (.int .i64 e) ∧ Below w.heap.size w w' := by
  have R := hid (alloc_b w (.cells #[.int .i64 e] 123))
  have TA : ∀ wx : World, (Instr.typeAssert (.iface 123 (.agg #[.int .i64 e])) 20 123 true).run Tryz.prog wx = .ok (.tuple #[.agg #[.int .i64 e], .bool true]) wx := fun wx => by kernel_rfl
  go_enter Tryz.func38, Tryz.ntmps38
  go_wp2_with fail
  go_ret
  exact ⟨rfl, R.out⟩

theorem blk_lt {w : World} {b : Nat} {o : Obj} (h : w.heap[b]? = some o) : b < w.heap.size := by
  rcases Nat.lt_or_ge b w.heap.size with h' | h'
  · exact h'
  · rw [Array.getElem?_eq_none h'] at h; cases h
set_option maxRecDepth 100000 in
theorem catch_panic (tb eb B : Nat) (E : Int) (s0 e0 : Value) (w : World) (hB1 : B ≤ tb) (hB2 : B ≤ eb) (hne : tb ≠ eb) (ht : w.heap[tb]? = some (.cells #[s0] 9 (0, 0))) (he : w.heap[eb]? = some (.cells #[e0] 41 (0, 0))) :
    CallsD Tryz.prog 37 #[.pointer (some ⟨tb, 0, none⟩), .pointer (some ⟨eb, 0, none⟩)] (.panicking (flt E)) w fun r u' w' => r = .returned (.tuple #[]) ∧ u' = .panicking [{ v := .iface 123 (.agg #[.int .i64 E]), recovered := true }] ∧ w'.cell? ⟨tb, 0, none⟩ = some (.string ⟨#[]⟩) ∧ w'.cell? ⟨eb, 0, none⟩ = some (.int .i64 E) ∧ Below B w w' := by
  have TO := hid (fun wk => told_any E wk)
  refine callsD_of_wpS Tryz.func37 rfl fun c₀ cs hu => ?_
  unfold flt at hu
  apply wpS_seq
  apply wpS_region
  simp [wpOpsS, go_sem, recoverD, hu, Tryz.ntmps37, Exit.thenS]
  apply wpS_seq
  apply wpS_region
  simp [wpOpsS, go_sem, Exit.thenS]
  refine wpS_cond (t := true) (by simp [Act.eval, Array.replicate]) ?_
  simp only [if_true]
  refine wpS_of_wp ?_
  have lt1 : tb < w.heap.size := blk_lt ht
  have lt2 : eb < w.heap.size := blk_lt he
  rw [show (#[Value.pointer (some ⟨tb, 0, none⟩), Value.pointer (some ⟨eb, 0, none⟩)] ++ ((((Array.replicate 6 undef).setIfInBounds 1 (Value.iface 123 (Value.agg #[Value.int IntKind.i64 E]))).setIfInBounds 0 (Value.iface 123 (Value.agg #[Value.int IntKind.i64 E]))).setIfInBounds 2 (Value.iface 123 (Value.agg #[Value.int IntKind.i64 E]))).setIfInBounds 3 (Value.bool true)) = #[Value.pointer (some ⟨tb, 0, none⟩), Value.pointer (some ⟨eb, 0, none⟩), Value.iface 123 (Value.agg #[Value.int IntKind.i64 E]), Value.iface 123 (Value.agg #[Value.int IntKind.i64 E]), Value.iface 123 (Value.agg #[Value.int IntKind.i64 E]), Value.bool true, undef, undef] from rfl]
  go_wp2_with fail
  with_reducible refine (TO.out _).mono ?_
  rintro e w1 ⟨rfl, b1⟩
  have t1 : w1.heap[tb]? = some (.cells #[s0] 9 (0, 0)) := by rw [b1.block tb lt1]; exact ht
  have e1 : w1.heap[eb]? = some (.cells #[e0] 41 (0, 0)) := by rw [b1.block eb lt2]; exact he
  have c1 : w1.cell? ⟨tb, 0, none⟩ = some s0 := by rw [Lib.cell_of_heap t1]; rfl
  have c2 : w1.cell? ⟨eb, 0, none⟩ = some e0 := by rw [Lib.cell_of_heap e1]; rfl
  have f1 := Lib.frozen_of_heap t1 0
  have f2 := Lib.frozen_of_heap e1 0
  have BB := hid ((b1.mono (by omega : B ≤ w.heap.size)).setCell (p := ⟨tb, 0, none⟩) hB1 (.string ⟨#[]⟩) |>.setCell (p := ⟨eb, 0, none⟩) hB2 (.int .i64 E))
  have K1 : Hid (((w1.setCell ⟨tb, 0, none⟩ (.string ⟨#[]⟩)).setCell ⟨eb, 0, none⟩ (.int .i64 E)).cell? ⟨tb, 0, none⟩ = some (.string ⟨#[]⟩)) := by
    show _ = _
    simp [World.cell?, World.setCell, Array.getElem?_modify, t1, Ne.symm hne]
  have K2 : Hid (((w1.setCell ⟨tb, 0, none⟩ (.string ⟨#[]⟩)).setCell ⟨eb, 0, none⟩ (.int .i64 E)).cell? ⟨eb, 0, none⟩ = some (.int .i64 E)) := by
    show _ = _
    simp [World.cell?, World.setCell, Array.getElem?_modify, e1, hne]
  clear TO b1 ht he t1 e1
  go_wp2_with fail
  exact ⟨rfl, _, rfl, _, results_none rfl _ _ _, rfl, rfl, K1.out, K2.out, BB.out⟩
set_option maxRecDepth 100000 in
theorem catch_idle (p q : Addr) (w : World) :
    CallsD Tryz.prog 37 #[.pointer (some p), .pointer (some q)] .returning w fun e u' w' => e = .returned (.tuple #[]) ∧ u' = .returning ∧ w' = w := by
  refine callsD_of_wpS Tryz.func37 rfl fun c₀ cs hu => ?_
  apply wpS_seq
  apply wpS_region
  simp [wpOpsS, go_sem, recoverD, hu, Tryz.ntmps37, Exit.thenS]
  apply wpS_seq
  apply wpS_region
  simp [wpOpsS, go_sem, Exit.thenS]
  refine wpS_cond (t := false) (by simp [Act.eval, Array.replicate]) ?_
  simp only [Bool.false_eq_true, if_false]
  refine wpS_of_wp (wp_skip ?_)
  cases c₀
  simp_all [bodyPostS, results, Tryz.results37]

/-- What has stayed, the writer, the arguments that are left. -/
structure RWS (w1 : World) (v : Value) (A : List Rn.Ag) (zs : List Int) (w : World) : Prop where
  bel : Below w1.heap.size w1 w
  av : AgV w1 v A
  isw : IsW w1.heap.size w1.heap.size v zs w
theorem RWS.on {w1 w w' : World} {v : Value} {A : List Rn.Ag} {zs : List Int} (h : RWS w1 v A zs w) (k : Below w.heap.size w w') : RWS w1 v A zs w' := ⟨below_on h.bel k, h.av, h.isw.below k⟩
theorem RWS.put {w1 w w' : World} {v v' : Value} {A A' : List Rn.Ag} {zs : List Int} (h : RWS w1 v A zs w) (ha : AgV w1 v' A') (k : Below w.heap.size (w.setCell ⟨w1.heap.size, 0, none⟩ v') w') : RWS w1 v' A' zs w' := by
  have s0 : (w.setCell ⟨w1.heap.size, 0, none⟩ v').heap.size = w.heap.size := by simp [World.setCell]
  have h0 : RWS w1 v' A' zs (w.setCell ⟨w1.heap.size, 0, none⟩ v') := ⟨h.bel.setCell (p := ⟨w1.heap.size, 0, none⟩) (Nat.le_refl _) _, ha, h.isw.set0 v'⟩
  exact h0.on (by rw [s0]; exact k)
end Go.Proofs.YtiflponlioldmaaGreatDoor

namespace Go.Proofs.YtiflponlioldmaaGreatDoor
open Go Go.RowKit Go.Deep Go.Shelf

/-- Of what was there one block alone has changed. -/
def Keeps (b : Nat) (w w' : World) : Prop := w.heap.size ≤ w'.heap.size ∧ ∀ j, j < w.heap.size → j ≠ b → w'.heap[j]? = w.heap[j]?
theorem Keeps.refl (b : Nat) (w : World) : Keeps b w w := ⟨Nat.le_refl _, fun _ _ _ => rfl⟩
theorem Keeps.on {b : Nat} {w w' w'' : World} (h : Keeps b w w') (k : Below w'.heap.size w' w'') : Keeps b w w'' := ⟨Nat.le_trans h.1 k.size, fun j hj hb => by rw [k.block j (by have := h.1; omega), h.2 j hj hb]⟩
theorem keeps_two (w : World) (b : Nat) (v : Value) (o1 o2 : Obj) : Keeps b w (((w.setCell ⟨b, 0, none⟩ v).alloc o1).alloc o2) := by
  have k := below_on (alloc_b (w.setCell ⟨b, 0, none⟩ v) o1) (alloc_b _ o2)
  have h : Keeps b w (w.setCell ⟨b, 0, none⟩ v) := ⟨by simp [World.setCell], fun j hj hb => by simp [World.setCell, Array.getElem?_modify, Ne.symm hb]⟩
  exact h.on k
theorem set_size (w : World) (a : Addr) (v : Value) : (w.setCell a v).heap.size = w.heap.size := by simp [World.setCell]
theorem res_two (w : World) (a : Addr) (v : Value) (o1 o2 : Obj) : (((w.setCell a v).alloc o1).alloc o2).heap[w.heap.size]? = some o1 := by
  have := heap_alloc2_old (w.setCell a v) o1 o2
  rwa [set_size] at this
theorem bel_two (w : World) (a : Addr) (v : Value) (o1 o2 : Obj) : Below w.heap.size (w.setCell a v) (((w.setCell a v).alloc o1).alloc o2) := by
  have := below_on (alloc_b (w.setCell a v) o1) (alloc_b _ o2)
  rwa [set_size] at this
set_option maxRecDepth 100000 in
set_option maxHeartbeats 1000000 in
theorem wnext_any (w1 w : World) (v : Value) (a : Rn.Ag) (A : List Rn.Ag) (zs : List Int) (h : RWS w1 v (a :: A) zs w) :
    Calls Tryz.prog 90 #[.pointer (some ⟨w1.heap.size, 0, none⟩)] w fun r w' => r = .returned (.agg #[.bool a.x, .int .u64 a.n, .string (strOfNums a.s)]) ∧ (∃ v', RWS w1 v' A zs w') ∧ Keeps w1.heap.size w w' := by
  obtain ⟨p, cap, rfl, lc, hp⟩ := h.av
  obtain ⟨pb, off, rfl, hc⟩ := hp.head
  have lb : pb < w1.heap.size := cell_lt hc.1
  obtain ⟨wc, wf⟩ := h.isw.cell0
  have wl := h.isw.lt
  have ca : A.length + 1 ≤ cap := lc
  obtain ⟨bb, hbb⟩ : ∃ bb, w1.heap.size = bb := ⟨_, rfl⟩
  have q0 : w.cell? ⟨pb, off, none⟩ = some (.bool a.x) := acell_below hc.1 h.bel lb
  have q1 : w.cell? ⟨pb, off + 1, none⟩ = some (.int .u64 a.n) := acell_below hc.2.1 h.bel lb
  have q2 : w.cell? ⟨pb, off + 2, none⟩ = some (.string (strOfNums a.s)) := acell_below hc.2.2 h.bel lb
  have H := hid h
  rw [hbb] at wc wf wl
  have lb2 : pb < w.heap.size := cell_lt q0
  clear h hc
  go_enter Tryz.func90, Tryz.ntmps90
  go_wp2_with fail
  · obtain rfl : A = [] := List.eq_nil_of_length_eq_zero (by omega)
    refine bodyPost_ret (results_cell_row rfl _ _ w.heap.size 28 _ (0, 0) _ rfl (res_two _ _ _ _ _) Tryz.underlying28 rfl (by kernel_rfl)) rfl ?_
    subst hbb
    exact ⟨rfl, ⟨_, H.out.put ⟨_, 0, rfl, Nat.le_refl _, .inl rfl⟩ (bel_two _ _ _ _ _)⟩, keeps_two _ _ _ _ _⟩
  · refine bodyPost_ret (results_cell_row rfl _ _ w.heap.size 28 _ (0, 0) _ rfl (res_two _ _ _ _ _) Tryz.underlying28 rfl (by kernel_rfl)) rfl ?_
    subst hbb
    exact ⟨rfl, ⟨_, H.out.put ⟨_, cap - 1, rfl, by omega, hp.tail⟩ (bel_two _ _ _ _ _)⟩, keeps_two _ _ _ _ _⟩

/-- A star's number, if it has one. -/
def stV (k : Int) (A : List Rn.Ag) : Int := if k = 2 then (A.getD 0 Rn.Ag.no).n else 0
def stA (k : Int) (A : List Rn.Ag) : List Rn.Ag := if k = 2 then A.drop 1 else A
set_option maxRecDepth 100000 in
theorem star_ok (w1 w : World) (v : Value) (k : Int) (A : List Rn.Ag) (zs : List Int) (h : RWS w1 v A zs w) (hk : k = 2 → 0 < A.length ∧ (A.getD 0 Rn.Ag.no).x = false) :
    Calls Tryz.prog 88 #[.pointer (some ⟨w1.heap.size, 0, none⟩), .int .i64 k] w fun r w' => r = .returned (.int .u64 (stV k A)) ∧ (∃ v', RWS w1 v' (stA k A) zs w') ∧ Keeps w1.heap.size w w' := by
  by_cases e : k = 2
  · obtain ⟨l, hx⟩ := hk e
    cases A with
    | nil => simp at l
    | cons a A =>
      rw [stV, stA, if_pos e, if_pos e, List.drop_succ_cons, List.drop_zero]
      rw [List.getD_cons_zero] at hx ⊢
      have NX := hid (wnext_any w1 w v a A zs h)
      obtain ⟨ax, an, as_⟩ := a
      simp only at hx
      subst hx
      subst e
      clear h l hk
      go_enter Tryz.func88, Tryz.ntmps88
      go_wp2_with fail
      with_reducible refine NX.out.mono ?_
      rintro r w' ⟨rfl, ⟨v', h'⟩, kp⟩
      have H := hid (h'.on (alloc_b w' (.cells #[.bool false, .int .u64 an, .string (strOfNums as_)] 28)))
      have KP := hid (kp.on (alloc_b w' (.cells #[.bool false, .int .u64 an, .string (strOfNums as_)] 28)))
      clear h' NX kp
      go_wp2_with fail
      go_ret
      exact ⟨rfl, ⟨_, H.out⟩, KP.out⟩
  · rw [stV, stA, if_neg e, if_neg e]
    have H := hid h
    have e1 : (k == 2) = false := by simpa using e
    have e2 : (k != 2) = true := by simpa using e
    clear h hk e
    go_enter Tryz.func88, Tryz.ntmps88
    go_wp2_with fail
    go_ret
    exact ⟨rfl, ⟨_, H.out⟩, Keeps.refl _ _⟩

set_option maxRecDepth 100000 in
theorem star_bad (w1 w : World) (v : Value) (A : List Rn.Ag) (zs : List Int) (h : RWS w1 v A zs w) (l : 0 < A.length) (hx : (A.getD 0 Rn.Ag.no).x = true) :
    Calls Tryz.prog 88 #[.pointer (some ⟨w1.heap.size, 0, none⟩), .int .i64 2] w fun r w' => r = .panicked (flt 161) ∧ Below w1.heap.size w1 w' := by
  cases A with
  | nil => simp at l
  | cons a A =>
    rw [List.getD_cons_zero] at hx
    have NX := hid (wnext_any w1 w v a A zs h)
    have GU := hid (fun wk => giveUp_any 161 wk)
    obtain ⟨ax, an, as_⟩ := a
    simp only at hx
    subst hx
    clear h l
    go_enter Tryz.func88, Tryz.ntmps88
    go_wp2_with fail
    with_reducible refine NX.out.mono ?_
    rintro r w' ⟨rfl, ⟨v', h'⟩, -⟩
    have H := hid (h'.on (alloc_b w' (.cells #[.bool true, .int .u64 an, .string (strOfNums as_)] 28))).bel
    clear h' NX
    go_wp2_with fail
    with_reducible refine (GU.out _).mono ?_
    rintro r w2 ⟨rfl, e2⟩
    subst e2
    exact ⟨rfl, rfl, H.out⟩

set_option maxRecDepth 100000 in
theorem write_ok (w1 w : World) (v : Value) (A : List Rn.Ag) (zs xs : List Int) (h : RWS w1 v A zs w) (hl : zs.length + xs.length ≤ 16777216) :
    Calls Tryz.prog 40 #[.pointer (some ⟨w1.heap.size, 0, none⟩), .string (strOfNums xs)] w fun r w' => r = .returned (.tuple #[]) ∧ RWS w1 v A (zs ++ xs) w' := by
  have LN := hid (wlen_any _ _ v zs w h.isw)
  have WR := hid (wwrite_any _ _ v zs xs w h.isw hl h.bel.size)
  have sx := strOfNums_size xs
  have H := hid h
  have n1 : ¬ (16777216 : Int) - (zs.length : Int) < (xs.length : Int) := by omega
  have n2 : (zs.length : Int) ≤ 16777216 := by omega
  obtain ⟨bb, hbb⟩ : ∃ bb, w1.heap.size = bb := ⟨_, rfl⟩
  rw [hbb] at LN WR ⊢
  rw [← sx] at n1
  generalize strOfNums xs = s at *
  clear h hl sx
  go_enter Tryz.func40, Tryz.ntmps40
  go_wp2_with fail
  with_reducible refine LN.out.mono ?_
  rintro r w' ⟨rfl, e⟩
  subst e
  go_wp2_with fail
  with_reducible refine WR.out.mono ?_
  rintro r w2 ⟨rfl, i, b⟩
  subst hbb
  have R : Hid (RWS w1 v A (zs ++ xs) w2) := ⟨H.out.bel.trans b, H.out.av, i⟩
  clear WR LN H i b
  go_wp2_with fail
  go_end0
  exact ⟨rfl, R.out⟩

set_option maxRecDepth 100000 in
theorem write_long (w1 w : World) (v : Value) (A : List Rn.Ag) (zs xs : List Int) (h : RWS w1 v A zs w) (hz : zs.length ≤ 16777216) (hl : 16777216 < zs.length + xs.length) :
    Calls Tryz.prog 40 #[.pointer (some ⟨w1.heap.size, 0, none⟩), .string (strOfNums xs)] w fun r w' => r = .panicked (flt 3) ∧ Below w1.heap.size w1 w' := by
  have LN := hid (wlen_any _ _ v zs w h.isw)
  have GU := hid (fun wk => giveUp_any 3 wk)
  have sx := strOfNums_size xs
  have H := hid h.bel
  have n1 : (16777216 : Int) - (zs.length : Int) < (xs.length : Int) := by omega
  have n2 : (zs.length : Int) ≤ 16777216 := by omega
  obtain ⟨bb, hbb⟩ : ∃ bb, w1.heap.size = bb := ⟨_, rfl⟩
  rw [hbb] at LN H ⊢
  rw [← sx] at n1
  generalize strOfNums xs = s at *
  clear h hl sx
  go_enter Tryz.func40, Tryz.ntmps40
  go_wp2_with fail
  with_reducible refine LN.out.mono ?_
  rintro r w' ⟨rfl, e⟩
  subst e
  go_wp2_with fail
  with_reducible refine (GU.out _).mono ?_
  rintro r w2 ⟨rfl, e2⟩
  subst e2
  exact ⟨rfl, rfl, H.out⟩
end Go.Proofs.YtiflponlioldmaaGreatDoor

namespace Go.Proofs.YtiflponlioldmaaGreatDoor
open Go Go.RowKit Go.Deep Go.Shelf

set_option maxRecDepth 100000 in
theorem cut_bad (d : Int) (w : World) (h0 : 0 ≤ d) (h1 : d < 18446744073709551616) (hf : Ie.fnt d = false) :
    Calls Tryz.prog 89 #[.int .u64 d] w fun r w' => r = .panicked (flt 6) ∧ w' = w := by
  have TI := hid (toInt_inf d w h0 h1 (fin_not.1 hf))
  have GU := hid (fun wk => giveUp_any 6 wk)
  clear hf
  go_enter Tryz.func89, Tryz.ntmps89
  go_wp2_with fail
  with_reducible refine TI.out.mono ?_
  rintro r w1 ⟨rfl, e1⟩
  subst e1
  go_wp2_with fail
  with_reducible refine (GU.out _).mono ?_
  rintro r w3 ⟨rfl, e3⟩
  subst e3
  exact ⟨rfl, rfl, rfl⟩

set_option maxRecDepth 100000 in
set_option maxHeartbeats 1000000 in
theorem cut_ok (d : Int) (w : World) (h0 : 0 ≤ d) (h1 : d < 18446744073709551616) (hf : Ie.fnt d = true) :
    Calls Tryz.prog 89 #[.int .u64 d] w fun r w' => r = .returned (.int .i64 (Rn.cutI d)) ∧ Below w.heap.size w w' := by
  have hr := fin_iff.1 hf
  obtain ⟨V0, Vb⟩ := Ie.rwhp_bd (d % 9223372036854775808) (by omega) hr
  have TI := hid (toInt_fin d w h0 h1 hr _ rfl _ rfl V0 Vb)
  have DC := hid (fun wk => decode_any d wk h0 h1)
  have CI : Rn.cutI d = min (max (if decide (9223372036854775808 ≤ d) = true then -(Ie.whp (d % 9223372036854775808)) else Ie.whp (d % 9223372036854775808)) (-4097)) 4097 := by
    rw [Rn.cutI, Rn.wpt]
    by_cases h : 9223372036854775808 ≤ d
    · rw [if_pos h, if_pos (decide_eq_true h)]
    · rw [if_neg h, if_neg (by simpa using h)]
  generalize decide (9223372036854775808 ≤ d) = ng at *
  generalize Ie.whp (d % 9223372036854775808) = V at *
  generalize Rn.cutI d = K at *
  have CI := hid CI
  clear hr hf Vb h0 h1
  have FD : ∀ (wx : World) (c m x : Int), (Instr.field 99 (partsOf ng c m x) 0).run Tryz.prog wx = .ok (.bool ng) wx := fun wx c m x => by kernel_rfl
  go_enter Tryz.func89, Tryz.ntmps89
  go_wp2_with fail
  with_reducible refine TI.out.mono ?_
  rintro r w1 ⟨j, f, rfl, t, b1⟩
  rcases t with ⟨t1, t2, t3⟩ | ⟨t1, t2, t3⟩
  · have J : Hid (min (max j (-4097)) 4097 = K) := by rw [Hid, CI.out, t2]
    have B1 := hid b1
    subst t3
    clear t1 t2 b1 TI DC CI
    go_wp2_with fail
    go_ret
    exact ⟨by rw [← J.out]; rfl, B1.out⟩
  · subst t3
    cases ng with
    | true =>
      have J : Hid ((-4097 : Int) = K) := by
        rw [Hid, CI.out, if_pos rfl]; rw [if_pos rfl] at t1; omega
      clear t1 t2 TI CI
      have B1 := hid b1
      clear b1
      go_wp2_with fail
      with_reducible refine (DC.out _).mono ?_
      rintro r w2 ⟨rfl, b2⟩
      have B2 := hid (below_on B1.out b2)
      clear b2 B1 DC
      go_wp2_with fail
      go_ret
      exact ⟨by rw [← J.out]; rfl, B2.out⟩
    | false =>
      have J : Hid ((4097 : Int) = K) := by
        rw [Hid, CI.out, if_neg (by decide)]; rw [if_neg (by decide)] at t1; omega
      clear t1 t2 TI CI
      have B1 := hid b1
      clear b1
      go_wp2_with fail
      with_reducible refine (DC.out _).mono ?_
      rintro r w2 ⟨rfl, b2⟩
      have B2 := hid (below_on B1.out b2)
      clear b2 B1 DC
      go_wp2_with fail
      go_ret
      exact ⟨by rw [← J.out]; rfl, B2.out⟩
end Go.Proofs.YtiflponlioldmaaGreatDoor

namespace Go.Proofs.YtiflponlioldmaaGreatDoor
open Go Go.RowKit Go.Deep Go.Shelf

theorem rget_mem {ps : List Dr.Pc} {i : Nat} (hi : i < ps.length) : ps.getD i Dr.Pc.no ∈ ps := by
  rw [List.getD_eq_getElem?_getD, List.getElem?_eq_getElem hi]; exact List.getElem_mem hi
theorem rok_take {ps : List Dr.Pc} {i : Nat} (hi : i < ps.length) (h : ∀ p ∈ ps.take i, Dr.ok p) (k : Dr.ok (ps.getD i Dr.Pc.no)) : ∀ p ∈ ps.take (i + 1), Dr.ok p := by
  intro p hp
  rw [List.take_add_one, List.getElem?_eq_getElem hi, List.mem_append] at hp
  rcases hp with hp | hp
  · exact h p hp
  · rw [List.getD_eq_getElem?_getD, List.getElem?_eq_getElem hi] at k
    simp at hp
    rw [hp]; exact k
/-- What checkAll does. -/
def ChkTold (ps : List Dr.Pc) (w : World) (r : Ending) (w' : World) : Prop := (((∀ p ∈ ps, Dr.ok p) ∧ r = .returned (.tuple #[])) ∨ (¬ (∀ p ∈ ps, Dr.ok p) ∧ r = .panicked (flt 132))) ∧ Below w.heap.size w w'

set_option maxRecDepth 100000 in
set_option maxHeartbeats 1000000 in
theorem checkAll_any (a : Option Addr) (cap : Nat) (ps : List Dr.Pc) (w : World) (h : LP w a ps) (hn : ps.length ≤ 2199023255552) (hw : ∀ p ∈ ps, PcW p) :
    Calls Tryz.prog 39 #[.slice a ps.length cap] w fun r w' => ChkTold ps w r w' := by
  have H := hid h
  have HN := hid hn
  have HW := hid hw
  have GU := hid (fun wk => giveUp_any 132 wk)
  clear h hn hw
  go_enter Tryz.func39, Tryz.ntmps39
  go_wp2_with fail
  go_loopg [7] ps.length (fun m iv wr => ∃ i : Nat, i + m = ps.length ∧ iv = .int .i64 (i : Int) ∧ Hid (Below w.heap.size w wr ∧ ∀ p ∈ ps.take i, Dr.ok p))
  case atStart => exact ⟨0, by omega, rfl, Below.refl _ _, by simp⟩
  case round =>
    obtain ⟨i, hi, rfl, I⟩ := hrel
    by_cases hl : i < ps.length
    · have hli : (i : Int) < (ps.length : Int) := by omega
      obtain ⟨b, off, rfl, hc⟩ := (H.out.below I.out.1).at i hl
      obtain ⟨c0, c1, c2, c3, c4, c5, c6⟩ := hc
      have ib : (i : Int) ≤ 2199023255552 := by have := HN.out; omega
      have CK := hid (fun wk => check_pc (ps.getD i Dr.Pc.no) wk (HW.out _ (rget_mem hl)))
      have AL := hid (fun v0 v1 v2 v3 v4 v5 v6 => alloc_b wr (.cells #[v0, v1, v2, v3, v4, v5, v6] 39))
      by_cases ok : Dr.ok (ps.getD i Dr.Pc.no)
      · have F := hid (rok_take hl I.out.2 ok)
        have BI := hid I.out.1
        have e0 : okN (ps.getD i Dr.Pc.no) = 0 := if_pos ok
        rw [e0] at CK
        clear ok e0 I
        generalize ps.getD i Dr.Pc.no = p at *
        go_wp2_with fail
        with_reducible refine (CK.out _).mono ?_
        rintro r w2 ⟨rfl, b2⟩
        have B2 := hid (below_on BI.out (below_on (AL.out _ _ _ _ _ _ _) b2))
        clear b2 CK AL BI
        go_wp2_with fail
        go_roundg (ps.length - (i + 1))
        case measure => omega
        case rel => exact ⟨i + 1, by omega, by go_num, B2.out, F.out⟩
      · have e0 : okN (ps.getD i Dr.Pc.no) = 132 := if_neg ok
        have NO : Hid (¬ ∀ p ∈ ps, Dr.ok p) := fun q => ok (q _ (rget_mem hl))
        have BI := hid I.out.1
        rw [e0] at CK
        clear ok e0 I
        generalize ps.getD i Dr.Pc.no = p at *
        go_wp2_with fail
        with_reducible refine (CK.out _).mono ?_
        rintro r w2 ⟨rfl, b2⟩
        have B2 := hid (below_on BI.out (below_on (AL.out _ _ _ _ _ _ _) b2))
        clear b2 CK AL BI
        go_wp2_with fail
        with_reducible refine (GU.out _).mono ?_
        rintro r w3 ⟨rfl, e3⟩
        subst e3
        exact ⟨rfl, .inr ⟨NO.out, rfl⟩, B2.out⟩
    · have hli : ¬ (i : Int) < (ps.length : Int) := by omega
      have F : Hid (ChkTold ps w (.returned (.tuple #[])) wr) := ⟨.inl ⟨by have := I.out.2; rwa [List.take_of_length_le (by omega)] at this, rfl⟩, I.out.1⟩
      clear I
      go_wp2_with fail
      go_end0
      exact F.out
end Go.Proofs.YtiflponlioldmaaGreatDoor
