/-
  token: Func. abacusref23: Funcs, Keywords, Func.
-/
import Derived.Test.YtcigpfnlkjoibaaDoorTkW1
namespace Go.Proofs.YtcigpfnlkjoibaaDoor
open Go Go.RowKit Go.Deep Go.Shelf

namespace Tk
def funcs : List ByteArray := [⟨#[108, 101, 110, 103, 116, 104]⟩, ⟨#[115, 117, 98, 115, 116, 114]⟩, ⟨#[105, 110, 100, 101, 120]⟩, ⟨#[115, 112, 114, 105, 110, 116, 102]⟩, ⟨#[115, 112, 108, 105, 116]⟩, ⟨#[105, 110, 116]⟩, ⟨#[115, 113, 114, 116]⟩, ⟨#[116, 111, 117, 112, 112, 101, 114]⟩, ⟨#[116, 111, 108, 111, 119, 101, 114]⟩, ⟨#[115, 117, 98]⟩, ⟨#[103, 115, 117, 98]⟩, ⟨#[115, 117, 109]⟩, ⟨#[97, 115, 111, 114, 116]⟩]
def keys : List ByteArray := [⟨#[66, 69, 71, 73, 78]⟩, ⟨#[69, 78, 68]⟩, ⟨#[105, 102]⟩, ⟨#[101, 108, 115, 101]⟩, ⟨#[119, 104, 105, 108, 101]⟩, ⟨#[102, 111, 114]⟩, ⟨#[105, 110]⟩, ⟨#[98, 114, 101, 97, 107]⟩, ⟨#[99, 111, 110, 116, 105, 110, 117, 101]⟩, ⟨#[110, 101, 120, 116]⟩, ⟨#[101, 120, 105, 116]⟩, ⟨#[112, 114, 105, 110, 116]⟩, ⟨#[112, 114, 105, 110, 116, 102]⟩, ⟨#[100, 101, 108, 101, 116, 101]⟩]
theorem ne_lit {s t : ByteArray} (h : ¬ s = t) : (s.toList == t.toList) = false := by
  rw [beq_eq_false_iff_ne]
  intro c
  apply h
  rw [ByteArray.toList_eq, ByteArray.toList_eq] at c
  rw [← Ch.tx_self s, c, Ch.tx_self]
/-- The number of the first that is s, from k on; 0 if none is. -/
def pos (s : ByteArray) : List ByteArray → Nat → Nat
  | [], _ => 0
  | x :: r, k => if x = s then k else pos s r (k + 1)
def fn (s : ByteArray) : Nat := pos s funcs 1
theorem pos_at {s : ByteArray} {l : List ByteArray} {k i : Nat} (h : k < l.length) : pos s (l.drop k) i = if l.getD k ByteArray.empty = s then i else pos s (l.drop (k + 1)) (i + 1) := by
  rw [List.drop_eq_getElem_cons h, pos]
  simp [List.getD, List.getElem?_eq_getElem h]
theorem pos_yes {s : ByteArray} {l : List ByteArray} {k i T : Nat} (h : k < l.length) (hp : pos s (l.drop k) i = T) (e : l.getD k ByteArray.empty = s) : T = i := by
  rw [pos_at h, if_pos e] at hp
  exact hp.symm
theorem pos_no {s : ByteArray} {l : List ByteArray} {k i T : Nat} (h : k < l.length) (hp : pos s (l.drop k) i = T) (e : ¬ l.getD k ByteArray.empty = s) : pos s (l.drop (k + 1)) (i + 1) = T := by
  rw [pos_at h, if_neg e] at hp
  exact hp
theorem pos_end {s : ByteArray} {l : List ByteArray} {k i T : Nat} (h : l.length ≤ k) (hp : pos s (l.drop k) i = T) : T = 0 := by
  rw [List.drop_eq_nil_of_le h] at hp
  exact hp.symm
end Tk
/-- The table of the functions' names. -/
def FT (w : World) : Prop := ∀ i, i < 13 → w.cell? ⟨0, i, none⟩ = some (.string (Tk.funcs.getD i ByteArray.empty))
theorem FT.below {w w' : World} {B : Nat} (h : FT w) (hB : Below B w w') (hb : w.heap.size ≤ B) : FT w' := fun i hi => by
  rw [hB.cell (Nat.lt_of_lt_of_le (cell_lt (h i hi)) hb)]
  exact h i hi
set_option maxRecDepth 100000 in
set_option maxHeartbeats 2000000 in
theorem tfunc_any (s : ByteArray) (w : World) (hT : FT w) :
    Calls Tryd.prog 4 #[.string s] w fun e w' => e = .returned (.int .i64 ((Tk.fn s : Nat) : Int)) ∧ w' = w := by
  have c0 := hT 0 (by omega)
  have c1 := hT 1 (by omega)
  have c2 := hT 2 (by omega)
  have c3 := hT 3 (by omega)
  have c4 := hT 4 (by omega)
  have c5 := hT 5 (by omega)
  have c6 := hT 6 (by omega)
  have c7 := hT 7 (by omega)
  have c8 := hT 8 (by omega)
  have c9 := hT 9 (by omega)
  have c10 := hT 10 (by omega)
  have c11 := hT 11 (by omega)
  have c12 := hT 12 (by omega)
  generalize hF : Tk.fn s = T
  have P0 : Hid (Tk.pos s (Tk.funcs.drop 0) (0 + 1) = T) := hF
  clear hF
  have Y := hid (fun (k T : Nat) (h : k < 13) => Tk.pos_yes (s := s) (l := Tk.funcs) (k := k) (i := k + 1) (T := T) h)
  have NO := hid (fun (k T : Nat) (h : k < 13) => Tk.pos_no (s := s) (l := Tk.funcs) (k := k) (i := k + 1) (T := T) h)
  have EN := hid (fun (T : Nat) => Tk.pos_end (s := s) (l := Tk.funcs) (k := 13) (i := 14) (T := T) (Nat.le_refl _))
  generalize hx0 : Tk.funcs.getD 0 ByteArray.empty = x0 at c0
  have X0 := hid hx0
  clear hx0
  generalize hx1 : Tk.funcs.getD 1 ByteArray.empty = x1 at c1
  have X1 := hid hx1
  clear hx1
  generalize hx2 : Tk.funcs.getD 2 ByteArray.empty = x2 at c2
  have X2 := hid hx2
  clear hx2
  generalize hx3 : Tk.funcs.getD 3 ByteArray.empty = x3 at c3
  have X3 := hid hx3
  clear hx3
  generalize hx4 : Tk.funcs.getD 4 ByteArray.empty = x4 at c4
  have X4 := hid hx4
  clear hx4
  generalize hx5 : Tk.funcs.getD 5 ByteArray.empty = x5 at c5
  have X5 := hid hx5
  clear hx5
  generalize hx6 : Tk.funcs.getD 6 ByteArray.empty = x6 at c6
  have X6 := hid hx6
  clear hx6
  generalize hx7 : Tk.funcs.getD 7 ByteArray.empty = x7 at c7
  have X7 := hid hx7
  clear hx7
  generalize hx8 : Tk.funcs.getD 8 ByteArray.empty = x8 at c8
  have X8 := hid hx8
  clear hx8
  generalize hx9 : Tk.funcs.getD 9 ByteArray.empty = x9 at c9
  have X9 := hid hx9
  clear hx9
  generalize hx10 : Tk.funcs.getD 10 ByteArray.empty = x10 at c10
  have X10 := hid hx10
  clear hx10
  generalize hx11 : Tk.funcs.getD 11 ByteArray.empty = x11 at c11
  have X11 := hid hx11
  clear hx11
  generalize hx12 : Tk.funcs.getD 12 ByteArray.empty = x12 at c12
  have X12 := hid hx12
  clear hx12
  clear hT
  go_enter Tryd.func4, Tryd.ntmps4
  go_wp2_with fail
  clear c0 c1 c2 c3 c4 c5 c6 c7 c8 c9 c10 c11 c12
  go_loopg [6] 13 (fun m jv wr => ∃ j : Nat, j + m = 13 ∧ jv = .int .i64 (j : Int) ∧ Hid (Tk.pos s (Tk.funcs.drop j) (j + 1) = T ∧ wr = w))
  case atStart => exact ⟨0, rfl, rfl, P0.out, rfl⟩
  case round =>
    obtain ⟨j, hj, rfl, J⟩ := hrel
    clear P0
    obtain ⟨hp, hw⟩ := J.out
    subst hw
    have HP := hid hp
    clear hp J
    by_cases jl : j < 13
    · have h3 : j = 0 ∨ j = 1 ∨ j = 2 ∨ j = 3 ∨ j = 4 ∨ j = 5 ∨ j = 6 ∨ j = 7 ∨ j = 8 ∨ j = 9 ∨ j = 10 ∨ j = 11 ∨ j = 12 := by omega
      clear jl
      rcases h3 with rfl | rfl | rfl | rfl | rfl | rfl | rfl | rfl | rfl | rfl | rfl | rfl | rfl
      · have IX : ∀ wx : World, (Instr.index 24 (.agg #[.string x0, .string x1, .string x2, .string x3, .string x4, .string x5, .string x6, .string x7, .string x8, .string x9, .string x10, .string x11, .string x12]) (.int .i64 0)).run Tryd.prog wx = .ok (.string x0) wx := fun _ => by kernel_rfl
        by_cases e : s = x0
        · have F := hid (Y.out 0 T (by omega) HP.out (by rw [X0.out]; exact e.symm))
          clear Y NO EN HP
          go_wp2_with fail
          go_ret
          exact ⟨by rw [F.out]; rfl, rfl⟩
        · have eb : (s.toList == x0.toList) = false := Tk.ne_lit e
          have F := hid (NO.out 0 T (by omega) HP.out (by rw [X0.out]; exact fun h => e h.symm))
          clear HP
          go_wp2_with fail
          go_roundg 12
          case measure => omega
          case rel => exact ⟨1, by omega, by go_num, F.out, rfl⟩
      · have IX : ∀ wx : World, (Instr.index 24 (.agg #[.string x0, .string x1, .string x2, .string x3, .string x4, .string x5, .string x6, .string x7, .string x8, .string x9, .string x10, .string x11, .string x12]) (.int .i64 1)).run Tryd.prog wx = .ok (.string x1) wx := fun _ => by kernel_rfl
        by_cases e : s = x1
        · have F := hid (Y.out 1 T (by omega) HP.out (by rw [X1.out]; exact e.symm))
          clear Y NO EN HP
          go_wp2_with fail
          go_ret
          exact ⟨by rw [F.out]; rfl, rfl⟩
        · have eb : (s.toList == x1.toList) = false := Tk.ne_lit e
          have F := hid (NO.out 1 T (by omega) HP.out (by rw [X1.out]; exact fun h => e h.symm))
          clear HP
          go_wp2_with fail
          go_roundg 11
          case measure => omega
          case rel => exact ⟨2, by omega, by go_num, F.out, rfl⟩
      · have IX : ∀ wx : World, (Instr.index 24 (.agg #[.string x0, .string x1, .string x2, .string x3, .string x4, .string x5, .string x6, .string x7, .string x8, .string x9, .string x10, .string x11, .string x12]) (.int .i64 2)).run Tryd.prog wx = .ok (.string x2) wx := fun _ => by kernel_rfl
        by_cases e : s = x2
        · have F := hid (Y.out 2 T (by omega) HP.out (by rw [X2.out]; exact e.symm))
          clear Y NO EN HP
          go_wp2_with fail
          go_ret
          exact ⟨by rw [F.out]; rfl, rfl⟩
        · have eb : (s.toList == x2.toList) = false := Tk.ne_lit e
          have F := hid (NO.out 2 T (by omega) HP.out (by rw [X2.out]; exact fun h => e h.symm))
          clear HP
          go_wp2_with fail
          go_roundg 10
          case measure => omega
          case rel => exact ⟨3, by omega, by go_num, F.out, rfl⟩
      · have IX : ∀ wx : World, (Instr.index 24 (.agg #[.string x0, .string x1, .string x2, .string x3, .string x4, .string x5, .string x6, .string x7, .string x8, .string x9, .string x10, .string x11, .string x12]) (.int .i64 3)).run Tryd.prog wx = .ok (.string x3) wx := fun _ => by kernel_rfl
        by_cases e : s = x3
        · have F := hid (Y.out 3 T (by omega) HP.out (by rw [X3.out]; exact e.symm))
          clear Y NO EN HP
          go_wp2_with fail
          go_ret
          exact ⟨by rw [F.out]; rfl, rfl⟩
        · have eb : (s.toList == x3.toList) = false := Tk.ne_lit e
          have F := hid (NO.out 3 T (by omega) HP.out (by rw [X3.out]; exact fun h => e h.symm))
          clear HP
          go_wp2_with fail
          go_roundg 9
          case measure => omega
          case rel => exact ⟨4, by omega, by go_num, F.out, rfl⟩
      · have IX : ∀ wx : World, (Instr.index 24 (.agg #[.string x0, .string x1, .string x2, .string x3, .string x4, .string x5, .string x6, .string x7, .string x8, .string x9, .string x10, .string x11, .string x12]) (.int .i64 4)).run Tryd.prog wx = .ok (.string x4) wx := fun _ => by kernel_rfl
        by_cases e : s = x4
        · have F := hid (Y.out 4 T (by omega) HP.out (by rw [X4.out]; exact e.symm))
          clear Y NO EN HP
          go_wp2_with fail
          go_ret
          exact ⟨by rw [F.out]; rfl, rfl⟩
        · have eb : (s.toList == x4.toList) = false := Tk.ne_lit e
          have F := hid (NO.out 4 T (by omega) HP.out (by rw [X4.out]; exact fun h => e h.symm))
          clear HP
          go_wp2_with fail
          go_roundg 8
          case measure => omega
          case rel => exact ⟨5, by omega, by go_num, F.out, rfl⟩
      · have IX : ∀ wx : World, (Instr.index 24 (.agg #[.string x0, .string x1, .string x2, .string x3, .string x4, .string x5, .string x6, .string x7, .string x8, .string x9, .string x10, .string x11, .string x12]) (.int .i64 5)).run Tryd.prog wx = .ok (.string x5) wx := fun _ => by kernel_rfl
        by_cases e : s = x5
        · have F := hid (Y.out 5 T (by omega) HP.out (by rw [X5.out]; exact e.symm))
          clear Y NO EN HP
          go_wp2_with fail
          go_ret
          exact ⟨by rw [F.out]; rfl, rfl⟩
        · have eb : (s.toList == x5.toList) = false := Tk.ne_lit e
          have F := hid (NO.out 5 T (by omega) HP.out (by rw [X5.out]; exact fun h => e h.symm))
          clear HP
          go_wp2_with fail
          go_roundg 7
          case measure => omega
          case rel => exact ⟨6, by omega, by go_num, F.out, rfl⟩
      · have IX : ∀ wx : World, (Instr.index 24 (.agg #[.string x0, .string x1, .string x2, .string x3, .string x4, .string x5, .string x6, .string x7, .string x8, .string x9, .string x10, .string x11, .string x12]) (.int .i64 6)).run Tryd.prog wx = .ok (.string x6) wx := fun _ => by kernel_rfl
        by_cases e : s = x6
        · have F := hid (Y.out 6 T (by omega) HP.out (by rw [X6.out]; exact e.symm))
          clear Y NO EN HP
          go_wp2_with fail
          go_ret
          exact ⟨by rw [F.out]; rfl, rfl⟩
        · have eb : (s.toList == x6.toList) = false := Tk.ne_lit e
          have F := hid (NO.out 6 T (by omega) HP.out (by rw [X6.out]; exact fun h => e h.symm))
          clear HP
          go_wp2_with fail
          go_roundg 6
          case measure => omega
          case rel => exact ⟨7, by omega, by go_num, F.out, rfl⟩
      · have IX : ∀ wx : World, (Instr.index 24 (.agg #[.string x0, .string x1, .string x2, .string x3, .string x4, .string x5, .string x6, .string x7, .string x8, .string x9, .string x10, .string x11, .string x12]) (.int .i64 7)).run Tryd.prog wx = .ok (.string x7) wx := fun _ => by kernel_rfl
        by_cases e : s = x7
        · have F := hid (Y.out 7 T (by omega) HP.out (by rw [X7.out]; exact e.symm))
          clear Y NO EN HP
          go_wp2_with fail
          go_ret
          exact ⟨by rw [F.out]; rfl, rfl⟩
        · have eb : (s.toList == x7.toList) = false := Tk.ne_lit e
          have F := hid (NO.out 7 T (by omega) HP.out (by rw [X7.out]; exact fun h => e h.symm))
          clear HP
          go_wp2_with fail
          go_roundg 5
          case measure => omega
          case rel => exact ⟨8, by omega, by go_num, F.out, rfl⟩
      · have IX : ∀ wx : World, (Instr.index 24 (.agg #[.string x0, .string x1, .string x2, .string x3, .string x4, .string x5, .string x6, .string x7, .string x8, .string x9, .string x10, .string x11, .string x12]) (.int .i64 8)).run Tryd.prog wx = .ok (.string x8) wx := fun _ => by kernel_rfl
        by_cases e : s = x8
        · have F := hid (Y.out 8 T (by omega) HP.out (by rw [X8.out]; exact e.symm))
          clear Y NO EN HP
          go_wp2_with fail
          go_ret
          exact ⟨by rw [F.out]; rfl, rfl⟩
        · have eb : (s.toList == x8.toList) = false := Tk.ne_lit e
          have F := hid (NO.out 8 T (by omega) HP.out (by rw [X8.out]; exact fun h => e h.symm))
          clear HP
          go_wp2_with fail
          go_roundg 4
          case measure => omega
          case rel => exact ⟨9, by omega, by go_num, F.out, rfl⟩
      · have IX : ∀ wx : World, (Instr.index 24 (.agg #[.string x0, .string x1, .string x2, .string x3, .string x4, .string x5, .string x6, .string x7, .string x8, .string x9, .string x10, .string x11, .string x12]) (.int .i64 9)).run Tryd.prog wx = .ok (.string x9) wx := fun _ => by kernel_rfl
        by_cases e : s = x9
        · have F := hid (Y.out 9 T (by omega) HP.out (by rw [X9.out]; exact e.symm))
          clear Y NO EN HP
          go_wp2_with fail
          go_ret
          exact ⟨by rw [F.out]; rfl, rfl⟩
        · have eb : (s.toList == x9.toList) = false := Tk.ne_lit e
          have F := hid (NO.out 9 T (by omega) HP.out (by rw [X9.out]; exact fun h => e h.symm))
          clear HP
          go_wp2_with fail
          go_roundg 3
          case measure => omega
          case rel => exact ⟨10, by omega, by go_num, F.out, rfl⟩
      · have IX : ∀ wx : World, (Instr.index 24 (.agg #[.string x0, .string x1, .string x2, .string x3, .string x4, .string x5, .string x6, .string x7, .string x8, .string x9, .string x10, .string x11, .string x12]) (.int .i64 10)).run Tryd.prog wx = .ok (.string x10) wx := fun _ => by kernel_rfl
        by_cases e : s = x10
        · have F := hid (Y.out 10 T (by omega) HP.out (by rw [X10.out]; exact e.symm))
          clear Y NO EN HP
          go_wp2_with fail
          go_ret
          exact ⟨by rw [F.out]; rfl, rfl⟩
        · have eb : (s.toList == x10.toList) = false := Tk.ne_lit e
          have F := hid (NO.out 10 T (by omega) HP.out (by rw [X10.out]; exact fun h => e h.symm))
          clear HP
          go_wp2_with fail
          go_roundg 2
          case measure => omega
          case rel => exact ⟨11, by omega, by go_num, F.out, rfl⟩
      · have IX : ∀ wx : World, (Instr.index 24 (.agg #[.string x0, .string x1, .string x2, .string x3, .string x4, .string x5, .string x6, .string x7, .string x8, .string x9, .string x10, .string x11, .string x12]) (.int .i64 11)).run Tryd.prog wx = .ok (.string x11) wx := fun _ => by kernel_rfl
        by_cases e : s = x11
        · have F := hid (Y.out 11 T (by omega) HP.out (by rw [X11.out]; exact e.symm))
          clear Y NO EN HP
          go_wp2_with fail
          go_ret
          exact ⟨by rw [F.out]; rfl, rfl⟩
        · have eb : (s.toList == x11.toList) = false := Tk.ne_lit e
          have F := hid (NO.out 11 T (by omega) HP.out (by rw [X11.out]; exact fun h => e h.symm))
          clear HP
          go_wp2_with fail
          go_roundg 1
          case measure => omega
          case rel => exact ⟨12, by omega, by go_num, F.out, rfl⟩
      · have IX : ∀ wx : World, (Instr.index 24 (.agg #[.string x0, .string x1, .string x2, .string x3, .string x4, .string x5, .string x6, .string x7, .string x8, .string x9, .string x10, .string x11, .string x12]) (.int .i64 12)).run Tryd.prog wx = .ok (.string x12) wx := fun _ => by kernel_rfl
        by_cases e : s = x12
        · have F := hid (Y.out 12 T (by omega) HP.out (by rw [X12.out]; exact e.symm))
          clear Y NO EN HP
          go_wp2_with fail
          go_ret
          exact ⟨by rw [F.out]; rfl, rfl⟩
        · have eb : (s.toList == x12.toList) = false := Tk.ne_lit e
          have F := hid (NO.out 12 T (by omega) HP.out (by rw [X12.out]; exact fun h => e h.symm))
          clear HP
          go_wp2_with fail
          go_roundg 0
          case measure => omega
          case rel => exact ⟨13, by omega, by go_num, F.out, rfl⟩
    · have j9 : j = 13 := by omega
      subst j9
      have F := hid (EN.out T HP.out)
      clear Y NO EN HP
      go_wp2_with fail
      go_ret
      exact ⟨by rw [F.out]; rfl, rfl⟩
set_option maxRecDepth 100000 in
theorem rfuncs_any (w : World) :
    Calls Tryd.prog 10 #[] w fun e w' => e = .returned (.slice (some ⟨w.heap.size, 0, none⟩) 13 13) ∧ (∀ i, i < 13 → w'.cell? ⟨w.heap.size, i, none⟩ = some (.string (Tk.funcs.getD i ByteArray.empty))) ∧ Below w.heap.size w w' := by
  have B := hid (alloc_b w (.cells (Tk.funcs.map Value.string).toArray 9))
  have C : Hid (∀ i, i < 13 → (w.alloc (.cells (Tk.funcs.map Value.string).toArray 9)).cell? ⟨w.heap.size, i, none⟩ = some (.string (Tk.funcs.getD i ByteArray.empty))) := fun i hi => by
    have h : (w.alloc (.cells (Tk.funcs.map Value.string).toArray 9)).heap[w.heap.size]? = some (.cells (Tk.funcs.map Value.string).toArray 9 (0, 0)) := heap_alloc_new w _
    rw [cell_of_row _ _ _ _ _ _ h, List.getElem?_toArray, List.getElem?_map]
    have h2 : i < Tk.funcs.length := hi
    simp [List.getD, List.getElem?_eq_getElem h2]
  go_enter Tryd.func10, Tryd.ntmps10
  go_wp2_with fail
  go_ret
  exact ⟨rfl, C.out, B.out⟩
set_option maxRecDepth 100000 in
theorem rkeys_any (w : World) :
    Calls Tryd.prog 12 #[] w fun e w' => e = .returned (.slice (some ⟨w.heap.size, 0, none⟩) 14 14) ∧ (∀ i, i < 14 → w'.cell? ⟨w.heap.size, i, none⟩ = some (.string (Tk.keys.getD i ByteArray.empty))) ∧ Below w.heap.size w w' := by
  have B := hid (alloc_b w (.cells (Tk.keys.map Value.string).toArray 9))
  have C : Hid (∀ i, i < 14 → (w.alloc (.cells (Tk.keys.map Value.string).toArray 9)).cell? ⟨w.heap.size, i, none⟩ = some (.string (Tk.keys.getD i ByteArray.empty))) := fun i hi => by
    have h : (w.alloc (.cells (Tk.keys.map Value.string).toArray 9)).heap[w.heap.size]? = some (.cells (Tk.keys.map Value.string).toArray 9 (0, 0)) := heap_alloc_new w _
    rw [cell_of_row _ _ _ _ _ _ h, List.getElem?_toArray, List.getElem?_map]
    have h2 : i < Tk.keys.length := hi
    simp [List.getD, List.getElem?_eq_getElem h2]
  go_enter Tryd.func12, Tryd.ntmps12
  go_wp2_with fail
  go_ret
  exact ⟨rfl, C.out, B.out⟩
set_option maxRecDepth 100000 in
set_option maxHeartbeats 2000000 in
theorem rfunc_any (s : ByteArray) (w : World) :
    Calls Tryd.prog 6 #[.string s] w fun e w' => e = .returned (.int .i64 ((Tk.fn s : Nat) : Int)) ∧ Below w.heap.size w w' := by
  have FU := hid (rfuncs_any w)
  generalize hF : Tk.fn s = T
  have P0 : Hid (Tk.pos s (Tk.funcs.drop 0) (0 + 1) = T) := hF
  clear hF
  have Y := hid (fun (k T : Nat) (h : k < 13) => Tk.pos_yes (s := s) (l := Tk.funcs) (k := k) (i := k + 1) (T := T) h)
  have NO := hid (fun (k T : Nat) (h : k < 13) => Tk.pos_no (s := s) (l := Tk.funcs) (k := k) (i := k + 1) (T := T) h)
  have EN := hid (fun (T : Nat) => Tk.pos_end (s := s) (l := Tk.funcs) (k := 13) (i := 14) (T := T) (Nat.le_refl _))
  go_enter Tryd.func6, Tryd.ntmps6
  go_wp2_with fail
  refine FU.out.mono ?_
  rintro e w1 ⟨rfl, hC, hB⟩
  have C := hid hC
  have B := hid hB
  clear hC hB FU
  go_wp2_with fail
  go_loopg [7] 13 (fun m jv wr => ∃ j : Nat, j + m = 13 ∧ jv = .int .i64 (j : Int) ∧ Hid (Tk.pos s (Tk.funcs.drop j) (j + 1) = T ∧ wr = w1))
  case atStart => exact ⟨0, rfl, rfl, P0.out, rfl⟩
  case round =>
    obtain ⟨j, hj, rfl, J⟩ := hrel
    clear P0
    obtain ⟨hp, hw⟩ := J.out
    subst hw
    have HP := hid hp
    clear hp J
    by_cases jl : j < 13
    · have jli : (j : Int) < 13 := by omega
      have hc := C.out j jl
      have Y2 := hid (Y.out j T jl HP.out)
      have N2 := hid (NO.out j T jl HP.out)
      clear Y NO EN HP C
      generalize Tk.funcs.getD j ByteArray.empty = x at *
      by_cases e : x = s
      · have F := hid (Y2.out e)
        clear Y2 N2
        go_wp2_with fail
        go_ret
        exact ⟨by rw [F.out]; rfl, B.out⟩
      · have eb : (x.toList == s.toList) = false := Tk.ne_lit e
        have F := hid (N2.out e)
        clear Y2 N2
        go_wp2_with fail
        go_roundg (13 - (j + 1))
        case measure => omega
        case rel => exact ⟨j + 1, by omega, by go_num, F.out, rfl⟩
    · have j9 : j = 13 := by omega
      subst j9
      have F := hid (EN.out T HP.out)
      clear Y NO EN HP
      go_wp2_with fail
      go_ret
      exact ⟨by rw [F.out]; rfl, B.out⟩
end Go.Proofs.YtcigpfnlkjoibaaDoor
