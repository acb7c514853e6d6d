/-
  abacuslaw14's run, abacusref14's Row (mkjrun.py).
-/
import Derived.Test.YtbldddagddmbgaaJMem
namespace Go.Proofs.Ytbldddagddmbgaa
open Go Go.RowKit Go.Deep Go.Shelf

/-- A block of bytes of our own. -/
def JOwn (w : World) (g : Nat) (zs : List Int) : Prop := w.heap[g]? = some (.cells (zs.map (Value.int .u8)).toArray 5 (0, 0))
theorem JOwn.cell {w : World} {g : Nat} {zs : List Int} (h : JOwn w g zs) (i : Nat) (hi : i < zs.length) : w.cell? ⟨g, i, none⟩ = some (.int .u8 (zs.getD i 0)) := by
  simp only [JOwn] at h
  simp [World.cell?, h, List.getD, hi]
theorem JOwn.free {w : World} {g : Nat} {zs : List Int} (h : JOwn w g zs) (i : Nat) : w.frozen? ⟨g, i, none⟩ = false := by
  simp only [JOwn] at h
  simp [World.frozen?, h]
theorem JOwn.lt {w : World} {g : Nat} {zs : List Int} (h : JOwn w g zs) : g < w.heap.size := by
  rcases Nat.lt_or_ge g w.heap.size with hl | hl
  · exact hl
  · simp [JOwn, Array.getElem?_eq_none hl] at h
theorem JOwn.set {w : World} {g : Nat} {zs : List Int} (h : JOwn w g zs) (i : Nat) (s : Int) : JOwn (w.setCell ⟨g, i, none⟩ (.int .u8 s)) g (zs.set i s) := by
  have hl := h.lt
  simp only [JOwn] at h ⊢
  simp [World.setCell, Array.getElem?_modify, h, List.map_set]
theorem JOwn.alloc (w : World) (zs : List Int) : JOwn (w.alloc (.cells (zs.map (Value.int .u8)).toArray 5)) w.heap.size zs := by
  show (w.heap.push _)[w.heap.size]? = _
  rw [Array.getElem?_push, if_pos rfl]
theorem jmade (n : Nat) : madeCells #[Value.int .u8 0] n = ((List.replicate n (0 : Int)).map (Value.int .u8)).toArray := by
  apply Array.toList_inj.1
  rw [toList_madeCells_one]
  simp
theorem jinfo8 : (Try.prog.info? 5).map (fun i => (i.zero, i.size, i.bytes)) = some (some (.int .u8 0), 1, 1) := by kernel_rfl
theorem jmake (n : Nat) (h : n ≤ 35184372088832) (w : World) :
    (Instr.makeSlice 39 (.int .i64 (n : Int)) (.int .i64 (n : Int))).run Try.prog w = .ok (.slice (some ⟨w.heap.size, 0, none⟩) n n) (w.alloc (.cells (madeCells #[.int .u8 0] n) 5)) :=
  run_make_row' 39 5 (.int .u8 0) 1 Try.underlying39 jinfo8 rfl .i64 .i64 n (by omega) (by omega) w
theorem JOwn.str {w : World} {g cap : Nat} {zs : List Int} (h : JOwn w g zs) (n : Nat) (hn : zs.length = n) :
    (convert 39 9 (.slice (some ⟨g, 0, none⟩) n cap)).run Try.prog w = .ok (.string (strOfNums zs)) w :=
  run_convert_bytes_arg (P := Try.prog) w 39 5 Try.underlying39 Try.underlying5 g 0 n cap zs hn (fun i hi => by
    rw [Nat.zero_add, h.cell i (by omega)]) 9 Try.underlying9
theorem jset (c : Int) (k u : Nat) : (List.replicate k c ++ List.replicate (u + 1) 0).set k c = List.replicate (k + 1) c ++ List.replicate u 0 := by
  rw [List.set_append_right _ _ (by simp), List.length_replicate, Nat.sub_self, List.replicate_succ, List.set_cons_zero, List.replicate_succ', List.append_assoc]
  rfl


set_option maxRecDepth 100000 in
set_option maxHeartbeats 1000000 in
theorem row_any (c : Int) (m : Int) (w : World) (hm : m ≤ 16777216) :
    Calls Try.prog 8 #[.int .u8 c, .int .i64 m] w fun e w' => e = .returned (.string (strOfNums (Wh.rep c m))) ∧ Below w.heap.size w w' := by
  by_cases hp : 0 < m
  · obtain ⟨n, rfl⟩ := Int.eq_ofNat_of_zero_le (show 0 ≤ m by omega)
    have mk := jmake n (by omega) w
    have bm : Below w.heap.size w (w.alloc (.cells (madeCells #[.int .u8 0] n) 5)) := (Below.refl _ _).alloc (Nat.le_refl _) _
    have ob : JOwn (w.alloc (.cells (madeCells #[.int .u8 0] n) 5)) w.heap.size (List.replicate n 0) := by rw [jmade]; exact JOwn.alloc w _
    obtain ⟨w1, hw1⟩ : ∃ w1, w.alloc (.cells (madeCells #[.int .u8 0] n) 5) = w1 := ⟨_, rfl⟩
    rw [hw1] at mk bm ob
    have HBM := hid bm
    have HOB := hid ob
    have hni : (n : Int) ≤ 16777216 := by omega
    have hn1 : ¬ (n : Int) < 1 := by omega
    obtain ⟨g, HG⟩ : ∃ g, Hid (w.heap.size = g) := ⟨_, rfl⟩
    rw [HG.out] at mk HOB
    have E : Hid (Wh.rep c (n : Int) = List.replicate n c) := rfl
    clear bm ob hw1 hm
    go_enter Try.func8, Try.ntmps8
    go_wp2_with fail
    go_loopg [6] n (fun j i wr => ∃ k : Nat, k + j = n ∧ i = .int .i64 (k : Int) ∧ Hid (JOwn wr g (List.replicate k c ++ List.replicate j 0) ∧ Below w.heap.size w wr))
    case atStart => exact ⟨0, by omega, rfl, by simpa using HOB.out, HBM.out⟩
    case round =>
      obtain ⟨k, hk, rfl, I⟩ := hrel
      cases gk with
      | zero =>
        have cv := I.out.1.str (cap := n) n (by simp; omega)
        rw [List.replicate_zero, List.append_nil, show k = n by omega] at cv
        have B := hid I.out.2
        have hki : ¬ (k : Int) < (n : Int) := by omega
        clear I HBM HOB
        go_wp2_with fail
        go_ret
        exact ⟨rfl, B.out⟩
      | succ u =>
        have hki : (k : Int) < (n : Int) := by omega
        have hc := I.out.1.cell k (by simp)
        have hf := I.out.1.free k
        have F : Hid (JOwn (wr.setCell ⟨g, k, none⟩ (.int .u8 c)) g (List.replicate (k + 1) c ++ List.replicate u 0) ∧ Below w.heap.size w (wr.setCell ⟨g, k, none⟩ (.int .u8 c))) := by
          refine ⟨?_, I.out.2.setCell (p := ⟨g, k, none⟩) (Nat.le_of_eq HG.out) _⟩
          have := I.out.1.set k c
          rw [jset] at this
          exact this
        generalize (List.replicate k c ++ List.replicate (u + 1) 0).getD k 0 = x at *
        clear I HBM HOB
        go_wp2_with fail
        go_roundg u
        case measure => omega
        case rel => exact ⟨k + 1, by omega, by go_num, F.out⟩
  · have e : Wh.rep c m = [] := Wh.rep_neg (by omega)
    rw [e]
    have B := hid (Below.refl w.heap.size w)
    have hp1 : m < 1 := by omega
    clear hm e
    go_enter Try.func8, Try.ntmps8
    go_wp2_with fail
    go_ret
    exact ⟨rfl, B.out⟩
end Go.Proofs.Ytbldddagddmbgaa
