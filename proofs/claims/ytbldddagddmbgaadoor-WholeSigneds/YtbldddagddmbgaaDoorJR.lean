/-
  Texts put together: JRun, JRef0, JBaseN, JRefU, JRefS.
-/
import Derived.Test.YtbldddagddmbgaaDoorJA
import Derived.Laws.Concat
import Derived.Test.YtbldddagddmbgaaDoorJC
import Derived.Test.YtbldddagddmbgaaDoorNG
import Derived.Test.YtbldddagddmbgaaDoorSI
namespace Go.Proofs.YtbldddagddmbgaaDoor
open Go Go.RowKit Go.Deep Go.Shelf

/-- A block of bytes of our own. -/
def JOwn (w : World) (g : Nat) (zs : List Int) : Prop := w.heap[g]? = some (.cells (zs.map (Value.int .u8)).toArray 5 (0, 0))
theorem JOwn.cell {w : World} {g : Nat} {zs : List Int} (h : JOwn w g zs) (i : Nat) (hi : i < zs.length) : w.cell? ⟨g, i, none⟩ = some (.int .u8 (zs.getD i 0)) := by
  simp only [JOwn] at h
  simp [World.cell?, h, List.getD, hi]
theorem JOwn.free {w : World} {g : Nat} {zs : List Int} (h : JOwn w g zs) (i : Nat) : w.frozen? ⟨g, i, none⟩ = false := by
  simp only [JOwn] at h
  simp [World.frozen?, h]
theorem JOwn.lt {w : World} {g : Nat} {zs : List Int} (h : JOwn w g zs) : g < w.heap.size := by
  rcases Nat.lt_or_ge g w.heap.size with hl | hl
  · exact hl
  · simp [JOwn, Array.getElem?_eq_none hl] at h
theorem JOwn.set {w : World} {g : Nat} {zs : List Int} (h : JOwn w g zs) (i : Nat) (s : Int) : JOwn (w.setCell ⟨g, i, none⟩ (.int .u8 s)) g (zs.set i s) := by
  have hl := h.lt
  simp only [JOwn] at h ⊢
  simp [World.setCell, Array.getElem?_modify, h, List.map_set]
theorem JOwn.alloc (w : World) (zs : List Int) : JOwn (w.alloc (.cells (zs.map (Value.int .u8)).toArray 5)) w.heap.size zs := by
  show (w.heap.push _)[w.heap.size]? = _
  rw [Array.getElem?_push, if_pos rfl]
theorem jmade (n : Nat) : madeCells #[Value.int .u8 0] n = ((List.replicate n (0 : Int)).map (Value.int .u8)).toArray := by
  apply Array.toList_inj.1
  rw [toList_madeCells_one]
  simp
theorem jinfo8 : (Tryd.prog.info? 5).map (fun i => (i.zero, i.size, i.bytes)) = some (some (.int .u8 0), 1, 1) := by kernel_rfl
theorem jmake (n : Nat) (h : n ≤ 35184372088832) (w : World) :
    (Instr.makeSlice 64 (.int .i64 (n : Int)) (.int .i64 (n : Int))).run Tryd.prog w = .ok (.slice (some ⟨w.heap.size, 0, none⟩) n n) (w.alloc (.cells (madeCells #[.int .u8 0] n) 5)) :=
  run_make_row' 64 5 (.int .u8 0) 1 Tryd.underlying64 jinfo8 rfl .i64 .i64 n (by omega) (by omega) w
theorem JOwn.str {w : World} {g cap : Nat} {zs : List Int} (h : JOwn w g zs) (n : Nat) (hn : zs.length = n) :
    (convert 64 9 (.slice (some ⟨g, 0, none⟩) n cap)).run Tryd.prog w = .ok (.string (strOfNums zs)) w :=
  run_convert_bytes_arg (P := Tryd.prog) w 64 5 Tryd.underlying64 Tryd.underlying5 g 0 n cap zs hn (fun i hi => by
    rw [Nat.zero_add, h.cell i (by omega)]) 9 Tryd.underlying9
theorem jset (c : Int) (k u : Nat) : (List.replicate k c ++ List.replicate (u + 1) 0).set k c = List.replicate (k + 1) c ++ List.replicate u 0 := by
  rw [List.set_append_right _ _ (by simp), List.length_replicate, Nat.sub_self, List.replicate_succ, List.set_cons_zero, List.replicate_succ', List.append_assoc]
  rfl

set_option maxRecDepth 100000 in
set_option maxHeartbeats 1000000 in
theorem run_any (c : Int) (m : Int) (w : World) (hm : m ≤ 16777216) :
    Calls Tryd.prog 31 #[.int .u8 c, .int .i64 m] w fun e w' => e = .returned (.string (strOfNums (Wh.rep c m))) ∧ Below w.heap.size w w' := by
  by_cases hp : 0 < m
  · obtain ⟨n, rfl⟩ := Int.eq_ofNat_of_zero_le (show 0 ≤ m by omega)
    have mk := jmake n (by omega) w
    have bm : Below w.heap.size w (w.alloc (.cells (madeCells #[.int .u8 0] n) 5)) := (Below.refl _ _).alloc (Nat.le_refl _) _
    have ob : JOwn (w.alloc (.cells (madeCells #[.int .u8 0] n) 5)) w.heap.size (List.replicate n 0) := by rw [jmade]; exact JOwn.alloc w _
    obtain ⟨w1, hw1⟩ : ∃ w1, w.alloc (.cells (madeCells #[.int .u8 0] n) 5) = w1 := ⟨_, rfl⟩
    rw [hw1] at mk bm ob
    have HBM := hid bm
    have HOB := hid ob
    have hni : (n : Int) ≤ 16777216 := by omega
    have hn1 : ¬ (n : Int) < 1 := by omega
    obtain ⟨g, HG⟩ : ∃ g, Hid (w.heap.size = g) := ⟨_, rfl⟩
    rw [HG.out] at mk HOB
    have E : Hid (Wh.rep c (n : Int) = List.replicate n c) := rfl
    clear bm ob hw1 hm
    go_enter Tryd.func31, Tryd.ntmps31
    go_wp2_with fail
    go_loopg [7] n (fun j i wr => ∃ k : Nat, k + j = n ∧ i = .int .i64 (k : Int) ∧ Hid (JOwn wr g (List.replicate k c ++ List.replicate j 0) ∧ Below w.heap.size w wr))
    case atStart => exact ⟨0, by omega, rfl, by simpa using HOB.out, HBM.out⟩
    case round =>
      obtain ⟨k, hk, rfl, I⟩ := hrel
      cases gk with
      | zero =>
        have cv := I.out.1.str (cap := n) n (by simp; omega)
        rw [List.replicate_zero, List.append_nil, show k = n by omega] at cv
        have B := hid I.out.2
        have hki : ¬ (k : Int) < (n : Int) := by omega
        clear I HBM HOB
        go_wp2_with fail
        go_ret
        exact ⟨rfl, B.out⟩
      | succ u =>
        have hki : (k : Int) < (n : Int) := by omega
        have hc := I.out.1.cell k (by simp)
        have hf := I.out.1.free k
        have F : Hid (JOwn (wr.setCell ⟨g, k, none⟩ (.int .u8 c)) g (List.replicate (k + 1) c ++ List.replicate u 0) ∧ Below w.heap.size w (wr.setCell ⟨g, k, none⟩ (.int .u8 c))) := by
          refine ⟨?_, I.out.2.setCell (p := ⟨g, k, none⟩) (Nat.le_of_eq HG.out) _⟩
          have := I.out.1.set k c
          rw [jset] at this
          exact this
        generalize (List.replicate k c ++ List.replicate (u + 1) 0).getD k 0 = x at *
        clear I HBM HOB
        go_wp2_with fail
        go_roundg u
        case measure => omega
        case rel => exact ⟨k + 1, by omega, by go_num, F.out⟩
  · have e : Wh.rep c m = [] := Wh.rep_neg (by omega)
    rw [e]
    have B := hid (Below.refl w.heap.size w)
    have hp1 : m < 1 := by omega
    clear hm e
    go_enter Tryd.func31, Tryd.ntmps31
    go_wp2_with fail
    go_ret
    exact ⟨rfl, B.out⟩

set_option maxRecDepth 100000 in
set_option maxHeartbeats 1000000 in
theorem row_any (c : Int) (m : Int) (w : World) (hm : m ≤ 16777216) :
    Calls Tryd.prog 59 #[.int .u8 c, .int .i64 m] w fun e w' => e = .returned (.string (strOfNums (Wh.rep c m))) ∧ Below w.heap.size w w' := by
  by_cases hp : 0 < m
  · obtain ⟨n, rfl⟩ := Int.eq_ofNat_of_zero_le (show 0 ≤ m by omega)
    have mk := jmake n (by omega) w
    have bm : Below w.heap.size w (w.alloc (.cells (madeCells #[.int .u8 0] n) 5)) := (Below.refl _ _).alloc (Nat.le_refl _) _
    have ob : JOwn (w.alloc (.cells (madeCells #[.int .u8 0] n) 5)) w.heap.size (List.replicate n 0) := by rw [jmade]; exact JOwn.alloc w _
    obtain ⟨w1, hw1⟩ : ∃ w1, w.alloc (.cells (madeCells #[.int .u8 0] n) 5) = w1 := ⟨_, rfl⟩
    rw [hw1] at mk bm ob
    have HBM := hid bm
    have HOB := hid ob
    have hni : (n : Int) ≤ 16777216 := by omega
    have hn1 : ¬ (n : Int) < 1 := by omega
    obtain ⟨g, HG⟩ : ∃ g, Hid (w.heap.size = g) := ⟨_, rfl⟩
    rw [HG.out] at mk HOB
    have E : Hid (Wh.rep c (n : Int) = List.replicate n c) := rfl
    clear bm ob hw1 hm
    go_enter Tryd.func59, Tryd.ntmps59
    go_wp2_with fail
    go_loopg [6] n (fun j i wr => ∃ k : Nat, k + j = n ∧ i = .int .i64 (k : Int) ∧ Hid (JOwn wr g (List.replicate k c ++ List.replicate j 0) ∧ Below w.heap.size w wr))
    case atStart => exact ⟨0, by omega, rfl, by simpa using HOB.out, HBM.out⟩
    case round =>
      obtain ⟨k, hk, rfl, I⟩ := hrel
      cases gk with
      | zero =>
        have cv := I.out.1.str (cap := n) n (by simp; omega)
        rw [List.replicate_zero, List.append_nil, show k = n by omega] at cv
        have B := hid I.out.2
        have hki : ¬ (k : Int) < (n : Int) := by omega
        clear I HBM HOB
        go_wp2_with fail
        go_ret
        exact ⟨rfl, B.out⟩
      | succ u =>
        have hki : (k : Int) < (n : Int) := by omega
        have hc := I.out.1.cell k (by simp)
        have hf := I.out.1.free k
        have F : Hid (JOwn (wr.setCell ⟨g, k, none⟩ (.int .u8 c)) g (List.replicate (k + 1) c ++ List.replicate u 0) ∧ Below w.heap.size w (wr.setCell ⟨g, k, none⟩ (.int .u8 c))) := by
          refine ⟨?_, I.out.2.setCell (p := ⟨g, k, none⟩) (Nat.le_of_eq HG.out) _⟩
          have := I.out.1.set k c
          rw [jset] at this
          exact this
        generalize (List.replicate k c ++ List.replicate (u + 1) 0).getD k 0 = x at *
        clear I HBM HOB
        go_wp2_with fail
        go_roundg u
        case measure => omega
        case rel => exact ⟨k + 1, by omega, by go_num, F.out⟩
  · have e : Wh.rep c m = [] := Wh.rep_neg (by omega)
    rw [e]
    have B := hid (Below.refl w.heap.size w)
    have hp1 : m < 1 := by omega
    clear hm e
    go_enter Tryd.func59, Tryd.ntmps59
    go_wp2_with fail
    go_ret
    exact ⟨rfl, B.out⟩
end Go.Proofs.YtbldddagddmbgaaDoor

namespace Go.Proofs.YtbldddagddmbgaaDoor
open Go Go.RowKit Go.Deep Go.Shelf

set_option maxRecDepth 100000 in
theorem rhas_any (F k : Int) (w : World) (h0 : 0 ≤ F) (h1 : F ≤ 31) (hk : k = 1 ∨ k = 2 ∨ k = 4 ∨ k = 8 ∨ k = 16) :
    Calls Tryd.prog 41 #[.int .i64 F, .int .i64 k] w fun e w' => e = .returned (.bool (Wh.bit F k)) ∧ w' = w := by
  have e1 : F.tdiv k = F / k := by rw [Int.tdiv_eq_ediv_of_nonneg h0]
  have e2 : (F / k).tmod 2 = F / k % 2 := by rw [Int.tmod_eq_emod_of_nonneg (Int.ediv_nonneg h0 (by omega))]
  have b1 : 0 ≤ F / k := Int.ediv_nonneg h0 (by omega)
  have b2 : F / k ≤ 31 := by rcases hk with rfl | rfl | rfl | rfl | rfl <;> omega
  have E : (F / k % 2 == 1) = Wh.bit F k := by
    unfold Wh.bit
    by_cases h : F / k % 2 = 1
    · rw [decide_eq_true h]; simpa using h
    · rw [decide_eq_false h]; simpa using h
  have k0 : k ≠ 0 := by omega
  have k1 : k ≠ -1 := by omega
  have kb : 1 ≤ k := by omega
  have kc : k ≤ 16 := by omega
  clear hk
  go_enter Tryd.func41, Tryd.ntmps41
  go_wp2_with fail
  go_ret
  exact ⟨by rw [← E]; rfl, rfl⟩

set_option maxRecDepth 100000 in
theorem raw_any (V F W P : Int) (w : World) :
    Calls Tryd.prog 58 #[.agg #[.int .u8 V, .int .i64 F, .int .i64 W, .int .i64 P]] w fun e w' => e = .returned (.int .i64 (Wh.chk F W P)) ∧ Below w.heap.size w w' := by
  have B := hid (SB.new w V F W P)
  obtain ⟨c0, c1, c2, c3⟩ := B.out.flat
  by_cases h : F < 0 ∨ 31 < F ∨ W < 0 ∨ P < -1
  · rw [show Wh.chk F W P = 1 from if_pos h]
    by_cases h1 : F < 0
    · clear h
      go_enter Tryd.func58, Tryd.ntmps58
      go_wp2_with fail
      go_ret
      exact ⟨rfl, B.out.bel⟩
    · by_cases h2 : 31 < F
      · clear h
        go_enter Tryd.func58, Tryd.ntmps58
        go_wp2_with fail
        go_ret
        exact ⟨rfl, B.out.bel⟩
      · by_cases h3 : W < 0
        · clear h
          go_enter Tryd.func58, Tryd.ntmps58
          go_wp2_with fail
          go_ret
          exact ⟨rfl, B.out.bel⟩
        · have h4 : P < -1 := by omega
          clear h
          go_enter Tryd.func58, Tryd.ntmps58
          go_wp2_with fail
          go_ret
          exact ⟨rfl, B.out.bel⟩
  · have h1 : ¬ F < 0 := by omega
    have h2 : ¬ 31 < F := by omega
    have h3 : ¬ W < 0 := by omega
    have h4 : ¬ P < -1 := by omega
    by_cases k : 4096 < W ∨ 4096 < P
    · rw [show Wh.chk F W P = 6 by rw [Wh.chk, if_neg h, if_pos k]]
      by_cases k1 : 4096 < W
      · clear h k
        go_enter Tryd.func58, Tryd.ntmps58
        go_wp2_with fail
        go_ret
        exact ⟨rfl, B.out.bel⟩
      · have k2 : 4096 < P := by omega
        clear h k
        go_enter Tryd.func58, Tryd.ntmps58
        go_wp2_with fail
        go_ret
        exact ⟨rfl, B.out.bel⟩
    · rw [show Wh.chk F W P = 0 by rw [Wh.chk, if_neg h, if_neg k]]
      have k1 : ¬ 4096 < W := by omega
      have k2 : ¬ 4096 < P := by omega
      clear h k
      go_enter Tryd.func58, Tryd.ntmps58
      go_wp2_with fail
      go_ret
      exact ⟨rfl, B.out.bel⟩

set_option maxRecDepth 100000 in
set_option maxHeartbeats 1000000 in
theorem among_any (c : Int) (xs : List Int) (w : World) (hx : Wh.By xs) (hl : xs.length ≤ 100) :
    Calls Tryd.prog 57 #[.int .u8 c, .string (strOfNums xs)] w fun e w' => e = .returned (.bool (decide (c ∈ xs))) ∧ Below w.heap.size w w' := by
  have sx : (strOfNums xs).size = xs.length := strOfNums_size xs
  have l2 : (xs.length : Int) ≤ 100 := by omega
  have IX : ∀ (j : Nat) h, (((strOfNums xs)[j]'h).toNat : Int) = xs.getD j 0 := fun j h => (Str.of_nums hx).at j h
  have B := hid (Below.refl w.heap.size w)
  go_enter Tryd.func57, Tryd.ntmps57
  go_wp2_with fail
  go_loopg [5] xs.length (fun m i wr => ∃ j : Nat, j + m = xs.length ∧ i = .int .i64 (j : Int) ∧ Hid (Below w.heap.size w wr ∧ ∀ k, k < j → xs.getD k 0 ≠ c))
  case atStart => exact ⟨0, by omega, rfl, B.out, fun k hk => by omega⟩
  case round =>
    obtain ⟨j, hj, rfl, I⟩ := hrel
    by_cases jl : j < xs.length
    · have jli : (j : Int) < (xs.length : Int) := by omega
      have IXJ := IX j
      clear IX
      by_cases h : xs.getD j 0 = c
      · have e : decide (c ∈ xs) = true := decide_eq_true (by
          rw [← h, List.getD_eq_getElem?_getD, List.getElem?_eq_getElem jl]
          exact List.getElem_mem jl)
        rw [h] at IXJ
        have I1 := hid I.out.1
        clear I h
        go_wp2_with fail
        go_ret
        exact ⟨by first | rfl | (rw [e]; rfl), I1.out⟩
      · have F : Hid (Below w.heap.size w wr ∧ ∀ k, k < j + 1 → xs.getD k 0 ≠ c) := ⟨I.out.1, fun k hk => by
          rcases Nat.lt_or_ge k j with q | q
          · exact I.out.2 k q
          · rw [show k = j by omega]; exact h⟩
        have h2 : (xs.getD j 0 == c) = false := by simpa using h
        clear I h
        generalize xs.getD j 0 = x at *
        go_wp2_with fail
        go_roundg (xs.length - (j + 1))
        case measure => omega
        case rel => exact ⟨j + 1, by omega, by go_num, F.out⟩
    · have jli : ¬ (j : Int) < (xs.length : Int) := by omega
      have e : decide (c ∈ xs) = false := decide_eq_false (fun q => by
        obtain ⟨k, hk, rfl⟩ := List.getElem_of_mem q
        have := I.out.2 k (by omega)
        rw [List.getD_eq_getElem?_getD, List.getElem?_eq_getElem hk] at this
        exact this rfl)
      have I1 := hid I.out.1
      clear I IX
      go_wp2_with fail
      go_ret
      exact ⟨by first | rfl | (rw [e]; rfl), I1.out⟩

set_option maxRecDepth 100000 in
theorem bad_any (V F W P : Int) (xs : List Int) (w : World) (hx : Wh.By xs) (hl : xs.length ≤ 100) :
    Calls Tryd.prog 38 #[.agg #[.int .u8 V, .int .i64 F, .int .i64 W, .int .i64 P], .string (strOfNums xs)] w fun e w' => e = .returned (.int .i64 (if V ∈ xs then Wh.chk F W P else 140)) ∧ Below w.heap.size w w' := by
  have B := hid (SB.new w V F W P)
  obtain ⟨c0, c1, c2, c3⟩ := B.out.flat
  have AM := hid (fun W' => among_any V xs W' hx hl)
  have RA := hid (fun W' => raw_any V F W P W')
  by_cases h : V ∈ xs
  · rw [if_pos h]
    rw [decide_eq_true h] at AM
    generalize Wh.chk F W P = E at *
    clear h hx hl
    go_enter Tryd.func38, Tryd.ntmps38
    go_wp2_with fail
    with_reducible refine (AM.out _).mono ?_
    rintro e w1 ⟨rfl, b1⟩
    have B1 := hid (B.out.on b1)
    clear b1 AM B c0 c1 c2 c3
    obtain ⟨c0, c1, c2, c3⟩ := B1.out.flat
    go_wp2_with fail
    with_reducible refine (RA.out _).mono ?_
    rintro e w2 ⟨rfl, b2⟩
    have B2 := hid (B1.out.on b2)
    clear b2 RA B1 c0 c1 c2 c3
    go_wp2_with fail
    go_ret
    exact ⟨rfl, B2.out.bel⟩
  · rw [if_neg h]
    rw [decide_eq_false h] at AM
    clear h hx hl RA
    go_enter Tryd.func38, Tryd.ntmps38
    go_wp2_with fail
    with_reducible refine (AM.out _).mono ?_
    rintro e w1 ⟨rfl, b1⟩
    have B1 := hid (B.out.on b1)
    clear b1 AM B c0 c1 c2 c3
    go_wp2_with fail
    go_ret
    exact ⟨rfl, B1.out.bel⟩

theorem rstr_app {a b : List Int} (ha : Wh.By a) (hb : Wh.By b) : strOfNums a ++ strOfNums b = strOfNums (a ++ b) := by
  have k : Str (strOfNums a ++ strOfNums b) (a ++ b) := by
    have h1 := Str.of_nums ha
    have h2 := Str.of_nums hb
    unfold Str at *
    conv => rhs; rw [← h1, ← h2, ← List.map_append]
    simp
  exact str_is k

set_option maxRecDepth 100000 in
set_option maxHeartbeats 4000000 in
theorem rpad_any (V F W P : Int) (h b : List Int) (z : Bool) (w : World) (hh : Wh.By h) (hb : Wh.By b) (lh : h.length ≤ 140737488355328) (lb : b.length ≤ 140737488355328) :
    Calls Tryd.prog 42 #[.agg #[.int .u8 V, .int .i64 F, .int .i64 W, .int .i64 P], .string (strOfNums h), .string (strOfNums b), .bool z] w fun e w' => PadTold F W P z h b w e w' := by
  have B0 := hid (SB.new w V F W P)
  have CK := hid (fun W' => raw_any V F W P W')
  have l2 : (h.length : Int) ≤ 140737488355328 := by omega
  have l3 : (b.length : Int) ≤ 140737488355328 := by omega
  have sh : (strOfNums h).size = h.length := strOfNums_size h
  have sb : (strOfNums b).size = b.length := strOfNums_size b
  by_cases hc : Wh.chk F W P = 0
  · obtain ⟨⟨f0, f1⟩, ⟨wl, wu⟩, ⟨p0, p1⟩⟩ := Wh.chk_ok hc
    rw [hc] at CK
    by_cases hl : 16777216 < h.length + b.length
    · have hE : Wh.padE F W P h b = 3 := by rw [Wh.padE, if_pos hc, if_pos hl]
      have G : Hid (∀ w', Below w.heap.size w w' → PadTold F W P z h b w (.returned (.tuple #[.string ⟨#[]⟩, .int .i64 3])) w') := fun w' k => ⟨by rw [Wh.pad, hE, if_neg (by decide)]; rfl, k⟩
      have l1 : (16777216 : Int) < (h.length : Int) + (b.length : Int) := by omega
      clear hh hb lh lb hc hl hE f0 f1 p0 p1
      go_enter Tryd.func42, Tryd.ntmps42
      go_wp2_with fail
      with_reducible refine (CK.out _).mono ?_
      rintro e w1 ⟨rfl, b1⟩
      have B1 := hid (B0.out.on b1)
      clear b1 CK B0
      go_wp2_with fail
      go_ret2
      exact G.out _ B1.out.bel
    · have hE : Wh.padE F W P h b = 0 := by rw [Wh.padE, if_pos hc, if_neg hl]
      have hP : Wh.pad F W P z h b = Wh.padT F W z h b := by rw [Wh.pad, hE, if_pos rfl]
      have l1 : ¬ (16777216 : Int) < (h.length : Int) + (b.length : Int) := by omega
      have m1 : W - (h.length : Int) - (b.length : Int) = W - ((h.length : Int) + (b.length : Int)) := by omega
      have R1 := hid (fun W' => row_any 32 (W - ((h.length : Int) + (b.length : Int))) W' (by omega))
      have R2 := hid (fun W' => row_any 48 (W - ((h.length : Int) + (b.length : Int))) W' (by omega))
      have yr1 : Wh.By (Wh.rep 32 (W - ((h.length : Int) + (b.length : Int)))) := Wh.By.rep (by omega)
      have yr2 : Wh.By (Wh.rep 48 (W - ((h.length : Int) + (b.length : Int)))) := Wh.By.rep (by omega)
      have s1 : ((strOfNums (Wh.rep 32 (W - ((h.length : Int) + (b.length : Int))))).size : Int) ≤ 4096 := by rw [strOfNums_size, Wh.rep_len]; omega
      have s2 : ((strOfNums (Wh.rep 48 (W - ((h.length : Int) + (b.length : Int))))).size : Int) ≤ 4096 := by rw [strOfNums_size, Wh.rep_len]; omega
      have H1 := hid (fun W' => rhas_any F 1 W' f0 f1 (by omega))
      have H2 := hid (fun W' => rhas_any F 16 W' f0 f1 (by omega))
      have G : Hid (∀ T w', Wh.padT F W z h b = T → Below w.heap.size w w' → PadTold F W P z h b w (.returned (.tuple #[.string (strOfNums T), .int .i64 0])) w') := fun T w' e k => ⟨by rw [hE, hP, e], k⟩
      have n2 : (h.length : Int) ≤ 16777216 := by omega
      have n3 : (b.length : Int) ≤ 16777216 := by omega
      clear lh lb hc hl hE hP l2 l3
      cases hb1 : Wh.bit F 1 with
      | true =>
        have G1 := hid (fun w' => G.out (h ++ b ++ Wh.rep 32 (W - ((h.length : Int) + (b.length : Int)))) w' (by rw [Wh.padT, if_pos hb1, m1]))
        have A1 := rstr_app hh hb
        have A2 := rstr_app (hh.app hb) yr1
        have z1 : ((strOfNums (h ++ b)).size : Int) ≤ 33558528 := by
          rw [← A1, ByteArray.size_append]
          omega
        clear hh hb yr1 yr2 G m1 f0 f1 p0 p1
        generalize strOfNums (h ++ b ++ Wh.rep 32 (W - ((h.length : Int) + (b.length : Int)))) = TT at *
        generalize strOfNums (h ++ b) = TM at *
        generalize strOfNums (Wh.rep 32 (W - ((h.length : Int) + (b.length : Int)))) = TR at *
        generalize strOfNums h = TH at *
        generalize strOfNums b = TB at *
        go_enter Tryd.func42, Tryd.ntmps42
        go_wp2_with fail
        with_reducible refine (CK.out _).mono ?_
        rintro e w1 ⟨rfl, b1⟩
        have B1 := hid (B0.out.on b1)
        clear b1 CK B0
        obtain ⟨c0, c1, c2, c3⟩ := B1.out.flat
        go_wp2_with fail
        with_reducible refine (H1.out _).mono ?_
        rintro e w2 ⟨rfl, e2⟩
        rw [e2, hb1]
        clear e2 w2
        go_wp2_with fail
        with_reducible refine (R1.out _).mono ?_
        rintro e w4 ⟨rfl, b4⟩
        have B4 := hid (B1.out.on b4)
        clear b4 B1 R1 R2 c0 c1 c2 c3
        go_wp2_with fail
        go_ret2
        exact G1.out _ B4.out.bel
      | false =>
        cases hb2 : Wh.bit F 16 with
        | true =>
          cases z with
          | true =>
            have G1 := hid (fun w' => G.out (h ++ Wh.rep 48 (W - ((h.length : Int) + (b.length : Int))) ++ b) w' (by rw [Wh.padT, hb1, if_neg Bool.false_ne_true, if_pos ⟨hb2, rfl⟩, m1]))
            have A1 := rstr_app hh yr2
            have A2 := rstr_app (hh.app yr2) hb
            have z1 : ((strOfNums (h ++ Wh.rep 48 (W - ((h.length : Int) + (b.length : Int))))).size : Int) ≤ 33558528 := by
              rw [← A1, ByteArray.size_append]
              omega
            clear hh hb yr1 yr2 G m1 f0 f1 p0 p1
            generalize strOfNums (h ++ Wh.rep 48 (W - ((h.length : Int) + (b.length : Int))) ++ b) = TT at *
            generalize strOfNums (h ++ Wh.rep 48 (W - ((h.length : Int) + (b.length : Int)))) = TM at *
            generalize strOfNums (Wh.rep 48 (W - ((h.length : Int) + (b.length : Int)))) = TR at *
            generalize strOfNums h = TH at *
            generalize strOfNums b = TB at *
            go_enter Tryd.func42, Tryd.ntmps42
            go_wp2_with fail
            with_reducible refine (CK.out _).mono ?_
            rintro e w1 ⟨rfl, b1⟩
            have B1 := hid (B0.out.on b1)
            clear b1 CK B0
            obtain ⟨c0, c1, c2, c3⟩ := B1.out.flat
            go_wp2_with fail
            with_reducible refine (H1.out _).mono ?_
            rintro e w2 ⟨rfl, e2⟩
            rw [e2, hb1]
            clear e2 w2
            go_wp2_with fail
            with_reducible refine (H2.out _).mono ?_
            rintro e w3 ⟨rfl, e3⟩
            rw [e3, hb2]
            clear e3 w3
            go_wp2_with fail
            with_reducible refine (R2.out _).mono ?_
            rintro e w4 ⟨rfl, b4⟩
            have B4 := hid (B1.out.on b4)
            clear b4 B1 R1 R2 c0 c1 c2 c3
            go_wp2_with fail
            go_ret2
            exact G1.out _ B4.out.bel
          | false =>
            have G1 := hid (fun w' => G.out (Wh.rep 32 (W - ((h.length : Int) + (b.length : Int))) ++ h ++ b) w' (by rw [Wh.padT, hb1, if_neg Bool.false_ne_true, if_neg (fun q => Bool.false_ne_true q.2), m1]))
            have A1 := rstr_app yr1 hh
            have A2 := rstr_app (yr1.app hh) hb
            have z1 : ((strOfNums (Wh.rep 32 (W - ((h.length : Int) + (b.length : Int))) ++ h)).size : Int) ≤ 33558528 := by
              rw [← A1, ByteArray.size_append]
              omega
            clear hh hb yr1 yr2 G m1 f0 f1 p0 p1
            generalize strOfNums (Wh.rep 32 (W - ((h.length : Int) + (b.length : Int))) ++ h ++ b) = TT at *
            generalize strOfNums (Wh.rep 32 (W - ((h.length : Int) + (b.length : Int))) ++ h) = TM at *
            generalize strOfNums (Wh.rep 32 (W - ((h.length : Int) + (b.length : Int)))) = TR at *
            generalize strOfNums h = TH at *
            generalize strOfNums b = TB at *
            go_enter Tryd.func42, Tryd.ntmps42
            go_wp2_with fail
            with_reducible refine (CK.out _).mono ?_
            rintro e w1 ⟨rfl, b1⟩
            have B1 := hid (B0.out.on b1)
            clear b1 CK B0
            obtain ⟨c0, c1, c2, c3⟩ := B1.out.flat
            go_wp2_with fail
            with_reducible refine (H1.out _).mono ?_
            rintro e w2 ⟨rfl, e2⟩
            rw [e2, hb1]
            clear e2 w2
            go_wp2_with fail
            with_reducible refine (H2.out _).mono ?_
            rintro e w3 ⟨rfl, e3⟩
            rw [e3, hb2]
            clear e3 w3
            go_wp2_with fail
            with_reducible refine (R1.out _).mono ?_
            rintro e w4 ⟨rfl, b4⟩
            have B4 := hid (B1.out.on b4)
            clear b4 B1 R1 R2 c0 c1 c2 c3
            go_wp2_with fail
            go_ret2
            exact G1.out _ B4.out.bel
        | false =>
          have G1 := hid (fun w' => G.out (Wh.rep 32 (W - ((h.length : Int) + (b.length : Int))) ++ h ++ b) w' (by rw [Wh.padT, hb1, if_neg Bool.false_ne_true, hb2, if_neg (fun q => Bool.false_ne_true q.1), m1]))
          have A1 := rstr_app yr1 hh
          have A2 := rstr_app (yr1.app hh) hb
          have z1 : ((strOfNums (Wh.rep 32 (W - ((h.length : Int) + (b.length : Int))) ++ h)).size : Int) ≤ 33558528 := by
            rw [← A1, ByteArray.size_append]
            omega
          clear hh hb yr1 yr2 G m1 f0 f1 p0 p1
          generalize strOfNums (Wh.rep 32 (W - ((h.length : Int) + (b.length : Int))) ++ h ++ b) = TT at *
          generalize strOfNums (Wh.rep 32 (W - ((h.length : Int) + (b.length : Int))) ++ h) = TM at *
          generalize strOfNums (Wh.rep 32 (W - ((h.length : Int) + (b.length : Int)))) = TR at *
          generalize strOfNums h = TH at *
          generalize strOfNums b = TB at *
          go_enter Tryd.func42, Tryd.ntmps42
          go_wp2_with fail
          with_reducible refine (CK.out _).mono ?_
          rintro e w1 ⟨rfl, b1⟩
          have B1 := hid (B0.out.on b1)
          clear b1 CK B0
          obtain ⟨c0, c1, c2, c3⟩ := B1.out.flat
          go_wp2_with fail
          with_reducible refine (H1.out _).mono ?_
          rintro e w2 ⟨rfl, e2⟩
          rw [e2, hb1]
          clear e2 w2
          go_wp2_with fail
          with_reducible refine (H2.out _).mono ?_
          rintro e w3 ⟨rfl, e3⟩
          rw [e3, hb2]
          clear e3 w3
          go_wp2_with fail
          with_reducible refine (R1.out _).mono ?_
          rintro e w4 ⟨rfl, b4⟩
          have B4 := hid (B1.out.on b4)
          clear b4 B1 R1 R2 c0 c1 c2 c3
          go_wp2_with fail
          go_ret2
          exact G1.out _ B4.out.bel
  · have hE : Wh.padE F W P h b = Wh.chk F W P := by rw [Wh.padE, if_neg hc]
    have G : Hid (∀ w', Below w.heap.size w w' → PadTold F W P z h b w (.returned (.tuple #[.string ⟨#[]⟩, .int .i64 (Wh.chk F W P)])) w') := fun w' k => ⟨by rw [Wh.pad, hE, if_neg hc]; rfl, k⟩
    have hne : (Wh.chk F W P == 0) = false := by simpa using hc
    clear hh hb lh lb hc hE
    generalize Wh.chk F W P = E at *
    go_enter Tryd.func42, Tryd.ntmps42
    go_wp2_with fail
    with_reducible refine (CK.out _).mono ?_
    rintro e w1 ⟨rfl, b1⟩
    have B1 := hid (B0.out.on b1)
    clear b1 CK
    go_wp2_with fail
    go_ret2
    exact G.out _ B1.out.bel
end Go.Proofs.YtbldddagddmbgaaDoor

namespace Go.Proofs.YtbldddagddmbgaaDoor
open Go Go.RowKit Go.Deep
namespace Wh

/-- Digits of a base, brought to the precision. -/
structure FilB (B : Int) (up : Bool) (P v : Int) (xs : List Int) : Prop where
  by_ : By xs
  dig : ∀ i, i < xs.length → wv (xs.getD i 0) < B
  case_ : ∀ i, i < xs.length → (up = true → ¬ (97 ≤ xs.getD i 0 ∧ xs.getD i 0 ≤ 122)) ∧ (up = false → ¬ (65 ≤ xs.getD i 0 ∧ xs.getD i 0 ≤ 90))
  val : Dn.tv B 0 (xs.map wv) = v
  len : P ≤ xs.length
  max : xs.length ≤ 270000
  nil : v = 0 → P = 0 → xs = []
  ne : ¬ (v = 0 ∧ P = 0) → xs ≠ []
  head : xs = [] ∨ (xs.getD 0 0 ≠ 48 ∧ v ≠ 0) ∨ (xs.getD 0 0 = 48 ∧ (xs.length : Int) = P) ∨ (xs = [48] ∧ P = -1 ∧ v = 0)

theorem tv_zeros (B : Int) (k : Nat) : Dn.tv B 0 (List.replicate k (0 : Int)) = 0 := by
  induction k with
  | zero => rfl
  | succ k ih => rw [List.replicate_succ, Dn.tv]; simpa using ih
theorem fil_b {B : Int} {up : Bool} {P u : Int} (u0 : 0 ≤ u) (u1 : u < 18446744073709551616) (hB : 2 ≤ B) (h36 : B ≤ 36) (p0 : -1 ≤ P) (p1 : P ≤ 4096) : FilB B up P u (fil P (dig B up u)) := by
  have D : By (dig B up u) ∧ (∀ i, i < (dig B up u).length → wv ((dig B up u).getD i 0) < B) ∧ (∀ i, i < (dig B up u).length → (up = true → ¬ (97 ≤ (dig B up u).getD i 0 ∧ (dig B up u).getD i 0 ≤ 122)) ∧ (up = false → ¬ (65 ≤ (dig B up u).getD i 0 ∧ (dig B up u).getD i 0 ≤ 90))) ∧ Dn.tv B 0 ((dig B up u).map wv) = u ∧ (dig B up u).length ≤ 262144 ∧ (u = 0 → dig B up u = []) ∧ (u ≠ 0 → dig B up u ≠ [] ∧ (dig B up u).getD 0 0 ≠ 48) := by
    by_cases h : u = 0
    · have e : dig B up u = [] := by rw [dig, if_pos h]
      rw [e, h]
      exact ⟨By.nil, by intro i hi; simp at hi, by intro i hi; simp at hi, rfl, by simp, fun _ => rfl, fun q => absurd rfl q⟩
    · have hv : Nm.val [u] = u := by simp [Nm.val]
      have g := dig_good (B := B) (up := up) (zs := [u]) (limb_one ⟨u0, u1⟩) (by rw [hv]; omega) (Nat.le_trans (Nm.tsize_le _) (by simp)) hB h36
      rw [hv] at g
      exact ⟨dig_by _ _ _, g.dig, g.case_, g.val, g.len, fun q => absurd q h, fun _ => ⟨g.ne, g.head⟩⟩
  obtain ⟨d0, d1, d2, d3, d4, d5, d6⟩ := D
  generalize dig B up u = D at *
  obtain ⟨L, hL⟩ : ∃ L : Int, L = if P = -1 then 1 else P := ⟨_, rfl⟩
  have L0 : (P = -1 ∧ L = 1) ∨ (P ≠ -1 ∧ L = P) := by
    rw [hL]; split
    · exact .inl ⟨by assumption, rfl⟩
    · exact .inr ⟨by assumption, rfl⟩
  have e : fil P D = rep 48 (L - D.length) ++ D := by rw [fil, ← hL]
  rw [e]
  clear hL e
  obtain ⟨m, hm⟩ : ∃ m : Nat, m = (L - (D.length : Int)).toNat := ⟨_, rfl⟩
  have er : rep 48 (L - D.length) = List.replicate m 48 := by rw [rep, hm]
  rw [er]
  have ll : (List.replicate m (48 : Int) ++ D).length = m + D.length := by rw [List.length_append, List.length_replicate]
  have nz : u = 0 ↔ D.length = 0 := by
    constructor
    · intro h; rw [d5 h]; rfl
    · intro h
      by_cases c : u = 0
      · exact c
      · exact absurd (List.eq_nil_of_length_eq_zero h) (d6 c).1
  have gd : ∀ i, (List.replicate m (48 : Int) ++ D).getD i 0 = if i < m then 48 else D.getD (i - m) 0 := by
    intro i
    rw [List.getD_eq_getElem?_getD]
    by_cases h : i < m
    · rw [if_pos h, List.getElem?_append_left (by simpa using h), List.getElem?_replicate, if_pos h]; rfl
    · rw [if_neg h, List.getElem?_append_right (by simpa using h), List.length_replicate, List.getD_eq_getElem?_getD]
  refine ⟨?_, ?_, ?_, ?_, ?_, ?_, ?_, ?_, ?_⟩
  · intro x hx
    rcases List.mem_append.1 hx with q | q
    · have := (List.mem_replicate.1 q).2; omega
    · exact d0 x q
  · intro i hi
    rw [gd i]
    split
    · have : wv 48 = 0 := by decide
      omega
    · exact d1 _ (by omega)
  · intro i hi
    rw [gd i]
    split
    · exact ⟨fun _ => by omega, fun _ => by omega⟩
    · exact d2 _ (by omega)
  · rw [List.map_append, List.map_replicate, show wv 48 = 0 by decide, Dn.tv_append, tv_zeros, d3]
  · rw [ll]; omega
  · rw [ll]; omega
  · intro h1 h2
    apply List.eq_nil_of_length_eq_zero
    rw [ll]; omega
  · intro h c
    rw [c] at ll
    simp at ll
    omega
  · rcases Nat.eq_zero_or_pos m with k | k
    · rw [k, List.replicate_zero, List.nil_append]
      by_cases c : u = 0
      · exact .inl (d5 c)
      · exact .inr (.inl ⟨(d6 c).2, c⟩)
    · have e0 : (List.replicate m (48 : Int) ++ D).getD 0 0 = 48 := by rw [gd 0, if_pos k]
      rcases L0 with ⟨a, b⟩ | ⟨a, b⟩
      · right; right; right
        have h1 : D = [] := List.eq_nil_of_length_eq_zero (by omega)
        have h2 : m = 1 := by rw [hm, h1]; simp; omega
        exact ⟨by rw [h1, h2]; rfl, a, by omega⟩
      · right; right; left
        exact ⟨e0, by rw [ll]; omega⟩
end Wh

/-- FromBase of digits that fit. -/
theorem fromBase_fits (xs : List Int) (B u : Int) (w : World) (hB : 2 ≤ B) (h36 : B ≤ 36) (hx : Wh.By xs) (hl : xs.length ≤ 270000) (hd : ∀ i, i < xs.length → wv (xs.getD i 0) < B) (h0 : xs ≠ []) (hv : Dn.tv B 0 (xs.map wv) = u) (hu : u < 18446744073709551616) :
    Calls Tryd.prog 36 #[.string (strOfNums xs), .int .i64 B] w fun e w' => ∃ r os, e = .returned (.tuple #[.slice r (List.length os) (List.length os), .int .i64 0, .int .i64 0]) ∧ Ans w.heap.size w' r os u ∧ Below w.heap.size w w' := by
  refine (fromBase_any (strOfNums xs) xs B w (Str.of_nums hx) (by omega) (by omega) (by omega)).mono ?_
  rintro e w' ⟨r, os, at_, E, rfl, h, d⟩
  have hp : (18446744073709551616 : Int) ≤ Nm.pw 4096 := by
    have := Nm.pw_mono (show 1 ≤ 4096 by omega)
    exact this
  cases h with
  | base h => omega
  | empty _ _ h => exact absurd h h0
  | digit t _ _ h1 _ h3 => have := hd t h1; omega
  | big _ _ _ _ h => rw [hv] at h; omega
  | ok r os _ _ _ _ _ h => rw [hv] at h; exact ⟨r, os, rfl, h, d⟩
end Go.Proofs.YtbldddagddmbgaaDoor

namespace Go.Proofs.YtbldddagddmbgaaDoor
open Go Go.RowKit Go.Deep Go.Shelf

theorem uempty_of {xs : List Int} (h : xs ≠ []) : (strOfNums xs).toList.isEmpty = false ∧ ((strOfNums xs).toList == []) = false ∧ (strOfNums xs).toList ≠ [] := by
  have e := isEmpty_nums xs
  have e2 : xs.isEmpty = false := by cases xs with | nil => exact absurd rfl h | cons _ _ => rfl
  rw [e2] at e
  refine ⟨e, by rw [toList_nums, e2], fun c => ?_⟩
  rw [c] at e
  exact Bool.noConfusion e
/-- What the reference's InBase writes. -/
def xdg (B : Int) (up : Bool) (v : Int) : List Int := if v = 0 then [48] else Wh.dig B up v
theorem xdg_is {zs : List Int} {B : Int} {up : Bool} {xs : List Int} {E : Int} (hz : Nm.Limbs zs) (h1 : Nm.tsize zs ≤ 4096) (hB : 2 ≤ B) (h36 : B ≤ 36) (h : InIs zs B up xs E) : xs = xdg B up (Nm.val zs) ∧ E = 0 := by
  have v := (Nm.val_bd zs hz).1
  have tz := Nm.tsize_zero_iff hz
  by_cases c : Nm.val zs = 0
  · rw [xdg, if_pos c]
    have q := h.one hz (.zero (tz.2 c) hB h36)
    exact q
  · rw [xdg, if_neg c]
    exact Wh.dig_is hz (by omega) h1 hB h36 h

theorem not_zero_text {D : List Int} (h : D.getD 0 0 ≠ 48) (hy : Wh.By D) : ((strOfNums D).toList == [48]) = false ∧ (strOfNums D).toList ≠ [48] := by
  have k : (strOfNums D).toList ≠ [48] := by
    intro c
    rw [ByteArray.toList_eq, strOfNums_data] at c
    cases D with
    | nil => simp at c
    | cons x l =>
      simp only [List.map_cons, List.cons.injEq] at c
      have hx := hy x (by simp)
      have : (UInt8.ofNat x.toNat).toNat = (48 : UInt8).toNat := by rw [c.1]
      rw [UInt8.toNat_ofNat_of_lt' (by show x.toNat < 256; omega)] at this
      have e48 : (48 : UInt8).toNat = 48 := rfl
      apply h
      show x = 48
      omega
  exact ⟨by simpa using k, k⟩

set_option maxRecDepth 100000 in
set_option maxHeartbeats 1000000 in
theorem rfilled_dig (D : List Int) (P : Int) (w : World) (hy : Wh.By D) (hl : D.length ≤ 262144) (h0 : D ≠ []) (hd : D.getD 0 0 ≠ 48) (p0 : -1 ≤ P) (p1 : P ≤ 4096) :
    Calls Tryd.prog 43 #[.string (strOfNums D), .int .i64 P] w fun e w' => e = .returned (.string (strOfNums (Wh.fil P D))) ∧ Below w.heap.size w w' := by
  have sz : (strOfNums D).size = D.length := strOfNums_size D
  have ll : (D.length : Int) ≤ 262144 := by omega
  have lp : 0 < D.length := List.length_pos_iff.2 h0
  obtain ⟨t1, t2⟩ := not_zero_text hd hy
  have R := hid (fun W' => row_any 48 (P - D.length) W' (by omega))
  have rs : ((strOfNums (Wh.rep 48 (P - D.length))).size : Int) ≤ 4096 := by rw [strOfNums_size, Wh.rep_len]; omega
  have G : Hid (strOfNums (Wh.rep 48 (P - D.length)) ++ strOfNums D = strOfNums (Wh.fil P D)) := by
    rw [Hid, str_app (Wh.By.rep (by omega)) hy, Wh.fil]
    by_cases q : P = -1
    · rw [if_pos q, Wh.rep_neg (by omega), Wh.rep_neg (by omega)]
    · rw [if_neg q]
  clear hy hl h0 hd lp
  generalize strOfNums (Wh.rep 48 (P - D.length)) = RS at *
  generalize strOfNums D = DS at *
  go_enter Tryd.func43, Tryd.ntmps43
  go_wp2_with fail
  with_reducible refine (R.out _).mono ?_
  rintro e w1 ⟨rfl, b1⟩
  have B1 := hid b1
  clear b1
  go_wp2_with fail
  go_ret
  exact ⟨ret_str G.out, B1.out⟩

set_option maxRecDepth 100000 in
set_option maxHeartbeats 1000000 in
theorem rfilled_zero (P : Int) (w : World) (p0 : -1 ≤ P) (p1 : P ≤ 4096) :
    Calls Tryd.prog 43 #[.string ⟨#[48]⟩, .int .i64 P] w fun e w' => e = .returned (.string (strOfNums (Wh.fil P []))) ∧ Below w.heap.size w w' := by
  by_cases q : P = -1
  · subst q
    have R : Hid (∀ W', Calls Tryd.prog 59 #[.int .u8 48, .int .i64 (-2)] W' fun e w' => e = .returned (.string ⟨#[]⟩) ∧ Below W'.heap.size W' w') := fun W' => row_any 48 (-2) W' (by omega)
    have G : Hid (strOfNums (Wh.fil (-1) []) = ⟨#[]⟩ ++ ⟨#[48]⟩) := rfl
    go_enter Tryd.func43, Tryd.ntmps43
    go_wp2_with fail
    with_reducible refine (R.out _).mono ?_
    rintro e w1 ⟨rfl, b1⟩
    have B1 := hid b1
    clear b1
    go_wp2_with fail
    go_ret
    exact ⟨ret_str G.out.symm, B1.out⟩
  · have P0 : 0 ≤ P := by omega
    have R := hid (fun W' => row_any 48 P W' (by omega))
    have rs : ((strOfNums (Wh.rep 48 P)).size : Int) ≤ 4096 := by rw [strOfNums_size, Wh.rep_len]; omega
    have G : Hid (strOfNums (Wh.rep 48 P) ++ ⟨#[]⟩ = strOfNums (Wh.fil P [])) := by
      have e := str_app (Wh.By.rep (c := 48) (n := P) (by omega)) Wh.By.nil
      rw [show strOfNums [] = ⟨#[]⟩ from rfl] at e
      rw [Hid, e, Wh.fil, if_neg q, List.append_nil, List.append_nil]
      simp
    clear q
    generalize strOfNums (Wh.rep 48 P) = RS at *
    go_enter Tryd.func43, Tryd.ntmps43
    go_wp2_with fail
    with_reducible refine (R.out _).mono ?_
    rintro e w1 ⟨rfl, b1⟩
    have B1 := hid b1
    clear b1
    go_wp2_with fail
    go_ret
    exact ⟨ret_str G.out, B1.out⟩

/-- filled of what InBase writes. -/
theorem rfilled_any (B : Int) (up : Bool) (zs : List Int) (P : Int) (w : World) (hz : Nm.Limbs zs) (h1 : Nm.tsize zs ≤ 4096) (hB : 2 ≤ B) (h36 : B ≤ 36) (p0 : -1 ≤ P) (p1 : P ≤ 4096) :
    Calls Tryd.prog 43 #[.string (strOfNums (xdg B up (Nm.val zs))), .int .i64 P] w fun e w' => e = .returned (.string (strOfNums (Wh.fil P (Wh.dig B up (Nm.val zs))))) ∧ Below w.heap.size w w' := by
  have v := (Nm.val_bd zs hz).1
  by_cases c : Nm.val zs = 0
  · rw [xdg, if_pos c, Wh.dig, if_pos c]
    exact rfilled_zero P w p0 p1
  · rw [xdg, if_neg c]
    have g := Wh.dig_good (up := up) hz (by omega) h1 hB h36
    exact rfilled_dig _ P w (Wh.dig_by _ _ _) g.len g.ne g.head p0 p1

theorem own_one (w : World) (u : Int) : Own (w.alloc (.cells #[.int .u64 u] 27)) w.heap.size [u] := heap_alloc_new w _

set_option maxRecDepth 100000 in
set_option maxHeartbeats 4000000 in
theorem runsigned_any (V F W P u : Int) (w : World) (u0 : 0 ≤ u) (u1 : u < 18446744073709551616) :
    Calls Tryd.prog 23 #[.agg #[.int .u8 V, .int .i64 F, .int .i64 W, .int .i64 P], .int .u64 u] w fun e w' => UnsTold V F W P u w e w' := by
  have B0 := hid (SB.new w V F W P)
  have BA : Hid (∀ W', Calls Tryd.prog 38 #[.agg #[.int .u8 V, .int .i64 F, .int .i64 W, .int .i64 P], .string ⟨#[111, 117, 120, 88]⟩] W' fun e w' => e = .returned (.int .i64 (Wh.unsE V F W P)) ∧ Below W'.heap.size W' w') := by
    intro W'
    have q := bad_any V F W P [111, 117, 120, 88] W' (by intro x hx; simp at hx; omega) (by simp)
    have e : (if V ∈ [111, 117, 120, 88] then Wh.chk F W P else 140) = Wh.unsE V F W P := by
      rw [Wh.unsE]; by_cases h : V = 111 ∨ V = 117 ∨ V = 120 ∨ V = 88
      · rw [if_pos h, if_pos (by simpa using h)]
      · rw [if_neg h, if_neg (by simpa using h)]
    rw [e] at q
    exact q
  by_cases hE : Wh.unsE V F W P = 0
  · have hV : V = 111 ∨ V = 117 ∨ V = 120 ∨ V = 88 := by
      by_cases h : V = 111 ∨ V = 117 ∨ V = 120 ∨ V = 88
      · exact h
      · rw [Wh.unsE, if_neg h] at hE; omega
    have hc : Wh.chk F W P = 0 := by rw [Wh.unsE, if_pos hV] at hE; exact hE
    obtain ⟨⟨f0, f1⟩, ⟨wl, wu⟩, ⟨p0, p1⟩⟩ := Wh.chk_ok hc
    rw [hE] at BA
    have bd := base_bd V
    have hl1 : Nm.Limbs [u] := limb_one ⟨u0, u1⟩
    have ts1 : Nm.tsize [u] ≤ 4096 := Nat.le_trans (Nm.tsize_le _) (by simp)
    have IB : Hid (∀ W', Calls Tryd.prog 44 #[.slice (some ⟨W'.heap.size, 0, none⟩) 1 1, .int .i64 (Wh.base V), .bool (decide (V = 88))] (W'.alloc (.cells #[.int .u64 u] 27)) fun e w' => e = .returned (.tuple #[.string (strOfNums (xdg (Wh.base V) (decide (V = 88)) u)), .int .i64 0]) ∧ Below W'.heap.size W' w') := by
      intro W'
      have A : Arg (W'.alloc (.cells #[.int .u64 u] 27)) (some ⟨W'.heap.size, 0, none⟩) 1 1 [u] := ⟨rfl, by omega, by omega, (own_one W' u).lies, hl1⟩
      refine (sinBase_any _ 1 1 [u] (Wh.base V) (decide (V = 88)) _ A).mono ?_
      rintro e w' ⟨s, xs, E, rfl, h1, h2, h3⟩
      obtain ⟨e1, e2⟩ := xdg_is hl1 ts1 bd.1 bd.2 h2
      rw [val_one] at e1
      rw [e1] at h1
      exact ⟨by rw [str_is h1, e2], below_on (alloc_b W' _) h3⟩
    have FI : Hid (∀ W', Calls Tryd.prog 43 #[.string (strOfNums (xdg (Wh.base V) (decide (V = 88)) u)), .int .i64 P] W' fun e w' => e = .returned (.string (strOfNums (Wh.ubody V P u))) ∧ Below W'.heap.size W' w') := by
      intro W'
      have q := rfilled_any (Wh.base V) (decide (V = 88)) [u] P W' hl1 ts1 bd.1 bd.2 p0 p1
      rw [val_one] at q
      exact q
    have dl := dig_u (Wh.base V) (decide (V = 88)) u u0 u1 bd.1 bd.2
    have fy : Wh.By (Wh.ubody V P u) := Wh.fil_by (Wh.dig_by _ _ _)
    have fl : (Wh.ubody V P u).length ≤ 268000 := by rw [Wh.ubody, Wh.fil_len]; split <;> omega
    have H8 := hid (fun W' => rhas_any F 8 W' f0 f1 (by omega))
    have ep : (P == -1) = decide (P = -1) := by by_cases h : P = -1 <;> simp [h]
    have PA : ∀ H B, Wh.uhead V F u = H → Wh.utext V F P u = B → Hid (∀ W' (k : Below w.heap.size w W'), Calls Tryd.prog 42 #[.agg #[.int .u8 V, .int .i64 F, .int .i64 W, .int .i64 P], .string (strOfNums H), .string (strOfNums B), .bool (decide (P = -1))] W' fun e w' => ∃ s, e = .returned (.tuple #[.string s, .int .i64 0]) ∧ UnsTold V F W P u w (.returned (.tuple #[.string s, .int .i64 0])) w') := by
      rintro H B rfl rfl W' k
      have hh : Wh.By (Wh.uhead V F u) ∧ (Wh.uhead V F u).length ≤ 2 := by
        unfold Wh.uhead
        split
        · exact ⟨by intro x hx; simp at hx; omega, by simp⟩
        · split
          · exact ⟨by intro x hx; simp at hx; omega, by simp⟩
          · exact ⟨Wh.By.nil, by simp⟩
      have hb : Wh.By (Wh.utext V F P u) ∧ (Wh.utext V F P u).length ≤ 268001 := by
        unfold Wh.utext
        split
        · exact ⟨fy.cons (by omega), by rw [List.length_cons]; omega⟩
        · exact ⟨fy, by omega⟩
      have pe : Wh.padE F W P (Wh.uhead V F u) (Wh.utext V F P u) = 0 := by rw [Wh.padE, if_pos hc, if_neg (by omega)]
      refine (rpad_any V F W P _ _ _ W' hh.1 hb.1 (by omega) (by omega)).mono ?_
      rintro e w' ⟨rfl, b⟩
      rw [pe]
      exact ⟨_, rfl, by rw [Wh.uns, hE, if_pos rfl, Wh.pad, if_pos pe]; rfl, below_on k b⟩
    have tS : (strOfNums (Wh.ubody V P u)).size = (Wh.ubody V P u).length := strOfNums_size _
    have tl : ((Wh.ubody V P u).length : Int) ≤ 268000 := by omega
    have IX : ∀ h, (((strOfNums (Wh.ubody V P u))[0]'h).toNat : Int) = (Wh.ubody V P u).getD 0 0 := fun h => (Str.of_nums fy).at 0 h
    have AP := str_app (a := [48]) (b := Wh.ubody V P u) (by intro x hx; simp at hx; omega) fy
    rw [show strOfNums [48] = ⟨#[48]⟩ from rfl, List.singleton_append] at AP
    have EO := hid (fun (h : Wh.ubody V P u ≠ []) => uempty_of h)
    have CV : ∀ wk : World, (convert 64 9 (.slice (some ⟨wk.heap.size, 0, none⟩) 1 1)).run Tryd.prog (wk.alloc (.cells #[.int .u8 V] 5)) = .ok (.string (strOfNums [V])) (wk.alloc (.cells #[.int .u8 V] 5)) := fun wk => JOwn.str (JOwn.alloc wk [V]) 1 rfl
    have h88 : (V == 88) = decide (V = 88) := by by_cases h : V = 88 <;> simp [h]
    clear hE hc wl wu p0 p1 hl1 ts1 dl fy fl bd u0 u1
    rcases hV with rfl | rfl | rfl | rfl
    · cases h8 : Wh.bit F 8 with
      | false =>
        rw [show Wh.base 111 = 8 from rfl, show decide ((111 : Int) = 88) = false from rfl] at IB FI
        have PB := PA [] (Wh.ubody 111 P u) (by rw [Wh.uhead, if_neg (fun q => Bool.false_ne_true (h8.symm.trans q.1)), if_neg (fun q => Bool.false_ne_true (h8.symm.trans q.1))]) (by rw [Wh.utext, Wh.umark, h8, Bool.false_and, Bool.false_and, if_neg Bool.false_ne_true])
        rw [show strOfNums [] = ⟨#[]⟩ from rfl] at PB
        clear PA EO h88 f0 f1
        generalize (Wh.ubody 111 P u).length = tln at *
        generalize strOfNums (Wh.ubody 111 P u) = BO at *
        generalize strOfNums (xdg 8 false u) = DS at *
        generalize decide (P = -1) = ez at *
        obtain ⟨c0, c1, c2, c3⟩ := B0.out.flat
        go_enter Tryd.func23, Tryd.ntmps23
        go_wp2_with fail
        with_reducible refine (BA.out _).mono ?_
        rintro e w1 ⟨rfl, b1⟩
        have B1 := hid (B0.out.on b1)
        clear b1 BA B0 c0 c1 c2 c3
        obtain ⟨c0, c1, c2, c3⟩ := B1.out.flat
        obtain ⟨d0, d1, d2, d3⟩ := (B1.out.on (alloc_b w1 (.cells #[.int .u64 u] 27))).flat
        go_wp2_with fail
        with_reducible refine (IB.out _).mono ?_
        rintro e w2 ⟨rfl, b2⟩
        have B2 := hid (B1.out.on b2)
        clear b2 IB B1 c0 c1 c2 c3 d0 d1 d2 d3
        obtain ⟨c0, c1, c2, c3⟩ := B2.out.flat
        go_wp2_with fail
        with_reducible refine (FI.out _).mono ?_
        rintro e w3 ⟨rfl, b3⟩
        have B3 := hid (B2.out.on b3)
        clear b3 FI B2 c0 c1 c2 c3
        obtain ⟨c0, c1, c2, c3⟩ := B3.out.flat
        go_wp2_with fail
        with_reducible refine (H8.out _).mono ?_
        rintro e w4 ⟨rfl, e4⟩
        rw [e4, h8]
        clear e4 w4 H8
        go_wp2_with fail
        with_reducible refine (PB.out _ B3.out.bel).mono ?_
        rintro e w6 ⟨s, rfl, R⟩
        have R := hid R
        clear PB
        go_wp2_with fail
        go_ret2
        exact R.out
      | true =>
        by_cases tn : Wh.ubody 111 P u = []
        · have hx : (Wh.ubody 111 P u).getD 0 0 ≠ 48 := by rw [tn]; decide
          rw [show Wh.base 111 = 8 from rfl, show decide ((111 : Int) = 88) = false from rfl] at IB FI
          have PB := PA [] (48 :: Wh.ubody 111 P u) (by rw [Wh.uhead, if_neg (by omega), if_neg (by omega)]) (by
            have k : decide ((Wh.ubody 111 P u).getD 0 0 ≠ 48) = true := decide_eq_true hx
            rw [Wh.utext, Wh.umark, if_pos]; rw [h8, k]; rfl)
          rw [show strOfNums [] = ⟨#[]⟩ from rfl] at PB
          have e2 : (strOfNums (Wh.ubody 111 P u)).toList = [] := by rw [ByteArray.toList_eq, strOfNums_data, tn]; rfl
          have e3 : (strOfNums (Wh.ubody 111 P u)).toList.isEmpty = true := by rw [e2]; rfl
          clear PA EO h88 f0 f1 hx tn
          generalize (Wh.ubody 111 P u).length = tln at *
          generalize strOfNums (Wh.ubody 111 P u) = BO at *
          generalize strOfNums (xdg 8 false u) = DS at *
          generalize decide (P = -1) = ez at *
          obtain ⟨c0, c1, c2, c3⟩ := B0.out.flat
          go_enter Tryd.func23, Tryd.ntmps23
          go_wp2_with fail
          with_reducible refine (BA.out _).mono ?_
          rintro e w1 ⟨rfl, b1⟩
          have B1 := hid (B0.out.on b1)
          clear b1 BA B0 c0 c1 c2 c3
          obtain ⟨c0, c1, c2, c3⟩ := B1.out.flat
          obtain ⟨d0, d1, d2, d3⟩ := (B1.out.on (alloc_b w1 (.cells #[.int .u64 u] 27))).flat
          go_wp2_with fail
          with_reducible refine (IB.out _).mono ?_
          rintro e w2 ⟨rfl, b2⟩
          have B2 := hid (B1.out.on b2)
          clear b2 IB B1 c0 c1 c2 c3 d0 d1 d2 d3
          obtain ⟨c0, c1, c2, c3⟩ := B2.out.flat
          go_wp2_with fail
          with_reducible refine (FI.out _).mono ?_
          rintro e w3 ⟨rfl, b3⟩
          have B3 := hid (B2.out.on b3)
          clear b3 FI B2 c0 c1 c2 c3
          obtain ⟨c0, c1, c2, c3⟩ := B3.out.flat
          go_wp2_with fail
          with_reducible refine (H8.out _).mono ?_
          rintro e w4 ⟨rfl, e4⟩
          rw [e4, h8]
          clear e4 w4 H8
          go_wp2_with fail
          with_reducible refine (PB.out _ B3.out.bel).mono ?_
          rintro e w6 ⟨s, rfl, R⟩
          have R := hid R
          clear PB
          go_wp2_with fail
          go_ret2
          exact R.out
        · by_cases hx : (Wh.ubody 111 P u).getD 0 0 = 48
          · rw [show Wh.base 111 = 8 from rfl, show decide ((111 : Int) = 88) = false from rfl] at IB FI
            have PB := PA [] (Wh.ubody 111 P u) (by rw [Wh.uhead, if_neg (by omega), if_neg (by omega)]) (by rw [Wh.utext, Wh.umark, if_neg]; rw [hx]; simp)
            rw [show strOfNums [] = ⟨#[]⟩ from rfl] at PB
            obtain ⟨n1, n2, n3⟩ := EO.out tn
            have tp : 0 < (Wh.ubody 111 P u).length := List.length_pos_iff.2 tn
            have tpi : (0 : Int) < ((Wh.ubody 111 P u).length : Int) := by omega
            rw [hx] at IX
            clear PA EO h88 f0 f1 hx tn
            generalize (Wh.ubody 111 P u).length = tln at *
            generalize strOfNums (Wh.ubody 111 P u) = BO at *
            generalize strOfNums (xdg 8 false u) = DS at *
            generalize decide (P = -1) = ez at *
            obtain ⟨c0, c1, c2, c3⟩ := B0.out.flat
            go_enter Tryd.func23, Tryd.ntmps23
            go_wp2_with fail
            with_reducible refine (BA.out _).mono ?_
            rintro e w1 ⟨rfl, b1⟩
            have B1 := hid (B0.out.on b1)
            clear b1 BA B0 c0 c1 c2 c3
            obtain ⟨c0, c1, c2, c3⟩ := B1.out.flat
            obtain ⟨d0, d1, d2, d3⟩ := (B1.out.on (alloc_b w1 (.cells #[.int .u64 u] 27))).flat
            go_wp2_with fail
            with_reducible refine (IB.out _).mono ?_
            rintro e w2 ⟨rfl, b2⟩
            have B2 := hid (B1.out.on b2)
            clear b2 IB B1 c0 c1 c2 c3 d0 d1 d2 d3
            obtain ⟨c0, c1, c2, c3⟩ := B2.out.flat
            go_wp2_with fail
            with_reducible refine (FI.out _).mono ?_
            rintro e w3 ⟨rfl, b3⟩
            have B3 := hid (B2.out.on b3)
            clear b3 FI B2 c0 c1 c2 c3
            obtain ⟨c0, c1, c2, c3⟩ := B3.out.flat
            go_wp2_with fail
            with_reducible refine (H8.out _).mono ?_
            rintro e w4 ⟨rfl, e4⟩
            rw [e4, h8]
            clear e4 w4 H8
            go_wp2_with fail
            with_reducible refine (PB.out _ B3.out.bel).mono ?_
            rintro e w6 ⟨s, rfl, R⟩
            have R := hid R
            clear PB
            go_wp2_with fail
            go_ret2
            exact R.out
          · rw [show Wh.base 111 = 8 from rfl, show decide ((111 : Int) = 88) = false from rfl] at IB FI
            have PB := PA [] (48 :: Wh.ubody 111 P u) (by rw [Wh.uhead, if_neg (by omega), if_neg (by omega)]) (by
              have k : decide ((Wh.ubody 111 P u).getD 0 0 ≠ 48) = true := decide_eq_true hx
              rw [Wh.utext, Wh.umark, if_pos]; rw [h8, k]; rfl)
            rw [show strOfNums [] = ⟨#[]⟩ from rfl] at PB
            obtain ⟨n1, n2, n3⟩ := EO.out tn
            have tp : 0 < (Wh.ubody 111 P u).length := List.length_pos_iff.2 tn
            have tpi : (0 : Int) < ((Wh.ubody 111 P u).length : Int) := by omega
            generalize (Wh.ubody 111 P u).getD 0 0 = x0 at *
            have x1 : (x0 == 48) = false := by simpa using hx
            have x2 : (x0 != 48) = true := by simpa using hx
            clear PA EO h88 f0 f1 hx tn
            generalize (Wh.ubody 111 P u).length = tln at *
            generalize strOfNums (Wh.ubody 111 P u) = BO at *
            generalize strOfNums (xdg 8 false u) = DS at *
            generalize decide (P = -1) = ez at *
            obtain ⟨c0, c1, c2, c3⟩ := B0.out.flat
            go_enter Tryd.func23, Tryd.ntmps23
            go_wp2_with fail
            with_reducible refine (BA.out _).mono ?_
            rintro e w1 ⟨rfl, b1⟩
            have B1 := hid (B0.out.on b1)
            clear b1 BA B0 c0 c1 c2 c3
            obtain ⟨c0, c1, c2, c3⟩ := B1.out.flat
            obtain ⟨d0, d1, d2, d3⟩ := (B1.out.on (alloc_b w1 (.cells #[.int .u64 u] 27))).flat
            go_wp2_with fail
            with_reducible refine (IB.out _).mono ?_
            rintro e w2 ⟨rfl, b2⟩
            have B2 := hid (B1.out.on b2)
            clear b2 IB B1 c0 c1 c2 c3 d0 d1 d2 d3
            obtain ⟨c0, c1, c2, c3⟩ := B2.out.flat
            go_wp2_with fail
            with_reducible refine (FI.out _).mono ?_
            rintro e w3 ⟨rfl, b3⟩
            have B3 := hid (B2.out.on b3)
            clear b3 FI B2 c0 c1 c2 c3
            obtain ⟨c0, c1, c2, c3⟩ := B3.out.flat
            go_wp2_with fail
            with_reducible refine (H8.out _).mono ?_
            rintro e w4 ⟨rfl, e4⟩
            rw [e4, h8]
            clear e4 w4 H8
            go_wp2_with fail
            with_reducible refine (PB.out _ B3.out.bel).mono ?_
            rintro e w6 ⟨s, rfl, R⟩
            have R := hid R
            clear PB
            go_wp2_with fail
            go_ret2
            exact R.out
    · cases h8 : Wh.bit F 8 with
      | false =>
        rw [show Wh.base 117 = 10 from rfl, show decide ((117 : Int) = 88) = false from rfl] at IB FI
        have PB := PA [] (Wh.ubody 117 P u) (by rw [Wh.uhead, if_neg (fun q => Bool.false_ne_true (h8.symm.trans q.1)), if_neg (fun q => Bool.false_ne_true (h8.symm.trans q.1))]) (by rw [Wh.utext, Wh.umark, h8, Bool.false_and, Bool.false_and, if_neg Bool.false_ne_true])
        rw [show strOfNums [] = ⟨#[]⟩ from rfl] at PB
        clear PA EO h88 f0 f1
        generalize (Wh.ubody 117 P u).length = tln at *
        generalize strOfNums (Wh.ubody 117 P u) = BO at *
        generalize strOfNums (xdg 10 false u) = DS at *
        generalize decide (P = -1) = ez at *
        obtain ⟨c0, c1, c2, c3⟩ := B0.out.flat
        go_enter Tryd.func23, Tryd.ntmps23
        go_wp2_with fail
        with_reducible refine (BA.out _).mono ?_
        rintro e w1 ⟨rfl, b1⟩
        have B1 := hid (B0.out.on b1)
        clear b1 BA B0 c0 c1 c2 c3
        obtain ⟨c0, c1, c2, c3⟩ := B1.out.flat
        obtain ⟨d0, d1, d2, d3⟩ := (B1.out.on (alloc_b w1 (.cells #[.int .u64 u] 27))).flat
        go_wp2_with fail
        with_reducible refine (IB.out _).mono ?_
        rintro e w2 ⟨rfl, b2⟩
        have B2 := hid (B1.out.on b2)
        clear b2 IB B1 c0 c1 c2 c3 d0 d1 d2 d3
        obtain ⟨c0, c1, c2, c3⟩ := B2.out.flat
        go_wp2_with fail
        with_reducible refine (FI.out _).mono ?_
        rintro e w3 ⟨rfl, b3⟩
        have B3 := hid (B2.out.on b3)
        clear b3 FI B2 c0 c1 c2 c3
        obtain ⟨c0, c1, c2, c3⟩ := B3.out.flat
        go_wp2_with fail
        with_reducible refine (H8.out _).mono ?_
        rintro e w4 ⟨rfl, e4⟩
        rw [e4, h8]
        clear e4 w4 H8
        go_wp2_with fail
        with_reducible refine (PB.out _ B3.out.bel).mono ?_
        rintro e w6 ⟨s, rfl, R⟩
        have R := hid R
        clear PB
        go_wp2_with fail
        go_ret2
        exact R.out
      | true =>
        rw [show Wh.base 117 = 10 from rfl, show decide ((117 : Int) = 88) = false from rfl] at IB FI
        have PB := PA [] (Wh.ubody 117 P u) (by rw [Wh.uhead, if_neg (by omega), if_neg (by omega)]) (by rw [Wh.utext, Wh.umark, if_neg (by intro q; simp at q)])
        rw [show strOfNums [] = ⟨#[]⟩ from rfl] at PB
        clear PA EO h88 f0 f1
        generalize (Wh.ubody 117 P u).length = tln at *
        generalize strOfNums (Wh.ubody 117 P u) = BO at *
        generalize strOfNums (xdg 10 false u) = DS at *
        generalize decide (P = -1) = ez at *
        obtain ⟨c0, c1, c2, c3⟩ := B0.out.flat
        go_enter Tryd.func23, Tryd.ntmps23
        go_wp2_with fail
        with_reducible refine (BA.out _).mono ?_
        rintro e w1 ⟨rfl, b1⟩
        have B1 := hid (B0.out.on b1)
        clear b1 BA B0 c0 c1 c2 c3
        obtain ⟨c0, c1, c2, c3⟩ := B1.out.flat
        obtain ⟨d0, d1, d2, d3⟩ := (B1.out.on (alloc_b w1 (.cells #[.int .u64 u] 27))).flat
        go_wp2_with fail
        with_reducible refine (IB.out _).mono ?_
        rintro e w2 ⟨rfl, b2⟩
        have B2 := hid (B1.out.on b2)
        clear b2 IB B1 c0 c1 c2 c3 d0 d1 d2 d3
        obtain ⟨c0, c1, c2, c3⟩ := B2.out.flat
        go_wp2_with fail
        with_reducible refine (FI.out _).mono ?_
        rintro e w3 ⟨rfl, b3⟩
        have B3 := hid (B2.out.on b3)
        clear b3 FI B2 c0 c1 c2 c3
        obtain ⟨c0, c1, c2, c3⟩ := B3.out.flat
        go_wp2_with fail
        with_reducible refine (H8.out _).mono ?_
        rintro e w4 ⟨rfl, e4⟩
        rw [e4, h8]
        clear e4 w4 H8
        go_wp2_with fail
        with_reducible refine (PB.out _ B3.out.bel).mono ?_
        rintro e w6 ⟨s, rfl, R⟩
        have R := hid R
        clear PB
        go_wp2_with fail
        go_ret2
        exact R.out
    · cases h8 : Wh.bit F 8 with
      | false =>
        rw [show Wh.base 120 = 16 from rfl, show decide ((120 : Int) = 88) = false from rfl] at IB FI
        have PB := PA [] (Wh.ubody 120 P u) (by rw [Wh.uhead, if_neg (fun q => Bool.false_ne_true (h8.symm.trans q.1)), if_neg (fun q => Bool.false_ne_true (h8.symm.trans q.1))]) (by rw [Wh.utext, Wh.umark, h8, Bool.false_and, Bool.false_and, if_neg Bool.false_ne_true])
        rw [show strOfNums [] = ⟨#[]⟩ from rfl] at PB
        clear PA EO h88 f0 f1
        generalize (Wh.ubody 120 P u).length = tln at *
        generalize strOfNums (Wh.ubody 120 P u) = BO at *
        generalize strOfNums (xdg 16 false u) = DS at *
        generalize decide (P = -1) = ez at *
        obtain ⟨c0, c1, c2, c3⟩ := B0.out.flat
        go_enter Tryd.func23, Tryd.ntmps23
        go_wp2_with fail
        with_reducible refine (BA.out _).mono ?_
        rintro e w1 ⟨rfl, b1⟩
        have B1 := hid (B0.out.on b1)
        clear b1 BA B0 c0 c1 c2 c3
        obtain ⟨c0, c1, c2, c3⟩ := B1.out.flat
        obtain ⟨d0, d1, d2, d3⟩ := (B1.out.on (alloc_b w1 (.cells #[.int .u64 u] 27))).flat
        go_wp2_with fail
        with_reducible refine (IB.out _).mono ?_
        rintro e w2 ⟨rfl, b2⟩
        have B2 := hid (B1.out.on b2)
        clear b2 IB B1 c0 c1 c2 c3 d0 d1 d2 d3
        obtain ⟨c0, c1, c2, c3⟩ := B2.out.flat
        go_wp2_with fail
        with_reducible refine (FI.out _).mono ?_
        rintro e w3 ⟨rfl, b3⟩
        have B3 := hid (B2.out.on b3)
        clear b3 FI B2 c0 c1 c2 c3
        obtain ⟨c0, c1, c2, c3⟩ := B3.out.flat
        go_wp2_with fail
        with_reducible refine (H8.out _).mono ?_
        rintro e w4 ⟨rfl, e4⟩
        rw [e4, h8]
        clear e4 w4 H8
        go_wp2_with fail
        with_reducible refine (PB.out _ B3.out.bel).mono ?_
        rintro e w6 ⟨s, rfl, R⟩
        have R := hid R
        clear PB
        go_wp2_with fail
        go_ret2
        exact R.out
      | true =>
        by_cases hu : u = 0
        · rw [show Wh.base 120 = 16 from rfl, show decide ((120 : Int) = 88) = false from rfl] at IB FI
          have PB := PA [] (Wh.ubody 120 P u) (by rw [Wh.uhead, if_neg (fun q => q.2.1 hu), if_neg (fun q => q.2.1 hu)]) (by rw [Wh.utext, Wh.umark, if_neg (by intro q; simp at q)])
          rw [show strOfNums [] = ⟨#[]⟩ from rfl] at PB
          have hu2 : (u != 0) = false := by simpa using hu
          clear hu
          clear PA EO h88 f0 f1
          generalize (Wh.ubody 120 P u).length = tln at *
          generalize strOfNums (Wh.ubody 120 P u) = BO at *
          generalize strOfNums (xdg 16 false u) = DS at *
          generalize decide (P = -1) = ez at *
          obtain ⟨c0, c1, c2, c3⟩ := B0.out.flat
          go_enter Tryd.func23, Tryd.ntmps23
          go_wp2_with fail
          with_reducible refine (BA.out _).mono ?_
          rintro e w1 ⟨rfl, b1⟩
          have B1 := hid (B0.out.on b1)
          clear b1 BA B0 c0 c1 c2 c3
          obtain ⟨c0, c1, c2, c3⟩ := B1.out.flat
          obtain ⟨d0, d1, d2, d3⟩ := (B1.out.on (alloc_b w1 (.cells #[.int .u64 u] 27))).flat
          go_wp2_with fail
          with_reducible refine (IB.out _).mono ?_
          rintro e w2 ⟨rfl, b2⟩
          have B2 := hid (B1.out.on b2)
          clear b2 IB B1 c0 c1 c2 c3 d0 d1 d2 d3
          obtain ⟨c0, c1, c2, c3⟩ := B2.out.flat
          go_wp2_with fail
          with_reducible refine (FI.out _).mono ?_
          rintro e w3 ⟨rfl, b3⟩
          have B3 := hid (B2.out.on b3)
          clear b3 FI B2 c0 c1 c2 c3
          obtain ⟨c0, c1, c2, c3⟩ := B3.out.flat
          go_wp2_with fail
          with_reducible refine (H8.out _).mono ?_
          rintro e w4 ⟨rfl, e4⟩
          rw [e4, h8]
          clear e4 w4 H8
          go_wp2_with fail
          with_reducible refine (PB.out _ B3.out.bel).mono ?_
          rintro e w6 ⟨s, rfl, R⟩
          have R := hid R
          clear PB
          go_wp2_with fail
          go_ret2
          exact R.out
        · rw [show Wh.base 120 = 16 from rfl, show decide ((120 : Int) = 88) = false from rfl] at IB FI
          have PB := PA [48, 120] (Wh.ubody 120 P u) (by rw [Wh.uhead, if_pos ⟨h8, hu, rfl⟩]) (by rw [Wh.utext, Wh.umark, if_neg (by intro q; simp at q)])
          have SJ : (⟨#[48]⟩ : ByteArray) ++ ⟨#[120]⟩ = ⟨#[48, 120]⟩ := rfl
          rw [show strOfNums [48, 120] = ⟨#[48, 120]⟩ from rfl] at PB
          rw [show strOfNums [120] = ⟨#[120]⟩ from rfl] at CV
          have hu2 : (u != 0) = true := by simpa using hu
          clear hu
          clear PA EO h88 f0 f1
          generalize (Wh.ubody 120 P u).length = tln at *
          generalize strOfNums (Wh.ubody 120 P u) = BO at *
          generalize strOfNums (xdg 16 false u) = DS at *
          generalize decide (P = -1) = ez at *
          obtain ⟨c0, c1, c2, c3⟩ := B0.out.flat
          go_enter Tryd.func23, Tryd.ntmps23
          go_wp2_with fail
          with_reducible refine (BA.out _).mono ?_
          rintro e w1 ⟨rfl, b1⟩
          have B1 := hid (B0.out.on b1)
          clear b1 BA B0 c0 c1 c2 c3
          obtain ⟨c0, c1, c2, c3⟩ := B1.out.flat
          obtain ⟨d0, d1, d2, d3⟩ := (B1.out.on (alloc_b w1 (.cells #[.int .u64 u] 27))).flat
          go_wp2_with fail
          with_reducible refine (IB.out _).mono ?_
          rintro e w2 ⟨rfl, b2⟩
          have B2 := hid (B1.out.on b2)
          clear b2 IB B1 c0 c1 c2 c3 d0 d1 d2 d3
          obtain ⟨c0, c1, c2, c3⟩ := B2.out.flat
          go_wp2_with fail
          with_reducible refine (FI.out _).mono ?_
          rintro e w3 ⟨rfl, b3⟩
          have B3 := hid (B2.out.on b3)
          clear b3 FI B2 c0 c1 c2 c3
          obtain ⟨c0, c1, c2, c3⟩ := B3.out.flat
          go_wp2_with fail
          with_reducible refine (H8.out _).mono ?_
          rintro e w4 ⟨rfl, e4⟩
          rw [e4, h8]
          clear e4 w4 H8
          have A3 := hid (alloc_b w3 (.cells #[.int .u8 120] 5))
          have B4 := hid (B3.out.on A3.out)
          obtain ⟨d0, d1, d2, d3⟩ := B4.out.flat
          have CW := CV w3
          go_wp2_with fail
          with_reducible refine (PB.out _ B4.out.bel).mono ?_
          rintro e w6 ⟨s, rfl, R⟩
          have R := hid R
          clear PB
          go_wp2_with fail
          go_ret2
          exact R.out
    · cases h8 : Wh.bit F 8 with
      | false =>
        rw [show Wh.base 88 = 16 from rfl, show decide ((88 : Int) = 88) = true from rfl] at IB FI
        have PB := PA [] (Wh.ubody 88 P u) (by rw [Wh.uhead, if_neg (fun q => Bool.false_ne_true (h8.symm.trans q.1)), if_neg (fun q => Bool.false_ne_true (h8.symm.trans q.1))]) (by rw [Wh.utext, Wh.umark, h8, Bool.false_and, Bool.false_and, if_neg Bool.false_ne_true])
        rw [show strOfNums [] = ⟨#[]⟩ from rfl] at PB
        clear PA EO h88 f0 f1
        generalize (Wh.ubody 88 P u).length = tln at *
        generalize strOfNums (Wh.ubody 88 P u) = BO at *
        generalize strOfNums (xdg 16 true u) = DS at *
        generalize decide (P = -1) = ez at *
        obtain ⟨c0, c1, c2, c3⟩ := B0.out.flat
        go_enter Tryd.func23, Tryd.ntmps23
        go_wp2_with fail
        with_reducible refine (BA.out _).mono ?_
        rintro e w1 ⟨rfl, b1⟩
        have B1 := hid (B0.out.on b1)
        clear b1 BA B0 c0 c1 c2 c3
        obtain ⟨c0, c1, c2, c3⟩ := B1.out.flat
        obtain ⟨d0, d1, d2, d3⟩ := (B1.out.on (alloc_b w1 (.cells #[.int .u64 u] 27))).flat
        go_wp2_with fail
        with_reducible refine (IB.out _).mono ?_
        rintro e w2 ⟨rfl, b2⟩
        have B2 := hid (B1.out.on b2)
        clear b2 IB B1 c0 c1 c2 c3 d0 d1 d2 d3
        obtain ⟨c0, c1, c2, c3⟩ := B2.out.flat
        go_wp2_with fail
        with_reducible refine (FI.out _).mono ?_
        rintro e w3 ⟨rfl, b3⟩
        have B3 := hid (B2.out.on b3)
        clear b3 FI B2 c0 c1 c2 c3
        obtain ⟨c0, c1, c2, c3⟩ := B3.out.flat
        go_wp2_with fail
        with_reducible refine (H8.out _).mono ?_
        rintro e w4 ⟨rfl, e4⟩
        rw [e4, h8]
        clear e4 w4 H8
        go_wp2_with fail
        with_reducible refine (PB.out _ B3.out.bel).mono ?_
        rintro e w6 ⟨s, rfl, R⟩
        have R := hid R
        clear PB
        go_wp2_with fail
        go_ret2
        exact R.out
      | true =>
        by_cases hu : u = 0
        · rw [show Wh.base 88 = 16 from rfl, show decide ((88 : Int) = 88) = true from rfl] at IB FI
          have PB := PA [] (Wh.ubody 88 P u) (by rw [Wh.uhead, if_neg (fun q => q.2.1 hu), if_neg (fun q => q.2.1 hu)]) (by rw [Wh.utext, Wh.umark, if_neg (by intro q; simp at q)])
          rw [show strOfNums [] = ⟨#[]⟩ from rfl] at PB
          have hu2 : (u != 0) = false := by simpa using hu
          clear hu
          clear PA EO h88 f0 f1
          generalize (Wh.ubody 88 P u).length = tln at *
          generalize strOfNums (Wh.ubody 88 P u) = BO at *
          generalize strOfNums (xdg 16 true u) = DS at *
          generalize decide (P = -1) = ez at *
          obtain ⟨c0, c1, c2, c3⟩ := B0.out.flat
          go_enter Tryd.func23, Tryd.ntmps23
          go_wp2_with fail
          with_reducible refine (BA.out _).mono ?_
          rintro e w1 ⟨rfl, b1⟩
          have B1 := hid (B0.out.on b1)
          clear b1 BA B0 c0 c1 c2 c3
          obtain ⟨c0, c1, c2, c3⟩ := B1.out.flat
          obtain ⟨d0, d1, d2, d3⟩ := (B1.out.on (alloc_b w1 (.cells #[.int .u64 u] 27))).flat
          go_wp2_with fail
          with_reducible refine (IB.out _).mono ?_
          rintro e w2 ⟨rfl, b2⟩
          have B2 := hid (B1.out.on b2)
          clear b2 IB B1 c0 c1 c2 c3 d0 d1 d2 d3
          obtain ⟨c0, c1, c2, c3⟩ := B2.out.flat
          go_wp2_with fail
          with_reducible refine (FI.out _).mono ?_
          rintro e w3 ⟨rfl, b3⟩
          have B3 := hid (B2.out.on b3)
          clear b3 FI B2 c0 c1 c2 c3
          obtain ⟨c0, c1, c2, c3⟩ := B3.out.flat
          go_wp2_with fail
          with_reducible refine (H8.out _).mono ?_
          rintro e w4 ⟨rfl, e4⟩
          rw [e4, h8]
          clear e4 w4 H8
          go_wp2_with fail
          with_reducible refine (PB.out _ B3.out.bel).mono ?_
          rintro e w6 ⟨s, rfl, R⟩
          have R := hid R
          clear PB
          go_wp2_with fail
          go_ret2
          exact R.out
        · rw [show Wh.base 88 = 16 from rfl, show decide ((88 : Int) = 88) = true from rfl] at IB FI
          have PB := PA [48, 88] (Wh.ubody 88 P u) (by rw [Wh.uhead, if_neg (by omega), if_pos ⟨h8, hu, rfl⟩]) (by rw [Wh.utext, Wh.umark, if_neg (by intro q; simp at q)])
          have SJ : (⟨#[48]⟩ : ByteArray) ++ ⟨#[88]⟩ = ⟨#[48, 88]⟩ := rfl
          rw [show strOfNums [48, 88] = ⟨#[48, 88]⟩ from rfl] at PB
          rw [show strOfNums [88] = ⟨#[88]⟩ from rfl] at CV
          have hu2 : (u != 0) = true := by simpa using hu
          clear hu
          clear PA EO h88 f0 f1
          generalize (Wh.ubody 88 P u).length = tln at *
          generalize strOfNums (Wh.ubody 88 P u) = BO at *
          generalize strOfNums (xdg 16 true u) = DS at *
          generalize decide (P = -1) = ez at *
          obtain ⟨c0, c1, c2, c3⟩ := B0.out.flat
          go_enter Tryd.func23, Tryd.ntmps23
          go_wp2_with fail
          with_reducible refine (BA.out _).mono ?_
          rintro e w1 ⟨rfl, b1⟩
          have B1 := hid (B0.out.on b1)
          clear b1 BA B0 c0 c1 c2 c3
          obtain ⟨c0, c1, c2, c3⟩ := B1.out.flat
          obtain ⟨d0, d1, d2, d3⟩ := (B1.out.on (alloc_b w1 (.cells #[.int .u64 u] 27))).flat
          go_wp2_with fail
          with_reducible refine (IB.out _).mono ?_
          rintro e w2 ⟨rfl, b2⟩
          have B2 := hid (B1.out.on b2)
          clear b2 IB B1 c0 c1 c2 c3 d0 d1 d2 d3
          obtain ⟨c0, c1, c2, c3⟩ := B2.out.flat
          go_wp2_with fail
          with_reducible refine (FI.out _).mono ?_
          rintro e w3 ⟨rfl, b3⟩
          have B3 := hid (B2.out.on b3)
          clear b3 FI B2 c0 c1 c2 c3
          obtain ⟨c0, c1, c2, c3⟩ := B3.out.flat
          go_wp2_with fail
          with_reducible refine (H8.out _).mono ?_
          rintro e w4 ⟨rfl, e4⟩
          rw [e4, h8]
          clear e4 w4 H8
          have A3 := hid (alloc_b w3 (.cells #[.int .u8 88] 5))
          have B4 := hid (B3.out.on A3.out)
          obtain ⟨d0, d1, d2, d3⟩ := B4.out.flat
          have CW := CV w3
          go_wp2_with fail
          with_reducible refine (PB.out _ B4.out.bel).mono ?_
          rintro e w6 ⟨s, rfl, R⟩
          have R := hid R
          clear PB
          go_wp2_with fail
          go_ret2
          exact R.out
  · have G : Hid (∀ w', Below w.heap.size w w' → UnsTold V F W P u w (.returned (.tuple #[.string ⟨#[]⟩, .int .i64 (Wh.unsE V F W P)])) w') := fun w' k => ⟨by rw [Wh.uns, if_neg hE]; rfl, k⟩
    have hne : (Wh.unsE V F W P == 0) = false := by simpa using hE
    clear hE u0 u1
    generalize Wh.unsE V F W P = E at *
    go_enter Tryd.func23, Tryd.ntmps23
    go_wp2_with fail
    with_reducible refine (BA.out _).mono ?_
    rintro e w1 ⟨rfl, b1⟩
    have R := hid (G.out _ (B0.out.on b1).bel)
    clear b1 BA
    go_wp2_with fail
    go_ret2
    exact R.out
end Go.Proofs.YtbldddagddmbgaaDoor

namespace Go.Proofs.YtbldddagddmbgaaDoor
open Go Go.RowKit Go.Deep Go.Shelf

set_option maxRecDepth 100000 in
/-- The number of limbs, as the statements count it. -/
theorem rlimbs_any (p : Option Addr) (n cap : Nat) (zs : List Int) (w : World) (hn : zs.length = n) (hm : n ≤ 140737488355328) (h : Lies w p zs) :
    Calls Tryd.prog 39 #[.slice p n cap] w fun e w' => e = .returned (.int .i64 (Nm.tsize zs)) ∧ w' = w := by
  rcases h with rfl | ⟨b, off, rfl, hcell⟩
  · have hn0 : n = 0 := by simpa using hn.symm
    subst hn0
    go_enter Tryd.func39, Tryd.ntmps39
    go_wp2
    refine wp_loop_rounds 1 ?_
    rw [rounds_succ]
    go_wp2
    go_ret
    exact ⟨rfl, rfl⟩
  · have H : Hid (zs.length = n) := hn
    have HC : Hid (∀ i, i < zs.length → w.cell? ⟨b, off + i, none⟩ = some (.int .u64 (zs.getD i 0))) := hcell
    clear hn hcell
    go_enter Tryd.func39, Tryd.ntmps39
    go_wp2
    go_loop [3] (fun t => ∃ k : Nat, k ≤ n ∧ t = .int .i64 k ∧ Hid (∀ j, k ≤ j → zs.getD j 0 = 0)) (fun t => (intOf t).toNat)
    case atStart => exact ⟨n, Nat.le_refl _, rfl, fun j hj => by simp [List.getD, List.getElem?_eq_none (show zs.length ≤ j by have := H.out; omega)]⟩
    case round =>
      obtain ⟨k, hk, rfl, hz⟩ := hrel
      by_cases h0 : k = 0
      · subst h0
        go_wp2
        go_ret
        exact ⟨by rw [Nm.tsize_unique zs 0 hz.out (.inl rfl)]; rfl, rfl⟩
      · obtain ⟨j, rfl⟩ : ∃ j, k = j + 1 := ⟨k - 1, by omega⟩
        obtain ⟨x, hx, X⟩ : ∃ x, w.cell? ⟨b, off + j, none⟩ = some (.int .u64 x) ∧ Hid (x = zs.getD j 0) := ⟨_, HC.out j (by have := H.out; omega), rfl⟩
        by_cases hx0 : x = 0
        · subst hx0
          go_wp2
          go_round
          case rel =>
            refine ⟨j, by omega, rfl, fun i hi => ?_⟩
            by_cases e : i = j
            · subst e; exact X.out.symm
            · exact hz.out i (by omega)
          case measure => simp [intOf]
        · go_wp2
          go_ret
          exact ⟨by rw [Nm.tsize_unique zs (j + 1) hz.out (.inr (by rw [Nat.add_sub_cancel, ← X.out]; exact hx0))]; rfl, rfl⟩

set_option maxRecDepth 100000 in
set_option maxHeartbeats 4000000 in
theorem rsigned_any (V F W P : Int) (neg : Bool) (p : Option Addr) (n cap : Nat) (zs : List Int) (w : World) (ha : Arg w p n cap zs) :
    Calls Tryd.prog 21 #[.agg #[.int .u8 V, .int .i64 F, .int .i64 W, .int .i64 P], .bool neg, .slice p n cap] w fun e w' => SigTold V F W P neg zs w e w' := by
  have B0 := hid (SB.new w V F W P)
  have BA : Hid (∀ W', Calls Tryd.prog 38 #[.agg #[.int .u8 V, .int .i64 F, .int .i64 W, .int .i64 P], .string ⟨#[100, 105]⟩] W' fun e w' => e = .returned (.int .i64 (if V = 100 ∨ V = 105 then Wh.chk F W P else 140)) ∧ Below W'.heap.size W' w') := by
    intro W'
    have q := bad_any V F W P [100, 105] W' (by intro x hx; simp at hx; omega) (by simp)
    have e : (if V ∈ [100, 105] then Wh.chk F W P else 140) = (if V = 100 ∨ V = 105 then Wh.chk F W P else 140) := by
      by_cases h : V = 100 ∨ V = 105
      · rw [if_pos h, if_pos (by simpa using h)]
      · rw [if_neg h, if_neg (by simpa using h)]
    rw [e] at q
    exact q
  by_cases hE : (if V = 100 ∨ V = 105 then Wh.chk F W P else 140) = 0
  · have hV : V = 100 ∨ V = 105 := by
      by_cases h : V = 100 ∨ V = 105
      · exact h
      · rw [if_neg h] at hE; omega
    have hc : Wh.chk F W P = 0 := by rw [if_pos hV] at hE; exact hE
    obtain ⟨⟨f0, f1⟩, ⟨wl, wu⟩, ⟨p0, p1⟩⟩ := Wh.chk_ok hc
    rw [hE] at BA
    have LI := hid (fun W' (k : Below w.heap.size w W') => rlimbs_any p n cap zs W' ha.1 (by have := ha.2.1; have := ha.2.2.1; omega) (ha.below k (Nat.le_refl _)).2.2.2.1)
    have sE : Wh.sigE V F W P (Nm.tsize zs) = if 4096 < Nm.tsize zs then 2 else 0 := by rw [Wh.sigE, if_pos hV, if_pos hc]
    by_cases hb : 4096 < Nm.tsize zs
    · rw [if_pos hb] at sE
      have G : Hid (∀ w', Below w.heap.size w w' → SigTold V F W P neg zs w (.returned (.tuple #[.string ⟨#[]⟩, .int .i64 2])) w') := fun w' k => ⟨by rw [Wh.sig, sE, if_neg (by decide)]; rfl, k⟩
      have hbi : (4096 : Int) < (Nm.tsize zs : Int) := by omega
      clear ha hV hc hE sE hb f0 f1 wl wu p0 p1
      generalize Nm.tsize zs = tN at *
      go_enter Tryd.func21, Tryd.ntmps21
      go_wp2_with fail
      with_reducible refine (BA.out _).mono ?_
      rintro e w1 ⟨rfl, b1⟩
      have B1 := hid (B0.out.on b1)
      clear b1 BA B0
      go_wp2_with fail
      with_reducible refine (LI.out _ B1.out.bel).mono ?_
      rintro e w2 ⟨rfl, e2⟩
      rw [e2]
      clear e2 w2
      go_wp2_with fail
      go_ret2
      exact G.out _ B1.out.bel
    · rw [if_neg hb] at sE
      have hbi : ¬ (4096 : Int) < (Nm.tsize zs : Int) := by omega
      have tz := Nm.tsize_zero_iff ha.2.2.2.2
      obtain ⟨di, dl⟩ := dig_nil 10 false zs ha.2.2.2.2 (by omega) (by omega) (by omega)
      have dy := Wh.dig_by 10 false (Nm.val zs)
      have DG : Hid (∀ W' (k : Below w.heap.size w W'), Calls Tryd.prog 40 #[.slice p n cap] W' fun e w' => e = .returned (.tuple #[.string (strOfNums (xdg 10 false (Nm.val zs))), .int .i64 0]) ∧ Below W'.heap.size W' w') := by
        intro W' k
        refine (sdigits_any p n cap zs W' (ha.below k (Nat.le_refl _))).mono ?_
        rintro e w' ⟨s, xs, E, rfl, h1, h2, h3⟩
        obtain ⟨e1, e2⟩ := xdg_is ha.2.2.2.2 (by omega) (by omega) (by omega) h2
        rw [e1] at h1
        exact ⟨by rw [str_is h1, e2], h3⟩
      have FI := hid (fun W' => rfilled_any 10 false zs P W' ha.2.2.2.2 (by omega) (by omega) (by omega) p0 p1)
      have sl := Wh.sgn_len F (neg && decide (Nm.val zs ≠ 0))
      have fl := Wh.fil_len P (Wh.dig 10 false (Nm.val zs))
      have fl2 : (Wh.fil P (Wh.dig 10 false (Nm.val zs))).length ≤ 270000 := by rw [fl]; split <;> omega
      have pe : Wh.padE F W P (Wh.sgn F (neg && decide (Nm.val zs ≠ 0))) (Wh.fil P (Wh.dig 10 false (Nm.val zs))) = 0 := by rw [Wh.padE, if_pos hc, if_neg (by omega)]
      have PA : ∀ SN, Wh.sgn F (neg && decide (Nm.val zs ≠ 0)) = SN → Hid (∀ W', Calls Tryd.prog 42 #[.agg #[.int .u8 V, .int .i64 F, .int .i64 W, .int .i64 P], .string (strOfNums SN), .string (strOfNums (Wh.fil P (Wh.dig 10 false (Nm.val zs)))), .bool (decide (P = -1))] W' fun e w' => PadTold F W P (decide (P = -1)) SN (Wh.fil P (Wh.dig 10 false (Nm.val zs))) W' e w') := by
        rintro SN rfl W'
        exact rpad_any V F W P _ _ _ W' (Wh.sgn_by _ _) (Wh.fil_by dy) (by omega) (by omega)
      have G : ∀ SN, Wh.sgn F (neg && decide (Nm.val zs ≠ 0)) = SN → Hid (∀ W' e w', PadTold F W P (decide (P = -1)) SN (Wh.fil P (Wh.dig 10 false (Nm.val zs))) W' e w' → Below w.heap.size w W' → ∃ s, e = .returned (.tuple #[.string s, .int .i64 0]) ∧ SigTold V F W P neg zs w (.returned (.tuple #[.string s, .int .i64 0])) w') := by
        rintro SN rfl W' e w' ⟨rfl, k⟩ b
        rw [pe]
        exact ⟨_, rfl, by rw [Wh.sig, sE, if_pos rfl, Wh.pad, if_pos pe]; rfl, below_on b k⟩
      have H2 := hid (fun W' => rhas_any F 2 W' f0 f1 (by omega))
      have H4 := hid (fun W' => rhas_any F 4 W' f0 f1 (by omega))
      have ep : (P == -1) = decide (P = -1) := by by_cases h : P = -1 <;> simp [h]
      have sne : ∀ bl, Wh.sgn F bl = (if bl = true then [45] else if Wh.bit F 2 = true then [43] else if Wh.bit F 4 = true then [32] else []) := fun _ => rfl
      clear ha hV hc hE sE hb f0 f1 wl wu p0 p1 di dl dy sl fl fl2 pe
      generalize Wh.fil P (Wh.dig 10 false (Nm.val zs)) = FD at *
      generalize strOfNums (xdg 10 false (Nm.val zs)) = DS at *
      generalize Nm.tsize zs = tN at *
      generalize Nm.val zs = v at *
      obtain ⟨c0, c1, c2, c3⟩ := B0.out.flat
      cases neg with
      | true =>
        by_cases hv : v = 0
        · have t0 : tN = 0 := tz.2 hv
          have eb : (true && decide (v ≠ 0)) = false := by rw [decide_eq_false (fun q => q hv)]; rfl
          subst t0
          clear tz
          cases h2 : Wh.bit F 2 with
          | true =>
            have es : Wh.sgn F (true && decide (v ≠ 0)) = [43] := by rw [eb, sne, if_neg Bool.false_ne_true, if_pos h2]
            have PB := PA [43] es
            have GB := G [43] es
            rw [show strOfNums [43] = ⟨#[43]⟩ from rfl] at PB
            clear PA G sne es
            generalize decide (P = -1) = ez at *
            go_enter Tryd.func21, Tryd.ntmps21
            go_wp2_with fail
            with_reducible refine (BA.out _).mono ?_
            rintro e w1 ⟨rfl, b1⟩
            have B1 := hid (B0.out.on b1)
            clear b1 BA B0 c0 c1 c2 c3
            go_wp2_with fail
            with_reducible refine (LI.out _ B1.out.bel).mono ?_
            rintro e w2 ⟨rfl, e2⟩
            rw [e2]
            clear e2 w2
            go_wp2_with fail
            with_reducible refine (DG.out _ B1.out.bel).mono ?_
            rintro e w3 ⟨rfl, b3⟩
            have B3 := hid (B1.out.on b3)
            clear b3 B1 DG
            obtain ⟨c0, c1, c2, c3⟩ := B3.out.flat
            go_wp2_with fail
            with_reducible refine (LI.out _ B3.out.bel).mono ?_
            rintro e w4 ⟨rfl, e4⟩
            rw [e4]
            clear e4 w4
            go_wp2_with fail
            with_reducible refine (H2.out _).mono ?_
            rintro e w5 ⟨rfl, e5⟩
            rw [e5, h2]
            clear e5 w5
            go_wp2_with fail
            go_upto_region 14 with fail
            have T1 := hid B3.out.drew
            go_region_held3 (fun wx => wx.cell? ⟨w.heap.size, 0, none⟩ = some (.int .u8 V) ∧ wx.cell? ⟨w.heap.size, 1, none⟩ = some (.int .i64 F) ∧ wx.cell? ⟨w.heap.size, 2, none⟩ = some (.int .i64 W) ∧ wx.cell? ⟨w.heap.size, 3, none⟩ = some (.int .i64 P)) (first | (with_reducible exact T3.out.flat) | (with_reducible exact T2.out.flat) | (with_reducible exact T1.out.flat)) (first
              | (go_at_call 43; with_reducible refine (FI.out _).mono ?_; rintro e wa ⟨rfl, hB⟩; have T2 := hid (T1.out.on hB); clear hB)
              | (go_at_call 42; with_reducible refine (PB.out _).mono ?_; rintro e wb hP; have T3 := hid (T2.out.on hP.bel); obtain ⟨s, rfl, R⟩ := GB.out _ _ _ hP T2.out.bel; have R := hid R; clear hP))
            go_wp2_with fail
            go_ret2
            exact R.out
          | false =>
            cases h4 : Wh.bit F 4 with
            | true =>
              have es : Wh.sgn F (true && decide (v ≠ 0)) = [32] := by rw [eb, sne, if_neg Bool.false_ne_true, h2, if_neg Bool.false_ne_true, if_pos h4]
              have PB := PA [32] es
              have GB := G [32] es
              rw [show strOfNums [32] = ⟨#[32]⟩ from rfl] at PB
              clear PA G sne es
              generalize decide (P = -1) = ez at *
              go_enter Tryd.func21, Tryd.ntmps21
              go_wp2_with fail
              with_reducible refine (BA.out _).mono ?_
              rintro e w1 ⟨rfl, b1⟩
              have B1 := hid (B0.out.on b1)
              clear b1 BA B0 c0 c1 c2 c3
              go_wp2_with fail
              with_reducible refine (LI.out _ B1.out.bel).mono ?_
              rintro e w2 ⟨rfl, e2⟩
              rw [e2]
              clear e2 w2
              go_wp2_with fail
              with_reducible refine (DG.out _ B1.out.bel).mono ?_
              rintro e w3 ⟨rfl, b3⟩
              have B3 := hid (B1.out.on b3)
              clear b3 B1 DG
              obtain ⟨c0, c1, c2, c3⟩ := B3.out.flat
              go_wp2_with fail
              with_reducible refine (LI.out _ B3.out.bel).mono ?_
              rintro e w4 ⟨rfl, e4⟩
              rw [e4]
              clear e4 w4
              go_wp2_with fail
              with_reducible refine (H2.out _).mono ?_
              rintro e w5 ⟨rfl, e5⟩
              rw [e5, h2]
              clear e5 w5
              go_wp2_with fail
              with_reducible refine (H4.out _).mono ?_
              rintro e w6 ⟨rfl, e6⟩
              rw [e6, h4]
              clear e6 w6
              go_upto_region 14 with fail
              have T1 := hid B3.out.drew
              go_region_held3 (fun wx => wx.cell? ⟨w.heap.size, 0, none⟩ = some (.int .u8 V) ∧ wx.cell? ⟨w.heap.size, 1, none⟩ = some (.int .i64 F) ∧ wx.cell? ⟨w.heap.size, 2, none⟩ = some (.int .i64 W) ∧ wx.cell? ⟨w.heap.size, 3, none⟩ = some (.int .i64 P)) (first | (with_reducible exact T3.out.flat) | (with_reducible exact T2.out.flat) | (with_reducible exact T1.out.flat)) (first
                | (go_at_call 43; with_reducible refine (FI.out _).mono ?_; rintro e wa ⟨rfl, hB⟩; have T2 := hid (T1.out.on hB); clear hB)
                | (go_at_call 42; with_reducible refine (PB.out _).mono ?_; rintro e wb hP; have T3 := hid (T2.out.on hP.bel); obtain ⟨s, rfl, R⟩ := GB.out _ _ _ hP T2.out.bel; have R := hid R; clear hP))
              go_wp2_with fail
              go_ret2
              exact R.out
            | false =>
              have es : Wh.sgn F (true && decide (v ≠ 0)) = [] := by rw [eb, sne, if_neg Bool.false_ne_true, h2, if_neg Bool.false_ne_true, h4, if_neg Bool.false_ne_true]
              have PB := PA [] es
              have GB := G [] es
              rw [show strOfNums [] = ⟨#[]⟩ from rfl] at PB
              clear PA G sne es
              generalize decide (P = -1) = ez at *
              go_enter Tryd.func21, Tryd.ntmps21
              go_wp2_with fail
              with_reducible refine (BA.out _).mono ?_
              rintro e w1 ⟨rfl, b1⟩
              have B1 := hid (B0.out.on b1)
              clear b1 BA B0 c0 c1 c2 c3
              go_wp2_with fail
              with_reducible refine (LI.out _ B1.out.bel).mono ?_
              rintro e w2 ⟨rfl, e2⟩
              rw [e2]
              clear e2 w2
              go_wp2_with fail
              with_reducible refine (DG.out _ B1.out.bel).mono ?_
              rintro e w3 ⟨rfl, b3⟩
              have B3 := hid (B1.out.on b3)
              clear b3 B1 DG
              obtain ⟨c0, c1, c2, c3⟩ := B3.out.flat
              go_wp2_with fail
              with_reducible refine (LI.out _ B3.out.bel).mono ?_
              rintro e w4 ⟨rfl, e4⟩
              rw [e4]
              clear e4 w4
              go_wp2_with fail
              with_reducible refine (H2.out _).mono ?_
              rintro e w5 ⟨rfl, e5⟩
              rw [e5, h2]
              clear e5 w5
              go_wp2_with fail
              with_reducible refine (H4.out _).mono ?_
              rintro e w6 ⟨rfl, e6⟩
              rw [e6, h4]
              clear e6 w6
              go_upto_region 14 with fail
              have T1 := hid B3.out.drew
              go_region_held3 (fun wx => wx.cell? ⟨w.heap.size, 0, none⟩ = some (.int .u8 V) ∧ wx.cell? ⟨w.heap.size, 1, none⟩ = some (.int .i64 F) ∧ wx.cell? ⟨w.heap.size, 2, none⟩ = some (.int .i64 W) ∧ wx.cell? ⟨w.heap.size, 3, none⟩ = some (.int .i64 P)) (first | (with_reducible exact T3.out.flat) | (with_reducible exact T2.out.flat) | (with_reducible exact T1.out.flat)) (first
                | (go_at_call 43; with_reducible refine (FI.out _).mono ?_; rintro e wa ⟨rfl, hB⟩; have T2 := hid (T1.out.on hB); clear hB)
                | (go_at_call 42; with_reducible refine (PB.out _).mono ?_; rintro e wb hP; have T3 := hid (T2.out.on hP.bel); obtain ⟨s, rfl, R⟩ := GB.out _ _ _ hP T2.out.bel; have R := hid R; clear hP))
              go_wp2_with fail
              go_ret2
              exact R.out
        · have t0 : (0 : Int) < (tN : Int) := by have := tz.1; omega
          have es : Wh.sgn F (true && decide (v ≠ 0)) = [45] := by rw [decide_eq_true hv]; rfl
          clear tz
          have PB := PA [45] es
          have GB := G [45] es
          rw [show strOfNums [45] = ⟨#[45]⟩ from rfl] at PB
          clear PA G sne es
          generalize decide (P = -1) = ez at *
          go_enter Tryd.func21, Tryd.ntmps21
          go_wp2_with fail
          with_reducible refine (BA.out _).mono ?_
          rintro e w1 ⟨rfl, b1⟩
          have B1 := hid (B0.out.on b1)
          clear b1 BA B0 c0 c1 c2 c3
          go_wp2_with fail
          with_reducible refine (LI.out _ B1.out.bel).mono ?_
          rintro e w2 ⟨rfl, e2⟩
          rw [e2]
          clear e2 w2
          go_wp2_with fail
          with_reducible refine (DG.out _ B1.out.bel).mono ?_
          rintro e w3 ⟨rfl, b3⟩
          have B3 := hid (B1.out.on b3)
          clear b3 B1 DG
          obtain ⟨c0, c1, c2, c3⟩ := B3.out.flat
          go_wp2_with fail
          with_reducible refine (LI.out _ B3.out.bel).mono ?_
          rintro e w4 ⟨rfl, e4⟩
          rw [e4]
          clear e4 w4
          go_wp2_with fail
          go_upto_region 14 with fail
          have T1 := hid B3.out.drew
          go_region_held3 (fun wx => wx.cell? ⟨w.heap.size, 0, none⟩ = some (.int .u8 V) ∧ wx.cell? ⟨w.heap.size, 1, none⟩ = some (.int .i64 F) ∧ wx.cell? ⟨w.heap.size, 2, none⟩ = some (.int .i64 W) ∧ wx.cell? ⟨w.heap.size, 3, none⟩ = some (.int .i64 P)) (first | (with_reducible exact T3.out.flat) | (with_reducible exact T2.out.flat) | (with_reducible exact T1.out.flat)) (first
            | (go_at_call 43; with_reducible refine (FI.out _).mono ?_; rintro e wa ⟨rfl, hB⟩; have T2 := hid (T1.out.on hB); clear hB)
            | (go_at_call 42; with_reducible refine (PB.out _).mono ?_; rintro e wb hP; have T3 := hid (T2.out.on hP.bel); obtain ⟨s, rfl, R⟩ := GB.out _ _ _ hP T2.out.bel; have R := hid R; clear hP))
          go_wp2_with fail
          go_ret2
          exact R.out
      | false =>
        clear tz
        cases h2 : Wh.bit F 2 with
        | true =>
          have es : Wh.sgn F (false && decide (v ≠ 0)) = [43] := by rw [Bool.false_and, sne, if_neg Bool.false_ne_true, if_pos h2]
          have PB := PA [43] es
          have GB := G [43] es
          rw [show strOfNums [43] = ⟨#[43]⟩ from rfl] at PB
          clear PA G sne es
          generalize decide (P = -1) = ez at *
          go_enter Tryd.func21, Tryd.ntmps21
          go_wp2_with fail
          with_reducible refine (BA.out _).mono ?_
          rintro e w1 ⟨rfl, b1⟩
          have B1 := hid (B0.out.on b1)
          clear b1 BA B0 c0 c1 c2 c3
          go_wp2_with fail
          with_reducible refine (LI.out _ B1.out.bel).mono ?_
          rintro e w2 ⟨rfl, e2⟩
          rw [e2]
          clear e2 w2
          go_wp2_with fail
          with_reducible refine (DG.out _ B1.out.bel).mono ?_
          rintro e w3 ⟨rfl, b3⟩
          have B3 := hid (B1.out.on b3)
          clear b3 B1 DG
          obtain ⟨c0, c1, c2, c3⟩ := B3.out.flat
          go_wp2_with fail
          with_reducible refine (H2.out _).mono ?_
          rintro e w5 ⟨rfl, e5⟩
          rw [e5, h2]
          clear e5 w5
          go_wp2_with fail
          go_upto_region 14 with fail
          have T1 := hid B3.out.drew
          go_region_held3 (fun wx => wx.cell? ⟨w.heap.size, 0, none⟩ = some (.int .u8 V) ∧ wx.cell? ⟨w.heap.size, 1, none⟩ = some (.int .i64 F) ∧ wx.cell? ⟨w.heap.size, 2, none⟩ = some (.int .i64 W) ∧ wx.cell? ⟨w.heap.size, 3, none⟩ = some (.int .i64 P)) (first | (with_reducible exact T3.out.flat) | (with_reducible exact T2.out.flat) | (with_reducible exact T1.out.flat)) (first
            | (go_at_call 43; with_reducible refine (FI.out _).mono ?_; rintro e wa ⟨rfl, hB⟩; have T2 := hid (T1.out.on hB); clear hB)
            | (go_at_call 42; with_reducible refine (PB.out _).mono ?_; rintro e wb hP; have T3 := hid (T2.out.on hP.bel); obtain ⟨s, rfl, R⟩ := GB.out _ _ _ hP T2.out.bel; have R := hid R; clear hP))
          go_wp2_with fail
          go_ret2
          exact R.out
        | false =>
          cases h4 : Wh.bit F 4 with
          | true =>
            have es : Wh.sgn F (false && decide (v ≠ 0)) = [32] := by rw [Bool.false_and, sne, if_neg Bool.false_ne_true, h2, if_neg Bool.false_ne_true, if_pos h4]
            have PB := PA [32] es
            have GB := G [32] es
            rw [show strOfNums [32] = ⟨#[32]⟩ from rfl] at PB
            clear PA G sne es
            generalize decide (P = -1) = ez at *
            go_enter Tryd.func21, Tryd.ntmps21
            go_wp2_with fail
            with_reducible refine (BA.out _).mono ?_
            rintro e w1 ⟨rfl, b1⟩
            have B1 := hid (B0.out.on b1)
            clear b1 BA B0 c0 c1 c2 c3
            go_wp2_with fail
            with_reducible refine (LI.out _ B1.out.bel).mono ?_
            rintro e w2 ⟨rfl, e2⟩
            rw [e2]
            clear e2 w2
            go_wp2_with fail
            with_reducible refine (DG.out _ B1.out.bel).mono ?_
            rintro e w3 ⟨rfl, b3⟩
            have B3 := hid (B1.out.on b3)
            clear b3 B1 DG
            obtain ⟨c0, c1, c2, c3⟩ := B3.out.flat
            go_wp2_with fail
            with_reducible refine (H2.out _).mono ?_
            rintro e w5 ⟨rfl, e5⟩
            rw [e5, h2]
            clear e5 w5
            go_wp2_with fail
            with_reducible refine (H4.out _).mono ?_
            rintro e w6 ⟨rfl, e6⟩
            rw [e6, h4]
            clear e6 w6
            go_upto_region 14 with fail
            have T1 := hid B3.out.drew
            go_region_held3 (fun wx => wx.cell? ⟨w.heap.size, 0, none⟩ = some (.int .u8 V) ∧ wx.cell? ⟨w.heap.size, 1, none⟩ = some (.int .i64 F) ∧ wx.cell? ⟨w.heap.size, 2, none⟩ = some (.int .i64 W) ∧ wx.cell? ⟨w.heap.size, 3, none⟩ = some (.int .i64 P)) (first | (with_reducible exact T3.out.flat) | (with_reducible exact T2.out.flat) | (with_reducible exact T1.out.flat)) (first
              | (go_at_call 43; with_reducible refine (FI.out _).mono ?_; rintro e wa ⟨rfl, hB⟩; have T2 := hid (T1.out.on hB); clear hB)
              | (go_at_call 42; with_reducible refine (PB.out _).mono ?_; rintro e wb hP; have T3 := hid (T2.out.on hP.bel); obtain ⟨s, rfl, R⟩ := GB.out _ _ _ hP T2.out.bel; have R := hid R; clear hP))
            go_wp2_with fail
            go_ret2
            exact R.out
          | false =>
            have es : Wh.sgn F (false && decide (v ≠ 0)) = [] := by rw [Bool.false_and, sne, if_neg Bool.false_ne_true, h2, if_neg Bool.false_ne_true, h4, if_neg Bool.false_ne_true]
            have PB := PA [] es
            have GB := G [] es
            rw [show strOfNums [] = ⟨#[]⟩ from rfl] at PB
            clear PA G sne es
            generalize decide (P = -1) = ez at *
            go_enter Tryd.func21, Tryd.ntmps21
            go_wp2_with fail
            with_reducible refine (BA.out _).mono ?_
            rintro e w1 ⟨rfl, b1⟩
            have B1 := hid (B0.out.on b1)
            clear b1 BA B0 c0 c1 c2 c3
            go_wp2_with fail
            with_reducible refine (LI.out _ B1.out.bel).mono ?_
            rintro e w2 ⟨rfl, e2⟩
            rw [e2]
            clear e2 w2
            go_wp2_with fail
            with_reducible refine (DG.out _ B1.out.bel).mono ?_
            rintro e w3 ⟨rfl, b3⟩
            have B3 := hid (B1.out.on b3)
            clear b3 B1 DG
            obtain ⟨c0, c1, c2, c3⟩ := B3.out.flat
            go_wp2_with fail
            with_reducible refine (H2.out _).mono ?_
            rintro e w5 ⟨rfl, e5⟩
            rw [e5, h2]
            clear e5 w5
            go_wp2_with fail
            with_reducible refine (H4.out _).mono ?_
            rintro e w6 ⟨rfl, e6⟩
            rw [e6, h4]
            clear e6 w6
            go_upto_region 14 with fail
            have T1 := hid B3.out.drew
            go_region_held3 (fun wx => wx.cell? ⟨w.heap.size, 0, none⟩ = some (.int .u8 V) ∧ wx.cell? ⟨w.heap.size, 1, none⟩ = some (.int .i64 F) ∧ wx.cell? ⟨w.heap.size, 2, none⟩ = some (.int .i64 W) ∧ wx.cell? ⟨w.heap.size, 3, none⟩ = some (.int .i64 P)) (first | (with_reducible exact T3.out.flat) | (with_reducible exact T2.out.flat) | (with_reducible exact T1.out.flat)) (first
              | (go_at_call 43; with_reducible refine (FI.out _).mono ?_; rintro e wa ⟨rfl, hB⟩; have T2 := hid (T1.out.on hB); clear hB)
              | (go_at_call 42; with_reducible refine (PB.out _).mono ?_; rintro e wb hP; have T3 := hid (T2.out.on hP.bel); obtain ⟨s, rfl, R⟩ := GB.out _ _ _ hP T2.out.bel; have R := hid R; clear hP))
            go_wp2_with fail
            go_ret2
            exact R.out
  · have G : Hid (∀ w', Below w.heap.size w w' → SigTold V F W P neg zs w (.returned (.tuple #[.string ⟨#[]⟩, .int .i64 (if V = 100 ∨ V = 105 then Wh.chk F W P else 140)])) w') := by
      intro w' k
      have e : Wh.sigE V F W P (Nm.tsize zs) = (if V = 100 ∨ V = 105 then Wh.chk F W P else 140) := by
        rw [Wh.sigE]
        by_cases h : V = 100 ∨ V = 105
        · rw [if_pos h, if_pos h]
          rw [if_pos h] at hE
          rw [if_neg hE]
        · rw [if_neg h, if_neg h]
      exact ⟨by rw [Wh.sig, e, if_neg hE]; rfl, k⟩
    have hne : ((if V = 100 ∨ V = 105 then Wh.chk F W P else 140) == 0) = false := by simpa using hE
    clear hE ha
    generalize (if V = 100 ∨ V = 105 then Wh.chk F W P else 140) = E at *
    go_enter Tryd.func21, Tryd.ntmps21
    go_wp2_with fail
    with_reducible refine (BA.out _).mono ?_
    rintro e w1 ⟨rfl, b1⟩
    have R := hid (G.out _ (B0.out.on b1).bel)
    clear b1 BA
    go_wp2_with fail
    go_ret2
    exact R.out
end Go.Proofs.YtbldddagddmbgaaDoor
