/-
  law08 (ScanBuilds): sign, stops, figures.
-/
import Derived.Test.YtjghlpkjbfaoiaaDoorVPush
import Derived.Test.YtjghlpkjbfaoiaaDoorVLongest
import Derived.Test.YtjghlpkjbfaoiaaDoorVRStep
import Derived.Deep.OwnRows
import Derived.Laws.BytesArg
namespace Go.Proofs.YtjghlpkjbfaoiaaDoor
open Go Go.RowKit Go.Deep

def sgL (n : Int) : List Int := if n = 1 then [43] else if n = 2 then [45] else []
theorem lsign_any (n : Int) (w : World) : Calls Tryd.prog 34 #[.int .i64 n] w fun e w' => (∃ s, e = .returned (.string s) ∧ Str s (sgL n)) ∧ w' = w := by
  by_cases h1 : n = 1
  · subst h1
    go_enter Tryd.func34, Tryd.ntmps34
    go_wp2_with fail
    go_ret
    exact ⟨⟨_, rfl, rfl⟩, rfl⟩
  · by_cases h2 : n = 2
    · subst h2
      go_enter Tryd.func34, Tryd.ntmps34
      go_wp2_with fail
      go_ret
      exact ⟨⟨_, rfl, rfl⟩, rfl⟩
    · have g1 : (n == 1) = false := by rw [beq_eq_false_iff_ne]; exact h1
      have g2 : (n == 2) = false := by rw [beq_eq_false_iff_ne]; exact h2
      have F : Hid (Str ⟨#[]⟩ (sgL n)) := by show Str _ _; unfold sgL; rw [if_neg h1, if_neg h2]; rfl
      go_enter Tryd.func34, Tryd.ntmps34
      go_wp2_with fail
      go_ret
      exact ⟨⟨_, rfl, F.out⟩, rfl⟩

/-- No literal goes on with this byte. -/
def StopTold (c : Int) (e : Ending) : Prop := ∃ b, e = .returned (.bool b) ∧ (b = true → c ≠ 46 ∧ c ≠ 101 ∧ c ≠ 69 ∧ ¬ (48 ≤ c ∧ c ≤ 57) ∧ c ≠ 43 ∧ c ≠ 45)
def Stop (c : Int) : Prop := c ≠ 46 ∧ c ≠ 101 ∧ c ≠ 69 ∧ ¬ (48 ≤ c ∧ c ≤ 57) ∧ c ≠ 43 ∧ c ≠ 45

set_option maxRecDepth 100000 in
theorem stops_any (s : ByteArray) (xs : List Int) (w : World) (hs : Str s xs) (hn : xs.length ≤ 562949953421312) :
    Calls Tryd.prog 18 #[.string s] w fun e w' => StopTold (Sc.pk xs 0) e ∧ w' = w := by
  by_cases h : xs = []
  · have hs0 : s = ⟨#[]⟩ := hs.inj (by rw [h]; rfl)
    subst hs0
    have F : Hid (Stop (Sc.pk xs 0)) := by show Stop _; rw [h]; unfold Stop; decide
    clear hs hn h
    go_enter Tryd.func18, Tryd.ntmps18
    go_wp2_with fail
    go_ret
    exact ⟨⟨_, rfl, fun _ => F.out⟩, rfl⟩
  · have e1 : s.toList ≠ [] := by
      intro c
      apply h
      rw [ByteArray.toList_eq] at c
      rw [← hs, c]
      rfl
    have e2 : (s.toList == []) = false := by rw [beq_eq_false_iff_ne]; exact e1
    have e3 : s.toList.isEmpty = false := by rw [List.isEmpty_eq_false_iff]; exact e1
    have hsz := hs.size
    have hpos : 0 < xs.length := List.length_pos_iff.2 h
    have hposi : (0 : Int) < (xs.length : Int) := by omega
    have hx := hs.pk 0
    have hb : 0 ≤ Sc.pk xs 0 ∧ Sc.pk xs 0 < 256 := hs.atb 0
    clear hs hn h
    generalize hq : Sc.pk xs 0 = x at *
    clear hq
    obtain ⟨b0, b1⟩ := hb
    rcases (show x = 46 ∨ x = 101 ∨ x = 69 ∨ x = 43 ∨ x = 45 ∨ (48 ≤ x ∧ x ≤ 57) ∨ (x ≠ 46 ∧ x ≠ 101 ∧ x ≠ 69 ∧ x ≠ 43 ∧ x ≠ 45 ∧ ¬ (48 ≤ x ∧ x ≤ 57)) by omega) with rfl | rfl | rfl | rfl | rfl | ⟨a1, a2⟩ | ⟨a1, a2, a3, a4, a5, a6⟩
    · go_enter Tryd.func18, Tryd.ntmps18
      go_wp2_with fail
      go_ret
      exact ⟨⟨_, rfl, fun c => by simp at c⟩, rfl⟩
    · go_enter Tryd.func18, Tryd.ntmps18
      go_wp2_with fail
      go_ret
      exact ⟨⟨_, rfl, fun c => by simp at c⟩, rfl⟩
    · go_enter Tryd.func18, Tryd.ntmps18
      go_wp2_with fail
      go_ret
      exact ⟨⟨_, rfl, fun c => by simp at c⟩, rfl⟩
    · go_enter Tryd.func18, Tryd.ntmps18
      go_wp2_with fail
      go_ret
      exact ⟨⟨_, rfl, fun c => by simp at c⟩, rfl⟩
    · go_enter Tryd.func18, Tryd.ntmps18
      go_wp2_with fail
      go_ret
      exact ⟨⟨_, rfl, fun c => by simp at c⟩, rfl⟩
    · have g1 : (x == 46) = false := by rw [beq_eq_false_iff_ne]; omega
      have g2 : (x == 101) = false := by rw [beq_eq_false_iff_ne]; omega
      have g3 : (x == 69) = false := by rw [beq_eq_false_iff_ne]; omega
      have g4 : ¬ x < 48 := by omega
      have g5 : ¬ 57 < x := by omega
      go_enter Tryd.func18, Tryd.ntmps18
      go_wp2_with fail
      go_ret
      exact ⟨⟨_, rfl, fun c => by simp at c⟩, rfl⟩
    · have F : Hid (Stop x) := ⟨a1, a2, a3, a6, a4, a5⟩
      have g1 : (x == 46) = false := by rw [beq_eq_false_iff_ne]; omega
      have g2 : (x == 101) = false := by rw [beq_eq_false_iff_ne]; omega
      have g3 : (x == 69) = false := by rw [beq_eq_false_iff_ne]; omega
      have g6 : (x == 43) = false := by rw [beq_eq_false_iff_ne]; omega
      have g7 : (x == 45) = false := by rw [beq_eq_false_iff_ne]; omega
      rcases (show x < 48 ∨ (¬ x < 48 ∧ 57 < x) by omega) with g4 | ⟨g4, g5⟩
      all_goals
        go_enter Tryd.func18, Tryd.ntmps18
        go_wp2_with fail
        go_ret
        exact ⟨⟨_, rfl, fun _ => F.out⟩, rfl⟩

theorem OwnB.free {w : World} {g : Nat} {zs : List Int} (h : OwnB w g zs) (i : Nat) : w.frozen? ⟨g, i, none⟩ = false := by
  simp only [OwnB] at h
  simp [World.frozen?, h]
theorem OwnB.lt {w : World} {g : Nat} {zs : List Int} (h : OwnB w g zs) : g < w.heap.size := by
  rcases Nat.lt_or_ge g w.heap.size with hl | hl
  · exact hl
  · simp [OwnB, Array.getElem?_eq_none hl] at h
theorem OwnB.set {w : World} {g : Nat} {zs : List Int} (h : OwnB w g zs) (i : Nat) (s : Int) : OwnB (w.setCell ⟨g, i, none⟩ (.int .u8 s)) g (zs.set i s) := by
  have hl := h.lt
  simp only [OwnB] at h ⊢
  simp [World.setCell, Array.getElem?_modify, h, List.map_set]
theorem made_zero8 (n : Nat) : madeCells #[Value.int .u8 0] n = ((List.replicate n (0 : Int)).map (Value.int .u8)).toArray := by
  apply Array.toList_inj.1
  rw [toList_madeCells_one]
  simp
theorem make8 (n : Nat) (h : n ≤ 140737488351232) (w : World) :
    (Instr.makeSlice 37 (.int .i64 (n : Int)) (.int .i64 (n : Int))).run Tryd.prog w = .ok (.slice (some ⟨w.heap.size, 0, none⟩) n n) (w.alloc (.cells (madeCells #[.int .u8 0] n) 5)) :=
  run_make_row' 37 5 (.int .u8 0) 1 Tryd.underlying37 info8 rfl .i64 .i64 n (by omega) (by omega) w

/-- Bytes that are given. -/
def Bys (w : World) (a : Option Addr) (zs : List Int) : Prop := zs = [] ∨ ∃ b off, a = some ⟨b, off, none⟩ ∧ ∀ i, i < zs.length → w.cell? ⟨b, off + i, none⟩ = some (.int .u8 (zs.getD i 0))
theorem Bys.below {w w' : World} {a : Option Addr} {zs : List Int} (h : Bys w a zs) (hb : Below w.heap.size w w') : Bys w' a zs := by
  rcases h with h | ⟨b, off, rfl, h⟩
  · exact .inl h
  · exact .inr ⟨b, off, rfl, fun i hi => by rw [hb.cell (p := ⟨b, off + i, none⟩) (cell_lt (h i hi))]; exact h i hi⟩

def fig (z : Int) : Int := 48 + z % 10
def half (zs : List Int) (j : Nat) : List Int := (zs.take j).map fig ++ List.replicate (zs.length - j) 0
theorem half_len (zs : List Int) (j : Nat) (h : j ≤ zs.length) : (half zs j).length = zs.length := by simp [half]; omega
theorem half_set (zs : List Int) (j : Nat) (h : j < zs.length) : (half zs j).set j (fig (zs.getD j 0)) = half zs (j + 1) := by
  have h1 : zs.take (j + 1) = zs.take j ++ [zs.getD j 0] := by
    rw [List.take_add_one]
    simp [List.getElem?_eq_getElem h]
  unfold half
  rw [h1, List.map_append, List.append_assoc, List.set_append_right _ _ (by simp; omega)]
  obtain ⟨m, hm⟩ : ∃ m, zs.length - j = m + 1 := ⟨zs.length - j - 1, by omega⟩
  have : zs.length - (j + 1) = m := by omega
  rw [hm, this]
  have hl : j - (zs.take j).length = 0 := by simp; omega
  rw [List.length_map, hl, List.replicate_succ]
  rfl
theorem half_all (zs : List Int) : half zs zs.length = zs.map fig := by simp [half]
theorem fig_bd (z : Int) : 48 ≤ fig z ∧ fig z ≤ 57 := by unfold fig; omega

set_option maxRecDepth 100000 in
set_option maxHeartbeats 2000000 in
theorem figures_any (a : Option Addr) (len cap : Nat) (zs : List Int) (w : World) (hl : zs.length = len) (hm : len ≤ 140737488351232) (hp : Bys w a zs) (hz : ∀ z ∈ zs, 0 ≤ z ∧ z < 256) :
    Calls Tryd.prog 35 #[.slice a len cap] w fun e w' => (∃ s, e = .returned (.string s) ∧ Str s (zs.map fig)) ∧ Below w.heap.size w w' := by
  have mk := make8 len hm w
  have O0 : Hid (OwnB (w.alloc (.cells (madeCells #[.int .u8 0] len) 5)) w.heap.size (half zs 0)) := by
    have := OwnB.alloc w (List.replicate len 0)
    rw [made_zero8]
    have e : half zs 0 = List.replicate len 0 := by simp [half, hl]
    show OwnB _ _ _
    rw [e]; exact this
  have D0 : Hid (Below w.heap.size w (w.alloc (.cells (madeCells #[.int .u8 0] len) 5))) := alloc_b _ _
  have HL := hid hl
  have HP := hid hp
  have HZ := hid hz
  have hlm : (len : Int) ≤ 140737488351232 := by omega
  generalize w.alloc (.cells (madeCells #[.int .u8 0] len) 5) = w0 at *
  clear hl hp hz
  go_enter Tryd.func35, Tryd.ntmps35
  go_wp2_with fail
  go_loopw [4] (fun i wr => ∃ j : Nat, j ≤ len ∧ i = .int .i64 j ∧ Hid (OwnB wr w.heap.size (half zs j) ∧ Below w.heap.size w wr)) (fun i _ => len - (vInt i).toNat)
  case atStart => exact ⟨0, Nat.zero_le _, rfl, O0.out, D0.out⟩
  case round =>
    clear O0 D0 mk
    obtain ⟨j, hj, rfl, I⟩ := hrel
    by_cases hlt : j < len
    · have hjl : (j : Int) < (len : Int) := by omega
      have hc := I.out.1.cell j (by rw [half_len _ _ (by have := HL.out; omega)]; have := HL.out; omega)
      have hf := I.out.1.free j
      have hxb := HZ.out (zs.getD j 0) (by have := HL.out; simp [List.getD, show j < zs.length by omega])
      rcases HP.out.below I.out.2 with h | ⟨b, off, rfl, h⟩
      · have := HL.out; rw [h] at this; simp at this; omega
      · have hr := h j (by have := HL.out; omega)
        have F : Hid (OwnB (wr.setCell ⟨w.heap.size, j, none⟩ (.int .u8 (48 + zs.getD j 0 % 10))) w.heap.size (half zs (j + 1)) ∧ Below w.heap.size w (wr.setCell ⟨w.heap.size, j, none⟩ (.int .u8 (48 + zs.getD j 0 % 10)))) := by
          refine ⟨?_, I.out.2.setCell (p := ⟨w.heap.size, j, none⟩) (Nat.le_refl _) _⟩
          rw [← half_set zs j (by have := HL.out; omega)]
          exact I.out.1.set j _
        obtain ⟨x0, x1⟩ := hxb
        generalize zs.getD j 0 = x at *
        generalize (half zs j).getD j 0 = y at *
        have tm : Int.tmod x 10 = x % 10 := by rw [Int.tmod_eq_emod_of_nonneg x0]
        have tb : 0 ≤ x % 10 ∧ x % 10 ≤ 9 := by omega
        clear h I
        go_wp2_with fail
        go_roundw
        case rel => exact ⟨j + 1, by omega, by go_num, F.out⟩
        case measure => simp [vInt]; omega
    · have hje : j = len := by omega
      subst hje
      have hjl : ¬ (j : Int) < (j : Int) := by omega
      have e : half zs j = zs.map fig := by rw [← HL.out]; exact half_all zs
      have O1 := hid I.out.1
      rw [e] at O1
      have CV := run_convert_bytes_arg (P := Tryd.prog) wr 37 5 Tryd.underlying37 Tryd.underlying5 w.heap.size 0 j j (zs.map fig) (by rw [List.length_map]; exact HL.out) (fun i hi => by rw [Nat.zero_add]; exact O1.out.cell i (by rw [List.length_map]; have := HL.out; omega)) 9 Tryd.underlying9
      have FS : Hid (Str (strOfNums (zs.map fig)) (zs.map fig)) := Str.of_nums (fun y hy => by
        obtain ⟨z, -, rfl⟩ := List.mem_map.1 hy
        have := fig_bd z; omega)
      have D := hid I.out.2
      clear I O1 e
      go_wp2_with fail
      go_ret
      exact ⟨⟨_, rfl, FS.out⟩, D.out⟩
end Go.Proofs.YtjghlpkjbfaoiaaDoor
