/-
  Texts put together: DBox, DText, VaB, ReC.
-/
import Derived.Test.YtpmmbaahoegmlaaGreatDoorRB
import Derived.Test.YtpmmbaahoegmlaaGreatDoorRA
import Derived.Test.YtpmmbaahoegmlaaGreatDoorReB
namespace Go.Proofs.YtpmmbaahoegmlaaGreatDoor
open Go Go.RowKit Go.Deep Go.Shelf

theorem dset1 {w : World} {b o t : Nat} {v : Value} {c c' : Array Value} (h : w.heap[b]? = some (.cells c t (0, 0))) (e : c.setIfInBounds o v = c') : (w.setCell ⟨b, o, none⟩ v).heap[b]? = some (.cells c' t (0, 0)) := by
  subst e
  simp [World.setCell, Array.getElem?_modify, h]

/-- Seven cells that may be written. -/
def P7 (w : World) (b : Nat) (v0 v1 v2 v3 v4 v5 v6 : Value) : Prop := w.heap[b]? = some (.cells #[v0, v1, v2, v3, v4, v5, v6] 166 (0, 0))
theorem P7.new (w : World) (v0 v1 v2 v3 v4 v5 v6 : Value) : P7 (w.alloc (.cells #[v0, v1, v2, v3, v4, v5, v6] 166)) w.heap.size v0 v1 v2 v3 v4 v5 v6 := heap_alloc_new w _
theorem P7.lt {w : World} {b : Nat} {v0 v1 v2 v3 v4 v5 v6 : Value} (h : P7 w b v0 v1 v2 v3 v4 v5 v6) : b < w.heap.size := by
  rcases Nat.lt_or_ge b w.heap.size with hl | hl
  · exact hl
  · simp [P7, Array.getElem?_eq_none hl] at h
theorem P7.below {w w' : World} {b : Nat} {v0 v1 v2 v3 v4 v5 v6 : Value} (h : P7 w b v0 v1 v2 v3 v4 v5 v6) (hB : Below w.heap.size w w') : P7 w' b v0 v1 v2 v3 v4 v5 v6 := by
  rw [P7, hB.block b h.lt]; exact h
theorem P7.oth {w w' : World} {g b : Nat} {v0 v1 v2 v3 v4 v5 v6 : Value} (h : P7 w b v0 v1 v2 v3 v4 v5 v6) (k : Oth g w w') (hg : b ≠ g) : P7 w' b v0 v1 v2 v3 v4 v5 v6 := by
  rw [P7, k.block b h.lt hg]; exact h
theorem P7.cells {w : World} {b : Nat} {v0 v1 v2 v3 v4 v5 v6 : Value} (h : P7 w b v0 v1 v2 v3 v4 v5 v6) :
    (w.cell? ⟨b, 0, none⟩ = some v0 ∧ w.cell? ⟨b, 1, none⟩ = some v1 ∧ w.cell? ⟨b, 2, none⟩ = some v2 ∧ w.cell? ⟨b, 3, none⟩ = some v3 ∧ w.cell? ⟨b, 4, none⟩ = some v4 ∧ w.cell? ⟨b, 5, none⟩ = some v5 ∧ w.cell? ⟨b, 6, none⟩ = some v6) ∧
    (w.frozen? ⟨b, 0, none⟩ = false ∧ w.frozen? ⟨b, 1, none⟩ = false ∧ w.frozen? ⟨b, 2, none⟩ = false ∧ w.frozen? ⟨b, 3, none⟩ = false ∧ w.frozen? ⟨b, 4, none⟩ = false ∧ w.frozen? ⟨b, 5, none⟩ = false ∧ w.frozen? ⟨b, 6, none⟩ = false) := by
  simp only [P7] at h
  refine ⟨⟨?_, ?_, ?_, ?_, ?_, ?_, ?_⟩, ⟨?_, ?_, ?_, ?_, ?_, ?_, ?_⟩⟩ <;> simp [World.cell?, World.frozen?, h]
theorem P7.far {w : World} {b c o : Nat} {v v0 v1 v2 v3 v4 v5 v6 : Value} (h : P7 w b v0 v1 v2 v3 v4 v5 v6) (hc : c ≠ b) : P7 (w.setCell ⟨c, o, none⟩ v) b v0 v1 v2 v3 v4 v5 v6 := by
  simp only [P7] at *
  simp only [World.setCell, Array.getElem?_modify]
  rw [if_neg hc]; exact h
theorem P7.s1 {w : World} {b : Nat} {v v0 v1 v2 v3 v4 v5 v6 : Value} (h : P7 w b v0 v1 v2 v3 v4 v5 v6) : P7 (w.setCell ⟨b, 1, none⟩ v) b v0 v v2 v3 v4 v5 v6 := dset1 h rfl
theorem P7.s2 {w : World} {b : Nat} {v v0 v1 v2 v3 v4 v5 v6 : Value} (h : P7 w b v0 v1 v2 v3 v4 v5 v6) : P7 (w.setCell ⟨b, 2, none⟩ v) b v0 v1 v v3 v4 v5 v6 := dset1 h rfl
theorem P7.s3 {w : World} {b : Nat} {v v0 v1 v2 v3 v4 v5 v6 : Value} (h : P7 w b v0 v1 v2 v3 v4 v5 v6) : P7 (w.setCell ⟨b, 3, none⟩ v) b v0 v1 v2 v v4 v5 v6 := dset1 h rfl
theorem P7.s4 {w : World} {b : Nat} {v v0 v1 v2 v3 v4 v5 v6 : Value} (h : P7 w b v0 v1 v2 v3 v4 v5 v6) : P7 (w.setCell ⟨b, 4, none⟩ v) b v0 v1 v2 v3 v v5 v6 := dset1 h rfl
theorem P7.s5 {w : World} {b : Nat} {v v0 v1 v2 v3 v4 v5 v6 : Value} (h : P7 w b v0 v1 v2 v3 v4 v5 v6) : P7 (w.setCell ⟨b, 5, none⟩ v) b v0 v1 v2 v3 v4 v v6 := dset1 h rfl
theorem P7.s6 {w : World} {b : Nat} {v v0 v1 v2 v3 v4 v5 v6 : Value} (h : P7 w b v0 v1 v2 v3 v4 v5 v6) : P7 (w.setCell ⟨b, 6, none⟩ v) b v0 v1 v2 v3 v4 v5 v := dset1 h rfl
theorem P7.put {w : World} {b : Nat} {v0 v1 v2 v3 v4 v5 v6 : Value} (h : P7 w b v0 v1 v2 v3 v4 v5 v6) (u0 u1 u2 u3 u4 u5 u6 : Value) :
    P7 (((((((w.setCell ⟨b, 0, none⟩ u0).setCell ⟨b, 1, none⟩ u1).setCell ⟨b, 2, none⟩ u2).setCell ⟨b, 3, none⟩ u3).setCell ⟨b, 4, none⟩ u4).setCell ⟨b, 5, none⟩ u5).setCell ⟨b, 6, none⟩ u6) b u0 u1 u2 u3 u4 u5 u6 := by
  have h0 : P7 (w.setCell ⟨b, 0, none⟩ u0) b u0 v1 v2 v3 v4 v5 v6 := dset1 h rfl
  exact h0.s1.s2.s3.s4.s5.s6

theorem RB.far {w : World} {b c o k : Nat} {s : ByteArray} {v : Value} (h : RB w b s k) (hc : c ≠ b) : RB (w.setCell ⟨c, o, none⟩ v) b s k := by
  simp only [RB] at *
  simp only [World.setCell, Array.getElem?_modify]
  rw [if_neg hc]; exact h

/-- The state of a reading function: the reader, what has stayed, the result's box, the piece's box. -/
structure DS (w : World) (b : Nat) (s : ByteArray) (j : Nat) (v0 v1 v2 v3 v4 v5 v6 : Value) (wx : World) : Prop where
  rb : RB wx b s j
  bl : b < w.heap.size
  os : wx.os = w.os
  tape : wx.tape = w.tape
  output : wx.output = w.output
  size : w.heap.size ≤ wx.heap.size
  block : ∀ j, j < w.heap.size → j ≠ b → wx.heap[j]? = w.heap[j]?
  res : P7 wx w.heap.size (.string ⟨#[]⟩) (.int .u8 0) (.int .i64 0) (.int .i64 0) (.int .i64 0) (.int .i64 0) (.int .i64 0)
  box : P7 wx (w.heap.size + 1) v0 v1 v2 v3 v4 v5 v6

theorem DS.call {w wx wy : World} {b j j' : Nat} {s : ByteArray} {v0 v1 v2 v3 v4 v5 v6 : Value} (h : DS w b s j v0 v1 v2 v3 v4 v5 v6 wx) (r : RB wy b s j') (k : Oth b wx wy) : DS w b s j' v0 v1 v2 v3 v4 v5 v6 wy :=
  have := h.bl
  ⟨r, h.bl, k.os.trans h.os, k.tape.trans h.tape, k.output.trans h.output, Nat.le_trans h.size k.size, fun i hi hb => (k.block i (Nat.lt_of_lt_of_le hi h.size) hb).trans (h.block i hi hb), h.res.oth k (by omega), h.box.oth k (by omega)⟩
theorem DS.set {w wx : World} {b j o : Nat} {s : ByteArray} {v v0 v1 v2 v3 v4 v5 v6 u0 u1 u2 u3 u4 u5 u6 : Value} (h : DS w b s j v0 v1 v2 v3 v4 v5 v6 wx) (k : P7 wx (w.heap.size + 1) v0 v1 v2 v3 v4 v5 v6 → P7 (wx.setCell ⟨w.heap.size + 1, o, none⟩ v) (w.heap.size + 1) u0 u1 u2 u3 u4 u5 u6) : DS w b s j u0 u1 u2 u3 u4 u5 u6 (wx.setCell ⟨w.heap.size + 1, o, none⟩ v) := by
  have hb := h.bl
  refine ⟨h.rb.far (by omega), h.bl, h.os, h.tape, h.output, by simp [World.setCell]; exact h.size, fun i hi hne => ?_, h.res.far (by omega), k h.box⟩
  rw [← h.block i hi hne]
  simp only [World.setCell, Array.getElem?_modify]
  rw [if_neg (by omega)]
theorem DS.oth {w wx : World} {b j : Nat} {s : ByteArray} {v0 v1 v2 v3 v4 v5 v6 : Value} (h : DS w b s j v0 v1 v2 v3 v4 v5 v6 wx) : Oth b w wx := ⟨h.os, h.tape, h.output, h.size, h.block⟩
theorem Oth.far {w wx : World} {g b o : Nat} {v : Value} (h : Oth b w wx) (hg : w.heap.size ≤ g) : Oth b w (wx.setCell ⟨g, o, none⟩ v) := by
  refine ⟨h.os, h.tape, h.output, by simp [World.setCell]; exact h.size, fun i hi hne => ?_⟩
  rw [← h.block i hi hne]
  simp only [World.setCell, Array.getElem?_modify]
  rw [if_neg (by omega)]
/-- The end: the result's box is written. -/
theorem DS.fin {w wx : World} {b j : Nat} {s : ByteArray} {v0 v1 v2 v3 v4 v5 v6 : Value} (h : DS w b s j v0 v1 v2 v3 v4 v5 v6 wx) (u0 u1 u2 u3 u4 u5 u6 : Value) :
    P7 (((((((wx.setCell ⟨w.heap.size, 0, none⟩ u0).setCell ⟨w.heap.size, 1, none⟩ u1).setCell ⟨w.heap.size, 2, none⟩ u2).setCell ⟨w.heap.size, 3, none⟩ u3).setCell ⟨w.heap.size, 4, none⟩ u4).setCell ⟨w.heap.size, 5, none⟩ u5).setCell ⟨w.heap.size, 6, none⟩ u6) w.heap.size u0 u1 u2 u3 u4 u5 u6 ∧
    RB (((((((wx.setCell ⟨w.heap.size, 0, none⟩ u0).setCell ⟨w.heap.size, 1, none⟩ u1).setCell ⟨w.heap.size, 2, none⟩ u2).setCell ⟨w.heap.size, 3, none⟩ u3).setCell ⟨w.heap.size, 4, none⟩ u4).setCell ⟨w.heap.size, 5, none⟩ u5).setCell ⟨w.heap.size, 6, none⟩ u6) b s j ∧
    Oth b w (((((((wx.setCell ⟨w.heap.size, 0, none⟩ u0).setCell ⟨w.heap.size, 1, none⟩ u1).setCell ⟨w.heap.size, 2, none⟩ u2).setCell ⟨w.heap.size, 3, none⟩ u3).setCell ⟨w.heap.size, 4, none⟩ u4).setCell ⟨w.heap.size, 5, none⟩ u5).setCell ⟨w.heap.size, 6, none⟩ u6) := by
  have hb := h.bl
  have ne : w.heap.size ≠ b := by omega
  have le : w.heap.size ≤ w.heap.size := Nat.le_refl _
  exact ⟨h.res.put _ _ _ _ _ _ _, ((((((h.rb.far ne).far ne).far ne).far ne).far ne).far ne).far ne, ((((((h.oth.far le).far le).far le).far le).far le).far le).far le⟩

/-- A piece's cells. -/
def pcv (p : Dr.Pc) : Array Value := #[.string (strOfNums p.t), .int .u8 p.v, .int .i64 p.fl, .int .i64 p.wk, .int .i64 p.wd, .int .i64 p.pk, .int .i64 p.pr]
theorem str_nil1 : strOfNums [] = ⟨#[]⟩ := rfl
theorem pcv_no : pcv Dr.Pc.no = #[.string ⟨#[]⟩, .int .u8 0, .int .i64 0, .int .i64 0, .int .i64 0, .int .i64 0, .int .i64 0] := rfl

/-- What precision tells. -/
def PTold (b : Nat) (s : ByteArray) (l : List Int) (k : Nat) (w : World) (r : Ending) (w' : World) : Prop := r = .returned (.tuple #[.int .i64 (Dr.pk l), .int .i64 (Dr.pv l), .int .i64 (Dr.pe l)]) ∧ RB w' b s (k + Dr.pu l) ∧ Oth b w w'

set_option maxRecDepth 100000 in
theorem precision_any (b k : Nat) (s : ByteArray) (xs : List Int) (w : World) (hs : Str s xs) (hk : k ≤ xs.length) (hl : xs.length ≤ 4611686018427387904) (h : RB w b s k) :
    Calls Tryz.prog 170 #[.pointer (some ⟨b, 0, none⟩)] w fun r w' => PTold b s (xs.drop k) k w r w' := by
  have N := hid (next_any b k s xs w hs hk h)
  have HH : Hid ((xs.drop k).headD 0 = Dr.nx xs k) := Dr.head_drop xs k
  have hkl : (k : Int) ≤ 4611686018427387904 := by omega
  have H := hid h
  by_cases h46 : Dr.nx xs k = 46
  · have hlt : k < xs.length := Dr.getD_pos (by rw [h46]; decide)
    have NU : Hid (∀ W, RB W b s (k + 1) → Calls Tryz.prog 169 #[.pointer (some ⟨b, 0, none⟩)] W fun r w' => r = .returned (.tuple #[.int .i64 (Dr.nk (xs.drop (k + 1))), .int .i64 (Dr.nv (xs.drop (k + 1))), .int .i64 (Dr.ne (xs.drop (k + 1)))]) ∧ RB w' b s (k + 1 + Dr.nu (xs.drop (k + 1))) ∧ Oth b W w') := fun W hb => number_any b (k + 1) s xs W hs (by omega) hl hb
    have tl : (xs.drop k).tail = xs.drop (k + 1) := by rw [List.tail_drop]
    have KK : Hid (∀ (r : Int) W, r = (if Dr.ne (xs.drop (k + 1)) = 0 ∧ Dr.nk (xs.drop (k + 1)) = 0 then 1 else Dr.nk (xs.drop (k + 1))) → RB W b s (k + 1 + Dr.nu (xs.drop (k + 1))) → Oth b w W → PTold b s (xs.drop k) k w (.returned (.tuple #[.int .i64 r, .int .i64 (Dr.nv (xs.drop (k + 1))), .int .i64 (Dr.ne (xs.drop (k + 1)))])) W) := by
      intro r W e a1 a2
      have hh := HH.out
      rw [h46] at hh
      refine ⟨?_, ?_, a2⟩
      · rw [Dr.pk, Dr.pv, Dr.pe, if_pos hh, if_pos hh, if_pos hh, tl, e]
      · rw [Dr.pu, if_pos hh, tl, ← Nat.add_assoc]; exact a1
    rw [h46] at N
    clear HH h46 hs h hlt tl
    generalize Dr.nk (xs.drop (k + 1)) = K1 at *
    generalize Dr.nv (xs.drop (k + 1)) = V1 at *
    generalize Dr.ne (xs.drop (k + 1)) = E1 at *
    generalize k + 1 + Dr.nu (xs.drop (k + 1)) = j1 at *
    go_enter Tryz.func170, Tryz.ntmps170
    go_wp2_with fail
    refine N.out.mono ?_
    rintro e w1 ⟨rfl, hB⟩
    have R1 := hid (H.out.below hB)
    have O1 : Hid (Oth b w w1) := Oth.of_below hB
    clear hB
    obtain ⟨⟨c0, c1⟩, fz⟩ := R1.out.cells
    go_wp2_with fail
    refine (NU.out _ (R1.out.set (by go_num))).mono ?_
    rintro e w2 ⟨rfl, r2, o2⟩
    have R2 := hid r2
    have O2 := hid ((O1.out.trans (Oth.set _ _)).trans o2)
    clear r2 o2 c0 c1 fz
    by_cases e1 : E1 = 0
    · subst e1
      by_cases k1 : K1 = 0
      · subst k1
        go_wp2_with fail
        go_ret3
        exact KK.out 1 _ (by simp) R2.out O2.out
      · go_wp2_with fail
        go_ret3
        exact KK.out K1 _ (by simp [k1]) R2.out O2.out
    · go_wp2_with fail
      go_ret3
      exact KK.out K1 _ (by simp [e1]) R2.out O2.out
  · have KK : Hid (∀ W, RB W b s k → Oth b w W → PTold b s (xs.drop k) k w (.returned (.tuple #[.int .i64 0, .int .i64 0, .int .i64 0])) W) := by
      intro W a1 a2
      have hh : ¬ (xs.drop k).headD 0 = 46 := by rw [HH.out]; exact h46
      refine ⟨?_, ?_, a2⟩
      · rw [Dr.pk, Dr.pv, Dr.pe, if_neg hh, if_neg hh, if_neg hh]
      · rw [Dr.pu, if_neg hh]; exact a1
    clear HH hs h
    generalize Dr.nx xs k = x at *
    go_enter Tryz.func170, Tryz.ntmps170
    go_wp2_with fail
    refine N.out.mono ?_
    rintro e w1 ⟨rfl, hB⟩
    have R1 := hid (H.out.below hB)
    have O1 : Hid (Oth b w w1) := Oth.of_below hB
    clear hB
    go_wp2_with fail
    go_ret3
    exact KK.out _ R1.out O1.out

/-- What verb tells. -/
def VTold (b : Nat) (s : ByteArray) (l : List Int) (k : Nat) (w : World) (r : Ending) (w' : World) : Prop := r = .returned (.tuple #[.int .u8 (Dr.vv l), .int .i64 (Dr.ve l)]) ∧ RB w' b s (k + Dr.vu l) ∧ Oth b w w'

theorem Oth.drew {g : Nat} {a b : World} (h : Oth g a b) (n : Nat) : Oth g a (b.drewN n) := ⟨h.os, h.tape, h.output, h.size, h.block⟩

set_option maxRecDepth 100000 in
theorem verb_any (b k : Nat) (s : ByteArray) (xs : List Int) (w : World) (hs : Str s xs) (hk : k ≤ xs.length) (hl : xs.length ≤ 4611686018427387904) (h : RB w b s k) :
    Calls Tryz.prog 171 #[.pointer (some ⟨b, 0, none⟩)] w fun r w' => VTold b s (xs.drop k) k w r w' := by
  have N := hid (next_any b k s xs w hs hk h)
  have IX : Hid (∀ (c : Int) (W : World), 0 ≤ c → c < 256 → Calls Tryz.prog 94 #[.string ⟨#[100, 105, 111, 117, 120, 88, 99, 115, 101, 69, 102, 70, 103, 71]⟩, .int .u8 c] W fun e w' => e = .returned (.int .i64 (Dr.idx Dr.verbs c)) ∧ w' = W) := fun c W h0 h1 => idx_any ⟨#[100, 105, 111, 117, 120, 88, 99, 115, 101, 69, 102, 70, 103, 71]⟩ Dr.verbs c W rfl h0 h1
  have HH : Hid ((xs.drop k).headD 0 = Dr.nx xs k) := Dr.head_drop xs k
  have hkl : (k : Int) ≤ 4611686018427387904 := by omega
  have hx : 0 ≤ Dr.nx xs k ∧ Dr.nx xs k < 256 := hs.atb k
  obtain ⟨x0, x1⟩ := hx
  have hsz := hs.size
  have H := hid h
  have E : Hid (∀ W, xs.drop k = [] → RB W b s k → Oth b w W → VTold b s (xs.drop k) k w (.returned (.tuple #[.int .u8 0, .int .i64 131])) W) := by
    intro W e a1 a2
    have ev : Dr.ve (xs.drop k) = 131 := by rw [Dr.ve, if_pos e]
    exact ⟨by rw [Dr.vv, ev]; rfl, by rw [Dr.vu, ev]; exact a1, a2⟩
  have E2 : Hid (∀ W, ¬ xs.drop k = [] → Dr.idx Dr.verbs (Dr.nx xs k) < 0 → RB W b s k → Oth b w W → VTold b s (xs.drop k) k w (.returned (.tuple #[.int .u8 0, .int .i64 130])) W) := by
    intro W e e2 a1 a2
    have ev : Dr.ve (xs.drop k) = 130 := by rw [Dr.ve, if_neg e, HH.out, if_pos e2]
    exact ⟨by rw [Dr.vv, ev]; rfl, by rw [Dr.vu, ev]; exact a1, a2⟩
  have E3 : Hid (∀ W, ¬ xs.drop k = [] → ¬ Dr.idx Dr.verbs (Dr.nx xs k) < 0 → RB W b s (k + 1) → Oth b w W → VTold b s (xs.drop k) k w (.returned (.tuple #[.int .u8 (Dr.nx xs k), .int .i64 0])) W) := by
    intro W e e2 a1 a2
    have ev : Dr.ve (xs.drop k) = 0 := by rw [Dr.ve, if_neg e, HH.out, if_neg e2]
    exact ⟨by rw [Dr.vv, ev, HH.out]; rfl, by rw [Dr.vu, ev]; exact a1, a2⟩
  have dn : xs.drop k = [] ↔ xs.length ≤ k := List.drop_eq_nil_iff
  have I1 := hid (IX.out (Dr.nx xs k))
  clear HH hs h IX
  generalize Dr.nx xs k = x at *
  generalize Dr.idx Dr.verbs x = i at *
  by_cases he : k = xs.length
  · have F := hid (fun W => E.out W (dn.2 (by omega)))
    have he2 : (k : Int) = (xs.length : Int) := by omega
    clear E E2 E3 dn he hk hl I1
    go_enter Tryz.func171, Tryz.ntmps171
    go_wp2_with fail
    refine N.out.mono ?_
    rintro e w1 ⟨rfl, hB⟩
    have R1 := hid (H.out.below hB)
    have O1 : Hid (Oth b w w1) := Oth.of_below hB
    obtain ⟨⟨c0, c1⟩, fz⟩ := R1.out.cells
    clear hB
    go_wp2_with fail
    go_quiet (fail)
    go_wp2_with fail
    go_ret2
    exact F.out _ R1.out (O1.out.drew _)
  · have ne : ¬ xs.drop k = [] := fun q => by have := dn.1 q; omega
    have he2 : ¬ (k : Int) = (xs.length : Int) := by omega
    have F2 := hid (fun W => E2.out W ne)
    have F3 := hid (fun W => E3.out W ne)
    clear E E2 E3 dn he hk hl ne
    go_enter Tryz.func171, Tryz.ntmps171
    go_wp2_with fail
    refine N.out.mono ?_
    rintro e w1 ⟨rfl, hB⟩
    have R1 := hid (H.out.below hB)
    have O1 : Hid (Oth b w w1) := Oth.of_below hB
    obtain ⟨⟨c0, c1⟩, fz⟩ := R1.out.cells
    clear hB
    go_wp2_with fail
    go_quiet (fail)
    have R2 : Hid (RB (w1.drewN nq) b s k) := R1.out
    have O2 := hid (O1.out.drew nq)
    generalize w1.drewN nq = w2 at *
    obtain ⟨⟨c0, c1⟩, fz⟩ := R2.out.cells
    by_cases hi : i < 0
    · go_wp2_with fail
      refine (I1.out w2 x0 x1).mono ?_
      rintro e w3 ⟨rfl, e3⟩
      rw [e3]
      go_wp2_with fail
      go_ret2
      exact F2.out _ hi R2.out O2.out
    · go_wp2_with fail
      refine (I1.out w2 x0 x1).mono ?_
      rintro e w3 ⟨rfl, e3⟩
      rw [e3]
      clear e3
      go_wp2_with fail
      go_ret2
      exact F3.out _ hi (R2.out.set (by go_num)) (O2.out.trans (Oth.set _ _))
end Go.Proofs.YtpmmbaahoegmlaaGreatDoor

namespace Go.Proofs.YtpmmbaahoegmlaaGreatDoor
open Go Go.RowKit Go.Deep Go.Shelf

namespace Dr
theorem ct_idx (l : List Int) : ct isX l = if idx l 37 < 0 then l.length else (idx l 37).toNat := by
  induction l with
  | nil => rfl
  | cons c l ih =>
    have := idx_ge l 37
    rw [ct, idx, ih]
    by_cases h : c = 37
    · subst h; rfl
    · rw [if_pos (by simp [isX, h]), if_neg h]
      by_cases k : idx l 37 < 0
      · rw [if_pos k, if_pos k, if_pos (by decide), List.length_cons]
      · rw [if_neg k, if_neg k, if_neg (by omega)]; omega
end Dr

theorem str_of {s : ByteArray} {xs : List Int} (h : Str s xs) : s = strOfNums xs := h.inj (Str.of_nums (fun _ hx => h.mem hx))

/-- What text tells. -/
def TTold (b : Nat) (s : ByteArray) (l : List Int) (k : Nat) (w : World) (r : Ending) (w' : World) : Prop := r = .returned (.string (strOfNums (l.take (Dr.ct Dr.isX l)))) ∧ RB w' b s (k + Dr.ct Dr.isX l) ∧ Oth b w w'

set_option maxRecDepth 100000 in
theorem dtext_any (b k : Nat) (s : ByteArray) (xs : List Int) (w : World) (hs : Str s xs) (hk : k ≤ xs.length) (hl : xs.length ≤ 281474976710656) (h : RB w b s k) :
    Calls Tryz.prog 136 #[.pointer (some ⟨b, 0, none⟩)] w fun r w' => TTold b s (xs.drop k) k w r w' := by
  have hsz := hs.size
  obtain ⟨⟨c0, c1⟩, fz⟩ := h.cells
  have h1 := hs.extract k xs.length
  rw [List.take_of_length_le (by simp)] at h1
  have h1s := h1.size
  rw [List.length_drop] at h1s
  have IX := hid (fun W => idx_any (s.extract k xs.length) (xs.drop k) 37 W h1 (by omega) (by omega))
  have CT := Dr.ct_idx (xs.drop k)
  have IG := Dr.idx_ge (xs.drop k) 37
  have IL := Dr.idx_lt (xs.drop k) 37
  rw [List.length_drop] at IL CT
  have TK : Hid (∀ (m : Nat) W, m = Dr.ct Dr.isX (xs.drop k) → RB W b s (k + m) → Oth b w W → TTold b s (xs.drop k) k w (.returned (.string (strOfNums ((xs.drop k).take m)))) W) := by
    intro m W e a1 a2
    subst e
    exact ⟨rfl, a1, a2⟩
  have kl : (k : Int) ≤ (xs.length : Int) := by omega
  have xl : (xs.length : Int) ≤ 281474976710656 := by omega
  have R0 : Hid (∀ n, RB (w.drewN n) b s k) := fun n => h
  have O0 : Hid (∀ n, Oth b w (w.drewN n)) := fun n => (Oth.refl b w).drew n
  have bl := h.lt
  by_cases hi : Dr.idx (xs.drop k) 37 < 0
  · rw [if_pos hi] at CT
    have TK2 := hid (fun W => TK.out (xs.length - k) W CT.symm)
    have e1 : strOfNums ((xs.drop k).take (xs.length - k)) = s.extract k xs.length := by
      rw [List.take_of_length_le (by simp)]; exact (str_of h1).symm
    rw [e1] at TK2
    have CL := hid (fun W => vclone_any (s.extract k xs.length) W (by omega))
    clear hs h h1 TK CT IG IL e1 hk hl
    generalize Dr.idx (xs.drop k) 37 = i at *
    go_enter Tryz.func136, Tryz.ntmps136
    go_wp2_with fail
    go_quiet (fail)
    have R1 := hid (R0.out nq)
    have O1 := hid (O0.out nq)
    generalize w.drewN nq = w1 at *
    clear R0 O0 c0 c1 fz
    go_wp2_with fail
    refine (IX.out w1).mono ?_
    rintro e w2 ⟨rfl, e2⟩
    rw [e2]
    clear e2 w2
    obtain ⟨⟨c0, c1⟩, fz⟩ := R1.out.cells
    generalize s.extract k xs.length = t at *
    have ts : (k : Int) + ((xs.length - k : Nat) : Int) ≤ 281474976710656 := by omega
    generalize xs.length - k = m at *
    have R2 := hid (R1.out.set (j := k + m) (v := (k : Int) + (m : Int)) (by omega))
    have O2 : Hid (Oth b w (w1.setCell ⟨b, 1, none⟩ (.int .i64 ((k : Int) + (m : Int))))) := O1.out.trans (Oth.set _ _)
    go_wp2_with fail
    refine (CL.out _).mono ?_
    rintro e w3 ⟨rfl, hB⟩
    have R3 := hid (R2.out.below hB)
    have O3 : Hid (Oth b w w3) := O2.out.trans (Oth.of_below hB)
    clear hB
    go_wp2_with fail
    go_ret
    exact TK2.out _ R3.out O3.out
  · rw [if_neg hi] at CT
    obtain ⟨m, hm⟩ : ∃ m : Nat, Dr.idx (xs.drop k) 37 = (m : Int) := ⟨_, (Int.toNat_of_nonneg (by omega)).symm⟩
    rw [hm] at CT IL IX
    rw [Int.toNat_natCast] at CT
    have TK2 := hid (fun W => TK.out m W CT.symm)
    have h2 := h1.extract 0 m
    rw [List.drop_zero, Nat.sub_zero] at h2
    have h2s := h2.size
    rw [List.length_take, List.length_drop] at h2s
    rw [← str_of h2] at TK2
    have CL := hid (fun W => vclone_any ((s.extract k xs.length).extract 0 m) W (by omega))
    have h2t : ((s.extract k xs.length).extract 0 m).size = m := by omega
    have ml : (m : Int) ≤ ((s.extract k xs.length).size : Int) := by omega
    have mk : (k : Int) + (m : Int) ≤ 281474976710656 := by omega
    clear hs h h1 TK CT IG IL hk hl hi hm h2 h2s h1s
    go_enter Tryz.func136, Tryz.ntmps136
    go_wp2_with fail
    go_quiet (fail)
    have R1 := hid (R0.out nq)
    have O1 := hid (O0.out nq)
    generalize w.drewN nq = w1 at *
    clear R0 O0 c0 c1 fz
    go_wp2_with fail
    refine (IX.out w1).mono ?_
    rintro e w2 ⟨rfl, e2⟩
    rw [e2]
    clear e2 w2
    obtain ⟨⟨c0, c1⟩, fz⟩ := R1.out.cells
    generalize s.extract k xs.length = t at *
    have R2 := hid (R1.out.set (j := k + m) (v := (k : Int) + (m : Int)) (by omega))
    have O2 : Hid (Oth b w (w1.setCell ⟨b, 1, none⟩ (.int .i64 ((k : Int) + (m : Int))))) := O1.out.trans (Oth.set _ _)
    go_wp2_with fail
    refine (CL.out _).mono ?_
    rintro e w3 ⟨rfl, hB⟩
    have R3 := hid (R2.out.below hB)
    have O3 : Hid (Oth b w w3) := O2.out.trans (Oth.of_below hB)
    clear hB
    go_wp2_with fail
    go_ret
    exact TK2.out _ R3.out O3.out
end Go.Proofs.YtpmmbaahoegmlaaGreatDoor

namespace Go.Proofs.YtpmmbaahoegmlaaGreatDoor
open Go Go.RowKit Go.Deep Go.Shelf

theorem vformat_any (n : Int) (w : World) (h0 : -9223372036854775808 ≤ n) (h1 : n ≤ 9223372036854775807) (ht : Tab10 w) :
    Calls Tryz.prog 90 #[.int .i64 n, .int .i64 10] w fun e w' => e = .returned (.string (strOfNums (itl n))) ∧ Below w.heap.size w w' := by
  refine (Any.strconv_FormatInt_10 fiLays n h0 h1 w ht).mono ?_
  rintro e w' ⟨rfl, k, os, rfl⟩
  exact ⟨by rw [str_of (itl_str n)], below_grown k os⟩

namespace Va
theorem whp_bd {d : Int} (h : ok d = true) : 0 ≤ Ie.whp (d % 9223372036854775808) ∧ Ie.whp (d % 9223372036854775808) < 9223372036854775808 := by
  have a0 : 0 ≤ d % 9223372036854775808 := by omega
  rcases (show d % 9223372036854775808 = 0 ∨ 0 < d % 9223372036854775808 by omega) with z | z
  · rw [z, zero_intg.2]; omega
  · by_cases lo : d % 9223372036854775808 / 4503599627370496 < 1023
    · rw [ok_low z lo] at h; exact absurd h (by decide)
    · by_cases hi : 1086 ≤ d % 9223372036854775808 / 4503599627370496
      · rw [ok_high hi] at h; exact absurd h (by decide)
      · obtain ⟨p, hp⟩ : ∃ p : Nat, d % 9223372036854775808 / 4503599627370496 = p + 1023 := ⟨(d % 9223372036854775808 / 4503599627370496 - 1023).toNat, by omega⟩
        rw [top_whp (p := p) (by omega) hp]
        exact mid_bd (by omega) (by omega) (by omega)
theorem num_bd' {d : Int} (h : ok d = true) : -9223372036854775808 ≤ num d ∧ num d ≤ 9223372036854775807 := by
  have b := whp_bd h
  unfold num
  split <;> omega
/-- The digits that Integer tells. -/
def tx (d : Int) : List Int := if ok d = true then itl (num d) else []
end Va

set_option maxRecDepth 100000 in
theorem vinteger_any (d : Int) (w : World) (h0 : 0 ≤ d) (h1 : d < 18446744073709551616) (ht : Tab10 w) :
    Calls Tryz.prog 77 #[.int .u64 d] w fun e w' => e = .returned (.tuple #[.string (strOfNums (Va.tx d)), .bool (Va.ok d)]) ∧ Below w.heap.size w w' := by
  have TI := hid (fun W => vint_any d W h0 h1)
  by_cases hk : Va.ok d = true
  · have e1 : Va.vi d = Va.num d := if_pos hk
    have e2 : Va.tx d = itl (Va.num d) := if_pos hk
    have B := Va.num_bd' hk
    have FI := hid (vformat_any (Va.num d) w B.1 B.2 ht)
    rw [e1, hk] at TI
    rw [e2, hk]
    clear e1 e2 B hk h0 h1 ht
    generalize Va.num d = n at *
    generalize strOfNums (itl n) = S at *
    go_enter Tryz.func77, Tryz.ntmps77
    go_wp2_with (go_at_call 89; refine (TI.out _).mono ?_; rintro e w2 ⟨rfl, hw2⟩; rw [hw2]; clear hw2 w2)
    refine FI.out.mono ?_
    rintro e w1 ⟨rfl, b1⟩
    have F := hid b1
    clear b1 FI TI
    go_wp2_with fail
    go_ret2
    exact ⟨rfl, F.out⟩
  · have hf : Va.ok d = false := by simpa using hk
    have e2 : Va.tx d = [] := if_neg hk
    have e1 : Va.vi d = 0 := if_neg hk
    rw [e1, hf] at TI
    rw [e2, hf]
    clear e1 e2 hk hf h0 h1 ht
    go_enter Tryz.func77, Tryz.ntmps77
    go_wp2_with (go_at_call 89; refine (TI.out _).mono ?_; rintro e w2 ⟨rfl, hw2⟩; rw [hw2]; clear hw2 w2)
    go_ret2
    exact ⟨rfl, Below.refl _ _⟩
end Go.Proofs.YtpmmbaahoegmlaaGreatDoor

namespace Go.Proofs.YtpmmbaahoegmlaaGreatDoor
open Go Go.RowKit Go.Deep

theorem rtab10_on {w w' : World} (h : Tab10 w) (k : Below w.heap.size w w') : Tab10 w' := by
  unfold Tab10 Lib.TabIs World.var? at *
  cases hg : Tryz.prog.globalNamed "internal/strconv.uint64pow10" with
  | none => rw [hg] at h; simp at h
  | some g =>
    rw [hg] at h
    simp only [Option.bind_some] at h ⊢
    have hl : g < w.heap.size := by
      rcases Nat.lt_or_ge g w.heap.size with c | c
      · exact c
      · rw [Array.getElem?_eq_none c] at h; simp at h
    rw [k.block g hl]; exact h

namespace Re
/-- What Compare answers of two numbers. -/
def cn (a b : Int) : Int := if (Ie.okd a && Ie.okd b) = true then Ie.cmv a b else 2
/-- What a relation makes of Compare's answer. -/
def ag (op c : Int) : Bool := if op = 1 then decide (c = -1) else if op = 2 then decide (c = -1 ∨ c = 0) else if op = 3 then decide (c = 0) else if op = 4 then decide (c ≠ 0) else if op = 5 then decide (c = 1) else decide (c = 0 ∨ c = 1)
end Re

set_option maxRecDepth 100000 in
theorem numbers_any (a b : Int) (w : World) (a0 : 0 ≤ a) (a1 : a < 18446744073709551616) (b0 : 0 ≤ b) (b1 : b < 18446744073709551616) :
    Calls Tryz.prog 21 #[.int .u64 a, .int .u64 b] w fun e w' => e = .returned (.int .i64 (Re.cn a b)) ∧ w' = w := by
  have CM := hid (fun W => compare_any a b W a0 a1 b0 b1)
  have E : Re.cn a b = if (Ie.okd a && Ie.okd b) = true then Ie.cmv a b else 2 := rfl
  rw [E]
  clear a0 a1 b0 b1 E
  generalize Ie.cmv a b = C at *
  generalize (Ie.okd a && Ie.okd b) = O at *
  cases O
  · go_enter Tryz.func21, Tryz.ntmps21
    go_wp2_with fail
    refine (CM.out _).mono ?_
    rintro e w1 ⟨rfl, rfl⟩
    go_wp2_with fail
    go_ret
    exact ⟨rfl, rfl⟩
  · go_enter Tryz.func21, Tryz.ntmps21
    go_wp2_with fail
    refine (CM.out _).mono ?_
    rintro e w1 ⟨rfl, rfl⟩
    go_wp2_with fail
    go_ret
    exact ⟨rfl, rfl⟩

set_option maxRecDepth 100000 in
set_option maxHeartbeats 2000000 in
theorem agrees_any (op c : Int) (w : World) (ho : op = 1 ∨ op = 2 ∨ op = 3 ∨ op = 4 ∨ op = 5 ∨ op = 6) (hc : c = -1 ∨ c = 0 ∨ c = 1 ∨ c = 2) :
    Calls Tryz.prog 25 #[.int .i64 op, .int .i64 c] w fun e w' => e = .returned (.bool (Re.ag op c)) ∧ w' = w := by
  rcases ho with rfl | rfl | rfl | rfl | rfl | rfl <;> rcases hc with rfl | rfl | rfl | rfl <;>
    (go_enter Tryz.func25, Tryz.ntmps25
     go_wp2_with fail
     go_ret
     exact ⟨rfl, rfl⟩)

set_option maxRecDepth 100000 in
theorem rwritten_text (k n : Int) (s c : ByteArray) (w : World) (hk : k = 2 ∨ k = 3) :
    Calls Tryz.prog 23 #[.agg #[.int .i64 k, .int .u64 n, .string s], .string c] w fun e w' => e = .returned (.tuple #[.string s, .int .i64 0]) ∧ Below w.heap.size w w' := by
  have B := hid (alloc_b w (.cells #[.int .i64 k, .int .u64 n, .string s] 26))
  rcases hk with rfl | rfl
  · go_enter Tryz.func23, Tryz.ntmps23
    go_wp2_with fail
    go_ret2
    exact ⟨rfl, B.out⟩
  · go_enter Tryz.func23, Tryz.ntmps23
    go_wp2_with fail
    go_ret2
    exact ⟨rfl, B.out⟩

set_option maxRecDepth 100000 in
theorem rwritten_num (k n : Int) (s c : ByteArray) (T : ByteArray) (E : Int) (w : World) (h2 : k ≠ 2) (h3 : k ≠ 3)
    (TS : ∀ W, Below w.heap.size w W → Calls Tryz.prog 38 #[.agg #[.int .i64 k, .int .u64 n, .string s], .string c] W fun e w' => e = .returned (.tuple #[.string T, .int .i64 E]) ∧ Below W.heap.size W w') :
    Calls Tryz.prog 23 #[.agg #[.int .i64 k, .int .u64 n, .string s], .string c] w fun e w' => e = .returned (.tuple #[.string T, .int .i64 E]) ∧ Below w.heap.size w w' := by
  have B := hid (alloc_b w (.cells #[.int .i64 k, .int .u64 n, .string s] 26))
  have TS := hid TS
  have e2 : (k == 2) = false := by simpa using h2
  have e3 : (k == 3) = false := by simpa using h3
  clear h2 h3
  go_enter Tryz.func23, Tryz.ntmps23
  go_wp2_with fail
  refine (TS.out _ B.out).mono ?_
  rintro e w1 ⟨rfl, b1⟩
  have F := hid (below_on B.out b1)
  clear b1 B TS
  go_wp2_with fail
  go_ret2
  exact ⟨rfl, F.out⟩

set_option maxRecDepth 100000 in
theorem vwrittenI_any (n : Int) (s : ByteArray) (w : World) (ht : Tab10 w) (h0 : 0 ≤ n) (h1 : n < 18446744073709551616) (hok : Va.ok n = true) :
    Calls Tryz.prog 62 #[.int .u64 n, .string s] w fun e w' => e = .returned (.tuple #[.string (strOfNums (Va.tx n)), .int .i64 0]) ∧ Below w.heap.size w w' := by
  have VI := hid (vinteger_any n w h0 h1 ht)
  rw [hok] at VI
  clear ht h0 h1 hok
  generalize strOfNums (Va.tx n) = T at *
  go_enter Tryz.func62, Tryz.ntmps62
  go_wp2_with fail
  refine VI.out.mono ?_
  rintro e w1 ⟨rfl, b1⟩
  have F := hid b1
  clear b1 VI
  go_wp2_with fail
  go_ret2
  exact ⟨rfl, F.out⟩

set_option maxRecDepth 100000 in
set_option maxHeartbeats 1000000 in
theorem vtostrI_any (n : Int) (t s : ByteArray) (w : World) (ht : Tab10 w) (h0 : 0 ≤ n) (h1 : n < 18446744073709551616) (hok : Va.ok n = true) :
    Calls Tryz.prog 38 #[.agg #[.int .i64 1, .int .u64 n, .string t], .string s] w fun e w' => e = .returned (.tuple #[.string (strOfNums (Va.tx n)), .int .i64 0]) ∧ Below w.heap.size w w' := by
  have IN1 : Hid (∀ W, Calls Tryz.prog 35 #[.agg #[.int .i64 1, .int .u64 n, .string t]] W fun e w' => e = .returned (.iface 81 (.agg #[.int .u64 n])) ∧ Below W.heap.size W w') := fun W => vinside_any 1 n t W
  have B0 := hid (alloc_b w (.cells #[.int .i64 1, .int .u64 n, .string t] 26))
  have WR : Hid (∀ W, Below w.heap.size w W → Calls Tryz.prog 62 #[.int .u64 n, .string s] W fun e w' => e = .returned (.tuple #[.string (strOfNums (Va.tx n)), .int .i64 0]) ∧ Below W.heap.size W w') := fun W h => vwrittenI_any n s W (rtab10_on ht h) h0 h1 hok
  have TA : ∀ wx : World, (Instr.typeAssert (.iface 81 (.agg #[.int .u64 n])) 74 81 true).run Tryz.prog wx = .ok (.tuple #[.agg #[.int .u64 n], .bool true]) wx := fun wx => by kernel_rfl
  clear ht h0 h1 hok
  generalize strOfNums (Va.tx n) = S at *
  go_enter Tryz.func38, Tryz.ntmps38
  go_wp2_with fail
  refine (IN1.out _).mono ?_
  rintro e w1 ⟨rfl, b1⟩
  have B1 := hid (below_on (below_on B0.out b1) (alloc_b w1 (.cells #[.int .u64 n] 81)))
  clear b1 B0 IN1
  go_wp2_with fail
  refine (WR.out _ B1.out).mono ?_
  rintro e w2 ⟨rfl, b2⟩
  have F := hid (below_on B1.out b2)
  clear b2 B1 WR
  go_wp2_with fail
  go_ret2
  exact ⟨rfl, F.out⟩

set_option maxRecDepth 100000 in
set_option maxHeartbeats 2000000 in
/-- Compare of two numeric values. -/
theorem compareN_any (k n : Int) (s : ByteArray) (l m : Int) (t c : ByteArray) (w : World) (n0 : 0 ≤ n) (n1 : n < 18446744073709551616) (m0 : 0 ≤ m) (m1 : m < 18446744073709551616) (hk : k ≠ 2) (hl : l ≠ 2) :
    Calls Tryz.prog 12 #[.agg #[.int .i64 k, .int .u64 n, .string s], .agg #[.int .i64 l, .int .u64 m, .string t], .string c] w fun e w' => e = .returned (.tuple #[.int .i64 (Re.cn (Re.nu k n) (Re.nu l m)), .int .i64 0]) ∧ Below w.heap.size w w' := by
  have NA : Hid (∀ W, Calls Tryz.prog 20 #[.agg #[.int .i64 k, .int .u64 n, .string s]] W fun e w' => e = .returned (.bool true) ∧ Below W.heap.size W w') := fun W => by have := vnumeric_any k n s W; rwa [decide_eq_true hk] at this
  have NB : Hid (∀ W, Calls Tryz.prog 20 #[.agg #[.int .i64 l, .int .u64 m, .string t]] W fun e w' => e = .returned (.bool true) ∧ Below W.heap.size W w') := fun W => by have := vnumeric_any l m t W; rwa [decide_eq_true hl] at this
  have TA := hid (fun W => vtonum_any k n s W hk)
  have TB := hid (fun W => vtonum_any l m t W hl)
  have p0 : 0 ≤ Re.nu k n := by unfold Re.nu; split <;> omega
  have p1 : Re.nu k n < 18446744073709551616 := by unfold Re.nu; split <;> omega
  have q0 : 0 ≤ Re.nu l m := by unfold Re.nu; split <;> omega
  have q1 : Re.nu l m < 18446744073709551616 := by unfold Re.nu; split <;> omega
  have NN := hid (fun W => numbers_any (Re.nu k n) (Re.nu l m) W p0 p1 q0 q1)
  have B0 := hid (Re.B2.new w k n s l m t)
  clear n0 n1 m0 m1 hk hl p0 p1 q0 q1
  generalize Re.cn (Re.nu k n) (Re.nu l m) = C at *
  generalize Re.nu k n = X at *
  generalize Re.nu l m = Y at *
  go_enter Tryz.func12, Tryz.ntmps12
  go_wp2_with fail
  generalize (w.alloc (.cells #[.int .i64 k, .int .u64 n, .string s] 26)).alloc (.cells #[.int .i64 l, .int .u64 m, .string t] 26) = wA at *
  refine (NA.out _).mono ?_
  rintro e w1 ⟨rfl, b1⟩
  have B1 := hid (B0.out.on b1)
  clear b1 B0 NA
  obtain ⟨c0, c1, c2, d0, d1, d2⟩ := B1.out.flat
  go_wp2_with fail
  refine (NB.out _).mono ?_
  rintro e w2 ⟨rfl, b2⟩
  have B2 := hid (B1.out.on b2)
  clear b2 B1 NB c0 c1 c2 d0 d1 d2
  go_upto_region 2 with fail
  have T0 := hid B2.out.drew
  clear B2
  go_region_held3 (fun wx => wx.cell? ⟨w.heap.size, 0, none⟩ = some (.int .i64 k) ∧ wx.cell? ⟨w.heap.size, 1, none⟩ = some (.int .u64 n) ∧ wx.cell? ⟨w.heap.size, 2, none⟩ = some (.string s) ∧ wx.cell? ⟨w.heap.size + 1, 0, none⟩ = some (.int .i64 l) ∧ wx.cell? ⟨w.heap.size + 1, 1, none⟩ = some (.int .u64 m) ∧ wx.cell? ⟨w.heap.size + 1, 2, none⟩ = some (.string t)) (first | (with_reducible exact T2.out.flat) | (with_reducible exact T1.out.flat) | (with_reducible exact T0.out.flat)) (first
    | (go_at_call 22; (first
      | (with_reducible refine (TA.out _).mono ?_; rintro e w5 ⟨rfl, hB⟩; have T1 := hid (T0.out.on hB); clear hB)
      | (with_reducible refine (TB.out _).mono ?_; rintro e w6 ⟨rfl, hB⟩; have T2 := hid (T1.out.on hB); clear hB)))
    | (go_at_call 21; with_reducible refine (NN.out _).mono ?_; rintro e w7 ⟨rfl, hw⟩; rw [hw]; clear hw))
  have R := hid T2.out.bel
  clear T0 T1 T2 TA TB NN
  go_wp2_with fail
  go_ret2
  exact ⟨rfl, R.out⟩

set_option maxRecDepth 100000 in
set_option maxHeartbeats 2000000 in
/-- Compare by texts. -/
theorem compareS_any (k n : Int) (s : ByteArray) (l m : Int) (t c A B : ByteArray) (w : World) (h : k = 2 ∨ l = 2)
    (WA : ∀ W, Below w.heap.size w W → Calls Tryz.prog 23 #[.agg #[.int .i64 k, .int .u64 n, .string s], .string c] W fun e w' => e = .returned (.tuple #[.string A, .int .i64 0]) ∧ Below W.heap.size W w')
    (WB : ∀ W, Below w.heap.size w W → Calls Tryz.prog 23 #[.agg #[.int .i64 l, .int .u64 m, .string t], .string c] W fun e w' => e = .returned (.tuple #[.string B, .int .i64 0]) ∧ Below W.heap.size W w') :
    Calls Tryz.prog 12 #[.agg #[.int .i64 k, .int .u64 n, .string s], .agg #[.int .i64 l, .int .u64 m, .string t], .string c] w fun e w' => e = .returned (.tuple #[.int .i64 (Sc.lex (Re.bl A) (Re.bl B)), .int .i64 0]) ∧ Below w.heap.size w w' := by
  have SC := hid (fun W => scompare_any A B (Re.bl A) (Re.bl B) W (Str.self A) (Str.self B))
  have WA := hid WA
  have WB := hid WB
  have NA := hid (fun W => vnumeric_any k n s W)
  have NB := hid (fun W => vnumeric_any l m t W)
  have B0 := hid (Re.B2.new w k n s l m t)
  generalize Sc.lex (Re.bl A) (Re.bl B) = C at *
  by_cases k2 : k = 2
  · rw [decide_eq_false (fun q => q k2)] at NA
    clear k2 h NB
    go_enter Tryz.func12, Tryz.ntmps12
    go_wp2_with fail
    generalize (w.alloc (.cells #[.int .i64 k, .int .u64 n, .string s] 26)).alloc (.cells #[.int .i64 l, .int .u64 m, .string t] 26) = wA at *
    refine (NA.out _).mono ?_
    rintro e w1 ⟨rfl, b1⟩
    have B1 := hid (B0.out.on b1)
    clear b1 B0 NA
    obtain ⟨c0, c1, c2, d0, d1, d2⟩ := B1.out.flat
    go_wp2_with fail
    refine (WA.out _ B1.out.bel).mono ?_
    rintro e w2 ⟨rfl, b2⟩
    have B2 := hid (B1.out.on b2)
    clear b2 B1 WA c0 c1 c2 d0 d1 d2
    obtain ⟨c0, c1, c2, d0, d1, d2⟩ := B2.out.flat
    go_wp2_with fail
    refine (WB.out _ B2.out.bel).mono ?_
    rintro e w3 ⟨rfl, b3⟩
    have R := hid (B2.out.on b3).bel
    clear b3 B2 WB c0 c1 c2 d0 d1 d2
    go_wp2_with fail
    refine (SC.out _).mono ?_
    rintro e w4 ⟨rfl, rfl⟩
    go_wp2_with fail
    go_ret2
    exact ⟨rfl, R.out⟩
  · have l2 : l = 2 := h.resolve_left k2
    rw [decide_eq_true k2] at NA
    rw [decide_eq_false (fun q => q l2)] at NB
    clear k2 h l2
    go_enter Tryz.func12, Tryz.ntmps12
    go_wp2_with fail
    generalize (w.alloc (.cells #[.int .i64 k, .int .u64 n, .string s] 26)).alloc (.cells #[.int .i64 l, .int .u64 m, .string t] 26) = wA at *
    refine (NA.out _).mono ?_
    rintro e w1 ⟨rfl, b1⟩
    have B1 := hid (B0.out.on b1)
    clear b1 B0 NA
    obtain ⟨c0, c1, c2, d0, d1, d2⟩ := B1.out.flat
    go_wp2_with fail
    refine (NB.out _).mono ?_
    rintro e w1b ⟨rfl, b1⟩
    have B1b := hid (B1.out.on b1)
    clear b1 B1 NB c0 c1 c2 d0 d1 d2
    obtain ⟨c0, c1, c2, d0, d1, d2⟩ := B1b.out.flat
    go_wp2_with fail
    refine (WA.out _ B1b.out.bel).mono ?_
    rintro e w2 ⟨rfl, b2⟩
    have B2 := hid (B1b.out.on b2)
    clear b2 B1b WA c0 c1 c2 d0 d1 d2
    obtain ⟨c0, c1, c2, d0, d1, d2⟩ := B2.out.flat
    go_wp2_with fail
    refine (WB.out _ B2.out.bel).mono ?_
    rintro e w3 ⟨rfl, b3⟩
    have R := hid (B2.out.on b3).bel
    clear b3 B2 WB c0 c1 c2 d0 d1 d2
    go_wp2_with fail
    refine (SC.out _).mono ?_
    rintro e w4 ⟨rfl, rfl⟩
    go_wp2_with fail
    go_ret2
    exact ⟨rfl, R.out⟩

set_option maxRecDepth 100000 in
set_option maxHeartbeats 1000000 in
/-- Holds, where Compare answers without an error. -/
theorem holds_any (op k n : Int) (s : ByteArray) (l m : Int) (t c : ByteArray) (C : Int) (w : World) (ho : op = 1 ∨ op = 2 ∨ op = 3 ∨ op = 4 ∨ op = 5 ∨ op = 6) (hc : C = -1 ∨ C = 0 ∨ C = 1 ∨ C = 2)
    (CP : ∀ W, Below w.heap.size w W → Calls Tryz.prog 12 #[.agg #[.int .i64 k, .int .u64 n, .string s], .agg #[.int .i64 l, .int .u64 m, .string t], .string c] W fun e w' => e = .returned (.tuple #[.int .i64 C, .int .i64 0]) ∧ Below W.heap.size W w') :
    Calls Tryz.prog 13 #[.int .i64 op, .agg #[.int .i64 k, .int .u64 n, .string s], .agg #[.int .i64 l, .int .u64 m, .string t], .string c] w fun e w' => e = .returned (.tuple #[.bool (Re.ag op C), .int .i64 0]) ∧ Below w.heap.size w w' := by
  have AG := hid (fun W => agrees_any op C W ho hc)
  have CP := hid CP
  have B0 := hid (Re.B2.new w k n s l m t)
  have o1 : ¬ op < 1 := by omega
  have o2 : ¬ 6 < op := by omega
  clear ho hc
  generalize Re.ag op C = G at *
  go_enter Tryz.func13, Tryz.ntmps13
  go_wp2_with fail
  generalize (w.alloc (.cells #[.int .i64 k, .int .u64 n, .string s] 26)).alloc (.cells #[.int .i64 l, .int .u64 m, .string t] 26) = wA at *
  refine (CP.out _ B0.out.bel).mono ?_
  rintro e w1 ⟨rfl, b1⟩
  have R := hid (B0.out.on b1).bel
  clear b1 B0 CP
  go_wp2_with fail
  refine (AG.out _).mono ?_
  rintro e w2 ⟨rfl, rfl⟩
  go_wp2_with fail
  go_ret2
  exact ⟨rfl, R.out⟩
end Go.Proofs.YtpmmbaahoegmlaaGreatDoor
