/-
  Boxes of seven cells (a Piece).
-/
import Derived.Test.YtaadooippelcfaaDoorDFlags
namespace Go.Proofs.YtaadooippelcfaaDoor
open Go Go.RowKit Go.Deep Go.Shelf

theorem dset1 {w : World} {b o t : Nat} {v : Value} {c c' : Array Value} (h : w.heap[b]? = some (.cells c t (0, 0))) (e : c.setIfInBounds o v = c') : (w.setCell ⟨b, o, none⟩ v).heap[b]? = some (.cells c' t (0, 0)) := by
  subst e
  simp [World.setCell, Array.getElem?_modify, h]

/-- Seven cells that may be written. -/
def P7 (w : World) (b : Nat) (v0 v1 v2 v3 v4 v5 v6 : Value) : Prop := w.heap[b]? = some (.cells #[v0, v1, v2, v3, v4, v5, v6] 25 (0, 0))
theorem P7.new (w : World) (v0 v1 v2 v3 v4 v5 v6 : Value) : P7 (w.alloc (.cells #[v0, v1, v2, v3, v4, v5, v6] 25)) w.heap.size v0 v1 v2 v3 v4 v5 v6 := heap_alloc_new w _
theorem P7.lt {w : World} {b : Nat} {v0 v1 v2 v3 v4 v5 v6 : Value} (h : P7 w b v0 v1 v2 v3 v4 v5 v6) : b < w.heap.size := by
  rcases Nat.lt_or_ge b w.heap.size with hl | hl
  · exact hl
  · simp [P7, Array.getElem?_eq_none hl] at h
theorem P7.below {w w' : World} {b : Nat} {v0 v1 v2 v3 v4 v5 v6 : Value} (h : P7 w b v0 v1 v2 v3 v4 v5 v6) (hB : Below w.heap.size w w') : P7 w' b v0 v1 v2 v3 v4 v5 v6 := by
  rw [P7, hB.block b h.lt]; exact h
theorem P7.oth {w w' : World} {g b : Nat} {v0 v1 v2 v3 v4 v5 v6 : Value} (h : P7 w b v0 v1 v2 v3 v4 v5 v6) (k : Oth g w w') (hg : b ≠ g) : P7 w' b v0 v1 v2 v3 v4 v5 v6 := by
  rw [P7, k.block b h.lt hg]; exact h
theorem P7.cells {w : World} {b : Nat} {v0 v1 v2 v3 v4 v5 v6 : Value} (h : P7 w b v0 v1 v2 v3 v4 v5 v6) :
    (w.cell? ⟨b, 0, none⟩ = some v0 ∧ w.cell? ⟨b, 1, none⟩ = some v1 ∧ w.cell? ⟨b, 2, none⟩ = some v2 ∧ w.cell? ⟨b, 3, none⟩ = some v3 ∧ w.cell? ⟨b, 4, none⟩ = some v4 ∧ w.cell? ⟨b, 5, none⟩ = some v5 ∧ w.cell? ⟨b, 6, none⟩ = some v6) ∧
    (w.frozen? ⟨b, 0, none⟩ = false ∧ w.frozen? ⟨b, 1, none⟩ = false ∧ w.frozen? ⟨b, 2, none⟩ = false ∧ w.frozen? ⟨b, 3, none⟩ = false ∧ w.frozen? ⟨b, 4, none⟩ = false ∧ w.frozen? ⟨b, 5, none⟩ = false ∧ w.frozen? ⟨b, 6, none⟩ = false) := by
  simp only [P7] at h
  refine ⟨⟨?_, ?_, ?_, ?_, ?_, ?_, ?_⟩, ⟨?_, ?_, ?_, ?_, ?_, ?_, ?_⟩⟩ <;> simp [World.cell?, World.frozen?, h]
theorem P7.far {w : World} {b c o : Nat} {v v0 v1 v2 v3 v4 v5 v6 : Value} (h : P7 w b v0 v1 v2 v3 v4 v5 v6) (hc : c ≠ b) : P7 (w.setCell ⟨c, o, none⟩ v) b v0 v1 v2 v3 v4 v5 v6 := by
  simp only [P7] at *
  simp only [World.setCell, Array.getElem?_modify]
  rw [if_neg hc]; exact h
theorem P7.s1 {w : World} {b : Nat} {v v0 v1 v2 v3 v4 v5 v6 : Value} (h : P7 w b v0 v1 v2 v3 v4 v5 v6) : P7 (w.setCell ⟨b, 1, none⟩ v) b v0 v v2 v3 v4 v5 v6 := dset1 h rfl
theorem P7.s2 {w : World} {b : Nat} {v v0 v1 v2 v3 v4 v5 v6 : Value} (h : P7 w b v0 v1 v2 v3 v4 v5 v6) : P7 (w.setCell ⟨b, 2, none⟩ v) b v0 v1 v v3 v4 v5 v6 := dset1 h rfl
theorem P7.s3 {w : World} {b : Nat} {v v0 v1 v2 v3 v4 v5 v6 : Value} (h : P7 w b v0 v1 v2 v3 v4 v5 v6) : P7 (w.setCell ⟨b, 3, none⟩ v) b v0 v1 v2 v v4 v5 v6 := dset1 h rfl
theorem P7.s4 {w : World} {b : Nat} {v v0 v1 v2 v3 v4 v5 v6 : Value} (h : P7 w b v0 v1 v2 v3 v4 v5 v6) : P7 (w.setCell ⟨b, 4, none⟩ v) b v0 v1 v2 v3 v v5 v6 := dset1 h rfl
theorem P7.s5 {w : World} {b : Nat} {v v0 v1 v2 v3 v4 v5 v6 : Value} (h : P7 w b v0 v1 v2 v3 v4 v5 v6) : P7 (w.setCell ⟨b, 5, none⟩ v) b v0 v1 v2 v3 v4 v v6 := dset1 h rfl
theorem P7.s6 {w : World} {b : Nat} {v v0 v1 v2 v3 v4 v5 v6 : Value} (h : P7 w b v0 v1 v2 v3 v4 v5 v6) : P7 (w.setCell ⟨b, 6, none⟩ v) b v0 v1 v2 v3 v4 v5 v := dset1 h rfl
theorem P7.put {w : World} {b : Nat} {v0 v1 v2 v3 v4 v5 v6 : Value} (h : P7 w b v0 v1 v2 v3 v4 v5 v6) (u0 u1 u2 u3 u4 u5 u6 : Value) :
    P7 (((((((w.setCell ⟨b, 0, none⟩ u0).setCell ⟨b, 1, none⟩ u1).setCell ⟨b, 2, none⟩ u2).setCell ⟨b, 3, none⟩ u3).setCell ⟨b, 4, none⟩ u4).setCell ⟨b, 5, none⟩ u5).setCell ⟨b, 6, none⟩ u6) b u0 u1 u2 u3 u4 u5 u6 := by
  have h0 : P7 (w.setCell ⟨b, 0, none⟩ u0) b u0 v1 v2 v3 v4 v5 v6 := dset1 h rfl
  exact h0.s1.s2.s3.s4.s5.s6

theorem RB.far {w : World} {b c o k : Nat} {s : ByteArray} {v : Value} (h : RB w b s k) (hc : c ≠ b) : RB (w.setCell ⟨c, o, none⟩ v) b s k := by
  simp only [RB] at *
  simp only [World.setCell, Array.getElem?_modify]
  rw [if_neg hc]; exact h

/-- The state of a reading function: the reader, what has stayed, the result's box, the piece's box. -/
structure DS (w : World) (b : Nat) (s : ByteArray) (j : Nat) (v0 v1 v2 v3 v4 v5 v6 : Value) (wx : World) : Prop where
  rb : RB wx b s j
  bl : b < w.heap.size
  os : wx.os = w.os
  tape : wx.tape = w.tape
  output : wx.output = w.output
  size : w.heap.size ≤ wx.heap.size
  block : ∀ j, j < w.heap.size → j ≠ b → wx.heap[j]? = w.heap[j]?
  res : P7 wx w.heap.size (.string ⟨#[]⟩) (.int .u8 0) (.int .i64 0) (.int .i64 0) (.int .i64 0) (.int .i64 0) (.int .i64 0)
  box : P7 wx (w.heap.size + 1) v0 v1 v2 v3 v4 v5 v6

theorem DS.call {w wx wy : World} {b j j' : Nat} {s : ByteArray} {v0 v1 v2 v3 v4 v5 v6 : Value} (h : DS w b s j v0 v1 v2 v3 v4 v5 v6 wx) (r : RB wy b s j') (k : Oth b wx wy) : DS w b s j' v0 v1 v2 v3 v4 v5 v6 wy :=
  have := h.bl
  ⟨r, h.bl, k.os.trans h.os, k.tape.trans h.tape, k.output.trans h.output, Nat.le_trans h.size k.size, fun i hi hb => (k.block i (Nat.lt_of_lt_of_le hi h.size) hb).trans (h.block i hi hb), h.res.oth k (by omega), h.box.oth k (by omega)⟩
theorem DS.set {w wx : World} {b j o : Nat} {s : ByteArray} {v v0 v1 v2 v3 v4 v5 v6 u0 u1 u2 u3 u4 u5 u6 : Value} (h : DS w b s j v0 v1 v2 v3 v4 v5 v6 wx) (k : P7 wx (w.heap.size + 1) v0 v1 v2 v3 v4 v5 v6 → P7 (wx.setCell ⟨w.heap.size + 1, o, none⟩ v) (w.heap.size + 1) u0 u1 u2 u3 u4 u5 u6) : DS w b s j u0 u1 u2 u3 u4 u5 u6 (wx.setCell ⟨w.heap.size + 1, o, none⟩ v) := by
  have hb := h.bl
  refine ⟨h.rb.far (by omega), h.bl, h.os, h.tape, h.output, by simp [World.setCell]; exact h.size, fun i hi hne => ?_, h.res.far (by omega), k h.box⟩
  rw [← h.block i hi hne]
  simp only [World.setCell, Array.getElem?_modify]
  rw [if_neg (by omega)]
theorem DS.oth {w wx : World} {b j : Nat} {s : ByteArray} {v0 v1 v2 v3 v4 v5 v6 : Value} (h : DS w b s j v0 v1 v2 v3 v4 v5 v6 wx) : Oth b w wx := ⟨h.os, h.tape, h.output, h.size, h.block⟩
theorem Oth.far {w wx : World} {g b o : Nat} {v : Value} (h : Oth b w wx) (hg : w.heap.size ≤ g) : Oth b w (wx.setCell ⟨g, o, none⟩ v) := by
  refine ⟨h.os, h.tape, h.output, by simp [World.setCell]; exact h.size, fun i hi hne => ?_⟩
  rw [← h.block i hi hne]
  simp only [World.setCell, Array.getElem?_modify]
  rw [if_neg (by omega)]
/-- The end: the result's box is written. -/
theorem DS.fin {w wx : World} {b j : Nat} {s : ByteArray} {v0 v1 v2 v3 v4 v5 v6 : Value} (h : DS w b s j v0 v1 v2 v3 v4 v5 v6 wx) (u0 u1 u2 u3 u4 u5 u6 : Value) :
    P7 (((((((wx.setCell ⟨w.heap.size, 0, none⟩ u0).setCell ⟨w.heap.size, 1, none⟩ u1).setCell ⟨w.heap.size, 2, none⟩ u2).setCell ⟨w.heap.size, 3, none⟩ u3).setCell ⟨w.heap.size, 4, none⟩ u4).setCell ⟨w.heap.size, 5, none⟩ u5).setCell ⟨w.heap.size, 6, none⟩ u6) w.heap.size u0 u1 u2 u3 u4 u5 u6 ∧
    RB (((((((wx.setCell ⟨w.heap.size, 0, none⟩ u0).setCell ⟨w.heap.size, 1, none⟩ u1).setCell ⟨w.heap.size, 2, none⟩ u2).setCell ⟨w.heap.size, 3, none⟩ u3).setCell ⟨w.heap.size, 4, none⟩ u4).setCell ⟨w.heap.size, 5, none⟩ u5).setCell ⟨w.heap.size, 6, none⟩ u6) b s j ∧
    Oth b w (((((((wx.setCell ⟨w.heap.size, 0, none⟩ u0).setCell ⟨w.heap.size, 1, none⟩ u1).setCell ⟨w.heap.size, 2, none⟩ u2).setCell ⟨w.heap.size, 3, none⟩ u3).setCell ⟨w.heap.size, 4, none⟩ u4).setCell ⟨w.heap.size, 5, none⟩ u5).setCell ⟨w.heap.size, 6, none⟩ u6) := by
  have hb := h.bl
  have ne : w.heap.size ≠ b := by omega
  have le : w.heap.size ≤ w.heap.size := Nat.le_refl _
  exact ⟨h.res.put _ _ _ _ _ _ _, ((((((h.rb.far ne).far ne).far ne).far ne).far ne).far ne).far ne, ((((((h.oth.far le).far le).far le).far le).far le).far le).far le⟩

/-- A piece's cells. -/
def pcv (p : Dr.Pc) : Array Value := #[.string (strOfNums p.t), .int .u8 p.v, .int .i64 p.fl, .int .i64 p.wk, .int .i64 p.wd, .int .i64 p.pk, .int .i64 p.pr]
theorem str_nil1 : strOfNums [] = ⟨#[]⟩ := rfl
theorem pcv_no : pcv Dr.Pc.no = #[.string ⟨#[]⟩, .int .u8 0, .int .i64 0, .int .i64 0, .int .i64 0, .int .i64 0, .int .i64 0] := rfl

/-- What precision tells. -/
def PTold (b : Nat) (s : ByteArray) (l : List Int) (k : Nat) (w : World) (r : Ending) (w' : World) : Prop := r = .returned (.tuple #[.int .i64 (Dr.pk l), .int .i64 (Dr.pv l), .int .i64 (Dr.pe l)]) ∧ RB w' b s (k + Dr.pu l) ∧ Oth b w w'

set_option maxRecDepth 100000 in
theorem precision_any (b k : Nat) (s : ByteArray) (xs : List Int) (w : World) (hs : Str s xs) (hk : k ≤ xs.length) (hl : xs.length ≤ 4611686018427387904) (h : RB w b s k) :
    Calls Tryd.prog 55 #[.pointer (some ⟨b, 0, none⟩)] w fun r w' => PTold b s (xs.drop k) k w r w' := by
  have N := hid (next_any b k s xs w hs hk h)
  have HH : Hid ((xs.drop k).headD 0 = Dr.nx xs k) := Dr.head_drop xs k
  have hkl : (k : Int) ≤ 4611686018427387904 := by omega
  have H := hid h
  by_cases h46 : Dr.nx xs k = 46
  · have hlt : k < xs.length := Dr.getD_pos (by rw [h46]; decide)
    have NU : Hid (∀ W, RB W b s (k + 1) → Calls Tryd.prog 54 #[.pointer (some ⟨b, 0, none⟩)] W fun r w' => r = .returned (.tuple #[.int .i64 (Dr.nk (xs.drop (k + 1))), .int .i64 (Dr.nv (xs.drop (k + 1))), .int .i64 (Dr.ne (xs.drop (k + 1)))]) ∧ RB w' b s (k + 1 + Dr.nu (xs.drop (k + 1))) ∧ Oth b W w') := fun W hb => number_any b (k + 1) s xs W hs (by omega) hl hb
    have tl : (xs.drop k).tail = xs.drop (k + 1) := by rw [List.tail_drop]
    have KK : Hid (∀ (r : Int) W, r = (if Dr.ne (xs.drop (k + 1)) = 0 ∧ Dr.nk (xs.drop (k + 1)) = 0 then 1 else Dr.nk (xs.drop (k + 1))) → RB W b s (k + 1 + Dr.nu (xs.drop (k + 1))) → Oth b w W → PTold b s (xs.drop k) k w (.returned (.tuple #[.int .i64 r, .int .i64 (Dr.nv (xs.drop (k + 1))), .int .i64 (Dr.ne (xs.drop (k + 1)))])) W) := by
      intro r W e a1 a2
      have hh := HH.out
      rw [h46] at hh
      refine ⟨?_, ?_, a2⟩
      · rw [Dr.pk, Dr.pv, Dr.pe, if_pos hh, if_pos hh, if_pos hh, tl, e]
      · rw [Dr.pu, if_pos hh, tl, ← Nat.add_assoc]; exact a1
    rw [h46] at N
    clear HH h46 hs h hlt tl
    generalize Dr.nk (xs.drop (k + 1)) = K1 at *
    generalize Dr.nv (xs.drop (k + 1)) = V1 at *
    generalize Dr.ne (xs.drop (k + 1)) = E1 at *
    generalize k + 1 + Dr.nu (xs.drop (k + 1)) = j1 at *
    go_enter Tryd.func55, Tryd.ntmps55
    go_wp2_with fail
    refine N.out.mono ?_
    rintro e w1 ⟨rfl, hB⟩
    have R1 := hid (H.out.below hB)
    have O1 : Hid (Oth b w w1) := Oth.of_below hB
    clear hB
    obtain ⟨⟨c0, c1⟩, fz⟩ := R1.out.cells
    go_wp2_with fail
    refine (NU.out _ (R1.out.set (by go_num))).mono ?_
    rintro e w2 ⟨rfl, r2, o2⟩
    have R2 := hid r2
    have O2 := hid ((O1.out.trans (Oth.set _ _)).trans o2)
    clear r2 o2 c0 c1 fz
    by_cases e1 : E1 = 0
    · subst e1
      by_cases k1 : K1 = 0
      · subst k1
        go_wp2_with fail
        go_ret3
        exact KK.out 1 _ (by simp) R2.out O2.out
      · go_wp2_with fail
        go_ret3
        exact KK.out K1 _ (by simp [k1]) R2.out O2.out
    · go_wp2_with fail
      go_ret3
      exact KK.out K1 _ (by simp [e1]) R2.out O2.out
  · have KK : Hid (∀ W, RB W b s k → Oth b w W → PTold b s (xs.drop k) k w (.returned (.tuple #[.int .i64 0, .int .i64 0, .int .i64 0])) W) := by
      intro W a1 a2
      have hh : ¬ (xs.drop k).headD 0 = 46 := by rw [HH.out]; exact h46
      refine ⟨?_, ?_, a2⟩
      · rw [Dr.pk, Dr.pv, Dr.pe, if_neg hh, if_neg hh, if_neg hh]
      · rw [Dr.pu, if_neg hh]; exact a1
    clear HH hs h
    generalize Dr.nx xs k = x at *
    go_enter Tryd.func55, Tryd.ntmps55
    go_wp2_with fail
    refine N.out.mono ?_
    rintro e w1 ⟨rfl, hB⟩
    have R1 := hid (H.out.below hB)
    have O1 : Hid (Oth b w w1) := Oth.of_below hB
    clear hB
    go_wp2_with fail
    go_ret3
    exact KK.out _ R1.out O1.out

/-- What verb tells. -/
def VTold (b : Nat) (s : ByteArray) (l : List Int) (k : Nat) (w : World) (r : Ending) (w' : World) : Prop := r = .returned (.tuple #[.int .u8 (Dr.vv l), .int .i64 (Dr.ve l)]) ∧ RB w' b s (k + Dr.vu l) ∧ Oth b w w'

theorem Oth.drew {g : Nat} {a b : World} (h : Oth g a b) (n : Nat) : Oth g a (b.drewN n) := ⟨h.os, h.tape, h.output, h.size, h.block⟩

set_option maxRecDepth 100000 in
theorem verb_any (b k : Nat) (s : ByteArray) (xs : List Int) (w : World) (hs : Str s xs) (hk : k ≤ xs.length) (hl : xs.length ≤ 4611686018427387904) (h : RB w b s k) :
    Calls Tryd.prog 56 #[.pointer (some ⟨b, 0, none⟩)] w fun r w' => VTold b s (xs.drop k) k w r w' := by
  have N := hid (next_any b k s xs w hs hk h)
  have IX : Hid (∀ (c : Int) (W : World), 0 ≤ c → c < 256 → Calls Tryd.prog 38 #[.string ⟨#[100, 105, 111, 117, 120, 88, 99, 115, 101, 69, 102, 70, 103, 71]⟩, .int .u8 c] W fun e w' => e = .returned (.int .i64 (Dr.idx Dr.verbs c)) ∧ w' = W) := fun c W h0 h1 => idx_any ⟨#[100, 105, 111, 117, 120, 88, 99, 115, 101, 69, 102, 70, 103, 71]⟩ Dr.verbs c W rfl h0 h1
  have HH : Hid ((xs.drop k).headD 0 = Dr.nx xs k) := Dr.head_drop xs k
  have hkl : (k : Int) ≤ 4611686018427387904 := by omega
  have hx : 0 ≤ Dr.nx xs k ∧ Dr.nx xs k < 256 := hs.atb k
  obtain ⟨x0, x1⟩ := hx
  have hsz := hs.size
  have H := hid h
  have E : Hid (∀ W, xs.drop k = [] → RB W b s k → Oth b w W → VTold b s (xs.drop k) k w (.returned (.tuple #[.int .u8 0, .int .i64 131])) W) := by
    intro W e a1 a2
    have ev : Dr.ve (xs.drop k) = 131 := by rw [Dr.ve, if_pos e]
    exact ⟨by rw [Dr.vv, ev]; rfl, by rw [Dr.vu, ev]; exact a1, a2⟩
  have E2 : Hid (∀ W, ¬ xs.drop k = [] → Dr.idx Dr.verbs (Dr.nx xs k) < 0 → RB W b s k → Oth b w W → VTold b s (xs.drop k) k w (.returned (.tuple #[.int .u8 0, .int .i64 130])) W) := by
    intro W e e2 a1 a2
    have ev : Dr.ve (xs.drop k) = 130 := by rw [Dr.ve, if_neg e, HH.out, if_pos e2]
    exact ⟨by rw [Dr.vv, ev]; rfl, by rw [Dr.vu, ev]; exact a1, a2⟩
  have E3 : Hid (∀ W, ¬ xs.drop k = [] → ¬ Dr.idx Dr.verbs (Dr.nx xs k) < 0 → RB W b s (k + 1) → Oth b w W → VTold b s (xs.drop k) k w (.returned (.tuple #[.int .u8 (Dr.nx xs k), .int .i64 0])) W) := by
    intro W e e2 a1 a2
    have ev : Dr.ve (xs.drop k) = 0 := by rw [Dr.ve, if_neg e, HH.out, if_neg e2]
    exact ⟨by rw [Dr.vv, ev, HH.out]; rfl, by rw [Dr.vu, ev]; exact a1, a2⟩
  have dn : xs.drop k = [] ↔ xs.length ≤ k := List.drop_eq_nil_iff
  have I1 := hid (IX.out (Dr.nx xs k))
  clear HH hs h IX
  generalize Dr.nx xs k = x at *
  generalize Dr.idx Dr.verbs x = i at *
  by_cases he : k = xs.length
  · have F := hid (fun W => E.out W (dn.2 (by omega)))
    have he2 : (k : Int) = (xs.length : Int) := by omega
    clear E E2 E3 dn he hk hl I1
    go_enter Tryd.func56, Tryd.ntmps56
    go_wp2_with fail
    refine N.out.mono ?_
    rintro e w1 ⟨rfl, hB⟩
    have R1 := hid (H.out.below hB)
    have O1 : Hid (Oth b w w1) := Oth.of_below hB
    obtain ⟨⟨c0, c1⟩, fz⟩ := R1.out.cells
    clear hB
    go_wp2_with fail
    go_quiet (fail)
    go_wp2_with fail
    go_ret2
    exact F.out _ R1.out (O1.out.drew _)
  · have ne : ¬ xs.drop k = [] := fun q => by have := dn.1 q; omega
    have he2 : ¬ (k : Int) = (xs.length : Int) := by omega
    have F2 := hid (fun W => E2.out W ne)
    have F3 := hid (fun W => E3.out W ne)
    clear E E2 E3 dn he hk hl ne
    go_enter Tryd.func56, Tryd.ntmps56
    go_wp2_with fail
    refine N.out.mono ?_
    rintro e w1 ⟨rfl, hB⟩
    have R1 := hid (H.out.below hB)
    have O1 : Hid (Oth b w w1) := Oth.of_below hB
    obtain ⟨⟨c0, c1⟩, fz⟩ := R1.out.cells
    clear hB
    go_wp2_with fail
    go_quiet (fail)
    have R2 : Hid (RB (w1.drewN nq) b s k) := R1.out
    have O2 := hid (O1.out.drew nq)
    generalize w1.drewN nq = w2 at *
    obtain ⟨⟨c0, c1⟩, fz⟩ := R2.out.cells
    by_cases hi : i < 0
    · go_wp2_with fail
      refine (I1.out w2 x0 x1).mono ?_
      rintro e w3 ⟨rfl, e3⟩
      rw [e3]
      go_wp2_with fail
      go_ret2
      exact F2.out _ hi R2.out O2.out
    · go_wp2_with fail
      refine (I1.out w2 x0 x1).mono ?_
      rintro e w3 ⟨rfl, e3⟩
      rw [e3]
      clear e3
      go_wp2_with fail
      go_ret2
      exact F3.out _ hi (R2.out.set (by go_num)) (O2.out.trans (Oth.set _ _))
end Go.Proofs.YtaadooippelcfaaDoor
