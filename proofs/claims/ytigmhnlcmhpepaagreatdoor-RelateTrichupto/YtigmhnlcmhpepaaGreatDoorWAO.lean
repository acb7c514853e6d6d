/-
  Texts put together: DBox, DText, VaB, DForm.
-/
import Derived.Test.YtigmhnlcmhpepaaGreatDoorWAK
import Derived.Test.YtigmhnlcmhpepaaGreatDoorWAH
import Derived.Test.YtigmhnlcmhpepaaGreatDoorWAD
import Derived.Test.YtigmhnlcmhpepaaGreatDoorWAG
namespace Go.Proofs.YtigmhnlcmhpepaaGreatDoor
open Go Go.RowKit Go.Deep Go.Shelf

theorem dset1 {w : World} {b o t : Nat} {v : Value} {c c' : Array Value} (h : w.heap[b]? = some (.cells c t (0, 0))) (e : c.setIfInBounds o v = c') : (w.setCell ⟨b, o, none⟩ v).heap[b]? = some (.cells c' t (0, 0)) := by
  subst e
  simp [World.setCell, Array.getElem?_modify, h]

/-- Seven cells that may be written. -/
def P7 (w : World) (b : Nat) (v0 v1 v2 v3 v4 v5 v6 : Value) : Prop := w.heap[b]? = some (.cells #[v0, v1, v2, v3, v4, v5, v6] 163 (0, 0))
theorem P7.new (w : World) (v0 v1 v2 v3 v4 v5 v6 : Value) : P7 (w.alloc (.cells #[v0, v1, v2, v3, v4, v5, v6] 163)) w.heap.size v0 v1 v2 v3 v4 v5 v6 := heap_alloc_new w _
theorem P7.lt {w : World} {b : Nat} {v0 v1 v2 v3 v4 v5 v6 : Value} (h : P7 w b v0 v1 v2 v3 v4 v5 v6) : b < w.heap.size := by
  rcases Nat.lt_or_ge b w.heap.size with hl | hl
  · exact hl
  · simp [P7, Array.getElem?_eq_none hl] at h
theorem P7.below {w w' : World} {b : Nat} {v0 v1 v2 v3 v4 v5 v6 : Value} (h : P7 w b v0 v1 v2 v3 v4 v5 v6) (hB : Below w.heap.size w w') : P7 w' b v0 v1 v2 v3 v4 v5 v6 := by
  rw [P7, hB.block b h.lt]; exact h
theorem P7.oth {w w' : World} {g b : Nat} {v0 v1 v2 v3 v4 v5 v6 : Value} (h : P7 w b v0 v1 v2 v3 v4 v5 v6) (k : Oth g w w') (hg : b ≠ g) : P7 w' b v0 v1 v2 v3 v4 v5 v6 := by
  rw [P7, k.block b h.lt hg]; exact h
theorem P7.cells {w : World} {b : Nat} {v0 v1 v2 v3 v4 v5 v6 : Value} (h : P7 w b v0 v1 v2 v3 v4 v5 v6) :
    (w.cell? ⟨b, 0, none⟩ = some v0 ∧ w.cell? ⟨b, 1, none⟩ = some v1 ∧ w.cell? ⟨b, 2, none⟩ = some v2 ∧ w.cell? ⟨b, 3, none⟩ = some v3 ∧ w.cell? ⟨b, 4, none⟩ = some v4 ∧ w.cell? ⟨b, 5, none⟩ = some v5 ∧ w.cell? ⟨b, 6, none⟩ = some v6) ∧
    (w.frozen? ⟨b, 0, none⟩ = false ∧ w.frozen? ⟨b, 1, none⟩ = false ∧ w.frozen? ⟨b, 2, none⟩ = false ∧ w.frozen? ⟨b, 3, none⟩ = false ∧ w.frozen? ⟨b, 4, none⟩ = false ∧ w.frozen? ⟨b, 5, none⟩ = false ∧ w.frozen? ⟨b, 6, none⟩ = false) := by
  simp only [P7] at h
  refine ⟨⟨?_, ?_, ?_, ?_, ?_, ?_, ?_⟩, ⟨?_, ?_, ?_, ?_, ?_, ?_, ?_⟩⟩ <;> simp [World.cell?, World.frozen?, h]
theorem P7.far {w : World} {b c o : Nat} {v v0 v1 v2 v3 v4 v5 v6 : Value} (h : P7 w b v0 v1 v2 v3 v4 v5 v6) (hc : c ≠ b) : P7 (w.setCell ⟨c, o, none⟩ v) b v0 v1 v2 v3 v4 v5 v6 := by
  simp only [P7] at *
  simp only [World.setCell, Array.getElem?_modify]
  rw [if_neg hc]; exact h
theorem P7.s1 {w : World} {b : Nat} {v v0 v1 v2 v3 v4 v5 v6 : Value} (h : P7 w b v0 v1 v2 v3 v4 v5 v6) : P7 (w.setCell ⟨b, 1, none⟩ v) b v0 v v2 v3 v4 v5 v6 := dset1 h rfl
theorem P7.s2 {w : World} {b : Nat} {v v0 v1 v2 v3 v4 v5 v6 : Value} (h : P7 w b v0 v1 v2 v3 v4 v5 v6) : P7 (w.setCell ⟨b, 2, none⟩ v) b v0 v1 v v3 v4 v5 v6 := dset1 h rfl
theorem P7.s3 {w : World} {b : Nat} {v v0 v1 v2 v3 v4 v5 v6 : Value} (h : P7 w b v0 v1 v2 v3 v4 v5 v6) : P7 (w.setCell ⟨b, 3, none⟩ v) b v0 v1 v2 v v4 v5 v6 := dset1 h rfl
theorem P7.s4 {w : World} {b : Nat} {v v0 v1 v2 v3 v4 v5 v6 : Value} (h : P7 w b v0 v1 v2 v3 v4 v5 v6) : P7 (w.setCell ⟨b, 4, none⟩ v) b v0 v1 v2 v3 v v5 v6 := dset1 h rfl
theorem P7.s5 {w : World} {b : Nat} {v v0 v1 v2 v3 v4 v5 v6 : Value} (h : P7 w b v0 v1 v2 v3 v4 v5 v6) : P7 (w.setCell ⟨b, 5, none⟩ v) b v0 v1 v2 v3 v4 v v6 := dset1 h rfl
theorem P7.s6 {w : World} {b : Nat} {v v0 v1 v2 v3 v4 v5 v6 : Value} (h : P7 w b v0 v1 v2 v3 v4 v5 v6) : P7 (w.setCell ⟨b, 6, none⟩ v) b v0 v1 v2 v3 v4 v5 v := dset1 h rfl
theorem P7.put {w : World} {b : Nat} {v0 v1 v2 v3 v4 v5 v6 : Value} (h : P7 w b v0 v1 v2 v3 v4 v5 v6) (u0 u1 u2 u3 u4 u5 u6 : Value) :
    P7 (((((((w.setCell ⟨b, 0, none⟩ u0).setCell ⟨b, 1, none⟩ u1).setCell ⟨b, 2, none⟩ u2).setCell ⟨b, 3, none⟩ u3).setCell ⟨b, 4, none⟩ u4).setCell ⟨b, 5, none⟩ u5).setCell ⟨b, 6, none⟩ u6) b u0 u1 u2 u3 u4 u5 u6 := by
  have h0 : P7 (w.setCell ⟨b, 0, none⟩ u0) b u0 v1 v2 v3 v4 v5 v6 := dset1 h rfl
  exact h0.s1.s2.s3.s4.s5.s6

theorem RB.far {w : World} {b c o k : Nat} {s : ByteArray} {v : Value} (h : RB w b s k) (hc : c ≠ b) : RB (w.setCell ⟨c, o, none⟩ v) b s k := by
  simp only [RB] at *
  simp only [World.setCell, Array.getElem?_modify]
  rw [if_neg hc]; exact h

/-- The state of a reading function: the reader, what has stayed, the result's box, the piece's box. -/
structure DS (w : World) (b : Nat) (s : ByteArray) (j : Nat) (v0 v1 v2 v3 v4 v5 v6 : Value) (wx : World) : Prop where
  rb : RB wx b s j
  bl : b < w.heap.size
  os : wx.os = w.os
  tape : wx.tape = w.tape
  output : wx.output = w.output
  size : w.heap.size ≤ wx.heap.size
  block : ∀ j, j < w.heap.size → j ≠ b → wx.heap[j]? = w.heap[j]?
  res : P7 wx w.heap.size (.string ⟨#[]⟩) (.int .u8 0) (.int .i64 0) (.int .i64 0) (.int .i64 0) (.int .i64 0) (.int .i64 0)
  box : P7 wx (w.heap.size + 1) v0 v1 v2 v3 v4 v5 v6

theorem DS.call {w wx wy : World} {b j j' : Nat} {s : ByteArray} {v0 v1 v2 v3 v4 v5 v6 : Value} (h : DS w b s j v0 v1 v2 v3 v4 v5 v6 wx) (r : RB wy b s j') (k : Oth b wx wy) : DS w b s j' v0 v1 v2 v3 v4 v5 v6 wy :=
  have := h.bl
  ⟨r, h.bl, k.os.trans h.os, k.tape.trans h.tape, k.output.trans h.output, Nat.le_trans h.size k.size, fun i hi hb => (k.block i (Nat.lt_of_lt_of_le hi h.size) hb).trans (h.block i hi hb), h.res.oth k (by omega), h.box.oth k (by omega)⟩
theorem DS.set {w wx : World} {b j o : Nat} {s : ByteArray} {v v0 v1 v2 v3 v4 v5 v6 u0 u1 u2 u3 u4 u5 u6 : Value} (h : DS w b s j v0 v1 v2 v3 v4 v5 v6 wx) (k : P7 wx (w.heap.size + 1) v0 v1 v2 v3 v4 v5 v6 → P7 (wx.setCell ⟨w.heap.size + 1, o, none⟩ v) (w.heap.size + 1) u0 u1 u2 u3 u4 u5 u6) : DS w b s j u0 u1 u2 u3 u4 u5 u6 (wx.setCell ⟨w.heap.size + 1, o, none⟩ v) := by
  have hb := h.bl
  refine ⟨h.rb.far (by omega), h.bl, h.os, h.tape, h.output, by simp [World.setCell]; exact h.size, fun i hi hne => ?_, h.res.far (by omega), k h.box⟩
  rw [← h.block i hi hne]
  simp only [World.setCell, Array.getElem?_modify]
  rw [if_neg (by omega)]
theorem DS.oth {w wx : World} {b j : Nat} {s : ByteArray} {v0 v1 v2 v3 v4 v5 v6 : Value} (h : DS w b s j v0 v1 v2 v3 v4 v5 v6 wx) : Oth b w wx := ⟨h.os, h.tape, h.output, h.size, h.block⟩
theorem Oth.far {w wx : World} {g b o : Nat} {v : Value} (h : Oth b w wx) (hg : w.heap.size ≤ g) : Oth b w (wx.setCell ⟨g, o, none⟩ v) := by
  refine ⟨h.os, h.tape, h.output, by simp [World.setCell]; exact h.size, fun i hi hne => ?_⟩
  rw [← h.block i hi hne]
  simp only [World.setCell, Array.getElem?_modify]
  rw [if_neg (by omega)]
/-- The end: the result's box is written. -/
theorem DS.fin {w wx : World} {b j : Nat} {s : ByteArray} {v0 v1 v2 v3 v4 v5 v6 : Value} (h : DS w b s j v0 v1 v2 v3 v4 v5 v6 wx) (u0 u1 u2 u3 u4 u5 u6 : Value) :
    P7 (((((((wx.setCell ⟨w.heap.size, 0, none⟩ u0).setCell ⟨w.heap.size, 1, none⟩ u1).setCell ⟨w.heap.size, 2, none⟩ u2).setCell ⟨w.heap.size, 3, none⟩ u3).setCell ⟨w.heap.size, 4, none⟩ u4).setCell ⟨w.heap.size, 5, none⟩ u5).setCell ⟨w.heap.size, 6, none⟩ u6) w.heap.size u0 u1 u2 u3 u4 u5 u6 ∧
    RB (((((((wx.setCell ⟨w.heap.size, 0, none⟩ u0).setCell ⟨w.heap.size, 1, none⟩ u1).setCell ⟨w.heap.size, 2, none⟩ u2).setCell ⟨w.heap.size, 3, none⟩ u3).setCell ⟨w.heap.size, 4, none⟩ u4).setCell ⟨w.heap.size, 5, none⟩ u5).setCell ⟨w.heap.size, 6, none⟩ u6) b s j ∧
    Oth b w (((((((wx.setCell ⟨w.heap.size, 0, none⟩ u0).setCell ⟨w.heap.size, 1, none⟩ u1).setCell ⟨w.heap.size, 2, none⟩ u2).setCell ⟨w.heap.size, 3, none⟩ u3).setCell ⟨w.heap.size, 4, none⟩ u4).setCell ⟨w.heap.size, 5, none⟩ u5).setCell ⟨w.heap.size, 6, none⟩ u6) := by
  have hb := h.bl
  have ne : w.heap.size ≠ b := by omega
  have le : w.heap.size ≤ w.heap.size := Nat.le_refl _
  exact ⟨h.res.put _ _ _ _ _ _ _, ((((((h.rb.far ne).far ne).far ne).far ne).far ne).far ne).far ne, ((((((h.oth.far le).far le).far le).far le).far le).far le).far le⟩

/-- A piece's cells. -/
def pcv (p : Dr.Pc) : Array Value := #[.string (strOfNums p.t), .int .u8 p.v, .int .i64 p.fl, .int .i64 p.wk, .int .i64 p.wd, .int .i64 p.pk, .int .i64 p.pr]
theorem pcv_no : pcv Dr.Pc.no = #[.string ⟨#[]⟩, .int .u8 0, .int .i64 0, .int .i64 0, .int .i64 0, .int .i64 0, .int .i64 0] := rfl

/-- What precision tells. -/
def PTold (b : Nat) (s : ByteArray) (l : List Int) (k : Nat) (w : World) (r : Ending) (w' : World) : Prop := r = .returned (.tuple #[.int .i64 (Dr.pk l), .int .i64 (Dr.pv l), .int .i64 (Dr.pe l)]) ∧ RB w' b s (k + Dr.pu l) ∧ Oth b w w'

set_option maxRecDepth 100000 in
theorem precision_any (b k : Nat) (s : ByteArray) (xs : List Int) (w : World) (hs : Str s xs) (hk : k ≤ xs.length) (hl : xs.length ≤ 4611686018427387904) (h : RB w b s k) :
    Calls Tryz.prog 168 #[.pointer (some ⟨b, 0, none⟩)] w fun r w' => PTold b s (xs.drop k) k w r w' := by
  have N := hid (next_any b k s xs w hs hk h)
  have HH : Hid ((xs.drop k).headD 0 = Dr.nx xs k) := Dr.head_drop xs k
  have hkl : (k : Int) ≤ 4611686018427387904 := by omega
  have H := hid h
  by_cases h46 : Dr.nx xs k = 46
  · have hlt : k < xs.length := Dr.getD_pos (by rw [h46]; decide)
    have NU : Hid (∀ W, RB W b s (k + 1) → Calls Tryz.prog 167 #[.pointer (some ⟨b, 0, none⟩)] W fun r w' => r = .returned (.tuple #[.int .i64 (Dr.nk (xs.drop (k + 1))), .int .i64 (Dr.nv (xs.drop (k + 1))), .int .i64 (Dr.ne (xs.drop (k + 1)))]) ∧ RB w' b s (k + 1 + Dr.nu (xs.drop (k + 1))) ∧ Oth b W w') := fun W hb => number_any b (k + 1) s xs W hs (by omega) hl hb
    have tl : (xs.drop k).tail = xs.drop (k + 1) := by rw [List.tail_drop]
    have KK : Hid (∀ (r : Int) W, r = (if Dr.ne (xs.drop (k + 1)) = 0 ∧ Dr.nk (xs.drop (k + 1)) = 0 then 1 else Dr.nk (xs.drop (k + 1))) → RB W b s (k + 1 + Dr.nu (xs.drop (k + 1))) → Oth b w W → PTold b s (xs.drop k) k w (.returned (.tuple #[.int .i64 r, .int .i64 (Dr.nv (xs.drop (k + 1))), .int .i64 (Dr.ne (xs.drop (k + 1)))])) W) := by
      intro r W e a1 a2
      have hh := HH.out
      rw [h46] at hh
      refine ⟨?_, ?_, a2⟩
      · rw [Dr.pk, Dr.pv, Dr.pe, if_pos hh, if_pos hh, if_pos hh, tl, e]
      · rw [Dr.pu, if_pos hh, tl, ← Nat.add_assoc]; exact a1
    rw [h46] at N
    clear HH h46 hs h hlt tl
    generalize Dr.nk (xs.drop (k + 1)) = K1 at *
    generalize Dr.nv (xs.drop (k + 1)) = V1 at *
    generalize Dr.ne (xs.drop (k + 1)) = E1 at *
    generalize k + 1 + Dr.nu (xs.drop (k + 1)) = j1 at *
    go_enter Tryz.func168, Tryz.ntmps168
    go_wp2_with fail
    refine N.out.mono ?_
    rintro e w1 ⟨rfl, hB⟩
    have R1 := hid (H.out.below hB)
    have O1 : Hid (Oth b w w1) := Oth.of_below hB
    clear hB
    obtain ⟨⟨c0, c1⟩, fz⟩ := R1.out.cells
    go_wp2_with fail
    refine (NU.out _ (R1.out.set (by go_num))).mono ?_
    rintro e w2 ⟨rfl, r2, o2⟩
    have R2 := hid r2
    have O2 := hid ((O1.out.trans (Oth.set _ _)).trans o2)
    clear r2 o2 c0 c1 fz
    by_cases e1 : E1 = 0
    · subst e1
      by_cases k1 : K1 = 0
      · subst k1
        go_wp2_with fail
        go_ret3
        exact KK.out 1 _ (by simp) R2.out O2.out
      · go_wp2_with fail
        go_ret3
        exact KK.out K1 _ (by simp [k1]) R2.out O2.out
    · go_wp2_with fail
      go_ret3
      exact KK.out K1 _ (by simp [e1]) R2.out O2.out
  · have KK : Hid (∀ W, RB W b s k → Oth b w W → PTold b s (xs.drop k) k w (.returned (.tuple #[.int .i64 0, .int .i64 0, .int .i64 0])) W) := by
      intro W a1 a2
      have hh : ¬ (xs.drop k).headD 0 = 46 := by rw [HH.out]; exact h46
      refine ⟨?_, ?_, a2⟩
      · rw [Dr.pk, Dr.pv, Dr.pe, if_neg hh, if_neg hh, if_neg hh]
      · rw [Dr.pu, if_neg hh]; exact a1
    clear HH hs h
    generalize Dr.nx xs k = x at *
    go_enter Tryz.func168, Tryz.ntmps168
    go_wp2_with fail
    refine N.out.mono ?_
    rintro e w1 ⟨rfl, hB⟩
    have R1 := hid (H.out.below hB)
    have O1 : Hid (Oth b w w1) := Oth.of_below hB
    clear hB
    go_wp2_with fail
    go_ret3
    exact KK.out _ R1.out O1.out

/-- What verb tells. -/
def VTold (b : Nat) (s : ByteArray) (l : List Int) (k : Nat) (w : World) (r : Ending) (w' : World) : Prop := r = .returned (.tuple #[.int .u8 (Dr.vv l), .int .i64 (Dr.ve l)]) ∧ RB w' b s (k + Dr.vu l) ∧ Oth b w w'

theorem Oth.drew {g : Nat} {a b : World} (h : Oth g a b) (n : Nat) : Oth g a (b.drewN n) := ⟨h.os, h.tape, h.output, h.size, h.block⟩

set_option maxRecDepth 100000 in
theorem verb_any (b k : Nat) (s : ByteArray) (xs : List Int) (w : World) (hs : Str s xs) (hk : k ≤ xs.length) (hl : xs.length ≤ 4611686018427387904) (h : RB w b s k) :
    Calls Tryz.prog 169 #[.pointer (some ⟨b, 0, none⟩)] w fun r w' => VTold b s (xs.drop k) k w r w' := by
  have N := hid (next_any b k s xs w hs hk h)
  have IX : Hid (∀ (c : Int) (W : World), 0 ≤ c → c < 256 → Calls Tryz.prog 91 #[.string ⟨#[100, 105, 111, 117, 120, 88, 99, 115, 101, 69, 102, 70, 103, 71]⟩, .int .u8 c] W fun e w' => e = .returned (.int .i64 (Dr.idx Dr.verbs c)) ∧ w' = W) := fun c W h0 h1 => idx_any ⟨#[100, 105, 111, 117, 120, 88, 99, 115, 101, 69, 102, 70, 103, 71]⟩ Dr.verbs c W rfl h0 h1
  have HH : Hid ((xs.drop k).headD 0 = Dr.nx xs k) := Dr.head_drop xs k
  have hkl : (k : Int) ≤ 4611686018427387904 := by omega
  have hx : 0 ≤ Dr.nx xs k ∧ Dr.nx xs k < 256 := hs.atb k
  obtain ⟨x0, x1⟩ := hx
  have hsz := hs.size
  have H := hid h
  have E : Hid (∀ W, xs.drop k = [] → RB W b s k → Oth b w W → VTold b s (xs.drop k) k w (.returned (.tuple #[.int .u8 0, .int .i64 131])) W) := by
    intro W e a1 a2
    have ev : Dr.ve (xs.drop k) = 131 := by rw [Dr.ve, if_pos e]
    exact ⟨by rw [Dr.vv, ev]; rfl, by rw [Dr.vu, ev]; exact a1, a2⟩
  have E2 : Hid (∀ W, ¬ xs.drop k = [] → Dr.idx Dr.verbs (Dr.nx xs k) < 0 → RB W b s k → Oth b w W → VTold b s (xs.drop k) k w (.returned (.tuple #[.int .u8 0, .int .i64 130])) W) := by
    intro W e e2 a1 a2
    have ev : Dr.ve (xs.drop k) = 130 := by rw [Dr.ve, if_neg e, HH.out, if_pos e2]
    exact ⟨by rw [Dr.vv, ev]; rfl, by rw [Dr.vu, ev]; exact a1, a2⟩
  have E3 : Hid (∀ W, ¬ xs.drop k = [] → ¬ Dr.idx Dr.verbs (Dr.nx xs k) < 0 → RB W b s (k + 1) → Oth b w W → VTold b s (xs.drop k) k w (.returned (.tuple #[.int .u8 (Dr.nx xs k), .int .i64 0])) W) := by
    intro W e e2 a1 a2
    have ev : Dr.ve (xs.drop k) = 0 := by rw [Dr.ve, if_neg e, HH.out, if_neg e2]
    exact ⟨by rw [Dr.vv, ev, HH.out]; rfl, by rw [Dr.vu, ev]; exact a1, a2⟩
  have dn : xs.drop k = [] ↔ xs.length ≤ k := List.drop_eq_nil_iff
  have I1 := hid (IX.out (Dr.nx xs k))
  clear HH hs h IX
  generalize Dr.nx xs k = x at *
  generalize Dr.idx Dr.verbs x = i at *
  by_cases he : k = xs.length
  · have F := hid (fun W => E.out W (dn.2 (by omega)))
    have he2 : (k : Int) = (xs.length : Int) := by omega
    clear E E2 E3 dn he hk hl I1
    go_enter Tryz.func169, Tryz.ntmps169
    go_wp2_with fail
    refine N.out.mono ?_
    rintro e w1 ⟨rfl, hB⟩
    have R1 := hid (H.out.below hB)
    have O1 : Hid (Oth b w w1) := Oth.of_below hB
    obtain ⟨⟨c0, c1⟩, fz⟩ := R1.out.cells
    clear hB
    go_wp2_with fail
    go_quiet (fail)
    go_wp2_with fail
    go_ret2
    exact F.out _ R1.out (O1.out.drew _)
  · have ne : ¬ xs.drop k = [] := fun q => by have := dn.1 q; omega
    have he2 : ¬ (k : Int) = (xs.length : Int) := by omega
    have F2 := hid (fun W => E2.out W ne)
    have F3 := hid (fun W => E3.out W ne)
    clear E E2 E3 dn he hk hl ne
    go_enter Tryz.func169, Tryz.ntmps169
    go_wp2_with fail
    refine N.out.mono ?_
    rintro e w1 ⟨rfl, hB⟩
    have R1 := hid (H.out.below hB)
    have O1 : Hid (Oth b w w1) := Oth.of_below hB
    obtain ⟨⟨c0, c1⟩, fz⟩ := R1.out.cells
    clear hB
    go_wp2_with fail
    go_quiet (fail)
    have R2 : Hid (RB (w1.drewN nq) b s k) := R1.out
    have O2 := hid (O1.out.drew nq)
    generalize w1.drewN nq = w2 at *
    obtain ⟨⟨c0, c1⟩, fz⟩ := R2.out.cells
    by_cases hi : i < 0
    · go_wp2_with fail
      refine (I1.out w2 x0 x1).mono ?_
      rintro e w3 ⟨rfl, e3⟩
      rw [e3]
      go_wp2_with fail
      go_ret2
      exact F2.out _ hi R2.out O2.out
    · go_wp2_with fail
      refine (I1.out w2 x0 x1).mono ?_
      rintro e w3 ⟨rfl, e3⟩
      rw [e3]
      clear e3
      go_wp2_with fail
      go_ret2
      exact F3.out _ hi (R2.out.set (by go_num)) (O2.out.trans (Oth.set _ _))
end Go.Proofs.YtigmhnlcmhpepaaGreatDoor

namespace Go.Proofs.YtigmhnlcmhpepaaGreatDoor
open Go Go.RowKit Go.Deep Go.Shelf

namespace Dr
theorem ct_idx (l : List Int) : ct isX l = if idx l 37 < 0 then l.length else (idx l 37).toNat := by
  induction l with
  | nil => rfl
  | cons c l ih =>
    have := idx_ge l 37
    rw [ct, idx, ih]
    by_cases h : c = 37
    · subst h; rfl
    · rw [if_pos (by simp [isX, h]), if_neg h]
      by_cases k : idx l 37 < 0
      · rw [if_pos k, if_pos k, if_pos (by decide), List.length_cons]
      · rw [if_neg k, if_neg k, if_neg (by omega)]; omega
end Dr

theorem str_of {s : ByteArray} {xs : List Int} (h : Str s xs) : s = strOfNums xs := h.inj (Str.of_nums (fun _ hx => h.mem hx))

/-- What text tells. -/
def TTold (b : Nat) (s : ByteArray) (l : List Int) (k : Nat) (w : World) (r : Ending) (w' : World) : Prop := r = .returned (.string (strOfNums (l.take (Dr.ct Dr.isX l)))) ∧ RB w' b s (k + Dr.ct Dr.isX l) ∧ Oth b w w'

set_option maxRecDepth 100000 in
theorem dtext_any (b k : Nat) (s : ByteArray) (xs : List Int) (w : World) (hs : Str s xs) (hk : k ≤ xs.length) (hl : xs.length ≤ 281474976710656) (h : RB w b s k) :
    Calls Tryz.prog 134 #[.pointer (some ⟨b, 0, none⟩)] w fun r w' => TTold b s (xs.drop k) k w r w' := by
  have hsz := hs.size
  obtain ⟨⟨c0, c1⟩, fz⟩ := h.cells
  have h1 := hs.extract k xs.length
  rw [List.take_of_length_le (by simp)] at h1
  have h1s := h1.size
  rw [List.length_drop] at h1s
  have IX := hid (fun W => idx_any (s.extract k xs.length) (xs.drop k) 37 W h1 (by omega) (by omega))
  have CT := Dr.ct_idx (xs.drop k)
  have IG := Dr.idx_ge (xs.drop k) 37
  have IL := Dr.idx_lt (xs.drop k) 37
  rw [List.length_drop] at IL CT
  have TK : Hid (∀ (m : Nat) W, m = Dr.ct Dr.isX (xs.drop k) → RB W b s (k + m) → Oth b w W → TTold b s (xs.drop k) k w (.returned (.string (strOfNums ((xs.drop k).take m)))) W) := by
    intro m W e a1 a2
    subst e
    exact ⟨rfl, a1, a2⟩
  have kl : (k : Int) ≤ (xs.length : Int) := by omega
  have xl : (xs.length : Int) ≤ 281474976710656 := by omega
  have R0 : Hid (∀ n, RB (w.drewN n) b s k) := fun n => h
  have O0 : Hid (∀ n, Oth b w (w.drewN n)) := fun n => (Oth.refl b w).drew n
  have bl := h.lt
  by_cases hi : Dr.idx (xs.drop k) 37 < 0
  · rw [if_pos hi] at CT
    have TK2 := hid (fun W => TK.out (xs.length - k) W CT.symm)
    have e1 : strOfNums ((xs.drop k).take (xs.length - k)) = s.extract k xs.length := by
      rw [List.take_of_length_le (by simp)]; exact (str_of h1).symm
    rw [e1] at TK2
    have CL := hid (fun W => vclone_any (s.extract k xs.length) W (by omega))
    clear hs h h1 TK CT IG IL e1 hk hl
    generalize Dr.idx (xs.drop k) 37 = i at *
    go_enter Tryz.func134, Tryz.ntmps134
    go_wp2_with fail
    go_quiet (fail)
    have R1 := hid (R0.out nq)
    have O1 := hid (O0.out nq)
    generalize w.drewN nq = w1 at *
    clear R0 O0 c0 c1 fz
    go_wp2_with fail
    refine (IX.out w1).mono ?_
    rintro e w2 ⟨rfl, e2⟩
    rw [e2]
    clear e2 w2
    obtain ⟨⟨c0, c1⟩, fz⟩ := R1.out.cells
    generalize s.extract k xs.length = t at *
    have ts : (k : Int) + ((xs.length - k : Nat) : Int) ≤ 281474976710656 := by omega
    generalize xs.length - k = m at *
    have R2 := hid (R1.out.set (j := k + m) (v := (k : Int) + (m : Int)) (by omega))
    have O2 : Hid (Oth b w (w1.setCell ⟨b, 1, none⟩ (.int .i64 ((k : Int) + (m : Int))))) := O1.out.trans (Oth.set _ _)
    go_wp2_with fail
    refine (CL.out _).mono ?_
    rintro e w3 ⟨rfl, hB⟩
    have R3 := hid (R2.out.below hB)
    have O3 : Hid (Oth b w w3) := O2.out.trans (Oth.of_below hB)
    clear hB
    go_wp2_with fail
    go_ret
    exact TK2.out _ R3.out O3.out
  · rw [if_neg hi] at CT
    obtain ⟨m, hm⟩ : ∃ m : Nat, Dr.idx (xs.drop k) 37 = (m : Int) := ⟨_, (Int.toNat_of_nonneg (by omega)).symm⟩
    rw [hm] at CT IL IX
    rw [Int.toNat_natCast] at CT
    have TK2 := hid (fun W => TK.out m W CT.symm)
    have h2 := h1.extract 0 m
    rw [List.drop_zero, Nat.sub_zero] at h2
    have h2s := h2.size
    rw [List.length_take, List.length_drop] at h2s
    rw [← str_of h2] at TK2
    have CL := hid (fun W => vclone_any ((s.extract k xs.length).extract 0 m) W (by omega))
    have h2t : ((s.extract k xs.length).extract 0 m).size = m := by omega
    have ml : (m : Int) ≤ ((s.extract k xs.length).size : Int) := by omega
    have mk : (k : Int) + (m : Int) ≤ 281474976710656 := by omega
    clear hs h h1 TK CT IG IL hk hl hi hm h2 h2s h1s
    go_enter Tryz.func134, Tryz.ntmps134
    go_wp2_with fail
    go_quiet (fail)
    have R1 := hid (R0.out nq)
    have O1 := hid (O0.out nq)
    generalize w.drewN nq = w1 at *
    clear R0 O0 c0 c1 fz
    go_wp2_with fail
    refine (IX.out w1).mono ?_
    rintro e w2 ⟨rfl, e2⟩
    rw [e2]
    clear e2 w2
    obtain ⟨⟨c0, c1⟩, fz⟩ := R1.out.cells
    generalize s.extract k xs.length = t at *
    have R2 := hid (R1.out.set (j := k + m) (v := (k : Int) + (m : Int)) (by omega))
    have O2 : Hid (Oth b w (w1.setCell ⟨b, 1, none⟩ (.int .i64 ((k : Int) + (m : Int))))) := O1.out.trans (Oth.set _ _)
    go_wp2_with fail
    refine (CL.out _).mono ?_
    rintro e w3 ⟨rfl, hB⟩
    have R3 := hid (R2.out.below hB)
    have O3 : Hid (Oth b w w3) := O2.out.trans (Oth.of_below hB)
    clear hB
    go_wp2_with fail
    go_ret
    exact TK2.out _ R3.out O3.out
end Go.Proofs.YtigmhnlcmhpepaaGreatDoor

namespace Go.Proofs.YtigmhnlcmhpepaaGreatDoor
open Go Go.RowKit Go.Deep Go.Shelf

theorem vformat_any (n : Int) (w : World) (h0 : -9223372036854775808 ≤ n) (h1 : n ≤ 9223372036854775807) (ht : Tab10 w) :
    Calls Tryz.prog 87 #[.int .i64 n, .int .i64 10] w fun e w' => e = .returned (.string (strOfNums (itl n))) ∧ Below w.heap.size w w' := by
  refine (Any.strconv_FormatInt_10 fiLays n h0 h1 w ht).mono ?_
  rintro e w' ⟨rfl, k, os, rfl⟩
  exact ⟨by rw [str_of (itl_str n)], below_grown k os⟩

namespace Va
theorem whp_bd {d : Int} (h : ok d = true) : 0 ≤ Ie.whp (d % 9223372036854775808) ∧ Ie.whp (d % 9223372036854775808) < 9223372036854775808 := by
  have a0 : 0 ≤ d % 9223372036854775808 := by omega
  rcases (show d % 9223372036854775808 = 0 ∨ 0 < d % 9223372036854775808 by omega) with z | z
  · rw [z, zero_intg.2]; omega
  · by_cases lo : d % 9223372036854775808 / 4503599627370496 < 1023
    · rw [ok_low z lo] at h; exact absurd h (by decide)
    · by_cases hi : 1086 ≤ d % 9223372036854775808 / 4503599627370496
      · rw [ok_high hi] at h; exact absurd h (by decide)
      · obtain ⟨p, hp⟩ : ∃ p : Nat, d % 9223372036854775808 / 4503599627370496 = p + 1023 := ⟨(d % 9223372036854775808 / 4503599627370496 - 1023).toNat, by omega⟩
        rw [top_whp (p := p) (by omega) hp]
        exact mid_bd (by omega) (by omega) (by omega)
theorem num_bd' {d : Int} (h : ok d = true) : -9223372036854775808 ≤ num d ∧ num d ≤ 9223372036854775807 := by
  have b := whp_bd h
  unfold num
  split <;> omega
/-- The digits that Integer tells. -/
def tx (d : Int) : List Int := if ok d = true then itl (num d) else []
end Va

set_option maxRecDepth 100000 in
theorem vinteger_any (d : Int) (w : World) (h0 : 0 ≤ d) (h1 : d < 18446744073709551616) (ht : Tab10 w) :
    Calls Tryz.prog 70 #[.int .u64 d] w fun e w' => e = .returned (.tuple #[.string (strOfNums (Va.tx d)), .bool (Va.ok d)]) ∧ Below w.heap.size w w' := by
  have TI := hid (fun W => vint_any d W h0 h1)
  by_cases hk : Va.ok d = true
  · have e1 : Va.vi d = Va.num d := if_pos hk
    have e2 : Va.tx d = itl (Va.num d) := if_pos hk
    have B := Va.num_bd' hk
    have FI := hid (vformat_any (Va.num d) w B.1 B.2 ht)
    rw [e1, hk] at TI
    rw [e2, hk]
    clear e1 e2 B hk h0 h1 ht
    generalize Va.num d = n at *
    generalize strOfNums (itl n) = S at *
    go_enter Tryz.func70, Tryz.ntmps70
    go_wp2_with (go_at_call 86; refine (TI.out _).mono ?_; rintro e w2 ⟨rfl, hw2⟩; rw [hw2]; clear hw2 w2)
    refine FI.out.mono ?_
    rintro e w1 ⟨rfl, b1⟩
    have F := hid b1
    clear b1 FI TI
    go_wp2_with fail
    go_ret2
    exact ⟨rfl, F.out⟩
  · have hf : Va.ok d = false := by simpa using hk
    have e2 : Va.tx d = [] := if_neg hk
    have e1 : Va.vi d = 0 := if_neg hk
    rw [e1, hf] at TI
    rw [e2, hf]
    clear e1 e2 hk hf h0 h1 ht
    go_enter Tryz.func70, Tryz.ntmps70
    go_wp2_with (go_at_call 86; refine (TI.out _).mono ?_; rintro e w2 ⟨rfl, hw2⟩; rw [hw2]; clear hw2 w2)
    go_ret2
    exact ⟨rfl, Below.refl _ _⟩
end Go.Proofs.YtigmhnlcmhpepaaGreatDoor

namespace Go.Proofs.YtigmhnlcmhpepaaGreatDoor
open Go Go.RowKit Go.Deep Go.Shelf

theorem dec_of {p : Prop} [Decidable p] {b : Bool} (h : p ↔ b = true) : decide p = b := by
  cases b with
  | true => exact decide_eq_true (h.2 rfl)
  | false => exact decide_eq_false (fun q => Bool.false_ne_true (h.1 q))

theorem isnum_any (k n l : Int) (w : World) : Calls Tryz.prog 107 #[.int .i64 k, .int .i64 n, .int .i64 l] w fun e w' => e = .returned (.bool (decide (Dr.num k n l))) ∧ w' = w := by
  by_cases h0 : k = 0
  · have e : decide (Dr.num k n l) = (n == 0) := by
      exact dec_of (by unfold Dr.num; by_cases h : n = 0 <;> simp [h0, h])
    rw [e]
    subst h0
    go_enter Tryz.func107, Tryz.ntmps107
    go_wp2_with fail
    go_ret
    exact ⟨rfl, rfl⟩
  · by_cases h2 : k = 2
    · have e : decide (Dr.num k n l) = (n == 0) := by
        exact dec_of (by unfold Dr.num; by_cases h : n = 0 <;> simp [h2, h])
      rw [e]
      subst h2
      go_enter Tryz.func107, Tryz.ntmps107
      go_wp2_with fail
      go_ret
      exact ⟨rfl, rfl⟩
    · by_cases h1 : k = 1
      · subst h1
        by_cases a : l ≤ n
        · have e : decide (Dr.num 1 n l) = decide (n ≤ 4096) := dec_of (by unfold Dr.num; simp [a])
          rw [e]
          go_enter Tryz.func107, Tryz.ntmps107
          go_wp2_with fail
          go_ret
          exact ⟨rfl, rfl⟩
        · have e : decide (Dr.num 1 n l) = false := dec_of (by unfold Dr.num; simp [a])
          rw [e]
          go_enter Tryz.func107, Tryz.ntmps107
          go_wp2_with fail
          go_ret
          exact ⟨rfl, rfl⟩
      · have e : decide (Dr.num k n l) = false := dec_of (by unfold Dr.num; simp [h0, h1, h2])
        rw [e]
        go_enter Tryz.func107, Tryz.ntmps107
        go_wp2_with fail
        go_ret
        exact ⟨rfl, rfl⟩

theorem str_nil2 {s : ByteArray} {xs : List Int} (hs : Str s xs) : s.toList = [] ↔ xs = [] := by
  rw [ByteArray.toList_eq]
  constructor
  · intro h; rw [← hs, h]; rfl
  · intro h; rw [← hs] at h; exact List.map_eq_nil_iff.1 h

set_option maxRecDepth 100000 in
theorem isdir_any (s : ByteArray) (xs : List Int) (v f a b c d : Int) (w : World) (hs : Str s xs) (v0 : 0 ≤ v) (v1 : v < 256) :
    Calls Tryz.prog 90 #[.agg #[.string s, .int .u8 v, .int .i64 f, .int .i64 a, .int .i64 b, .int .i64 c, .int .i64 d]] w fun e w' => e = .returned (.bool (decide (Dr.isR ⟨xs, v, f, a, b, c, d⟩))) ∧ Below w.heap.size w w' := by
  have N0 := str_nil2 hs
  have IX := hid (fun W => idx_any ⟨#[100, 105, 111, 117, 120, 88, 99, 115, 101, 69, 102, 70, 103, 71]⟩ Dr.verbs v W rfl v0 v1)
  have NM := hid isnum_any
  have B := hid (alloc_b w (.cells #[.string s, .int .u8 v, .int .i64 f, .int .i64 a, .int .i64 b, .int .i64 c, .int .i64 d] 163))
  have D : ∀ q : Bool, ((0 ≤ Dr.idx Dr.verbs v ∧ xs = [] ∧ 0 ≤ f ∧ f ≤ 31 ∧ Dr.num a b 1 ∧ Dr.num c d 0) ↔ q = true) → decide (Dr.isR ⟨xs, v, f, a, b, c, d⟩) = q := fun q h => dec_of h
  clear hs
  generalize decide (Dr.isR ⟨xs, v, f, a, b, c, d⟩) = R at *
  generalize Dr.idx Dr.verbs v = i at *
  by_cases hi : 0 ≤ i
  · have z0 := hi
    by_cases hx : xs = []
    · have NE := N0.2 hx
      have NE2 : s.toList.isEmpty = true := by rw [NE]; rfl
      have z1 := hx
      by_cases h0 : 0 ≤ f
      · have z2 := h0
        by_cases h1 : f ≤ 31
        · have z3 := h1
          by_cases m1 : Dr.num a b 1
          · have M1 := decide_eq_true m1
            have z4 := m1
            by_cases m2 : Dr.num c d 0
            · have M2 := decide_eq_true m2
              have z5 := m2
              have e := D true ⟨fun _ => rfl, fun _ => ⟨hi, hx, h0, h1, m1, m2⟩⟩
              subst e
              clear D N0 hx m1 m2 z1 z4 z5
              go_enter Tryz.func90, Tryz.ntmps90
              go_wp2_with (first | (go_at_call 91; refine (IX.out _).mono ?_; rintro e w2 ⟨rfl, rfl⟩) | (go_at_call 107; refine (NM.out _ _ _ _).mono ?_; rintro e w2 ⟨rfl, rfl⟩))
              go_ret
              exact ⟨rfl, B.out⟩
            · have e := D false ⟨fun q => absurd q.2.2.2.2.2 m2, fun q => by cases q⟩
              subst e
              have M2 := decide_eq_false m2
              clear D N0 hx z1 m1 z4 m2
              go_enter Tryz.func90, Tryz.ntmps90
              go_wp2_with (first | (go_at_call 91; refine (IX.out _).mono ?_; rintro e w2 ⟨rfl, rfl⟩) | (go_at_call 107; refine (NM.out _ _ _ _).mono ?_; rintro e w2 ⟨rfl, rfl⟩))
              go_ret
              exact ⟨rfl, B.out⟩
          · have e := D false ⟨fun q => absurd q.2.2.2.2.1 m1, fun q => by cases q⟩
            subst e
            have M1 := decide_eq_false m1
            clear D N0 hx z1 m1
            go_enter Tryz.func90, Tryz.ntmps90
            go_wp2_with (first | (go_at_call 91; refine (IX.out _).mono ?_; rintro e w2 ⟨rfl, rfl⟩) | (go_at_call 107; refine (NM.out _ _ _ _).mono ?_; rintro e w2 ⟨rfl, rfl⟩))
            go_ret
            exact ⟨rfl, B.out⟩
        · have e := D false ⟨fun q => absurd q.2.2.2.1 h1, fun q => by cases q⟩
          subst e
          clear D N0 hx z1
          go_enter Tryz.func90, Tryz.ntmps90
          go_wp2_with (first | (go_at_call 91; refine (IX.out _).mono ?_; rintro e w2 ⟨rfl, rfl⟩) | (go_at_call 107; refine (NM.out _ _ _ _).mono ?_; rintro e w2 ⟨rfl, rfl⟩))
          go_ret
          exact ⟨rfl, B.out⟩
      · have e := D false ⟨fun q => absurd q.2.2.1 h0, fun q => by cases q⟩
        subst e
        clear D N0 hx z1
        go_enter Tryz.func90, Tryz.ntmps90
        go_wp2_with (first | (go_at_call 91; refine (IX.out _).mono ?_; rintro e w2 ⟨rfl, rfl⟩) | (go_at_call 107; refine (NM.out _ _ _ _).mono ?_; rintro e w2 ⟨rfl, rfl⟩))
        go_ret
        exact ⟨rfl, B.out⟩
    · have e := D false ⟨fun q => absurd q.2.1 hx, fun q => by cases q⟩
      subst e
      have NE : ¬ s.toList = [] := fun q => hx (N0.1 q)
      have NE2 : s.toList.isEmpty = false := by cases h : s.toList with | nil => exact absurd h NE | cons c l => rfl
      clear D N0 hx
      go_enter Tryz.func90, Tryz.ntmps90
      go_wp2_with (first | (go_at_call 91; refine (IX.out _).mono ?_; rintro e w2 ⟨rfl, rfl⟩) | (go_at_call 107; refine (NM.out _ _ _ _).mono ?_; rintro e w2 ⟨rfl, rfl⟩))
      go_ret
      exact ⟨rfl, B.out⟩
  · have e := D false ⟨fun q => absurd q.1 hi, fun q => by cases q⟩
    subst e
    clear D N0
    go_enter Tryz.func90, Tryz.ntmps90
    go_wp2_with (first | (go_at_call 91; refine (IX.out _).mono ?_; rintro e w2 ⟨rfl, rfl⟩) | (go_at_call 107; refine (NM.out _ _ _ _).mono ?_; rintro e w2 ⟨rfl, rfl⟩))
    go_ret
    exact ⟨rfl, B.out⟩

end Go.Proofs.YtigmhnlcmhpepaaGreatDoor
