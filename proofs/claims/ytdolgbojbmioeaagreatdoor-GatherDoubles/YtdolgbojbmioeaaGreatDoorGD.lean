/-
  Texts put together: GMerge, GDblN, GDbl.
-/
import Derived.Test.YtdolgbojbmioeaaGreatDoorGNote
import Derived.Test.YtdolgbojbmioeaaGreatDoorGPile
import Derived.Test.YtdolgbojbmioeaaGreatDoorGA
import Derived.Test.YtdolgbojbmioeaaGreatDoorMM
namespace Go.Proofs.YtdolgbojbmioeaaGreatDoor
open Go.RowKit Go.Deep

/-- Cells that were there stay, but for those of block g below k. -/
def KeptFrom (g k : Nat) (w w' : World) : Prop := ∀ b i v, w.cell? ⟨b, i, none⟩ = some v → (b = g → k ≤ i) → w'.cell? ⟨b, i, none⟩ = some v

theorem KeptFrom.refl (g k : Nat) (w : World) : KeptFrom g k w w := fun _ _ _ h _ => h
theorem KeptFrom.trans {g k : Nat} {a b c : World} (h : KeptFrom g k a b) (h' : KeptFrom g k b c) : KeptFrom g k a c := fun p i v e r => h' p i v (h p i v e r) r
theorem KeptFrom.mono {g k k' : Nat} {a b : World} (h : KeptFrom g k a b) (hk : k ≤ k') : KeptFrom g k' a b := fun p i v e r => h p i v e (fun q => Nat.le_trans hk (r q))
theorem KeptFrom.below {g k : Nat} {a b : World} (h : Below a.heap.size a b) : KeptFrom g k a b := fun p i _ e _ => (h.cell (p := ⟨p, i, none⟩) (cell_lt e)).trans e
theorem KeptFrom.heap {g k : Nat} {a b c : World} (h : KeptFrom g k a b) (e : c.heap = b.heap) : KeptFrom g k a c := fun p i v q r => by
  have := h p i v q r
  simp only [World.cell?] at this ⊢
  rw [e]; exact this
theorem KeptFrom.set {g k j : Nat} (w : World) (v : Value) (hj : j < k) : KeptFrom g k w (w.setCell ⟨g, j, none⟩ v) := by
  intro b i x e r
  have hb := cell_lt e
  by_cases hbg : b = g
  · subst hbg
    have hi := r rfl
    simp only [World.cell?, World.setCell, Array.getElem?_modify] at e ⊢
    simp only [if_true]
    rcases h : w.heap[b]? with _ | o
    · rw [h] at e; simp at e
    · rw [h] at e
      cases o <;> simp at e ⊢
      rename_i cs t fr
      rw [Array.getElem?_setIfInBounds_ne (by omega)]
      exact e
  · simp only [World.cell?, World.setCell, Array.getElem?_modify] at e ⊢
    rw [if_neg (fun q => hbg q.symm)]
    exact e
theorem KeptFrom.blk {g t k : Nat} {A zs zs' C : List Value} {w w' : World} (h : Blk w g t (A ++ zs ++ C)) (h' : Blk w' g t (A ++ zs' ++ C)) (hl : zs.length = zs'.length) (ho : Only g w w') (hk : A.length + zs.length ≤ k) : KeptFrom g k w w' := by
  intro b i v e r
  by_cases hbg : b = g
  · subst hbg
    have hi := r rfl
    have e1 : (A ++ zs ++ C)[i]? = some v := by
      simp only [Blk] at h
      simp only [World.cell?, h] at e
      simpa using e
    refine h'.cell ?_
    rw [List.getElem?_append_right (by simp; omega)] at e1 ⊢
    rw [← e1]
    simp [hl]
  · exact ho.cell e hbg

/-- An Acc in the making: nothing is said of its numbers. -/
def AccRaw (w : World) (g : Nat) (s : Ga.St) : Prop :=
  ∃ aa bb : List Int, Blk w g 60 (head5 s ++ lb aa ++ lb bb) ∧ (aa.length = 67 ∧ bb.length = 67) ∧ (Nm.Limbs aa ∧ Nm.Limbs bb) ∧ (Nm.val aa = s.P ∧ Nm.val bb = s.N)

theorem AccAt.raw {w : World} {g : Nat} {s : Ga.St} (h : AccAt w g s) : AccRaw w g s := by
  obtain ⟨aa, bb, h1, h2, h3, h4, -⟩ := h
  exact ⟨aa, bb, h1, h2, h3, h4⟩
theorem AccRaw.ok {w : World} {g : Nat} {s : Ga.St} (h : AccRaw w g s) (k : s.Ok) : AccAt w g s := by
  obtain ⟨aa, bb, h1, h2, h3, h4⟩ := h
  exact ⟨aa, bb, h1, h2, h3, h4, k⟩
theorem AccRaw.lt {w : World} {g : Nat} {s : Ga.St} (h : AccRaw w g s) : g < w.heap.size := by
  obtain ⟨aa, bb, hb, -⟩ := h
  exact hb.lt
theorem AccRaw.on {w w' : World} {g : Nat} {s : Ga.St} (h : AccRaw w g s) (hb : Below w.heap.size w w') : AccRaw w' g s := by
  obtain ⟨aa, bb, h1, h2⟩ := h
  exact ⟨aa, bb, h1.below hb h1.lt, h2⟩
theorem AccRaw.heap {w w' : World} {g : Nat} {s : Ga.St} (h : AccRaw w g s) (e : w'.heap = w.heap) : AccRaw w' g s := by
  obtain ⟨aa, bb, h1, h2⟩ := h
  exact ⟨aa, bb, h1.heap e, h2⟩
theorem AccRaw.cells {w : World} {g : Nat} {s : Ga.St} (h : AccRaw w g s) :
    (w.cell? ⟨g, 0, none⟩ = some (.int .i64 s.n) ∧ w.cell? ⟨g, 1, none⟩ = some (.int .i64 s.u) ∧ w.cell? ⟨g, 2, none⟩ = some (.int .i64 s.d) ∧ w.cell? ⟨g, 3, none⟩ = some (.int .i64 s.c) ∧ w.cell? ⟨g, 4, none⟩ = some (.int .i64 s.z)) ∧
    ∀ i, w.frozen? ⟨g, i, none⟩ = false := by
  obtain ⟨aa, bb, h, -⟩ := h
  exact ⟨⟨h.cell rfl, h.cell rfl, h.cell rfl, h.cell rfl, h.cell rfl⟩, fun i => h.free i⟩
theorem AccRaw.set {w : World} {g : Nat} {s s' : Ga.St} (h : AccRaw w g s) (i : Nat) (v : Int) (he : (head5 s).set i (.int .i64 v) = head5 s') (hi : i < 5) (hP : s'.P = s.P) (hN : s'.N = s.N) : AccRaw (w.setCell ⟨g, i, none⟩ (.int .i64 v)) g s' := by
  obtain ⟨aa, bb, h1, h2, h3, h4⟩ := h
  refine ⟨aa, bb, ?_, h2, h3, ⟨by rw [hP]; exact h4.1, by rw [hN]; exact h4.2⟩⟩
  have := h1.set i (.int .i64 v)
  rwa [List.append_assoc, List.set_append_left _ _ (by simpa [head5] using hi), he, ← List.append_assoc] at this

/-- A step of Merge: the Acc in block g holds s'; other blocks, and cells from k on, are as they were. -/
def Mid (g k : Nat) (s' : Ga.St) (w w' : World) : Prop := AccRaw w' g s' ∧ Only g w w' ∧ KeptFrom g k w w'

theorem Mid.trans {g k k' : Nat} {s s' : Ga.St} {a b c : World} (h : Mid g k s a b) (h' : Mid g k' s' b c) (hk : k ≤ k') : Mid g k' s' a c := ⟨h'.1, h.2.1.trans h'.2.1, (h.2.2.mono hk).trans h'.2.2⟩
theorem Mid.mono {g k k' : Nat} {s : Ga.St} {a b : World} (h : Mid g k s a b) (hk : k ≤ k') : Mid g k' s a b := ⟨h.1, h.2.1, h.2.2.mono hk⟩
theorem Mid.drew {g k : Nat} {s : Ga.St} {a b : World} (h : Mid g k s a b) : Mid g k s a b.drew := ⟨h.1.heap rfl, ⟨h.2.1.os, h.2.1.tape, h.2.1.output, h.2.1.size, h.2.1.block⟩, h.2.2.heap rfl⟩
theorem Mid.drewN {g k : Nat} {s : Ga.St} {a b : World} (h : Mid g k s a b) (n : Nat) : Mid g k s a (b.drewN n) := ⟨h.1.heap rfl, ⟨h.2.1.os, h.2.1.tape, h.2.1.output, h.2.1.size, h.2.1.block⟩, h.2.2.heap rfl⟩
theorem Mid.set {g k : Nat} {s s' : Ga.St} {a b : World} (h : Mid g k s a b) (i : Nat) (v : Int) (he : (head5 s).set i (.int .i64 v) = head5 s') (hi : i < 5) (hk : i < k) (hP : s'.P = s.P) (hN : s'.N = s.N) : Mid g k s' a (b.setCell ⟨g, i, none⟩ (.int .i64 v)) :=
  ⟨h.1.set i v he hi hP hN, h.2.1.trans (Only.set _ _), h.2.2.trans (KeptFrom.set _ _ hk)⟩

set_option maxRecDepth 100000 in
set_option maxHeartbeats 1000000 in
theorem sjoin_any (g : Nat) (s : Ga.St) (w : World) (h : AccRaw w g s) (n u d : Int) (n0 : 0 ≤ n) (n1 : n ≤ 1099511627776) (u0 : 0 ≤ u) (u1 : u ≤ 1099511627776) (d0 : 0 ≤ d) (d1 : d ≤ 1099511627776)
    (a0 : 0 ≤ s.n) (a1 : s.n ≤ 1099511627776) (b0 : 0 ≤ s.u) (b1 : s.u ≤ 1099511627776) (c0 : 0 ≤ s.d) (c1 : s.d ≤ 1099511627776) :
    Calls Tryz.prog 46 #[.pointer (some ⟨g, 0, none⟩), .agg #[.int .i64 n, .int .i64 u, .int .i64 d]] w fun e w' => e = .returned (.tuple #[]) ∧ Mid g 3 { s with n := s.n + n, u := s.u + u, d := s.d + d } w w' := by
  have gl := h.lt
  obtain ⟨W, hW⟩ : ∃ W, w.alloc (.cells #[.int .i64 n, .int .i64 u, .int .i64 d] 56) = W := ⟨_, rfl⟩
  have eB : Below w.heap.size w W := by rw [← hW]; exact (Below.refl w.heap.size w).alloc (Nat.le_refl _) _
  have bx : Blk W w.heap.size 56 [.int .i64 n, .int .i64 u, .int .i64 d] := by rw [← hW]; exact Blk.new w _ _
  have M0 : Mid g 3 s w W := ⟨h.on eB, Only.of_below eB, KeptFrom.below eB⟩
  obtain ⟨b, hb⟩ : ∃ b, w.heap.size = b := ⟨_, rfl⟩
  rw [hb] at bx
  have hgb : b ≠ g := by omega
  -- the three stores
  obtain ⟨W1, hW1⟩ : ∃ W1, (W.setCell ⟨g, 0, none⟩ (.int .i64 (s.n + n))).drew = W1 := ⟨_, rfl⟩
  have M1 : Mid g 3 { s with n := s.n + n } w W1 := by rw [← hW1]; exact (M0.set (s' := { s with n := s.n + n }) 0 (s.n + n) rfl (by decide) (by decide) rfl rfl).drew
  have O1 : Only g W W1 := by rw [← hW1]; exact ⟨rfl, rfl, rfl, by simp [World.setCell], (Only.set (w := W) (g := g) 0 (.int .i64 (s.n + n))).block⟩
  obtain ⟨W2, hW2⟩ : ∃ W2, (W1.setCell ⟨g, 1, none⟩ (.int .i64 (s.u + u))).drew = W2 := ⟨_, rfl⟩
  have M2 : Mid g 3 { s with n := s.n + n, u := s.u + u } w W2 := by rw [← hW2]; exact (M1.set (s' := { s with n := s.n + n, u := s.u + u }) 1 (s.u + u) rfl (by decide) (by decide) rfl rfl).drew
  have O2 : Only g W1 W2 := by rw [← hW2]; exact ⟨rfl, rfl, rfl, by simp [World.setCell], (Only.set (w := W1) (g := g) 1 (.int .i64 (s.u + u))).block⟩
  obtain ⟨W3, hW3⟩ : ∃ W3, (W2.setCell ⟨g, 2, none⟩ (.int .i64 (s.d + d))).drew = W3 := ⟨_, rfl⟩
  have M3 : Mid g 3 { s with n := s.n + n, u := s.u + u, d := s.d + d } w W3 := by rw [← hW3]; exact (M2.set (s' := { s with n := s.n + n, u := s.u + u, d := s.d + d }) 2 (s.d + d) rfl (by decide) (by decide) rfl rfl).drew
  have b1' := bx.only O1 hgb
  have b2' := b1'.only O2 hgb
  have x0 : W.cell? ⟨b, 0, none⟩ = some (.int .i64 n) := bx.cell rfl
  have x1 : W1.cell? ⟨b, 1, none⟩ = some (.int .i64 u) := b1'.cell rfl
  have x2 : W2.cell? ⟨b, 2, none⟩ = some (.int .i64 d) := b2'.cell rfl
  have y0 := M0.1.cells.1.1
  have y1 := M1.1.cells.1.2.1
  have y2 := M2.1.cells.1.2.2.1
  have f0 := M0.1.cells.2 0
  have f1 := M1.1.cells.2 1
  have f2 := M2.1.cells.2 2
  have R := hid M3
  simp only at y1 y2
  generalize s.n = p at *
  generalize s.u = q at *
  generalize s.d = r at *
  clear M0 M1 M2 M3 O1 O2 b1' b2' bx eB h gl
  go_enter Tryz.func46, Tryz.ntmps46
  go_wp2
  try rw [hW]
  try simp only [hb]
  go_region
  try rw [hW1]
  clear hW1 hW hb
  go_wp2
  go_region
  try rw [hW2]
  clear hW2
  go_wp2
  go_region
  try rw [hW3]
  clear hW3
  go_wp2
  go_end0
  exact ⟨rfl, R.out⟩

/-- The pile above 0 joined with another. -/
theorem Mid.above {g : Nat} {s : Ga.St} {w w' : World} {aa bb : List Int} {T : Int} (hB : Blk w g 60 (head5 s ++ lb aa ++ lb bb)) (la : aa.length = 67) (hl : bb.length = 67) (hb : Nm.Limbs bb) (hv : Nm.val bb = s.N) (h : Piled g 60 (head5 s) (lb bb) T w w') : Mid g 72 { s with P := T } w w' := by
  obtain ⟨os, h1, h2, h3, h4, h5, -⟩ := h
  exact ⟨⟨os, bb, h1, ⟨h2, hl⟩, ⟨h3, hb⟩, ⟨h4, hv⟩⟩, h5, KeptFrom.blk hB h1 (by rw [lb_length, lb_length, la, h2]) h5 (by rw [lb_length, la]; simp [head5])⟩

theorem Mid.beneath {g : Nat} {s : Ga.St} {w w' : World} {aa bb : List Int} {T : Int} (hB : Blk w g 60 (head5 s ++ lb aa ++ lb bb)) (la : aa.length = 67) (hl : bb.length = 67) (ha : Nm.Limbs aa) (hv : Nm.val aa = s.P) (h : Piled g 60 (head5 s ++ lb aa) [] T w w') : Mid g 139 { s with N := T } w w' := by
  obtain ⟨os, h1, h2, h3, h4, h5, -⟩ := h
  have hB' : Blk w g 60 (head5 s ++ lb aa ++ lb bb ++ []) := by rw [List.append_nil]; exact hB
  refine ⟨⟨aa, os, by rw [List.append_nil] at h1; exact h1, ⟨la, h2⟩, ⟨ha, h3⟩, ⟨hv, h4⟩⟩, h5, KeptFrom.blk hB' h1 (by rw [lb_length, lb_length, hl, h2]) h5 (by simp [head5, lb_length, la, hl])⟩

namespace Ga
/-- Both together. -/
def St.plus (a b : St) : St := ⟨a.n + b.n, a.u + b.u, a.d + b.d, a.c + b.c, a.z + b.z, a.P + b.P, a.N + b.N⟩
def St.merge (a b : St) : St := if 1099511627776 < a.c + b.c then a else a.plus b

theorem St.Ok.plus {a b : St} (h : a.Ok) (k : b.Ok) (hc : ¬ 1099511627776 < a.c + b.c) : (a.plus b).Ok := by
  obtain ⟨h1, h2, h3, h4, h5, h6, h7, h8, h9⟩ := h
  obtain ⟨k1, k2, k3, k4, k5, k6, k7, k8, k9⟩ := k
  refine ⟨?_, ?_, ?_, ?_, ?_, ?_, ?_, ?_, ?_⟩ <;> simp only [St.plus] <;> first | omega | (rw [Int.add_mul]; omega)
end Ga

/-- The pile of the other Acc, cell by cell, as join asks it: still there, and where both are one the cells ahead are as they were. -/
theorem other_pile {g g' t o : Nat} {A C : List Value} {zs ys : List Int} {w : World} (hA : A.length = o) (hz : zs.length = 67)
    (hB : Blk w g t (A ++ lb zs ++ C)) (hc : ∀ i, i < 67 → w.cell? ⟨g', o + i, none⟩ = some (.int .u64 (ys.getD i 0))) :
    ∀ (wx : World) (os : List Int) (i : Nat), i < 67 → os.length = 67 → (∀ k, i ≤ k → os.getD k 0 = zs.getD k 0) → Blk wx g t (A ++ lb os ++ C) → Only g w wx → wx.cell? ⟨g', o + i, none⟩ = some (.int .u64 (ys.getD i 0)) := by
  intro wx os i hi ho hk hx hO
  by_cases hg : g' = g
  · subst hg
    have e1 := hB.cell (lb_at A C zs o i hA (by omega))
    rw [hc i hi] at e1
    have e2 := hx.cell (lb_at A C os o i hA (by omega))
    rw [hk i (Nat.le_refl _)] at e2
    rw [e2, ← e1]
  · exact hO.cell (hc i hi) hg

set_option maxRecDepth 100000 in
set_option maxHeartbeats 4000000 in
theorem merge_any (g g' : Nat) (a b : Ga.St) (w : World) (ha : AccAt w g a) (hb : AccAt w g' b) :
    Calls Tryz.prog 15 #[.pointer (some ⟨g, 0, none⟩), .pointer (some ⟨g', 0, none⟩)] w fun e w' => e = .returned (.tuple #[]) ∧ AccAt w' g (a.merge b) ∧ Only g w w' := by
  obtain ⟨⟨-, -, -, c3, -⟩, -⟩ := ha.cells
  obtain ⟨⟨d0, d1, d2, d3, d4⟩, -⟩ := hb.cells
  obtain ⟨a1, a2, a3, a4, a5, a6, a7, a8, a9⟩ := ha.ok
  obtain ⟨b1, b2, b3, b4, b5, b6, b7, b8, b9⟩ := hb.ok
  have ca0 : 0 ≤ a.c := by omega
  have cb0 : 0 ≤ b.c := by omega
  by_cases hc : 1099511627776 < a.c + b.c
  · rw [Ga.St.merge, if_pos hc]
    have R := hid (fun (k : Nat) => (show AccAt (w.drewN k) g a ∧ Only g w (w.drewN k) from ⟨ha.heap rfl, (Only.refl g w).drewN k⟩))
    generalize a.c = x at *
    generalize b.c = y at *
    clear a1 a2 a3 a4 a5 a7 a8 a9 b1 b2 b3 b4 b5 b7 b8 b9 ha hb d0 d1 d2 d4
    go_enter Tryz.func15, Tryz.ntmps15
    go_wp2
    go_quiet (fail)
    go_wp2
    (try simp only [Exit.inBlock, Exit.then])
    refine bodyPost_ret (results_none rfl _ _ _) rfl ?_
    exact ⟨rfl, R.out _⟩
  · rw [Ga.St.merge, if_neg hc]
    have OK := hid (ha.ok.plus hb.ok hc)
    have hc' : decide (1099511627776 < a.c + b.c) = false := decide_eq_false hc
    have SJ := hid (fun (wx : World) (h : AccRaw wx g a) => sjoin_any g a wx h b.n b.u b.d b1 (by omega) b2 (by omega) b3 (by omega) a1 (by omega) a2 (by omega) a3 (by omega))
    have HA := hid ha
    have HB := hid hb
    obtain ⟨ya, yb, BY, ⟨ly1, ly2⟩, ⟨my1, my2⟩, ⟨vy1, vy2⟩, -⟩ := hb
    have YA : Hid (∀ i, i < 67 → w.cell? ⟨g', 5 + i, none⟩ = some (.int .u64 (ya.getD i 0))) := fun i hi => BY.cell (lb_at (head5 b) (lb yb) ya 5 i rfl (by omega))
    have YB : Hid (∀ i, i < 67 → w.cell? ⟨g', 72 + i, none⟩ = some (.int .u64 (yb.getD i 0))) := fun i hi => by
      have := lb_at (head5 b ++ lb ya) [] yb 72 i (by simp [head5, lb_length, ly1]) (by omega)
      rw [List.append_nil] at this
      exact BY.cell this
    have VY1 := hid vy1
    have VY2 := hid vy2
    clear BY ha vy1 vy2
    have za0 : a.z ≤ 1099511627776 := by omega
    have zb0 : b.z ≤ 1099511627776 := by omega
    clear a1 a2 a3 a5 a7 a8 a9 b1 b2 b3 b5 b7 b8 b9 hc
    have D3 := hid d3
    have D4 := hid d4
    go_enter Tryz.func15, Tryz.ntmps15
    go_wp2
    go_quiet (fail)
    go_wp2
    have M0 : Hid (Mid g 0 a w (w.drewN (nq + 1))) := (show Mid g 0 a w w from ⟨HA.out.raw, Only.refl _ _, KeptFrom.refl _ _ _⟩).drewN (nq + 1)
    have SJ1 := hid (SJ.out (w.drewN (nq + 1)) M0.out.1)
    clear SJ
    go_region_with (go_at_call 46; with_reducible refine SJ1.out.mono ?_; rintro e W1 ⟨rfl, m1⟩; have M1 := hid (M0.out.trans m1 (Nat.zero_le 3)); clear m1)
    clear SJ1 M0 d0 d1 d2 d3 d4 c3
    have x3 := M1.out.1.cells.1.2.2.2.1
    have f3 := M1.out.1.cells.2 3
    have y3 := M1.out.2.2 g' 3 _ D3.out (fun _ => Nat.le_refl _)
    simp only at x3
    obtain ⟨W2, hW2⟩ : ∃ W2, (W1.setCell ⟨g, 3, none⟩ (.int .i64 (a.c + b.c))).drew = W2 := ⟨_, rfl⟩
    have M2 : Hid (Mid g 4 { a with n := a.n + b.n, u := a.u + b.u, d := a.d + b.d, c := a.c + b.c } w W2) := by
      rw [← hW2]; exact ((M1.out.mono (by decide)).set (s' := { a with n := a.n + b.n, u := a.u + b.u, d := a.d + b.d, c := a.c + b.c }) 3 (a.c + b.c) rfl (by decide) (by decide) rfl rfl).drew
    go_wp2
    go_region
    try rw [hW2]
    clear hW2 x3 f3 y3 M1
    have x4 := M2.out.1.cells.1.2.2.2.2
    have f4 := M2.out.1.cells.2 4
    have y4 := M2.out.2.2 g' 4 _ D4.out (fun _ => Nat.le_refl _)
    simp only at x4
    obtain ⟨W3, hW3⟩ : ∃ W3, (W2.setCell ⟨g, 4, none⟩ (.int .i64 (a.z + b.z))).drew = W3 := ⟨_, rfl⟩
    have M3 : Hid (Mid g 5 { a with n := a.n + b.n, u := a.u + b.u, d := a.d + b.d, c := a.c + b.c, z := a.z + b.z } w W3) := by
      rw [← hW3]; exact ((M2.out.mono (by decide)).set (s' := { a with n := a.n + b.n, u := a.u + b.u, d := a.d + b.d, c := a.c + b.c, z := a.z + b.z }) 4 (a.z + b.z) rfl (by decide) (by decide) rfl rfl).drew
    go_wp2
    go_region
    try rw [hW3]
    clear hW3 x4 f4 y4 M2
    have M3d := hid M3.out.drew
    obtain ⟨aa, bb, BA, ⟨l1, l2⟩, ⟨m1, m2⟩, ⟨v1, v2⟩⟩ := M3d.out.1
    have J1 := hid (pileJoin_any g 60 5 _ (lb bb) aa ya W3.drew rfl BA l1 m1 g' 5 my1 ly1 (other_pile rfl l1 BA (fun i hi => M3d.out.2.2 g' (5 + i) _ (YA.out i hi) (fun _ => Nat.le_add_right _ _))) (by rw [v1, VY1.out]; exact OK.out.room.1))
    have K1 : Hid (∀ w5, Piled g 60 _ (lb bb) (Nm.val aa + Nm.val ya) W3.drew w5 → Mid g 72 { a.plus b with N := a.N } w w5) := fun w5 hP => by
      have := M3d.out.trans (Mid.above BA l1 l2 m2 v2 hP) (by decide)
      rw [v1, VY1.out] at this
      exact this
    clear BA l1 l2 m1 m2 v1 v2 M3 M3d
    go_wp2
    go_region_with (go_at_call 47; with_reducible refine J1.out.mono ?_; rintro e W4 ⟨rfl, hP⟩; have M4 := hid (K1.out _ hP); clear hP)
    clear J1 K1
    have M4d := hid M4.out.drew
    obtain ⟨aa', bb', BA, ⟨l1, l2⟩, ⟨m1, m2⟩, ⟨v1, v2⟩⟩ := M4d.out.1
    have J2 := hid (pileJoin_any g 60 72 (head5 { a.plus b with N := a.N } ++ lb aa') [] bb' yb W4.drew (by simp [head5, lb_length, l1]) (by rw [List.append_nil]; exact BA) l2 m2 g' 72 my2 ly2 (other_pile (A := head5 { a.plus b with N := a.N } ++ lb aa') (C := []) (t := 60) (g := g) (by simp [head5, lb_length, l1]) l2 (by rw [List.append_nil]; exact BA) (fun i hi => M4d.out.2.2 g' (72 + i) _ (YB.out i hi) (fun _ => Nat.le_add_right _ _))) (by rw [v2, VY2.out]; exact OK.out.room.2))
    have K2 : Hid (∀ w5, Piled g 60 (head5 { a.plus b with N := a.N } ++ lb aa') [] (Nm.val bb' + Nm.val yb) W4.drew w5 → AccAt w5 g (a.plus b) ∧ Only g w w5) := fun w5 hP => by
      have := M4d.out.trans (Mid.beneath BA l1 l2 m1 v1 hP) (by decide)
      rw [v2, VY2.out] at this
      exact ⟨AccRaw.ok this.1 OK.out, this.2.1⟩
    clear BA l1 l2 m1 m2 v1 v2 M4 M4d
    go_wp2
    go_region_with (go_at_call 47; with_reducible refine J2.out.mono ?_; rintro e W5 ⟨rfl, hP⟩; have M5 := hid (K2.out _ hP); clear hP)
    clear J2 K2
    go_wp2
    go_end0
    exact ⟨rfl, M5.out⟩
end Go.Proofs.YtdolgbojbmioeaaGreatDoor

namespace Go.Proofs.YtdolgbojbmioeaaGreatDoor
namespace Ga

/-- k times as much. -/
def St.times (s : St) (k : Int) : St := ⟨s.n * k, s.u * k, s.d * k, s.c * k, s.z * k, s.P * k, s.N * k⟩

theorem times_one (s : St) : s.times 1 = s := by simp [St.times]

theorem merge_self {s : St} (hc : s.c = 1) (j : Nat) : (s.times (2 ^ min j 40)).merge (s.times (2 ^ min j 40)) = s.times (2 ^ min (j + 1) 40) := by
  have hcc : (s.times (2 ^ min j 40)).c = 2 ^ min j 40 := by simp [St.times, hc]
  rcases Nat.lt_or_ge j 40 with h | h
  · have e1 : min j 40 = j := by omega
    have e2 : min (j + 1) 40 = j + 1 := by omega
    rw [e1] at hcc
    rw [e1, e2, St.merge, hcc, if_neg]
    · simp only [St.plus, St.times, Nm.two_succ]
      congr 1 <;> rw [Int.mul_left_comm] <;> omega
    · have := Nm.two_mono (show j + 1 ≤ 40 by omega)
      rw [Nm.two_succ, show (2 : Int) ^ 40 = 1099511627776 by decide] at this
      omega
  · have e1 : min j 40 = 40 := by omega
    have e2 : min (j + 1) 40 = 40 := by omega
    rw [e1] at hcc
    rw [e1, e2, St.merge, hcc, if_pos (by decide)]

theorem cls_one : Ie.cls 4607182418800017408 = 2 := by decide

theorem note_c (s : St) (x y : Int) (neg : Bool) : (s.note x y neg).c = s.c := by
  rw [St.note]
  split
  · rfl
  · split
    · split <;> rfl
    · rfl
theorem prod_c (s : St) (x y : Int) : (s.prod x y).c = s.c + 1 := by
  rw [St.prod]
  split
  · rw [note_c]; rfl
  · split
    · split <;> rfl
    · split <;> rfl
theorem add_c1 (d : Int) : (none.add d).c = 1 := by rw [St.add, if_pos (by decide), prod_c]; rfl

theorem none_is {r : Int} (h : none.Is 1 r) : r = 0 := by
  have h0 := is_zero (s := none) (q := 1) not_odd_none rfl (by decide)
  rw [if_neg (by decide)] at h0
  rw [St.Is, if_neg not_odd_none] at h h0
  have hQ : (0 : Int) < 2 ^ 1074 * 1 := by rw [Int.mul_one]; exact Nm.two_pos _
  exact h.one hQ hQ h0 rfl

/-- An infinity. -/
theorem add_inf {d : Int} (h : Ie.ab d = 9218868437227405312) : none.add d = (if Ie.ngd d = true then { none with d := 1, c := 1 } else { none with u := 1, c := 1 }) := by
  have hc : Ie.cls d = 3 := by
    have := Ie.isi_cls d
    rw [Ie.isi, decide_eq_true h, beq_iff_eq] at this
    exact this
  rw [St.add, if_pos (by decide), St.prod, hc, cls_one, if_pos (by decide), St.note, if_neg (by decide), if_pos (by decide), show Ie.ngd 4607182418800017408 = false by decide, Bool.bne_false]
  rfl

theorem told_inf {d : Int} (h0 : 0 ≤ d) (h1 : d < 18446744073709551616) (h : Ie.ab d = 9218868437227405312) {k : Int} (hk : 0 < k) : ((none.add d).times k).Odd ∧ ((none.add d).times k).told = d := by
  have e := Ie.sb_ab d h0 h1
  rw [h] at e
  rw [add_inf h]
  by_cases hn : Ie.ngd d = true
  · rw [if_pos hn]
    rw [hn, Ie.sb, if_pos rfl] at e
    refine ⟨.inr (.inr (by simp [St.times]; exact hk)), ?_⟩
    simp [St.told, St.times, none, hk]
    omega
  · rw [if_neg hn]
    rw [show Ie.ngd d = false by simpa using hn, Ie.sb, if_neg (by decide)] at e
    refine ⟨.inr (.inl (by simp [St.times]; exact hk)), ?_⟩
    simp [St.told, St.times, none, hk]
    omega

/-- A finite one: what is answered for it k times. -/
theorem is_times {d k q r : Int} (hf : Ie.fin d) (hk : 0 < k) (h : ((none.add d).times k).Is q r) : Ie.RS (Ie.uv d * 2 ^ 1074 * k) (2 ^ 1074 * q) (decide (Ie.ngd d = true ∧ Ie.uv d = 0)) r := by
  have M := add_fin none hf (by decide)
  have n0 : (none.add d).n = 0 := M.n
  have u0 : (none.add d).u = 0 := M.u
  have d0 : (none.add d).d = 0 := M.d
  have c1 : (none.add d).c = 1 := M.c
  have hz := M.z
  have hT := M.T
  rw [St.Is, if_neg] at h
  · have e1 : ((none.add d).times k).P - ((none.add d).times k).N = Ie.uv d * 2 ^ 1074 * k := by
      simp only [St.times]
      rw [← Int.sub_mul, hT, show none.P - none.N = 0 from rfl, Int.zero_add]
    have e2 : ((none.add d).times k).zs = decide (Ie.ngd d = true ∧ Ie.uv d = 0) := by
      rw [St.zs]
      simp only [St.times, c1, Int.one_mul, hz]
      by_cases hq : Ie.ngd d = true ∧ Ie.uv d = 0
      · rw [if_pos ⟨hq.1, by rw [hq.2, Int.zero_mul]⟩, decide_eq_true hq, decide_eq_true]
        exact ⟨hk, by simp [none]⟩
      · rw [if_neg, decide_eq_false hq, decide_eq_false]
        · rintro ⟨-, q⟩
          simp only [none] at q
          omega
        · rintro ⟨a, b⟩
          rcases Int.mul_eq_zero.1 b with b | b
          · exact hq ⟨a, b⟩
          · exact absurd b (Int.ne_of_gt (Nm.two_pos 1074))
    rw [e1, e2] at h
    exact h
  · simp only [St.Odd, St.times, n0, u0, d0, Int.zero_mul]
    omega

theorem uv_zero {d : Int} (h : Ie.uv d = 0) : Ie.un (Ie.ab d) = 0 := Ie.sn_eq_zero h

theorem dbl_value {d r r' : Int} {n : Nat} (h0 : 0 ≤ d) (h1 : d < 18446744073709551616) (hd : Ie.ab d ≤ 9218868437227405312) (h : ((none.add d).times (2 ^ n)).Is 1 r) (h' : Ie.ScaleIs d n r') : r = r' := by
  rcases (show Ie.ab d = 9218868437227405312 ∨ Ie.ab d < 9218868437227405312 by omega) with hi | hf
  · obtain ⟨t1, t2⟩ := told_inf h0 h1 hi (Nm.two_pos n)
    rw [St.Is, if_pos t1, t2] at h
    rw [h, h'.2.1 (by rw [Ie.isi, decide_eq_true hi])]
  · have a := is_times hf (Nm.two_pos n) h
    obtain ⟨x, rfl, hR⟩ := h'.2.2 hf
    obtain ⟨⟨m0, -⟩, ⟨e0, -⟩, gd, -⟩ := Ie.dec_f d hf
    obtain ⟨c, hc⟩ := Int.eq_ofNat_of_zero_le (show 0 ≤ Ie.de d + 1074 by omega)
    have e := gd c hc.symm
    have b := Ie.rs_of (neg := Ie.ngd d) (S := Ie.sn (Ie.ngd d) (Ie.dm d * 2 ^ (c + n))) (Q := 2 ^ 0) (z := decide (Ie.ngd d = true ∧ Ie.uv d = 0)) hR m0 (c + n) 0 (by omega) rfl rfl (fun q => by
      have q1 := Ie.sn_eq_zero q
      rw [Nm.two_add, ← Int.mul_assoc, e] at q1
      have q2 : Ie.un (Ie.ab d) = 0 := (Int.mul_eq_zero.1 q1).resolve_right (Int.ne_of_gt (Nm.two_pos n))
      have q3 : Ie.uv d = 0 := by rw [Ie.uv, q2, Ie.sn_zero]
      cases hh : Ie.ngd d <;> simp [q3])
    refine a.one (by rw [Int.mul_one]; exact Nm.two_pos _) (by decide) b ?_
    rw [show Ie.dm d * 2 ^ (c + n) = Ie.un (Ie.ab d) * 2 ^ n by rw [Nm.two_add, ← Int.mul_assoc, e], Ie.uv, Int.mul_one, Int.pow_zero, Int.mul_one, Ie.sn_mul_right, Ie.sn_mul_right, Ie.sn_mul_right]
    generalize (2 : Int) ^ 1074 = A
    congr 1
    ac_rfl

theorem dbl_mean {d r : Int} {n : Nat} (h0 : 0 ≤ d) (h1 : d < 18446744073709551616) (hd : Ie.ab d ≤ 9218868437227405312) (h : ((none.add d).times (2 ^ n)).Is (2 ^ n) r) : r = d := by
  rcases (show Ie.ab d = 9218868437227405312 ∨ Ie.ab d < 9218868437227405312 by omega) with hi | hf
  · obtain ⟨t1, t2⟩ := told_inf h0 h1 hi (Nm.two_pos n)
    rw [St.Is, if_pos t1, t2] at h
    exact h
  · have a := is_times hf (Nm.two_pos n) h
    have ab := Ie.ab_bd d
    have b : Ie.RS (Ie.uv d) 1 (decide (Ie.ngd d = true ∧ Ie.uv d = 0)) d := by
      refine ⟨Ie.ngd d, Ie.un (Ie.ab d), Ie.ab d, Ie.sb_ab d h0 h1, rfl, Ie.un_nn ab.1, ?_, fun q => ?_⟩
      · have := Ie.near_self (Ie.ab d) 1 false (by decide) ab.1 hf
        rwa [Int.mul_one] at this
      · cases hh : Ie.ngd d <;> simp [q]
    refine a.one (Int.mul_pos (Nm.two_pos _) (Nm.two_pos _)) (by decide) b ?_
    rw [Int.mul_one]
    generalize (2 : Int) ^ 1074 = A
    ac_rfl
end Ga
end Go.Proofs.YtdolgbojbmioeaaGreatDoor

namespace Go.Proofs.YtdolgbojbmioeaaGreatDoor
open Go.RowKit Go.Deep

set_option maxRecDepth 100000 in
set_option maxHeartbeats 4000000 in
theorem doubles_law (d k : Int) (w : World) (d0 : 0 ≤ d) (d1 : d < 18446744073709551616) (k0 : 0 ≤ k) (k1 : k < 256) (hT : Tab w) :
    Calls Tryz.prog 6 #[.int .u64 d, .int .u8 k] w fun e w' => e = .returned (.bool true) ∧ Below w.heap.size w w' := by
  have AW := hid (awake_any w hT)
  by_cases hd : 9218868437227405312 < d % 9223372036854775808
  · clear hT
    go_enter Tryz.func6, Tryz.ntmps6
    go_wp2_with fail
    refine AW.out.mono ?_
    rintro e w1 ⟨rfl, hB⟩
    have HB := hid hB
    clear hB
    go_wp2
    go_ret
    exact ⟨rfl, HB.out⟩
  · have hda : Ie.ab d ≤ 9218868437227405312 := by rw [Ie.ab]; omega
    obtain ⟨K, hK⟩ := Int.eq_ofNat_of_zero_le (show 0 ≤ k % 64 by omega)
    have Kb : K ≤ 63 := by omega
    have DV := hid (fun (n : Nat) (r r' : Int) (h : ((Ga.none.add d).times (2 ^ n)).Is 1 r) (h' : Ie.ScaleIs d n r') => Ga.dbl_value d0 d1 hda h h')
    have DM := hid (fun (n : Nat) (r : Int) (h : ((Ga.none.add d).times (2 ^ n)).Is (2 ^ n) r) => Ga.dbl_mean d0 d1 hda h)
    have C1 : Hid ((Ga.none.add d).c = 1) := Ga.add_c1 d
    have HT := hid hT
    have hd' : ¬ 9218868437227405312 < d % 9223372036854775808 := hd
    clear hT hd
    go_enter Tryz.func6, Tryz.ntmps6
    go_wp2_with fail
    refine AW.out.mono ?_
    rintro e w1 ⟨rfl, hB⟩
    have HB := hid hB
    clear hB AW
    go_wp2_with fail
    refine (new_any w1).mono ?_
    rintro e w2 ⟨rfl, hA, hB⟩
    obtain ⟨g, hg⟩ : ∃ g, w1.heap.size = g := ⟨_, rfl⟩
    rw [hg] at hA
    simp only [hg]
    have gb : w.heap.size ≤ g := by have := HB.out.size; omega
    have HB2 := hid (HB.out.trans (hB.mono HB.out.size))
    have AD := hid (add_all g _ w2 hA d d0 d1)
    clear hA hB HB hg
    go_wp2_with fail
    refine AD.out.mono ?_
    rintro e w3 ⟨rfl, hA, hO⟩
    have R0 : Hid (AccAt w3 g ((Ga.none.add d).times (2 ^ min 0 40)) ∧ Below w.heap.size w w3) := by
      rw [show (2 : Int) ^ min 0 40 = 1 by decide, Ga.times_one]
      exact ⟨hA, HB2.out.trans (hO.below gb HB2.out.size)⟩
    clear hA hO HB2 AD
    go_wp2_with fail
    go_loopw [6] (fun i wr => ∃ j : Nat, i = .int .i64 j ∧ j ≤ K ∧ Hid (AccAt wr g ((Ga.none.add d).times (2 ^ min j 40)) ∧ Below w.heap.size w wr)) (fun i _ => K - (intOf i).toNat)
    case atStart => exact ⟨0, rfl, Nat.zero_le _, R0⟩
    case round =>
      clear R0
      obtain ⟨j, rfl, hj, R⟩ := hrel
      by_cases hlt : j < K
      · have ME := merge_any g g _ _ wr R.out.1 R.out.1
        rw [Ga.merge_self (by rw [(show (Ga.none.add d).c = 1 from C1.out)])] at ME
        have ME := hid ME
        have hlt' : (j : Int) < (K : Int) := by omega
        go_wp2_with fail
        refine ME.out.mono ?_
        rintro e w4 ⟨rfl, hA, hO⟩
        have R1 : Hid (AccAt w4 g ((Ga.none.add d).times (2 ^ min (j + 1) 40)) ∧ Below w.heap.size w w4) := ⟨hA, R.out.2.trans (hO.below gb R.out.2.size)⟩
        clear hA hO ME R
        go_wp2_with fail
        go_roundw
        case rel => exact ⟨j + 1, by go_num, by omega, R1⟩
        case measure => simp [intOf]; omega
      · have hjK : j = K := by omega
        subst hjK
        clear hlt hj
        rcases (show 40 < j ∨ j = 40 ∨ j < 40 by omega) with h40 | rfl | h40
        · have h40' : (40 : Int) < (j : Int) := by omega
          rw [show min j 40 = 40 by omega] at R
          go_upto_region 14 with fail
          have P2 : Hid ((2 : Int) ^ 40 = 1099511627776) := by rw [Hid]; decide
          have SH1 : IntKind.i64.wrap 1099511627776 = 1099511627776 := by decide
          have SCc : Hid (((Ga.none.add d).times (2 ^ 40)).c = 1099511627776) := by
            rw [Hid, show ((Ga.none.add d).times (2 ^ 40)).c = (Ga.none.add d).c * 2 ^ 40 from rfl, C1.out, Int.one_mul, P2.out]
          have SAc : Hid ((((Ga.none.add d).times (2 ^ 40)).add d).c = 1099511627776) := by
            rw [Hid, Ga.St.add, SCc.out]
            rw [if_neg (by decide)]; exact SCc.out
          have AC : Hid (∀ wx : World, Below wr.heap.size wr wx → AccAt wx g ((Ga.none.add d).times (2 ^ 40)) ∧ Tab wx) := fun wx hx => ⟨R.out.1.on hx, (HT.out.below R.out.2).below hx⟩
          have CN : Hid (∀ wx : World, Below wr.heap.size wr wx → Calls Tryz.prog 17 #[.pointer (some ⟨g, 0, none⟩)] wx fun e w' => e = .returned (.int .i64 1099511627776) ∧ w' = wx) := fun wx hx => by
            have := count_any g _ wx (AC.out wx hx).1
            rwa [SCc.out] at this
          have VL := hid (fun (wx : World) (hx : Below wr.heap.size wr wx) => value_any g _ wx (AC.out wx hx).1 (AC.out wx hx).2)
          have SC := hid (fun (wx : World) (hx : Below wr.heap.size wr wx) => scale_any d 40 wx (AC.out wx hx).2 d0 d1)
          have TR : Hid (∀ wx w' : World, Below wr.heap.size wr wx → Below wx.heap.size wx w' → Below wr.heap.size wr w') := fun wx w' a b => a.trans (b.mono a.size)
          have T1 : Hid (Below wr.heap.size wr wr.drew) := ⟨rfl, rfl, rfl, Nat.le_refl _, fun _ _ => rfl⟩
          go_region_held3 (fun _ => True) (trivial) (first
            | (go_at_call 17; refine (CN.out _ ?_).mono ?_; (first | exact T3.out | exact T2.out | exact T1.out); rintro e wz ⟨rfl, hz⟩; replace hz := hz.symm; subst hz)
            | (go_at_call 19; refine (VL.out _ ?_).mono ?_; (first | exact T3.out | exact T2.out | exact T1.out); rintro e w5 ⟨r5, rfl, E5, hB⟩; (first | have T3 := hid (TR.out _ _ T2.out hB) | have T2 := hid (TR.out _ _ T1.out hB)); clear hB; (try (have er := DV.out 40 _ _ E5.out E6.out; subst er)))
            | (go_at_call 35; refine (SC.out _ ?_).mono ?_; (first | exact T3.out | exact T2.out | exact T1.out); rintro e w6 ⟨r6, rfl, e6, hB⟩; have E6 := hid e6; (first | have T3 := hid (TR.out _ _ T2.out hB) | have T2 := hid (TR.out _ _ T1.out hB)); clear hB e6; (try (have er := DV.out 40 _ _ E5.out E6.out; subst er))))
          have ME := hid (amean_any g _ w6 (AC.out w6 T3.out).1 (AC.out w6 T3.out).2 (by rw [SCc.out]; omega))
          clear E5 E6 VL SC CN T1 T2 DV
          go_wp2_with fail
          refine ME.out.mono ?_
          rintro e w7 ⟨r7, rfl, E7, hB⟩
          rw [SCc.out, ← P2.out] at E7
          have er := DM.out 40 _ E7.out
          replace er := er.symm
          subst er
          have T7 := hid (TR.out _ _ T3.out hB)
          have CP := hid (copy_any g _ w7 (AC.out w7 T7.out).1)
          clear hB E7 ME T3 DM
          go_wp2_with fail
          refine CP.out.mono ?_
          rintro e w8 ⟨rfl, hA, hB⟩
          obtain ⟨gc, hgc⟩ : ∃ gc, w7.heap.size = gc := ⟨_, rfl⟩
          have gg : gc ≠ g := by have := (AC.out w7 T7.out).1.lt; omega
          have gcb : wr.heap.size ≤ gc := by have := T7.out.size; omega
          rw [hgc] at hA
          simp only [hgc]
          have T8 := hid (TR.out _ _ T7.out hB)
          have AD := hid (add_all gc _ w8 hA d d0 d1)
          clear hA hB hgc CP
          go_wp2_with fail
          refine AD.out.mono ?_
          rintro e w9 ⟨rfl, hA, hO⟩
          have T9 := hid (T8.out.trans (hO.below gcb T8.out.size))
          have A9 := hid hA
          have RE := hid (reset_any g _ w9 (AC.out w9 T9.out).1)
          clear hA hO AD T7 T8
          go_wp2_with fail
          refine RE.out.mono ?_
          rintro e w10 ⟨rfl, hA, hO⟩
          have A10 := hid (A9.out.only hO gg)
          have b9 := R.out.2.trans (T9.out.mono R.out.2.size)
          have BW := hid (b9.trans (hO.below gb b9.size))
          have NA := hid hA
          clear hA hO RE A9 T9 b9 AC TR
          have CC : Hid (∀ wx : World, Below w10.heap.size w10 wx → Calls Tryz.prog 17 #[.pointer (some ⟨gc, 0, none⟩)] wx fun e w' => e = .returned (.int .i64 1099511627776) ∧ w' = wx) := fun wx hx => by
            have := count_any gc _ wx (A10.out.on hx)
            rwa [SAc.out] at this
          have CA : Hid (∀ wx : World, Below w10.heap.size w10 wx → Calls Tryz.prog 17 #[.pointer (some ⟨g, 0, none⟩)] wx fun e w' => e = .returned (.int .i64 0) ∧ w' = wx) := fun wx hx => count_any g _ wx (NA.out.on hx)
          have VA := hid (fun (wx : World) (hx : Below w10.heap.size w10 wx) => value_any g _ wx (NA.out.on hx) ((HT.out.below BW.out).below hx))
          have U1 : Hid (Below w10.heap.size w10 w10.drew) := ⟨rfl, rfl, rfl, Nat.le_refl _, fun _ _ => rfl⟩
          have FN : Hid (∀ wx w' : World, Below w10.heap.size w10 wx → Below wx.heap.size wx w' → Below w.heap.size w w') := fun wx w' a b => (BW.out.trans (a.mono BW.out.size)).trans (b.mono (Nat.le_trans BW.out.size a.size))
          go_upto_region 23 with fail
          go_region_held3 (fun _ => True) (trivial) (first
            | (go_at_call 17; with_reducible refine (CC.out _ ?_).mono ?_; (exact U1.out); rintro e wz ⟨rfl, hz⟩; replace hz := hz.symm; subst hz)
            | (go_at_call 17; with_reducible refine (CA.out _ ?_).mono ?_; (exact U1.out); rintro e wz ⟨rfl, hz⟩; replace hz := hz.symm; subst hz)
            | (go_at_call 19; refine (VA.out _ ?_).mono ?_; (exact U1.out); rintro e w11 ⟨r11, rfl, E11, hB⟩; have er := Ga.none_is E11.out; subst er; have F := hid (FN.out _ _ U1.out hB); clear hB))
          all_goals (go_wp2_with fail; go_ret; exact ⟨rfl, F.out⟩)
        · rw [show min 40 40 = 40 by decide] at R
          go_upto_region 14 with fail
          have P2 : Hid ((2 : Int) ^ 40 = 1099511627776) := by rw [Hid]; decide
          have SH1 : IntKind.i64.wrap 1099511627776 = 1099511627776 := by decide
          have SCc : Hid (((Ga.none.add d).times (2 ^ 40)).c = 1099511627776) := by
            rw [Hid, show ((Ga.none.add d).times (2 ^ 40)).c = (Ga.none.add d).c * 2 ^ 40 from rfl, C1.out, Int.one_mul, P2.out]
          have SAc : Hid ((((Ga.none.add d).times (2 ^ 40)).add d).c = 1099511627776) := by
            rw [Hid, Ga.St.add, SCc.out]
            rw [if_neg (by decide)]; exact SCc.out
          have AC : Hid (∀ wx : World, Below wr.heap.size wr wx → AccAt wx g ((Ga.none.add d).times (2 ^ 40)) ∧ Tab wx) := fun wx hx => ⟨R.out.1.on hx, (HT.out.below R.out.2).below hx⟩
          have CN : Hid (∀ wx : World, Below wr.heap.size wr wx → Calls Tryz.prog 17 #[.pointer (some ⟨g, 0, none⟩)] wx fun e w' => e = .returned (.int .i64 1099511627776) ∧ w' = wx) := fun wx hx => by
            have := count_any g _ wx (AC.out wx hx).1
            rwa [SCc.out] at this
          have VL := hid (fun (wx : World) (hx : Below wr.heap.size wr wx) => value_any g _ wx (AC.out wx hx).1 (AC.out wx hx).2)
          have SC := hid (fun (wx : World) (hx : Below wr.heap.size wr wx) => scale_any d 40 wx (AC.out wx hx).2 d0 d1)
          have TR : Hid (∀ wx w' : World, Below wr.heap.size wr wx → Below wx.heap.size wx w' → Below wr.heap.size wr w') := fun wx w' a b => a.trans (b.mono a.size)
          have T1 : Hid (Below wr.heap.size wr wr.drew) := ⟨rfl, rfl, rfl, Nat.le_refl _, fun _ _ => rfl⟩
          go_region_held3 (fun _ => True) (trivial) (first
            | (go_at_call 17; refine (CN.out _ ?_).mono ?_; (first | exact T3.out | exact T2.out | exact T1.out); rintro e wz ⟨rfl, hz⟩; replace hz := hz.symm; subst hz)
            | (go_at_call 19; refine (VL.out _ ?_).mono ?_; (first | exact T3.out | exact T2.out | exact T1.out); rintro e w5 ⟨r5, rfl, E5, hB⟩; (first | have T3 := hid (TR.out _ _ T2.out hB) | have T2 := hid (TR.out _ _ T1.out hB)); clear hB; (try (have er := DV.out 40 _ _ E5.out E6.out; subst er)))
            | (go_at_call 35; refine (SC.out _ ?_).mono ?_; (first | exact T3.out | exact T2.out | exact T1.out); rintro e w6 ⟨r6, rfl, e6, hB⟩; have E6 := hid e6; (first | have T3 := hid (TR.out _ _ T2.out hB) | have T2 := hid (TR.out _ _ T1.out hB)); clear hB e6; (try (have er := DV.out 40 _ _ E5.out E6.out; subst er))))
          have ME := hid (amean_any g _ w6 (AC.out w6 T3.out).1 (AC.out w6 T3.out).2 (by rw [SCc.out]; omega))
          clear E5 E6 VL SC CN T1 T2 DV
          go_wp2_with fail
          refine ME.out.mono ?_
          rintro e w7 ⟨r7, rfl, E7, hB⟩
          rw [SCc.out, ← P2.out] at E7
          have er := DM.out 40 _ E7.out
          replace er := er.symm
          subst er
          have T7 := hid (TR.out _ _ T3.out hB)
          have CP := hid (copy_any g _ w7 (AC.out w7 T7.out).1)
          clear hB E7 ME T3 DM
          go_wp2_with fail
          refine CP.out.mono ?_
          rintro e w8 ⟨rfl, hA, hB⟩
          obtain ⟨gc, hgc⟩ : ∃ gc, w7.heap.size = gc := ⟨_, rfl⟩
          have gg : gc ≠ g := by have := (AC.out w7 T7.out).1.lt; omega
          have gcb : wr.heap.size ≤ gc := by have := T7.out.size; omega
          rw [hgc] at hA
          simp only [hgc]
          have T8 := hid (TR.out _ _ T7.out hB)
          have AD := hid (add_all gc _ w8 hA d d0 d1)
          clear hA hB hgc CP
          go_wp2_with fail
          refine AD.out.mono ?_
          rintro e w9 ⟨rfl, hA, hO⟩
          have T9 := hid (T8.out.trans (hO.below gcb T8.out.size))
          have A9 := hid hA
          have RE := hid (reset_any g _ w9 (AC.out w9 T9.out).1)
          clear hA hO AD T7 T8
          go_wp2_with fail
          refine RE.out.mono ?_
          rintro e w10 ⟨rfl, hA, hO⟩
          have A10 := hid (A9.out.only hO gg)
          have b9 := R.out.2.trans (T9.out.mono R.out.2.size)
          have BW := hid (b9.trans (hO.below gb b9.size))
          have NA := hid hA
          clear hA hO RE A9 T9 b9 AC TR
          have CC : Hid (∀ wx : World, Below w10.heap.size w10 wx → Calls Tryz.prog 17 #[.pointer (some ⟨gc, 0, none⟩)] wx fun e w' => e = .returned (.int .i64 1099511627776) ∧ w' = wx) := fun wx hx => by
            have := count_any gc _ wx (A10.out.on hx)
            rwa [SAc.out] at this
          have CA : Hid (∀ wx : World, Below w10.heap.size w10 wx → Calls Tryz.prog 17 #[.pointer (some ⟨g, 0, none⟩)] wx fun e w' => e = .returned (.int .i64 0) ∧ w' = wx) := fun wx hx => count_any g _ wx (NA.out.on hx)
          have VA := hid (fun (wx : World) (hx : Below w10.heap.size w10 wx) => value_any g _ wx (NA.out.on hx) ((HT.out.below BW.out).below hx))
          have U1 : Hid (Below w10.heap.size w10 w10.drew) := ⟨rfl, rfl, rfl, Nat.le_refl _, fun _ _ => rfl⟩
          have FN : Hid (∀ wx w' : World, Below w10.heap.size w10 wx → Below wx.heap.size wx w' → Below w.heap.size w w') := fun wx w' a b => (BW.out.trans (a.mono BW.out.size)).trans (b.mono (Nat.le_trans BW.out.size a.size))
          go_upto_region 23 with fail
          go_region_held3 (fun _ => True) (trivial) (first
            | (go_at_call 17; with_reducible refine (CC.out _ ?_).mono ?_; (exact U1.out); rintro e wz ⟨rfl, hz⟩; replace hz := hz.symm; subst hz)
            | (go_at_call 17; with_reducible refine (CA.out _ ?_).mono ?_; (exact U1.out); rintro e wz ⟨rfl, hz⟩; replace hz := hz.symm; subst hz)
            | (go_at_call 19; refine (VA.out _ ?_).mono ?_; (exact U1.out); rintro e w11 ⟨r11, rfl, E11, hB⟩; have er := Ga.none_is E11.out; subst er; have F := hid (FN.out _ _ U1.out hB); clear hB))
          all_goals (go_wp2_with fail; go_ret; exact ⟨rfl, F.out⟩)
        · have h40' : ¬ (40 : Int) < (j : Int) := by omega
          rw [show min j 40 = j by omega] at R
          go_upto_region 14 with fail
          obtain ⟨p, P2⟩ : ∃ p : Int, Hid ((2 : Int) ^ j = p) := ⟨_, rfl⟩
          have pb : 0 < p ∧ p < 1099511627776 := by
            rw [← P2.out]
            have := Nm.two_pos j
            have := Nm.two_mono (show j + 1 ≤ 40 by omega)
            rw [Nm.two_succ, show (2 : Int) ^ 40 = 1099511627776 by decide] at this
            omega
          have SH1 : IntKind.i64.wrap (2 ^ j) = p := by rw [P2.out, IntKind.wrap_i64]; omega
          have SH2 : IntKind.i64.wrap (1 * 2 ^ j) = p := by rw [Int.one_mul]; exact SH1
          have SH3 : IntKind.i64.wrap (p + 1) = p + 1 := by rw [IntKind.wrap_i64]; omega
          have j40 : ((j : Int) == 40) = false := by rw [beq_eq_false_iff_ne]; omega
          have SCc : Hid (((Ga.none.add d).times (2 ^ j)).c = p) := by
            rw [Hid, show ((Ga.none.add d).times (2 ^ j)).c = (Ga.none.add d).c * 2 ^ j from rfl, C1.out, Int.one_mul, P2.out]
          have SAc : Hid ((((Ga.none.add d).times (2 ^ j)).add d).c = (p + 1)) := by
            rw [Hid, Ga.St.add, SCc.out]
            rw [if_pos pb.2, Ga.prod_c, SCc.out]
          have AC : Hid (∀ wx : World, Below wr.heap.size wr wx → AccAt wx g ((Ga.none.add d).times (2 ^ j)) ∧ Tab wx) := fun wx hx => ⟨R.out.1.on hx, (HT.out.below R.out.2).below hx⟩
          have CN : Hid (∀ wx : World, Below wr.heap.size wr wx → Calls Tryz.prog 17 #[.pointer (some ⟨g, 0, none⟩)] wx fun e w' => e = .returned (.int .i64 p) ∧ w' = wx) := fun wx hx => by
            have := count_any g _ wx (AC.out wx hx).1
            rwa [SCc.out] at this
          have VL := hid (fun (wx : World) (hx : Below wr.heap.size wr wx) => value_any g _ wx (AC.out wx hx).1 (AC.out wx hx).2)
          have SC := hid (fun (wx : World) (hx : Below wr.heap.size wr wx) => scale_any d (j : Int) wx (AC.out wx hx).2 d0 d1)
          have TR : Hid (∀ wx w' : World, Below wr.heap.size wr wx → Below wx.heap.size wx w' → Below wr.heap.size wr w') := fun wx w' a b => a.trans (b.mono a.size)
          have T1 : Hid (Below wr.heap.size wr wr.drew) := ⟨rfl, rfl, rfl, Nat.le_refl _, fun _ _ => rfl⟩
          go_region_held3 (fun _ => True) (trivial) (first
            | (go_at_call 17; refine (CN.out _ ?_).mono ?_; (first | exact T3.out | exact T2.out | exact T1.out); rintro e wz ⟨rfl, hz⟩; replace hz := hz.symm; subst hz)
            | (go_at_call 19; refine (VL.out _ ?_).mono ?_; (first | exact T3.out | exact T2.out | exact T1.out); rintro e w5 ⟨r5, rfl, E5, hB⟩; (first | have T3 := hid (TR.out _ _ T2.out hB) | have T2 := hid (TR.out _ _ T1.out hB)); clear hB; (try (have er := DV.out j _ _ E5.out E6.out; subst er)))
            | (go_at_call 35; refine (SC.out _ ?_).mono ?_; (first | exact T3.out | exact T2.out | exact T1.out); rintro e w6 ⟨r6, rfl, e6, hB⟩; have E6 := hid e6; (first | have T3 := hid (TR.out _ _ T2.out hB) | have T2 := hid (TR.out _ _ T1.out hB)); clear hB e6; (try (have er := DV.out j _ _ E5.out E6.out; subst er))))
          have ME := hid (amean_any g _ w6 (AC.out w6 T3.out).1 (AC.out w6 T3.out).2 (by rw [SCc.out]; omega))
          clear E5 E6 VL SC CN T1 T2 DV
          go_wp2_with fail
          refine ME.out.mono ?_
          rintro e w7 ⟨r7, rfl, E7, hB⟩
          rw [SCc.out, ← P2.out] at E7
          have er := DM.out j _ E7.out
          replace er := er.symm
          subst er
          have T7 := hid (TR.out _ _ T3.out hB)
          have CP := hid (copy_any g _ w7 (AC.out w7 T7.out).1)
          clear hB E7 ME T3 DM
          go_wp2_with fail
          refine CP.out.mono ?_
          rintro e w8 ⟨rfl, hA, hB⟩
          obtain ⟨gc, hgc⟩ : ∃ gc, w7.heap.size = gc := ⟨_, rfl⟩
          have gg : gc ≠ g := by have := (AC.out w7 T7.out).1.lt; omega
          have gcb : wr.heap.size ≤ gc := by have := T7.out.size; omega
          rw [hgc] at hA
          simp only [hgc]
          have T8 := hid (TR.out _ _ T7.out hB)
          have AD := hid (add_all gc _ w8 hA d d0 d1)
          clear hA hB hgc CP
          go_wp2_with fail
          refine AD.out.mono ?_
          rintro e w9 ⟨rfl, hA, hO⟩
          have T9 := hid (T8.out.trans (hO.below gcb T8.out.size))
          have A9 := hid hA
          have RE := hid (reset_any g _ w9 (AC.out w9 T9.out).1)
          clear hA hO AD T7 T8
          go_wp2_with fail
          refine RE.out.mono ?_
          rintro e w10 ⟨rfl, hA, hO⟩
          have A10 := hid (A9.out.only hO gg)
          have b9 := R.out.2.trans (T9.out.mono R.out.2.size)
          have BW := hid (b9.trans (hO.below gb b9.size))
          have NA := hid hA
          clear hA hO RE A9 T9 b9 AC TR
          have CC : Hid (∀ wx : World, Below w10.heap.size w10 wx → Calls Tryz.prog 17 #[.pointer (some ⟨gc, 0, none⟩)] wx fun e w' => e = .returned (.int .i64 (p + 1)) ∧ w' = wx) := fun wx hx => by
            have := count_any gc _ wx (A10.out.on hx)
            rwa [SAc.out] at this
          have CA : Hid (∀ wx : World, Below w10.heap.size w10 wx → Calls Tryz.prog 17 #[.pointer (some ⟨g, 0, none⟩)] wx fun e w' => e = .returned (.int .i64 0) ∧ w' = wx) := fun wx hx => count_any g _ wx (NA.out.on hx)
          have VA := hid (fun (wx : World) (hx : Below w10.heap.size w10 wx) => value_any g _ wx (NA.out.on hx) ((HT.out.below BW.out).below hx))
          have U1 : Hid (Below w10.heap.size w10 w10.drew) := ⟨rfl, rfl, rfl, Nat.le_refl _, fun _ _ => rfl⟩
          have FN : Hid (∀ wx w' : World, Below w10.heap.size w10 wx → Below wx.heap.size wx w' → Below w.heap.size w w') := fun wx w' a b => (BW.out.trans (a.mono BW.out.size)).trans (b.mono (Nat.le_trans BW.out.size a.size))
          go_upto_region 23 with fail
          go_region_held3 (fun _ => True) (trivial) (first
            | (go_at_call 17; with_reducible refine (CC.out _ ?_).mono ?_; (exact U1.out); rintro e wz ⟨rfl, hz⟩; replace hz := hz.symm; subst hz)
            | (go_at_call 17; with_reducible refine (CA.out _ ?_).mono ?_; (exact U1.out); rintro e wz ⟨rfl, hz⟩; replace hz := hz.symm; subst hz)
            | (go_at_call 19; refine (VA.out _ ?_).mono ?_; (exact U1.out); rintro e w11 ⟨r11, rfl, E11, hB⟩; have er := Ga.none_is E11.out; subst er; have F := hid (FN.out _ _ U1.out hB); clear hB))
          all_goals (go_wp2_with fail; go_ret; exact ⟨rfl, F.out⟩)
end Go.Proofs.YtdolgbojbmioeaaGreatDoor
