/-
  CharsKeeps: lists of texts of their own, and apart's states.
-/
import Derived.Test.YtgliefdefklfeabDoorChKa
import Derived.Test.YtgliefdefklfeabDoorChKm
namespace Go.Proofs.YtgliefdefklfeabDoor
open Go Go.RowKit Go.Deep Go.Shelf

/-- A list of texts in a block of its own, or nil. -/
def Lo (B : Nat) (w : World) (q : Option Addr) (c : Nat) (xs : List ByteArray) : Prop := TO B w (.slice q xs.length c) xs
theorem Lo.of {B : Nat} {w : World} {v : Value} {xs : List ByteArray} (h : TO B w v xs) : ∃ q c, v = .slice q xs.length c ∧ Lo B w q c xs := by
  obtain ⟨a, cap, rfl, _, _⟩ := h.read
  exact ⟨a, cap, rfl, h⟩
variable {B : Nat} {w w' : World} {q : Option Addr} {c : Nat} {xs : List ByteArray}
theorem Lo.below (h : Lo B w q c xs) (hb : Below w.heap.size w w') : Lo B w' q c xs := TO.below h hb
theorem Lo.plain (h : Lo B w q c xs) : (q = none ∧ xs = []) ∨ ∃ g, q = some ⟨g, 0, none⟩ ∧ B ≤ g ∧ g < w.heap.size := by
  rcases h.2 with ⟨e, h0⟩ | ⟨g, cap, cur, e, hb, hg, _⟩
  · simp only [Value.slice.injEq] at e
    exact .inl ⟨e.1, List.eq_nil_of_length_eq_zero h0⟩
  · simp only [Value.slice.injEq] at e
    refine .inr ⟨g, e.1, hb, ?_⟩
    rcases Nat.lt_or_ge g w.heap.size with c | c
    · exact c
    · simp [Array.getElem?_eq_none c] at hg
theorem Lo.blk (h : Lo B w q c xs) (h0 : 0 < xs.length) : ∃ g, q = some ⟨g, 0, none⟩ := by
  rcases h.plain with ⟨_, rfl⟩ | ⟨g, e, _⟩
  · cases h0
  · exact ⟨g, e⟩
theorem Lo.lt {g : Nat} (h : Lo B w (some ⟨g, 0, none⟩) c xs) : B ≤ g ∧ g < w.heap.size := World.ownsRow.lt h g rfl
theorem Lo.kept {row : Option Nat} (h : Lo B w q c xs) (gb : w.grownBy w' row) (ne : ∀ g, q = some ⟨g, 0, none⟩ → row ≠ some g) : Lo B w' q c xs := by
  refine World.ownsRow.kept h gb ?_
  rcases h.plain with ⟨rfl, _⟩ | ⟨g, rfl, _⟩
  · exact .inl rfl
  · exact .inr (fun e => ne g rfl e.symm)
theorem Lo.cell {g k : Nat} {x : ByteArray} (h : Lo B w (some ⟨g, 0, none⟩) c xs) (hk : xs[k]? = some x) : w.cell? ⟨g, k, none⟩ = some (.string x) := by
  have kl : k < xs.length := (List.getElem?_eq_some_iff.1 hk).1
  rw [World.ownsRow.cellAt h k (by omega), List.getElem?_map, hk]
  rfl
theorem Lo.set {g : Nat} (h : Lo B w (some ⟨g, 0, none⟩) c xs) (k : Nat) (x : ByteArray) :
    w.frozen? ⟨g, k, none⟩ = false ∧ Lo B (w.setCell ⟨g, k, none⟩ (.string x)) (some ⟨g, 0, none⟩) c (xs.set k x) ∧ w.grownBy (w.setCell ⟨g, k, none⟩ (.string x)) (some g) := by
  obtain ⟨p, gb⟩ := World.ownsRow.stored h k (.string x)
  refine ⟨World.ownsRow.frozenAt h k, ?_, gb⟩
  rw [Lo, TO, List.length_set, List.map_set]
  exact p
theorem Lo.pre {ys : List ByteArray} (h : Lo B w q c (xs ++ ys)) : Lo B w q c xs := by
  refine ⟨by simp, ?_⟩
  rcases h.2 with ⟨e, h0⟩ | ⟨g, cap, cur, e, hb, hg, hn, hm, hs, ht⟩
  · simp only [Value.slice.injEq] at e
    rw [List.length_append] at h0
    exact .inl ⟨by rw [e.1, e.2.2, show xs.length = 0 by omega], by omega⟩
  · simp only [Value.slice.injEq] at e
    rw [List.length_append] at hn
    refine .inr ⟨g, cap, cur, by rw [e.1, e.2.2], hb, hg, by omega, hm, hs, ?_⟩
    have := congrArg (List.take (xs.length * 1)) ht
    rw [List.take_take, List.length_append, Nat.min_eq_left (by omega), List.map_append] at this
    rw [this]
    exact List.take_left' (by simp)
theorem Lo.push (h : Lo B w q c xs) (gs m : Nat) (x : ByteArray) (hx : w.cell? ⟨gs, 0, none⟩ = some (.string x)) (hn : xs.length < 8796093022000) (hb : B ≤ w.heap.size) :
    ∃ g' c' w', (Builtin.append_ #[24, 24] 24 #[.slice q xs.length c, .slice (some ⟨gs, 0, none⟩) 1 m]).run Tryd.prog w = .ok (.slice (some ⟨g', 0, none⟩) (xs.length + 1) c') w' ∧ Lo B w' (some ⟨g', 0, none⟩) c' (xs ++ [x]) ∧ w.grownBy w' (Value.ownBlock (.slice q xs.length c)) ∧
      ((q = some ⟨g', 0, none⟩ ∧ c' = c) ∨ (w.heap.size ≤ g' ∧ Below w.heap.size w w')) := by
  obtain ⟨i, hi, hz⟩ := Option.map_eq_some_iff.1 info_str
  simp only [Prod.mk.injEq] at hz
  obtain ⟨z1, z2, z3⟩ := hz
  obtain ⟨g', c', w', r, o, gb, k⟩ := own_push Tryd.underlying24 hi z1 z2 z3 rfl h gs m (.string x) hx rfl (by simp only [maxLen]; omega) (by omega) hb
  refine ⟨g', c', w', r, ?_, gb, ?_⟩
  · rw [Lo, TO, List.map_append, List.length_append]
    exact o
  · rcases k with e | e
    · simp only [Value.slice.injEq] at e
      exact .inl ⟨e.1, e.2.2.symm⟩
    · exact .inr e
theorem gb_cell {row : Option Nat} (gb : w.grownBy w' row) {b k : Nat} {v : Value} (h : w.cell? ⟨b, k, none⟩ = some v) (ne : row ≠ some b) : w'.cell? ⟨b, k, none⟩ = some v := by
  rw [← h]
  exact World.cell?_of_block (w := w) (gb.block b (cell_lt h) (fun e => ne e.symm))
theorem gb_below {row : Option Nat} (gb : w.grownBy w' row) (hB : B ≤ w.heap.size) (h : ∀ b, row = some b → B ≤ b) : Below B w w' :=
  ⟨gb.os, gb.tape, gb.output, gb.size, fun k hk => gb.block k (by omega) (fun e => by have := h k e.symm; omega)⟩

/-- All of it marked. -/
def Mk (i m : Nat) (xs : List ByteArray) : Prop := xs.length = m ∧ ∀ k, k < m → xs[k]? = some (Ch.mk i k)
/-- The book's lists, the first f i of each marked. -/
structure K1 (B : Nat) (w0 : World) (n bb : Nat) (q : Nat → Option Addr) (ln cp f : Nat → Nat) (W : World) : Prop where
  row : ∀ i, i < n → W.cell? ⟨bb, i, none⟩ = some (.slice (q i) (ln i) (cp i))
  li : ∀ i, i < n → ∃ D, Lo B W (q i) (cp i) D ∧ D.length = ln i ∧ ∀ k, k < f i → D[k]? = some (Ch.mk i k)
  bw : Below B w0 W
  sz : B ≤ W.heap.size
structure Kx (B : Nat) (n bb : Nat) (q : Nat → Option Addr) (R : Nat) : Prop where
  ap : ∀ i j g, i < n → j < n → q i = some ⟨g, 0, none⟩ → q j = some ⟨g, 0, none⟩ → i = j
  off : ∀ i, i < n → q i ≠ some ⟨bb, 0, none⟩
  lo : ∀ i, i < n → ∀ g, q i = some ⟨g, 0, none⟩ → B ≤ g ∧ g < R
  kb : bb < R
variable {w0 : World} {n bb : Nat} {qs : Nat → Option Addr} {ln cp f : Nat → Nat} {W W' : World} {R0 R i : Nat} {gv : Value}
theorem K1.on (h : K1 B w0 n bb qs ln cp f W) (b : Below W.heap.size W W') : K1 B w0 n bb qs ln cp f W' := by
  refine ⟨fun i hi => ?_, fun i hi => ?_, h.bw.trans (b.mono h.sz), Nat.le_trans h.sz b.size⟩
  · rw [b.cell (cell_lt (h.row i hi))]; exact h.row i hi
  · obtain ⟨D, l, r⟩ := h.li i hi
    exact ⟨D, l.below b, r⟩
/-- One more mark. -/
theorem K1.mark {k : Nat} (h : K1 B w0 n bb qs ln cp f W) (x : Kx B n bb qs R0) (hi : i < n) (hk : k < ln i) (fk : f i = k) :
    ∃ g v, qs i = some ⟨g, 0, none⟩ ∧ W.cell? ⟨g, k, none⟩ = some (.string v) ∧ W.frozen? ⟨g, k, none⟩ = false ∧ K1 B w0 n bb qs ln cp (fun j => if j = i then k + 1 else f j) (W.setCell ⟨g, k, none⟩ (.string (Ch.mk i k))) := by
  obtain ⟨D, l, dl, dm⟩ := h.li i hi
  obtain ⟨g, qe⟩ := l.blk (by omega)
  have l' := l
  rw [qe] at l'
  have kd : k < D.length := by omega
  obtain ⟨fz, ls, gb⟩ := l'.set k (Ch.mk i k)
  refine ⟨g, _, qe, l'.cell (List.getElem?_eq_getElem kd), fz, fun j hj => gb_cell gb (h.row j hj) (fun e => x.off i hi (by rw [qe, Option.some.inj e])), fun j hj => ?_, h.bw.trans (gb_below gb h.sz (fun b e => by cases e; exact (x.lo i hi g qe).1)), Nat.le_trans h.sz gb.size⟩
  by_cases e : j = i
  · subst e
    refine ⟨_, by rw [qe]; exact ls, by rw [List.length_set]; exact dl, fun t ht => ?_⟩
    rw [if_pos rfl] at ht
    by_cases e : k = t
    · subst e
      rw [List.getElem?_set_self kd]
    · rw [List.getElem?_set_ne e]
      exact dm t (by omega)
  · obtain ⟨D', l2, dl', dm'⟩ := h.li j hj
    refine ⟨D', l2.kept gb (fun g' e' z => e (x.ap j i g' hj hi e' (by rw [qe, Option.some.inj z]))), dl', fun t ht => dm' t ?_⟩
    rwa [if_neg e] at ht
/-- The first i of the lists have been grown; what was made for it lies below R. -/
structure K2 (B : Nat) (w0 : World) (n bb : Nat) (q : Nat → Option Addr) (ln cp : Nat → Nat) (R0 R i : Nat) (gv : Value) (W : World) : Prop where
  k1 : K1 B w0 n bb q ln cp ln W
  fv : ∃ F : List Value, W.ownsRow R0 24 1 gv i F ∧ ∀ j, j < i → ∃ g c E, F[j]? = some (.slice (some ⟨g, 0, none⟩) (ln j + 16) c) ∧ Lo B W (some ⟨g, 0, none⟩) c E ∧ Mk j (ln j + 16) E ∧ (q j = some ⟨g, 0, none⟩ ∨ (R0 ≤ g ∧ g < R)) ∧ gv.ownBlock ≠ some g
  gr : ∀ b, gv.ownBlock = some b → b < R
  br : R0 ≤ R
  rs : R ≤ W.heap.size
theorem K2.on (h : K2 B w0 n bb qs ln cp R0 R i gv W) (b : Below W.heap.size W W') : K2 B w0 n bb qs ln cp R0 R i gv W' := by
  obtain ⟨F, x, r⟩ := h.fv
  refine ⟨h.k1.on b, ⟨F, World.ownsRow.kept (row := none) x ⟨b.os, b.tape, b.output, b.size, fun j hj _ => b.block j hj⟩ (by cases h : Value.ownBlock gv <;> simp), fun j hj => ?_⟩, h.gr, h.br, Nat.le_trans h.rs b.size⟩
  obtain ⟨g, c, E, r1, r2, r3⟩ := r j hj
  exact ⟨g, c, E, r1, r2.below b, r3⟩
theorem K2.kp {row : Option Nat} (h : K2 B w0 n bb qs ln cp R0 R i gv W) (x : Kx B n bb qs R0) (gb : W.grownBy W' row) (hi : i < n) (hR : ∀ b, row = some b → qs i = some ⟨b, 0, none⟩ ∨ R ≤ b) (hB : B ≤ R0)
    (di : ∃ D, Lo B W' (qs i) (cp i) D ∧ D.length = ln i ∧ ∀ k, k < ln i → D[k]? = some (Ch.mk i k)) : K2 B w0 n bb qs ln cp R0 R i gv W' := by
  have br := h.br
  have rs := h.rs
  have far : ∀ b, b < R → qs i ≠ some ⟨b, 0, none⟩ → row ≠ some b := fun b hb hq e => by
    rcases hR b e with z | z
    · exact hq z
    · omega
  obtain ⟨F, o, r⟩ := h.fv
  refine ⟨⟨fun j hj => gb_cell gb (h.k1.row j hj) (far _ (by have := x.kb; omega) (x.off i hi)), fun j hj => ?_, h.k1.bw.trans (gb_below gb h.k1.sz (fun b e => (hR b e).elim (fun z => (x.lo i hi b z).1) (fun z => by omega))), Nat.le_trans h.k1.sz gb.size⟩, ⟨F, World.ownsRow.kept o gb ?_, fun j hj => ?_⟩, h.gr, br, Nat.le_trans rs gb.size⟩
  · by_cases e : j = i
    · subst e
      exact di
    · obtain ⟨D, l, r⟩ := h.k1.li j hj
      exact ⟨D, l.kept gb (fun g hg => far g (by have := (x.lo j hj g hg).2; omega) (fun z => e (x.ap j i g hj hi hg z))), r⟩
  · rcases e : gv.ownBlock with _ | b
    · exact .inl rfl
    · refine .inr (fun z => far b (h.gr b e) (fun z2 => ?_) z.symm)
      have a1 := (World.ownsRow.lt o b e).1
      have a2 := (x.lo i hi b z2).2
      omega
  · obtain ⟨g, c, E, r1, r2, r3, r4, r5⟩ := r j hj
    refine ⟨g, c, E, r1, r2.kept gb ?_, r3, r4, r5⟩
    intro g' e'
    cases e'
    rcases r4 with e | ⟨e1, e2⟩
    · exact far g (by have := (x.lo j (by omega) g e).2; omega) (fun z => by have := x.ap j i g (by omega) hi e z; omega)
    · exact far g e2 (fun z => by have := (x.lo i hi g z).2; omega)
/-- The list i as it grows, t behind it. -/
structure K3 (B : Nat) (w0 : World) (n bb : Nat) (q : Nat → Option Addr) (ln cp : Nat → Nat) (R0 R i : Nat) (gv : Value) (gq : Option Addr) (gc t : Nat) (W : World) : Prop where
  k2 : K2 B w0 n bb q ln cp R0 R i gv W
  gg : ∃ D, Lo B W gq gc D ∧ Mk i (ln i + t) D
  own : (gq = q i ∧ gc = cp i) ∨ ∃ g, gq = some ⟨g, 0, none⟩ ∧ R ≤ g
theorem K3.on {gq : Option Addr} {gc t : Nat} (h : K3 B w0 n bb qs ln cp R0 R i gv gq gc t W) (b : Below W.heap.size W W') : K3 B w0 n bb qs ln cp R0 R i gv gq gc t W' := by
  obtain ⟨D, l, m⟩ := h.gg
  exact ⟨h.k2.on b, ⟨D, l.below b, m⟩, h.own⟩
theorem K3.start (h : K2 B w0 n bb qs ln cp R0 R i gv W) (hi : i < n) : K3 B w0 n bb qs ln cp R0 R i gv (qs i) (cp i) 0 W := by
  obtain ⟨D, l, a1, a2⟩ := h.k1.li i hi
  exact ⟨h, ⟨D, l, a1, a2⟩, .inl ⟨rfl, rfl⟩⟩
theorem K3.app {gq : Option Addr} {gc t : Nat} (h : K3 B w0 n bb qs ln cp R0 R i gv gq gc t W) (x : Kx B n bb qs R0) (hi : i < n) (hB : B ≤ R0) (hl : ln i + t < 8796093022000) :
    ∃ g' c' w', (Builtin.append_ #[24, 24] 24 #[.slice gq (ln i + t) gc, .slice (some ⟨W.heap.size, 0, none⟩) 1 1]).run Tryd.prog (W.alloc (.cells #[.string (Ch.mk i (ln i + t))] 9)) = .ok (.slice (some ⟨g', 0, none⟩) (ln i + t + 1) c') w' ∧ K3 B w0 n bb qs ln cp R0 R i gv (some ⟨g', 0, none⟩) c' (t + 1) w' := by
  have h := h.on (alloc_b W (.cells #[.string (Ch.mk i (ln i + t))] 9))
  have hcell : (W.alloc (.cells #[.string (Ch.mk i (ln i + t))] 9)).cell? ⟨W.heap.size, 0, none⟩ = some (.string (Ch.mk i (ln i + t))) := by
    have : (W.alloc (.cells #[.string (Ch.mk i (ln i + t))] 9)).heap[W.heap.size]? = some (.cells #[.string (Ch.mk i (ln i + t))] 9 (0, 0)) := heap_alloc_new W _
    rw [cell_of_row _ _ _ _ _ _ this]
    rfl
  generalize W.heap.size = gs at *
  generalize W.alloc (.cells #[.string (Ch.mk i (ln i + t))] 9) = V at *
  obtain ⟨D, l, dl, dm⟩ := h.gg
  obtain ⟨g', c', w', r, lp, gb, o⟩ := l.push gs 1 _ hcell (by omega) h.k2.k1.sz
  rw [dl] at r gb
  have rs := h.k2.rs
  have br := h.k2.br
  have mk' : Mk i (ln i + t + 1) (D ++ [Ch.mk i (ln i + t)]) := by
    refine ⟨by simp [dl], fun k hk => ?_⟩
    by_cases e : k < ln i + t
    · rw [List.getElem?_append_left (by omega)]
      exact dm k e
    · have : k = ln i + t := by omega
      subst this
      rw [List.getElem?_append_right (by omega), dl]
      simp
  have di : ∃ D, Lo B w' (qs i) (cp i) D ∧ D.length = ln i ∧ ∀ k, k < ln i → D[k]? = some (Ch.mk i k) := by
    rcases h.own with ⟨e1, e2⟩ | ⟨g, e, hg⟩
    · rcases o with ⟨z1, z2⟩ | ⟨_, bl⟩
      · rw [← List.take_append_drop (ln i) (D ++ [Ch.mk i (ln i + t)])] at lp
        have p := lp.pre
        rw [← z1, z2, e1, e2] at p
        refine ⟨_, p, by rw [List.length_take, mk'.1]; omega, fun k hk => ?_⟩
        rw [List.getElem?_take, if_pos hk]
        exact mk'.2 k (by omega)
      · obtain ⟨D0, l0, d1, d2⟩ := h.k2.k1.li i hi
        exact ⟨D0, l0.below bl, d1, d2⟩
    · obtain ⟨D0, l0, d1, d2⟩ := h.k2.k1.li i hi
      refine ⟨D0, l0.kept gb (fun g2 e2 z => ?_), d1, d2⟩
      have := (x.lo i hi g2 e2).2
      rw [e] at z
      simp only [Value.ownBlock, Option.some.injEq] at z
      omega
  refine ⟨g', c', w', r, h.k2.kp x gb hi (fun b hb => ?_) hB di, ⟨_, lp, mk'⟩, ?_⟩
  · rcases h.own with ⟨e1, e2⟩ | ⟨g, e, hg⟩
    · rcases l.plain with ⟨e, _⟩ | ⟨g, e, _⟩
      · rw [e] at hb
        cases hb
      · rw [e] at hb
        cases hb
        exact .inl (by rw [← e1, e])
    · rw [e] at hb
      cases hb
      exact .inr hg
  · rcases o with ⟨e, ec⟩ | ⟨e, _⟩
    · rcases h.own with ⟨e1, e2⟩ | ⟨g, e1, hg⟩
      · exact .inl ⟨by rw [← e, e1], by rw [ec, e2]⟩
      · refine .inr ⟨g', rfl, ?_⟩
        rw [e1] at e
        cases e
        exact hg
    · exact .inr ⟨g', rfl, by omega⟩
theorem info_strs : (Tryd.prog.info? 24).map (fun i => (i.zero, i.size, i.bytes)) = some (some (.slice none 0 0), 1, 24) := by kernel_rfl
theorem K3.done {gq : Option Addr} {gc : Nat} (h : K3 B w0 n bb qs ln cp R0 R i gv gq gc 16 W) (x : Kx B n bb qs R0) (hi : i < n) (hB : B ≤ R0) (hn : n < 4294967296) (g0 : ∃ g, gq = some ⟨g, 0, none⟩) :
    ∃ g' c' w', (Builtin.append_ #[26, 26] 26 #[gv, .slice (some ⟨W.heap.size, 0, none⟩) 1 1]).run Tryd.prog (W.alloc (.cells #[.slice gq (ln i + 16) gc] 24)) = .ok (.slice (some ⟨g', 0, none⟩) (i + 1) c') w' ∧ K2 B w0 n bb qs ln cp R0 w'.heap.size (i + 1) (.slice (some ⟨g', 0, none⟩) (i + 1) c') w' := by
  obtain ⟨gl, rfl⟩ := g0
  have h := h.on (alloc_b W (.cells #[.slice (some ⟨gl, 0, none⟩) (ln i + 16) gc] 24))
  have hcell : (W.alloc (.cells #[.slice (some ⟨gl, 0, none⟩) (ln i + 16) gc] 24)).cell? ⟨W.heap.size, 0, none⟩ = some (.slice (some ⟨gl, 0, none⟩) (ln i + 16) gc) := by
    have : (W.alloc (.cells #[.slice (some ⟨gl, 0, none⟩) (ln i + 16) gc] 24)).heap[W.heap.size]? = some (.cells #[.slice (some ⟨gl, 0, none⟩) (ln i + 16) gc] 24 (0, 0)) := heap_alloc_new W _
    rw [cell_of_row _ _ _ _ _ _ this]
    rfl
  generalize W.heap.size = gs at *
  generalize W.alloc (.cells #[.slice (some ⟨gl, 0, none⟩) (ln i + 16) gc] 24) = V at *
  obtain ⟨I, hI, hz⟩ := Option.map_eq_some_iff.1 info_strs
  simp only [Prod.mk.injEq] at hz
  obtain ⟨z1, z2, z3⟩ := hz
  obtain ⟨F, o, r⟩ := h.k2.fv
  obtain ⟨D, l, dm⟩ := h.gg
  have rs := h.k2.rs
  have br := h.k2.br
  obtain ⟨g', c', w', rr, o', gb, k⟩ := own_push Tryd.underlying26 hI z1 z2 z3 rfl o gs 1 (.slice (some ⟨gl, 0, none⟩) (ln i + 16) gc) hcell rfl (by simp only [maxLen]; omega) (by omega) (by omega)
  have fl : F.length = i := by have := o.1; omega
  have far : ∀ g, g < R0 → gv.ownBlock ≠ some g := fun g hg e => by
    have := (World.ownsRow.lt o g e).1
    omega
  have ngl : gv.ownBlock ≠ some gl := by
    rcases h.own with ⟨e, _⟩ | ⟨g, e, hg⟩
    · exact far gl (x.lo i hi gl e.symm).2
    · cases e
      intro z
      have := h.k2.gr gl z
      omega
  have new : ∀ g, g < V.heap.size → gv.ownBlock ≠ some g → (Value.slice (some ⟨g', 0, none⟩) (i + 1) c').ownBlock ≠ some g := fun g hg ne e => by
    simp only [Value.ownBlock, Option.some.injEq] at e
    subst e
    rcases k with z | ⟨z, _⟩
    · exact ne (by rw [z]; rfl)
    · omega
  have gsz := gb.size
  refine ⟨g', c', w', rr, ⟨fun j hj => gb_cell gb (h.k2.k1.row j hj) (far _ x.kb), fun j hj => ?_, h.k2.k1.bw.trans (gb_below gb h.k2.k1.sz (fun b e => by have := (World.ownsRow.lt o b e).1; omega)), Nat.le_trans h.k2.k1.sz gb.size⟩, ⟨F ++ [.slice (some ⟨gl, 0, none⟩) (ln i + 16) gc], o', fun j hj => ?_⟩, fun b e => (World.ownsRow.lt o' b e).2, by omega, Nat.le_refl _⟩
  · obtain ⟨D, l, r⟩ := h.k2.k1.li j hj
    exact ⟨D, l.kept gb (fun g hg => far g (x.lo j hj g hg).2), r⟩
  · by_cases e : j < i
    · obtain ⟨g, c, E, r1, r2, r3, r4, r5⟩ := r j e
      refine ⟨g, c, E, by rw [List.getElem?_append_left (by omega)]; exact r1, r2.kept gb (fun g2 e2 => by cases e2; exact r5), r3, r4.imp id (fun z => ⟨z.1, by omega⟩), new g r2.lt.2 r5⟩
    · have : j = i := by omega
      subst this
      refine ⟨gl, gc, D, by rw [List.getElem?_append_right (by omega), fl]; simp, l.kept gb (fun g2 e2 => by cases e2; exact ngl), dm, ?_, new gl l.lt.2 ngl⟩
      rcases h.own with ⟨e, _⟩ | ⟨g, e, hg⟩
      · exact .inl e.symm
      · cases e
        exact .inr ⟨by omega, by have := l.lt.2; omega⟩
/-- What is read at the end. -/
theorem K2.book {k : Nat} (h : K2 B w0 n bb qs ln cp R0 R n gv W) (hi : i < n) (hk : k < ln i) : ∃ g, qs i = some ⟨g, 0, none⟩ ∧ W.cell? ⟨g, k, none⟩ = some (.string (Ch.mk i k)) := by
  obtain ⟨D, l, dl, dm⟩ := h.k1.li i hi
  obtain ⟨g, qe⟩ := l.blk (by omega)
  rw [qe] at l
  exact ⟨g, qe, l.cell (dm k hk)⟩
theorem K2.grown {b c : Nat} (h : K2 B w0 n bb qs ln cp R0 R n (.slice (some ⟨b, 0, none⟩) n c) W) (hi : i < n) : ∃ g c2, W.cell? ⟨b, i, none⟩ = some (.slice (some ⟨g, 0, none⟩) (ln i + 16) c2) ∧ ∀ k, k < ln i + 16 → W.cell? ⟨g, k, none⟩ = some (.string (Ch.mk i k)) := by
  obtain ⟨F, o, r⟩ := h.fv
  obtain ⟨g, c2, E, r1, r2, r3, _⟩ := r i hi
  exact ⟨g, c2, by rw [World.ownsRow.cellAt o i (by omega)]; exact r1, fun k hk => r2.cell (r3.2 k hk)⟩
end Go.Proofs.YtgliefdefklfeabDoor
