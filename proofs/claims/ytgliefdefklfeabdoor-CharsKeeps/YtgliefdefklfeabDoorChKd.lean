/-
  CharsKeeps: the book.
-/
import Derived.Test.YtgliefdefklfeabDoorChKc
namespace Go.Proofs.YtgliefdefklfeabDoor
open Go Go.RowKit Go.Deep Go.Shelf

theorem own_app {base : Nat} {w : World} {e ts : TypeId} {i : TypeInfo} {z : Value} {bytes : Nat} (ht : Tryd.prog.underlying ts = some (.slice e)) (hi : Tryd.prog.info? e = some i) (hz : i.zero = some z) (hs : i.size = 1) (hy : i.bytes = bytes) (zc : z.cells.size = 1)
    {mv : Value} {n : Nat} {xs : List Value} (ho : w.ownsRow base e 1 mv n xs) (gs c m : Nat) (news : List Value) (hl : news.length = m * 1) (src : ∀ j u, news[j]? = some u → w.cell? ((⟨gs, 0, none⟩ : Addr).add j) = some u) (one : ∀ u ∈ news, u.oneCell' = true) (m0 : 0 < m) (hm : n + m ≤ maxLen) (hb : (n + m) * bytes ≤ 140737488355328) (hbase : base ≤ w.heap.size) :
    ∃ g' c' w', (Builtin.append_ #[ts, ts] ts #[mv, .slice (some ⟨gs, 0, none⟩) m c]).run Tryd.prog w = .ok (.slice (some ⟨g', 0, none⟩) (n + m) c') w' ∧ w'.ownsRow base e 1 (.slice (some ⟨g', 0, none⟩) (n + m) c') (n + m) (xs ++ news) ∧ w.grownBy w' mv.ownBlock ∧
      (mv = .slice (some ⟨g', 0, none⟩) n c' ∨ (w.heap.size ≤ g' ∧ Below w.heap.size w w')) := by
  have fresh : ∀ {v' : Value} {w' : World}, w'.ownsRow w.heap.size e 1 v' (n + m) (xs ++ news) → w.grownBy w' none → ∃ g' c', v' = .slice (some ⟨g', 0, none⟩) (n + m) c' ∧ w.heap.size ≤ g' ∧ w'.ownsRow base e 1 v' (n + m) (xs ++ news) ∧ Below w.heap.size w w' := by
    intro v' w' o gb
    rcases o.2 with ⟨_, h0⟩ | ⟨g', c', cur, rfl, hg, rest⟩
    · omega
    · exact ⟨g', c', rfl, hg, ⟨o.1, .inr ⟨g', c', cur, rfl, Nat.le_trans hbase hg, rest⟩⟩, gb.os, gb.tape, gb.output, gb.size, fun k hk => gb.block k hk (by simp)⟩
  rcases ho.2 with ⟨rfl, rfl⟩ | ⟨g, cap, cur, rfl, hg, hgg, hnc, hcm, hcs, htk⟩
  · have x0 : xs = [] := List.eq_nil_of_length_eq_zero (by rw [ho.1])
    subst x0
    obtain ⟨v', w', hr, o, gb, _⟩ := run_append_own (P := Tryd.prog) w w.heap.size ts ts e i z 1 bytes ht hi hz hs hy zc (by omega) (.slice none 0 0) 0 [] (World.ownsRow_nil _ _ _ _) ⟨gs, 0, none⟩ m c news hl src one hm hb (Nat.le_refl _)
    obtain ⟨g', c', rfl, hg, o', bl⟩ := fresh o gb
    exact ⟨g', c', w', hr, o', gb, .inr ⟨hg, bl⟩⟩
  · by_cases room : n + m ≤ cap
    · obtain ⟨v', w', hr, o, gb, _⟩ := run_append_own (P := Tryd.prog) w base ts ts e i z 1 bytes ht hi hz hs hy zc (by omega) _ n xs ho ⟨gs, 0, none⟩ m c news hl src one hm hb hbase
      have q := run_append_room_cells (P := Tryd.prog) w ts ts e i ht hi g 0 n cap ⟨gs, 0, none⟩ m c news (by rw [hs]; exact hl) src one room
        (fun j hj => by
          rw [cell_of_row _ _ _ _ _ _ hgg, hs, Array.getElem?_eq_getElem (by omega)]
          rfl) (fun j _ => World.ownsRow.frozenAt ho _)
      rw [q] at hr
      injection hr with e1 e2
      subst e1
      subst e2
      exact ⟨g, cap, _, q, o, gb, .inl rfl⟩
    · obtain ⟨v', w', hr, o, gb⟩ := run_append_arg_grows (P := Tryd.prog) w ts ts e i z 1 bytes ht hi hz hs hy zc (by omega) ⟨g, 0, none⟩ n cap xs ho.1 (fun j u hu => World.ownsRow.cells ho (g := g) rfl j u hu) ⟨gs, 0, none⟩ m c news hl src (by omega) hm hb
      obtain ⟨g', c', rfl, hg', o', bl⟩ := fresh o gb
      exact ⟨g', c', w', hr, o', ⟨gb.os, gb.tape, gb.output, gb.size, fun k hk _ => gb.block k hk (by simp)⟩, .inr ⟨hg', bl⟩⟩

/-- A list of the book: where it lies, its room, its texts. -/
abbrev Tl := Option Addr × Nat × List ByteArray
def Tl.val (t : Tl) : Value := .slice t.1 t.2.2.length t.2.1
/-- The book's lists T, and P made for it. -/
structure Bk (B : Nat) (w0 W : World) (bv : Value) (T P : List Tl) : Prop where
  row : W.ownsRow B 24 1 bv T.length (T.map Tl.val)
  li : ∀ t ∈ T ++ P, Lo B W t.1 t.2.1 t.2.2 ∧ t.2.2.length ≤ 4294967296
  ap : (T ++ P).Pairwise (fun a b => ∀ g, a.1 = some ⟨g, 0, none⟩ → b.1 ≠ some ⟨g, 0, none⟩)
  off : ∀ t ∈ T ++ P, ∀ g, t.1 = some ⟨g, 0, none⟩ → bv.ownBlock ≠ some g
  bw : Below B w0 W
  sz : B ≤ W.heap.size
variable {B : Nat} {w0 W W' : World} {bv : Value} {T P : List Tl}
theorem Bk.on (h : Bk B w0 W bv T P) (b : Below W.heap.size W W') : Bk B w0 W' bv T P :=
  ⟨World.ownsRow.kept (row := none) h.row ⟨b.os, b.tape, b.output, b.size, fun j hj _ => b.block j hj⟩ (by cases h : Value.ownBlock bv <;> simp), fun t ht => ⟨(h.li t ht).1.below b, (h.li t ht).2⟩, h.ap, h.off, h.bw.trans (b.mono h.sz), Nat.le_trans h.sz b.size⟩
theorem Bk.lt (h : Bk B w0 W bv T P) {t : Tl} (ht : t ∈ T ++ P) {g : Nat} (e : t.1 = some ⟨g, 0, none⟩) : B ≤ g ∧ g < W.heap.size := by
  have l := (h.li t ht).1
  rw [e] at l
  exact l.lt
theorem Bk.bl (h : Bk B w0 W bv T P) {b : Nat} (e : bv.ownBlock = some b) : B ≤ b ∧ b < W.heap.size := World.ownsRow.lt h.row b e
/-- One more list made. -/
theorem Bk.add (h : Bk B w0 W bv T P) {v : Value} {xs : List ByteArray} (o : TO W.heap.size W' v xs) (b : Below W.heap.size W W') (hx : xs.length ≤ 4294967296) : ∃ q c, v = .slice q xs.length c ∧ Bk B w0 W' bv T (P ++ [(q, c, xs)]) := by
  obtain ⟨q, c, rfl, l⟩ := Lo.of o
  have h2 := h.on b
  have nw : ∀ g, q = some ⟨g, 0, none⟩ → W.heap.size ≤ g := fun g e => by
    rw [e] at l
    exact l.lt.1
  refine ⟨q, c, rfl, h2.row, fun t ht => ?_, ?_, fun t ht g e => ?_, h2.bw, h2.sz⟩
  · rw [← List.append_assoc, List.mem_append] at ht
    rcases ht with ht | ht
    · exact h2.li t ht
    · simp only [List.mem_singleton] at ht
      subst ht
      exact ⟨TO.mono l h.sz, hx⟩
  · rw [← List.append_assoc, List.pairwise_append]
    refine ⟨h2.ap, List.pairwise_singleton _ _, fun a ha b' hb g e => ?_⟩
    simp only [List.mem_singleton] at hb
    subst hb
    intro z
    have a1 := nw g z
    have a2 := (h.lt ha e).2
    omega
  · rw [← List.append_assoc, List.mem_append] at ht
    rcases ht with ht | ht
    · exact h2.off t ht g e
    · simp only [List.mem_singleton] at ht
      subst ht
      intro z
      have a1 := nw g e
      have a2 := (h.bl z).2
      omega
/-- What was made is put behind. -/
theorem Bk.app (h : Bk B w0 W bv T P) (m0 : 0 < P.length) (hm : T.length + P.length ≤ 4294967296) :
    ∃ g' c' w', (Builtin.append_ #[26, 26] 26 #[bv, .slice (some ⟨W.heap.size, 0, none⟩) P.length P.length]).run Tryd.prog (W.alloc (.cells (P.map Tl.val).toArray 24)) = .ok (.slice (some ⟨g', 0, none⟩) (T.length + P.length) c') w' ∧ Bk B w0 w' (.slice (some ⟨g', 0, none⟩) (T.length + P.length) c') (T ++ P) [] ∧ (W.alloc (.cells (P.map Tl.val).toArray 24)).grownBy w' bv.ownBlock := by
  have h := h.on (alloc_b W (.cells (P.map Tl.val).toArray 24))
  have src : ∀ j u, (P.map Tl.val)[j]? = some u → (W.alloc (.cells (P.map Tl.val).toArray 24)).cell? ((⟨W.heap.size, 0, none⟩ : Addr).add j) = some u := fun j u hu => by
    have : (W.alloc (.cells (P.map Tl.val).toArray 24)).heap[W.heap.size]? = some (.cells (P.map Tl.val).toArray 24 (0, 0)) := heap_alloc_new W _
    rw [Go.WideShapes.add_plain, cell_of_row _ _ _ _ _ _ this, Nat.zero_add, List.getElem?_toArray]
    exact hu
  generalize W.heap.size = gs at *
  generalize W.alloc (.cells (P.map Tl.val).toArray 24) = V at *
  obtain ⟨I, hI, hz⟩ := Option.map_eq_some_iff.1 info_strs
  simp only [Prod.mk.injEq] at hz
  obtain ⟨z1, z2, z3⟩ := hz
  obtain ⟨g', c', w', r, o, gb, k⟩ := own_app Tryd.underlying26 hI z1 z2 z3 rfl h.row gs P.length P.length (P.map Tl.val) (by simp) src (fun u hu => by
    simp only [List.mem_map] at hu
    obtain ⟨t, _, rfl⟩ := hu
    rfl) m0 (by simp only [maxLen]; omega) (by omega) h.sz
  refine ⟨g', c', w', r, ⟨?_, ?_, ?_, ?_, h.bw.trans (gb_below gb h.sz (fun b e => (h.bl e).1)), Nat.le_trans h.sz gb.size⟩, gb⟩
  · rw [List.length_append, List.map_append]
    exact o
  · intro t ht
    rw [List.append_nil] at ht
    exact ⟨(h.li t ht).1.kept gb (fun g e => h.off t ht g e), (h.li t ht).2⟩
  · rw [List.append_nil]
    exact h.ap
  · intro t ht g e z
    rw [List.append_nil] at ht
    simp only [Value.ownBlock, Option.some.injEq] at z
    subst z
    rcases k with z | ⟨z, _⟩
    · exact h.off t ht g' e (by rw [z]; rfl)
    · have := (h.lt ht e).2
      omega
/-- What apart is handed. -/
theorem Bk.k1 {b n c : Nat} (h : Bk B w0 W (.slice (some ⟨b, 0, none⟩) n c) T []) (hn : n = T.length) : ∃ q ln cp, K1 B w0 n b q ln cp (fun _ => 0) W ∧ Kx B n b q W.heap.size ∧ ∀ i, i < n → ln i ≤ 4294967296 := by
  subst hn
  have mem : ∀ i, i < T.length → T.getD i (none, 0, []) ∈ T ++ [] := fun i hi => by
    rw [List.append_nil, List.getD_eq_getElem?_getD, List.getElem?_eq_getElem hi]
    exact List.getElem_mem hi
  refine ⟨fun i => (T.getD i (none, 0, [])).1, fun i => (T.getD i (none, 0, [])).2.2.length, fun i => (T.getD i (none, 0, [])).2.1, ⟨fun i hi => ?_, fun i hi => ⟨_, (h.li _ (mem i hi)).1, rfl, fun k hk => absurd hk (Nat.not_lt_zero _)⟩, h.bw, h.sz⟩, ⟨fun i j g hi hj ei ej => ?_, fun i hi e => h.off _ (mem i hi) b e rfl, fun i hi g e => h.lt (mem i hi) e, (h.bl rfl).2⟩, fun i hi => (h.li _ (mem i hi)).2⟩
  · rw [World.ownsRow.cellAt h.row i (by omega), List.getElem?_map, List.getElem?_eq_getElem hi, List.getD_eq_getElem?_getD, List.getElem?_eq_getElem hi]
    rfl
  · have ap := h.ap
    rw [List.append_nil, List.pairwise_iff_getElem] at ap
    simp only [List.getD_eq_getElem?_getD, List.getElem?_eq_getElem hi, List.getElem?_eq_getElem hj, Option.getD_some] at ei ej
    rcases Nat.lt_trichotomy i j with c | c | c
    · exact absurd ej (ap i j hi hj c g ei)
    · exact c
    · exact absurd ei (ap j i hj hi c g ej)
end Go.Proofs.YtgliefdefklfeabDoor
